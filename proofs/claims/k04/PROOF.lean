import PyProof.Rows.All
import Wide.All
import OpenK.AllK
import Wide.FinOn
import Lean
import PyProof.EqAt
import PyProof.EqKinds
import PyProof.TupleCall
import PySem.Challenge.RW_spaceturns_k04_words_that_write_no_four
set_option Elab.async false
set_option linter.all false
set_option maxRecDepth 100000
namespace L2
open PySem PySem.Spec PyProof.Rows
abbrev cH:=Sum Int Str
def xK:cH->Value->Bool
 | .inl k,v=>Value.isInt k v
 | .inr x,v=>Value.isStrOf x v
def HP (w:World):cH->Int
 | .inl k=>hashInt k
 | .inr x=>hashStr w x
theorem bY:∀{k:cH} {v:Value},xK k v=true->(∃i t,k=Sum.inl i/\v=Value.int i t)\/(∃x t,k=Sum.inr x/\v=Value.str x t)
 | .inl i,v,h=>by
  obtain ⟨t,e⟩:=Value.isInt_shape (k:=i) (v:=v) h
  exact .inl ⟨i,t,rfl,e⟩
 | .inr x,v,h=>by
  obtain ⟨t,e⟩:=Value.isStrOf_shape (x:=x) (v:=v) h
  exact .inr ⟨x,t,rfl,e⟩
theorem Ca (a b:Int):decide ((Sum.inl a:cH)=Sum.inl b)=(a==b):=by
 by_cases e:a=b
 ·subst e;simp
 ·have h:¬ (Sum.inl a:cH)=Sum.inl b:=fun q=>e (Sum.inl.inj q)
  rw [decide_eq_false h]
  exact (beq_eq_false_iff_ne.mpr e).symm
theorem B7 (a b:Str):decide ((Sum.inr a:cH)=Sum.inr b)=decide (a=b):=by
 by_cases e:a=b
 ·subst e;simp
 ·have h:¬ (Sum.inr a:cH)=Sum.inr b:=fun q=>e (Sum.inr.inj q)
  rw [decide_eq_false h,decide_eq_false e]
theorem B9 (a:Int) (b:Str):decide ((Sum.inl a:cH)=Sum.inr b)=false:=decide_eq_false (fun q=>nomatch q)
theorem B8 (a:Str) (b:Int):decide ((Sum.inr a:cH)=Sum.inl b)=false:=decide_eq_false (fun q=>nomatch q)
def qk (prog:Program) (w:World):PySem.KeyKind prog w cH where
 is:=xK
 hash:=HP w
 inj:=fun v a b ha hb=>by
  rcases bY ha with ⟨i,t,rfl,rfl⟩ | ⟨x,t,rfl,rfl⟩
  ·rcases bY hb with ⟨j,u,rfl,e⟩ | ⟨y,u,rfl,e⟩
   ·injection e with e1 _;rw [e1]
   ·exact nomatch e
  ·rcases bY hb with ⟨j,u,rfl,e⟩ | ⟨y,u,rfl,e⟩
   ·exact nomatch e
   ·injection e with e1 _;rw [e1]
 byValue:=fun k v h=>by
  rcases bY h with ⟨i,t,rfl,rfl⟩ | ⟨x,t,rfl,rfl⟩ <;> rfl
 pyHash:=fun hv h=>by
  rcases bY hv with ⟨i,t,rfl,rfl⟩ | ⟨x,t,rfl,rfl⟩
  ·exact wpAny_pyHash_int h
  ·exact wpAny_pyHash_str h
 eqBool:=fun hu hv h=>by
  rcases bY hu with ⟨i,t,rfl,rfl⟩ | ⟨x,t,rfl,rfl⟩
  ·rcases bY hv with ⟨j,u,rfl,rfl⟩ | ⟨y,u,rfl,rfl⟩
   ·rw [Ca] at h;exact wpAny_eqBool_int h
   ·rw [B9] at h;exact SeqAt.EqAt.int_str i t y u _ _ _ _ h
  ·rcases bY hv with ⟨j,u,rfl,rfl⟩ | ⟨y,u,rfl,rfl⟩
   ·rw [B8] at h;exact SeqAt.EqAt.str_int x t j u _ _ _ _ h
   ·rw [B7] at h;exact wpAny_eqBool_str h
 «strs» := fun k x t v h=>by
  rcases bY h with ⟨i,u,rfl,e⟩ | ⟨y,u,rfl,e⟩
  ·exact nomatch e
  ·injection e with e1 _
   subst e1
   cases v <;> rfl
end L2
namespace L2
open PySem PySem.Spec PyProof.Rows
inductive V where
 | non|bl (b:Bool) | int (i:Int) | str (x:Str) | byt (b:Array UInt8) | flt (b:UInt64) | ref (a:Addr) | ty (n:String)
 deriving DecidableEq
def aM:V->Value->Prop
 | .non,u=>u=Value.none
 | .bl b,u=>u=Value.bool b
 | .int i,u => ∃t,u=Value.int i t
 | .str x,u => ∃t,u=Value.str x t
 | .byt b,u => ∃t,u=Value.bytes b t
 | .flt b,u => ∃t,u=Value.float b t
 | .ref a,u=>u=Value.ref a
 | .ty n,u=>u=Value.type n
abbrev aH:List V->List Value->Prop:=Paired aM
theorem aH.length {xs:List V} {us:List Value} (r:aH xs us):xs.length=us.length:=Paired.length r
theorem aH.get:∀{xs:List V} {us:List Value} {i:Nat} {x:V},aH xs us->xs[i]?=some x->∃u,us[i]?=some u/\aM x u
 | _,_,_,_,.nil,e=>by simp at e
 | _,_,0,_,.cons r _,e=>by simp at e;subst e;exact ⟨_,rfl,r⟩
 | _,_,i+1,x,.cons _ t,e=>by
  obtain ⟨u,h1,h2⟩:=aH.get (i:=i) (x:=x) t (by simpa using e)
  exact ⟨u,by simpa using h1,h2⟩
theorem aH.set {x:V} {u:Value} (r:aM x u):∀{xs:List V} {us:List Value} (i:Nat),aH xs us->aH (xs.set i x) (us.set i u)
 | _,_,_,.nil=>.nil
 | _,_,0,.cons _ t=>.cons r t
 | _,_,i+1,.cons q t=>.cons q (aH.set r i t)
theorem aH.append:∀{xs ys:List V} {us ws:List Value},aH xs us->aH ys ws->aH (xs++ys) (us++ws)
 | _,_,_,_,.nil,s=>s
 | _,_,_,_,.cons r t,s=>.cons r (aH.append t s)
theorem aH.take:∀{xs:List V} {us:List Value} (n:Nat),aH xs us->aH (xs.take n) (us.take n)
 | _,_,0,_=>.nil
 | _,_,_+1,.nil=>.nil
 | _,_,n+1,.cons r t=>.cons r (aH.take n t)
theorem aH.drop:∀{xs:List V} {us:List Value} (n:Nat),aH xs us->aH (xs.drop n) (us.drop n)
 | _,_,0,r=>r
 | _,_,_+1,.nil=>.nil
 | _,_,n+1,.cons _ t=>aH.drop n t
def gw:Option V->Option Value->Prop
 | some v,some u=>aM v u
 | none,none=>True
 | _,_=>False
def KV {κ:Type}:List (κ×V)->List (κ×Value)->Prop:=Paired fun (p:κ×V) (q:κ×Value)=>p.1=q.1/\aM p.2 q.2
def kV:cH->V
 | .inl i=>.int i
 | .inr x=>.str x
inductive HO where
  | lst (xs:List V)
  | tup (xs:List V)
  | dK (kvs:List (cH×V)) | dT (kvs:List (List cH×V))
  | set (S:Int->Bool) (n:Nat)
  | ins (C dx:Addr) (fs:List (Str×V))
  | own (x:Addr)
  | xd (fs:List (Str×V))
  | met (f x:Addr)
  | rng (lo hi:Int)
  | frz (o:Obj) (u:HO)
  | tbl (ps:Array Value)
  | ext (φ:Heap->Prop)
abbrev Hp:=Addr->Option HO
def aE (H:Hp) (a:Addr) (o:HO):Hp:=fun b=>if b=a then some o else H b
theorem aJ {H:Hp} {a:Addr} {o:HO}:aE H a o a=some o:=by unfold aE;rw [if_pos rfl]
theorem az {H:Hp} {a b:Addr} {o:HO} (h:b≠a):aE H a o b=H b:=by unfold aE;rw [if_neg h]
theorem pX {H:Hp} {a:Addr} {o u:HO}:aE (aE H a o) a u=aE H a u:=by
 funext b;unfold aE;split <;> rfl
theorem fY {H:Hp} {a b:Addr} {o u:HO} (h:H a=some o) (h':H b=some u) (d:o≠u):a≠b:=by
 intro e;subst e;rw [h] at h';exact d (Option.some.inj h')
theorem aO {H:Hp} {a b:Addr} {o:HO} (h:H a=some o) (h':H b=none):a≠b:=by
 intro e;subst e;rw [h] at h';cases h'
section
variable (P:Program) (w:World)
def bB (H:Hp) (h:Heap) (a:Addr):HO->Prop
  | .lst xs=>xs.length<=sizeLine/\∃(its:List Value) (n:Nat),aH xs its/\h.get? a=some { cls:=.type "list", data:=.seq its.toArray n }
  | .tup xs=>xs.length<=sizeLine/\∃its:List Value,aH xs its/\IsTup h a its.toArray
  | .dK kvs=>kvs.length<=sizeLine/\(a==sysModules)=false/\∃vs,KV kvs vs/\h.DictOf (qk P w) a vs
  | .dT kvs=>kvs.length<=sizeLine/\(a==sysModules)=false/\∃xs:List (List cH×Addr×Value),
      Paired (fun (p:List cH×V) (q:List cH×Addr×Value)=>p.1=q.1/\H q.2.1=some (.tup (p.1.map kV))/\aM p.2 q.2.2) kvs xs /\
      ∃o es ep,h.get? a=some o/\o.ExactDict/\o.data=.dict es ep/\es.toList=xs.map (entryOfKey (tupleKind (qk P w)))/\(xs.map (·.1)).Nodup
  | .set S n=>h.SetOf (intKind P w) a S n
  | .ins C dx fs=>H dx=some (.own a)/\fs.length<=1000/\dx≠a/\h.get? a=some (W.instObj C dx) /\
      ∃mA,h.Ns1 dx mA/\(∀f,gw (fs.lookup f) (mA f))/\PySem.Within mA (fs.map (·.1))
  | .own _ => ∃o,h.get? a=some o
  | .xd fs => ∃mA,h.Ns1 a mA/\∀f,gw (fs.lookup f) (mA f)
  | .rng lo hi => ∃t u v,h.get? a=some { cls:=.type "range", data:=.fields #[.int lo t,.int hi u,.int 1 v] }
  | .frz o u=>h.get? a=some o/\bB H h a u
  | .tbl ps=>h.get? a=some { cls:=.none,data:=.fields ps }
  | .met f x=>h.get? a=some (W.methodObj (.ref f) (.ref x))
  | .ext φ=>φ h/\(∃o,h.get? a=some o)/\∀h1 h2:Heap,φ h1->(∀o,h1.get? a=some o->h2.get? a=some o)->φ h2
def cg (H:Hp) (h:Heap):Prop:=∀a o,H a=some o->bB P w H h a o
end
section
variable {P:Program} {w:World} {H H':Hp} {h h':Heap} {a:Addr} {o:HO}
theorem bB.lt (x:bB P w H h a o):a < h.objs.size:=by
 cases o with
 | lst xs=>obtain ⟨_,_,_,_,e⟩:=x;exact Heap.lt_size e
 | tup xs=>obtain ⟨_,_,_,p⟩:=x;exact p.lt
 | dK kvs=>obtain ⟨_,_,_,_,o,_,_,e,_⟩:=x;exact Heap.lt_size e
 | dT kvs=>obtain ⟨_,_,_,_,o,_,_,e,_⟩:=x;exact Heap.lt_size e
 | set S n=>obtain ⟨o,_,_,_,e,_⟩:=x;exact Heap.lt_size e
 | ins C dx fs=>obtain ⟨_,_,_,e,_⟩:=x;exact Heap.lt_size e
 | own y=>obtain ⟨_,e⟩:=x;exact Heap.lt_size e
 | xd fs=>obtain ⟨_,⟨_,_,_,e,_⟩,_⟩:=x;exact Heap.lt_size e
 | rng lo hi=>obtain ⟨_,_,_,e⟩:=x;exact Heap.lt_size e
 | frz ob u=>obtain ⟨e,_⟩:=x;exact Heap.lt_size e
 | tbl ps=>exact Heap.lt_size (show h.get? a=some _ from x)
 | met f y=>exact Heap.lt_size (show h.get? a=some _ from x)
 | ext φ=>obtain ⟨_,⟨_,e⟩,_⟩:=x;exact Heap.lt_size e
theorem Paired.mapP {α β:Type} {F G:α->β->Prop}:∀{l₁:List α} {l₂:List β},Paired F l₁ l₂->(∀a b,F a b->G a b)->Paired G l₁ l₂
 | _,_,.nil,_=>.nil
 | _,_,.cons r t,f=>.cons (f _ _ r) (Paired.mapP t f)
theorem bB.stay (x:bB P w H h a o) (k:∀b u,(b=a\/H b=some (.own a))->h.get? b=some u->h'.get? b=some u)
  (ho:∀b,H b=some (.own a)->H' b=some (.own a)) (ht:∀b xs,H b=some (.tup xs)->H' b=some (.tup xs)):bB P w H' h' a o:=by
 induction o with
 | lst xs=>obtain ⟨z,its,n,r,e⟩:=x;exact ⟨z,its,n,r,k _ _ (.inl rfl) e⟩
 | tup xs=>obtain ⟨z,its,r,ob,e,c⟩:=x;exact ⟨z,its,r,ob,k _ _ (.inl rfl) e,c⟩
 | dK kvs=>obtain ⟨z,y,vs,r,ob,es,ep,e,c⟩:=x;exact ⟨z,y,vs,r,ob,es,ep,k _ _ (.inl rfl) e,c⟩
 | dT kvs =>
  obtain ⟨z,y,xs,r,ob,es,ep,e,c⟩:=x
  exact ⟨z,y,xs,Paired.mapP r fun p q z=>⟨z.1,ht _ _ z.2.1,z.2.2⟩,ob,es,ep,k _ _ (.inl rfl) e,c⟩
 | set S n=>obtain ⟨ob,es,ep,t,e,c⟩:=x;exact ⟨ob,es,ep,t,k _ _ (.inl rfl) e,c⟩
 | ins C dx fs =>
  obtain ⟨d,z,ne,e,mA,⟨od,es,ep,e2,c⟩,r⟩:=x
  exact ⟨ho _ d,z,ne,k _ _ (.inl rfl) e,mA,⟨od,es,ep,k _ _ (.inr d) e2,c⟩,r⟩
 | own y=>obtain ⟨ob,e⟩:=x;exact ⟨ob,k _ _ (.inl rfl) e⟩
 | xd fs=>obtain ⟨mA,⟨od,es,ep,e,c⟩,r⟩:=x;exact ⟨mA,⟨od,es,ep,k _ _ (.inl rfl) e,c⟩,r⟩
 | rng lo hi=>obtain ⟨t,u,v,e⟩:=x;exact ⟨t,u,v,k _ _ (.inl rfl) e⟩
 | frz ob u ih=>obtain ⟨e,q⟩:=x;exact ⟨k _ _ (.inl rfl) e,ih q⟩
 | tbl ps =>
  have e:h.get? a=some { cls:=.none,data:=.fields ps }:=x
  show h'.get? a=some { cls:=.none,data:=.fields ps }
  exact k a _ (.inl rfl) e
 | met f y =>
  have e:h.get? a=some (W.methodObj (.ref f) (.ref y)):=x
  show h'.get? a=some (W.methodObj (.ref f) (.ref y))
  exact k a _ (.inl rfl) e
 | ext φ=>obtain ⟨p,⟨o,e⟩,st⟩:=x;exact ⟨st _ _ p fun o q=>k _ _ (.inl rfl) q,⟨o,k _ _ (.inl rfl) e⟩,st⟩
theorem cg.lt (x:cg P w H h) (e:H a=some o):a < h.objs.size:=(x a o e).lt
theorem cg.fresh (x:cg P w H h) (e:h.objs.size<=a):H a=none:=by
 cases q:H a with
 | none=>rfl
 | some u=>exact absurd (Nat.lt_of_lt_of_le (x.lt q) e) (Nat.lt_irrefl _)
theorem cg.kept (x:cg P w H h) (k:∀b u,h.get? b=some u->h'.get? b=some u):cg P w H h':=fun a o e =>
 (x a o e).stay (fun b u _ q=>k b u q) (fun _ q=>q) fun _ _ q=>q
theorem cg.laid (x:cg P w H h) (k:∀b u,h.get? b=some u->h'.get? b=some u) (hp:h.objs.size<=a) (new:bB P w (aE H a o) h' a o):cg P w (aE H a o) h':=fun b u e=>by
 have hn:=x.fresh hp
 by_cases hb:b=a
 ·subst hb;rw [aJ] at e;cases e;exact new
 ·rw [az hb] at e
  exact (x b u e).stay (fun c v _ q=>k c v q) (fun c q=>by rw [az (aO q hn)];exact q) fun c xs q=>by rw [az (aO q hn)];exact q
end
def Rd (H:Hp) (a:Addr) (u:HO):Prop:=H a=some u\/∃o,H a=some (.frz o u)
theorem Rd.ok {P:Program} {w:World} {H:Hp} {h:Heap} {a:Addr} {u:HO} (r:Rd H a u) (x:cg P w H h):bB P w H h a u:=by
 rcases r with r | ⟨o,r⟩
 ·exact x a u r
 ·obtain ⟨_,q⟩:=x a _ r
  exact q
def yp:Option HO->Prop
 | some (.lst _)=>True
 | some (.dK _)=>True
 | some (.dT _)=>True
 | some (.set _ _)=>True
 | some (.ins _ _ _)=>True
 | some (.ext _)=>True
 | _=>False
section
variable {P:Program} {w:World} {H:Hp} {h h':Heap} {x e:Addr} {o':HO}
theorem cg.write (ok:cg P w H h) (mu:yp (H x)) (he:e=x\/H e=some (.own x)) (k:∀b u,b≠e->h.get? b=some u->h'.get? b=some u) (heo:∃u,h'.get? e=some u)
  (new:bB P w (aE H x o') h' x o'):cg P w (aE H x o') h':=fun b u q=>by
 have nown:∀c y,H c=some (.own y)->c≠x:=fun c y r z=>by subst z;rw [r] at mu;exact mu
 have ntup:∀c xs,H c=some (.tup xs)->c≠x:=fun c xs r z=>by subst z;rw [r] at mu;exact mu
 by_cases hb:b=x
 ·subst hb;rw [aJ] at q;cases q;exact new
 ·rw [az hb] at q
  by_cases hbe:b=e
  ·have q':H b=some (.own x):=by
    rcases he with z|z
    ·exact absurd (hbe.trans z) hb
    ·rw [hbe];exact z
   rw [q] at q';cases q'
   obtain ⟨v,hv⟩:=heo
   exact ⟨v,by rw [hbe];exact hv⟩
  ·refine (ok b u q).stay (fun c v hc r=>k c v ?_ r) (fun c r=>by rw [az (nown c b r)];exact r) fun c xs r=>by rw [az (ntup c xs r)];exact r
   rcases hc with rfl|hc
   ·exact hbe
   ·rintro rfl
    rcases he with z|z
    ·exact nown c b hc z
    ·rw [hc] at z;cases z;exact hb rfl
end
structure Un (fs ex:List Addr) (H H':Hp) (h h':Heap):Prop where
 keep:∀b o,h.get? b=some o->H b=none->b∉fs->b∉ex->h'.get? b=some o
 slot:∀b o,h.get? b=some o->H b=none->b∈fs->b∉ex->∃sl,h'.get? b=some { o with slots:=sl }
 free:∀b o,h.get? b=some o->H b=none->b∉ex->H' b=none
 there:∀b o,h.get? b=some o->b∉ex->∃o',h'.get? b=some o'
 tups:∀b xs,H b=some (.tup xs)->H' b=some (.tup xs)
 frzs:∀b o u,H b=some (.frz o u)->H' b=some (.frz o u)
 tbls:∀b ps,H b=some (.tbl ps)->∃more,H' b=some (.tbl (ps++more))
section
variable {fs fs' ex ex':List Addr} {H H1 H2:Hp} {h h1 h2 h':Heap} {a x e:Addr} {o:HO}
theorem Un.any (u:Un fs ex H H1 h h1) {b:Addr} {ob:Obj} (q:h.get? b=some ob) (n:H b=none) (hx:b∉ex):∃sl,h1.get? b=some { ob with slots:=sl }:=by
 by_cases hb:b∈fs
 ·exact u.slot b ob q n hb hx
 ·exact ⟨ob.slots,u.keep b ob q n hb hx⟩
theorem Un.kept (k:∀b u,h.get? b=some u->h'.get? b=some u):Un fs ex H H h h' :=
 ⟨fun b ob q _ _ _=>k b ob q,fun b ob q _ _ _=>⟨ob.slots,k b ob q⟩,fun _ _ _ n _=>n,fun b ob q _=>⟨ob,k b ob q⟩,fun _ _ q=>q,fun _ _ _ q=>q,fun _ ps q=>⟨#[],by rw [q];simp⟩⟩
theorem Un.refl:Un fs ex H H h h:=Un.kept fun _ _ q=>q
theorem Un.laid (k:∀b u,h.get? b=some u->h'.get? b=some u) (hp:h.objs.size<=a) (hn:H a=none):Un fs ex H (aE H a o) h h' where
 keep:=fun b u q _ _ _=>k b u q
 slot:=fun b u q _ _ _=>⟨u.slots,k b u q⟩
 free:=fun b u q n _=>by rw [az (Nat.ne_of_lt (Nat.lt_of_lt_of_le (Heap.lt_size q) hp))];exact n
 there:=fun b u q _=>⟨u,k b u q⟩
 tups:=fun b xs q=>by rw [az (aO q hn)];exact q
 frzs:=fun b u xs q=>by rw [az (aO q hn)];exact q
 tbls:=fun b ps q=>⟨#[],by rw [az (aO q hn),q];simp⟩
theorem Un.write (mu:yp (H x)) (he:e=x\/H e=some (.own x)) (k:∀b u,b≠e->h.get? b=some u->h'.get? b=some u) (heo:∃u,h'.get? e=some u):Un fs ex H (aE H x o) h h':=by
 have hx:∀b,H b=none->b≠x:=fun b n z=>by subst z;rw [n] at mu;exact mu
 have hb:∀b,H b=none->b≠e:=fun b n z=>by
  subst z
  rcases he with r|r
  ·exact hx b n r
  ·rw [n] at r;cases r
 have hm:∀b u,H b=some u -> ¬ yp (some u)->b≠x:=fun b u q nm z=>by subst z;rw [q] at mu;exact nm mu
 refine ⟨fun b u q n _ _=>k b u (hb b n) q,fun b u q n _ _=>⟨u.slots,k b u (hb b n) q⟩,fun b u q n _=>by rw [az (hx b n)];exact n,fun b u q _=>?_,
  fun b xs q=>by rw [az (hm b _ q fun z=>z)];exact q,fun b u xs q=>by rw [az (hm b _ q fun z=>z)];exact q,fun b ps q=>⟨#[],by rw [az (hm b _ q fun z=>z),q];simp⟩⟩
 by_cases hbe:b=e
 ·subst hbe;exact heo
 ·exact ⟨u,k b u hbe q⟩
end
def xk (h:Heap) (H:Hp):List Addr:=(List.range h.objs.size).filter fun a=>(H a).isSome
def gX (h:Heap) (H:Hp):Heap:=W.hideAll h (xk h H)
theorem uN (h:Heap) (H:Hp):(gX h H).objs.size=h.objs.size:=W.hideAll_size _ _
theorem wz {h:Heap} {H:Hp} {b:Addr} {o:Obj} (e:h.get? b=some o) (n:H b=none):(gX h H).get? b=some o :=
 W.hideAll_get _ e fun hm=>by
  have q:(H b).isSome=true:=(List.mem_filter.mp hm).2
  rw [n] at q;simp at q
theorem zm {h:Heap} {H:Hp} {b:Addr} {o:Obj} (e:(gX h H).get? b=some o):h.get? b=some o/\H b=none:=by
 have e':h.get? b=some o:=W.of_hideAll (xk h H) e
 refine ⟨e',?_⟩
 cases q:H b with
 | none=>rfl
 | some x =>
  have hm:b∈xk h H:=List.mem_filter.mpr ⟨List.mem_range.mpr (Heap.lt_size e'),by simp [q]⟩
  have z:(gX h H).get? b=none:=W.hideAll_none (xk h H) hm
  rw [z] at e;cases e
def Aw (g h:Heap) (L:Addr):List (Addr×Obj):=(List.range h.objs.size).filterMap fun a=>if a=L\/(g.get? a).isSome=true then none else (h.get? a).map fun o=>(a,o)
def rest (g h:Heap) (L d:Addr):List (Addr×Obj):=(Aw g h L).filter fun p=>decide (p.1≠d)
end L2
namespace L2
open PySem PySem.Spec PyProof.Rows
structure Mod (K:W.Frag) (mg:Str->Option Value) (base:Heap):Prop where
 kin:K.In base
 glob:base.Ns mainGlobals mg
 blt:∃mb,base.Ns builtinsNs mb/\∀x:Str,x ≠ "__name__" -> mb x=bootBuiltins x
 nolimit:base.NoLimit
structure Cx where
 prog:Program
 w:World
 K:W.Frag
 mg:Str->Option Value
 base:Heap
 A:Around
 N:List Str
 s₀:Shared
 H₀:Hp
 env:Env
 outer:List Env
 stack:List Env
 ex:List Addr
 fn:Str->Bool
 calm:Bool
 pn:List (Addr×Obj)
 xe:Value->Shared->Prop
def bJ (l:List Env):List Addr:=l.filterMap (·.frame)
abbrev Cx.fs (X:Cx):List Addr:=bJ X.outer
def ge (sc:Scope) (x:Str):Prop:=sc.names.lookup x=some .local\/sc.names.lookup x=some .cell\/sc.names.lookup x=some .free
def pA (sc:Scope) (x:Str):Prop:=sc.names.lookup x=some .local\/sc.names.lookup x=some .cell
def JO (env:Env) (h:Heap) (m:Str->Option Value) (x:Str) (u:Value):Prop :=
 (env.kindOf x=some .local/\m x=some u)\/((env.kindOf x=some .cell\/env.kindOf x=some .free)/\∃c,env.cells.lookup x=some c/\h.IsCell c (some u))
structure Cx.Ok (X:Cx):Prop where
 mod:Mod X.K X.mg X.base
 kind:X.env.scope.kind=.function
 glob:X.env.globals=mainGlobals
 blt:X.env.builtins=builtinsNs
 above:X.s₀.heap.objs.size<=X.env.locals
 inj:∀x y c,X.env.cells.lookup x=some c->X.env.cells.lookup y=some c->x=y
 has:∀x,(X.env.kindOf x=some .cell\/X.env.kindOf x=some .free)->∃c,X.env.cells.lookup x=some c
 cab:∀x c,X.fn x=true->X.env.cells.lookup x=some c->X.s₀.heap.objs.size<=c
 hd:X.calm=true->X.A.handled=none
 frames:X.A.frames=some X.stack
 stk:X.stack=X.outer\/(X.stack=X.env::X.outer/\X.env.frame=some X.env.locals)
 exf:∀b∈X.ex,b≠X.env.locals/\∀x c,X.env.cells.lookup x=some c->c≠b
 bs:∀b o,X.base.get? b=some o->X.s₀.heap.get? b=some o/\X.H₀ b=none
 bsz:X.base.objs.size<=X.s₀.heap.objs.size
 noex:∀b o,X.base.get? b=some o->b∉X.ex
 exfs:∀b∈X.ex,b∉X.fs
 funs:X.s₀.heap.FunFrames X.base X.outer
 frf:∀b∈X.fs,X.H₀ b=none
structure ah (X:Cx) (pins:List (Addr×Obj)) (σ:List (Option V)) (H:Hp) (s:Shared):Prop where
 ok:X.Ok
 os:s.os=X.s₀.os
 bare:AllBare s.gens
 base:Un X.fs X.ex X.H₀ H X.s₀.heap s.heap
 loc:∃m,s.heap.Ns X.env.locals m/\∀(i:Nat) (x:Str) (v:V),X.N[i]?=some x->σ[i]?=some (some v)->ge X.env.scope x->∃u,aM v u/\JO X.env s.heap m x u
 cell:∀x c,X.env.cells.lookup x=some c->∃v,s.heap.IsCell c v
 free:H X.env.locals=none
 freeC:∀x c,X.env.cells.lookup x=some c->H c=none
 pin:∀p∈X.pn++pins,s.heap.get? p.1=some p.2/\H p.1=none/\p.1≠X.env.locals/\p.1∉X.fs/\∀v,p.2.data ≠ .cell v
 hok:cg X.prog X.w H s.heap
 len:σ.length=X.N.length
section
variable {X:Cx} {pins:List (Addr×Obj)} {σ:List (Option V)} {H H':Hp} {s:Shared} {h':Heap}
theorem Cx.Ok.nofr (ok:X.Ok) {b:Addr} {o:Obj} (e:X.base.get? b=some o):b∉X.fs:=fun hb=>by
 have:=(ok.funs.mem hb).1
 rw [e] at this;cases this
theorem ah.bs (I:ah X pins σ H s):∀b o,X.base.get? b=some o->s.heap.get? b=some o/\H b=none:=fun b o e =>
 ⟨I.base.keep b o (I.ok.bs b o e).1 (I.ok.bs b o e).2 (I.ok.nofr e) (I.ok.noex b o e),I.base.free b o (I.ok.bs b o e).1 (I.ok.bs b o e).2 (I.ok.noex b o e)⟩
theorem ah.bk (I:ah X pins σ H s):∀b o,X.base.get? b=some o->s.heap.get? b=some o:=fun b o e=>(I.bs b o e).1
theorem ah.mod (I:ah X pins σ H s):Mod X.K X.mg X.base:=I.ok.mod
theorem ah.kIn (I:ah X pins σ H s):X.K.In s.heap:=I.ok.mod.kin.keeps I.bk
theorem ah.nolimit (I:ah X pins σ H s):s.heap.NoLimit:=I.ok.mod.nolimit.keeps I.bk
theorem ah.lt (I:ah X pins σ H s):X.env.locals < s.heap.objs.size:=let ⟨_,hn,_⟩:=I.loc;hn.lt
theorem ah.sz (I:ah X pins σ H s):X.s₀.heap.objs.size<=s.heap.objs.size:=Nat.le_trans I.ok.above (Nat.le_of_lt I.lt)
theorem ah.nofs (I:ah X pins σ H s) {a:Addr} (h:s.heap.objs.size<=a):a∉X.fs:=fun hb=>by
 obtain ⟨_,o,ho,_⟩:=I.ok.funs.mem hb
 exact absurd (Nat.lt_of_lt_of_le (Heap.lt_size ho) (Nat.le_trans I.sz h)) (Nat.lt_irrefl _)
theorem ah.cne (I:ah X pins σ H s):∀x c,X.env.cells.lookup x=some c->c≠X.env.locals:=fun x c e z=>by
 obtain ⟨v,o,ho,hd⟩:=I.cell x c e
 obtain ⟨m,⟨o',es,ep,ho',hd',_⟩,_⟩:=I.loc
 rw [z,ho'] at ho;cases ho;rw [hd'] at hd;cases hd
theorem ah.funs (I:ah X pins σ H s):s.heap.FunFrames X.base X.outer:=by
 have all:∀(l:List Env),(∀b∈bJ l,b∈X.fs)->X.s₀.heap.FunFrames X.base l->s.heap.FunFrames X.base l:=by
  intro l
  induction l with
  | nil=>intro _ _;trivial
  | cons env r ih =>
   intro hs hl
   obtain ⟨hk,⟨L,o,hf,hn,ho,hd⟩,hr⟩:=hl
   have hL:L∈X.fs:=hs L (by unfold bJ;rw [List.filterMap_cons,hf];exact List.mem_cons_self)
   obtain ⟨sl,e⟩:=I.base.slot L o ho (I.ok.frf L hL) hL fun z=>I.ok.exfs L z hL
   exact ⟨hk,⟨L,_,hf,hn,e,hd⟩,ih (fun b hb=>hs b (by unfold bJ;rw [List.filterMap_cons,hf];exact List.mem_cons_of_mem _ hb)) hr⟩
 exact all X.outer (fun _ hb=>hb) I.ok.funs
theorem ah.stack (I:ah X pins σ H s):s.heap.FunFrames X.base X.stack:=by
 rcases I.ok.stk with e | ⟨e,hf⟩
 ·rw [e];exact I.funs
 ·rw [e]
  obtain ⟨m,hn,_⟩:=I.loc
  refine .cons (by rw [I.ok.kind];decide) hf hn ?_ I.funs
  exact Heap.get?_none_of_le (Nat.le_trans I.ok.bsz I.ok.above)
theorem ah.stkSub (I:ah X pins σ H s):∀b∈bJ X.stack,b∈X.env.locals::X.fs:=fun b hb=>by
 rcases I.ok.stk with e | ⟨e,hf⟩
 ·rw [e] at hb;exact List.mem_cons_of_mem _ hb
 ·rw [e] at hb
  unfold bJ at hb
  rw [List.filterMap_cons,hf] at hb
  exact hb
theorem ah.stkFree (I:ah X pins σ H s):∀b∈bJ X.stack,H b=none:=fun b hb=>by
 rcases List.mem_cons.mp (I.stkSub b hb) with e|hb
 ·rw [e];exact I.free
 ·obtain ⟨_,o,ho,_⟩:=I.ok.funs.mem hb
  exact I.base.free b o ho (I.ok.frf b hb) fun z=>I.ok.exfs b z hb
theorem ah.step {g':Array GenState} {t':Nat} {d':Drawn} {ch:List Addr} (I:ah X pins σ H s)
  (hch:∀b∈ch,(b∈X.ex\/X.s₀.heap.objs.size<=b)/\b≠X.env.locals/\(∀x c,X.env.cells.lookup x=some c->c≠b)/\∀p∈X.pn++pins,p.1≠b)
  (keep:∀b o,b≠X.env.locals->b∉X.fs->b∉ch->s.heap.get? b=some o->H b=none->h'.get? b=some o)
  (slot:∀b o,b≠X.env.locals->b∈X.fs->b∉ch->s.heap.get? b=some o->H b=none->∃sl,h'.get? b=some { o with slots:=sl }) (free:∀b o,b∉ch->s.heap.get? b=some o->H b=none->H' b=none)
  (there:∀b o,b∉ch->s.heap.get? b=some o->∃o',h'.get? b=some o')
  (tups:∀b xs,H b=some (.tup xs)->H' b=some (.tup xs)) (frzs:∀b o u,H b=some (.frz o u)->H' b=some (.frz o u)) (tbls:∀b ps,H b=some (.tbl ps)->∃more,H' b=some (.tbl (ps++more)))
  (ns:∀m,s.heap.Ns X.env.locals m->h'.Ns X.env.locals m) (hok:cg X.prog X.w H' h') (hg:AllBare g') :
  ah X pins σ H' { s with heap:=h',gens:=g',drawn:=d',toks:=t' }:=by
 have neL:∀b o,X.s₀.heap.get? b=some o->b≠X.env.locals:=fun b o e=>Nat.ne_of_lt (Nat.lt_of_lt_of_le (Heap.lt_size e) I.ok.above)
 have neC:∀b o,X.s₀.heap.get? b=some o->b∉X.ex->b∉ch:=fun b o e hx hb=>by
  rcases (hch b hb).1 with z|z
  ·exact hx z
  ·exact absurd (Nat.lt_of_lt_of_le (Heap.lt_size e) z) (Nat.lt_irrefl _)
 have cellK:∀x c,X.env.cells.lookup x=some c->∀v,s.heap.IsCell c v->h'.IsCell c v:=fun x c e v ⟨o,ho,hd⟩=>by
  have nch:c∉ch:=fun z=>(hch c z).2.2.1 x c e rfl
  by_cases hc:c∈X.fs
  ·obtain ⟨sl,q⟩:=slot c o (I.cne x c e) hc nch ho (I.freeC x c e)
   exact ⟨_,q,hd⟩
  ·exact ⟨o,keep c o (I.cne x c e) hc nch ho (I.freeC x c e),hd⟩
 refine ⟨I.ok,I.os,hg,⟨fun b o e n hb hx=>?_,fun b o e n hb hx=>?_,fun b o e n hx=>?_,fun b o e hx=>?_,fun b xs e=>tups b xs (I.base.tups b xs e),fun b o xs e=>frzs b o xs (I.base.frzs b o xs e),fun b ps e=>?_⟩,?_,fun x c e=>?_,?_,fun x c e=>?_,fun p hp=>?_,hok,I.len⟩
 ·exact keep b o (neL b o e) hb (neC b o e hx) (I.base.keep b o e n hb hx) (I.base.free b o e n hx)
 ·obtain ⟨sl,e1⟩:=I.base.slot b o e n hb hx
  obtain ⟨sl',e2⟩:=slot b _ (neL b o e) hb (neC b o e hx) e1 (I.base.free b o e n hx)
  exact ⟨sl',e2⟩
 ·obtain ⟨o',e1⟩:=I.base.there b o e hx
  exact free b o' (neC b o e hx) e1 (I.base.free b o e n hx)
 ·obtain ⟨o',e1⟩:=I.base.there b o e hx
  exact there b o' (neC b o e hx) e1
 ·obtain ⟨m1,e1⟩:=I.base.tbls b ps e
  obtain ⟨m2,e2⟩:=tbls b _ e1
  exact ⟨m1++m2,by rw [e2,Array.append_assoc]⟩
 ·obtain ⟨m,hn,hl⟩:=I.loc
  refine ⟨m,ns m hn,fun i x v e1 e2 e3=>?_⟩
  obtain ⟨u,r,l⟩:=hl i x v e1 e2 e3
  refine ⟨u,r,?_⟩
  rcases l with l | ⟨k,c,e,z⟩
  ·exact .inl l
  ·exact .inr ⟨k,c,e,cellK x c e _ z⟩
 ·obtain ⟨v,z⟩:=I.cell x c e
  exact ⟨v,cellK x c e v z⟩
 ·obtain ⟨m,⟨o,_,_,ho,_⟩,_⟩:=I.loc
  exact free _ o (fun z=>(hch _ z).2.1 rfl) ho I.free
 ·obtain ⟨v,o,ho,hd⟩:=I.cell x c e
  exact free c o (fun z=>(hch c z).2.2.1 x c e rfl) ho (I.freeC x c e)
 ·obtain ⟨e,n,ne,nf,d⟩:=I.pin p hp
  have nch:p.1∉ch:=fun z=>(hch p.1 z).2.2.2 p hp rfl
  exact ⟨keep p.1 p.2 ne nf nch e n,free p.1 p.2 nch e n,ne,nf,d⟩
theorem ah.un {t':Nat} (I:ah X pins σ H s) (u:Un X.fs [] H H' s.heap h') (hok:cg X.prog X.w H' h'):ah X pins σ H' { s with heap:=h',toks:=t' }:=by
 obtain ⟨m,⟨o,es,ep,ho,r⟩,_⟩:=id I.loc
 obtain ⟨sl,hL⟩:=u.any ho I.free (by simp)
 exact I.step (g':=s.gens) (d':=s.drawn) (ch:=[]) (fun _ z=>nomatch z) (fun b o _ hb _ e n=>u.keep b o e n hb (by simp)) (fun b o _ hb _ e n=>u.slot b o e n hb (by simp)) (fun b o _ e n=>u.free b o e n (by simp)) (fun b o _ e=>u.there b o e (by simp)) u.tups u.frzs u.tbls (fun m' hm=>by
  obtain ⟨o',es',ep',ho',r'⟩:=hm
  rw [ho] at ho';cases ho'
  exact ⟨_,es',ep',hL,r'⟩) hok I.bare
theorem ah.call {g':Array GenState} {t':Nat} {d':Drawn} {ch:List Addr} (I:ah X pins σ H s) (u:Un (bJ X.stack) ch H H' s.heap h') (hok:cg X.prog X.w H' h') (hg:AllBare g')
  (hch:∀b∈ch,(b∈X.ex\/X.s₀.heap.objs.size<=b)/\b≠X.env.locals/\(∀x c,X.env.cells.lookup x=some c->c≠b)/\∀p∈X.pn++pins,p.1≠b) :
  ah X pins σ H' { s with heap:=h',gens:=g',drawn:=d',toks:=t' }:=by
 obtain ⟨m,⟨o,es,ep,ho,r⟩,_⟩:=id I.loc
 obtain ⟨sl,hL⟩:=u.any ho I.free fun z=>(hch _ z).2.1 rfl
 exact I.step (ch:=ch) hch (fun b o hL hb hc e n=>u.keep b o e n (fun z=>(List.mem_cons.mp (I.stkSub b z)).elim hL hb) hc) (fun b o _ _ hc e n=>u.any e n hc) (fun b o hc e n=>u.free b o e n hc) (fun b o hc e=>u.there b o e hc) u.tups u.frzs u.tbls (fun m' hm=>by
  obtain ⟨o',es',ep',ho',r'⟩:=hm
  rw [ho] at ho';cases ho'
  exact ⟨_,es',ep',hL,r'⟩) hok hg
theorem ah.turned {t':Nat} {it:Addr} (I:ah X pins σ H s) (k:∀b o,b≠it->s.heap.get? b=some o->h'.get? b=some o) (hn:H it=none) (hL:it≠X.env.locals)
  (h1:it∈X.ex\/X.s₀.heap.objs.size<=it) (h2:∀x c,X.env.cells.lookup x=some c->c≠it) (h3:∀p∈X.pn++pins,p.1≠it):ah X pins σ H { s with heap:=h',toks:=t' }:=by
 have nit:∀b u,H b=some u->b≠it:=fun b u e z=>by rw [z,hn] at e;cases e
 refine I.step (g':=s.gens) (d':=s.drawn) (ch:=[it]) (fun b hb=>?_) (fun b o _ _ hc e _=>k b o (fun z=>hc (by simp [z])) e) (fun b o _ _ hc e _=>⟨o.slots,k b o (fun z=>hc (by simp [z])) e⟩) (fun _ _ _ _ n=>n)
  (fun b o hc e=>⟨o,k b o (fun z=>hc (by simp [z])) e⟩) (fun _ _ e=>e) (fun _ _ _ e=>e) (fun b ps e=>⟨#[],by rw [e];simp⟩) (fun m hm=>?_) (fun b u e=>?_) I.bare
 ·have e:b=it:=by simpa using hb
  subst e
  exact ⟨h1,hL,h2,h3⟩
 ·obtain ⟨o,es,ep,ho,r⟩:=hm
  exact ⟨o,es,ep,k _ o (Ne.symm hL) ho,r⟩
 ·refine (I.hok b u e).stay (fun c v hc q=>k c v ?_ q) (fun _ q=>q) fun _ _ q=>q
  rcases hc with z|z
  ·rw [z];exact nit b u e
  ·exact nit c _ z
theorem ah.tok (I:ah X pins σ H s) (t:Nat):ah X pins σ H { s with toks:=t }:=I.un (h':=s.heap) (t':=t) Un.refl I.hok
theorem ah.kept {t':Nat} (I:ah X pins σ H s) (k:∀b u,s.heap.get? b=some u->h'.get? b=some u):ah X pins σ H { s with heap:=h',toks:=t' }:=I.un (Un.kept k) (I.hok.kept k)
theorem ah.laid {a:Addr} {o:HO} {t':Nat} (I:ah X pins σ H s) (k:∀b u,s.heap.get? b=some u->h'.get? b=some u) (hp:s.heap.objs.size<=a) (new:bB X.prog X.w (aE H a o) h' a o) :
  ah X pins σ (aE H a o) { s with heap:=h',toks:=t' }:=I.un (Un.laid k hp (I.hok.fresh hp)) (I.hok.laid k hp new)
theorem ah.write {x e:Addr} {o:HO} {t':Nat} (I:ah X pins σ H s) (mu:yp (H x)) (he:e=x\/H e=some (.own x)) (k:∀b u,b≠e->s.heap.get? b=some u->h'.get? b=some u) (heo:∃u,h'.get? e=some u)
  (new:bB X.prog X.w (aE H x o) h' x o):ah X pins σ (aE H x o) { s with heap:=h',toks:=t' }:=I.un (Un.write mu he k heo) (I.hok.write mu he k heo new)
theorem ah.pins_of {pins':List (Addr×Obj)} (I:ah X pins σ H s) (h:∀p∈pins',s.heap.get? p.1=some p.2/\H p.1=none/\p.1≠X.env.locals/\p.1∉X.fs/\∀v,p.2.data ≠ .cell v):ah X pins' σ H s :=
 ⟨I.ok,I.os,I.bare,I.base,I.loc,I.cell,I.free,I.freeC,fun p hp=>(List.mem_append.mp hp).elim (fun z=>I.pin p (List.mem_append_left _ z)) (h p),I.hok,I.len⟩
theorem fF {N:List Str} (hN:N.Nodup) {i j:Nat} {x:Str} (a:N[i]?=some x) (b:N[j]?=some x):i=j:=by
 obtain ⟨h1,e1⟩:=List.getElem?_eq_some_iff.mp a
 obtain ⟨h2,e2⟩:=List.getElem?_eq_some_iff.mp b
 exact (List.getElem_inj hN).mp (e1.trans e2.symm)
theorem tO {M:Model} {A:Around} {E:Value->Shared->Prop} {i:Nat} {x:Str} {v:V} {u:Value} {Q:Unit->Shared->Prop} (I:ah X pins σ H s) (hN:X.N.Nodup) (hi:X.N[i]?=some x) (hx:pA X.env.scope x) (r:aM v u)
  (h:∀s',ah X pins (σ.set i (some v)) H s'->(∃a,Heap.SameBut a s.heap s'.heap/\(a=X.env.locals\/X.env.cells.lookup x=some a))->Q () s') (hf:X.fn x=true\/X.env.scope.names.lookup x=some .local:=by first|exact .inl rfl|exact .inr rfl|assumption):wpAny M A (storeName X.env x u) Q E s:=by
 obtain ⟨m,hn,hl⟩:=id I.loc
 have hcls:(X.env.scope.kind == .class || (X.env.scope.kind == .module&&X.env.locals != X.env.globals))=false:=by rw [I.ok.kind];rfl
 have hiσ:i < σ.length:=by rw [I.len];exact (List.getElem?_eq_some_iff.mp hi).1
 have cne:=I.cne
 have tracked:∀{a:Addr} {h':Heap},(∃o,s.heap.get? a=some o/\H a=none)->Heap.SameBut a s.heap h'->cg X.prog X.w H h':=fun {a h'} ha hs b ob e=>by
  obtain ⟨_,_,hfree⟩:=ha
  refine (I.hok b ob e).stay (fun c w' hc q=>(hs.2 c ?_).trans q) (fun _ q=>q) fun _ _ q=>q
  rintro rfl
  rcases hc with rfl|hc
  ·rw [hfree] at e;cases e
  ·rw [hfree] at hc;cases hc
 rcases hx with hk|hk
 ·refine wpAny_storeName_local hk hn (fun h' hn' hs=>?_) hcls
  obtain ⟨oL,_,_,hoL,_⟩:=id hn
  refine h _ ⟨I.ok,I.os,I.bare,⟨fun b o e n hb hx=>?_,fun b o e n hb hx=>?_,I.base.free,fun b o e hx=>?_,I.base.tups,I.base.frzs,I.base.tbls⟩,⟨_,hn',fun j y v' e1 e2 e3=>?_⟩,fun y c e=>?_,I.free,I.freeC,fun p hp=>?_,tracked ⟨oL,hoL,I.free⟩ hs,by simpa using I.len⟩ ⟨_,hs,.inl rfl⟩
  ·exact (hs.2 b (Nat.ne_of_lt (Nat.lt_of_lt_of_le (Heap.lt_size e) I.ok.above))).trans (I.base.keep b o e n hb hx)
  ·obtain ⟨sl,e1⟩:=I.base.slot b o e n hb hx
   exact ⟨sl,(hs.2 b (Nat.ne_of_lt (Nat.lt_of_lt_of_le (Heap.lt_size e) I.ok.above))).trans e1⟩
  ·obtain ⟨o',e1⟩:=I.base.there b o e hx
   exact ⟨o',(hs.2 b (Nat.ne_of_lt (Nat.lt_of_lt_of_le (Heap.lt_size e) I.ok.above))).trans e1⟩
  ·by_cases hj:j=i
   ·subst hj
    rw [hi] at e1;cases e1
    rw [List.getElem?_set_self hiσ] at e2
    cases e2
    exact ⟨u,r,.inl ⟨hk,by simp⟩⟩
   ·rw [List.getElem?_set_ne (Ne.symm hj)] at e2
    obtain ⟨u',r',q⟩:=hl j y v' e1 e2 e3
    refine ⟨u',r',?_⟩
    rcases q with ⟨k,e⟩ | ⟨k,c,e,z⟩
    ·refine .inl ⟨k,?_⟩
     have:y≠x:=fun e=>hj (fF hN e1 (e ▸ hi))
     simp [this,e]
    ·exact .inr ⟨k,c,e,z.sameBut hs (cne y c e)⟩
  ·obtain ⟨w',z⟩:=I.cell y c e
   exact ⟨w',z.sameBut hs (cne y c e)⟩
  ·obtain ⟨e,n,ne,nf,d⟩:=I.pin p hp
   exact ⟨(hs.2 p.1 ne).trans e,n,ne,nf,d⟩
 ·have hfn:X.fn x=true:=by
   rcases hf with z|z
   ·exact z
   ·rw [z] at hk;cases hk
  obtain ⟨c,hc⟩:=I.ok.has x (.inl hk)
  obtain ⟨w',z⟩:=I.cell x c hc
  refine wpAny_storeName_cell I.ok.kind hk hc z (fun h' hc' hs=>?_)
  obtain ⟨oc,hoc,hocd⟩:=id z
  refine h { s with heap:=h' } ⟨I.ok,I.os,I.bare,⟨fun b o e n hb hx=>?_,fun b o e n hb hx=>?_,I.base.free,fun b o e hx=>?_,I.base.tups,I.base.frzs,I.base.tbls⟩,⟨m,hn.sameBut hs (Ne.symm (cne x c hc)),fun j y v' e1 e2 e3=>?_⟩,fun y c' e=>?_,I.free,I.freeC,fun p hp=>?_,tracked ⟨oc,hoc,I.freeC x c hc⟩ hs,by simpa using I.len⟩ ⟨c,hs,.inr hc⟩
  ·exact (hs.2 b (Nat.ne_of_lt (Nat.lt_of_lt_of_le (Heap.lt_size e) (I.ok.cab x c hfn hc)))).trans (I.base.keep b o e n hb hx)
  ·obtain ⟨sl,e1⟩:=I.base.slot b o e n hb hx
   exact ⟨sl,(hs.2 b (Nat.ne_of_lt (Nat.lt_of_lt_of_le (Heap.lt_size e) (I.ok.cab x c hfn hc)))).trans e1⟩
  ·obtain ⟨o',e1⟩:=I.base.there b o e hx
   exact ⟨o',(hs.2 b (Nat.ne_of_lt (Nat.lt_of_lt_of_le (Heap.lt_size e) (I.ok.cab x c hfn hc)))).trans e1⟩
  ·by_cases hj:j=i
   ·subst hj
    rw [hi] at e1;cases e1
    rw [List.getElem?_set_self hiσ] at e2
    cases e2
    exact ⟨u,r,.inr ⟨.inl hk,c,hc,hc'⟩⟩
   ·rw [List.getElem?_set_ne (Ne.symm hj)] at e2
    obtain ⟨u',r',q⟩:=hl j y v' e1 e2 e3
    refine ⟨u',r',?_⟩
    rcases q with q | ⟨k,c',e,z'⟩
    ·exact .inl q
    ·refine .inr ⟨k,c',e,z'.sameBut hs ?_⟩
     rintro rfl
     exact hj (fF hN e1 (I.ok.inj _ _ _ e hc ▸ hi))
  ·by_cases hcc:c'=c
   ·subst hcc;exact ⟨_,hc'⟩
   ·obtain ⟨w2,z2⟩:=I.cell y c' e
    exact ⟨w2,z2.sameBut hs hcc⟩
  ·obtain ⟨e,n,ne,nf,d⟩:=I.pin p hp
   refine ⟨(hs.2 p.1 ?_).trans e,n,ne,nf,d⟩
   intro q
   rw [q,hoc] at e
   have q':oc=p.2:=Option.some.inj e
   exact d w' (by rw [<- q'];exact hocd)
theorem eI {M:Model} {A:Around} {E:Value->Shared->Prop} {i:Nat} {x:Str} {v:V} {u:Value} {Q:Unit->Shared->Prop} (I:ah X pins σ H s) (hN:X.N.Nodup) (hi:X.N[i]?=some x) (hx:pA X.env.scope x) (r:aM v u)
  (h:∀s',ah X pins (σ.set i (some v)) H s'->Q () s') (hf:X.fn x=true\/X.env.scope.names.lookup x=some .local:=by first|exact .inl rfl|exact .inr rfl|assumption):wpAny M A (storeName X.env x u) Q E s :=
 tO I hN hi hx r (fun s' I' _=>h s' I') hf
theorem ah.call' {s':Shared} {ch:List Addr} (I:ah X pins σ H s) (ho:s'.os=s.os) (u:Un (bJ X.stack) ch H H' s.heap s'.heap) (hok:cg X.prog X.w H' s'.heap) (hg:AllBare s'.gens)
  (hch:∀b∈ch,(b∈X.ex\/X.s₀.heap.objs.size<=b)/\b≠X.env.locals/\(∀x c,X.env.cells.lookup x=some c->c≠b)/\∀p∈X.pn++pins,p.1≠b):ah X pins σ H' s':=by
 obtain ⟨h',g',d',t',o'⟩:=s'
 have e:o'=s.os:=ho
 subst e
 exact I.call (g':=g') (t':=t') (d':=d') u hok hg hch
end
abbrev XK:=Value->Option Addr->Hp->Prop
abbrev St:=List (Option V)
abbrev VK:=V->Hp->Prop
abbrev TE:=St->Hp->VK->Prop
abbrev TT:=St->Hp->(Bool->Hp->Prop)->Prop
abbrev TA:=St->Hp->(List V->Hp->Prop)->Prop
structure ib where
 nx:St->Hp->Prop
 rt:VK
 bk:St->Hp->Prop:=fun _ _=>False
 ct:St->Hp->Prop:=fun _ _=>False
abbrev TS:=ib->St->Hp->Prop
def EP (X:Cx) (pins:List (Addr×Obj)) (σ:St) (Q:VK) (u:Value) (s':Shared):Prop:=∃v H',ah X pins σ H' s'/\aM v u/\Q v H'
def TP (X:Cx) (pins:List (Addr×Obj)) (σ:St) (Q:Bool->Hp->Prop) (b:Bool) (s':Shared):Prop:=∃H',ah X pins σ H' s'/\Q b H'
def AP (X:Cx) (pins:List (Addr×Obj)) (σ:St) (Q:List V->Hp->Prop) (us:List Value) (s':Shared):Prop:=∃vs H',ah X pins σ H' s'/\aH vs us/\Q vs H'
def SP (X:Cx) (pins:List (Addr×Obj)) (D:ib) (f:Flow) (s':Shared):Prop :=
 match f with
 | .next => ∃σ' H',ah X pins σ' H' s'/\D.nx σ' H'
 | .brk => ∃σ' H',ah X pins σ' H' s'/\D.bk σ' H'
 | .cont => ∃σ' H',ah X pins σ' H' s'/\D.ct σ' H'
 | .ret u => ∃v σ' H',ah X pins σ' H' s'/\aM v u/\D.rt v H'
def PE (X:Cx) (e:Expr) (t:TE):Prop :=
 ∀(pins:List (Addr×Obj)) (s:Shared) (σ:St) (H:Hp) (Q:VK),ah X pins σ H s->t σ H Q->wpAny (model X.prog X.w) X.A (eval e X.env) (EP X pins σ Q) X.xe s
def PT (X:Cx) (e:Expr) (t:TT):Prop :=
 ∀(pins:List (Addr×Obj)) (s:Shared) (σ:St) (H:Hp) (Q:Bool->Hp->Prop),ah X pins σ H s->t σ H Q->wpAny (model X.prog X.w) X.A (isTrue e X.env (eval e X.env)) (TP X pins σ Q) X.xe s
def PW (X:Cx) (e:Expr) (t:TT):Prop :=
 ∀(whole:Sem Value) (pins:List (Addr×Obj)) (s:Shared) (σ:St) (H:Hp) (Q:Bool->Hp->Prop),ah X pins σ H s->t σ H Q->wpAny (model X.prog X.w) X.A (isTrue e X.env whole) (TP X pins σ Q) X.xe s
theorem PW.pt {X:Cx} {e:Expr} {t:TT} (h:PW X e t):PT X e t:=h _
def PA (X:Cx) (es:List Expr) (t:TA):Prop :=
 ∀(pos:Pos) (pins:List (Addr×Obj)) (s:Shared) (σ:St) (H:Hp) (Q:List V->Hp->Prop),ah X pins σ H s->t σ H Q->wpAny (model X.prog X.w) X.A (spliced (backTo pos (starEach es X.env))) (AP X pins σ Q) X.xe s
def PS (X:Cx) (st:Stmt) (t:TS):Prop :=
 ∀(pins:List (Addr×Obj)) (s:Shared) (σ:St) (H:Hp) (D:ib),ah X pins σ H s->t D σ H->wpAny (model X.prog X.w) X.A (exec st X.env) (SP X pins D) X.xe s
def cT (X:Cx) (st:List Stmt) (t:TS):Prop :=
 ∀(pins:List (Addr×Obj)) (s:Shared) (σ:St) (H:Hp) (D:ib),ah X pins σ H s->t D σ H->wpAny (model X.prog X.w) X.A (execs st X.env) (SP X pins D) X.xe s
theorem aF {α:Type} {t:Sem α} {Q Q':α->Shared->Prop} {M:Model} {A:Around} {E:Value->Shared->Prop} {s:Shared} (h:wpAny M A t Q E s) (hQ:∀a s,Q a s->Q' a s):wpAny M A t Q' E s:=wpAny_mono h hQ fun _ _ x=>x
end L2
namespace L2
open PySem PySem.Spec PyProof.Rows
section
variable {X:Cx}
theorem Fw {a b:Expr} {ta tb:TE} (ha:PE X a ta) (hb:PE X b tb) {pins:List (Addr×Obj)} {s:Shared} {σ:St} {H:Hp} {R:V->V->Hp->Prop} (I:ah X pins σ H s) (h:ta σ H fun x H1=>tb σ H1 fun y H2=>R x y H2)
  {α:Type} {Q:α->Shared->Prop} {f:Value->Value->Sem α}
  (hf:∀v u s2 x y H2,ah X pins σ H2 s2->aM x v->aM y u->R x y H2->wpAny (model X.prog X.w) X.A (f v u) Q X.xe s2) :
  wpAny (model X.prog X.w) X.A (eval a X.env) (fun v s₁=>wpAny (model X.prog X.w) X.A (eval b X.env) (fun u s₂=>wpAny (model X.prog X.w) X.A (f v u) Q X.xe s₂) X.xe s₁) X.xe s:=by
 refine aF (ha pins s σ H _ I h) fun v s1 ⟨x,H1,I1,r1,q1⟩=>?_
 refine aF (hb pins s1 σ H1 _ I1 q1) fun u s2 ⟨y,H2,I2,r2,q2⟩=>?_
 exact hf v u s2 x y H2 I2 r1 r2 q2
def nK (i:Nat):TE:=fun σ H Q => ∃v,σ[i]?=some (some v)/\Q v H
def tC (v:V):TE:=fun _ H Q=>Q v H
theorem iJ {i:Nat} {x:Str} {pos:Pos} (hN:X.N[i]?=some x) (hv:ge X.env.scope x) (hd:(x==("__debug__" : Str))=false:=by decide) (hcd:(x==("__classdict__" : Str))=false:=by decide):PE X (.Name x pos) (nK i):=by
 intro pins s σ H Q I h
 obtain ⟨v,e,h⟩:=h
 obtain ⟨m,hn,hl⟩:=I.loc
 obtain ⟨u,r,l⟩:=hl i x v hN e hv
 have fin:EP X pins σ Q u s:=⟨v,H,I,r,h⟩
 rcases l with ⟨hk,hm⟩ | ⟨hk,c,hc,hcell⟩
 ·exact wpAny_Name (wpAny_loadName_local I.ok.kind hk hn hm fin) hd
 ·rcases hk with hk|hk
  ·exact wpAny_Name (wpAny_loadName_cell I.ok.kind hk hc hcell fin) hd
  ·exact wpAny_Name (wpAny_loadName_free I.ok.kind hk hc hcell fin hcd) hd
theorem Bx {i j pos}:PE X (.Constant (.int i) j pos) (tC (.int i)):=fun _ _ _ H _ I h=>wpAny_Constant_int ⟨.int i,H,I.tok _,⟨_,rfl⟩,h⟩
theorem Ej {b j pos}:PE X (.Constant (.bool b) j pos) (tC (.bl b)):=fun _ _ _ H _ I h=>Constant_bool ⟨.bl b,H,I,rfl,h⟩
theorem Bv {j pos}:PE X (.Constant .none j pos) (tC .non):=fun _ _ _ H _ I h=>Constant_none ⟨.non,H,I,rfl,h⟩
theorem Bs {x j pos}:PE X (.Constant (.str x) j pos) (tC (.str x)):=fun _ _ _ H _ I h=>Calls.Constant_str ⟨.str x,H,I.tok _,⟨_,rfl⟩,h⟩
def Gl (X:Cx) (x:Str):Prop:=X.env.kindOf x=some .globalImplicit
theorem cP {E:Value->Shared->Prop} {pins:List (Addr×Obj)} {s:Shared} {σ:St} {H:Hp} {x:Str} {u:Value} {pos:Pos} {Q:Value->Shared->Prop} (I:ah X pins σ H s) (hg:Gl X x) (hm:X.mg x=some u) (h:Q u s)
  (hd:(x==("__debug__" : Str))=false:=by decide):wpAny (model X.prog X.w) X.A (eval (.Name x pos) X.env) Q E s :=
 Calls.Name_function_global I.ok.kind hg (Calls.loadGlobal_global (by rw [I.ok.glob];exact I.mod.glob.keeps I.bk) hm h) hd
theorem fG {E:Value->Shared->Prop} {pins:List (Addr×Obj)} {s:Shared} {σ:St} {H:Hp} {x:Str} {u:Value} {pos:Pos} {Q:Value->Shared->Prop} (I:ah X pins σ H s) (hg:Gl X x) (hm:X.mg x=none) (hv:bootBuiltins x=some u) (h:Q u s)
  (hn:x ≠ "__name__" := by decide) (hd:(x==("__debug__" : Str))=false:=by decide):wpAny (model X.prog X.w) X.A (eval (.Name x pos) X.env) Q E s:=by
 obtain ⟨mb,h1,h2⟩:=I.mod.blt
 exact Calls.Name_function_global I.ok.kind hg (Calls.loadGlobal_builtin (by rw [I.ok.glob];exact I.mod.glob.keeps I.bk) hm (by rw [I.ok.blt];exact h1.keeps I.bk) ((h2 x hn).trans hv) h) hd
theorem ze {x:Str} {v:V} {u:Value} {pos:Pos} (hg:Gl X x) (hm:X.mg x=some u) (r:aM v u) (hd:(x==("__debug__" : Str))=false:=by decide):PE X (.Name x pos) (tC v) :=
 fun _ _ _ H _ I h=>cP I hg hm ⟨v,H,I,r,h⟩ hd
theorem zg {x:Str} {v:V} {u:Value} {pos:Pos} (hg:Gl X x) (hm:X.mg x=none) (hv:bootBuiltins x=some u) (r:aM v u) (hn:x ≠ "__name__" := by decide) (hd:(x==("__debug__" : Str))=false:=by decide):PE X (.Name x pos) (tC v) :=
 fun _ _ _ H _ I h=>fG I hg hm hv ⟨v,H,I,r,h⟩ hn hd
variable {a b:Expr} {ta tb:TE} {pos:Pos}
def tB (t:TE):TT:=fun σ H Q=>t σ H fun x H1 => ∃c,x=.bl c/\Q c H1
theorem Bh {e:Expr} {t:TE} (h:PE X e t) (he:∀whole,isTrue e X.env whole=(do let v <- whole;standAt e.pos;holding [v] (truthy v)):=by intro _;rfl):PT X e (tB t):=by
 intro pins s σ H Q I hw
 refine isTrue_plain (aF (h pins s σ H _ I hw) fun v s1 ⟨x,H1,I1,r1,q1⟩=>?_) (he _)
 obtain ⟨d,rfl,q⟩:=q1
 cases r1
 exact wpAny_truthy_bool ⟨H1,I1,q⟩
variable {tA tB':TT} {rest:List Expr}
def FT (t u:TT):TT:=fun σ H Q=>t σ H fun c H1=>if c=true then u σ H1 Q else Q false H1
def JY (t u:TT):TT:=fun σ H Q=>t σ H fun c H1=>if c=true then Q true H1 else u σ H1 Q
def FN (t:TT):TT:=fun σ H Q=>t σ H fun c H1=>Q (!c) H1
theorem yW (ha:PT X a tA):PW X (.BoolOp .And [a] pos) tA:=by
 intro wh pins s σ H Q I h
 refine isTrue_and (aF (ha pins s σ H Q I h) fun c s1 e=>?_)
 cases c with
 | true=>exact isTrue_and_nil e
 | false=>exact e
theorem Bg (ha:PT X a tA):PW X (.BoolOp .Or [a] pos) tA:=by
 intro wh pins s σ H Q I h
 refine isTrue_or (aF (ha pins s σ H Q I h) fun c s1 e=>?_)
 cases c with
 | false=>exact isTrue_or_nil e
 | true=>exact e
theorem t8 (ha:PT X a tA) (hb:PW X (.BoolOp .And (b::rest) pos) tB'):PW X (.BoolOp .And (a::b::rest) pos) (FT tA tB'):=by
 intro wh pins s σ H Q I h
 refine isTrue_and (aF (ha pins s σ H _ I h) fun c s1 ⟨H1,I1,q1⟩=>?_)
 cases c with
 | true=>exact hb wh pins s1 σ H1 Q I1 q1
 | false=>exact ⟨H1,I1,q1⟩
theorem xz (ha:PT X a tA) (hb:PW X (.BoolOp .Or (b::rest) pos) tB'):PW X (.BoolOp .Or (a::b::rest) pos) (JY tA tB'):=by
 intro wh pins s σ H Q I h
 refine isTrue_or (aF (ha pins s σ H _ I h) fun c s1 ⟨H1,I1,q1⟩=>?_)
 cases c with
 | true=>exact ⟨H1,I1,q1⟩
 | false=>exact hb wh pins s1 σ H1 Q I1 q1
theorem Bi (ha:PT X a tA):PT X (.UnaryOp .Not a pos) (FN tA):=by
 intro pins s σ H Q I h
 exact isTrue_not (ha pins s σ H (fun c H1=>Q (!c) H1) I h)
def D5 (ta tb:TE):TE:=fun σ H Q=>ta σ H fun x H1 => ∃c,x=.bl c/\if c=true then tb σ H1 Q else Q (.bl false) H1
def FM (ta tb:TE):TE:=fun σ H Q=>ta σ H fun x H1 => ∃c,x=.bl c/\if c=true then Q (.bl true) H1 else tb σ H1 Q
def D1 (ta:TE):TE:=fun σ H Q=>ta σ H fun x H1 => ∃c,x=.bl c/\Q (.bl (!c)) H1
theorem Bt {op} {t:TE} (h:PE X a t):PE X (.BoolOp op [a] pos) t:=fun pins s σ H Q I hw=>BoolOp_one (h pins s σ H Q I hw)
theorem uf (ha:PE X a ta) (hb:PE X (.BoolOp .And (b::rest) pos) tb):PE X (.BoolOp .And (a::b::rest) pos) (D5 ta tb):=by
 intro pins s σ H Q I h
 refine BoolOp_and (aF (ha pins s σ H _ I h) fun v s1 ⟨x,H1,I1,r1,q1⟩=>?_)
 obtain ⟨c,rfl,q1⟩:=q1
 cases r1
 refine wpAny_truthy_bool ?_
 cases c with
 | true=>exact hb pins s1 σ H1 Q I1 q1
 | false=>exact ⟨.bl false,H1,I1,rfl,q1⟩
theorem xB (ha:PE X a ta) (hb:PE X (.BoolOp .Or (b::rest) pos) tb):PE X (.BoolOp .Or (a::b::rest) pos) (FM ta tb):=by
 intro pins s σ H Q I h
 refine BoolOp_or (aF (ha pins s σ H _ I h) fun v s1 ⟨x,H1,I1,r1,q1⟩=>?_)
 obtain ⟨c,rfl,q1⟩:=q1
 cases r1
 refine wpAny_truthy_bool ?_
 cases c with
 | false=>exact hb pins s1 σ H1 Q I1 q1
 | true=>exact ⟨.bl true,H1,I1,rfl,q1⟩
theorem Bu (ha:PE X a ta):PE X (.UnaryOp .Not a pos) (D1 ta):=by
 intro pins s σ H Q I h
 refine UnaryOp_ (aF (ha pins s σ H _ I h) fun v s1 ⟨x,H1,I1,r1,q1⟩=>?_)
 obtain ⟨c,rfl,q1⟩:=q1
 cases r1
 exact not_of (wpAny_truthy_bool ⟨.bl (!c),H1,I1,rfl,q1⟩)
end
end L2
namespace L2
open PySem PySem.Spec PyProof.Rows
def bR (K:W.Frag) (H:Hp) (a:Addr) (xs:List V):Prop :=
 Rd H a (.lst xs) \/
  ∃(o:Obj) (its:Array Value) (n:Nat),K.lookup a=some o/\o.cls=.type "list" /\ o.dict=none/\o.data=.seq its n/\its.size<=sizeLine/\aH xs its.toList
def cj (K:W.Frag) (H:Hp) (a:Addr) (xs:List V):Prop :=
 Rd H a (.tup xs) \/
  ∃(o:Obj) (its:Array Value) (n:Nat),K.lookup a=some o/\o.cls=.type "tuple" /\ o.data=.seq its n/\its.size<=sizeLine/\aH xs its.toList
def JK:Value->Option V
 | .none=>some .non
 | .bool b=>some (.bl b)
 | .int i _=>some (.int i)
 | .str x _=>some (.str x)
 | .bytes b _=>some (.byt b)
 | .float b _=>some (.flt b)
 | .ref a=>some (.ref a)
 | .type n=>some (.ty n)
 | _=>none
theorem aM.abs {x:V} {u:Value} (r:aM x u):JK u=some x:=by
 cases x with
 | non=>cases r;rfl
 | bl _=>cases r;rfl
 | int _=>obtain ⟨t,rfl⟩:=r;rfl
 | str _=>obtain ⟨t,rfl⟩:=r;rfl
 | byt _=>obtain ⟨t,rfl⟩:=r;rfl
 | flt _=>obtain ⟨t,rfl⟩:=r;rfl
 | ref _=>cases r;rfl
 | ty _=>cases r;rfl
theorem aM.inj {x y:V} {u:Value} (r:aM x u) (q:aM y u):x=y:=Option.some.inj (r.abs.symm.trans q.abs)
theorem aH.inj:∀{xs ys:List V} {us:List Value},aH xs us->aH ys us->xs=ys
 | _,_,_,.nil,.nil=>rfl
 | _,_,_,.cons r t,.cons r' t'=>by rw [r.inj r',aH.inj t t']
section
variable {X:Cx} {pins:List (Addr×Obj)} {σ:St} {H:Hp} {s:Shared} {a:Addr} {xs ys:List V}
theorem bR.of {K:W.Frag} (h:H a=some (.lst xs)):bR K H a xs:=.inl (.inl h)
theorem cj.of {K:W.Frag} (h:H a=some (.tup xs)):cj K H a xs:=.inl (.inl h)
theorem ah.list (I:ah X pins σ H s) (h:bR X.K H a xs):∃its:List Value,aH xs its/\PlainL s.heap a its.toArray/\xs.length<=sizeLine:=by
 rcases h with h | ⟨o,its,n,hk,hc,hd,hs,hz,r⟩
 ·obtain ⟨z,its,n,r,e⟩:=h.ok I.hok
  exact ⟨its,r,⟨_,n,e,rfl,rfl,rfl⟩,z⟩
 ·refine ⟨its.toList,r,⟨o,n,I.kIn a o hk,hc,hd,by simpa using hs⟩,?_⟩
  have e:=r.length
  simp only [Array.length_toList] at e
  omega
theorem ah.tuple (I:ah X pins σ H s) (h:cj X.K H a xs):∃its:List Value,aH xs its/\IsTup s.heap a its.toArray/\xs.length<=sizeLine:=by
 rcases h with h | ⟨o,its,n,hk,hc,hs,hz,r⟩
 ·obtain ⟨z,its,r,p⟩:=h.ok I.hok
  exact ⟨its,r,p,z⟩
 ·refine ⟨its.toList,r,⟨o,I.kIn a o hk,hc,n,by simpa using hs⟩,?_⟩
  have e:=r.length
  simp only [Array.length_toList] at e
  omega
theorem ah.list_inj (I:ah X pins σ H s) (h:bR X.K H a xs) (h':bR X.K H a ys):xs=ys:=by
 obtain ⟨its,r,⟨o,n,e,_,_,d⟩,_⟩:=I.list h
 obtain ⟨its',r',⟨o',n',e',_,_,d'⟩,_⟩:=I.list h'
 rw [e] at e';cases e'
 rw [d] at d'
 injection d' with d1 _
 have:its=its':=by simpa using congrArg Array.toList d1
 subst this
 exact r.inj r'
theorem ah.tuple_inj (I:ah X pins σ H s) (h:cj X.K H a xs) (h':cj X.K H a ys):xs=ys:=by
 obtain ⟨its,r,⟨o,e,_,n,d⟩,_⟩:=I.tuple h
 obtain ⟨its',r',⟨o',e',_,n',d'⟩,_⟩:=I.tuple h'
 rw [e] at e';cases e'
 rw [d] at d'
 injection d' with d1 _
 have:its=its':=by simpa using congrArg Array.toList d1
 subst this
 exact r.inj r'
end
abbrev Cx.wish (X:Cx) (E:Value->Shared->Prop):Cx:={ X with xe:=E }
abbrev Cx.nox (X:Cx):Cx:=X.wish fun _ _=>False
theorem Cx.Ok.wish {X:Cx} (ok:X.Ok) (E:Value->Shared->Prop):(X.wish E).Ok :=
 ⟨ok.mod,ok.kind,ok.glob,ok.blt,ok.above,ok.inj,ok.has,ok.cab,ok.hd,ok.frames,ok.stk,ok.exf,ok.bs,ok.bsz,ok.noex,ok.exfs,ok.funs,ok.frf⟩
theorem Cx.Ok.unwish {X:Cx} {E:Value->Shared->Prop} (ok:(X.wish E).Ok):X.Ok :=
 ⟨ok.mod,ok.kind,ok.glob,ok.blt,ok.above,ok.inj,ok.has,ok.cab,ok.hd,ok.frames,ok.stk,ok.exf,ok.bs,ok.bsz,ok.noex,ok.exfs,ok.funs,ok.frf⟩
section
variable {X:Cx} {pins:List (Addr×Obj)} {σ:St} {H:Hp} {s:Shared} {E:Value->Shared->Prop}
theorem ah.wish (I:ah X pins σ H s) (E:Value->Shared->Prop):ah (X.wish E) pins σ H s:=⟨I.ok.wish E,I.os,I.bare,I.base,I.loc,I.cell,I.free,I.freeC,I.pin,I.hok,I.len⟩
theorem ah.unwish (I:ah (X.wish E) pins σ H s):ah X pins σ H s:=⟨I.ok.unwish,I.os,I.bare,I.base,I.loc,I.cell,I.free,I.freeC,I.pin,I.hok,I.len⟩
theorem SP.unwish {D:ib} {f:Flow} {s':Shared} (h:SP (X.wish E) pins D f s'):SP X pins D f s':=by
 cases f with
 | next=>obtain ⟨σ',H',I,q⟩:=h;exact ⟨σ',H',I.unwish,q⟩
 | brk=>obtain ⟨σ',H',I,q⟩:=h;exact ⟨σ',H',I.unwish,q⟩
 | cont=>obtain ⟨σ',H',I,q⟩:=h;exact ⟨σ',H',I.unwish,q⟩
 | ret u=>obtain ⟨v,σ',H',I,r,q⟩:=h;exact ⟨v,σ',H',I.unwish,r,q⟩
theorem PE.nox {e:Expr} {t:TE} (h:PE X.nox e t):PE X e t:=fun pins s σ H Q I hw =>
 wpAny_mono (h pins s σ H Q (I.wish _) hw) (fun _ _ ⟨v,H',I',r,q⟩=>⟨v,H',I'.unwish,r,q⟩) fun _ _ z=>False.elim z
theorem PT.nox {e:Expr} {t:TT} (h:PT X.nox e t):PT X e t:=fun pins s σ H Q I hw =>
 wpAny_mono (h pins s σ H Q (I.wish _) hw) (fun _ _ ⟨H',I',q⟩=>⟨H',I'.unwish,q⟩) fun _ _ z=>False.elim z
theorem cT.nox {st:List Stmt} {t:TS} (h:cT X.nox st t):cT X st t:=fun pins s σ H D I hw =>
 wpAny_mono (h pins s σ H D (I.wish _) hw) (fun _ _ q=>q.unwish) fun _ _ z=>False.elim z
end
section
variable {X:Cx} {st:Stmt} {rest:List Stmt} {t u:TS} {e:Expr} {te:TE} {pos:Pos}
def xm:TS:=fun D σ H=>D.nx σ H
def FJ (t u:TS):TS:=fun D σ H=>t { D with nx:=u D } σ H
theorem yX:cT X [] xm:=fun _ _ σ H _ I h=>wpAny_execs_nil ⟨σ,H,I,h⟩
theorem dM (h1:PS X st t) (h2:cT X rest u):cT X (st::rest) (FJ t u):=by
 intro pins s σ H D I h
 refine wpAny_execs_cons (aF (h1 pins s σ H { D with nx:=u D } I h) fun f s1 q=>?_)
 cases f with
 | next =>
  obtain ⟨σ',H',I',q⟩:=q
  exact h2 pins s1 σ' H' D I' q
 | ret v=>exact q
 | brk=>exact q
 | cont=>exact q
theorem lF (h1:PS X st t):cT X [st] t:=by
 intro pins s σ H D I h
 refine wpAny_execs_cons (aF (h1 pins s σ H D I h) fun f s1 q=>?_)
 cases f with
 | next=>exact wpAny_execs_nil q
 | ret v=>exact q
 | brk=>exact q
 | cont=>exact q
def AO:TS:=fun D σ H=>D.bk σ H
def D3:TS:=fun D σ H=>D.ct σ H
theorem y0:PS X (.Pass pos) xm:=fun _ _ σ H _ I h=>wpAny_Pass ⟨σ,H,I,h⟩
theorem v3:PS X (.Break pos) AO:=fun _ _ σ H _ I h=>wpAny_Break ⟨σ,H,I,h⟩
theorem pI:PS X (.Continue pos) D3:=fun _ _ σ H _ I h=>wpAny_Continue ⟨σ,H,I,h⟩
theorem ah.quiet {pins:List (Addr×Obj)} {σ:St} {H:Hp} {s:Shared} (I:ah X pins σ H s):interactive X.env=false:=by simp [interactive,I.ok.kind]
def D2 (te:TE):TS:=fun D σ H=>te σ H fun _ H1=>D.nx σ H1
theorem jj (he:PE X e te) (hs:swapsWith e none pos.line X.env=pure false:=by rfl):PS X (.Expr e pos) (D2 te):=by
 intro pins s σ H D I h
 exact wpAny_Expr_any (aF (he pins s σ H _ I h) fun v s1 ⟨x,H1,I1,r1,q1⟩=>⟨σ,H1,I1,q1⟩) I.quiet hs
def FK (te:TE):TS:=fun D σ H=>te σ H D.rt
theorem n9 (he:PE X e te):PS X (.Return (some e) pos) (FK te):=by
 intro pins s σ H D I h
 exact wpAny_Return_some (aF (he pins s σ H _ I h) fun v s1 ⟨x,H1,I1,r1,q1⟩=>⟨x,σ,H1,I1,r1,q1⟩)
def DY:TS:=fun D _ H=>D.rt .non H
theorem yZ:PS X (.Return none pos) DY:=fun _ _ σ H _ I h=>wpAny_Return_none ⟨.non,σ,H,I,rfl,h⟩
def FP (c:TT) (t u:TS):TS:=fun D σ H=>c σ H fun b H1=>if b=true then t D σ H1 else u D σ H1
theorem xA {c:Expr} {a b:List Stmt} {tc:TT} (hc:PT X c tc) (ha:cT X a t) (hb:cT X b u):PS X (.If c a b pos) (FP tc t u):=by
 intro pins s σ H D I h
 refine wpAny_If (aF (hc pins s σ H _ I h) fun d s1 ⟨H1,I1,q1⟩=>?_)
 cases d with
 | true=>exact ha pins s1 σ H1 D I1 q1
 | false=>exact hb pins s1 σ H1 D I1 q1
def AM:TS:=fun _ _ _=>False
theorem fX {sts:List Stmt}:cT X sts AM:=fun _ _ _ _ _ _ h=>h.elim
end
abbrev TG:=V->St->Hp->(St->Hp->Prop)->Prop
abbrev lw:=List V->St->Hp->(St->Hp->Prop)->Prop
def PG (X:Cx) (target:Expr) (t:TG):Prop :=
 ∀(pins:List (Addr×Obj)) (s:Shared) (σ:St) (H:Hp) (v:V) (u:Value) (Q:St->Hp->Prop),ah X pins σ H s->aM v u->t v σ H Q ->
  wpAny (model X.prog X.w) X.A (assign target X.env u) (fun _ s' => ∃σ' H',ah X pins σ' H' s'/\Q σ' H') X.xe s
def qT (X:Cx) (ts:List Expr) (t:lw):Prop :=
 ∀(pins:List (Addr×Obj)) (s:Shared) (σ:St) (H:Hp) (vs:List V) (us:List Value) (Q:St->Hp->Prop),ah X pins σ H s->aH vs us->t vs σ H Q ->
  wpAny (model X.prog X.w) X.A (assignInOrder ((assignEach ts X.env).map (·.2)) us) (fun _ s' => ∃σ' H',ah X pins σ' H' s'/\Q σ' H') X.xe s
abbrev sJ:=V->V->V->Hp->(Hp->Prop)->Prop
def DI (X:Cx) (t:sJ):Prop :=
 ∀(pins:List (Addr×Obj)) (s:Shared) (σ:St) (H:Hp) (o i v:V) (ov iv u:Value) (Q:Hp->Prop),ah X pins σ H s->aM o ov->aM i iv->aM v u->t o i v H Q ->
  wpAny (model X.prog X.w) X.A (setItem ov iv u) (fun _ s' => ∃H',ah X pins σ H' s'/\Q H') X.xe s
abbrev DH:=V->V->Hp->VK->Prop
def FB (X:Cx) (op:Operator) (t:DH):Prop :=
 ∀(pins:List (Addr×Obj)) (s:Shared) (σ:St) (H:Hp) (x y:V) (v u:Value) (Q:VK),ah X pins σ H s->aM x v->aM y u->t x y H Q ->
  wpAny (model X.prog X.w) X.A (inplaceOp op v u) (EP X pins σ Q) X.xe s
section
variable {X:Cx} {pos:Pos}
def xT (i:Nat):TG:=fun v σ H Q=>Q (σ.set i (some v)) H
theorem gC {i:Nat} {x:Str} (hN:X.N.Nodup) (hi:X.N[i]?=some x) (hx:pA X.env.scope x) (hf:X.fn x=true\/X.env.scope.names.lookup x=some .local:=by first|exact .inl rfl|exact .inr rfl|assumption):PG X (.Name x pos) (xT i):=by
 intro pins s σ H v u Q I r h
 exact wpAny_assign_Name (eI I hN hi hx r (fun s' I'=>⟨_,H,I',h⟩) hf)
def Iu:lw:=fun vs σ H Q=>vs=[]/\Q σ H
def EU (t:TG) (u:lw):lw:=fun vs σ H Q => ∃v r,vs=v::r/\t v σ H fun σ' H'=>u r σ' H' Q
theorem qe:qT X [] Iu:=by
 intro pins s σ H vs us Q I r h
 obtain ⟨e,h⟩:=h
 subst e
 cases r
 exact assignInOrder_nil ⟨σ,H,I,h⟩
theorem jW {e:Expr} {es:List Expr} {t:TG} {u:lw} (h1:PG X e t) (h2:qT X es u)
  (hs:(assignEach (e::es) X.env).map (·.2)=assign e X.env::(assignEach es X.env).map (·.2):=by rfl):qT X (e::es) (EU t u):=by
 intro pins s σ H vs us Q I r h
 obtain ⟨v,vr,e1,h⟩:=h
 subst e1
 cases r with
 | cons r rr =>
  rw [hs]
  refine assignInOrder_cons (aF (h1 pins s σ H _ _ _ I r h) fun _ s1 ⟨σ1,H1,I1,q1⟩=>?_)
  exact h2 pins s1 σ1 H1 _ _ Q I1 rr q1
def Iq (K:W.Frag) (n:Nat) (t:lw):TG:=fun v σ H Q => ∃a xs,v=.ref a/\cj K H a xs/\xs.length=n/\t xs σ H Q
theorem oa {es:List Expr} {k:Nat} {t:lw} {n:Nat} (hc:X.calm=true) (h:qT X es t)
  (hn:(assignEach es X.env).length=n:=by rfl) (hst:(assignEach es X.env).findIdx? (·.1)=none:=by rfl):PG X (.Tuple es k pos) (Iq X.K n t):=by
 intro pins s σ H v u Q I r hw
 obtain ⟨a,xs,e1,hq,hl,hw⟩:=hw
 subst e1
 cases r
 obtain ⟨its,rv,ht,hz⟩:=I.tuple hq
 refine assign_Tuple_tuple (I.ok.hd hc) ht (by simp [hn,<- hl,rv.length]) hst fun h' hx=>?_
 have I1:ah X pins σ H { s with heap:=h' }:=I.kept (t':=s.toks) fun b o e=>hx b o (Nat.ne_of_lt (Heap.lt_size e)) e
 exact h pins _ σ H xs _ Q I1 (by simpa using rv) hw
def Ir (to ti:TE) (t:sJ):TG:=fun v σ H Q=>to σ H fun o H1=>ti σ H1 fun i H2=>t o i v H2 fun H3=>Q σ H3
theorem Bp {o i:Expr} {to ti:TE} {t:sJ} (ho:PE X o to) (hi:PE X i ti) (hs:DI X t)
  (ha:∀v,assign (.Subscript o i pos) X.env v=(do
   let ov <- holding [v] (eval o X.env)
   let iv <- holding [v,ov] (eval i X.env)
   standAt pos
   holding [v,ov,iv] (setItem ov iv v)
   release [v,ov,iv] []):=by intro _;rfl):PG X (.Subscript o i pos) (Ir to ti t):=by
 intro pins s σ H v u Q I r h
 rw [ha]
 refine wpAny_bind (wpAny_holding (aF (ho pins s σ H _ I h) fun ov s1 ⟨x,H1,I1,r1,q1⟩=>?_))
 refine wpAny_bind (wpAny_holding (aF (hi pins s1 σ H1 _ I1 q1) fun iv s2 ⟨y,H2,I2,r2,q2⟩=>?_))
 refine wpAny_bind (wpAny_standAt (wpAny_bind (wpAny_holding (aF (hs pins s2 σ H2 x y v ov iv u _ I2 r1 r2 r q2) fun _ s3 ⟨H3,I3,q3⟩=>?_))))
 exact wpAny_release ⟨σ,H3,I3,q3⟩
def AQ (te:TE) (g:TG):TS:=fun D σ H=>te σ H fun x H1=>g x σ H1 D.nx
theorem kG {tg e:Expr} {te:TE} {g:TG} (he:PE X e te) (hg:PG X tg g) (hs:swapsWithSole [tg] e pos.line X.env=pure false:=by rfl) (hw:swappedStores [tg] e X.env=pure none:=by rfl)
  (h1:(assignEach [tg] X.env).map (·.2)=[assign tg X.env]:=by rfl):PS X (.Assign [tg] e pos) (AQ te g):=by
 intro pins s σ H D I h
 refine wpAny_Assign_stores (aF (he pins s σ H _ I h) fun v s1 ⟨x,H1,I1,r1,q1⟩=>?_) hs hw
 rw [h1]
 exact aF (hg pins s1 σ H1 x v _ I1 r1 q1) fun _ s2 q=>q
theorem t9 {i:Nat} {x:Str} {e:Expr} {te:TE} {pos':Pos} (hN:X.N.Nodup) (hi:X.N[i]?=some x) (hx:pA X.env.scope x) (he:PE X e te) (hs:swapsWith e (some (.Name x pos')) pos.line X.env=pure false:=by rfl) (hf:X.fn x=true\/X.env.scope.names.lookup x=some .local:=by first|exact .inl rfl|exact .inr rfl|assumption) :
  PS X (.Assign [.Name x pos'] e pos) (AQ te (xT i)):=by
 intro pins s σ H D I h
 refine wpAny_Assign_Name (aF (he pins s σ H _ I h) fun v s1 ⟨y,H1,I1,r1,q1⟩=>?_) hs
 exact eI I1 hN hi hx r1 (fun s2 I2=>⟨_,H1,I2,q1⟩) hf
def FL (i j:Nat) (ta:TA):TS:=fun D σ H=>ta σ H fun vs H1 => ∃v w,vs=[v,w]/\D.nx ((σ.set i (some v)).set j (some w)) H1
theorem Bj {i j:Nat} {x y:Str} {a b:Expr} {ta:TA} {px py pt:Pos} {kt k2 pt2} (hc:X.calm=true) (hN:X.N.Nodup) (hi:X.N[i]?=some x) (hj:X.N[j]?=some y) (hij:i≠j)
  (hx:X.env.scope.names.lookup x=some .local) (hy:X.env.scope.names.lookup y=some .local) (ha:PA X [a,b] ta)
  (hw:swappedStores [.Tuple [.Name x px,.Name y py] kt pt] (.Tuple [a,b] k2 pt2) X.env=pure (some [x,y]))
  (hs:swapsWithSole [.Tuple [.Name x px,.Name y py] kt pt] (.Tuple [a,b] k2 pt2) pos.line X.env=pure false:=by rfl) :
  PS X (.Assign [.Tuple [.Name x px,.Name y py] kt pt] (.Tuple [a,b] k2 pt2) pos) (FL i j ta):=by
 intro pins s σ H D I h
 rw [exec_Assign_arm]
 refine wpAny_bind (wpAny_standAt ?_)
 rw [hs]
 refine wpAny_bind (wpAny_pure ?_)
 rw [if_neg (by decide)]
 refine wpAny_bind (Tuple_ (aF (ha _ pins s σ H _ I h) fun us s1 ⟨vs,H1,I1,r1,q1⟩=>?_))
 obtain ⟨v,w,e1,q1⟩:=q1
 subst e1
 obtain ⟨u1,u2,rfl,rv,rw'⟩:∃u1 u2,us=[u1,u2]/\aM v u1/\aM w u2:=by
  cases r1 with
  | cons p q =>
   cases q with
   | cons p' q' =>
    cases q'
    exact ⟨_,_,rfl,p,p'⟩
 refine wpAny_newObj_type ?_ (by show 2<=sizeLine;decide)
 have I2:ah X pins σ H1 { s1 with heap:=s1.heap.push { cls:=.type "tuple", data:=.seq [u1,u2].toArray } }:=I1.kept (t':=s1.toks) fun b o e=>Heap.get?_push_of_some _ e
 rw [hw]
 refine wpAny_bind (wpAny_pure ?_)
 show wpAny (model X.prog X.w) X.A (do rule "assign.swapped-stores"; let items <- unpackItems (.ref s1.heap.objs.size) 2 none;assignInOrder [fun v=>bindName X.env y v,fun v=>bindName X.env x v] items.reverse;pure Flow.next) _ _ _
 refine wpAny_bind (wpAny_rule (wpAny_bind (unpackItems_tuple (items:=#[u1,u2]) (I.ok.hd hc) (IsTup.new s1.heap _) fun h' hx'=>?_)))
 have I3:=I2.kept (h':=h') (t':=s1.toks) fun b o e=>hx' b o (Nat.ne_of_lt (Heap.lt_size e)) e
 show wpAny _ _ (assignInOrder [fun v=>bindName X.env y v,fun v=>bindName X.env x v] [u2,u1] >>= fun _=>pure Flow.next) _ _ _
 refine wpAny_bind (assignInOrder_cons (wpAny_bindName (eI I3 hN hj (.inl hy) rw' (fun s2 I4=>?_) (.inr hy))))
 refine assignInOrder_cons (wpAny_bindName (eI I4 hN hi (.inl hx) rv (fun s3 I5=>assignInOrder_nil (wpAny_pure ?_)) (.inr hx)))
 rw [List.set_comm _ _ (Ne.symm hij)] at I5
 exact ⟨_,H1,I5,q1⟩
def FS (i:Nat) (te:TE) (ti:DH):TS:=fun D σ H => ∃x,σ[i]?=some (some x)/\te σ H fun y H1=>ti x y H1 fun z H2=>D.nx (σ.set i (some z)) H2
theorem Bl {i:Nat} {x:Str} {e:Expr} {te:TE} {op:Operator} {ti:DH} {pos':Pos} (hN:X.N.Nodup) (hi:X.N[i]?=some x) (hx:pA X.env.scope x) (he:PE X e te) (ho:FB X op ti) (hf:X.fn x=true\/X.env.scope.names.lookup x=some .local:=by first|exact .inl rfl|exact .inr rfl|assumption) :
  PS X (.AugAssign (.Name x pos') op e pos) (FS i te ti):=by
 intro pins s σ H D I h
 obtain ⟨v,e1,h⟩:=h
 obtain ⟨m,hn,hl⟩:=I.loc
 have vis:ge X.env.scope x:=by rcases hx with k|k;exact .inl k;exact .inr (.inl k)
 obtain ⟨u,r,l⟩:=hl i x v hi e1 vis
 refine wpAny_AugAssign_Name ?_
 have go:wpAny (model X.prog X.w) X.A (eval e X.env) (fun w s₂=>wpAny (model X.prog X.w) X.A (inplaceOp op u w) (fun r s₃=>wpAny (model X.prog X.w) X.A (storeName X.env x r) (fun _=>SP X pins D .next) X.xe s₃) X.xe s₂) X.xe s:=by
  refine aF (he pins s σ H _ I h) fun w s1 ⟨y,H1,I1,r1,q1⟩=>?_
  refine aF (ho pins s1 σ H1 v y u w _ I1 r r1 q1) fun z s2 ⟨zv,H2,I2,r2,q2⟩=>?_
  exact eI I2 hN hi hx r2 (fun s3 I3=>⟨_,H2,I3,q2⟩) hf
 rcases l with ⟨hk,hm⟩ | ⟨hk,c,hc,hcell⟩
 ·exact wpAny_loadName_local I.ok.kind hk hn hm go
 ·rcases hk with hk|hk
  ·exact wpAny_loadName_cell I.ok.kind hk hc hcell go
  ·rcases hx with k|k
   ·have:X.env.scope.names.lookup x=some .free:=hk
    rw [k] at this;cases this
   ·have:X.env.scope.names.lookup x=some .free:=hk
    rw [k] at this;cases this
end
section
variable {X:Cx} {pos:Pos}
def AL (c:TT) (tb:TS):TS:=fun D σ H => ∃W:Nat->St->Hp->Prop,(∃m,W m σ H)/\∀m σ H,W m σ H ->
 c σ H fun b H1=>if b=true then ∃N:St->Hp->Prop,(∀σ' H',N σ' H'->∃m',m' < m/\W m' σ' H')/\tb { D with nx:=N,ct:=N,bk:=D.nx } σ H1 else D.nx σ H1
theorem v0 {c:Expr} {body:List Stmt} {tc:TT} {tb:TS} (hp:PassesOwn (model X.prog X.w) X.A X.env X.xe) (hc:PT X c tc) (hb:cT X body tb):PS X (.While c body [] pos) (AL tc tb):=by
 intro pins s σ H D I h
 obtain ⟨W,⟨m0,w0⟩,turn⟩:=h
 refine wpAny_While (codeAny_whileLoop (fun n s' => ∃σ' H',ah X pins σ' H' s'/\W n σ' H') ?_ m0 ⟨σ,H,I,w0⟩)
 rintro n s1 ⟨σ1,H1,I1,w1⟩
 refine wpAny_passesOwn hp (aF (hc pins s1 σ1 H1 _ I1 (turn n σ1 H1 w1)) fun b s2 ⟨H2,I2,q2⟩=>?_)
 cases b with
 | true =>
  obtain ⟨N,hN,q2⟩:=q2
  rw [if_pos rfl]
  refine wpAny_passesOwn hp (aF (hb pins s2 σ1 H2 _ I2 q2) fun f s3 q3=>?_)
  cases f with
  | next =>
   obtain ⟨σ3,H3,I3,n3⟩:=q3
   obtain ⟨m',hm,w3⟩:=hN σ3 H3 n3
   exact ⟨m',hm,σ3,H3,I3,w3⟩
  | cont =>
   obtain ⟨σ3,H3,I3,n3⟩:=q3
   obtain ⟨m',hm,w3⟩:=hN σ3 H3 n3
   exact ⟨m',hm,σ3,H3,I3,w3⟩
  | brk=>exact q3
  | ret v=>exact q3
 | false =>
  rw [if_neg Bool.false_ne_true]
  exact wpAny_execs_nil ⟨σ1,H2,I2,q2⟩
end
structure It where
 go:Nat->Hp->Prop
 yld:Nat->Hp->V->Hp->Prop
 stop:Nat->Hp->Prop
def fi (X:Cx) (pins:List (Addr×Obj)) (H:Hp) (b:Addr):Prop :=
 H b=none/\b≠X.env.locals/\b∉X.fs/\(b∈X.ex\/X.s₀.heap.objs.size<=b)/\(∀x c,X.env.cells.lookup x=some c->c≠b)/\∀p∈X.pn++pins,p.1≠b
theorem ah.fpOk {X:Cx} {pins:List (Addr×Obj)} {σ:St} {H H':Hp} {s:Shared} {b:Addr} (I:ah X pins σ H s) (hb:s.heap.objs.size<=b) (hn:H' b=none):fi X pins H' b:=by
 refine ⟨hn,Nat.ne_of_gt (Nat.lt_of_lt_of_le I.lt hb),I.nofs hb,.inr (Nat.le_trans I.sz hb),fun x c e z=>?_,fun p hp z=>?_⟩
 ·obtain ⟨v,q⟩:=I.cell x c e
  exact absurd (Nat.lt_of_lt_of_le q.lt (by rw [z];exact hb)) (Nat.lt_irrefl _)
 ·exact absurd (Nat.lt_of_lt_of_le (Heap.lt_size (I.pin p hp).1) (by rw [z];exact hb)) (Nat.lt_irrefl _)
structure Turn (P:Program) (w:World) (K:W.Frag) (tg:Expr) (J:It) (fp:List Addr) (it:Addr) (tn:Nat->Heap->Prop):Prop where
 mem:it∈fp
 obj:∀i h,tn i h->∀b∈fp,∃o,h.get? b=some o/\∀v,o.data ≠ .cell v
 keep:∀i h h',tn i h->(∀b∈fp,∀o,h.get? b=some o->h'.get? b=some o)->tn i h'
 item:∀(X:Cx),X.prog=P->X.w=w->X.K=K->X.calm=true->∀(i:Nat) (pins:List (Addr×Obj)) (s:Shared) (σ:St) (H:Hp) (E:Value->Shared->Prop),ah X pins σ H s->(∀b∈fp,fi X pins H b)->tn i s.heap->J.go i H ->
  wpAny (model P w) X.A (pyNext (.ref it)) (fun r s1 => ∃u,r=some u /\
   wpAny (model P w) X.A (letOwnedTupleGo tg (.ref it) u) (fun _ s2 => ∃x H',ah X pins σ H' s2/\aM x u/\J.yld i H x H'/\tn (i+1) s2.heap/\∀b∈fp,H' b=none) E s1) E s
 done:∀(X:Cx),X.prog=P->X.w=w->X.K=K->X.calm=true->∀(i:Nat) (pins:List (Addr×Obj)) (s:Shared) (σ:St) (H:Hp) (E:Value->Shared->Prop),ah X pins σ H s->(∀b∈fp,fi X pins H b)->tn i s.heap->J.stop i H ->
  wpAny (model P w) X.A (pyNext (.ref it)) (fun r s1=>r=none/\ah X pins σ H s1) E s
 self:∀(A:Around) (i:Nat) (s:Shared) (Q:Value->Shared->Prop) (E:Value->Shared->Prop),tn i s.heap->Q (.ref it) s->wpAny (model P w) A (pyIter (.ref it)) Q E s
abbrev TI:=St->Hp->(It->Hp->Prop)->Prop
def FC (X:Cx) (pins:List (Addr×Obj)) (σ:St) (tg:Expr) (R:It->Hp->Prop) (itv:Value) (s2:Shared):Prop :=
 ∃(it:Addr) (fp:List Addr) (tn:Nat->Heap->Prop) (J:It) (H':Hp),itv=.ref it/\ah X pins σ H' s2/\Turn X.prog X.w X.K tg J fp it tn/\tn 0 s2.heap/\(∀b∈fp,fi X pins H' b)/\R J H'
def PI (X:Cx) (tg iter:Expr) (wi:TI):Prop :=
 ∀(pins:List (Addr×Obj)) (s:Shared) (σ:St) (H:Hp) (R:It->Hp->Prop),ah X pins σ H s->wi σ H R ->
  wpAny (model X.prog X.w) X.A (eval iter X.env) (fun v s1=>wpAny (model X.prog X.w) X.A (pyIter v) (FC X pins σ tg R) X.xe s1) X.xe s
theorem nk {M:Model} {A:Around} {E:Value->Shared->Prop} {s:Shared} {tg:Expr} {it:Addr} {u:Value} {o:Obj} {n:String} {vs:Array Value} {Q:Unit->Shared->Prop} (ho:s.heap.get? it=some o) (hc:o.cls=.type n) (hd:o.data=.fields vs)
    (hn:["enumerate", "zip", "dict_itemiterator", "dict_reverseitemiterator", "odict_iterator", "itertools.zip_longest", "itertools.pairwise"].contains n=false) (hQ:Q () s):wpAny M A (letOwnedTupleGo tg (.ref it) u) Q E s:=by
  unfold letOwnedTupleGo
  cases tg <;> first
    | exact wpAny_pure hQ
    | (cases u <;> first
        | exact wpAny_pure hQ
        | (refine wpAny_bind (wpAny_load ho ?_)
           rw [hc,hd]
           show wpAny M A (if (["enumerate", "zip", "dict_itemiterator", "dict_reverseitemiterator", "odict_iterator", "itertools.zip_longest", "itertools.pairwise"].contains n&&vs[0]? == some (rawInt _))=true then _ else _) Q E s
           rw [if_neg (by intro h;rw [hn,Bool.false_and] at h;cases h)]
           exact wpAny_pure hQ))
def FE (K:W.Frag) (a:Addr):It :=
 ⟨fun i H => ∃xs x,bR K H a xs/\xs[i]?=some x,fun i H x H'=>H'=H/\∀xs,bR K H a xs->xs[i]?=some x,fun i H => ∃xs,bR K H a xs/\xs.length<=i⟩
def FD (K:W.Frag) (a:Addr):It :=
 ⟨fun i H => ∃xs x,cj K H a xs/\xs[i]?=some x,fun i H x H'=>H'=H/\∀xs,cj K H a xs->xs[i]?=some x,fun i H => ∃xs,cj K H a xs/\xs.length<=i⟩
def yr (lo:Int) (n:Nat):It:=⟨fun i _=>i < n,fun i H x H'=>H'=H/\x=.int (lo+i),fun i _=>n<=i⟩
theorem tq {P:Program} {w:World} {K:W.Frag} {tg:Expr} (a it:Addr):Turn P w K tg (FE K a) [it] it (fun i h=>h.IsListIter it a i) where
 mem:=by simp
 obj:=fun i h st b hb=>by
  have e:b=it:=by simpa using hb
  subst e
  obtain ⟨o,e,c,d⟩:=st
  exact ⟨o,e,fun v z=>by rw [d] at z;cases z⟩
 keep:=fun i h h' st k=>st.at fun o e=>k it (by simp) o e
 item:=by
  intro X hP hw hK hc i pins s σ H E I hf st hg
  subst hP hw hK
  obtain ⟨xs,x,hq,hx⟩:=hg
  obtain ⟨its,rv,p,hz⟩:=I.list hq
  obtain ⟨u,hu,ru⟩:=rv.get hx
  obtain ⟨f0,f1,f2,f3,f4,f5⟩:=hf it (by simp)
  refine wpAny_pyNext_list_item st p.isList (x:=u) (by simpa using hu) fun h' st' sb=>?_
  have I1:ah X pins σ H { s with heap:=h' }:=I.turned (t':=s.toks) (fun b o hb e=>(sb.2 b hb).trans e) f0 f1 f3 f4 f5
  obtain ⟨o,e,c,d⟩:=id st'
  exact ⟨u,rfl,nk (s:={ s with heap:=h' }) e c d (by decide) ⟨x,H,I1,ru,⟨rfl,fun ys hy=>by rw [I.list_inj hy hq];exact hx⟩,st',fun b hb=>(hf b hb).1⟩⟩
 done:=by
  intro X hP hw hK hc i pins s σ H E I hf st hg
  subst hP hw hK
  obtain ⟨xs,hq,hx⟩:=hg
  obtain ⟨its,rv,p,hz⟩:=I.list hq
  obtain ⟨f0,f1,f2,f3,f4,f5⟩:=hf it (by simp)
  have hl:=rv.length
  exact wpAny_pyNext_list_end (I.ok.hd hc) st p.isList (by simp;omega) fun h' eb=>⟨rfl,I.turned (t':=s.toks) (fun b o hb e=>eb b o hb e) f0 f1 f3 f4 f5⟩
 self:=fun _ _ _ _ _ st h=>wpAny_pyIter_listiter st h
theorem qX {P:Program} {w:World} {K:W.Frag} {tg:Expr} (a it:Addr):Turn P w K tg (FD K a) [it] it (fun i h=>h.IsTupleIter it a i) where
 mem:=by simp
 obj:=fun i h st b hb=>by
  have e:b=it:=by simpa using hb
  subst e
  obtain ⟨o,e,c,d⟩:=st
  exact ⟨o,e,fun v z=>by rw [d] at z;cases z⟩
 keep:=fun i h h' st k=>st.at fun o e=>k it (by simp) o e
 item:=by
  intro X hP hw hK hc i pins s σ H E I hf st hg
  subst hP hw hK
  obtain ⟨xs,x,hq,hx⟩:=hg
  obtain ⟨its,rv,p,hz⟩:=I.tuple hq
  obtain ⟨u,hu,ru⟩:=rv.get hx
  obtain ⟨f0,f1,f2,f3,f4,f5⟩:=hf it (by simp)
  refine wpAny_pyNext_tuple_item st (show s.heap.IsTuple a its.toArray from p) (x:=u) (by simpa using hu) fun h' st' sb=>?_
  have I1:ah X pins σ H { s with heap:=h' }:=I.turned (t':=s.toks) (fun b o hb e=>(sb.2 b hb).trans e) f0 f1 f3 f4 f5
  obtain ⟨o,e,c,d⟩:=id st'
  exact ⟨u,rfl,nk (s:={ s with heap:=h' }) e c d (by decide) ⟨x,H,I1,ru,⟨rfl,fun ys hy=>by rw [I.tuple_inj hy hq];exact hx⟩,st',fun b hb=>(hf b hb).1⟩⟩
 done:=by
  intro X hP hw hK hc i pins s σ H E I hf st hg
  subst hP hw hK
  obtain ⟨xs,hq,hx⟩:=hg
  obtain ⟨its,rv,p,hz⟩:=I.tuple hq
  obtain ⟨f0,f1,f2,f3,f4,f5⟩:=hf it (by simp)
  have hl:=rv.length
  exact wpAny_pyNext_tuple_end (I.ok.hd hc) st (show s.heap.IsTuple a its.toArray from p) (by simp;omega) fun h' eb=>⟨rfl,I.turned (t':=s.toks) (fun b o hb e=>eb b o hb e) f0 f1 f3 f4 f5⟩
 self:=fun _ _ _ _ _ st h=>wpAny_pyIter_tupleiter st h
theorem qY {P:Program} {w:World} {K:W.Frag} {tg:Expr} (it:Addr) (lo:Int) (n:Nat):Turn P w K tg (yr lo n) [it] it (fun i h=>IsRangeIter h it (lo+(i:Nat)*1) ((n:Int) - (i:Nat)) 1) where
 mem:=by simp
 obj:=fun i h st b hb=>by
  have e:b=it:=by simpa using hb
  subst e
  exact ⟨_,st,fun v z=>by
   have z':Data.fields _=Data.cell v:=z
   cases z'⟩
 keep:=fun i h h' st k=>k it (by simp) _ st
 item:=by
  intro X hP hw hK hc i pins s σ H E I hf st hg
  subst hP hw hK
  obtain ⟨f0,f1,f2,f3,f4,f5⟩:=hf it (by simp)
  have W:=Walks.range (prog:=X.prog) (w:=X.w) (I.ok.hd hc) it lo 1 n
  refine W.item i s _ _ hg st fun v h' tk hv st' kk=>?_
  obtain ⟨t,rfl⟩:=hv
  have I1:ah X pins σ H { s with heap:=h',toks:=tk }:=I.turned (fun b o hb e=>kk b o (by simpa using hb) e) f0 f1 f3 f4 f5
  refine ⟨_,rfl,nk (s:={ s with heap:=h',toks:=tk }) (n := "range_iterator") st' rfl rfl (by decide) ⟨.int (lo+i),H,I1,⟨t,?_⟩,⟨rfl,rfl⟩,st',fun b hb=>(hf b hb).1⟩⟩
  rw [Int.mul_one]
 done:=by
  intro X hP hw hK hc i pins s σ H E I hf st hg
  subst hP hw hK
  obtain ⟨f0,f1,f2,f3,f4,f5⟩:=hf it (by simp)
  exact wpAny_pyNext_range_end (I.ok.hd hc) st (by have:n<=i:=hg;omega) fun h' eb=>⟨rfl,I.turned (t':=s.toks) (fun b o hb e=>eb b o hb e) f0 f1 f3 f4 f5⟩
 self:=fun _ _ _ _ _ st h=>wpAny_pyIter_rangeiter st h
end L2
namespace L2
open PySem PySem.Spec PyProof.Rows
section
variable {X:Cx} {tg:Expr}
def EQ (K:W.Frag) (tl:TE):TI:=fun σ H R=>tl σ H fun x H1 => ∃a,x=.ref a/\(∃xs,bR K H1 a xs)/\R (FE K a) H1
def Io (K:W.Frag) (tl:TE):TI:=fun σ H R=>tl σ H fun x H1 => ∃a,x=.ref a/\(∃xs,cj K H1 a xs)/\R (FD K a) H1
theorem zc {l:Expr} {tl:TE} (hl:PE X l tl):PI X tg l (EQ X.K tl):=by
 intro pins s σ H R I h
 refine aF (hl pins s σ H _ I h) fun v s1 ⟨x,H1,I1,r1,q1⟩=>?_
 obtain ⟨a,e,⟨xs,hq⟩,q⟩:=q1
 subst e
 cases r1
 obtain ⟨its,rv,p,hz⟩:=I1.list hq
 refine wpAny_pyIter_list p.isList ?_
 refine ⟨s1.heap.objs.size,[s1.heap.objs.size],_,_,H1,rfl,I1.kept (t':=s1.toks) fun b o e=>Heap.get?_push_of_some _ e,tq a _,⟨_,Heap.get?_push_size _ rfl,rfl,rfl⟩,fun b hb=>?_,q⟩
 have e:b=s1.heap.objs.size:=by simpa using hb
 subst e
 exact I1.fpOk (Nat.le_refl _) (I1.hok.fresh (Nat.le_refl _))
theorem Bo {l:Expr} {tl:TE} (hl:PE X l tl):PI X tg l (Io X.K tl):=by
 intro pins s σ H R I h
 refine aF (hl pins s σ H _ I h) fun v s1 ⟨x,H1,I1,r1,q1⟩=>?_
 obtain ⟨a,e,⟨xs,hq⟩,q⟩:=q1
 subst e
 cases r1
 obtain ⟨its,rv,p,hz⟩:=I1.tuple hq
 refine wpAny_pyIter_tuple (show s1.heap.IsTuple a its.toArray from p) ?_
 refine ⟨s1.heap.objs.size,[s1.heap.objs.size],_,_,H1,rfl,I1.kept (t':=s1.toks) fun b o e=>Heap.get?_push_of_some _ e,qX a _,⟨_,Heap.get?_push_size _ rfl,rfl,rfl⟩,fun b hb=>?_,q⟩
 have e:b=s1.heap.objs.size:=by simpa using hb
 subst e
 exact I1.fpOk (Nat.le_refl _) (I1.hok.fresh (Nat.le_refl _))
theorem n5 {pins:List (Addr×Obj)} {σ:St} {H:Hp} {s:Shared} {R:It->Hp->Prop} {E:Value->Shared->Prop} {lo hi:Int} {t u v:Tok} {tk:Nat} (I:ah X pins σ H s) (h1:-(2 ^ 62)<=lo) (h2:lo < 2 ^ 62) (h3:-(2 ^ 62)<=hi) (h4:hi < 2 ^ 62)
  (q:R (yr lo (hi - lo).toNat) H):wpAny (model X.prog X.w) X.A (pyIter (.ref s.heap.objs.size)) (FC X pins σ tg R) E { s with heap:=s.heap.push { cls:=.type "range", data:=.fields #[.int lo t,.int hi u,.int 1 v] },toks:=tk }:=by
 refine wpAny_pyIter_range (IsRange.new ..) (small_one h1 h2 h3 h4) ?_
 have I1:ah X pins σ H { s with heap:=s.heap.push { cls:=.type "range", data:=.fields #[.int lo t,.int hi u,.int 1 v] },toks:=tk }:=I.kept fun b o e=>Heap.get?_push_of_some _ e
 refine ⟨(s.heap.push { cls:=.type "range", data:=.fields #[.int lo t,.int hi u,.int 1 v] }).objs.size,[(s.heap.push { cls:=.type "range", data:=.fields #[.int lo t,.int hi u,.int 1 v] }).objs.size],_,_,H,rfl,
  I1.kept (t':=tk) fun b o e=>Heap.get?_push_of_some _ e,qY _ lo (hi - lo).toNat,?_,fun b hb=>?_,q⟩
 ·have e1:lo+((0:Nat):Int)*1=lo:=by simp
  have e2:(((hi - lo).toNat:Nat):Int) - ((0:Nat):Int)=Builtin.Range.rangeSize lo hi 1:=by rw [rangeSize_one];split <;> omega
  show IsRangeIter _ _ (lo+((0:Nat):Int)*1) ((((hi - lo).toNat:Nat):Int) - ((0:Nat):Int)) 1
  rw [e1,e2]
  exact Heap.get?_push_size _ rfl
 ·have e:b=(s.heap.push { cls:=.type "range", data:=.fields #[.int lo t,.int hi u,.int 1 v] }).objs.size:=by simpa using hb
  subst e
  exact I1.fpOk (Nat.le_refl _) (I1.hok.fresh (Nat.le_refl _))
def EO (ta:TA):TI:=fun σ H R=>ta σ H fun vs H1 => ∃j:Int,vs=[.int j] /\ -(2 ^ 62)<=j/\j < 2 ^ 62/\R (yr 0 j.toNat) H1
def EN (ta:TA):TI:=fun σ H R=>ta σ H fun vs H1 => ∃i j:Int,vs=[.int i,.int j]/\(-(2 ^ 62)<=i/\i < 2 ^ 62 /\ -(2 ^ 62)<=j/\j < 2 ^ 62)/\R (yr i (j - i).toNat) H1
theorem ud {a:Expr} {ta:TA} {p pos:Pos} (hg:Gl X "range") (hm:X.mg "range" = none) (ha:PA X [a] ta) (hs:starEach [a] X.env=[(false,eval a X.env)]:=by rfl):PI X tg (.Call (.Name "range" p) [a] [] pos) (EO ta):=by
 intro pins s σ H R I h
 refine Call_ (fG I hg hm boot_range (PyProof.Rows.callWith_type1 (aF (ha pos pins s σ H _ I h) fun us s1 ⟨vs,H1,I1,r1,q1⟩=>?_) hs rfl))
 obtain ⟨j,e,q1,q2,q⟩:=q1
 subst e
 cases r1 with
 | cons r rr =>
  cases rr
  obtain ⟨t,rfl⟩:=r
  exact call_range_1 (n5 I1 (by omega) (by omega) q1 q2 (by simpa using q))
theorem uc {a b:Expr} {ta:TA} {p pos:Pos} (hg:Gl X "range") (hm:X.mg "range" = none) (ha:PA X [a,b] ta) (hs:starEach [a,b] X.env=[(false,eval a X.env),(false,eval b X.env)]:=by rfl) (hs2:starEach [b] X.env=[(false,eval b X.env)]:=by rfl) :
  PI X tg (.Call (.Name "range" p) [a,b] [] pos) (EN ta):=by
 intro pins s σ H R I h
 refine Call_ (fG I hg hm boot_range (PyProof.Rows.callWith_type1 (aF (ha pos pins s σ H _ I h) fun us s1 ⟨vs,H1,I1,r1,q1⟩=>?_) (by rw [hs,hs2]) (by rw [hs2];rfl)))
 obtain ⟨i,j,e,⟨q1,q2,q3,q4⟩,q⟩:=q1
 subst e
 cases r1 with
 | cons r rr =>
  cases rr with
  | cons r' rr =>
   cases rr
   obtain ⟨t,rfl⟩:=r
   obtain ⟨t',rfl⟩:=r'
   exact call_range_2 (n5 I1 q1 q2 q3 q4 q)
def AN (wi:TI) (g:TG) (tb:TS):TS:=fun D σ H=>wi σ H fun J H1 => ∃W:Nat->Nat->St->Hp->Prop,(∃m,W 0 m σ H1)/\∀i m σ H,W i m σ H ->
 (J.stop i H/\D.nx σ H)\/(J.go i H/\∃N:St->Hp->Prop,(∀σ' H',N σ' H'->∃m',m' < m/\W (i+1) m' σ' H')/\∀x H',J.yld i H x H'->g x σ H' fun σ2 H2=>tb { D with nx:=N,ct:=N,bk:=D.nx } σ2 H2)
def gB (fp:List Addr) (h:Heap):List (Addr×Obj):=fp.filterMap fun b=>(h.get? b).map fun o=>(b,o)
theorem dw {fp:List Addr} {h:Heap} {b:Addr} {o:Obj} (hb:b∈fp) (e:h.get? b=some o):(b,o)∈gB fp h:=List.mem_filterMap.mpr ⟨b,hb,by rw [e];rfl⟩
theorem ui {fp:List Addr} {h:Heap} {p:Addr×Obj} (hp:p∈gB fp h):p.1∈fp/\h.get? p.1=some p.2:=by
 obtain ⟨b,hb,e⟩:=List.mem_filterMap.mp hp
 cases q:h.get? b with
 | none=>rw [q] at e;cases e
 | some o =>
  rw [q] at e
  have e':(b,o)=p:=Option.some.inj e
  subst e'
  exact ⟨hb,q⟩
theorem ah.pinned {pins:List (Addr×Obj)} {σ:St} {H:Hp} {s:Shared} {fp:List Addr} (I:ah X pins σ H s) (hf:∀b∈fp,fi X pins H b) (ho:∀b∈fp,∃o,s.heap.get? b=some o/\∀v,o.data ≠ .cell v):ah X (pins++gB fp s.heap) σ H s :=
 I.pins_of fun p hp=>(List.mem_append.mp hp).elim (fun z=>I.pin p (List.mem_append_right _ z)) fun z=>by
  obtain ⟨hb,e⟩:=ui z
  obtain ⟨f0,f1,f2,_⟩:=hf p.1 hb
  obtain ⟨o,e',d⟩:=ho p.1 hb
  rw [e] at e';cases e'
  exact ⟨e,f0,f1,f2,d⟩
theorem ah.unpinned {pins pl:List (Addr×Obj)} {σ:St} {H:Hp} {s:Shared} (I:ah X (pins++pl) σ H s):ah X pins σ H s:=I.pins_of fun p hp=>I.pin p (List.mem_append_right _ (List.mem_append_left _ hp))
theorem Bk {iter:Expr} {body:List Stmt} {wi:TI} {g:TG} {tb:TS} {pos:Pos} (hp:PassesOwn (model X.prog X.w) X.A X.env X.xe) (hc:X.calm=true) (hi:PI X tg iter wi) (hg:PG X tg g) (hb:cT X body tb)
  (hs:∀x,foldedSetIterable iter X.env x=pure x:=by intro _;rfl):PS X (.For tg iter body [] pos) (AN wi g tb):=by
 intro pins s σ H D I h
 refine wpAny_For (aF (hi pins s σ H _ I h) fun v s1 h1=>aF h1 fun itv s2 h2=>?_) hs
 obtain ⟨it,fp,tn,J,H2,e,I2,T,st2,f2,W,⟨m0,w0⟩,turn⟩:=h2
 subst e
 have stat:∀{H':Hp},(∀b∈fp,H' b=none)->∀b∈fp,fi X pins H' b:=fun hn b hb=>⟨hn b hb,(f2 b hb).2⟩
 refine codeAny_forLoop_any (fun n s' => ∃i σ' H',ah X pins σ' H' s'/\tn i s'.heap/\(∀b∈fp,H' b=none)/\W i n σ' H') ?_ m0 ⟨0,σ,H2,I2,st2,fun b hb=>(f2 b hb).1,w0⟩
 rintro n s3 ⟨i,σ3,H3,I3,st3,fr3,w3⟩
 rcases turn i n σ3 H3 w3 with ⟨stop,qn⟩ | ⟨go,N,hN,step⟩
 ·refine wpAny_passesOwn hp (aF (T.done X rfl rfl rfl hc i pins s3 σ3 H3 X.xe I3 (stat fr3) st3 stop) fun r s4 ⟨hr,I4⟩=>?_)
  subst hr
  exact wpAny_execs_nil ⟨σ3,H3,I4,qn⟩
 ·refine wpAny_passesOwn hp (aF (T.item X rfl rfl rfl hc i pins s3 σ3 H3 X.xe I3 (stat fr3) st3 go) fun r s4 ⟨u,hr,h4⟩=>?_)
  subst hr
  refine wpAny_passesOwn hp (aF h4 fun _ s5 ⟨x,H5,I5,r5,y5,st5,fr5⟩=>?_)
  have I5':=I5.pinned (stat fr5) (T.obj _ _ st5)
  refine wpAny_passesOwn hp (aF (hg _ s5 σ3 H5 x u _ I5' r5 (step x H5 y5)) fun _ s6 ⟨σ6,H6,I6,q6⟩=>?_)
  refine wpAny_passesOwn hp (aF (hb _ s6 σ6 H6 _ I6 q6) fun f s7 q7=>?_)
  have again:∀{σ7:St} {H7:Hp},ah X (pins++gB fp s5.heap) σ7 H7 s7->N σ7 H7->∃m,m < n/\∃i σ' H',ah X pins σ' H' s7/\tn i s7.heap/\(∀b∈fp,H' b=none)/\W i m σ' H':=fun {σ7 H7} I7 n7=>by
   obtain ⟨m',hm,w7⟩:=hN σ7 H7 n7
   refine ⟨m',hm,i+1,σ7,H7,I7.unpinned,T.keep _ _ _ st5 fun b hb o e=>(I7.pin (b,o) (List.mem_append_right _ (List.mem_append_right _ (dw hb e)))).1,fun b hb=>?_,w7⟩
   obtain ⟨o,e,d⟩:=T.obj _ _ st5 b hb
   exact (I7.pin (b,o) (List.mem_append_right _ (List.mem_append_right _ (dw hb e)))).2.1
  cases f with
  | next=>obtain ⟨σ7,H7,I7,n7⟩:=q7;exact again I7 n7
  | cont=>obtain ⟨σ7,H7,I7,n7⟩:=q7;exact again I7 n7
  | brk=>obtain ⟨σ7,H7,I7,q7⟩:=q7;exact ⟨σ7,H7,I7.unpinned,q7⟩
  | ret v=>obtain ⟨x7,σ7,H7,I7,r7,q7⟩:=q7;exact ⟨x7,σ7,H7,I7.unpinned,r7,q7⟩
end
end L2
namespace L2
open PySem PySem.Spec PyProof.Rows
abbrev R2:=V->V->Hp->VK->Prop
def cf (X:Cx) (f:Value->Value->Sem Value) (r:R2):Prop :=
 ∀(pins:List (Addr×Obj)) (s:Shared) (σ:St) (H:Hp) (x y:V) (v u:Value) (Q:VK),ah X pins σ H s->aM x v->aM y u->r x y H Q ->
  wpAny (model X.prog X.w) X.A (f v u) (EP X pins σ Q) X.xe s
def DG (X:Cx) (f:Value->Sem Value) (r:V->Hp->VK->Prop):Prop :=
 ∀(pins:List (Addr×Obj)) (s:Shared) (σ:St) (H:Hp) (x:V) (v:Value) (Q:VK),ah X pins σ H s->aM x v->r x H Q ->
  wpAny (model X.prog X.w) X.A (f v) (EP X pins σ Q) X.xe s
def cI (X:Cx) (f:Value) (r:List V->Hp->VK->Prop):Prop :=
 ∀(pins:List (Addr×Obj)) (s:Shared) (σ:St) (H:Hp) (xs:List V) (us:List Value) (Q:VK),ah X pins σ H s->aH xs us->r xs H Q ->
  wpAny (model X.prog X.w) X.A (call f us) (EP X pins σ Q) X.xe s
def Fo (r:R2) (ta tb:TE):TE:=fun σ H Q=>ta σ H fun x H1=>tb σ H1 fun y H2=>r x y H2 Q
def JW (r:V->Hp->VK->Prop) (ta:TE):TE:=fun σ H Q=>ta σ H fun x H1=>r x H1 Q
def rI (C:Int->Int->Prop) (g:Int->Int->V):R2:=fun x y H Q => ∃i j,x=.int i/\y=.int j/\C i j/\Q (g i j) H
def ij (g:Int->Int->V):R2:=fun x y H Q => ∃i j,x=.int i/\y=.int j/\Q (g i j) H
def rU (g:Int->V):V->Hp->VK->Prop:=fun x H Q => ∃i,x=.int i/\Q (g i) H
section
variable {X:Cx} {a b c:Expr} {ta tb tc:TE} {pos:Pos}
theorem Dv (ha:PE X a ta) (hb:PE X b tb) {pins:List (Addr×Obj)} {s:Shared} {σ:St} {H:Hp} {R:V->V->Hp->Prop} (I:ah X pins σ H s)
  (h:ta σ H fun x H1=>tb σ H1 fun y H2=>R x y H2) {Q:Value->Shared->Prop} {f:Value->Value->Sem Value}
  (hf:∀v u s2 x y H2,ah X pins σ H2 s2->aM x v->aM y u->R x y H2->wpAny (model X.prog X.w) X.A (f v u) Q X.xe s2) :
  wpAny (model X.prog X.w) X.A (eval a X.env) (fun v s₁=>wpAny (model X.prog X.w) X.A (eval b X.env) (fun u s₂=>wpAny (model X.prog X.w) X.A (f v u) Q X.xe s₂) X.xe s₁) X.xe s:=by
 refine aF (ha pins s σ H _ I h) fun v s1 ⟨x,H1,I1,r1,q1⟩=>?_
 refine aF (hb pins s1 σ H1 _ I1 q1) fun u s2 ⟨y,H2,I2,r2,q2⟩=>?_
 exact hf v u s2 x y H2 I2 r1 r2 q2
theorem Ei {op:Operator} {r:R2} (ho:cf X (binaryOp op) r) (ha:PE X a ta) (hb:PE X b tb):PE X (.BinOp a op b pos) (Fo r ta tb):=by
 intro pins s σ H Q I h
 exact wpAny_BinOp (Dv ha hb I h fun v u s2 x y H2 I2 rx ry q=>ho pins s2 σ H2 x y v u Q I2 rx ry q)
theorem Eh {op:UnaryOp} {r:V->Hp->VK->Prop} (ho:DG X (unaryOp op) r) (ha:PE X a ta):PE X (.UnaryOp op a pos) (JW r ta):=by
 intro pins s σ H Q I h
 exact UnaryOp_ (aF (ha pins s σ H _ I h) fun v s1 ⟨x,H1,I1,r1,q1⟩=>ho pins s1 σ H1 x v Q I1 r1 q1)
theorem qg {f:Value->Value->Sem Value} {C:Int->Int->Prop} {g:Int->Int->Int}
  (rule:∀(i j:Int) (t u:Tok) (s:Shared) (Q:Value->Shared->Prop) (E:Value->Shared->Prop),C i j->Q (.int (g i j) s.toks) { s with toks:=s.toks+1 }->wpAny (model X.prog X.w) X.A (f (.int i t) (.int j u)) Q E s) :
  cf X f (rI C fun i j=>.int (g i j)):=by
 intro pins s σ H x y v u Q I rx ry h
 obtain ⟨i,j,rfl,rfl,hc,q⟩:=h
 obtain ⟨t,rfl⟩:=rx
 obtain ⟨t',rfl⟩:=ry
 exact rule i j t t' s _ _ hc ⟨.int (g i j),H,I.tok _,⟨_,rfl⟩,q⟩
theorem rM {f:Value->Value->Sem Value} {g:Int->Int->Int}
  (rule:∀(i j:Int) (t u:Tok) (s:Shared) (Q:Value->Shared->Prop) (E:Value->Shared->Prop),Q (.int (g i j) s.toks) { s with toks:=s.toks+1 }->wpAny (model X.prog X.w) X.A (f (.int i t) (.int j u)) Q E s) :
  cf X f (ij fun i j=>.int (g i j)):=by
 intro pins s σ H x y v u Q I rx ry h
 obtain ⟨i,j,rfl,rfl,q⟩:=h
 obtain ⟨t,rfl⟩:=rx
 obtain ⟨t',rfl⟩:=ry
 exact rule i j t t' s _ _ ⟨.int (g i j),H,I.tok _,⟨_,rfl⟩,q⟩
theorem rN {f:Value->Value->Sem Value} {g:Int->Int->Bool}
  (rule:∀(i j:Int) (t u:Tok) (s:Shared) (Q:Value->Shared->Prop) (E:Value->Shared->Prop),Q (.bool (g i j)) s->wpAny (model X.prog X.w) X.A (f (.int i t) (.int j u)) Q E s) :
  cf X f (ij fun i j=>.bl (g i j)):=by
 intro pins s σ H x y v u Q I rx ry h
 obtain ⟨i,j,rfl,rfl,q⟩:=h
 obtain ⟨t,rfl⟩:=rx
 obtain ⟨t',rfl⟩:=ry
 exact rule i j t t' s _ _ ⟨.bl (g i j),H,I,rfl,q⟩
def JT (i j:Int):Prop:=0<=j/\j<=1000000/\i.natAbs < 2 ^ 64
theorem BM:cf X (binaryOp .Add) (ij fun i j=>.int (i+j)):=rM fun _ _ _ _ _ _ _ q=>add_int q
theorem BI:cf X (binaryOp .Sub) (ij fun i j=>.int (i - j)):=rM fun _ _ _ _ _ _ _ q=>sub_int q
theorem zk:cf X (binaryOp .Mod) (rI (fun _ j=>j≠0) fun i j=>.int (i.fmod j)):=qg fun _ _ _ _ _ _ _ hc q=>mod_int' hc q
theorem BJ:cf X (binaryOp .Pow) (rI JT fun i j=>.int (i ^ j.toNat)):=qg fun _ _ _ _ _ _ _ hc q=>pow_int_small hc.1 hc.2.1 hc.2.2 q
theorem zE:cf X (inplaceOp .Add) (ij fun i j=>.int (i+j)):=rM fun _ _ _ _ _ _ _ q=>iadd_int q
theorem zD:cf X (inplaceOp .Sub) (ij fun i j=>.int (i - j)):=rM fun _ _ _ _ _ _ _ q=>isub_int q
theorem JU {f:Value->Sem Value} {g:Int->Int}
  (rule:∀(i:Int) (t:Tok) (s:Shared) (Q:Value->Shared->Prop) (E:Value->Shared->Prop),Q (.int (g i) s.toks) { s with toks:=s.toks+1 }->wpAny (model X.prog X.w) X.A (f (.int i t)) Q E s) :
  DG X f (rU fun i=>.int (g i)):=by
 intro pins s σ H x v Q I rx h
 obtain ⟨i,rfl,q⟩:=h
 obtain ⟨t,rfl⟩:=rx
 exact rule i t s _ _ ⟨.int (g i),H,I.tok _,⟨_,rfl⟩,q⟩
theorem AB:DG X (unaryOp .USub) (rU fun i=>.int (-i)):=JU fun _ _ _ _ _ q=>neg_int q
end
section
variable {X:Cx} {a b c:Expr} {ta tb tc:TE} {pos:Pos}
theorem uP {pins:List (Addr×Obj)} {σ:St} {H:Hp} {s:Shared} {Q:VK} {k k':Bool} (I:ah X pins σ H s) (q:Q (.bl k) H) (e:k=k'):EP X pins σ Q (.bool k') s:=by
 subst e
 exact ⟨.bl k,H,I,rfl,q⟩
theorem Ek:cf X (compareOp .Lt) (ij fun i j=>.bl (decide (i < j))):=rN fun _ _ _ _ _ _ _ q=>lt_int q
theorem El:cf X (compareOp .LtE) (ij fun i j=>.bl (decide (i<=j))):=rN fun _ _ _ _ _ _ _ q=>le_int q
theorem Em:cf X (compareOp .Gt) (ij fun i j=>.bl (decide (j < i))):=rN fun _ _ _ _ _ _ _ q=>gt_int q
theorem En:cf X (compareOp .GtE) (ij fun i j=>.bl (decide (j<=i))):=rN fun _ _ _ _ _ _ _ q=>ge_int q
theorem BK:cf X (compareOp .Is) (fun x y H Q=>y=.non/\Q (.bl (decide (x=.non))) H):=by
 intro pins s σ H x y v u Q I rx ry h
 obtain ⟨rfl,q⟩:=h
 cases ry
 refine is_none_gen (uP I q ?_)
 cases x <;> first
  | (cases rx;rfl)
  | (obtain ⟨t,rfl⟩:=rx;rfl)
theorem zi:cf X (compareOp .IsNot) (fun x y H Q=>y=.non/\Q (.bl (!decide (x=.non))) H):=by
 intro pins s σ H x y v u Q I rx ry h
 obtain ⟨rfl,q⟩:=h
 cases ry
 refine isnot_none_gen (uP I q ?_)
 cases x <;> first
  | (cases rx;rfl)
  | (obtain ⟨t,rfl⟩:=rx;rfl)
def DX (t:TE):TT:=fun σ H Q=>t σ H fun x H' => ∃k,x=.bl k/\Q k H'
def tG (r r':R2) (ta tb tc:TE):TE:=fun σ H Q=>ta σ H fun x H1=>tb σ H1 fun y H2=>r x y H2 fun z H3 => ∃k,z=.bl k /\
 (if k=true then tc σ H3 fun w' H4=>r' y w' H4 Q else Q (.bl false) H3)
theorem v7 {op op':CmpOp} {r r':R2} (ho:cf X (compareOp op) r) (ho':cf X (compareOp op') r') (ha:PE X a ta) (hb:PE X b tb) (hc:PE X c tc)
  (hm:lastMarks [op,op'] [b,c]=false:=by with_unfolding_all rfl):PE X (.Compare a [op,op'] [b,c] pos) (tG r r' ta tb tc):=by
 intro pins s σ H Q I h
 refine Compare_chain (aF (ha pins s σ H _ I h) fun v s1 ⟨x,H1,I1,r1,q1⟩=>chain_link (aF (hb pins s1 σ H1 _ I1 q1) fun u s2 ⟨y,H2,I2,r2,q2⟩ =>
  aF (ho pins s2 σ H2 x y v u _ I2 r1 r2 q2) fun d s3 ⟨z,H3,I3,r3,k,e,q3⟩=>?_)) hm
 subst e
 cases r3
 refine wpAny_truthy_bool ?_
 cases k with
 | false=>exact ite_ff ⟨.bl false,H3,I3,rfl,q3⟩
 | true=>exact ite_tt (chain_last (aF (hc pins s3 σ H3 _ I3 q3) fun w' s4 ⟨z',H4,I4,r4,q4⟩=>ho' pins s4 σ H4 y z' u w' Q I4 r2 r4 q4))
theorem vZ {op op':CmpOp} {r r':R2} (ho:cf X (compareOp op) r) (ho':cf X (compareOp op') r') (ha:PE X a ta) (hb:PE X b tb) (hc:PE X c tc)
  (hm:lastMarks [op,op'] [b,c]=false:=by with_unfolding_all rfl):PT X (.Compare a [op,op'] [b,c] pos) (DX (tG r r' ta tb tc)):=by
 intro pins s σ H Q I h
 refine isTrue_chain (aF (ha pins s σ H _ I h) fun v s1 ⟨x,H1,I1,r1,q1⟩=>test_link (aF (hb pins s1 σ H1 _ I1 q1) fun u s2 ⟨y,H2,I2,r2,q2⟩ =>
  aF (ho pins s2 σ H2 x y v u _ I2 r1 r2 q2) fun d s3 ⟨z,H3,I3,r3,k,e,q3⟩=>?_)) hm
 subst e
 cases r3
 refine wpAny_truthy_bool ?_
 cases k with
 | false =>
  obtain ⟨k',e',q'⟩:=q3
  cases e'
  exact ite_ff ⟨H3,I3,q'⟩
 | true =>
  refine ite_tt (test_last (aF (hc pins s3 σ H3 _ I3 q3) fun w' s4 ⟨z',H4,I4,r4,q4⟩=>aF (ho' pins s4 σ H4 y z' u w' _ I4 r2 r4 q4) fun d' s5 ⟨z2,H5,I5,r5,k2,e2,q5⟩=>?_))
  subst e2
  cases r5
  exact wpAny_truthy_bool ⟨H5,I5,q5⟩
theorem iQ:(sizeLine:Nat) < 2 ^ 63:=by rw [sizeLine_eq];decide
theorem rL:cf X (binaryOp .Add) (fun x y H Q => ∃i j,x=.str i/\y=.str j/\i.length+j.length<=sizeLine/\Q (.str (i++j)) H):=by
 intro pins s σ H x y v u Q I rx ry h
 obtain ⟨i,j,rfl,rfl,hz,q⟩:=h
 obtain ⟨t,rfl⟩:=rx
 obtain ⟨t',rfl⟩:=ry
 exact add_str (fun t' tk=>⟨.str (i++j),H,I.tok _,⟨_,rfl⟩,q⟩) hz
theorem cA {x:V} {us:List Value} (r:aH [x] us):∃u,us=[u]/\aM x u:=by
 cases r with
 | cons r1 r2=>cases r2;exact ⟨_,rfl,r1⟩
theorem ky {x y:V} {us:List Value} (r:aH [x,y] us):∃u w',us=[u,w']/\aM x u/\aM y w':=by
 cases r with
 | cons r1 r2 =>
  cases r2 with
  | cons r3 r4=>cases r4;exact ⟨_,_,rfl,r1,r3⟩
theorem wL:cI X (.builtin "abs") (fun xs H Q => ∃i,xs=[.int i]/\Q (.int (if i < 0 then -i else i)) H):=by
 intro pins s σ H xs us Q I r h
 obtain ⟨i,rfl,q⟩:=h
 obtain ⟨u,rfl,t,rfl⟩:=cA r
 exact call_abs_int fun u tk=>⟨.int (if i < 0 then -i else i),H,I.tok _,⟨_,rfl⟩,q⟩
theorem vg (hc:X.calm=true):cI X (.builtin "min") (fun xs H Q => ∃i j,xs=[.int i,.int j]/\Q (.int (if j < i then j else i)) H):=by
 intro pins s σ H xs us Q I r h
 obtain ⟨i,j,rfl,q⟩:=h
 obtain ⟨u,w',rfl,⟨t,rfl⟩,⟨t',rfl⟩⟩:=ky r
 refine min_two_ints (I.ok.hd hc) fun h' tk k=>⟨_,H,I.kept k,?_,q⟩
 by_cases hj:j < i
 ·rw [if_pos hj,if_pos hj];exact ⟨_,rfl⟩
 ·rw [if_neg hj,if_neg hj];exact ⟨_,rfl⟩
theorem mU:cI X (.type "int") (fun xs H Q=>(∃i,xs=[.int i]/\Q (.int i) H)\/∃k,xs=[.bl k]/\Q (.int (if k then 1 else 0)) H):=by
 intro pins s σ H xs us Q I r h
 rcases h with ⟨i,rfl,q⟩ | ⟨k,rfl,q⟩
 ·obtain ⟨u,rfl,t,rfl⟩:=cA r
  exact call_int_int ⟨.int i,H,I,⟨_,rfl⟩,q⟩
 ·obtain ⟨u,rfl,r1⟩:=cA r
  cases r1
  exact call_int_bool ⟨.int (if k then 1 else 0),H,I.tok _,⟨_,rfl⟩,q⟩
theorem pf:cI X (.type "str") (fun xs H Q => ∃i,xs=[.int i]/\i.natAbs.log2 < 1920/\Q (.str (toString i)) H):=by
 intro pins s σ H xs us Q I r h
 obtain ⟨i,rfl,hz,q⟩:=h
 obtain ⟨u,rfl,t,rfl⟩:=cA r
 exact PySem.P.str_of_int hz ⟨.str _,H,I.tok _,⟨_,rfl⟩,q⟩
end
end L2
namespace L2
open PySem PySem.Spec PyProof.Rows
structure sO (h:Heap) (x dx C:Addr) (mA:Str->Option Value):Prop where
 obj:h.get? x=some (W.instObj C dx)
 ns:h.Ns1 dx mA
 ne:dx≠x
theorem mE {h:Heap} {dx:Addr} {mA:Str->Option Value} (n:h.Ns1 dx mA):∃od,h.get? dx=some od/\∀name,W.lookIn name od=some (mA name):=by
 obtain ⟨o,es,ep,ho,hd,hk,_,hm⟩:=n
 refine ⟨o,ho,fun name=>?_⟩
 have e:=hm name
 unfold nsFind findBy at e
 rw [<- Array.find?_toList] at e
 unfold W.lookIn
 rw [hd]
 dsimp only
 split
 ·rename_i y q
  rw [q] at e
  exact congrArg some e
 ·rename_i q
  rw [q] at e
  have a:es.toList.any (·.refKey)=false:=by
   rw [List.any_eq_false]
   intro y hy
   obtain ⟨z,t,hkey⟩:=hk y (Array.mem_toList_iff.mp hy)
   simp [DictEntry.refKey,hkey]
  have a':¬ es.toList.any (·.refKey)=true:=by rw [a];exact Bool.false_ne_true
  rw [if_neg a']
  exact congrArg some e
theorem sO.look {h:Heap} {x dx C:Addr} {mA:Str->Option Value} (I:sO h x dx C mA):∃od,W.InstAt h x (W.instObj C dx) C (some od)/\∀name,W.lookIn name od=some (mA name) :=
 let ⟨od,ho,hl⟩:=mE I.ns
 ⟨od,⟨I.obj,rfl,rfl,ho⟩,hl⟩
section
variable {prog:Program} {w:World} {A:Around} {E:Value->Shared->Prop} {s:Shared} {K:W.Frag} {x dx C f:Addr} {mA:Str->Option Value} {name:Str} {v:Value}
theorem zJ {expr:Bool} {Q:Value->Shared->Prop} (X:K.In s.heap) (I:sO s.heap x dx C mA) (hg:W.plainGet K C name=true) (hh:W.hasDictIn K C=true)
  (ha:W.findIn K (.ref C) name=some none) (hv:mA name=some v) (hv':W.handedIn v=true) (h:Q v { s with toks:=s.toks+1 }) :
  wpAny (model prog w) A (getAttr (.ref x) name expr) Q E s:=by
 obtain ⟨od,J,hl⟩:=I.look
 exact W.get_value X J (W.plainGet_of hg).1 (W.findObj_own hh ha rfl (by rw [hl,hv])) hv' h
theorem oG {R:Result->Shared->Prop} {vs:List Value} {kw:List (Str×Value)} (X:K.In s.heap) (hm:W.makesIn K C=true)
  (hi:W.findIn K (.ref C) "__init__" = some (some (.ref f))) (hf:W.typeIn K (.ref f)=some (.type "function"))
  (h:codeAny (model prog w) (A.under (.builtin "type.__call__" ⟨.ref C::vs,kw⟩)) (.call (.ref f) ⟨.ref (s.heap.objs.size+1)::vs,kw⟩) (W.InitBack (s.heap.objs.size+1) R)
   { s with heap:=(s.heap.push W.emptyDict).push (W.instObj C s.heap.objs.size) }) :
  codeAny (model prog w) A (.call (.ref C) ⟨vs,kw⟩) R s:=by
 obtain ⟨hh,g,d,t,os⟩:=s
 exact W.make_core (W.makes_of X hm) (W.looks_findIn X hi) (fun self=>W.bind_fn X self hf) (.inl rfl) h
end
theorem gw.some_of {v:V} {o:Option Value} (r:gw (some v) o):∃u,o=some u/\aM v u:=by
 cases o with
 | none=>exact (show False from r).elim
 | some u=>exact ⟨u,rfl,r⟩
theorem mH {v:V} {u:Value} (r:aM v u):W.handedIn u=true:=by
 cases v with
 | non=>cases (show u=Value.none from r);rfl
 | bl b=>cases (show u=Value.bool b from r);rfl
 | int i=>obtain ⟨t,e⟩:=(show ∃t,u=Value.int i t from r);cases e;rfl
 | str x=>obtain ⟨t,e⟩:=(show ∃t,u=Value.str x t from r);cases e;rfl
 | byt b=>obtain ⟨t,e⟩:=(show ∃t,u=Value.bytes b t from r);cases e;rfl
 | flt b=>obtain ⟨t,e⟩:=(show ∃t,u=Value.float b t from r);cases e;rfl
 | ref a=>cases (show u=Value.ref a from r);rfl
 | ty n=>cases (show u=Value.type n from r);rfl
section
variable {P:Program} {w:World} {H H':Hp} {h h':Heap} {a C dx:Addr} {fs fs':List (Str×V)}
theorem qw (hok:cg P w H h) (e:H a=some (.ins C dx fs)):∃mA,sO h a dx C mA/\(∀f,gw (fs.lookup f) (mA f))/\PySem.Within mA (fs.map (·.1))/\fs.length<=1000/\H dx=some (.own a):=by
 obtain ⟨d,z,ne,ob,mA,n,r,q⟩:=(show bB P w H h a (.ins C dx fs) from hok a _ e)
 exact ⟨mA,⟨ob,n,ne⟩,r,q,z,d⟩
end
structure fV (K:W.Frag) (C:Addr):Prop where
 pg:W.plainGet K C Str.empty=true
 hd:W.hasDictIn K C=true
 po:W.plainOver K C=true
 sa:W.findIn K (.ref C) "__setattr__" = some (some (.builtin "object.__setattr__"))
theorem fV.get {K:W.Frag} {C:Addr} (c:fV K C) (f:Str):W.plainGet K C f=true:=c.pg
def ly (K:W.Frag) (C:Addr) (f:Str):Prop:=W.findIn K (.ref C) f=some none
structure DN (K:W.Frag) (C:Addr) (m:Str) (f:Addr):Prop where
 at_:W.findIn K (.ref C) m=some (some (.ref f))
 fn:W.isFn K (.ref f)=true
 kp:W.keepIn K (.ref f)=true
section
variable {X:Cx} {pins:List (Addr×Obj)} {σ:St} {H:Hp} {s:Shared} {a C dx:Addr} {fs:List (Str×V)} {f:Str} {v:V} {A:Around} {E:Value->Shared->Prop}
theorem sg {b:Bool} {Q:Value->Shared->Prop} (I:ah X pins σ H s) (e:H a=some (.ins C dx fs)) (c:fV X.K C) (n:ly X.K C f) (l:fs.lookup f=some v)
  (h:∀u s',ah X pins σ H s'->aM v u->Q u s'):wpAny (model X.prog X.w) A (getAttr (.ref a) f b) Q E s:=by
 obtain ⟨mA,O,r,_,_,_⟩:=qw I.hok e
 obtain ⟨u,hu,ru⟩:=gw.some_of (v:=v) (o:=mA f) (by rw [<- l];exact r f)
 exact zJ I.kIn O (c.get f) c.hd n hu (mH ru) (h u _ (I.tok _) ru)
theorem ah.made (I:ah X pins σ H s):ah X pins σ (aE (aE H s.heap.objs.size (.own (s.heap.objs.size+1))) (s.heap.objs.size+1) (.ins C s.heap.objs.size []))
  { s with heap:=(s.heap.push W.emptyDict).push (W.instObj C s.heap.objs.size) }:=by
 have e1:(s.heap.push W.emptyDict).get? s.heap.objs.size=some W.emptyDict:=Heap.get?_push_size s.heap rfl
 have e2:((s.heap.push W.emptyDict).push (W.instObj C s.heap.objs.size)).get? (s.heap.objs.size+1)=some (W.instObj C s.heap.objs.size):=by
  have:=Heap.get?_push_size (s.heap.push W.emptyDict) (o:=W.instObj C s.heap.objs.size) rfl
  rwa [Heap.size_push] at this
 have e3:(s.heap.push W.emptyDict).Ns s.heap.objs.size (fun _=>none):=⟨W.emptyDict,#[],_,e1,rfl,(fun e he=>absurd he (by simp)),fun _=>rfl⟩
 have I1:=I.laid (a:=s.heap.objs.size) (o:=.own (s.heap.objs.size+1)) (h':=s.heap.push W.emptyDict) (t':=s.toks) (fun b u q=>Heap.get?_push_of_some _ q) (Nat.le_refl _) ⟨_,e1⟩
 refine I1.laid (a:=s.heap.objs.size+1) (o:=.ins C s.heap.objs.size []) (t':=s.toks) (fun b u q=>Heap.get?_push_of_some _ q) (Nat.le_of_eq (Heap.size_push _ _)) ?_
 have ne:s.heap.objs.size≠s.heap.objs.size+1:=Nat.ne_of_lt (Nat.lt_succ_self _)
 refine ⟨by rw [az ne,aJ],Nat.zero_le _,ne,e2,fun _=>none,(Heap.Ns1.of_empty e3).at fun o q=>Heap.get?_push_of_some _ q,fun _=>True.intro,fun y hy=>absurd rfl hy⟩
theorem qO {prog:Program} {w:World} {env:Env} {e:Expr} {f:Str} {pos:Pos} {s:Shared} {Q:Value->Shared->Prop} (hb:attributeBase e f env (eval e env)=eval e env)
  (h:wpAny (model prog w) A (eval e env) (fun o s₁=>wpAny (model prog w) A (getAttr o f true) Q E s₁) E s):wpAny (model prog w) A (eval (.Attribute e f pos) env) Q E s :=
 Attribute_any_ h (by rw [arm_eval_Attribute,hb])
end
def FQ (K:W.Frag) (ta:TE) (f:Str):TE:=fun σ H Q=>ta σ H fun x H1 => ∃a C dx fs v,x=.ref a/\H1 a=some (.ins C dx fs)/\fV K C/\ly K C f/\fs.lookup f=some v/\Q v H1
section
variable {X:Cx} {o e value:Expr} {f:Str} {pos pos' tpos:Pos} {ta tv:TE}
theorem BC (he:PE X e ta) (hb:attributeBase e f X.env (eval e X.env)=eval e X.env):PE X (.Attribute e f pos) (FQ X.K ta f):=by
 intro pins s σ H Q I h
 refine qO hb (aF (he pins s σ H _ I h) fun u s1 ⟨x,H1,I1,rx,a,C,dx,fs,v,ex,ea,c,n,l,q⟩=>?_)
 subst ex
 obtain rfl:u=Value.ref a:=rx
 exact sg I1 ea c n l fun u' s2 I2 ru=>⟨v,H1,I2,ru,q⟩
end
section
variable {X:Cx} {pins:List (Addr×Obj)} {σ:St} {H:Hp} {s:Shared} {A:Around} {E:Value->Shared->Prop} {Q:Value->Shared->Prop} {c:Value} {b:Bool}
inductive fg (K:W.Frag) (H:Hp):V->Value->Prop where
  | non:fg K H .non (.type "NoneType")
  | bl (x:Bool):fg K H (.bl x) (.type "bool")
  | int (i:Int):fg K H (.int i) (.type "int")
  | str (x:Str):fg K H (.str x) (.type "str")
  | flt (x:UInt64):fg K H (.flt x) (.type "float")
  | lst {a:Addr} {xs:List V} (e:H a=some (.lst xs)):fg K H (.ref a) (.type "list")
  | frz {a:Addr} {o:Obj} {xs:List V} (e:H a=some (.frz o (.lst xs))):fg K H (.ref a) (.type "list")
  | tup {a:Addr} {xs:List V} (e:H a=some (.tup xs)):fg K H (.ref a) (.type "tuple")
  | dK {a:Addr} {kvs:List (cH×V)} (e:H a=some (.dK kvs)):fg K H (.ref a) (.type "dict")
  | dT {a:Addr} {kvs:List (List cH×V)} (e:H a=some (.dT kvs)):fg K H (.ref a) (.type "dict")
  | ins {a C dx:Addr} {fs:List (Str×V)} (e:H a=some (.ins C dx fs)) (cl:fV K C) (ha:W.findIn K (.ref C) "__class__" = some (some (.builtin "object.__class__")))
      (hn:W.specialIn K (.builtin "object.__class__") "__get__" = some (some (.builtin "getset_descriptor.__get__"))) (htk:W.takesIn K (.builtin "object.__class__")=some true)
      (hm:W.mroIn K C (.type "object")=some true):fg K H (.ref a) (.ref C)
theorem mF {x:V} {u t:Value} (I:ah X pins σ H s) (rx:aM x u) (ty:fg X.K H x t) (e:W.kitOne X.K t c=some b) (h:∀tk,Q (.bool b) { s with toks:=tk }) :
  wpAny (model X.prog X.w) A (call (.builtin "isinstance") [u,c]) Q E s:=by
 cases ty with
 | non=>cases (show u=Value.none from rx);exact W.kia_one W.kitx_none I.kIn True.intro e (fun z=>nomatch z) h
 | bl y=>cases (show u=Value.bool y from rx);exact W.kia_one W.kitx_bool I.kIn True.intro e (fun z=>nomatch z) h
 | int i=>obtain ⟨t,q⟩:=(show ∃t,u=Value.int i t from rx);cases q;exact W.kia_one W.kitx_int I.kIn True.intro e (fun z=>nomatch z) h
 | str y=>obtain ⟨t,q⟩:=(show ∃t,u=Value.str y t from rx);cases q;exact W.kia_one W.kitx_str I.kIn True.intro e (fun z=>nomatch z) h
 | flt y=>obtain ⟨t,q⟩:=(show ∃t,u=Value.float y t from rx);cases q;exact W.kia_one W.kitx_float I.kIn True.intro e (fun z=>nomatch z) h
 | @lst a xs ea =>
  cases (show u=Value.ref a from rx)
  obtain ⟨_,_,n,_,h1⟩:=(show bB X.prog X.w H s.heap a (.lst xs) from I.hok a _ ea)
  exact W.kia_one W.kitx_list I.kIn ⟨_,h1,rfl⟩ e (fun z=>nomatch z) h
 | @frz a ob xs ea =>
  cases (show u=Value.ref a from rx)
  obtain ⟨_,_,_,n,_,h1⟩:=(show bB X.prog X.w H s.heap a (.frz ob (.lst xs)) from I.hok a _ ea)
  exact W.kia_one W.kitx_list I.kIn ⟨_,h1,rfl⟩ e (fun z=>nomatch z) h
 | @tup a xs ea =>
  cases (show u=Value.ref a from rx)
  obtain ⟨_,_,_,p⟩:=(show bB X.prog X.w H s.heap a (.tup xs) from I.hok a _ ea)
  obtain ⟨o,h1,h2,_⟩:=p
  exact W.kia_one W.kitx_tuple I.kIn ⟨o,h1,h2⟩ e (fun z=>nomatch z) h
 | @dK a kvs ea =>
  cases (show u=Value.ref a from rx)
  obtain ⟨_,_,vs,_,p⟩:=(show bB X.prog X.w H s.heap a (.dK kvs) from I.hok a _ ea)
  obtain ⟨o,es,ep,h1,h2,_⟩:=p
  exact W.kia_one W.kitx_dict I.kIn ⟨o,h1,h2.1⟩ e (fun z=>nomatch z) h
 | @dT a kvs ea =>
  cases (show u=Value.ref a from rx)
  obtain ⟨_,_,xs,_,o,es,ep,h1,h2,_⟩:=(show bB X.prog X.w H s.heap a (.dT kvs) from I.hok a _ ea)
  exact W.kia_one W.kitx_dict I.kIn ⟨o,h1,h2.1⟩ e (fun z=>nomatch z) h
 | @ins a C dx fs ea cl ha hn htk hm =>
  cases (show u=Value.ref a from rx)
  obtain ⟨mA,O,_⟩:=qw I.hok ea
  obtain ⟨od,J,_⟩:=O.look
  exact W.kia_one (W.kitx_own (cl.get _) cl.hd ha hn htk hm) I.kIn J e (fun z=>nomatch z) h
end
end L2
namespace L2
open PySem PySem.Spec PyProof.Rows
structure bu (k:Nat) (A:Around):Prop where
 hd:A.handled=none
 dp:A.depth+3*k+5 < recursionLimit
 un:A.units+16*k+200 < cLine
theorem bu.mono {j k:Nat} {A:Around} (r:bu k A) (h:j<=k):bu j A:=⟨r.hd,by have:=r.dp;omega,by have:=r.un;omega⟩
theorem bu.deeper {k:Nat} {A:Around} (r:bu (k+1) A) (env:Env):bu k (A.deeper env) :=
 ⟨r.hd,by have:=r.dp;show A.depth+1+3*k+5 < _;omega,by have:=r.un;show A.units+3+16*k+200 < _;omega⟩
theorem bu.in1 {k:Nat} {A:Around} (r:bu (k+1) A):bu k A.in1 :=
 ⟨r.hd,by have:=r.dp;show A.depth+3*k+5 < _;omega,by have:=r.un;show A.units+1+16*k+200 < _;omega⟩
theorem rS {A:Around} {C:Addr} {us:List Value} {kw:List (Str×Value)}:(A.under (.builtin "type.__call__" ⟨.ref C::us,kw⟩)).depth=A.depth+1:=by
 first|rfl|simp [Around.under,Code.weight,Code.isCreation,Code.isGuard,Code.isCaller,Code.frames,Code.isFrame,guardIds]
theorem rR {A:Around} {C:Addr} {us:List Value} {kw:List (Str×Value)}:(A.under (.builtin "type.__call__" ⟨.ref C::us,kw⟩)).units=A.units+1:=by
 first|rfl|simp [Around.under,Code.cUnits,Code.frames,Code.isFrame]
theorem bu.make {k:Nat} {A:Around} (r:bu (k+1) A) (C:Addr) (us:List Value) (kw:List (Str×Value)):bu k (A.under (.builtin "type.__call__" ⟨.ref C::us,kw⟩)) :=
 ⟨r.hd,by have:=r.dp;rw [rS];omega,by have:=r.un;rw [rR];omega⟩
theorem bu.depth {k:Nat} {A:Around} (r:bu k A):A.depth < recursionLimit:=by have:=r.dp;omega
theorem bu.units {k:Nat} {A:Around} (r:bu k A):A.units+64 < cLine:=by have:=r.un;omega
def vK:TA:=fun _ H Q=>Q [] H
def D4 (ta:TE) (tr:TA):TA:=fun σ H Q=>ta σ H fun x H1=>tr σ H1 fun xs H2=>Q (x::xs) H2
section
variable {X:Cx} {e:Expr} {es:List Expr} {te:TE} {t:TA} {pos:Pos}
theorem ug:PA X [] vK:=fun _ _ _ _ H Q I h=>Calls.spliced_nil ⟨[],H,I,.nil,h⟩
theorem lH (ha:PE X e te) (hr:PA X es t) (hs:starEach (e::es) X.env=(false,eval e X.env)::starEach es X.env:=by rfl):PA X (e::es) (D4 te t):=by
 intro pos pins s σ H Q I h
 rw [hs]
 show wpAny _ _ (spliced ((false,eval e X.env)::backTo pos (starEach es X.env))) _ _ s
 refine Calls.spliced_cons (aF (ha pins s σ H _ I h) fun u s1 ⟨x,H1,I1,r1,q1⟩=>?_)
 exact aF (hr pos pins s1 σ H1 _ I1 q1) fun us s2 ⟨xs,H2,I2,r2,q2⟩=>⟨x::xs,H2,I2,.cons r1 r2,q2⟩
def FI (t:TA):TE:=fun σ H Q=>t σ H fun xs H1=>xs.length<=sizeLine/\∀p,H1 p=none->Q (.ref p) (aE H1 p (.tup xs))
def FO (t:TA):TE:=fun σ H Q=>t σ H fun xs H1=>xs.length<=sizeLine/\∀p,H1 p=none->Q (.ref p) (aE H1 p (.lst xs))
theorem Br {x1} (h:PA X es t):PE X (.Tuple es x1 pos) (FI t):=by
 intro pins s σ H Q I hq
 refine wpAny_Tuple_spliced (aF (h pos pins s σ H _ I hq) fun us s1 ⟨xs,H1,I1,r,z,q⟩=>⟨by rw [<- r.length];exact z,?_⟩)
 have hf:H1 s1.heap.objs.size=none:=I1.hok.fresh (Nat.le_refl _)
 refine ⟨.ref s1.heap.objs.size,aE H1 s1.heap.objs.size (.tup xs),I1.laid (t':=s1.toks) (fun b u e=>Heap.get?_push_of_some _ e) (Nat.le_refl _) ?_,rfl,q _ hf⟩
 exact ⟨z,us,r,⟨_,Heap.get?_push_size _ rfl,rfl,_,rfl⟩⟩
theorem Bw (h:PA X es t):PE X (.List es pos) (FO t):=by
 intro pins s σ H Q I hq
 refine wpAny_List_spliced (aF (h pos pins s σ H _ I hq) fun us s1 ⟨xs,H1,I1,r,z,q⟩=>⟨by rw [<- r.length];exact z,?_⟩)
 have hf:H1 s1.heap.objs.size=none:=I1.hok.fresh (Nat.le_refl _)
 refine ⟨.ref s1.heap.objs.size,aE H1 s1.heap.objs.size (.lst xs),I1.laid (t':=s1.toks) (fun b u e=>Heap.get?_push_of_some _ e) (Nat.le_refl _) ?_,rfl,q _ hf⟩
 exact ⟨z,us,0,r,Heap.get?_push_size _ rfl⟩
end
abbrev Sp:=List V->Hp->VK->XK->Prop
abbrev gQ:=List Env->Hp->Shared->XK->Value->Shared->Prop
structure gx (P:Program) (w:World) (K:W.Frag) (mg:Str->Option Value) (base:Heap) (A:Around) (outer:List Env) (s:Shared) (H:Hp):Prop where
 frames:A.frames=some outer
 mod:Mod K mg base
 bs:∀b o,base.get? b=some o->s.heap.get? b=some o/\H b=none
 bsz:base.objs.size<=s.heap.objs.size
 funs:s.heap.FunFrames base outer
 frf:∀b∈bJ outer,H b=none
 hok:cg P w H s.heap
 bare:AllBare s.gens
def CE (outer:List Env) (P:Program) (w:World) (H:Hp) (s:Shared) (Q:VK) (u:Value) (s':Shared):Prop :=
 ∃v H',s'.os=s.os/\AllBare s'.gens/\Un (bJ outer) [] H H' s.heap s'.heap/\cg P w H' s'.heap/\aM v u/\Q v H'
def CR (CX:gQ) (outer:List Env) (P:Program) (w:World) (H:Hp) (s:Shared) (Q:VK) (E:XK) (r:Result) (s':Shared):Prop :=
 match r with
 | .ok (.ret u)=>CE outer P w H s Q u s'
 | .ok _=>False
 | .error e=>CX outer H s E e s'
structure bv (P:Program) (w:World) (K:W.Frag) (mg:Str->Option Value) (base:Heap) (CX:gQ) (k:Nat) (f:Addr) (fd:FuncData) (ps:List Str) (sp:Sp):Prop where
 len:∀vs H Q E,sp vs H Q E->vs.length=ps.length
 run:∀(A:Around) (outer:List Env) (s:Shared) (H:Hp) (args:Args) (us:List Value) (vs:List V) (Q:VK) (E:XK),bu k A->gx P w K mg base A outer s H->BindsTo s fd args (ps.zip us)->aH vs us->sp vs H Q E ->
  codeAny (model P w) A (.call (.ref f) args) (CR CX outer P w H s Q E) s
theorem bv.mono {P:Program} {w:World} {K:W.Frag} {mg:Str->Option Value} {base:Heap} {CX:gQ} {j k:Nat} {f:Addr} {fd:FuncData} {ps:List Str} {sp:Sp} (F:bv P w K mg base CX j f fd ps sp) (h:j<=k) :
  bv P w K mg base CX k f fd ps sp:=⟨F.len,fun A outer s H args us vs Q E hr=>F.run A outer s H args us vs Q E (hr.mono h)⟩
theorem gx.make {P:Program} {w:World} {K:W.Frag} {mg:Str->Option Value} {base:Heap} {A:Around} {outer:List Env} {s:Shared} {H:Hp} (e:gx P w K mg base A outer s H) (C:Addr) (us:List Value) (kw:List (Str×Value)) :
  gx P w K mg base (A.under (.builtin "type.__call__" ⟨.ref C::us,kw⟩)) outer s H:=⟨by first|exact e.frames | (simpa [Around.under,Code.envs,Code.isFrame,pushEnvs] using e.frames),e.mod,e.bs,e.bsz,e.funs,e.frf,e.hok,e.bare⟩
theorem gx.in1 {P:Program} {w:World} {K:W.Frag} {mg:Str->Option Value} {base:Heap} {A:Around} {outer:List Env} {s:Shared} {H:Hp} (e:gx P w K mg base A outer s H) :
  gx P w K mg base A.in1 outer s H:=⟨e.frames,e.mod,e.bs,e.bsz,e.funs,e.frf,e.hok,e.bare⟩
section
variable {X:Cx} {pins:List (Addr×Obj)} {σ:St} {H:Hp} {s s':Shared}
theorem ah.env0 (I:ah X pins σ H s):gx X.prog X.w X.K X.mg X.base X.A X.stack s H :=
 ⟨I.ok.frames,I.ok.mod,I.bs,Nat.le_trans I.ok.bsz I.sz,I.stack,I.stkFree,I.hok,I.bare⟩
theorem ah.after {Q:VK} {u:Value} (I:ah X pins σ H s) (h:CE X.stack X.prog X.w H s Q u s'):EP X pins σ Q u s':=by
 obtain ⟨v,H',os,bare,un,hok,r,q⟩:=h
 obtain ⟨hh,g,d,t,os'⟩:=s'
 obtain rfl:os'=s.os:=os
 exact ⟨v,H',I.call (h':=hh) (g':=g) (d':=d) (t':=t) (ch:=[]) un hok bare (fun b z=>absurd z (by simp)),r,q⟩
end
def xp (sp:Sp) (dvs:List V) (E:XK) (t:TA):TE:=fun σ H Q=>t σ H fun vs H1=>sp (vs++dvs) H1 Q E
def tMeth (C:Addr) (m:Str) (sp:Sp) (dvs:List V) (E:XK) (ta:TE) (t:TA):TE:=fun σ H Q=>ta σ H fun x H1 => ∃a dx fs,x=.ref a/\H1 a=some (.ins C dx fs)/\fs.lookup m=none /\
 t σ H1 fun vs H2=>sp (x::(vs++dvs)) H2 Q E
def xn (C:Addr) (sp:Sp) (dvs:List V) (E:XK) (t:TA):TE:=fun σ H Q=>t σ H fun vs H1 => ∀x dx,H1 x=none->H1 dx=none->dx≠x ->
 sp (.ref x::(vs++dvs)) (aE (aE H1 dx (.own x)) x (.ins C dx [])) (fun v H2=>v=.non/\Q (.ref x) H2) E
def bG (K:W.Frag) (fd:FuncData) (ps:List Str) (ds:List Value):Prop :=
 ∀(s:Shared) (us:List Value),K.In s.heap->(us++ds).length=ps.length->BindsTo s fd ⟨us,[]⟩ (ps.zip (us++ds))
theorem bG.all {K:W.Frag} {fd:FuncData} {ps:List Str} (h:∀us:List Value,us.length=ps.length->bindArgs fd ⟨us,[]⟩=pure (ps.zip us)):bG K fd ps []:=fun s us _ hl=>by
 rw [List.append_nil] at hl ⊢
 exact .of_eq (h us hl)
def fU (CX:gQ) (X:Cx) (E:XK):Prop:=∀(pins:List (Addr×Obj)) (σ:St) (H:Hp) (s:Shared) (e:Value) (s':Shared),ah X pins σ H s->CX X.stack H s E e s'->X.xe e s'
section
variable {X:Cx} {CX:gQ} {k:Nat} {f C:Addr} {fd:FuncData} {ps:List Str} {sp:Sp} {dvs:List V} {ds:List Value} {E:XK} {x m:Str} {p pos apos:Pos} {e o:Expr} {es:List Expr} {ta:TE} {t:TA}
theorem t5 {pins:List (Addr×Obj)} {σ:St} {H:Hp} {s:Shared} {Q:VK} {us:List Value} {vs:List V} (F:bv X.prog X.w X.K X.mg X.base CX k f fd ps sp) (hr:bu k X.A) (hb:bG X.K fd ps ds) (hd:aH dvs ds) (hx:fU CX X E)
  (I:ah X pins σ H s) (r:aH vs us) (h:sp (vs++dvs) H Q E):wpAny (model X.prog X.w) X.A (call (.ref f) us) (EP X pins σ Q) X.xe s:=by
 have r2:aH (vs++dvs) (us++ds):=r.append hd
 have hl:(us++ds).length=ps.length:=by rw [<- r2.length];exact F.len _ _ _ _ h
 refine wpAny_call (codeAny_mono (F.run X.A X.stack s H ⟨us,[]⟩ (us++ds) (vs++dvs) Q E hr I.env0 (hb s us I.kIn hl) r2 h) fun r s' hq=>?_)
 cases r with
 | error e=>exact hx pins σ H s e s' I hq
 | ok fl =>
  cases fl with
  | ret u=>exact I.after hq
  | next=>exact False.elim hq
  | brk=>exact False.elim hq
  | cont=>exact False.elim hq
theorem zf (F:bv X.prog X.w X.K X.mg X.base CX k f fd ps sp) (hr:bu k X.A) (hg:Gl X x) (hm:X.mg x=some (.ref f)) (hk:W.keepIn X.K (.ref f)=true) (hb:bG X.K fd ps ds) (hd:aH dvs ds) (hx:fU CX X E)
  (ha:PA X (e::es) t) (hdb:(x==("__debug__" : Str))=false:=by decide) (he:starEach (e::es) X.env=(false,eval e X.env)::starEach es X.env:=by rfl) (hpl:(backTo pos (starEach es X.env)).any (·.1)=false:=by rfl) :
  PE X (.Call (.Name x p) (e::es) [] pos) (xp sp dvs E t):=by
 intro pins s σ H Q I h
 refine wpAny_Call_Name_kw (cP I hg hm ?_ hdb)
 refine W.callWith_K (h₀:=X.base) I.ok.mod.kin hk (aF (ha pos pins s σ H _ I h) fun us s1 ⟨vs,H1,I1,r,q⟩=>⟨I1.kIn,?_⟩) he hpl
 exact t5 F hr hb hd hx I1 r q
theorem v9 (F:bv X.prog X.w X.K X.mg X.base CX k f fd ps sp) (hr:bu k X.A) (hg:Gl X x) (hm:X.mg x=some (.ref f)) (hk:W.keepIn X.K (.ref f)=true) (hb:bG X.K fd ps ds) (hd:aH dvs ds) (hx:fU CX X E)
  (hdb:(x==("__debug__" : Str))=false:=by decide):PE X (.Call (.Name x p) [] [] pos) (xp sp dvs E vK):=by
 intro pins s σ H Q I h
 refine wpAny_Call_Name_kw (cP I hg hm ?_ hdb)
 exact W.callWith_K0 I.kIn hk (t5 (us:=[]) F hr hb hd hx I .nil h)
structure Mk (K:W.Frag) (C f:Addr):Prop where
 makes:W.makesIn K C=true
 init:W.findIn K (.ref C) "__init__" = some (some (.ref f))
 fn:W.isFn K (.ref f)=true
 kp:W.keepIn K (.ref C)=true
theorem nX {pins:List (Addr×Obj)} {σ:St} {H:Hp} {s:Shared} {Q:VK} {us:List Value} {vs:List V} (M:Mk X.K C f) (F:bv X.prog X.w X.K X.mg X.base CX k f fd ps sp) (hr:bu (k+1) X.A) (hb:bG X.K fd ps ds) (hd:aH dvs ds)
  (hx:fU CX X E) (I:ah X pins σ H s) (r:aH vs us)
  (h:∀x dx,H x=none->H dx=none->dx≠x->sp (.ref x::(vs++dvs)) (aE (aE H dx (.own x)) x (.ins C dx [])) (fun v H2=>v=.non/\Q (.ref x) H2) E) :
  wpAny (model X.prog X.w) X.A (call (.ref C) us) (EP X pins σ Q) X.xe s:=by
 have hq:=h (s.heap.objs.size+1) s.heap.objs.size (I.hok.fresh (Nat.le_succ _)) (I.hok.fresh (Nat.le_refl _)) (Nat.ne_of_lt (Nat.lt_succ_self _))
 have I2:=ah.made (C:=C) I
 have r2:aH (V.ref (s.heap.objs.size+1)::(vs++dvs)) (Value.ref (s.heap.objs.size+1)::(us++ds)):=.cons rfl (r.append hd)
 have hl:(Value.ref (s.heap.objs.size+1)::us++ds).length=ps.length:=by
  have e:=r2.length
  rw [F.len _ _ _ _ hq] at e
  exact e.symm
 refine wpAny_call (oG (f:=f) I.kIn M.makes M.init (beq_iff_eq.mp M.fn) (codeAny_mono (F.run _ X.stack _ _ ⟨Value.ref (s.heap.objs.size+1)::us,[]⟩ (Value.ref (s.heap.objs.size+1)::(us++ds)) _ _ E (hr.make C us [])
  (I2.env0.make C us []) (hb _ (Value.ref (s.heap.objs.size+1)::us) I2.kIn hl) r2 hq) fun r s' hq'=>?_))
 cases r with
 | error e=>exact hx pins σ _ _ e s' I2 hq'
 | ok fl =>
  cases fl with
  | ret u =>
   obtain ⟨v,H',I3,rv,ev,q3⟩:=I2.after hq'
   subst ev
   exact ⟨rv,⟨V.ref (s.heap.objs.size+1),H',I3,rfl,q3⟩⟩
  | next=>exact False.elim hq'
  | brk=>exact False.elim hq'
  | cont=>exact False.elim hq'
theorem zd (M:Mk X.K C f) (F:bv X.prog X.w X.K X.mg X.base CX k f fd ps sp) (hr:bu (k+1) X.A) (hg:Gl X x) (hm:X.mg x=some (.ref C)) (hb:bG X.K fd ps ds) (hd:aH dvs ds) (hx:fU CX X E)
  (ha:PA X (e::es) t) (hdb:(x==("__debug__" : Str))=false:=by decide) (he:starEach (e::es) X.env=(false,eval e X.env)::starEach es X.env:=by rfl) (hpl:(backTo pos (starEach es X.env)).any (·.1)=false:=by rfl) :
  PE X (.Call (.Name x p) (e::es) [] pos) (xn C sp dvs E t):=by
 intro pins s σ H Q I h
 refine wpAny_Call_Name_kw (cP I hg hm ?_ hdb)
 refine W.callWith_K (h₀:=X.base) I.ok.mod.kin M.kp (aF (ha pos pins s σ H _ I h) fun us s1 ⟨vs,H1,I1,r,q⟩=>⟨I1.kIn,?_⟩) he hpl
 exact nX M F hr hb hd hx I1 r q
theorem v6 (M:Mk X.K C f) (F:bv X.prog X.w X.K X.mg X.base CX k f fd ps sp) (hr:bu (k+1) X.A) (hg:Gl X x) (hm:X.mg x=some (.ref C)) (hb:bG X.K fd ps ds) (hd:aH dvs ds) (hx:fU CX X E)
  (hdb:(x==("__debug__" : Str))=false:=by decide):PE X (.Call (.Name x p) [] [] pos) (xn C sp dvs E vK):=by
 intro pins s σ H Q I h
 refine wpAny_Call_Name_kw (cP I hg hm ?_ hdb)
 exact W.callWith_K0 I.kIn M.kp (nX (us:=[]) M F hr hb hd hx I .nil h)
end
section
variable {X:Cx} {CX:gQ} {k:Nat} {f C:Addr} {fd:FuncData} {ps ks:List Str} {sp:Sp} {E:XK} {x m:Str} {p pos apos kpos:Pos} {e o:Expr} {es:List Expr} {kws:List Keyword} {te ta:TE} {t tk:TA} {nm:Option Str}
variable {g:List Value->List Value->List Value} {gV:List V->List V->List V}
end
structure aQ (N P:List Str) (sc:Scope):Prop where
 kind:sc.kind=.function
 co:sc.isCoroutine=false
 gen:sc.isGenerator=false
 nd:N.Nodup
 pre:N.take P.length=P
 par:∀x∈P,sc.names.lookup x=some .local\/sc.names.lookup x=some .cell
 nofree:∀y∈sc.names,y.2 ≠ .free
theorem mV {kindOf:Str->Option NameKind} {x:Str}:∀{binds:List (Str×Value)} {m:Str->Option Value},(∀v,(x,v)∉binds)->bindL kindOf binds m x=m x
 | [],_,_=>rfl
 | (n,v)::r,m,h=>by
  unfold bindL
  rw [mV fun w hw=>h w (List.mem_cons_of_mem _ hw)]
  split
  ·have:x≠n:=by rintro rfl;exact h v List.mem_cons_self
   simp [this]
  ·rfl
theorem mX {kindOf:Str->Option NameKind} {x:Str}:∀{binds:List (Str×Value)} {m:Str->Option Value},(∀v,(x,v)∉binds)->bindC kindOf binds m x=m x
 | [],_,_=>rfl
 | (n,v)::r,m,h=>by
  unfold bindC
  rw [mX fun w hw=>h w (List.mem_cons_of_mem _ hw)]
  split
  ·rfl
  ·have:x≠n:=by rintro rfl;exact h v List.mem_cons_self
   simp [this]
theorem mW {kindOf:Str->Option NameKind} {x:Str} {v:Value}:∀{P:List Str} {vs:List Value} {i:Nat} {m:Str->Option Value},P.Nodup->P[i]?=some x->vs[i]?=some v->kindOf x=some .local ->
  bindL kindOf (P.zip vs) m x=some v
 | [],_,_,_,_,h,_,_=>by simp at h
 | _::_,[],_,_,_,_,h,_=>by simp at h
 | p::P,w::vs,0,m,nd,h1,h2,hk=>by
  simp at h1 h2;subst h1;subst h2
  show bindL kindOf ((p,w)::P.zip vs) m p=_
  unfold bindL
  rw [mV fun v hv=>(List.nodup_cons.mp nd).1 (List.of_mem_zip hv).1,if_pos hk]
  simp
 | p::P,w::vs,i+1,m,nd,h1,h2,hk=>by
  show bindL kindOf ((p,w)::P.zip vs) m x=_
  unfold bindL
  exact mW (i:=i) (List.nodup_cons.mp nd).2 (by simpa using h1) (by simpa using h2) hk
theorem mY {kindOf:Str->Option NameKind} {x:Str} {v:Value}:∀{P:List Str} {vs:List Value} {i:Nat} {m:Str->Option Value},P.Nodup->P[i]?=some x->vs[i]?=some v->kindOf x≠some .local ->
  bindC kindOf (P.zip vs) m x=some v
 | [],_,_,_,_,h,_,_=>by simp at h
 | _::_,[],_,_,_,_,h,_=>by simp at h
 | p::P,w::vs,0,m,nd,h1,h2,hk=>by
  simp at h1 h2;subst h1;subst h2
  show bindC kindOf ((p,w)::P.zip vs) m p=_
  unfold bindC
  rw [mX fun v hv=>(List.nodup_cons.mp nd).1 (List.of_mem_zip hv).1,if_neg hk]
  simp
 | p::P,w::vs,i+1,m,nd,h1,h2,hk=>by
  show bindC kindOf ((p,w)::P.zip vs) m x=_
  unfold bindC
  exact mY (i:=i) (List.nodup_cons.mp nd).2 (by simpa using h1) (by simpa using h2) hk
def start (N:List Str) (vs:List V):St:=vs.map some++List.replicate (N.length - vs.length) none
def cW (CX:gQ) (P:Program) (w:World) (K:W.Frag) (mg:Str->Option Value) (base:Heap) (N:List Str) (qual:Str) (scope:Scope) (f:Addr) (cd:Value) (A:Around) (outer:List Env) (s:Shared) (H:Hp) (E:XK):Cx where
 prog:=P
 w:=w
 K:=K
 mg:=mg
 base:=base
 A:=A.deeper (envOfC qual scope s.heap.objs.size f cd)
 N:=N
 s₀:=s
 H₀:=H
 env:=envOfC qual scope s.heap.objs.size f cd
 outer:=outer
 stack:=envOfC qual scope s.heap.objs.size f cd::outer
 ex:=[]
 calm:=true
 fn:=fun _=>true
 pn:=[]
 xe:=fun e s'=>wpAny (model P w) (A.deeper (envOfC qual scope s.heap.objs.size f cd)) (leaving (envOfC qual scope s.heap.objs.size f cd) e) (fun _ s''=>CX outer H s E e s'') (fun e' s''=>CX outer H s E e' s'') s'
theorem pd {sc:Scope} {n:Nat} {x:Str} (h:sc.names.lookup x=some .cell):∃c,(cellsFrom n sc.names []).lookup x=some c:=by
 have q:=W.cellsFrom_some sc.names n [] (.inl h)
 exact Option.isSome_iff_exists.mp q
theorem uH {CX:gQ} {P:Program} {w:World} {K:W.Frag} {mg:Str->Option Value} {base:Heap} {N ps:List Str} {qual:Str} {scope:Scope} {f:Addr} {cd:Value} {A:Around} {outer:List Env} {s s1:Shared} {H:Hp} {E:XK} {us:List Value} {vs:List V}
  (S:aQ N ps scope) (hd:A.handled=none) (e0:gx P w K mg base A outer s H) (hl:vs.length=ps.length) (r:aH vs us)
  (x:InCallC s s.heap.objs.size (bindL (envOfC qual scope s.heap.objs.size f cd).kindOf (ps.zip us) fun _=>none) (cellsFrom (s.heap.objs.size+1) scope.names []) (bindC (envOfC qual scope s.heap.objs.size f cd).kindOf (ps.zip us) fun _=>none) s1) :
  ah (cW CX P w K mg base N qual scope f cd A outer s H E) [] (start N vs) H s1:=by
 have hpl:ps.length<=N.length:=by have:=congrArg List.length S.pre;rw [List.length_take] at this;omega
 obtain ⟨h1,tk,rfl,hk⟩:=x.done
 have noA:∀b:Addr,b∉(cW CX P w K mg base N qual scope f cd A outer s H E).ex:=fun b z=>absurd (show b∈([]:List Addr) from z) (by simp)
 refine ⟨⟨e0.mod,S.kind,rfl,rfl,Nat.le_refl _,fun y z c h1 h2=>?_,fun y hy=>?_,fun y c _ h=>?_,fun _=>hd,Around.frames_deeper e0.frames,.inr ⟨rfl,rfl⟩,fun b z=>absurd z (noA b),e0.bs,e0.bsz,fun b _ _=>noA b,fun b z=>absurd z (noA b),e0.funs,e0.frf⟩,
  rfl,e0.bare,Un.kept hk,⟨_,x.toInCall.ns,fun i y v h1 h2 h3=>?_⟩,fun y c h=>⟨_,x.cell y c h⟩,e0.hok.fresh (Nat.le_refl _),fun y c h=>?_,fun p hp=>absurd (show p∈([]:List (Addr×Obj)) from hp) (by simp),e0.hok.kept hk,?_⟩
 ·exact name_of_addr x.apart (PySem.mem_of_lookup h1) (PySem.mem_of_lookup h2)
 ·have hy:scope.names.lookup y=some .cell\/scope.names.lookup y=some .free:=hy
  rcases hy with hy|hy
  ·exact pd hy
  ·exact absurd rfl (S.nofree _ (PySem.mem_of_lookup hy))
 ·exact Nat.le_of_lt (x.above y c (PySem.mem_of_lookup h))
 ·have hi:i < vs.length:=by
   unfold start at h2
   by_cases hi:i < vs.length
   ·exact hi
   ·rw [List.getElem?_append_right (by simpa using hi)] at h2
    rw [List.getElem?_replicate] at h2
    split at h2 <;> cases h2
  have ha:vs[i]?=some v:=by
   unfold start at h2
   rw [List.getElem?_append_left (by simpa using hi),List.getElem?_map] at h2
   cases e:vs[i]? with
   | none=>rw [e] at h2;cases h2
   | some a=>rw [e] at h2;cases h2;rfl
  obtain ⟨u,hu,rv⟩:=r.get ha
  have hp:ps[i]?=some y:=by
   rw [<- S.pre,List.getElem?_take_of_lt (by omega)];exact h1
  have ndP:ps.Nodup:=by rw [<- S.pre];exact S.nd.sublist (List.take_sublist _ _)
  refine ⟨u,rv,?_⟩
  rcases S.par y (List.mem_of_getElem? hp) with k|k
  ·exact .inl ⟨k,mW ndP hp hu k⟩
  ·obtain ⟨c,e⟩:=pd (n:=s.heap.objs.size+1) k
   refine .inr ⟨.inl k,c,e,?_⟩
   have q:=x.cell y c e
   rw [mY ndP hp hu (by show scope.names.lookup y≠_;rw [k];decide)] at q
   exact q
 ·exact e0.hok.fresh (Nat.le_of_lt (x.above y c (PySem.mem_of_lookup h)))
 ·unfold start
  show _=N.length
  rw [List.length_append,List.length_map,List.length_replicate]
  omega
theorem xV {CX:gQ} {P:Program} {w:World} {K:W.Frag} {mg:Str->Option Value} {base:Heap} {k:Nat} {f:Addr} {name qual:Str} {params:Arguments} {body:List Stmt} {scope:Scope} {dV kV doc pm cdv ct oc:Value} {an od:Option Addr}
  {osl:Array (Option Value)} {N ps:List Str} {sp:Sp} (lk:K.lookup f=some ⟨oc,od,.func (W.fnOf name qual params body scope dV kV doc pm an cdv ct),osl⟩) (hcd:W.codeIn K cdv qual=true) (S:aQ N ps scope)
  (len:∀vs H Q E,sp vs H Q E->vs.length=ps.length)
  (hbody:∀(A:Around) (outer:List Env) (s:Shared) (H:Hp) (vs:List V) (Q:VK) (E:XK),bu k (A.deeper (envOfC qual scope s.heap.objs.size f cdv))->sp vs H Q E ->
   ∃t,cT (cW CX P w K mg base N qual scope f cdv A outer s H E) body t/\t { nx:=fun _ H'=>Q .non H',rt:=Q } (start N vs) H) :
  bv P w K mg base CX (k+1) f (W.fnOf name qual params body scope dV kV doc pm an cdv ct) ps sp:=by
 refine ⟨len,fun A outer s H args us vs Q E hr e0 hb r hsp=>?_⟩
 have hl:=len _ _ _ _ hsp
 have KX:K.In s.heap:=e0.mod.kin.keeps fun b o e=>(e0.bs b o e).1
 have lim:s.heap.NoLimit:=e0.mod.nolimit.keeps fun b o e=>(e0.bs b o e).1
 have hkind:∀y∈ps.zip us,scope.names.lookup y.1=some .local\/(scope.names.lookup y.1=some .cell/\((cellsFrom (s.heap.objs.size+1) scope.names []).lookup y.1).isSome=true):=fun ⟨n,v⟩ hy=>by
  rcases S.par n (List.of_mem_zip hy).1 with q|q
  ·exact .inl q
  ·exact .inr ⟨q,W.cellsFrom_some _ _ _ (.inl q)⟩
 refine codeAny_call_function hr.depth (KX _ _ lk) rfl S.co S.gen rfl (W.codeRec_of KX hcd) (hb _ _ _ _ ?_)
 refine wpAny_newFunctionEnv_cells S.kind hkind fun env he s1 x=>?_
 subst he
 refine ⟨lim.keeps x.toInCall.keep,codeAny_func ?_⟩
 obtain ⟨t,ht,hq⟩:=hbody A outer s H vs Q E (hr.deeper _) hsp
 have I:ah (cW CX P w K mg base N qual scope f cdv A outer s H E) [] (start N vs) H s1:=uH S hr.hd e0 hl r x
 refine wpAny_mono (ht [] s1 (start N vs) H _ I hq) (fun fl s' hs=>?_) fun e s' hs=>hs
 have fin:∀{σ':St} {H':Hp} {v:V} {u:Value},ah (cW CX P w K mg base N qual scope f cdv A outer s H E) [] σ' H' s'->aM v u->Q v H'->CE outer P w H s Q u s' :=
  fun {σ' H' v u} J rv q=>⟨v,H',J.os,J.bare,J.base,J.hok,rv,q⟩
 cases fl with
 | ret u =>
  obtain ⟨v,σ',H',J,rv,q⟩:=hs
  exact fin J rv q
 | next =>
  obtain ⟨σ',H',J,q⟩:=hs
  exact fin (v:=V.non) (u:=Value.none) J rfl q
 | brk =>
  obtain ⟨_,_,_,q⟩:=hs
  exact False.elim q
 | cont =>
  obtain ⟨_,_,_,q⟩:=hs
  exact False.elim q
end L2
namespace L2
open PySem PySem.Spec PyProof.Rows
section
variable {X:Cx} {x:Str} {p pos:Pos} {e:Expr} {es:List Expr} {t:TA} {id T:String} {r:List V->Hp->VK->Prop}
def Fp (r:List V->Hp->VK->Prop) (t:TA):TE:=fun σ H Q=>t σ H fun vs H1=>r vs H1 Q
theorem v8 (hc:cI X (.builtin id) r) (hg:Gl X x) (hm:X.mg x=none) (hv:bootBuiltins x=some (.builtin id)) (ha:PA X (e::es) t) (hn:x ≠ "__name__" := by decide) (hdb:(x==("__debug__" : Str))=false:=by decide)
  (he:starEach (e::es) X.env=(false,eval e X.env)::starEach es X.env:=by rfl) (hpl:(backTo pos (starEach es X.env)).any (·.1)=false:=by rfl):PE X (.Call (.Name x p) (e::es) [] pos) (Fp r t):=by
 intro pins s σ H Q I h
 refine wpAny_Call_Name_kw (fG I hg hm hv ?_ hn hdb)
 exact PyProof.Rows.callWith_builtin1 (aF (ha pos pins s σ H _ I h) fun us s1 ⟨vs,H1,I1,r1,q1⟩=>hc pins s1 σ H1 vs us Q I1 r1 q1) he hpl
theorem ue (hc:cI X (.type T) r) (hg:Gl X x) (hm:X.mg x=none) (hv:bootBuiltins x=some (.type T)) (ha:PA X (e::es) t) (hn:x ≠ "__name__" := by decide) (hdb:(x==("__debug__" : Str))=false:=by decide)
  (he:starEach (e::es) X.env=(false,eval e X.env)::starEach es X.env:=by rfl) (hpl:(backTo pos (starEach es X.env)).any (·.1)=false:=by rfl):PE X (.Call (.Name x p) (e::es) [] pos) (Fp r t):=by
 intro pins s σ H Q I h
 refine wpAny_Call_Name_kw (fG I hg hm hv ?_ hn hdb)
 exact PyProof.Rows.callWith_type1 (aF (ha pos pins s σ H _ I h) fun us s1 ⟨vs,H1,I1,r1,q1⟩=>hc pins s1 σ H1 vs us Q I1 r1 q1) he hpl
end
end L2
namespace HT
open PySem PyProof.Rows
def lexLt:List Int->List Int->Bool
 | [],[]=>false
 | [],_::_=>true
 | _::_,[]=>false
 | x::xs,y::ys=>if x=y then lexLt xs ys else decide (x < y)
section
open PySem.SeqAt
open PySem.AutoSeq1 (wpAny_loadPart')
open PySem.MeetsSeq PySem.MeetsSeq2 PySem.MeetsSeq3
end
section
variable {prog:Program} {w:World} {A:Around} {E:Value->Shared->Prop} {s:Shared}
def sIx (n d:Nat):Option Int->Nat
 | none=>d
 | some v=>if v < 0 then (v+(n:Int)).toNat else min v.toNat n
theorem sIx_none (n d:Nat):sIx n d none=d:=rfl
theorem sIx_nat (n d k:Nat):sIx n d (some (k:Int))=min k n:=by
 show (if (k:Int) < 0 then ((k:Int)+(n:Int)).toNat else min (k:Int).toNat n)=min k n
 rw [if_neg (by omega),Int.toNat_natCast]
theorem Ba (n d:Nat) (hd:d<=n) (o:Option Int):sIx n d o<=n:=by
 cases o with
 | none=>exact hd
 | some v =>
  show (if v < 0 then (v+(n:Int)).toNat else min v.toNat n)<=n
  by_cases hv:v < 0
  ·rw [if_pos hv];omega
  ·rw [if_neg hv];exact Nat.min_le_right _ _
theorem qL (v:Int) (n d:Nat):(if v < 0 then max (v+(n:Int)) 0 else min v (n:Int))=((sIx n d (some v):Nat):Int):=by
 show (if v < 0 then max (v+(n:Int)) 0 else min v (n:Int))=(((if v < 0 then (v+(n:Int)).toNat else min v.toNat n):Nat):Int)
 by_cases hv:v < 0
 ·simp only [if_pos hv];omega
 ·simp only [if_neg hv];omega
theorem sI (lo hi:Option Int) (n:Nat):Builtin.Slice.sliceAdjust lo hi 1 (n:Int)=(((sIx n 0 lo:Nat):Int),((sIx n n hi:Nat):Int)):=by
 have h1:¬ ((1:Int) < 0):=by omega
 unfold Builtin.Slice.sliceAdjust
 simp only [h1,if_false]
 refine Prod.ext ?_ ?_
 ·cases lo with
  | none=>rfl
  | some v=>exact qL v n 0
 ·cases hi with
  | none=>rfl
  | some v=>exact qL v n n
theorem rG (i j:Nat):Builtin.Slice.slicePlaces (i:Int) (j:Int) 1=j - i:=by
 unfold Builtin.Slice.slicePlaces
 have h1:(1:Int) > 0:=by omega
 simp only [h1,if_true,Int.ediv_one]
 split <;> omega
theorem kD {v:Value} {o:Option Int} {Q:Option Int->Shared->Prop} (p:IsPart v o) (h:Q o s):wpAny (model prog w) A (Builtin.Slice.slicePartIndex v) Q E s:=by
 cases p with
 | none=>exact slicePart_none h
 | int i t=>exact slicePart_int h
theorem jS {sl:Addr} {vl vu:Value} {lo hi:Option Int} {n:Nat} {Q:Int×Int×Nat->Shared->Prop} (hs:s.heap.IsSliceOf sl vl vu .none) (pl:IsPart vl lo) (pu:IsPart vu hi)
  (h:Q (((sIx n 0 lo:Nat):Int),1,sIx n n hi - sIx n 0 lo) s):wpAny (model prog w) A (Builtin.Slice.sliceApplied (.ref sl) (pure (n:Int))) Q E s:=by
 obtain ⟨os,hos,hcs,hds⟩:=id hs
 unfold Builtin.Slice.sliceApplied Builtin.Slice.sliceFields
 refine wpAny_bind (wpAny_bind (wpAny_field hos hds (x:=vl) rfl (wpAny_bind (wpAny_field hos hds (x:=vu) rfl (wpAny_bind (wpAny_field hos hds (x:=.none) rfl (wpAny_pure ?_)))))))
 refine wpAny_bind (slicePart_none ?_)
 show wpAny _ _ (if ((1:Int)==0)=true then _ else _) _ _ s
 rw [if_neg (by decide)]
 refine wpAny_bind (kD pl (wpAny_bind (kD pu (wpAny_bind (wpAny_pure ?_)))))
 show wpAny _ _ (match Builtin.Slice.sliceAdjust lo hi 1 (n:Int) with | (lo,hi)=>pure (lo,(1:Int),Builtin.Slice.slicePlaces lo hi 1)) _ _ s
 rw [sI lo hi n]
 show wpAny _ _ (pure (((sIx n 0 lo:Nat):Int),(1:Int),Builtin.Slice.slicePlaces ((sIx n 0 lo:Nat):Int) ((sIx n n hi:Nat):Int) 1)) _ _ s
 rw [rG]
 exact wpAny_pure h
theorem v5 (xs:Array Value) (i k:Nat):((List.range k).filterMap fun (m:Nat)=>xs[((i:Int)+(m:Int)*1).toNat]?).toArray=((xs.toList.drop i).take k).toArray:=by
 have e:(fun (m:Nat)=>xs[((i:Int)+(m:Int)*1).toNat]?)=fun m=>xs[i+m]?:=by
  funext m
  have:((i:Int)+(m:Int)*1).toNat=i+m:=by omega
  rw [this]
 rw [e]
 have:=pick_run xs i k
 rw [List.filterMap_map] at this
 have e2:((fun x=>xs[x]?) ∘ fun x=>i+x)=fun m=>xs[i+m]?:=rfl
 rw [e2] at this
 rw [this]
theorem getItem_tuple_cut {t sl:Addr} {items:Array Value} {vl vu:Value} {lo hi:Option Int} {Q:Value->Shared->Prop} (ht:IsTup s.heap t items) (hs:s.heap.IsSliceOf sl vl vu .none) (pl:IsPart vl lo) (pu:IsPart vu hi)
  (hw:¬ (sIx items.size 0 lo=0/\sIx items.size items.size hi=items.size))
  (h:Q (.ref s.heap.objs.size) { s with heap:=s.heap.push { cls:=.type "tuple", data:=.seq ((items.toList.drop (sIx items.size 0 lo)).take (sIx items.size items.size hi - sIx items.size 0 lo)).toArray } })
  (hsz:items.size<=sizeLine):wpAny (model prog w) A (getItem (.ref t) (.ref sl)) Q E s:=by
 have htake:sizeOk (.seq ((items.toList.drop (sIx items.size 0 lo)).take (sIx items.size items.size hi - sIx items.size 0 lo)).toArray):=by
  show ((items.toList.drop (sIx items.size 0 lo)).take (sIx items.size items.size hi - sIx items.size 0 lo)).toArray.size<=sizeLine
  rw [List.size_toArray,List.length_take,List.length_drop,Array.length_toList]
  omega
 have hj:sIx items.size items.size hi<=items.size:=Ba _ _ (Nat.le_refl _) hi
 obtain ⟨os,hos,hcs,hds⟩:=id hs
 have hTs:s.TypeIs (.ref sl) "slice" := ⟨os,hos,hcs⟩
 unfold getItem
 try with_reducible refine wpAny_holding ?_
 first|refine wpAny_bind (wpAny_pure ?_) | skip
 refine wpAny_bind (wpAny_sequenceKey ht.typeIs (by decide) ?_)
 refine wpAny_bind (wpAny_callSpecial?_slot (name:=Str.ofString "__getitem__") ht.typeIs PyProof.Rows.slot_tuple_getitem
  (wpAny_call_entry PyProof.Rows.slot_tuple_getitem ht.typeIs entry_tuple_getitem ?_ (args_tuple_getitem _ _)))
 show wpAny _ _ (Builtin.Tuple.tupleItemsOf (.ref t) >>= _) _ _ s
 refine wpAny_bind (tupleItemsOf_ ht ?_)
 refine wpAny_bind (wpAny_typeOf hTs ?_)
 rw [if_pos (by decide)]
 refine wpAny_bind (jS hs pl pu ?_)
 have hno:¬ ((((sIx items.size 0 lo:Nat):Int)==0&&(1:Int)==1&&(sIx items.size items.size hi - sIx items.size 0 lo)==items.size)=true):=by
  intro q
  rw [Bool.and_eq_true,Bool.and_eq_true] at q
  have q1:((sIx items.size 0 lo:Nat):Int)=0:=eq_of_beq q.1.1
  have q2:sIx items.size items.size hi - sIx items.size 0 lo=items.size:=eq_of_beq q.2
  exact hw ⟨by omega,by omega⟩
 show wpAny _ _ (if (((sIx items.size 0 lo:Nat):Int)==0&&(1:Int)==1&&(sIx items.size items.size hi - sIx items.size 0 lo)==items.size)=true then _ else _) _ _ s
 rw [if_neg hno,v5]
 first
  | exact wpAny_bind (m:=Builtin.Tuple.tupleExact _) (wpAny_newObj_type (wpAny_pure ⟨_,rfl,wpAny_pure h⟩) htake)
  | exact wpAny_bind (m:=Builtin.Tuple.tupleExact _) (wpAny_newObj_type (wpAny_bind (wpAny_pure (wpAny_pure ⟨_,rfl,wpAny_pure h⟩))) htake)
  | exact wpAny_bind (wpAny_bind (m:=Builtin.Tuple.tupleExact _) (wpAny_newObj_type (wpAny_pure (wpAny_pure ⟨_,rfl,wpAny_pure h⟩)) htake))
  | exact wpAny_bind (wpAny_bind (m:=Builtin.Tuple.tupleExact _) (wpAny_newObj_type (wpAny_pure ⟨_,rfl,wpAny_pure h⟩) htake))
end
end HT
namespace L2
open PySem PySem.Spec PyProof.Rows
abbrev TO:=St->Hp->(Option Int->Hp->Prop)->Prop
def PO (X:Cx) (e:Option Expr) (t:TO):Prop :=
 ∀(pins:List (Addr×Obj)) (s:Shared) (σ:St) (H:Hp) (Q:Option Int->Hp->Prop),ah X pins σ H s->t σ H Q ->
  wpAny (model X.prog X.w) X.A (evalPart e X.env) (fun u s' => ∃o H',ah X pins σ H' s'/\IsPart u o/\Q o H') X.xe s
def yE:TO:=fun _ H Q=>Q none H
def DZ (t:TE):TO:=fun σ H Q=>t σ H fun x H1 => ∃i,x=.int i/\Q (some i) H1
section
variable {X:Cx} {e:Expr} {te:TE} {lo hi:Option Expr} {tl th:TO} {pos p2:Pos}
theorem zb:PO X none yE:=by
 intro pins s σ H Q I h
 rw [evalPart_none]
 exact wpAny_pure ⟨none,H,I,.none,h⟩
theorem za (h:PE X e te):PO X (some e) (DZ te):=by
 intro pins s σ H Q I hw
 rw [evalPart_some]
 refine aF (h pins s σ H _ I hw) fun u s1 ⟨x,H1,I1,r1,q1⟩=>?_
 obtain ⟨i,rfl,q⟩:=q1
 obtain ⟨t,rfl⟩:=r1
 exact ⟨some i,H1,I1,.int i t,q⟩
def yj (X:Cx) (r:V->Option Int->Option Int->Hp->VK->Prop):Prop :=
 ∀(pins:List (Addr×Obj)) (s:Shared) (σ:St) (H:Hp) (x:V) (v vl vu:Value) (lo hi:Option Int) (sl:Addr) (Q:VK),ah X pins σ H s->aM x v->s.heap.IsSliceOf sl vl vu .none->IsPart vl lo->IsPart vu hi->r x lo hi H Q ->
  ∃T id,typeLookup (.type T) "__getitem__" = pure (some (.builtin id))/\s.TypeIs v T/\wpAny (model X.prog X.w) X.A (getItem v (.ref sl)) (EP X pins σ Q) X.xe s
def JX (r:V->Option Int->Option Int->Hp->VK->Prop) (te:TE) (tl th:TO):TE:=fun σ H Q=>te σ H fun x H1=>tl σ H1 fun l H2=>th σ H2 fun u H3=>r x l u H3 Q
theorem jX {r:V->Option Int->Option Int->Hp->VK->Prop} (hr:yj X r) (he:PE X e te) (hl:PO X lo tl) (hu:PO X hi th):PE X (.Subscript e (.Slice lo hi none p2) pos) (JX r te tl th):=by
 intro pins s σ H Q I h
 refine Subscript_ (aF (he pins s σ H _ I h) fun v s1 ⟨x,H1,I1,r1,q1⟩=>?_)
 refine wpAny_Slice (aF (hl pins s1 σ H1 _ I1 q1) fun vl s2 ⟨l,H2,I2,pl,q2⟩=>aF (hu pins s2 σ H2 _ I2 q2) fun vu s3 ⟨u,H3,I3,pu,q3⟩=>?_)
 rw [evalPart_none]
 refine wpAny_pure ?_
 have I4:ah X pins σ H3 { s3 with heap:=s3.heap.push { cls:=.type "slice", data:=.fields #[vl,vu,.none] } }:=I3.kept (t':=s3.toks) fun b ob q=>Heap.get?_push_of_some _ q
 obtain ⟨T,id,hT,ht,hg⟩:=hr pins { s3 with heap:=s3.heap.push { cls:=.type "slice", data:=.fields #[vl,vu,.none] } } σ H3 x v vl vu l u s3.heap.objs.size Q I4 r1 (Heap.IsSliceOf.new ..) pl pu q3
 show wpAny (model X.prog X.w) X.A (subscriptTail e (.Slice lo hi none p2) v (.ref s3.heap.objs.size)) (EP X pins σ Q) X.xe { s3 with heap:=s3.heap.push { cls:=.type "slice", data:=.fields #[vl,vu,.none] } }
 exact tail_any (ops:=[.ref s3.heap.objs.size,v]) ht hT hg (by with_unfolding_all rfl)
def gp (xs:List V) (lo hi:Option Int):List V:=(xs.drop (HT.sIx xs.length 0 lo)).take (HT.sIx xs.length xs.length hi - HT.sIx xs.length 0 lo)
theorem jK (xs:List V) (lo hi:Option Int):(gp xs lo hi).length<=xs.length:=by
 unfold gp
 rw [List.length_take,List.length_drop]
 omega
def GC (K:W.Frag):V->Option Int->Option Int->Hp->VK->Prop:=fun x lo hi H Q => ∃a xs,x=.ref a/\cj K H a xs /\
 ¬ (HT.sIx xs.length 0 lo=0/\HT.sIx xs.length xs.length hi=xs.length)/\∀p,H p=none->Q (.ref p) (aE H p (.tup (gp xs lo hi)))
theorem AZ:yj X (GC X.K):=by
 intro pins s σ H x v vl vu lo hi sl Q I rx hs pl pu h
 obtain ⟨a,xs,rfl,hx,hw,q⟩:=h
 cases rx
 obtain ⟨its,r,ht,hz⟩:=I.tuple hx
 have hlen:its.toArray.size=xs.length:=by rw [List.size_toArray];exact r.length.symm
 refine ⟨"tuple", _,PyProof.Rows.slot_tuple_getitem.lookup,ht.typeIs,?_⟩
 refine HT.getItem_tuple_cut ht hs pl pu (by rw [hlen];exact hw) ?_ (by rw [hlen];exact hz)
 rw [hlen]
 refine ⟨.ref s.heap.objs.size,_,I.laid (t':=s.toks) (o:=.tup (gp xs lo hi)) (fun b ob q=>Heap.get?_push_of_some _ q) (Nat.le_refl _) ?_,rfl,q _ (I.hok.fresh (Nat.le_refl _))⟩
 exact ⟨Nat.le_trans (jK xs lo hi) hz,_,(r.drop (HT.sIx xs.length 0 lo)).take (HT.sIx xs.length xs.length hi - HT.sIx xs.length 0 lo),IsTup.new _ _⟩
def rLtT (K:W.Frag):R2:=fun x y H Q => ∃a b ns ms,x=.ref a/\y=.ref b/\cj K H a (ns.map V.int)/\cj K H b (ms.map V.int)/\Q (.bl (HT.lexLt ns ms)) H
def rCatT (K:W.Frag):R2:=fun x y H Q => ∃a b xs ys,x=.ref a/\y=.ref b/\cj K H a xs/\cj K H b ys/\xs≠[]/\xs.length+ys.length<=sizeLine /\
 (ys=[]->Q (.ref a) H)/\(ys≠[]->∀p,H p=none->Q (.ref p) (aE H p (.tup (xs++ys))))
end
end L2
namespace L2
open PySem PySem.Spec PyProof.Rows
def im (n:Nat) (i:Int):Option Nat:=if 0<=i then (if i < n then some i.toNat else none) else if -(n:Int)<=i then some (i+n).toNat else none
def atI {α:Type} (xs:List α) (i:Int):Option α:=(im xs.length i).bind fun j=>xs[j]?
theorem qv {n:Nat} {i:Int} {j:Nat} (h:im n i=some j):seqIndex? i n=some j/\j < n /\ -(n:Int)<=i/\i < n:=by
 unfold im at h
 by_cases h0:0<=i
 ·rw [if_pos h0] at h
  by_cases h1:i < n
  ·rw [if_pos h1] at h
   have e:i.toNat=j:=Option.some.inj h
   exact ⟨by rw [seqIndex_of h0 h1,e],by omega,by omega,h1⟩
  ·rw [if_neg h1] at h;cases h
 ·rw [if_neg h0] at h
  by_cases h1:-(n:Int)<=i
  ·rw [if_pos h1] at h
   have e:(i+n).toNat=j:=Option.some.inj h
   exact ⟨by rw [seqIndex_neg (by omega) h1,e],by omega,h1,by omega⟩
  ·rw [if_neg h1] at h;cases h
theorem qQ {α:Type} {xs:List α} {i:Int} {v:α} (h:atI xs i=some v):∃j,seqIndex? i xs.length=some j/\xs[j]?=some v/\j < xs.length /\ -(xs.length:Int)<=i/\i < xs.length:=by
 unfold atI at h
 cases e:im xs.length i with
 | none=>rw [e] at h;cases h
 | some j =>
  rw [e] at h
  obtain ⟨h1,h2,h3,h4⟩:=qv e
  exact ⟨j,h1,h,h2,h3,h4⟩
theorem qP {α:Type} {xs:List α} {j:Nat} {v:α} (h:xs[j]?=some v):atI xs (j:Int)=some v:=by
 have hj:j < xs.length:=(List.getElem?_eq_some_iff.mp h).1
 have e:im xs.length (j:Int)=some j:=by
  unfold im
  rw [if_pos (by omega),if_pos (by omega)];simp
 unfold atI;rw [e];exact h
def fB (b:Expr):Prop:=∀o i,subscripted b false o i=operate [o,i] (getItem o i)
def DO (X:Cx) (r:R2):Prop :=
 ∀(value slice:Expr) (pins:List (Addr×Obj)) (s:Shared) (σ:St) (H:Hp) (x y:V) (v u:Value) (Q:VK),ah X pins σ H s->aM x v->aM y u->r x y H Q ->
  subscripted slice false v u=operate [v,u] (getItem v u)->wpAny (model X.prog X.w) X.A (subscriptTail value slice v u) (EP X pins σ Q) X.xe s
def mZ (X:Cx) (id:String) (r:V->List V->Hp->VK->Prop):Prop :=
 ∀(pins:List (Addr×Obj)) (s:Shared) (σ:St) (H:Hp) (x:V) (xs:List V) (v:Value) (us:List Value) (Q:VK),ah X pins σ H s->aM x v->aH xs us->r x xs H Q ->
  wpAny (model X.prog X.w) X.A (call (.builtin id) (v::us)) (EP X pins σ Q) X.xe s
section
variable {X:Cx} {a b:Expr} {ta tb:TE} {pos:Pos}
theorem xC {r:R2} (hr:DO X r) (ha:PE X a ta) (hb:PE X b tb) (hs:fB b):PE X (.Subscript a b pos) (Fo r ta tb):=by
 intro pins s σ H Q I h
 exact Subscript_ (Dv ha hb I h fun v u s2 x y H2 I2 rx ry q=>hr a b pins s2 σ H2 x y v u Q I2 rx ry q (hs _ _))
def GG (K:W.Frag):R2:=fun x y H Q => ∃p xs i v,x=.ref p/\y=.int i/\bR K H p xs/\atI xs i=some v/\Q v H
def GF (K:W.Frag):R2:=fun x y H Q => ∃p xs i v,x=.ref p/\y=.int i/\cj K H p xs/\atI xs i=some v/\Q v H
theorem zA:DO X (GG X.K):=by
 intro value slice pins s σ H x y v u Q I rx ry h hs
 obtain ⟨p,xs,i,z,rfl,rfl,hq,he,q⟩:=h
 cases rx
 obtain ⟨t,rfl⟩:=ry
 obtain ⟨its,r,pl,hz⟩:=I.list hq
 obtain ⟨j,h1,h2,h3,h4,h5⟩:=qQ he
 obtain ⟨w,ew,rw'⟩:=r.get h2
 have hl:=r.length
 have hn:=iQ
 have fin:EP X pins σ Q w s:=⟨z,H,I,rw',q⟩
 by_cases h0:0<=i
 ·have hj:i.toNat=j:=by
   rw [seqIndex_of h0 h5] at h1
   exact Option.some.inj h1
  exact item_listR pl.isList h0 (by omega) (by rw [hj];simpa using ew) fin hs
 ·have hj:(i+(its.toArray.size:Int)).toNat=j:=by
   rw [seqIndex_neg (by omega) h4] at h1
   rw [List.size_toArray,<- hl]
   exact Option.some.inj h1
  exact subscriptTail_builtinR (x:=w) pl.isList.typeIs slot_list_getitem.lookup
   (wpAny_getItem_list_neg (Q:=fun r s'=>r=w/\EP X pins σ Q r s') pl.isList (by omega) (by rw [List.size_toArray] <;> omega) (by omega) (by rw [hj];simpa using ew) ⟨rfl,fin⟩) hs
theorem Cf:DO X (GF X.K):=by
 intro value slice pins s σ H x y v u Q I rx ry h hs
 obtain ⟨p,xs,i,z,rfl,rfl,hq,he,q⟩:=h
 cases rx
 obtain ⟨t,rfl⟩:=ry
 obtain ⟨its,r,pl,hz⟩:=I.tuple hq
 obtain ⟨j,h1,h2,h3,h4,h5⟩:=qQ he
 obtain ⟨w,ew,rw'⟩:=r.get h2
 have hl:=r.length
 have hn:=iQ
 have fin:EP X pins σ Q w s:=⟨z,H,I,rw',q⟩
 exact subscriptTail_builtinR (x:=w) pl.typeIs slot_tuple_getitem.lookup
  (getItem_tuple (j:=j) (Q:=fun r s'=>r=w/\EP X pins σ Q r s') pl (by omega) (by omega) (by rw [List.size_toArray,<- hl];exact h1) (by simpa using ew) ⟨rfl,fin⟩) hs
theorem rQ (its:List Value) (n j:Nat) (u:Value):Obj.mapSeq (·.setIfInBounds j u) { cls:=.type "list", data:=.seq its.toArray n } = { cls:=.type "list", data:=.seq (its.set j u).toArray n }:=by
 simp [Obj.mapSeq]
theorem ah.lst {pins:List (Addr×Obj)} {σ:St} {H:Hp} {s:Shared} {p:Addr} {xs:List V} (I:ah X pins σ H s) (h:H p=some (.lst xs)) :
  ∃(its:List Value) (n:Nat),aH xs its/\s.heap.get? p=some { cls:=.type "list", data:=.seq its.toArray n }/\xs.length<=sizeLine:=by
 obtain ⟨z,its,n,r,e⟩:=I.hok p _ h
 exact ⟨its,n,r,e,z⟩
theorem ah.lstUpd {pins:List (Addr×Obj)} {σ:St} {H:Hp} {s:Shared} {p:Addr} {xs ys:List V} {its its':List Value} {n n':Nat} {f:Obj->Obj} (I:ah X pins σ H s) (h:H p=some (.lst xs))
  (ho:s.heap.get? p=some { cls:=.type "list", data:=.seq its.toArray n }) (hf:f { cls:=.type "list", data:=.seq its.toArray n } = { cls:=.type "list", data:=.seq its'.toArray n' }) (r:aH ys its') (hz:ys.length<=sizeLine) (t:Nat) :
  ah X pins σ (aE H p (.lst ys)) { s with heap:=s.heap.update p f,toks:=t }:=by
 have e:(s.heap.update p f).get? p=some { cls:=.type "list", data:=.seq its'.toArray n' }:=by
  rw [Heap.get?_update_self f ho (by rw [hf] <;> rfl),hf]
 refine I.write (x:=p) (e:=p) (by rw [h];trivial) (.inl rfl) (fun b u hb q=>(Heap.get?_update_other _ _ (Ne.symm hb)).trans q) ⟨_,e⟩ ?_
 exact ⟨hz,its',n',r,e⟩
def Ee:V->V->V->Hp->(Hp->Prop)->Prop:=fun o i v H Q => ∃p xs k j,o=.ref p/\i=.int k/\H p=some (.lst xs)/\im xs.length k=some j/\Q (aE H p (.lst (xs.set j v)))
theorem vR:DI X Ee:=by
 intro pins s σ H o i v ov iv u Q I ro ri rv h
 obtain ⟨p,xs,k,j,rfl,rfl,hp,hj,q⟩:=h
 cases ro
 obtain ⟨t,rfl⟩:=ri
 obtain ⟨its,n,r,ho,hz⟩:=I.lst hp
 obtain ⟨h1,h2,h3,h4⟩:=qv hj
 have hl:=r.length
 have hn:=iQ
 have I':ah X pins σ (aE H p (.lst (xs.set j v))) { s with heap:=s.heap.update p (Obj.mapSeq (·.setIfInBounds j u)) } :=
  I.lstUpd hp ho (rQ its n j u) (r.set rv j) (by rw [List.length_set];exact hz) s.toks
 by_cases h0:0<=k
 ·have hk:k.toNat=j:=by
   rw [seqIndex_of h0 h4] at h1
   exact Option.some.inj h1
  exact W.ki_setAt ho h0 (by omega) (by rw [List.size_toArray,<- hl];exact h4) (by rw [hk];exact ⟨_,I',q⟩)
 ·have hk:(k+(its.toArray.size:Int)).toNat=j:=by
   rw [seqIndex_neg (by omega) h3] at h1
   rw [List.size_toArray,<- hl]
   exact Option.some.inj h1
  exact W.ki_setBack ho (by omega) (by rw [List.size_toArray,<- hl];exact h3) (by omega) (by rw [hk];exact ⟨_,I',q⟩)
theorem nV (lo hi:Option Int) (n:Nat):(sliceBounds lo hi none n).1=((HT.sIx n 0 lo:Nat):Int)/\(sliceBounds lo hi none n).2.1=((HT.sIx n n hi:Nat):Int)/\(sliceBounds lo hi none n).2.2=1:=by
 refine ⟨?_,?_,rfl⟩
 ·cases lo with
  | none=>simp [sliceBounds,HT.sIx]
  | some i =>
   simp only [sliceBounds,HT.sIx,Option.getD_none,show (1:Int) > 0 by decide,if_true]
   by_cases h:i < 0
   ·simp only [h,if_true] <;> omega
   ·simp only [h,if_false] <;> omega
 ·cases hi with
  | none=>simp [sliceBounds,HT.sIx]
  | some i =>
   simp only [sliceBounds,HT.sIx,Option.getD_none,show (1:Int) > 0 by decide,if_true]
   by_cases h:i < 0
   ·simp only [h,if_true] <;> omega
   ·simp only [h,if_false] <;> omega
theorem m9 (its:List Value) (lo hi:Option Int):slicePick its.toArray lo hi none=((its.drop (HT.sIx its.length 0 lo)).take (HT.sIx its.length its.length hi - HT.sIx its.length 0 lo)).toArray:=by
 obtain ⟨h1,h2,h3⟩:=nV lo hi its.toArray.size
 unfold slicePick
 rw [h1,h2,h3]
 simp only [sliceRange_one,pick_run,List.size_toArray] <;> rfl
def GE (K:W.Frag):V->Option Int->Option Int->Hp->VK->Prop:=fun x lo hi H Q => ∃a xs,x=.ref a/\bR K H a xs/\∀p,H p=none->Q (.ref p) (aE H p (.lst (gp xs lo hi)))
theorem yM:yj X (GE X.K):=by
 intro pins s σ H x v vl vu lo hi sl Q I rx hs pl pu h
 obtain ⟨a,xs,rfl,hx,q⟩:=h
 cases rx
 obtain ⟨its,r,ht,hz⟩:=I.list hx
 have hlen:=r.length
 refine ⟨"list", _,slot_list_getitem.lookup,ht.isList.typeIs,?_⟩
 refine wpAny_getItem_list_slice ht.isList hs pl pu .none (by simp) ?_ (by rw [List.size_toArray] <;> omega)
 rw [m9,<- hlen]
 refine ⟨.ref s.heap.objs.size,_,I.laid (t':=s.toks) (o:=.lst (gp xs lo hi)) (fun b ob q=>Heap.get?_push_of_some _ q) (Nat.le_refl _) ?_,rfl,q _ (I.hok.fresh (Nat.le_refl _))⟩
 exact ⟨Nat.le_trans (jK xs lo hi) hz,_,0,(r.drop (HT.sIx xs.length 0 lo)).take (HT.sIx xs.length xs.length hi - HT.sIx xs.length 0 lo),Heap.get?_push_size _ rfl⟩
def fk:V->Bool
 | .non=>true
 | .bl _=>true
 | .int _=>true
 | .str _=>true
 | _=>false
def oZ:V->V->Bool
 | .non,.non=>true
 | .bl a,.bl b=>a==b
 | .bl a,.int b=>(if a then 1 else 0)==b
 | .int a,.bl b=>a==(if b then 1 else 0)
 | .int a,.int b=>a==b
 | .str a,.str b=>a==b
 | _,_=>false
theorem CM {A:Around} {s:Shared} {y x:V} {u v:Value} (ry:aM y u) (rx:aM x v) (fy:fk y=true) (fx:fk x=true):SeqAt.EqAt A s u v (oZ y x):=by
 cases y with
 | non =>
  cases ry
  cases x with
  | non=>cases rx;exact SeqAt.EqAt.same _
  | bl b=>cases rx;exact SeqAt.EqAt.none_bool b
  | int b=>obtain ⟨t,rfl⟩:=rx;exact SeqAt.EqAt.none_int b t
  | str b=>obtain ⟨t,rfl⟩:=rx;exact SeqAt.EqAt.none_str b t
  | _=>exact absurd (show false=true from fx) Bool.false_ne_true
 | bl a =>
  cases ry
  cases x with
  | non=>cases rx;exact SeqAt.EqAt.bool_none a
  | bl b=>cases rx;exact SeqAt.EqAt.bool_bool a b
  | int b=>obtain ⟨t,rfl⟩:=rx;exact SeqAt.EqAt.bool_int a b t
  | str b=>obtain ⟨t,rfl⟩:=rx;exact SeqAt.EqAt.bool_str a b t
  | _=>exact absurd (show false=true from fx) Bool.false_ne_true
 | int a =>
  obtain ⟨t',rfl⟩:=ry
  cases x with
  | non=>cases rx;exact SeqAt.EqAt.int_none a t'
  | bl b=>cases rx;exact SeqAt.EqAt.int_bool a t' b
  | int b=>obtain ⟨t,rfl⟩:=rx;exact SeqAt.EqAt.int_int a t' b t
  | str b=>obtain ⟨t,rfl⟩:=rx;exact SeqAt.EqAt.int_str a t' b t
  | _=>exact absurd (show false=true from fx) Bool.false_ne_true
 | str a =>
  obtain ⟨t',rfl⟩:=ry
  cases x with
  | non=>cases rx;exact SeqAt.EqAt.str_none a t'
  | bl b=>cases rx;exact SeqAt.EqAt.str_bool a t' b
  | int b=>obtain ⟨t,rfl⟩:=rx;exact SeqAt.EqAt.str_int a t' b t
  | str b=>obtain ⟨t,rfl⟩:=rx;exact SeqAt.EqAt.str_str a t' b t
  | _=>exact absurd (show false=true from fx) Bool.false_ne_true
 | _=>exact absurd (show false=true from fy) Bool.false_ne_true
def CL (x:V) (u:Value):Bool:=match u with
 | .none=>oZ .non x
 | .bool b=>oZ (.bl b) x
 | .int i _=>oZ (.int i) x
 | .str z _=>oZ (.str z) x
 | _=>false
theorem o0 {x y:V} {u:Value} (r:aM y u) (f:fk y=true):CL x u=oZ y x:=by
 cases y with
 | non=>cases r;rfl
 | bl b=>cases r;rfl
 | int i=>obtain ⟨t,rfl⟩:=r;rfl
 | str z=>obtain ⟨t,rfl⟩:=r;rfl
 | _=>exact absurd (show false=true from f) Bool.false_ne_true
theorem oF {A:Around} {s:Shared} {x:V} {v:Value} (rx:aM x v) (fx:fk x=true):∀{xs:List V} {us:List Value},aH xs us->xs.all fk=true->∀u∈us,SeqAt.EqAt A s u v (CL x u)
 | _,_,.nil,_=>fun u hu=>by cases hu
 | y::xs,u::us,.cons r t,f=>fun u' hu=>by
  rw [List.all_cons,Bool.and_eq_true] at f
  rcases List.mem_cons.mp hu with rfl|hu
  ·rw [o0 r f.1];exact CM r rx f.1 fx
  ·exact oF rx fx t f.2 u' hu
theorem iY:cI X (.builtin "len") (fun xs H Q => ∃p ys,xs=[.ref p]/\(bR X.K H p ys\/cj X.K H p ys)/\Q (.int ys.length) H):=by
 intro pins s σ H xs us Q I r h
 obtain ⟨p,ys,rfl,hq,q⟩:=h
 obtain ⟨u,rfl,rx⟩:=cA r
 cases rx
 have hn:=iQ
 rcases hq with hq|hq
 ·obtain ⟨its,r',pl,hz⟩:=I.list hq
  have hlen:=r'.length
  exact Calls.call_len_list pl.isList (by simp only [List.size_toArray] <;> omega) ⟨.int ys.length,H,I.tok _,⟨s.toks+1,by rw [List.size_toArray,hlen]⟩,q⟩
 ·obtain ⟨its,r',pl,hz⟩:=I.tuple hq
  have hlen:=r'.length
  exact len_tuple pl (by simp only [List.size_toArray] <;> omega) ⟨.int ys.length,H,I.tok _,⟨s.toks+1,by rw [List.size_toArray,hlen]⟩,q⟩
theorem ph:cI X (.builtin "len") (fun xs H Q => ∃z,xs=[.str z]/\z.length<=sizeLine/\Q (.int z.length) H):=by
 intro pins s σ H xs us Q I r h
 obtain ⟨z,rfl,hz,q⟩:=h
 obtain ⟨u,rfl,t,rfl⟩:=cA r
 have hn:=iQ
 exact len_str (by omega) ⟨.int z.length,H,I.tok _,⟨_,rfl⟩,q⟩
theorem iq:cI X (.type "tuple") (fun xs H Q => ∃p ys,xs=[.ref p]/\((bR X.K H p ys/\∀l,H l=none->Q (.ref l) (aE H l (.tup ys)))\/(cj X.K H p ys/\Q (.ref p) H))):=by
 intro pins s σ H xs us Q I r h
 obtain ⟨p,ys,rfl,h⟩:=h
 obtain ⟨u,rfl,rx⟩:=cA r
 cases rx
 rcases h with ⟨hq,q⟩ | ⟨hq,q⟩
 ·obtain ⟨its,r',pl,hz⟩:=I.list hq
  have hlen:=r'.length
  refine call_tuple_list pl.isList (fun h' kp=>?_) (by simp only [List.size_toArray] <;> omega)
  have I1:ah X pins σ H { s with heap:=h' }:=I.kept (t':=s.toks) kp
  have I2:ah X pins σ (aE H h'.objs.size (.tup ys)) { s with heap:=h'.push { cls:=.type "tuple", data:=.seq its.toArray } } :=
   I1.laid (t':=s.toks) (fun b o e=>Heap.get?_push_of_some _ e) (Nat.le_refl _) (show bB X.prog X.w _ _ _ (.tup ys) from ⟨hz,its,r',IsTup.new _ _⟩)
  exact ⟨.ref h'.objs.size,_,I2,rfl,q _ (I1.hok.fresh (Nat.le_refl _))⟩
 ·obtain ⟨its,r',pl,hz⟩:=I.tuple hq
  exact call_tuple_same pl ⟨.ref p,H,I,rfl,q⟩
def AC (K:W.Frag) (T:String) (x:V) (H:Hp):Prop:=match x with
  | .str _=>T = "str"
  | .int _=>T = "int"
  | .ref p=>(T = "list" /\ ∃xs,bR K H p xs)\/(T = "tuple" /\ ∃o,K.lookup p=some o/\o.cls=.type "tuple" /\ o.dict=none) \/
      (T = "dict" /\ ((∃kvs,H p=some (.dK kvs))\/∃kvs,H p=some (.dT kvs)))\/(T = "set" /\ ∃S n,H p=some (.set S n))
  | _=>False
theorem tm {pins:List (Addr×Obj)} {σ:St} {H:Hp} {s:Shared} {T:String} {x:V} {v:Value} (I:ah X pins σ H s) (r:aM x v) (ty:AC X.K T x H) :
  s.TypeIs v T/\∀a,v=.ref a->∃ob,s.heap.get? a=some ob/\ob.dict=none:=by
 cases x with
 | str z =>
  obtain ⟨t,rfl⟩:=r
  cases (show T = "str" from ty)
  exact ⟨typeIs_str s z t,fun _ e=>nomatch e⟩
 | int i =>
  obtain ⟨t,rfl⟩:=r
  cases (show T = "int" from ty)
  exact ⟨typeIs_int s i t,fun _ e=>nomatch e⟩
 | ref p =>
  cases r
  rcases ty with ⟨rfl,xs,hq⟩ | ⟨rfl,o,hk,hc,hd⟩ | ⟨rfl,hk⟩ | ⟨rfl,S,n,hk⟩
  ·obtain ⟨its,_,pl,_⟩:=I.list hq
   refine ⟨pl.isList.typeIs,fun a e=>?_⟩
   cases e
   obtain ⟨o,n,e,c,hd,_⟩:=pl
   exact ⟨o,e,hd⟩
  ·refine ⟨⟨o,I.kIn p o hk,hc⟩,fun a e=>?_⟩
   cases e
   exact ⟨o,I.kIn _ o hk,hd⟩
  ·have z:∃o,s.heap.get? p=some o/\o.ExactDict:=by
    rcases hk with ⟨kvs,hk⟩ | ⟨kvs,hk⟩
    ·obtain ⟨_,_,_,_,o,_,_,e,ex,_⟩:=I.hok p _ hk
     exact ⟨o,e,ex⟩
    ·obtain ⟨_,_,_,_,o,_,_,e,ex,_⟩:=I.hok p _ hk
     exact ⟨o,e,ex⟩
   obtain ⟨o,e,ex⟩:=z
   refine ⟨⟨o,e,ex.1⟩,fun a e2=>?_⟩
   cases e2
   exact ⟨o,e,ex.2.1⟩
  ·obtain ⟨o,_,_,_,e,ex,_⟩:=I.hok p _ hk
   refine ⟨⟨o,e,ex.1⟩,fun a e2=>?_⟩
   cases e2
   exact ⟨o,e,ex.2.1⟩
 | _=>exact False.elim ty
def FR (K:W.Frag) (T:String) (r:V->List V->Hp->VK->Prop) (to:TE):TE:=fun σ H Q=>to σ H fun x H1=>AC K T x H1/\r x [] H1 Q
def J0 (K:W.Frag) (T:String) (r:V->List V->Hp->VK->Prop) (to:TE) (t:TA):TE:=fun σ H Q=>to σ H fun x H1=>AC K T x H1/\t σ H1 fun xs H2=>r x xs H2 Q
variable {o e:Expr} {es:List Expr} {to:TE} {t:TA} {name:Str} {apos cpos:Pos} {T id:String} {r:V->List V->Hp->VK->Prop}
theorem BD (pa:PlainAttrs T) (slot:Slot T name id) (hty:typeOf (.builtin id)=pure (.type "method_descriptor")) (hm:mZ X id r) (ho:PE X o to)
  (hbase:attributeBase o name X.env (eval o X.env)=eval o X.env:=by rfl) (hline:(apos.endLine==cpos.line)=true:=by rfl):PE X (.Call (.Attribute o name apos) [] [] cpos) (FR X.K T r to):=by
 intro pins s σ H Q I h
 refine wpAny_Call_method0_late hbase hline (aF (ho pins s σ H _ I h) fun v s1 ⟨x,H1,I1,r1,ty,q1⟩=>?_)
 obtain ⟨h1,h2⟩:=tm I1 r1 ty
 exact ⟨T,id,pa,slot,hty,h1,h2,Calls.callWith_builtin rfl (PySem.evalArgs_none (hm pins s1 σ H1 x [] v [] Q I1 r1 .nil q1))⟩
theorem jk (pa:PlainAttrs T) (slot:Slot T name id) (hty:typeOf (.builtin id)=pure (.type "method_descriptor")) (hm:mZ X id r) (ho:PE X o to) (ha:PA X (e::es) t)
  (hbase:attributeBase o name X.env (eval o X.env)=eval o X.env:=by rfl)
  (hfew:((backTo cpos (starEach (e::es) X.env)).all (fun x => !x.1)&&(backToKw cpos (keywordEach [] X.env)).all (fun x=>x.1.isSome)
   && decide ((e::es).length+([]:List Keyword).length+(if ([]:List Keyword).isEmpty then 0 else 1) < 30))=true:=by rfl)
  (hline:(apos.endLine==cpos.line)=true:=by rfl) (hs:starEach (e::es) X.env=(false,eval e X.env)::starEach es X.env:=by rfl) (hplain:(backTo cpos (starEach es X.env)).any (·.1)=false:=by rfl) :
  PE X (.Call (.Attribute o name apos) (e::es) [] cpos) (J0 X.K T r to t):=by
 intro pins s σ H Q I h
 refine wpAny_Call_method_late hbase hfew hline rfl (aF (ho pins s σ H _ I h) fun v s1 ⟨x,H1,I1,r1,ty,q1⟩=>?_)
 obtain ⟨h1,h2⟩:=tm I1 r1 ty
 refine ⟨T,id,pa,slot,hty,h1,h2,?_⟩
 have hA:=ha cpos pins s1 σ H1 _ I1 q1
 rw [hs] at hA ⊢
 refine Calls.callWith_builtin (by show (false || (backTo cpos (starEach es X.env)).any (·.1))=false;rw [hplain] <;> rfl) (Calls.evalArgs_plain ?_)
 exact aF hA fun us s2 ⟨vs,H2,I2,r2,q2⟩=>hm pins s2 σ H2 x vs v us Q I2 r1 r2 q2
/- xs.append(e),list.index on a module's tuple .. are mZ facts of 06m -/
end
end L2
namespace L2
open PySem PySem.Spec PyProof.Rows
def DJ (X:Cx) (id:String) (r:V->List V->Hp->VK->Prop):Prop :=
 ∀(pins:List (Addr×Obj)) (s:Shared) (σ:St) (H:Hp) (x:V) (xs:List V) (v:Value) (us:List Value) (Q:VK),ah X pins σ H s->aM x v->aH xs us->r x xs H Q ->
  wpAny (model X.prog X.w) X.A (call (.builtin id) (v::us)) (EP X pins σ Q) X.xe s
theorem aH.one:∀{x:V} {us:List Value},aH [x] us->∃u,us=[u]/\aM x u
 | _,_,.cons r .nil=>⟨_,rfl,r⟩
theorem aH.zero:∀{us:List Value},aH [] us->us=[]
 | _,.nil=>rfl
theorem aH.reverse {xs:List V} {us:List Value} (h:aH xs us):aH xs.reverse us.reverse:=by
 induction h with
 | nil=>exact .nil
 | cons r t ih=>rw [List.reverse_cons,List.reverse_cons];exact aH.append ih (.cons r .nil)
section
variable {X:Cx} {pins:List (Addr×Obj)} {σ:St} {H:Hp} {s:Shared} {l b:Addr} {xs ys zs:List V}
theorem ah.lset {its its':List Value} {n:Nat} {f:Array Value->Array Value} {t':Nat} (I:ah X pins σ H s) (hH:H l=some (.lst xs))
  (e:s.heap.get? l=some { cls:=.type "list", data:=.seq its.toArray n }) (hf:f its.toArray=its'.toArray) (hv:aH ys its') (hz:ys.length<=sizeLine) :
  ah X pins σ (aE H l (.lst ys)) { s with heap:=s.heap.update l (Obj.mapSeq f),toks:=t' }:=by
 have q:=PySem.IsL.update e f
 rw [hf] at q
 refine I.write (x:=l) (e:=l) (by rw [hH];exact trivial) (.inl rfl) (fun b' u hb hu=>(Heap.get?_update_other s.heap (Obj.mapSeq f) (Ne.symm hb)).trans hu) ⟨_,q⟩ ?_
 exact ⟨hz,its',_,hv,q⟩
theorem ah.lnew {its:List Value} {t':Nat} (I:ah X pins σ H s) (hv:aH ys its) (hz:ys.length<=sizeLine) :
  ah X pins σ (aE H s.heap.objs.size (.lst ys)) { s with heap:=s.heap.push { cls:=.type "list", data:=.seq its.toArray },toks:=t' } :=
 I.laid (fun _ _ q=>Heap.get?_push_of_some _ q) (Nat.le_refl _) ⟨hz,its,0,hv,Heap.get?_push_size _ rfl⟩
theorem ah.fresh (I:ah X pins σ H s):H s.heap.objs.size=none:=I.hok.fresh (Nat.le_refl _)
theorem ah.lstM (I:ah X pins σ H s) (hH:H l=some (.lst xs)):xs.length<=sizeLine/\∃(its:List Value) (n:Nat),aH xs its/\xs.length=its.length/\s.heap.get? l=some { cls:=.type "list", data:=.seq its.toArray n }:=by
 obtain ⟨z,its,n,r,e⟩:=I.hok l _ hH
 exact ⟨z,its,n,r,r.length,e⟩
theorem wg {n:Nat} (h:n<=sizeLine):Builtin.List.listTooLong n=false:=by
 unfold Builtin.List.listTooLong
 exact decide_eq_false (by omega)
end
section
variable {X:Cx}
def yV:V->List V->Hp->VK->Prop:=fun x vs H Q => ∃l xs y,x=.ref l/\vs=[y]/\H l=some (.lst xs)/\xs.length < sizeLine/\Q .non (aE H l (.lst (xs++[y])))
theorem mD:DJ X "list.append" yV:=by
 intro pins s σ H x vs v us Q I rx rv h
 obtain ⟨l,xs,y,rfl,rfl,hH,hz,q⟩:=h
 cases rx
 obtain ⟨u,rfl,ru⟩:=rv.one
 obtain ⟨z,its,n,r,hl,e⟩:=I.lstM hH
 refine call_meets F.slot_list_append ⟨_,e,rfl⟩ F.entry_list_append (F.args_list_append_2 _ _) (PySem.list_append l its.toArray n u (by rw [List.size_toArray];omega)) ⟨e,?_⟩
 refine ⟨.non,_,I.lset (its':=its++[u]) hH e (by simp) (r.append (.cons ru .nil)) ?_,rfl,q⟩
 rw [List.length_append,List.length_singleton]
 omega
def yU:V->List V->Hp->VK->Prop:=fun x vs H Q => ∃l b xs zs,x=.ref l/\vs=[.ref b]/\H l=some (.lst xs)/\H b=some (.lst zs)/\xs.length+zs.length<=sizeLine/\Q .non (aE H l (.lst (xs++zs)))
theorem ul:DJ X "list.extend" yU:=by
 intro pins s σ H x vs v us Q I rx rv h
 obtain ⟨l,b,xs,zs,rfl,rfl,hH,hB,hz,q⟩:=h
 cases rx
 obtain ⟨u,rfl,ru⟩:=rv.one
 cases ru
 obtain ⟨z,its,n,r,hl,e⟩:=I.lstM hH
 obtain ⟨z2,its2,n2,r2,hl2,e2⟩:=I.lstM hB
 have hsz:its.toArray.size+its2.toArray.size<=sizeLine:=by rw [List.size_toArray,List.size_toArray];omega
 have hlong:¬ (!its.toArray.isEmpty&&Builtin.List.listTooLong (its.toArray.size+its2.toArray.size))=true:=by
  rw [wg hsz,Bool.and_false]
  exact Bool.false_ne_true
 refine call_meets F.slot_list_extend ⟨_,e,rfl⟩ F.entry_list_extend (F.args_list_extend_2 _ _)
  (AutoSeq1.list_extend_list_list_0 l its.toArray n b its2.toArray n2 hlong (by rw [List.size_toArray];omega) (by omega)) ⟨e,e2,?_⟩
 refine ⟨.non,_,I.lset (its':=its++its2) hH e (by simp) (r.append r2) ?_,rfl,q⟩
 rw [List.length_append]
 omega
end
section
variable {prog:Program} {w:World} {A:Around} {E:Value->Shared->Prop} {s:Shared}
set_option maxRecDepth 100000 in
end
section
variable {X:Cx}
end
end L2
namespace Att
open PySem PySem.W PySem.Calls PyProof.Rows
theorem kQ {P:Params} {h:Heap}:∀(ns:List Int) (vs:List Value),WellAll P h vs (ns.map WData.int)->IntsAre vs ns:=by
 intro ns
 induction ns with
 | nil =>
  intro vs w
  rw [List.map_nil] at w
  cases w
  exact .nil
 | cons n ns ih =>
  intro vs w
  rw [List.map_cons] at w
  cases w with
  | cons a b =>
   cases a
   exact .cons _ _ (ih _ b)
theorem t3 {l:OpenLaw} {n:Nat} (hn:l.most=some n) {P:Params} {h:Heap} {args:List WData} {vals:List Value}
  (hpre:l.row.toRowW.claim.pre args=true) (hwl:WellAll P h vals args) :
  ∃a vs ns,vals=[Value.ref a]/\args=[WData.list (ns.map WData.int)]/\h.get? a=some { cls:=.type "list", data:=.seq vs.toArray }/\IntsAre vs ns/\ns.length<=n:=by
 have hsh:WShape.hasAll [] args [.list .int]=true:=(pre_splitW hpre).1
 have hc:l.pre.holds [] { args:=args }=true:=(pre_splitW hpre).2
 obtain ⟨d,r,rfl,h1,h2⟩:=hasAllW_cons hsh
 obtain rfl:=hasAllW_nil h2
 obtain ⟨xs,rfl,h3⟩:=hasW_list h1
 obtain ⟨ns,rfl⟩:=items_int h3
 have hlen:ns.length<=n:=by
  unfold OpenLaw.pre at hc
  have h4:(WTm.not (.lt (.lit (.int (n:Int))) (.len (.arg 0)))).holds [] { args:=[.list (ns.map .int)] }=true:=by
   have h4:=(holds_andW hc).1
   rw [hn] at h4
   exact h4
  have h5:=condW_of h4 (w_not (w_lt w_lit (w_len_list (w_arg rfl))))
  rw [List.length_map] at h5
  refine Nat.le_of_not_lt fun q=>?_
  have q':(n:Int) < ((ns.length:Nat):Int):=by omega
  first
   | (rw [decide_eq_true q'] at h5;exact absurd h5 (by decide))
   | (simp at h5;omega)
 cases hwl with
 | cons w1 w2 =>
  cases w2
  cases w1 with
  | list ho hall=>exact ⟨_,_,ns,rfl,rfl,ho,kQ ns _ hall,hlen⟩
theorem ua (l:OpenLaw) (args:List WData):l.row.toRowW.claim.post args (.bool true) args=true :=
 postW_of (r:=l.row.toRowW) (X:=(true==true))
  (show WShape.has [] (.bool true) .bool=true by first|rfl|decide|simp [WShape.has,WShape.arms,WShape.armsAll])
  (show (WTm.eq .res (.lit (.bool true))).value [] { args:=args,res:=some (.bool true),after:=args }=some (.bool (true==true)) from w_eq_bool (w_res rfl) w_lit) rfl
theorem attach_call {l:OpenLaw} {n:Nat} {q:Program} {loose:List Str} {XP:(Str->Option Value)->Heap->Prop} {YP:World->Heap->Prop} {d:DefRec}
  (hn:l.most=some n) (hdf:d.params.defaults=[])
  (call:∀(w:World) (s₀ s₁:Shared) (mg mb:Str->Option Value) (fa:Addr) (o:Obj) (pm cd doc:Value) (a:Addr) (vs:List Value) (ns:List Int),
   Ground q loose [] XP w s₀ mg mb s₁.heap->YP w s₁.heap ->
   s₁.heap.get? fa=some o->o.data=.func (docDef d.name d.params d.body d.scope pm cd doc)->s₁.heap.CodeRec cd d.name->mg d.name=some (.ref fa) ->
   s₁.heap.get? a=some { cls:=.type "list", data:=.seq vs.toArray }->IntsAre vs ns->ns.length<=n->s₁.gens = #[] ->
   codeAny (model l.prog w) callerA (.call (.ref fa) ⟨[.ref a],[]⟩) (fun r s'=>r=.ok (.ret (.bool true))/\OldK s₁.heap s'.heap/\s'.os=s₁.os/\AllBare s'.gens) s₁) :
  WalkO q loose XP YP l.row.toRowW d [] (fun f vs=>PySem.call f vs):=by
 intro w s₀ s₁ mg mb G Y fa o pm cd doc dV kV ho hd hcd hD hmg hg args vals as hpre hlay hrd hwl hlo
 obtain rfl:dV=.none:=Dflts.none hD hdf
 obtain rfl:kV=.none:=Dflts.noKw hD
 obtain ⟨a,vs,ns,rfl,rfl,hobj,hints,hlen⟩:=t3 hn hpre hwl
 refine enter_call (codeAny_mono (call w s₀ s₁ mg mb fa o pm cd doc a vs ns G Y ho (fd_plain hd) hcd hmg hobj hints hlen hg) fun r s' hq=>?_)
 obtain ⟨rfl,h2,h3,h4⟩:=hq
 exact ⟨.inl ⟨.bool true,.bool true,[],rfl,fun _=>rfl,.bool true,ua l _,fun _=>⟨List.Pairwise.nil,fun _ hm=>(nomatch hm)⟩⟩,h2,h3,h4⟩
section
variable {prog:Program} {w:World} {A:Around} {E:Value->Shared->Prop} {s:Shared} {K:Frag}
end
end Att
namespace L2
open PySem PySem.Spec PyProof.Rows
theorem mx:∀{vs:List Value} {ns:List Int},IntsAre vs ns->aH (ns.map V.int) vs
 | _,_,.nil=>.nil
 | _,_,.cons n t h=>.cons ⟨t,rfl⟩ (mx h)
def sM (H:Hp):Prop:=∀b,H b=none\/∃o xs,H b=some (.frz o (.lst xs))
theorem wr {P:Program} {w:World} {K:W.Frag} {mg mb:Str->Option Value} {CX:gQ} {k:Nat} {fa a:Addr} {fd:FuncData} {x:Str} {sp:Sp} {s₁:Shared} {vs:List Value} {ns:List Int}
    (KX:K.In s₁.heap) (hns:s₁.heap.Ns mainGlobals mg) (hb:s₁.heap.Ns builtinsNs mb) (hbb:∀x:Str,x ≠ "__name__" -> mb x=bootBuiltins x) (hlim:s₁.heap.NoLimit) (hg:s₁.gens = #[])
    (ha:s₁.heap.get? a=some { cls:=.type "list", data:=.seq vs.toArray }) (hi:IntsAre vs ns) (hl:ns.length<=sizeLine) (hr:bu k callerA)
    (F:∀base:Heap,K.In base->base.Ns mainGlobals mg->bv P w K mg base CX k fa fd [x] sp) (hbind:∀(s:Shared) (u:Value),BindsTo s fd ⟨[u],[]⟩ [(x,u)])
    (hsp:∀H:Hp,sM H->bR K H a (ns.map V.int)->sp [.ref a] H (fun v _=>v=.bl true) fun _ _ _=>False)
    (hCX:∀H e s',CX [] H s₁ (fun _ _ _=>False) e s'->False) :
    codeAny (model P w) callerA (.call (.ref fa) ⟨[.ref a],[]⟩) (fun r s'=>r=.ok (.ret (.bool true))/\OldK s₁.heap s'.heap/\s'.os=s₁.os/\AllBare s'.gens) s₁:=by
  have rv:=mx hi
  have lenV:=hi.length
  have core:∀H:Hp,sM H->bR K H a (ns.map V.int)->cg P w H s₁.heap->(∀b,H b≠none->b=a)->(H a≠none->K.lookup a=none) ->
      codeAny (model P w) callerA (.call (.ref fa) ⟨[.ref a],[]⟩) (fun r s'=>r=.ok (.ret (.bool true))/\OldK s₁.heap s'.heap/\s'.os=s₁.os/\AllBare s'.gens) s₁:=by
    intro H hO hS hok hA hK
    have cR:∀{b:Addr} {o:Obj},s₁.heap.get? b=some o->H b=none->(gX s₁.heap H).get? b=some o:=fun e n=>wz e n
    have noA:∀{b:Addr} {o:Obj} {es:Array DictEntry} {ep:Nat},s₁.heap.get? b=some o->o.data=.dict es ep->H b=none:=fun {b o es ep} e d=>by
      cases q:H b with
      | none=>rfl
      | some u =>
        have e':b=a:=hA b (by rw [q];simp)
        subst e'
        rw [ha] at e;cases e
        have d':Data.seq vs.toArray _=Data.dict es ep:=d
        cases d'
    have nsK:∀{b:Addr} {m:Str->Option Value},s₁.heap.Ns b m->(gX s₁.heap H).Ns b m:=fun {b m} ⟨o,es,ep,e,d,r⟩=>⟨o,es,ep,cR e (noA e d),d,r⟩
    have hKb:K.In (gX s₁.heap H):=fun b o e=>cR (KX b o e) (by
      cases q:H b with
      | none=>rfl
      | some u =>
        have e':b=a:=hA b (by rw [q];simp)
        subst e'
        rw [hK (by rw [q];simp)] at e;cases e)
    have hM:Mod K mg (gX s₁.heap H):=⟨hKb,nsK hns,⟨mb,nsK hb,hbb⟩,let ⟨mc,h1,h2⟩:=hlim;⟨mc,nsK h1,h2⟩⟩
    have e0:gx P w K mg (gX s₁.heap H) callerA [] s₁ H:=⟨rfl,hM,fun b o e=>zm e,Nat.le_of_eq (uN _ _),trivial,fun b hb=>absurd (show b∈([]:List Addr) from hb) (by simp),hok,.of_eq hg⟩
    refine codeAny_mono ((F _ hKb (nsK hns)).run callerA [] s₁ H ⟨[.ref a],[]⟩ [.ref a] [.ref a] _ _ hr e0 (hbind s₁ (.ref a)) (.cons rfl .nil) (hsp H hO hS)) fun r s' h=>?_
    cases r with
    | error e=>exact (hCX H e s' h).elim
    | ok fl =>
      cases fl with
      | next=>exact False.elim h
      | brk=>exact False.elim h
      | cont=>exact False.elim h
      | ret u =>
        obtain ⟨v,H',os,bare,un,hok',r',q⟩:=h
        have q':v=.bl true:=q
        subst q'
        obtain rfl:u=Value.bool true:=r'
        refine ⟨rfl,OldK.of_keep fun b o e=>?_,os,bare⟩
        cases q:H b with
        | none=>exact un.keep b o e q (by intro z;exact absurd (show b∈([]:List Addr) from z) (by simp)) (by simp)
        | some u =>
          rcases hO b with z | ⟨ob,xs,z⟩
          . rw [q] at z;cases z
          . have z2:=un.frzs b ob _ z
            obtain ⟨e1,_⟩:=hok b _ z
            obtain ⟨e2,_⟩:=hok' b _ z2
            rw [e] at e1;cases e1
            exact e2
  cases hk:K.lookup a with
  | some o =>
    have e:=KX a o hk
    rw [ha] at e
    cases e
    refine core (fun _=>none) (fun _=>.inl rfl) (.inr ⟨_,vs.toArray,_,hk,rfl,rfl,rfl,by rw [List.size_toArray,lenV];exact hl,by simpa using rv⟩) (fun b u z=>by have z':(none:Option HO)=some u:=z;cases z') (fun b z=>absurd rfl z) fun z=>absurd rfl z
  | none =>
    refine core (fun b=>if b=a then some (.frz { cls:=.type "list", data:=.seq vs.toArray } (.lst (ns.map V.int))) else none) (fun b=>?_) (.inl (.inr ⟨{ cls:=.type "list", data:=.seq vs.toArray },if_pos rfl⟩)) (fun b u z=>?_) (fun b z=>?_) fun _=>hk
    . by_cases hb:b=a
      . exact .inr ⟨_,_,if_pos hb⟩
      . exact .inl (if_neg hb)
    . by_cases hb:b=a
      . have z':=(if_pos hb).symm.trans z
        cases z'
        subst hb
        exact ⟨ha,by rw [List.length_map];exact hl,vs,_,rv,ha⟩
      . have z':=(if_neg hb).symm.trans z
        cases z'
    . by_cases hb:b=a
      . exact hb
      . exact absurd (if_neg hb) z
end L2
namespace L2
open PySem PySem.Spec PyProof.Rows
abbrev KOf {K:W.Frag} {h:Heap} (_:K.In h):W.Frag:=K
theorem walk_of {l:W.OpenLaw} {n k:Nat} {q:Program} {loose:List Str} {XP:(Str->Option Value)->Heap->Prop} {YP:World->Heap->Prop} {d:DefRec} {K:Params->W.Frag} {CX:World->gQ} {sp:World->Sp} {x:Str}
  (hn:l.most=some n) (hn2:n<=sizeLine) (hdf:d.params.defaults=[]) (hr:bu k callerA)
  (hY:∀(w:World) (h:Heap),YP w h->(K w.params).In h)
  (F:∀(w:World) (mg:Str->Option Value) (fa:Addr) (h:Heap),(K w.params).In h->h.Ns mainGlobals mg->mg d.name=some (.ref fa) ->
   ∃fd:FuncData,(∀(s:Shared) (u:Value),BindsTo s fd ⟨[u],[]⟩ [(x,u)]) /\
    ∀base:Heap,(K w.params).In base->base.Ns mainGlobals mg->bv l.prog w (K w.params) mg base (CX w) k fa fd [x] (sp w))
  (hsp:∀(w:World) (H:Hp) (a:Addr) (ns:List Int),ns.length<=n->sM H->bR (K w.params) H a (ns.map V.int)->sp w [.ref a] H (fun v _=>v=.bl true) fun _ _ _=>False)
  (hCX:∀(w:World) (H:Hp) (s:Shared) (e:Value) (s':Shared),CX w [] H s (fun _ _ _=>False) e s'->False) :
  W.WalkO q loose XP YP l.row.toRowW d [] (fun f vs=>PySem.call f vs):=by
 refine Att.attach_call hn hdf fun w s₀ s₁ mg mb fa o pm cd doc a vs ns G Y ho hd hcd hmg hobj hints hlen hg=>?_
 have KX:=hY w _ Y
 obtain ⟨fd,hb,hF⟩:=F w mg fa _ KX G.T.g hmg
 exact wr KX G.T.g G.T.b G.T.builtins G.T.nolimit hg hobj hints (Nat.le_trans hlen hn2) hr hF hb (fun H hO hS=>hsp w H a ns hlen hO hS) fun H e s'=>hCX w H s₁ e s'
end L2
/- THE LAST THEOREM (shape;LID,My.* are yours):
   My.Adr: a structure of the addresses that your layer names (classes,functions);My.Txt K t: a structure (Prop) of the equations over K;
   My.txt_mk:{K} {implicit addresses ..} (e1:nsIn K mainGlobals "law" = some (some (.ref f))) (e2:K.lookup f=some ⟨oc,od,.func (fnOf "law" "law" params body scope dV kV doc pm an cdv ct),sl⟩) (e3:codeIn K cdv "law" = true) ..:∃t,My.Txt K t
set_option maxRecDepth 100000 in
set_option maxHeartbeats 0 in
theorem PySem.Challenge.cw_LID_holds : PySem.Challenge.rw_LID.Holds := by
 w_on;o_law;k_head;(case hw=>w_witness2)
 k_fill
 refine L2.walk_of (l:=PySem.Challenge.rw_LID) (n:=63) (k:=40) (x := "script") (CX:=fun w=>..) (sp:=fun _=>My.sp_law) rfl (by decide) rfl ⟨rfl,by decide,by decide⟩ (fun w h Y=>PySem.W.kIn_of Y) ?F ?S ?C
 case F =>
  intro w mg fa h KX G hmg
  have T:∃t,My.Txt (L2.KOf KX) t:=by
   dsimp only [L2.KOf]                          -- K must stand as «<heap const> w.params» for k_is
   refine' My.txt_mk ?e1 ?e2 ?e3 ..
   (case e1=>PySem.W.k_is)                    -- in the order: a name->its address->its object->its parts
   (case e2=>PySem.W.k_is)
   ..
  obtain ⟨t,T⟩:=T
  have e0:=hmg.symm.trans (PySem.W.mg_of KX G T.law)
  cases e0                                       -- fa is the law's own address
  exact ⟨_,fun s u=>.of_eq rfl,fun base kb nb=>My.law_fn T kb nb⟩     -- if «.of_eq rfl» comes too early: refine' ⟨_,?b,fun base kb nb=>My.law_fn T kb nb⟩;exact fun s u=>.of_eq rfl
 case S=>exact fun w H a ns hl hO hS=>..
 case C=>exact ..
(the tactic k_is has no namespace: write k_is) -/
namespace L2
open PySem PySem.Spec PyProof.Rows
def bc (s:Stmt):Arguments:=match s with
 | .FunctionDef _ a _ _ _ _ _ _ _ _=>a
 | _ => { posonlyargs:=[],args:=[],vararg:=none,kwonlyargs:=[],kw_defaults:=[],kwarg:=none,defaults:=[] }
def ak (s:Stmt):List Stmt:=match s with
 | .FunctionDef _ _ b _ _ _ _ _ _ _=>b
 | _=>[]
def ac (s:Stmt):Scope:=match s with
 | .FunctionDef _ _ _ _ _ _ sc _ _ _=>sc
 | _ => { kind:=.function,names:=[],isGenerator:=false,isCoroutine:=false }
abbrev cU:gQ:=fun _ _ _ _ _ _=>False
abbrev E0:XK:=fun _ _ _=>False
theorem kH {X:Cx}:fU cU X E0:=fun _ _ _ _ _ _ _ h=>h.elim
structure iz (K:W.Frag) (x qual:Str) (st:Stmt) (f:Addr) (fd:FuncData):Prop where
 ex:∃(oc:Value) (od:Option Addr) (kV doc pm:Value) (an:Option Addr) (cdv ct:Value) (osl:Array (Option Value)),
  fd=W.fnOf x qual (bc st) (ak st) (ac st) .none kV doc pm an cdv ct/\K.lookup f=some ⟨oc,od,.func fd,osl⟩/\W.codeIn K cdv qual=true
 kp:W.keepIn K (.ref f)=true
section
variable {P:Program} {w:World} {K:W.Frag} {mg:Str->Option Value} {base:Heap}
theorem iz.ok {x qual:Str} {st:Stmt} {f:Addr} {fd:FuncData} {N ps:List Str} {k:Nat} {sp:Sp} (F:iz K x qual st f fd) (S:aQ N ps (ac st)) (len:∀vs H Q E,sp vs H Q E->vs.length=ps.length)
  (hbody:∀(cdv:Value) (A:Around) (outer:List Env) (s:Shared) (H:Hp) (vs:List V) (Q:VK) (E:XK),bu k (A.deeper (envOfC qual (ac st) s.heap.objs.size f cdv))->sp vs H Q E ->
   ∃t,cT (cW cU P w K mg base N qual (ac st) f cdv A outer s H E).nox (ak st) t/\t { nx:=fun _ H'=>Q .non H',rt:=Q } (start N vs) H):bv P w K mg base cU (k+1) f fd ps sp:=by
 obtain ⟨oc,od,kV,doc,pm,an,cdv,ct,osl,rfl,lk,hcd⟩:=F.ex
 refine xV lk hcd S len fun A outer s H vs Q E hr hsp=>?_
 obtain ⟨t,h,q⟩:=hbody cdv A outer s H vs Q E hr hsp
 exact ⟨t,h.nox,q⟩
theorem iz.binds {x qual:Str} {st:Stmt} {f:Addr} {fd:FuncData} {ps:List Str} (F:iz K x qual st f fd)
  (h:∀(kV doc pm:Value) (an:Option Addr) (cdv ct:Value) (us:List Value),us.length=ps.length->bindArgs (W.fnOf x qual (bc st) (ak st) (ac st) .none kV doc pm an cdv ct) ⟨us,[]⟩=pure (ps.zip us)):bG K fd ps []:=by
 obtain ⟨oc,od,kV,doc,pm,an,cdv,ct,osl,rfl,lk,hcd⟩:=F.ex
 exact .all (h kV doc pm an cdv ct)
theorem bK {x qual:Str} {st:Stmt} {f:Addr} {oc:Value} {od an:Option Addr} {osl:Array (Option Value)} {kV doc pm cdv ct:Value} (l:K.lookup f=some ⟨oc,od,.func (W.fnOf x qual (bc st) (ak st) (ac st) .none kV doc pm an cdv ct),osl⟩)
  (c:W.codeIn K cdv qual=true) (k:W.keepIn K (.ref f)=true):iz K x qual st f (W.fnOf x qual (bc st) (ak st) (ac st) .none kV doc pm an cdv ct):=⟨⟨oc,od,kV,doc,pm,an,cdv,ct,osl,rfl,l,c⟩,k⟩
end
section
variable {X:Cx}
end
def av (H H':Hp):Prop:=∀b o,H b=some o->H' b=some o
theorem av.refl (H:Hp):av H H:=fun _ _ h=>h
theorem av.trans {H H1 H2:Hp} (a:av H H1) (b:av H1 H2):av H H2:=fun c o h=>b c o (a c o h)
theorem av.free {H H':Hp} (e:av H H') {l:Addr} (h:H' l=Option.none):H l=Option.none:=by
 cases q:H l with
 | none=>rfl
 | some o =>
  rw [e l o q] at h
  cases h
theorem av.seq {K:W.Frag} {H H':Hp} {a:Addr} {xs:List V} (e:av H H') (h:bR K H a xs):bR K H' a xs:=by
 rcases h with (h | ⟨o,h⟩) | h
 ·exact .inl (.inl (e _ _ h))
 ·exact .inl (.inr ⟨o,e _ _ h⟩)
 ·exact .inr h
end L2
set_option maxHeartbeats 4000000
namespace L2
open PySem PySem.Spec PyProof.Rows
theorem nF {fs hid:List Addr} {H H':Hp} {h h1 h2:Heap} (u:Un fs [] H H' h h1) (hh:∀b o,h.get? b=some o->b∈hid->b∈fs) (k:∀b o,h1.get? b=some o->b∉hid->h2.get? b=some o)
  (kf:∀b∈fs,∀o,h1.get? b=some o->∃sl,h2.get? b=some { o with slots:=sl }):Un fs [] H H' h h2:=by
 refine ⟨fun b o e n hb hx=>?_,fun b o e n hb hx=>?_,u.free,fun b o e hx=>?_,u.tups,u.frzs,u.tbls⟩
 ·exact k b o (u.keep b o e n hb hx) fun z=>hb (hh b o e z)
 ·obtain ⟨sl,e1⟩:=u.slot b o e n hb hx
  obtain ⟨sl',e2⟩:=kf b hb _ e1
  exact ⟨sl',e2⟩
 ·obtain ⟨o',e1⟩:=u.there b o e hx
  by_cases z:b∈hid
  ·obtain ⟨sl,e2⟩:=kf b (hh b o e z) _ e1
   exact ⟨_,e2⟩
  ·exact ⟨o',k b o' e1 z⟩
theorem lM {P:Program} {w:World} {H:Hp} {h1 h2:Heap} {hid:List Addr} (hk:cg P w H h1) (hn:∀b∈hid,H b=none) (k:∀b o,h1.get? b=some o->b∉hid->h2.get? b=some o):cg P w H h2:=fun a o e=>by
 have ne:∀b u,H b=some u->b∉hid:=fun b u e z=>by rw [hn b z] at e;cases e
 refine (hk a o e).stay (fun c v hc q=>k c v q ?_) (fun _ q=>q) fun _ _ q=>q
 rcases hc with z|z
 ·rw [z];exact ne a o e
 ·exact ne c _ z
theorem qC {h base:Heap}:∀{l:List Env},h.FunFrames base l->∀b∈bJ l,∃o,h.get? b=some o/\∀vs,o.data ≠ .fields vs
 | [],_,b,hb=>by cases hb
 | env::l,hf,b,hb=>by
  obtain ⟨h1,⟨L,o,e1,e2,e3,e4⟩,h2⟩:=hf
  unfold bJ at hb;rw [List.filterMap_cons,e1] at hb
  rcases List.mem_cons.mp hb with rfl|hb
  ·exact ⟨o,e3,e4⟩
  ·exact qC h2 b hb
def yi (x C T:Addr) (od:Option Addr) (h:Heap):Prop:=∃oe vs oT ts a0,h.get? x=some oe/\oe.cls=.ref C/\oe.dict=od/\oe.data=.fields vs/\vs[0]?=some a0/\vs[1]?=some (.ref T)/\T≠x/\h.get? T=some oT/\oT.data=.fields ts/\ts[3]?=some .none
def cm (P:Program) (w:World):gQ:=fun outer H s E e s' => ∃x C T od H',e=.ref x/\s.heap.get? x=none/\s.heap.get? T=none/\yi x C T od s'.heap/\s'.os=s.os/\AllBare s'.gens /\
 Un (bJ outer) [] H H' s.heap s'.heap/\cg P w H' s'.heap/\H' x=none/\H' T=none/\E (.ref C) od H'
theorem BQ {P:Program} {w:World} {H:Hp} {h:Heap} {a:Addr}:∀{o:HO},bB P w H h a o->∃u,h.get? a=some u
 | .lst xs,x=>let ⟨_,_,_,_,e⟩:=x;⟨_,e⟩
 | .tup xs,x=>let ⟨_,_,_,o,e,_⟩:=x;⟨o,e⟩
 | .dK kvs,x=>let ⟨_,_,_,_,o,_,_,e,_⟩:=x;⟨_,e⟩
 | .dT kvs,x=>let ⟨_,_,_,_,o,_,_,e,_⟩:=x;⟨_,e⟩
 | .set S n,x=>let ⟨o,_,_,_,e,_⟩:=x;⟨_,e⟩
 | .ins C dx fs,x=>let ⟨_,_,_,e,_⟩:=x;⟨_,e⟩
 | .own y,x=>x
 | .xd fs,x=>let ⟨_,⟨_,_,_,e,_⟩,_⟩:=x;⟨_,e⟩
 | .rng lo hi,x=>let ⟨_,_,_,e⟩:=x;⟨_,e⟩
 | .frz ob u,x=>⟨_,x.1⟩
 | .tbl ps,x=>⟨_,(show h.get? a=some _ from x)⟩
 | .met f y,x=>⟨_,(show h.get? a=some _ from x)⟩
 | .ext φ,x=>x.2.1
theorem oQ {h h' base:Heap}:∀{l:List Env},h.FunFrames base l->(∀b∈bJ l,∀o,h.get? b=some o->∃sl,h'.get? b=some { o with slots:=sl })->h'.FunFrames base l
 | [],_,_=>True.intro
 | env::l,hf,hb=>by
  obtain ⟨h1,⟨L,o,e1,e2,e3,e4⟩,h2⟩:=hf
  have hm:L∈bJ (env::l):=by unfold bJ;rw [List.filterMap_cons,e1];exact List.mem_cons_self
  obtain ⟨sl,e5⟩:=hb L hm o e3
  refine ⟨h1,⟨L,_,e1,e2,e5,e4⟩,oQ h2 fun b z=>hb b ?_⟩
  unfold bJ;rw [List.filterMap_cons,e1];exact List.mem_cons_of_mem _ z
theorem j6 {M:Model} {A:Around} {E:Value->Shared->Prop} {s:Shared} {x T:Addr} {oe oT:Obj} {vs ts:Array Value} {Q:Unit->Shared->Prop} (e1:s.heap.get? x=some oe) (e3:oe.data=.fields vs) (e5:vs[1]?=some (.ref T)) (f1:s.heap.get? T=some oT) (f2:oT.data=.fields ts) (f3:3 < ts.size)
  (h:Q () { s with heap:=s.heap.update T (Obj.mapFields fun v=>v.setIfInBounds 3 .none) }):wpAny M A (setFlight (.ref x) none) Q E s:=by
 unfold setFlight
 refine wpAny_bind (wpAny_field e1 e3 e5 ?_)
 rw [if_pos (by simp)]
 exact wpAny_setField f1 f2 f3 h
theorem uk {M:Model} {A:Around} {E:Value->Shared->Prop} {s:Shared} {base:Heap} {env:Env} {outer:List Env} {L x:Addr} {oe:Obj} {vs:Array Value} {Q:Unit->Shared->Prop} (fs:A.frames=some (env::outer)) (hf:s.heap.FunFrames base (env::outer)) (hfr:env.frame=some L)
    (e1:s.heap.get? x=some oe) (e3:oe.data=.fields vs) (hsz:1 < vs.size) (e5:vs[1]?=some .none\/∃T oT ts,vs[1]?=some (.ref T)/\T≠x/\s.heap.get? T=some oT/\oT.data=.fields ts/\ts[3]?=some .none)
    (h:∀h2 T',(∀b o,s.heap.get? b=some o->b≠x->vs[1]? ≠ some (.ref b)->b∉bJ (env::outer)->h2.get? b=some o)->(∀b∈bJ (env::outer),∀o,s.heap.get? b=some o->∃sl,h2.get? b=some { o with slots:=sl }) ->
      s.heap.get? T'=none->T'≠x->h2.get? x=some (Obj.mapFields (fun v=>v.setIfInBounds 1 (.ref T')) oe)->(∃oT ts,h2.get? T'=some oT/\oT.data=.fields ts/\ts[3]?=some (rawInt L))->Q () { s with heap:=h2 }):wpAny M A (noteFrame (.ref x) env) Q E s:=by
  have xf:x∉bJ (env::outer):=fun hm=>by
    obtain ⟨_,o,ho,hn⟩:=Heap.FunFrames.mem hf hm
    rw [e1] at ho;cases ho
    exact hn vs e3
  have core:∀(s1:Shared) (head:Value) (hn:Bool),s1.gens=s.gens->s1.drawn=s.drawn->s1.toks=s.toks->s1.os=s.os->s1.heap.objs.size=s.heap.objs.size->s1.heap.get? x=some oe->s1.heap.FunFrames base (env::outer)->(∀b o,s.heap.get? b=some o->b≠x->vs[1]? ≠ some (.ref b)->s1.heap.get? b=some o)->(∀b∈bJ (env::outer),∀o,s.heap.get? b=some o->s1.heap.get? b=some o) ->
      wpAny M A (do
        let a <- PySem.frameOf env
        let pl <- entryPlaceOf L hn
        let b <- EntryCells.newEntry head a Value.none (rawInt L) Value.none pl
        setField (.ref x) 1 b) Q E s1:=fun s1 head hn g1 g2 g3 g4 g5 k1 k2 k3 k4=>by
    refine wpAny_bind (wpAny_frameOf_fun fs k2 hfr fun h1 so=>wpAny_bind (wpAny_entryPlaceOf fun pl hpl=>?_))
    unfold EntryCells.newEntry newFields
    refine wpAny_bind (wpAny_newObj_type ?_ (hd:=?_))
    rotate_left
    . show Array.size _<=sizeLine+2
      rw [sizeLine_eq]
      rcases hpl with rfl | ⟨a,b,c,d,c9,b10,_,rfl⟩ <;> simp
    have he1:h1.get? x=some oe:=(so.2.1 x xf).trans k1
    have he2:=Heap.get?_push_of_some { cls:=.type "traceback", data:=.fields ([head,.ref L,.none,rawInt L,.none]++(if pl.isEmpty then List.replicate 6 .none else pl)).toArray } he1
    have szT:h1.objs.size=s.heap.objs.size:=so.1.trans g5
    have nT:h1.objs.size≠x:=Nat.ne_of_gt (Heap.lt_size he1)
    refine wpAny_setField he2 e3 hsz ?_
    have st:(⟨s.heap,s.gens,s.drawn,s.toks,s.os⟩:Shared)=s:=rfl
    have key:=h ((h1.push { cls:=.type "traceback", data:=.fields ([head,.ref L,.none,rawInt L,.none]++(if pl.isEmpty then List.replicate 6 .none else pl)).toArray }).update x (Obj.mapFields fun v=>v.setIfInBounds 1 (.ref h1.objs.size))) h1.objs.size ?_ ?_ ?_ nT ?_ ?_
    . rw [<- g1,<- g2,<- g3,<- g4] at key;exact key
    . intro b o eb b1 b2 b3
      rw [Heap.get?_update_other _ _ (Ne.symm b1)]
      exact Heap.get?_push_of_some _ ((so.2.1 b b3).trans (k3 b o eb b1 b2))
    . intro b hb o eb
      obtain ⟨sl,z⟩:=so.2.2 b o (k4 b hb o eb)
      refine ⟨sl,?_⟩
      rw [Heap.get?_update_other _ _ (show x≠b from fun z=>xf (by rw [z];exact hb))]
      exact Heap.get?_push_of_some _ z
    . rw [szT]
      cases z:s.heap.get? s.heap.objs.size with
      | none=>rfl
      | some o=>exact absurd (Heap.lt_size z) (Nat.lt_irrefl _)
    . exact Heap.get?_update_self _ he2 (Obj.isFreed_of_fields (Obj.data_mapFields e3 _))
    . refine ⟨{ cls:=.type "traceback", data:=.fields ([head,.ref L,.none,rawInt L,.none]++(if pl.isEmpty then List.replicate 6 .none else pl)).toArray },_,?_,rfl,by simp⟩
      rw [Heap.get?_update_other _ _ (Ne.symm nT)]
      exact Heap.get?_push_size _ rfl
  unfold noteFrame
  rw [hfr]
  dsimp only
  rcases e5 with e5 | ⟨T,oT,ts,e5,f0,f1,f2,f3⟩
  . refine wpAny_bind (wpAny_field e1 e3 e5 ?_)
    rw [if_neg (by simp)]
    exact core s _ _ rfl rfl rfl rfl rfl e1 hf (fun b o eb _ _=>eb) fun b _ o eb=>eb
  . refine wpAny_bind (wpAny_field e1 e3 e5 ?_)
    rw [if_pos (by simp)]
    refine wpAny_bind (wpAny_field f1 f2 f3 ?_)
    rw [if_neg (by simp [rawInt])]
    have f4:3 < ts.size:=by
      rcases Nat.lt_or_ge 3 ts.size with z|z
      . exact z
      . rw [Array.getElem?_eq_none z] at f3;cases f3
    have Tf:T∉bJ (env::outer):=fun hm=>by
      obtain ⟨_,o,ho,hn⟩:=Heap.FunFrames.mem hf hm
      rw [f1] at ho;cases ho
      exact hn ts f2
    refine wpAny_bind (wpAny_setField f1 f2 f4 ?_)
    refine core _ _ _ rfl rfl rfl rfl (Heap.size_update ..) ((Heap.get?_update_other _ _ f0).trans e1) ?_ ?_ ?_
    . exact oQ hf fun b hb o eb=>⟨o.slots,(Heap.get?_update_other _ _ (show T≠b from fun z=>Tf (by rw [z];exact hb))).trans eb⟩
    . intro b o eb b1 b2
      exact (Heap.get?_update_other _ _ (fun z=>b2 (by rw [e5,z]))).trans eb
    . intro b hb o eb
      exact (Heap.get?_update_other _ _ (show T≠b from fun z=>Tf (by rw [z];exact hb))).trans eb
section
variable {X:Cx} {pins:List (Addr×Obj)} {σ:St} {H H':Hp} {s:Shared}
theorem ah.frame (I:ah X pins σ H s) (hs:X.stack=X.env::X.outer):X.env.frame=some X.env.locals:=by
 rcases I.ok.stk with z|z
 ·have:=congrArg List.length (hs.symm.trans z)
  simp at this
 ·exact z.2
structure fh (X:Cx) (hid:List Addr) (h1 h2:Heap):Prop where
 keep:∀b o,h1.get? b=some o->b∉hid->h2.get? b=some o
 up:∀b∈bJ X.stack,∀o,h1.get? b=some o->∃sl,h2.get? b=some { o with slots:=sl }
theorem fh.trans {hid:List Addr} {h1 h2 h3:Heap} (a:fh X hid h1 h2) (b:fh X hid h2 h3):fh X hid h1 h3 :=
 ⟨fun c o e n=>b.keep c o (a.keep c o e n) n,fun c hc o e=>by
  obtain ⟨sl,e1⟩:=a.up c hc o e
  obtain ⟨sl',e2⟩:=b.up c hc _ e1
  exact ⟨sl',e2⟩⟩
theorem mI {l:List Env} {env:Env} {L:Addr} (h:env.frame=some L):bJ (env::l)=L::bJ l:=by unfold bJ;rw [List.filterMap_cons,h]
theorem k9 {hid:List Addr} {h2:Heap} {x C T:Addr} {E:XK} (I:ah X pins σ H s) (hs:X.stack=X.env::X.outer) (hex:X.ex=[]) (h1:∀b∈hid,b∈bJ X.stack\/X.s₀.heap.get? b=none) (h2n:∀b∈hid,H b=none)
  (ov:fh X hid s.heap h2) {od:Option Addr} (t:yi x C T od h2) (hT:s.heap.get? T=none\/T∈hid) (hx:X.s₀.heap.get? x=none) (hxn:H x=none) (q:E (.ref C) od H):cm X.prog X.w X.outer X.H₀ X.s₀ E (.ref x) { s with heap:=h2 }:=by
 have hfr:=I.frame hs
 have nL:∀b o,X.s₀.heap.get? b=some o->b≠X.env.locals:=fun b o e=>Nat.ne_of_lt (Nat.lt_of_lt_of_le (Heap.lt_size e) I.ok.above)
 have ub:Un X.fs [] X.H₀ H X.s₀.heap s.heap:=by have:=I.base;rw [hex] at this;exact this
 have hf:=I.stack
 have dat:∀b∈bJ X.stack,b≠T:=fun b hb z=>by
  obtain ⟨o,e,d⟩:=qC hf b hb
  obtain ⟨sl,e2⟩:=ov.up b hb o e
  obtain ⟨oe,vs,oT,ts,a0,_,_,_,_,_,_,_,e7,e8,_⟩:=t
  rw [z,e7] at e2
  cases e2
  exact d ts e8
 have old:X.s₀.heap.get? T=none:=by
  cases z:X.s₀.heap.get? T with
  | none=>rfl
  | some o =>
   obtain ⟨o',e⟩:=ub.there T o z (by simp)
   rcases hT with hT|hT
   ·rw [hT] at e;cases e
   ·rcases h1 T hT with h|h
    ·exact absurd rfl (dat T h)
    ·rw [h] at z;cases z
 refine ⟨x,C,T,od,H,rfl,hx,old,t,I.os,I.bare,nF (hid:=hid) ub (fun b o e hb=>?_) ov.keep (fun b hb o e=>ov.up b (by rw [hs,mI hfr];exact List.mem_cons_of_mem _ hb) o e),lM I.hok h2n ov.keep,hxn,?_,q⟩
 ·rcases h1 b hb with h|h
  ·rw [hs,mI hfr] at h
   rcases List.mem_cons.mp h with h|h
   ·exact absurd h (nL b o e)
   ·exact h
  ·rw [h] at e;cases e
 ·cases z:H T with
  | none=>rfl
  | some o =>
   obtain ⟨u,e⟩:=BQ (I.hok T o z)
   rcases hT with hT|hT
   ·rw [hT] at e;cases e
   ·rw [h2n T hT] at z;cases z
theorem jY {M:Model} {A:Around} {E:Value->Shared->Prop} {base:Heap} {env:Env} {outer:List Env} {L x C:Addr} {od:Option Addr} {oe:Obj} {vs:Array Value} {a0:Value} {Q:Unit->Shared->Prop} (fs:A.frames=some (env::outer)) (hf:s.heap.FunFrames base (env::outer)) (hfr:env.frame=some L)
  (e1:s.heap.get? x=some oe) (e2:oe.cls=.ref C) (e6:oe.dict=od) (e3:oe.data=.fields vs) (hsz:1 < vs.size) (e4:vs[0]?=some a0) (e5:vs[1]?=some .none\/∃T oT ts,vs[1]?=some (.ref T)/\T≠x/\s.heap.get? T=some oT/\oT.data=.fields ts/\ts[3]?=some .none)
  (h:∀h2 T',(∀b o,s.heap.get? b=some o->b≠x->vs[1]? ≠ some (.ref b)->b∉bJ (env::outer)->h2.get? b=some o)->(∀b∈bJ (env::outer),∀o,s.heap.get? b=some o->∃sl,h2.get? b=some { o with slots:=sl }) ->
   s.heap.get? T'=none->yi x C T' od h2->Q () { s with heap:=h2 }):wpAny M A (noteFrame (.ref x) env) (fun _ s2=>wpAny M A (setFlight (.ref x) none) Q E s2) E s:=by
 refine uk fs hf hfr e1 e3 hsz e5 fun h2 T' k1 k2 nT nTx ex ⟨oT,ts,f1,f2,f3⟩=>?_
 have d1:(Obj.mapFields (fun v=>v.setIfInBounds 1 (.ref T')) oe).data=.fields (vs.setIfInBounds 1 (.ref T')):=Obj.data_mapFields e3 _
 have v1:(vs.setIfInBounds 1 (.ref T'))[1]?=some (.ref T'):=by simp [hsz]
 have f4:3 < ts.size:=by
  rcases Nat.lt_or_ge 3 ts.size with z|z
  ·exact z
  ·rw [Array.getElem?_eq_none z] at f3;cases f3
 refine j6 (s:={ s with heap:=h2 }) ex d1 v1 f1 f2 f4 ?_
 have nT2:∀b o,s.heap.get? b=some o->T'≠b:=fun b o eb z=>by rw [<- z,nT] at eb;cases eb
 have ce:(Obj.mapFields (fun v=>v.setIfInBounds 1 (.ref T')) oe).cls=.ref C/\(Obj.mapFields (fun v=>v.setIfInBounds 1 (.ref T')) oe).dict=od:=by
  obtain ⟨c,d,da,sl⟩:=oe
  simp only at e3 e2 e6
  subst e3
  exact ⟨e2,e6⟩
 refine h (h2.update T' _) T' (fun b o eb b1 b2 b3=>(Heap.get?_update_other _ _ (nT2 b o eb)).trans (k1 b o eb b1 b2 b3)) (fun b hb o eb=>?_) nT ⟨_,_,_,_,a0,(Heap.get?_update_other _ _ nTx).trans ex,ce.1,ce.2,d1,?_,v1,nTx,Heap.get?_update_self _ f1 (Obj.isFreed_of_fields (Obj.data_mapFields f2 _)),Obj.data_mapFields f2 _,by simp [f4]⟩
 ·obtain ⟨sl,z⟩:=k2 b hb o eb
  exact ⟨sl,(Heap.get?_update_other _ _ (nT2 b o eb)).trans z⟩
 ·rw [Array.getElem?_setIfInBounds_ne (by decide)];exact e4
theorem oM {e C:Addr} {od:Option Addr} {oe:Obj} {vs:Array Value} {a0:Value} {E:XK} {R:Value->Shared->Prop} (I:ah X pins σ H s) (hs:X.stack=X.env::X.outer) (hex:X.ex=[]) (e1:s.heap.get? e=some oe) (e2:oe.cls=.ref C) (e6:oe.dict=od) (e3:oe.data=.fields vs) (hsz:1 < vs.size) (e4:vs[0]?=some a0) (e5:vs[1]?=some .none)
  (n0:X.s₀.heap.get? e=none) (nH:H e=none) (q:E (.ref C) od H) :
  wpAny (model X.prog X.w) X.A (leaving X.env (.ref e)) (fun _ s''=>cm X.prog X.w X.outer X.H₀ X.s₀ E (.ref e) s'') R s:=by
 have hfr:=I.frame hs
 have fs:X.A.frames=some (X.env::X.outer):=by rw [<- hs];exact I.ok.frames
 have hf:=I.stack
 rw [hs] at hf
 refine wpAny_bind (jY (C:=C) (od:=od) fs hf hfr e1 e2 e6 e3 hsz e4 (.inl e5) fun h2 T' k1 k2 nT tr=>?_)
 have ov:fh X (e::bJ X.stack) s.heap h2:=⟨fun b o eb nb=>k1 b o eb (fun z=>nb (by rw [z];exact List.mem_cons_self)) (by rw [e5];intro z;cases z) (fun z=>nb (List.mem_cons_of_mem _ (by rw [hs];exact z))),fun b hb o eb=>k2 b (by rw [<- hs];exact hb) o eb⟩
 refine k9 (s:=s) I hs hex (fun b hb=>?_) (fun b hb=>?_) ov tr (.inl nT) n0 nH q
 ·rcases List.mem_cons.mp hb with rfl|hb
  ·exact .inr n0
  ·exact .inl hb
 ·rcases List.mem_cons.mp hb with rfl|hb
  ·exact nH
  ·exact I.stkFree b hb
theorem rZ {E:XK} {R:Value->Shared->Prop} {e:Value} {s':Shared} (I:ah X pins σ H s) (hs:X.stack=X.env::X.outer) (hex:X.ex=[]) (c:cm X.prog X.w X.stack H s E e s') :
  wpAny (model X.prog X.w) X.A (leaving X.env e) (fun _ s''=>cm X.prog X.w X.outer X.H₀ X.s₀ E e s'') R s':=by
 obtain ⟨x,C,T,od,H',rfl,hx,hT,t,ho,hg,u,hk,nx,nT,q⟩:=c
 have J:ah X pins σ H' s':=I.call' (ch:=[]) ho u hk hg (fun b z=>absurd z (by simp))
 have hfr:=I.frame hs
 have ub:Un X.fs [] X.H₀ H X.s₀.heap s.heap:=by have:=I.base;rw [hex] at this;exact this
 have fs:X.A.frames=some (X.env::X.outer):=by rw [<- hs];exact I.ok.frames
 have hf:=J.stack
 rw [hs] at hf
 have old:∀b,s.heap.get? b=none->X.s₀.heap.get? b=none:=fun b hb=>by
  cases z:X.s₀.heap.get? b with
  | none=>rfl
  | some o=>obtain ⟨o',e'⟩:=ub.there b o z (by simp);rw [hb] at e';cases e'
 obtain ⟨oe,vs,oT,ts,a0,e1,e2,e6,e3,e4,e5,f0,f1,f2,f3⟩:=id t
 have hsz:1 < vs.size:=by
  rcases Nat.lt_or_ge 1 vs.size with z|z
  ·exact z
  ·rw [Array.getElem?_eq_none z] at e5;cases e5
 refine wpAny_bind (jY (C:=C) (od:=od) fs hf hfr e1 e2 e6 e3 hsz e4 (.inr ⟨T,oT,ts,e5,f0,f1,f2,f3⟩) fun h2 T2 k1 k2 nT2 tr=>?_)
 have ov:fh X (x::T::bJ X.stack) s'.heap h2:=⟨fun b o eb nb=>k1 b o eb (fun z=>nb (by rw [z];exact List.mem_cons_self)) (by rw [e5];intro z;injection z with z;injection z with z;exact nb (by rw [<- z];exact List.mem_cons_of_mem _ List.mem_cons_self)) (fun z=>nb (List.mem_cons_of_mem _ (List.mem_cons_of_mem _ (by rw [hs];exact z)))),fun b hb o eb=>k2 b (by rw [<- hs];exact hb) o eb⟩
 refine k9 J hs hex (fun b hb=>?_) (fun b hb=>?_) ov tr (.inl nT2) (old x hx) nx q
 ·rcases List.mem_cons.mp hb with rfl|hb
  ·exact .inr (old _ hx)
  ·rcases List.mem_cons.mp hb with rfl|hb
   ·exact .inr (old _ hT)
   ·exact .inl hb
 ·rcases List.mem_cons.mp hb with rfl|hb
  ·exact nx
  ·rcases List.mem_cons.mp hb with rfl|hb
   ·exact nT
   ·exact J.stkFree b hb
end
end L2
namespace L2
open PySem PySem.Spec PyProof.Rows
abbrev dX:List Value:=[Value.type "ValueError", Value.type "Exception", Value.type "BaseException", Value.type "object"]
theorem gR {x D:Addr} {ox:Obj} {h:Heap} (e1:h.get? x=some ox) (e2:ox.cls=.ref D):∀M,W.Looks M h (typeOf (.ref x)) (.ref D):=by
 intro M A Q E s hk hq
 unfold typeOf
 refine wpAny_bind (wpAny_loadPart (hk _ _ e1) ?_)
 rw [e2]
 exact wpAny_pure hq
theorem sj {prog:Program} {w:World} {A:Around} {K:W.Frag} {x D:Addr} {R:Result->Shared->Prop} {tp:Value} {h:Heap} {g:Array GenState} {d:Drawn} {tk:Nat} {os:OsState} (KI:K.In h) (ty:∀M,W.Looks M h (typeOf (.ref x)) (.ref D)) (hm:W.mroIn K D (.type "object")=some true)
  (hR:R (.ok (.ret (.ref D))) ⟨h,g,d,tk,os⟩):codeAny (model prog w) A (.call (.builtin "getset_descriptor.__get__") ⟨[.builtin "object.__class__", .ref x,tp],[]⟩) R ⟨h,g,d,tk,os⟩:=by
 refine codeAny_call_builtin W.KF.slot_gs.plain W.KF.entry_gs ?_
 refine W.KF.slot_gs.check _ _ _ _ _ _ _ _ ?_ (W.KF.args_gs _ _ _) ?_
 ·exact W.KF.type_class
 show wpAny _ _ (Builtin.Getset_descriptor.descrGet ⟨[.builtin "object.__class__", .ref x,tp],[]⟩) _ _ _
 unfold Builtin.Getset_descriptor.descrGet
 rw [W.dga_obj]
 refine wpAny_bind (wpAny_pure ?_)
 dsimp only
 unfold Builtin.Getset_descriptor.descrGetter
 dsimp only
 refine wpAny_bind ?_
 unfold Builtin.Getset_descriptor.descrCheckInstance
 refine wpAny_bind ?_
 unfold Builtin.Getset_descriptor.descrNameAndClass
 dsimp only
 rw [W.KF.owner_class]
 refine wpAny_pure ?_
 dsimp only
 refine wpAny_bind ?_
 unfold isInstance
 refine wpAny_bind (W.Looks.at (ty _) (W.Looks.at (W.looks_mroIn KI hm) ?_))
 rw [if_neg (by simp)]
 refine wpAny_pure ?_
 refine wpAny_pure ?_
 refine ⟨Code.quiet_builtin _ (by decide +kernel),codeAny_builtin W.KF.entry_class ?_⟩
 show wpAny _ _ (Builtin.«object.__class__» ⟨[.ref x],[]⟩) _ _ _
 unfold Builtin.«object.__class__»
 dsimp only
 refine wpAny_bind ?_
 unfold shownTypeOf
 refine wpAny_bind (W.Looks.at (ty _) ?_)
 rw [if_neg (by simp)]
 refine wpAny_pure ?_
 exact wpAny_pure hR
theorem uQ {prog:Program} {w:World} {A:Around} {E:Value->Shared->Prop} {s:Shared} {K:W.Frag} {x D N:Addr} {Q:Option Value->Shared->Prop} {nm q:Str} {bs bm:List Value} {hdct:Bool} {sn:List Str} {sub:List Value} {ab:Bool} {col:Option Bool} {dd:Option Addr} {k0 k1 k2 k3 k5:Option Value} {newId:String}
  (hga:W.findIn K (.ref D) "__getattribute__" = some (some (.builtin "BaseException.__getattribute__"))) (hgt:W.findIn K (.ref D) "__getattr__" = some none)
  (hf:W.findIn K (.ref D) "__class__" = some (some (.builtin "object.__class__"))) (hs:W.specialIn K (.builtin "object.__class__") "__get__" = some (some (.builtin "getset_descriptor.__get__"))) (ht:W.takesIn K (.builtin "object.__class__")=some true) (hm:W.mroIn K D (.type "object")=some true)
  (KI:K.In s.heap) {ox:Obj} (e1:s.heap.get? x=some ox) (e2:ox.cls=.ref D) (hD:s.heap.get? D=some (excClassObj nm q D N bs bm hdct sn sub ab col dd k0 k1 k2 k3 k5 newId)) (hT:OwnTailQ s.heap dX bm)
  (hq:Q (some (.ref D)) { s with toks:=s.toks+1 }):wpAny (model prog w) A (getAttr? (.ref x) "__class__") Q E s:=by
 obtain ⟨h,g,d,tk,os⟩:=s
 have ty:=gR e1 e2
 have lf:∀M,W.Looks M h (Builtin.ObjectAttr.find (.ref x) (.ref D) "__class__") (.bind (.builtin "getset_descriptor.__get__") (.builtin "object.__class__")):=by
  intro M A Q E s hk hq
  unfold Builtin.ObjectAttr.find
  refine wpAny_bind (W.looks_findIn KI hf A _ E s hk ?_)
  refine wpAny_bind ?_
  unfold Builtin.ObjectAttr.getOf
  refine W.looks_specialIn KI hs A _ E s hk ?_
  refine wpAny_bind ?_
  unfold Builtin.ObjectAttr.dataDescriptor?
  refine wpAny_bind (W.looks_takesIn KI ht A _ E s hk ?_)
  rw [if_pos rfl]
  refine wpAny_pure ?_
  exact W.Looks.tag (W.Looks.now) A _ E s hk hq
 unfold getAttr?
 refine wpAny_bind (wpAny_mkText ?_)
 unfold getAttrBy?
 refine wpAny_bind (wpAny_attempt ?_)
 unfold getAttrBy
 refine wpAny_holding (wpAny_bind (W.Looks.at (ty _) ?_))
 refine wpAny_bind (W.Looks.at (W.looks_findIn KI hga) ?_)
 dsimp only
 have e9:(onTheHeap (Value.ref D)&&Value.builtin "BaseException.__getattribute__" == Value.builtin "object.__getattribute__")=false:=by
  have e0:(Value.builtin "BaseException.__getattribute__" == Value.builtin "object.__getattribute__")=false:=by decide +kernel
  rw [e0,Bool.and_false]
 rw [e9]
 rw [if_neg (by simp)]
 unfold getAttrByItsOwn
 refine wpAny_bind (W.Looks.at (W.looks_hook KI (r:=none) (by show (if true=true then W.findIn K (.ref D) "__getattr__" else some none)=some none;rw [if_pos rfl];exact hgt)) ?_)
 refine wpAny_bind (wpAny_attempt (wpAny_holding ?_))
 unfold callGetattribute
 rw [if_neg (by simp)]
 unfold boundAndCalled
 rw [(PySem.F.attrBase_ValueError.toExcAttrFacts.ga).bind]
 refine wpAny_bind (wpAny_pure ?_)
 refine wpAny_call (codeAny_call_builtin (PySem.F.attrBase_ValueError.toExcAttrFacts.ga).plain PySem.F.entry_bexc_ga ?_)
 refine wpAny_check_ga_own PySem.F.attrBase_ValueError hD hT e1 e2 ?_
 show wpAny _ _ (Builtin.«object.__getattribute__» ⟨[Value.ref x,Value.str "__class__" tk],[]⟩) _ _ _
 unfold Builtin.«object.__getattribute__»
 refine wpAny_bind ?_
 unfold slotArgs
 dsimp only
 rw [if_neg (by simp),if_neg (by simp)]
 refine wpAny_pure ?_
 dsimp only
 refine wpAny_bind ?_
 unfold Builtin.ObjectAttr.attrName
 refine wpAny_pure ?_
 refine wpAny_bind (W.Looks.at (ty _) ?_)
 refine wpAny_bind (W.Looks.at (lf _) ?_)
 dsimp only
 unfold Builtin.ObjectAttr.bindTo
 dsimp only
 refine wpAny_bind (wpAny_holding (wpAny_call (sj KI ty hm ?_)))
 refine wpAny_pure ?_
 refine W.handed_on rfl ?_
 exact wpAny_pure hq
end L2
namespace L2
open PySem PySem.Spec PyProof.Rows
def AR:Value->Bool
 | .str _ _=>true
 | _=>false
def lD (K:W.Frag) (N:Addr):Bool :=
 match K.lookup N with
 | some ⟨_,_,.dict es _,_⟩=>es.toList.all (fun e=>AR e.key)&&quietNames.all fun n=>(nsFind es n).isNone
 | _=>false
def jV (K:W.Frag) (N:Addr):Bool :=
 match K.lookup N with
 | some ⟨_,_,.dict es _,_⟩=>es.toList.all (fun e=>AR e.key)
 | _=>false
def om (K:W.Frag) (N:Addr):Option Value :=
 match K.lookup N with
 | some ⟨_,_,.dict es _,_⟩=>nsFind es "__init__"
 | _=>none
def d9 (K:W.Frag) (C:Addr):Option Value :=
 match K.lookup C with
 | some ⟨_,_,.cls cd,_⟩=>om K cd.ns
 | _=>none
def BS (sl:Array (Option Value)):Bool :=
 match sl.toList with
 | [_,_,_,_,some (.builtin id),_]=>id == "ValueError.__new__"
 | _=>false
def gZ (K:W.Frag) (C S:Addr):Bool :=
 match K.lookup C,K.lookup S with
 | some ⟨.type t,_,.cls cd,sl⟩,some ⟨_,_,.cls ce,_⟩=>t == "type" && BS sl&&(cd.mro == .ref C :: .ref S::dX) && !cd.hasDel&&jV K cd.ns&&lD K ce.ns
 | _,_=>false
theorem vW {K:W.Frag} {N:Addr} {h:Heap} (q:lD K N=true) (KI:K.In h):∃mN,h.Ns N mN/\∀n∈quietNames,mN n=none:=by
 unfold lD at q
 split at q
 ·rename_i c d es ep sl e
  rw [Bool.and_eq_true] at q
  refine ⟨nsFind es,⟨_,es,ep,KI _ _ e,rfl,fun x hx=>?_,fun _=>rfl⟩,fun n hn=>?_⟩
  ·have:=List.all_eq_true.mp q.1 x (by simpa using hx)
   cases hk:x.key with
   | str n t=>exact ⟨n,t,rfl⟩
   | _=>rw [hk] at this;cases this
  ·have:=List.all_eq_true.mp q.2 n hn
   simpa using this
 ·cases q
theorem t7 {K:W.Frag} {N:Addr} {h:Heap} (q:jV K N=true) (KI:K.In h):∃mN,h.Ns N mN/\mN "__init__" = om K N:=by
 unfold jV at q
 unfold om
 split at q
 ·rename_i c d es ep sl e
  refine ⟨nsFind es,⟨_,es,ep,KI _ _ e,rfl,fun x hx=>?_,fun _=>rfl⟩,rfl⟩
  have:=List.all_eq_true.mp q x (by simpa using hx)
  cases hk:x.key with
  | str n t=>exact ⟨n,t,rfl⟩
  | _=>rw [hk] at this;cases this
 ·cases q
theorem dO {K:W.Frag} {C S:Addr} {h:Heap} (q:gZ K C S=true) (KI:K.In h) :
  ∃nm qn N bs hdct sn sub ab col dd k0 k1 k2 k3 k5 mN,h.get? C=some (excClassObj nm qn C N bs (.ref S::dX) hdct sn sub ab col dd k0 k1 k2 k3 k5 "ValueError.__new__")/\h.Ns N mN/\mN "__init__" = d9 K C/\OwnTailQ h dX (.ref S::dX):=by
 unfold gZ at q
 split at q
 ·rename_i t d1 cd sl c2 d2 ce sl2 e1 e2
  simp only [Bool.and_eq_true] at q
  obtain ⟨⟨⟨⟨⟨q1,q2⟩,q3⟩,q4⟩,q5⟩,q6⟩:=q
  have q1:t = "type" := by simpa using q1
  subst q1
  replace q3:cd.mro=.ref C :: .ref S::dX:=by simpa using q3
  replace q4:cd.hasDel=false:=by simpa using q4
  obtain ⟨mN,n1,n2⟩:=t7 q5 KI
  obtain ⟨mS,m1,m2⟩:=vW q6 KI
  unfold BS at q2
  split at q2
  ·rename_i k0 k1 k2 k3 id k5 es
   have q2:id = "ValueError.__new__" := by simpa using q2
   subst q2
   have es:sl = #[k0,k1,k2,k3,some (.builtin "ValueError.__new__"),k5]:=by
    have:=congrArg List.toArray es
    simpa using this
   subst es
   have g1:=KI _ _ e1
   have g2:=KI _ _ e2
   obtain ⟨f1,f2,f3,f4,f5,f6,f7,f8,f9,f10,f11⟩:=cd
   simp only at q3 q4 n1
   subst q3 q4
   exact ⟨_,_,_,_,_,_,_,_,_,_,_,_,_,_,_,mN,g1,n1,by rw [n2];unfold d9;rw [e1],.own g2 m1 m2 .base⟩
  ·cases q2
 ·cases q
structure fc (K:W.Frag) (C S:Addr):Prop where
 ex:gZ K C S=true
 ga:W.findIn K (.ref C) "__getattribute__" = some (some (.builtin "BaseException.__getattribute__"))
 gt:W.findIn K (.ref C) "__getattr__" = some none
 cl:W.findIn K (.ref C) "__class__" = some (some (.builtin "object.__class__"))
 sp:W.specialIn K (.builtin "object.__class__") "__get__" = some (some (.builtin "getset_descriptor.__get__"))
 tk:W.takesIn K (.builtin "object.__class__")=some true
 mo:W.mroIn K C (.type "object")=some true
theorem fc.is {K:W.Frag} {C S:Addr} (e:fc K C S):∃cd,W.clsIn K C=some cd:=by
 have:=e.mo
 unfold W.mroIn at this
 cases h:W.clsIn K C with
 | none=>rw [h] at this;cases this
 | some cd=>exact ⟨cd,rfl⟩
def DE (x C:Addr) (h:Heap):Prop:=∃o,h.get? x=some o/\o.cls=.ref C
theorem jZ {K:W.Frag} {x C S:Addr} (e:fc K C S):W.KitX K (.ref x) (.ref C) (DE x C):=by
 obtain ⟨cd,hcd⟩:=e.is
 refine ⟨fun M h KI ⟨o,e1,e2⟩=>?_,fun M h KI _=>?_,fun h tp dd its n sl KI ht=>?_,fun {prog w A E Q s} KI ⟨o,e1,e2⟩ hq=>?_⟩
 ·exact gR e1 e2 M
 ·obtain ⟨nm,qn,N,bs,hdct,sn,sub,ab,col,dd,k0,k1,k2,k3,k5,mN,g1,g2,g3,g4⟩:=dO e.ex KI
  intro A Q E s hk hq
  unfold isType
  refine wpAny_bind (wpAny_loadPart (hk _ _ g1) ?_)
  exact wpAny_pure hq
 ·obtain ⟨nm,qn,N,bs,hdct,sn,sub,ab,col,dd,k0,k1,k2,k3,k5,mN,g1,g2,g3,g4⟩:=dO e.ex KI
  rw [beq_eq_false_iff_ne]
  intro z
  injection z with z
  rw [<- z,g1] at ht
  injection ht with ht
  injection ht with h1
  injection h1 with h1
  exact absurd h1 (by decide)
 ·obtain ⟨nm,qn,N,bs,hdct,sn,sub,ab,col,dd,k0,k1,k2,k3,k5,mN,g1,g2,g3,g4⟩:=dO e.ex KI
  exact uQ e.ga e.gt e.cl e.sp e.tk e.mo KI e1 e2 g1 g4 hq
end L2
namespace L2
open PySem PySem.Spec PyProof.Rows
theorem vm (S:Addr):(Value.ref S::dX).contains (.type "BaseException")=true:=by
 rw [List.contains_cons,show dX.contains (Value.type "BaseException")=true by decide +kernel,Bool.or_true]
section
variable {X:Cx} {pins:List (Addr×Obj)} {σ:St} {H:Hp} {s:Shared}
theorem jU {x:Str} {C S:Addr} {np cpos pos:Pos} {e:Expr} {t:TA} {Q:Flow->Shared->Prop} (I:ah X pins σ H s) (hc:X.calm=true) (hg:Gl X x) (hm:X.mg x=some (.ref C)) (hx:fc X.K C S) (hin:d9 X.K C=none) (hdb:(x==("__debug__" : Str))=false)
  (ha:PA X [e] t) (hn:(backTo cpos (starEach [e] X.env)).any (·.1)=false) (he:starEach [e] X.env=[(false,eval e X.env)])
  (h:t σ H fun vs H1=>vs.length<=sizeLine/\∀s1 h' a us,ah X pins σ H1 s1->s1.heap.MadeExcOf h' a (.ref C) us->X.xe (.ref a) { s1 with heap:=h' }) :
  wpAny (model X.prog X.w) X.A (exec (.Raise (some (.Call (.Name x np) [e] [] cpos)) none pos) X.env) Q X.xe s:=by
 obtain ⟨nm,qn,N,bs,hdct,sn,sub,ab,col,dd,k0,k1,k2,k3,k5,mN,g1,g2,g3,g4⟩:=dO hx.ex I.ok.mod.kin
 refine wpAny_Raise_call_subT (nm:=nm) (q:=qn) (N:=N) (bs:=bs) (bm:=.ref S::dX) (hdct:=hdct) (sn:=sn) (sub:=sub) (ab:=ab) (col:=col) (dd:=dd) (k0:=k0) (k1:=k1) (k2:=k2) (k3:=k3) (k5:=k5) PySem.F.excBase_ValueError (vm S) (I.ok.hd hc) hn (g3.trans hin) (cP I hg hm ⟨rfl,?_⟩ hdb)
 have key:=ha cpos pins s σ H _ I h
 rw [he] at key ⊢
 obtain ⟨y,ey⟩:∃y,backTo cpos [(false,eval e X.env)]=[(false,y)]:=⟨_,rfl⟩
 rw [ey] at key ⊢
 refine PySem.Calls.evalArgs_plain (aF key fun us s1 ⟨vs,H1,I1,r,hl,q⟩=>?_)
 obtain ⟨o,es,ep,e1,e2,e3,e4⟩:=g2
 exact ⟨rfl,by rw [<- r.length];exact hl,I1.bk _ _ g1,⟨o,es,ep,I1.bk _ _ e1,e2,e3,e4⟩,(OwnTailQ.tail g4).keeps I1.bk,fun h' a m=>q s1 h' a us I1 m⟩
end
end L2
namespace L2
open PySem PySem.Spec PyProof.Rows
section
variable {X:Cx} {pins:List (Addr×Obj)} {σ:St} {H H':Hp} {s:Shared}
theorem zI {M:Model} {A:Around} {E:Value->Shared->Prop} {i:Nat} {n:Str} {pos:Pos} {Q:Unit->Shared->Prop} (I:ah X pins σ H s) (hN:X.N.Nodup) (hi:X.N[i]?=some n) (hk:X.env.scope.names.lookup n=some .local)
  (h:∀s',ah X pins (σ.set i none) H s'->Q () s'):wpAny M A (do bindName X.env n .none;unbindBehindTheSuite X.env n pos) Q E s:=by
 obtain ⟨m,hn,hl⟩:=id I.loc
 have hcls:(X.env.scope.kind == .class || (X.env.scope.kind == .module&&X.env.locals != X.env.globals))=false:=by rw [I.ok.kind];rfl
 have hiσ:i < σ.length:=by rw [I.len];exact (List.getElem?_eq_some_iff.mp hi).1
 have cne:=I.cne
 refine wpAny_nameGoes_keeps hk hn hcls fun h' v hn' hs=>?_
 obtain ⟨oL,_,_,hoL,_⟩:=id hn
 refine h _ ⟨I.ok,I.os,I.bare,⟨fun b o e n hb hx=>?_,fun b o e n hb hx=>?_,I.base.free,fun b o e hx=>?_,I.base.tups,I.base.frzs,I.base.tbls⟩,⟨_,hn',fun j y v' e1 e2 e3=>?_⟩,fun y c e=>?_,I.free,I.freeC,fun p hp=>?_,fun b ob e=>?_,by simpa using I.len⟩
 ·exact (hs.2 b (Nat.ne_of_lt (Nat.lt_of_lt_of_le (Heap.lt_size e) I.ok.above))).trans (I.base.keep b o e n hb hx)
 ·obtain ⟨sl,e1⟩:=I.base.slot b o e n hb hx
  exact ⟨sl,(hs.2 b (Nat.ne_of_lt (Nat.lt_of_lt_of_le (Heap.lt_size e) I.ok.above))).trans e1⟩
 ·obtain ⟨o',e1⟩:=I.base.there b o e hx
  exact ⟨o',(hs.2 b (Nat.ne_of_lt (Nat.lt_of_lt_of_le (Heap.lt_size e) I.ok.above))).trans e1⟩
 ·by_cases hj:j=i
  ·subst hj
   rw [List.getElem?_set_self hiσ] at e2
   cases e2
  ·rw [List.getElem?_set_ne (Ne.symm hj)] at e2
   obtain ⟨u',r',q⟩:=hl j y v' e1 e2 e3
   refine ⟨u',r',?_⟩
   rcases q with ⟨k,e⟩ | ⟨k,c,e,z⟩
   ·refine .inl ⟨k,?_⟩
    have:y≠n:=fun e=>hj (fF hN e1 (e ▸ hi))
    simp [this,e]
   ·exact .inr ⟨k,c,e,z.sameBut hs (cne y c e)⟩
 ·obtain ⟨w',z⟩:=I.cell y c e
  exact ⟨w',z.sameBut hs (cne y c e)⟩
 ·obtain ⟨e,n,ne,nf,d⟩:=I.pin p hp
  exact ⟨(hs.2 p.1 ne).trans e,n,ne,nf,d⟩
 ·refine (I.hok b ob e).stay (fun c w' hc q=>(hs.2 c ?_).trans q) (fun _ q=>q) fun _ _ q=>q
  rintro rfl
  rcases hc with rfl|hc
  ·rw [I.free] at e;cases e
  ·rw [I.free] at hc;cases hc
abbrev Cx.mark (X:Cx) (e:Value):Cx:={ X with A:=X.A.mark (some e),calm:=false,xe:=fun _ _=>False }
theorem Cx.Ok.mark (ok:X.Ok) (e:Value):(X.mark e).Ok:=⟨ok.mod,ok.kind,ok.glob,ok.blt,ok.above,ok.inj,ok.has,ok.cab,(fun z=>by cases z),ok.frames,ok.stk,ok.exf,ok.bs,ok.bsz,ok.noex,ok.exfs,ok.funs,ok.frf⟩
theorem ah.mark (I:ah X pins σ H s) (e:Value):ah (X.mark e) pins σ H s:=⟨I.ok.mark e,I.os,I.bare,I.base,I.loc,I.cell,I.free,I.freeC,I.pin,I.hok,I.len⟩
theorem ah.unmark {e:Value} (ok:X.Ok) (I:ah (X.mark e) pins σ H s):ah X pins σ H s:=⟨ok,I.os,I.bare,I.base,I.loc,I.cell,I.free,I.freeC,I.pin,I.hok,I.len⟩
abbrev io (x C:Addr) (od:Option Addr):HO:=.ext (fun h => ∃o vs,h.get? x=some o/\o.cls=.ref C/\o.dict=od/\o.data=.fields vs)
theorem CH {P:Program} {w:World} {h:Heap} {x C:Addr} {od:Option Addr} {o:Obj} {vs:Array Value} {H:Hp} (e1:h.get? x=some o) (e2:o.cls=.ref C) (e3:o.dict=od) (e4:o.data=.fields vs):bB P w H h x (io x C od) :=
 ⟨⟨o,vs,e1,e2,e3,e4⟩,⟨o,e1⟩,fun h1 h2 ⟨o',vs',a,b,c,d⟩ k=>⟨o',vs',k o' a,b,c,d⟩⟩
theorem DV {P:Program} {w:World} {h:Heap} {x:Addr} {o:HO} (hk:cg P w H h) (hn:H x=none) (ho:bB P w (aE H x o) h x o):cg P w (aE H x o) h:=fun a u e=>by
 by_cases z:a=x
 ·subst z
  rw [aJ] at e;cases e
  exact ho
 ·rw [az z] at e
  exact (hk a u e).stay (fun _ _ _ q=>q) (fun b q=>by rw [az (aO q hn)];exact q) fun b xs q=>by rw [az (aO q hn)];exact q
theorem Dt {E:XK} {e:Value} {s':Shared} {D:ib} {B n y:Str} {ie iy:Nat} {C0:Addr} {bp hpos p1 p2 p3:Pos} (I:ah X pins σ H s) (hs:X.stack=X.env::X.outer) (hN:X.N.Nodup) (c:cm X.prog X.w X.stack H s E e s')
  (hB:Gl X B) (hmB:X.mg B=some (.ref C0)) (hdb:(B==("__debug__" : Str))=false) (hie:X.N[ie]?=some n) (hen:X.env.scope.names.lookup n=some .local) (hiy:X.N[iy]?=some y) (hyn:X.env.scope.names.lookup y=some .local) (hne:iy≠ie)
  (hd1:(n==("__debug__" : Str))=false) (hd2:(n==("__classdict__" : Str))=false)
  (hE:∀C od H',E (.ref C) od H'->W.exmOne X.K (.ref C) (.ref C0)=some true/\∀x,H' x=none->D.nx (((σ.set ie (some (.ref x))).set iy (some (.ref x))).set ie none) (aE H' x (io x C od))) :
  wpAny (model X.prog X.w) X.A (noteFrame e X.env) (fun _ s₂=>wpAny (model X.prog X.w) X.A (setFlight e none) (fun _ s₃=>wpAny (model X.prog X.w) X.A (handleBy e X.env [.ExceptHandler (some (.Name B bp)) (some n) [.Assign [.Name y p1] (.Name n p2) p3] hpos]) (SP X pins D) X.xe s₃) X.xe s₂) X.xe s':=by
 obtain ⟨x,C,T,od,H',rfl,hx,hT,t,ho,hg,u,hk,nx,nT,q⟩:=c
 have J:ah X pins σ H' s':=I.call' (ch:=[]) ho u hk hg (fun b z=>absurd z (by simp))
 have hfr:=I.frame hs
 have fs:X.A.frames=some (X.env::X.outer):=by rw [<- hs];exact I.ok.frames
 have hf:=J.stack
 rw [hs] at hf
 obtain ⟨oe,vs,oT,ts,a0,e1,e2,e6,e3,e4,e5,f0,f1,f2,f3⟩:=id t
 have hsz:1 < vs.size:=by
  rcases Nat.lt_or_ge 1 vs.size with z|z
  ·exact z
  ·rw [Array.getElem?_eq_none z] at e5;cases e5
 obtain ⟨qm,qn⟩:=hE C od H' q
 refine jY (C:=C) (od:=od) fs hf hfr e1 e2 e6 e3 hsz e4 (.inr ⟨T,oT,ts,e5,f0,f1,f2,f3⟩) fun h2 T2 k1 k2 nT2 tr=>?_
 have hidn:∀b∈x::T::bJ X.stack,H' b=none:=fun b hb=>by
  rcases List.mem_cons.mp hb with rfl|hb
  ·exact nx
  ·rcases List.mem_cons.mp hb with rfl|hb
   ·exact nT
   ·exact J.stkFree b hb
 have hidf:∀b o,s.heap.get? b=some o->b∈x::T::bJ X.stack->b∈bJ X.stack:=fun b o eb hb=>by
  rcases List.mem_cons.mp hb with rfl|hb
  ·rw [hx] at eb;cases eb
  ·rcases List.mem_cons.mp hb with rfl|hb
   ·rw [hT] at eb;cases eb
   ·exact hb
 have mkI:∀h3:Heap,fh X (x::T::bJ X.stack) s'.heap h3->ah X pins σ H' { s' with heap:=h3 }:=fun h3 ov =>
  I.call' (s':={ s' with heap:=h3 }) (ch:=[]) ho (nF u hidf ov.keep ov.up) (lM hk hidn ov.keep) hg (fun b z=>absurd z (by simp))
 have ov2:fh X (x::T::bJ X.stack) s'.heap h2:=⟨fun b o eb nb=>k1 b o eb (fun z=>nb (by rw [z];exact List.mem_cons_self)) (by rw [e5];intro z;injection z with z;injection z with z;exact nb (by rw [<- z];exact List.mem_cons_of_mem _ List.mem_cons_self)) (fun z=>nb (List.mem_cons_of_mem _ (List.mem_cons_of_mem _ (by rw [hs];exact z)))),fun b hb o eb=>k2 b (by rw [<- hs];exact hb) o eb⟩
 have J2:=mkI h2 ov2
 obtain ⟨ox,vx,oU,us,a1,ex1,ex2,ex6,ex3,ex4,ex5,u0,u1,u2,u3⟩:=tr
 refine wpAny_handleBy_cons ?_ (by intro z;cases z)
 refine codeAny_handlers_test ?_
 refine cP (X:=X.mark (.ref x)) (J2.mark (.ref x)) hB hmB ?_ hdb
 refine W.Looks.at (W.exm_one J2.kIn (gR ex1 ex2 _) qm) ?_
 show codeAny _ _ _ _ _
 refine codeAny_handlers_suite_as ?_
 have u4:3 < us.size:=by
  rcases Nat.lt_or_ge 3 us.size with z|z
  ·exact z
  ·rw [Array.getElem?_eq_none z] at u3;cases u3
 have nT3:∀b o,s'.heap.get? b=some o->T2≠b:=fun b o eb z=>by rw [<- z,nT2] at eb;cases eb
 refine j6 (s:={ s' with heap:=h2 }) ex1 ex3 ex5 u1 u2 u4 ?_
 obtain ⟨h3,eh3⟩:∃h3,h2.update T2 (Obj.mapFields fun v=>v.setIfInBounds 3 .none)=h3:=⟨_,rfl⟩
 have oth:∀b,T2≠b->h3.get? b=h2.get? b:=fun b hb=>by rw [<- eh3];exact Heap.get?_update_other _ _ hb
 show wpAny _ _ _ _ _ { s' with heap:=h2.update T2 (Obj.mapFields fun v=>v.setIfInBounds 3 .none) }
 rw [eh3]
 have ov3:fh X (x::T::bJ X.stack) s'.heap h3:=⟨fun b o eb nb=>(oth b (nT3 b o eb)).trans (ov2.keep b o eb nb),fun b hb o eb=>by
  obtain ⟨sl,z⟩:=ov2.up b hb o eb
  exact ⟨sl,(oth b (nT3 b o eb)).trans z⟩⟩
 have ey1:h3.get? x=some ox:=(oth x u0).trans ex1
 have J3:ah X pins σ (aE H' x (io x C od)) { s' with heap:=h3 }:=by
  have u3:=nF u hidf ov3.keep ov3.up
  refine I.call' (s':={ s' with heap:=h3 }) (ch:=[]) ho ⟨u3.keep,u3.slot,fun b o eb n hb=>?_,u3.there,fun b xs eb=>?_,fun b o w eb=>?_,fun b ps eb=>?_⟩ (DV (lM hk hidn ov3.keep) nx (CH ey1 ex2 ex6 ex3)) hg (fun b z=>absurd z (by simp))
  ·have:b≠x:=fun z=>by rw [z,hx] at eb;cases eb
   rw [az this];exact u3.free b o eb n hb
  ·have z:=u3.tups b xs eb
   rw [az (aO z nx)];exact z
  ·have z:=u3.frzs b o w eb
   rw [az (aO z nx)];exact z
  ·obtain ⟨more,z⟩:=u3.tbls b ps eb
   exact ⟨more,by rw [az (aO z nx)];exact z⟩
 refine eI (X:=X) J3 hN hie (.inl hen) (v:=.ref x) rfl (fun s4 J4=>?_) (.inr hen)
 have hl:ie < σ.length:=by rw [I.len];exact (List.getElem?_eq_some_iff.mp hie).1
 have pv:PE (X.mark (.ref x)) (.Name n p2) (nK ie):=iJ (X:=X.mark (.ref x)) hie (.inl hen) hd1 hd2
 have ps:=t9 (X:=X.mark (.ref x)) (pos:=p3) (pos':=p1) hN hiy (.inl hyn) pv rfl (.inr hyn)
 refine wpAny_mono (lF ps pins s4 _ _ ⟨fun σ' H''=>σ'=(σ.set ie (some (.ref x))).set iy (some (.ref x))/\H''=aE H' x (io x C od),fun _ _=>False,fun _ _=>False,fun _ _=>False⟩ (J4.mark (.ref x)) ⟨_,List.getElem?_set_self hl,rfl,rfl⟩) (fun f s5 hf=>?_) (fun _ _ z=>z.elim)
 cases f with
 | next =>
  obtain ⟨σ',H'',J5,rfl,rfl⟩:=hf
  refine zI (X:=X) (J5.unmark I.ok) hN hie hen fun s6 J6=>?_
  exact ⟨_,_,J6,qn x nx⟩
 | brk=>obtain ⟨_,_,_,z⟩:=hf;exact z.elim
 | cont=>obtain ⟨_,_,_,z⟩:=hf;exact z.elim
 | ret v=>obtain ⟨_,_,_,_,_,z⟩:=hf;exact z.elim
end
end L2
namespace L2
open PySem PySem.Spec PyProof.Rows
theorem kz {prog:Program} {w:World} {A:Around} {E:Value->Shared->Prop} {h:Heap} {g:Array GenState} {d:Drawn} {t:Nat} {os:OsState} {nm q:Str} {C N:Addr} {bs bm bmB:List Value} {hdct:Bool} {sn:List Str} {sub:List Value} {ab:Bool} {col:Option Bool} {dd:Option Addr} {k0 k1 k2 k3 k5:Option Value} {B newId initId:String}
  (F:ExcBaseFacts B newId initId bmB) (ht:OwnTail h bmB bm) {mN:Str->Option Value} {rest:List Value} {fI:Addr} {oI:Obj} {Q:PySem.Fin->Shared->Prop} (hC:h.get? C=some (excClassObj nm q C N bs bm hdct sn sub ab col dd k0 k1 k2 k3 k5 newId)) (hn:h.Ns N mN) (hi:mN "__init__" = some (.ref fI)) (hfI:h.get? fI=some oI) (hfc:oI.cls=.type "function")
  (hq:∀h' e,h.objs.size<=e->h.MadeExcOf h' e (.ref C) rest->wpAny (model prog w) A (call (.ref fI) (.ref e::rest)) (fun r s'=>r=.none/\Q (.done (.ret (.ref e))) s') E ⟨h',g,d,t,os⟩) (hrest:rest.length<=sizeLine) :
  wpAny (model prog w) A (Builtin.«type.__call__» ⟨.ref C::rest,[]⟩) Q E ⟨h,g,d,t,os⟩:=by
 unfold Builtin.«type.__call__»
 dsimp only
 refine wpAny_ite_false rfl ?_
 refine wpAny_bind ?_
 unfold mroOf
 refine wpAny_bind ?_
 unfold classData
 refine wpAny_bind (wpAny_load' hC (wpAny_pure (wpAny_pure ?_)))
 refine wpAny_ite_false rfl ?_
 refine wpAny_bind (wpAny_madeBy_exc hC ?_)
 refine wpAny_bind (wpAny_pure ?_)
 refine wpAny_bind (wpAny_holding (wpAny_call (codeAny_call_builtin_code (Code.quiet_builtin ⟨.ref C::rest,[]⟩ F.quiet) (wpAny_check_new_subT F ht hC (codeAny_exc_new_subT F ht hC ?_ hrest)))))
 have kp:∀b o,h.get? b=some o->((h.push { cls:=.type "tuple", data:=.seq rest.toArray }).push { cls:=.ref C,data:=.fields #[.ref h.objs.size,.none,.none,.none,.bool false,.none] }).get? b=some o:=fun b o e=>Heap.get?_push_of_some _ (Heap.get?_push_of_some _ e)
 have hget:((h.push { cls:=.type "tuple", data:=.seq rest.toArray }).push { cls:=.ref C,data:=.fields #[.ref h.objs.size,.none,.none,.none,.bool false,.none] }).get? (h.objs.size+1)=some { cls:=.ref C,data:=.fields #[.ref h.objs.size,.none,.none,.none,.bool false,.none] }:=Heap.get?_push_at (by simp) rfl
 have m:h.MadeExcOf ((h.push { cls:=.type "tuple", data:=.seq rest.toArray }).push { cls:=.ref C,data:=.fields #[.ref h.objs.size,.none,.none,.none,.bool false,.none] }) (h.objs.size+1) (.ref C) rest:=⟨kp,Heap.get?_none_of_le (Nat.le_succ _),h.objs.size,hget,Heap.get?_none_of_le (Nat.le_refl _),Heap.get?_push_of_some _ (Heap.get?_push_at rfl rfl)⟩
 have hcC:(Value.ref C::bm).contains (.ref C)=true:=by simp
 generalize hh:(h.push { cls:=.type "tuple", data:=.seq rest.toArray }).push { cls:=.ref C,data:=.fields #[.ref h.objs.size,.none,.none,.none,.bool false,.none] }=h1 at *
 refine wpAny_bind (E:=E) ?_
 unfold isInstance
 refine wpAny_bind ?_
 unfold typeOf
 refine wpAny_bind (wpAny_loadPart_at hget ?_)
 refine wpAny_pure ?_
 refine wpAny_isSubtype_exc (kp _ _ hC) ?_
 rw [hcC]
 refine wpAny_ite_false rfl ?_
 refine wpAny_bind (wpAny_holding ?_)
 unfold callSpecial?
 refine wpAny_bind ?_
 unfold specialOf
 refine wpAny_bind ?_
 unfold typeOf
 refine wpAny_bind (wpAny_loadPart_at hget ?_)
 refine wpAny_pure ?_
 have ht1:OwnTail h1 bmB bm:=ht.keeps kp
 have hn1:h1.Ns N mN:=by obtain ⟨o,es,ep,a,b⟩:=hn;exact ⟨o,es,ep,kp _ _ a,b⟩
 refine wpAny_typeLookup_tail (kp _ _ hC) hn1 ht1 F.mroIs F.init.lookup ?_
 rw [hi]
 dsimp only
 refine wpAny_holding (wpAny_bind ?_)
 unfold bindSpecial
 refine wpAny_bind (wpAny_typeOf ⟨oI,kp _ _ hfI,hfc⟩ ?_)
 rw [if_pos (by decide)]
 refine wpAny_pure (wpAny_bind (wpAny_mono (hq h1 _ (Nat.le_succ _) m) (fun r s' hr=>?_) (fun _ _ z=>z)))
 obtain ⟨rfl,hQ⟩:=hr
 refine wpAny_pure ?_
 dsimp only
 rw [if_neg (by simp)]
 exact wpAny_pure hQ
theorem sw {prog:Program} {w:World} {A:Around} {E:Value->Shared->Prop} {h:Heap} {g:Array GenState} {d:Drawn} {t:Nat} {os:OsState} {nm q:Str} {C N:Addr} {bs bm bmB:List Value} {hdct:Bool} {sn:List Str} {sub:List Value} {ab:Bool} {col:Option Bool} {dd:Option Addr} {k0 k1 k2 k3 k5:Option Value} {B newId initId:String}
  (F:ExcBaseFacts B newId initId bmB) (ht:OwnTail h bmB bm) {mN:Str->Option Value} {rest:List Value} {fI:Addr} {oI:Obj} {Q:Value->Shared->Prop} (hC:h.get? C=some (excClassObj nm q C N bs bm hdct sn sub ab col dd k0 k1 k2 k3 k5 newId)) (hn:h.Ns N mN) (hi:mN "__init__" = some (.ref fI)) (hfI:h.get? fI=some oI) (hfc:oI.cls=.type "function")
  (hq:∀h' e,h.objs.size<=e->h.MadeExcOf h' e (.ref C) rest->wpAny (model prog w) (A.under (.builtin "type.__call__" ⟨.ref C::rest,[]⟩)) (call (.ref fI) (.ref e::rest)) (fun r s'=>r=.none/\Q (.ref e) s') E ⟨h',g,d,t,os⟩) (hrest:rest.length<=sizeLine) :
  wpAny (model prog w) A (call (.ref C) rest) Q E ⟨h,g,d,t,os⟩:=by
 have f1:=tc_lookup
 have f2:=tc_bind (.ref C)
 have hT:Shared.TypeIs ⟨h,g,d,t,os⟩ (.ref C) "type" := ⟨_,hC,rfl⟩
 refine wpAny_call (codeAny_of_tree ?_)
 refine wpAny_bind (wpAny_load' hC ?_)
 refine wpAny_bind (wpAny_specialOf hT f1 ?_)
 refine wpAny_bind (wpAny_of_eq f2 ?_)
 refine wpAny_bind ?_
 refine wpAny_pure (wpAny_ite_true rfl ?_)
 refine wpAny_pure ⟨rfl,codeAny_call_builtin_at (Code.quiet_builtin ⟨.ref C::rest,[]⟩ (by decide +kernel)) entry_typeCall (wpAny_check_type_call_sub hC (kz F ht hC hn hi hfI hfc (fun h' e hl hm=>hq h' e hl hm) hrest))⟩
end L2
namespace L2
open PySem PySem.Spec PyProof.Rows
theorem rB {M:Model} {A:Around} {E:Value->Shared->Prop} {env:Env} {nm q:Str} {C N:Addr} {bs bm:List Value} {hdct:Bool} {sn:List Str} {sub:List Value} {ab:Bool} {col:Option Bool} {dd:Option Addr} {k0 k1 k2 k3 k5:Option Value} {newId:String} {s:Shared} {x:Sem Value} {Q:Flow->Shared->Prop}
  (hbase:bm.contains (.type "BaseException")=true) (hh:A.handled=none)
  (h:wpAny M A x (fun v s₁ => ∃e oe vs,v=.ref e/\s₁.heap.get? C=some (excClassObj nm q C N bs bm hdct sn sub ab col dd k0 k1 k2 k3 k5 newId)/\s₁.heap.get? e=some oe/\oe.cls=.ref C/\oe.data=.fields vs/\vs[1]?=some .none/\E (.ref e) s₁) E s):wpAny M A (raiseStmt env (some x) none) Q E s:=by
 have hcB:(Value.ref C::bm).contains (.type "BaseException")=true:=by rw [List.contains_cons,hbase,Bool.or_true]
 unfold raiseStmt
 dsimp only
 refine wpAny_bind (wpAny_mono h (fun v s1 h1=>?_) (fun _ _ z=>z))
 obtain ⟨e,oe,vs,rfl,hC,he,e2,e3,e5,hE⟩:=h1
 obtain ⟨hp,g,d,tk,os⟩:=s1
 obtain ⟨oc,od,oda,osl⟩:=oe
 simp only at e2 e3
 subst e2 e3
 refine wpAny_bind (wpAny_pure ?_)
 refine wpAny_bind (wpAny_holding ?_)
 unfold excFromValue
 refine wpAny_bind ?_
 unfold isExcClass
 refine wpAny_bind ?_
 unfold isType
 refine wpAny_bind (wpAny_loadPart_at he (wpAny_pure ?_))
 refine wpAny_ite_false rfl (wpAny_pure ?_)
 refine wpAny_ite_false rfl ?_
 refine wpAny_bind ?_
 unfold isInstance
 refine wpAny_bind ?_
 unfold typeOf
 refine wpAny_bind (wpAny_loadPart_at he (wpAny_pure ?_))
 refine wpAny_isSubtype_exc hC ?_
 rw [hcB]
 refine wpAny_ite_true rfl (wpAny_pure ?_)
 dsimp only
 refine wpAny_bind ?_
 refine wpAny_bind (wpAny_loadPart_at he (wpAny_pure ?_))
 refine wpAny_ite_false rfl ?_
 refine wpAny_bind ?_
 unfold raisedInstance
 refine wpAny_bind ?_
 unfold typeOf
 refine wpAny_bind (wpAny_loadPart_at he (wpAny_pure ?_))
 refine wpAny_bind ?_
 refine wpAny_bind (wpAny_loadPart_at hC (wpAny_pure ?_))
 refine wpAny_ite_true rfl (wpAny_pure ?_)
 refine wpAny_bind ?_
 unfold setFlight
 refine wpAny_bind (wpAny_field he rfl e5 ?_)
 refine wpAny_ite_false rfl (wpAny_pure ?_)
 exact wpAny_raiseNew_none hh hE
end L2
namespace L2
open PySem PySem.Spec PyProof.Rows
theorem zh {prog:Program} {w:World} {A:Around} {K:W.Frag} {C S x:Addr} {s:Shared} {R:Result->Shared->Prop} {ox:Obj} {od:Option Obj} {name:Str} {tk:Tok} {v:Value} {cd:ClassData} (X:K.In s.heap) (I:W.InstAt s.heap x ox C od) (hc:W.clsIn K C=some cd) (hm:cd.mro=.ref C :: .ref S::dX) (ht:W.findIn K (.ref C) name=some none)
  (h:wpAny (model prog w) A.in1 (Builtin.ObjectAttr.storeInOwnDict (.ref x) (.ref C) (.str name tk) name v false) (fun fin s'=>match fin with | .done f=>R (.ok f) s' | .again c'=>c'.quiet=true/\codeAny (model prog w) A c' R s') (fun e s'=>R (.error e) s') s) :
  codeAny (model prog w) A (.call (.builtin "object.__setattr__") ⟨[.ref x,.str name tk,v],[]⟩) R s:=by
 have SF:=F.store_object
 have mi:W.mroIn K C (.type "object")=some true:=by
  unfold W.mroIn
  rw [hc,Option.bind_some,hm,if_neg (by simp)]
  simp [dX]
 have sub:W.Looks (model prog w) s.heap (isInstance (.ref x) (.type "object")) true:=W.Looks.andThen (W.InstAt.type I) (W.looks_mroIn X mi)
 refine codeAny_call_builtin SF.slot.plain SF.entry ?_
 have ao:argsOk "object.__setattr__" ⟨[.ref x,.str name tk,v],[]⟩:=SF.args (.ref x) (.str name tk) v
 refine W.check_slot (i := "object.__setattr__") (owner := "object") (n := "__setattr__") (self:=.ref x) (rest:=[.str name tk,v]) (kw:=[]) SF.kind SF.split sub ao ?_
 have hmr:W.Looks (model prog w) s.heap (mroOf (.ref C)) cd.mro:=W.Looks.andThen (W.looks_clsIn X hc) W.Looks.now
 rw [W.osa_eq,refuse_eq]
 refine wpAny_bind (wpAny_bind (W.Looks.here (W.InstAt.type I) (wpAny_bind (W.Looks.here hmr ?_))))
 rw [hm,refuseLoop_ref,refuseLoop_ref,F.store_ValueError.passes]
 refine wpAny_pure (wpAny_bind (W.Looks.here (W.InstAt.type I) (wpAny_bind (W.Looks.here (W.looks_findIn X ht) ?_))))
 refine wpAny_bind ?_
 unfold Builtin.ObjectAttr.storeTaker?
 refine wpAny_pure ?_
 exact h
theorem zL {prog:Program} {w:World} {A:Around} {E:Value->Shared->Prop} {K:W.Frag} {C S x:Addr} {s:Shared} {ox:Obj} {vs:Array Value} {name:Str} {v:Value} {cd:ClassData} {Q:Unit->Shared->Prop} (X:K.In s.heap) (e1:s.heap.get? x=some ox) (e2:ox.cls=.ref C) (e3:ox.data=.fields vs) (e6:ox.dict=none) (hc:W.clsIn K C=some cd) (hm:cd.mro=.ref C :: .ref S::dX) (hd:cd.hasDict=true)
  (hs:W.findIn K (.ref C) "__setattr__" = some (some (.builtin "object.__setattr__"))) (ht:W.findIn K (.ref C) name=some none)
  (h:∀h' dx,s.heap.objs.size<=dx->(∀b o,b≠x->s.heap.get? b=some o->h'.get? b=some o)->h'.get? x=some { ox with dict:=some dx }->(h'.Ns1 dx fun y=>if y=name then some v else none)->Q () { s with heap:=h',toks:=s.toks+2 }) :
  wpAny (model prog w) A (setAttr (.ref x) name v) Q E s:=by
 obtain ⟨oc,odd,oda,osl⟩:=ox
 simp only at e2 e3 e6
 subst e2 e3 e6
 have J:W.InstAt s.heap x ⟨.ref C,none,.fields vs,osl⟩ C none:=⟨e1,rfl,rfl,True.intro⟩
 refine W.set_plain X J hs (zh (s:={ s with toks:=s.toks+1 }) X J hc hm ht ?_)
 unfold Builtin.ObjectAttr.storeInOwnDict
 refine wpAny_bind (wpAny_pure ?_)
 refine wpAny_ite_false rfl ?_
 refine wpAny_bind ?_
 unfold Builtin.ObjectAttr.ownDictForStores
 unfold instanceDict
 refine wpAny_bind (wpAny_loadPart_at e1 ?_)
 refine wpAny_bind (W.Looks.here (s:={ s with toks:=s.toks+1 }) (W.looks_clsIn X hc) ?_)
 rw [hd]
 refine wpAny_ite_false rfl ?_
 refine wpAny_ite_false rfl ?_
 dsimp only
 have e2:=Heap.get?_push_of_some { cls:=.type "dict", data:=.dict #[] } e1
 refine wpAny_bind (wpAny_alloc (wpAny_bind (wpAny_update e2 ?_)))
 unfold dictMade
 refine wpAny_pure ?_
 dsimp only
 have nx:s.heap.objs.size≠x:=Nat.ne_of_gt (Heap.lt_size e1)
 have e3:((s.heap.push { cls:=.type "dict", data:=.dict #[] }).update x fun o => { o with dict:=some s.heap.objs.size }).get? x=some ⟨.ref C,some s.heap.objs.size,.fields vs,osl⟩:=Heap.get?_update_self _ e2 rfl
 have e4:((s.heap.push { cls:=.type "dict", data:=.dict #[] }).update x fun o => { o with dict:=some s.heap.objs.size }).get? s.heap.objs.size=some { cls:=.type "dict", data:=.dict #[] }:=(Heap.get?_update_other _ _ (Ne.symm nx)).trans (Heap.get?_push_size _ rfl)
 have n1:((s.heap.push { cls:=.type "dict", data:=.dict #[] }).update x fun o => { o with dict:=some s.heap.objs.size }).Ns1 s.heap.objs.size (fun _=>none):=⟨_,#[],_,e4,rfl,fun e he=>absurd he (by simp),by simp [UniqKeys],fun _=>rfl⟩
 unfold Builtin.ObjectAttr.storeInDict
 refine wpAny_bind (wpAny_pure ?_)
 refine wpAny_bind (wpAny_nsSet1 n1 fun h' hn2 hs2=>?_)
 obtain ⟨oD,esD,epD,hoD,hdD,hcD⟩:=hn2.count (PySem.Within.cons (ns:=[]) name v (fun y hy=>absurd rfl hy))
 refine wpAny_bind (wpAny_lookBehind hoD (by rw [hdD];exact pastItsLine_dict (Nat.le_trans hcD (by rw [sizeLine_eq];exact Nat.le_of_ble_eq_true rfl))) ?_)
 refine wpAny_pure (h h' s.heap.objs.size ?_ (fun b o hb eb=>?_) ?_ hn2)
 ·exact Nat.le_refl _
 ·refine (hs2.2 b (Nat.ne_of_lt (Heap.lt_size eb))).trans ?_
  rw [Heap.get?_update_other _ _ (Ne.symm hb)]
  exact Heap.get?_push_of_some _ eb
 ·exact (hs2.2 x (Ne.symm nx)).trans e3
end L2
namespace L2
open PySem PySem.Spec PyProof.Rows
theorem sC {prog:Program} {w:World} {A:Around} {E:Value->Shared->Prop} {s:Shared} {e t0:Addr} {ob:Obj} {vs:Array Value} {v:Value} {Q:PySem.Fin->Shared->Prop} (he:s.heap.get? e=some ob) (hd:ob.data=.fields vs) (h0:vs[0]?=some (.ref t0))
  (h:Q (.done (.ret .none)) ⟨(s.heap.push { cls:=.type "tuple", data:=.seq #[v] }).update e (Obj.mapFields fun x=>x.setIfInBounds 0 (.ref s.heap.objs.size)),s.gens,s.drawn,s.toks,s.os⟩) :
  wpAny (model prog w) A (Builtin.«BaseException.__init__» { pos:=[.ref e,v] }) Q E s:=by
 unfold Builtin.«BaseException.__init__»
 dsimp only
 rw [if_neg (by simp)]
 have hsz:=(Array.getElem?_eq_some_iff.mp h0).1
 have he1:=Heap.get?_push_of_some { cls:=Value.type "tuple", data:=Data.seq #[v] } he
 refine wpAny_bind (wpAny_newTuple ?_)
 unfold Builtin.BaseException.bexcPut
 refine wpAny_bind (wpAny_bind (wpAny_field he1 hd h0 ?_))
 exact wpAny_bind (wpAny_setField he1 hd hsz (wpAny_letGo (wpAny_pure h)))
theorem sx {prog:Program} {w:World} {A:Around} {E:Value->Shared->Prop} {s:Shared} {nm q:Str} {C N:Addr} {bs bm bmB:List Value} {hdct:Bool} {sn:List Str} {sub:List Value} {ab:Bool} {col:Option Bool} {dd:Option Addr} {k0 k1 k2 k3 k5:Option Value} {B newId initId:String}
  (F:ExcBaseFacts B newId initId bmB) (ht:OwnTail s.heap bmB bm) {e t0:Addr} {oe:Obj} {vs:Array Value} {v:Value} {Q:Value->Shared->Prop} (hq:(Code.builtin initId { pos:=[.ref e,v] }).quiet=true) (hC:s.heap.get? C=some (excClassObj nm q C N bs bm hdct sn sub ab col dd k0 k1 k2 k3 k5 newId)) (he:s.heap.get? e=some oe) (hc:oe.cls=.ref C) (hd:oe.data=.fields vs) (h0:vs[0]?=some (.ref t0))
  (h:∀h',(∀b o,b≠e->s.heap.get? b=some o->h'.get? b=some o)->h'.get? e=some { oe with data:=.fields (vs.setIfInBounds 0 (.ref s.heap.objs.size)) }->Q .none { s with heap:=h' }) :
  wpAny (model prog w) A (call (.builtin initId) [.ref e,v]) Q E s:=by
 obtain ⟨oc,odd,oda,osl⟩:=oe
 simp only at hc hd
 subst hc hd
 refine wpAny_call (codeAny_call_builtin_at hq F.initEntry (wpAny_check_init_subT F ht hC he rfl (sC he rfl h0 ?_)))
 dsimp only
 refine h _ (fun b o hb eb=>?_) ?_
 ·rw [Heap.get?_update_other _ _ hb.symm];exact Heap.get?_push_of_some _ eb
 ·have e1:=Heap.get?_push_of_some { cls:=Value.type "tuple", data:=Data.seq #[v] } he
  exact Heap.get?_update_self _ e1 rfl
end L2
namespace L2
open PySem PySem.Spec PyProof.Rows
theorem zM {prog:Program} {w:World} {A:Around} {E:Value->Shared->Prop} {s:Shared} {K:W.Frag} {x D N dx:Addr} {name:Str} {v:Value} {b:Bool} {mA:Str->Option Value} {vs:Array Value} {Q:Value->Shared->Prop} {nm q:Str} {bs bm:List Value} {hdct:Bool} {sn:List Str} {sub:List Value} {ab:Bool} {col:Option Bool} {dd:Option Addr} {k0 k1 k2 k3 k5:Option Value} {newId:String}
  (hga:W.findIn K (.ref D) "__getattribute__" = some (some (.builtin "BaseException.__getattribute__"))) (hgt:W.findIn K (.ref D) "__getattr__" = some none) (hf:W.findIn K (.ref D) name=some none) (hdi:W.hasDictIn K D=true)
  (KI:K.In s.heap) {ox:Obj} (e1:s.heap.get? x=some ox) (e2:ox.cls=.ref D) (e3:ox.data=.fields vs) (e4:ox.dict=some dx) (hn:s.heap.Ns1 dx mA) (hv:mA name=some v) (hh:W.handedIn v=true) (hD:s.heap.get? D=some (excClassObj nm q D N bs bm hdct sn sub ab col dd k0 k1 k2 k3 k5 newId)) (hT:OwnTailQ s.heap dX bm)
  (hq:Q v { s with toks:=s.toks+1 }):wpAny (model prog w) A (getAttr (.ref x) name b) Q E s:=by
 obtain ⟨h,g,d,tk,os⟩:=s
 have ty:=gR e1 e2
 obtain ⟨od,ho,hl⟩:=mE hn
 have J:W.InstAt h x ox D (some od):=⟨e1,e2,by unfold W.notCls;rw [e3],by rw [e4];exact ho⟩
 have lf:∀M,W.Looks M h (Builtin.ObjectAttr.find (.ref x) (.ref D) name) (.value v):=fun M=>W.looks_find KI J (W.findObj_own hdi hf rfl (by rw [hl,hv]))
 unfold getAttr
 refine wpAny_bind (wpAny_mkText ?_)
 unfold getAttrBy
 refine wpAny_holding (wpAny_bind (W.Looks.at (ty _) ?_))
 refine wpAny_bind (W.Looks.at (W.looks_findIn KI hga) ?_)
 dsimp only
 have e9:(onTheHeap (Value.ref D)&&Value.builtin "BaseException.__getattribute__" == Value.builtin "object.__getattribute__")=false:=by
  have e0:(Value.builtin "BaseException.__getattribute__" == Value.builtin "object.__getattribute__")=false:=by decide +kernel
  rw [e0,Bool.and_false]
 rw [e9]
 rw [if_neg (by simp)]
 unfold getAttrByItsOwn
 refine wpAny_bind (W.Looks.at (W.looks_hook KI (r:=none) (by show (if true=true then W.findIn K (.ref D) "__getattr__" else some none)=some none;rw [if_pos rfl];exact hgt)) ?_)
 refine wpAny_bind (wpAny_attempt (wpAny_holding ?_))
 unfold callGetattribute
 rw [if_neg (by rw [show onTheHeap (Value.builtin "BaseException.__getattribute__")=false from rfl];simp)]
 unfold boundAndCalled
 rw [(PySem.F.attrBase_ValueError.toExcAttrFacts.ga).bind]
 refine wpAny_bind (wpAny_pure ?_)
 refine wpAny_call (codeAny_call_builtin (PySem.F.attrBase_ValueError.toExcAttrFacts.ga).plain PySem.F.entry_bexc_ga ?_)
 refine wpAny_check_ga_own PySem.F.attrBase_ValueError hD hT e1 e2 ?_
 show wpAny _ _ (Builtin.«object.__getattribute__» ⟨[Value.ref x,Value.str name tk],[]⟩) _ _ _
 unfold Builtin.«object.__getattribute__»
 refine wpAny_bind ?_
 unfold slotArgs
 dsimp only
 rw [if_neg (by simp),if_neg (by simp)]
 refine wpAny_pure ?_
 dsimp only
 refine wpAny_bind ?_
 unfold Builtin.ObjectAttr.attrName
 refine wpAny_pure ?_
 refine wpAny_bind (W.Looks.at (ty _) ?_)
 refine wpAny_bind (W.Looks.at (lf _) ?_)
 dsimp only
 refine wpAny_pure ?_
 exact W.handed_on hh hq
end L2
namespace Sp
open PySem PySem.Spec PyProof.Rows L2
structure yh (K:W.Frag) (n:Str) (C:Addr):Prop where
 cl:((W.clsIn K C).isSome&&W.typeIn K (.ref C)==some (.type "type"))=true
 sole:∀m,W.nsIn K mainGlobals m=some (some (.ref C))->m=n
 obj:∃o,K.lookup C=some o/\o.cls=.type "type"
abbrev Xs:=Str×Str×List (Str×Int)
def qH (H:Hp) (od:Option Addr) (fs:List (Str×Int)):Prop:=∀f i,fs=[(f,i)]->∃dx,od=some dx/\H dx=some (.xd [(f,.int i)])
theorem qH.nil {H:Hp} {od:Option Addr}:qH H od []:=fun _ _ z=>by cases z
structure pE (K:W.Frag) (C:Addr) (f:Str):Prop where
 no:W.findIn K (.ref C) f=some none
 di:W.hasDictIn K C=true
def ia (K:W.Frag) (H:Hp) (n:Str):Option (Str×List (Str×Int))->V->Prop
 | none,v => ∃C,v=.ref C/\W.nsIn K mainGlobals n=some (some (.ref C))/\yh K n C
 | some (p,fs),v => ∃x C S od,v=.ref x/\W.nsIn K mainGlobals n=some (some (.ref C))/\W.nsIn K mainGlobals p=some (some (.ref S))/\fc K C S/\H x=some (io x C od)/\qH H od fs/\∀f i,fs=[(f,i)]->pE K C f
theorem ia.mono {K:W.Frag} {H H':Hp} {n:Str} (k:∀a C od,H a=some (io a C od)->H' a=some (io a C od)) (kd:∀a fs,H a=some (.xd fs)->H' a=some (.xd fs)):∀{p:Option (Str×List (Str×Int))} {v:V},ia K H n p v->ia K H' n p v
 | none,_,h=>h
 | some (p,fs),_,⟨x,C,S,od,e,h1,h2,h3,h4,h5,h6⟩=>⟨x,C,S,od,e,h1,h2,h3,k _ _ _ h4,fun f i z=>let ⟨dx,a,b⟩:=h5 f i z;⟨dx,a,kd _ _ b⟩,h6⟩
theorem ia.ref {K:W.Frag} {H:Hp} {n:Str}:∀{p:Option (Str×List (Str×Int))} {v:V},ia K H n p v->∃a,v=.ref a
 | none,_,⟨C,e,_⟩=>⟨C,e⟩
 | some (p,fs),_,⟨x,_,_,_,e,_⟩=>⟨x,e⟩
theorem ia.at {K:W.Frag} {H:Hp} {n:Str}:∀{p:Option (Str×List (Str×Int))} {a:Addr},ia K H n p (.ref a)->(∃o,K.lookup a=some o/\o.cls=.type "type")\/∃C od,H a=some (io a C od)
 | none,_,⟨C,e,_,h⟩=>by cases e;exact .inl h.obj
 | some (p,fs),_,⟨x,C,_,od,e,_,_,_,h,_⟩=>by cases e;exact .inr ⟨C,od,h⟩
theorem oy {K:W.Frag} {C S:Addr} (e:gZ K C S=true):∃cd,W.clsIn K C=some cd/\cd.mro=.ref C :: .ref S::dX:=by
 unfold gZ at e
 split at e
 ·rename_i t d1 cd sl c2 d2 ce sl2 e1 e2
  simp only [Bool.and_eq_true] at e
  obtain ⟨⟨⟨⟨⟨q1,q2⟩,q3⟩,q4⟩,q5⟩,q6⟩:=e
  exact ⟨cd,by unfold W.clsIn;rw [e1],by simpa using q3⟩
 ·cases e
theorem uB {K:W.Frag} {C S Cm:Addr} {n p m:Str} (e:fc K C S) (hn:W.nsIn K mainGlobals n=some (some (.ref C))) (hp:W.nsIn K mainGlobals p=some (some (.ref S))) (hm:W.nsIn K mainGlobals m=some (some (.ref Cm))) (x:yh K m Cm) :
  W.kitOne K (.ref C) (.ref Cm)=some (decide (m=n) || decide (m=p)):=by
 obtain ⟨cd,h1,h2⟩:=oy e.ex
 have a1:(Value.ref Cm==Value.ref C)=decide (m=n):=by
  by_cases z:m=n
  ·subst z;rw [hm] at hn;cases hn;simp
  ·rw [decide_eq_false z]
   refine beq_eq_false_iff_ne.mpr fun y=>z ?_
   injection y with y
   subst y
   exact (x.sole n hn).symm
 have a2:(Value.ref Cm==Value.ref S)=decide (m=p):=by
  by_cases z:m=p
  ·subst z;rw [hm] at hp;cases hp;simp
  ·rw [decide_eq_false z]
   refine beq_eq_false_iff_ne.mpr fun y=>z ?_
   injection y with y
   subst y
   exact (x.sole p hp).symm
 unfold W.kitOne
 have a3:(Value.ref C==Value.ref Cm)=decide (m=n):=by
  by_cases z:m=n
  ·subst z;rw [hm] at hn;cases hn;simp
  ·rw [decide_eq_false z]
   refine beq_eq_false_iff_ne.mpr fun y=>z ?_
   injection y with y
   subst y
   exact (x.sole n hn).symm
 rw [a3]
 by_cases z:m=n
 ·rw [if_pos (decide_eq_true z),decide_eq_true z];rfl
 ·rw [decide_eq_false z,if_neg (by simp),Bool.false_or]
  unfold W.kitCls
  dsimp only
  rw [if_pos x.cl]
  unfold W.subIn W.mroIn
  dsimp only
  rw [h1,Option.bind_some,h2,if_neg (by simp)]
  rw [List.contains_cons,List.contains_cons,a1,a2,decide_eq_false z,Bool.false_or,show dX.contains (Value.ref Cm)=false by simp [dX],Bool.or_false]
theorem B6 {K:W.Frag} {C S:Addr} (e:fc K C S):W.kitOne K (.ref C) (.type "ValueError")=some true:=by
 obtain ⟨cd,h1,h2⟩:=oy e.ex
 unfold W.kitOne
 rw [if_neg (by simp)]
 unfold W.kitCls
 dsimp only
 rw [if_pos (by decide +kernel)]
 unfold W.subIn W.mroIn
 dsimp only
 rw [h1,Option.bind_some,h2,if_neg (by simp)]
 simp [dX]
end Sp
namespace L2
open PySem PySem.Spec PyProof.Rows
section
variable {κ:Type} [DecidableEq κ]
def jO (kvs:List (κ×V)) (k:κ):Option V:=(kvs.find? fun kv=>decide (kv.1=k)).map (·.2)
def vX (kvs:List (κ×V)) (k:κ) (v:V):List (κ×V) :=
 if (kvs.any fun kv=>decide (kv.1=k))=true then kvs.map (fun kv=>if kv.1=k then (kv.1,v) else kv) else kvs++[(k,v)]
def x6 (kvs:List (κ×V)) (k:κ):List (κ×V):=kvs.filter fun kv=>decide (kv.1≠k)
theorem vF {p:κ×V} {r:List (κ×V)} {k:κ} (e:p.1=k):jO (p::r) k=some p.2:=by simp [jO,List.find?_cons,e]
theorem vG {p:κ×V} {r:List (κ×V)} {k:κ} (e:¬ p.1=k):jO (p::r) k=jO r k:=by simp [jO,List.find?_cons,e]
theorem gw.getD {o:Option V} {u:Option Value} {d:V} {d':Value} (r:gw o u) (rd:aM d d'):aM (o.getD d) (u.getD d'):=by
 cases o with
 | none=>cases u with
  | none=>exact rd
  | some _=>exact (show False from r).elim
 | some _=>cases u with
  | none=>exact (show False from r).elim
  | some _=>exact r
theorem KV.val {kvs:List (κ×V)} {vs:List (κ×Value)} (r:KV kvs vs) (k:κ):gw (jO kvs k) (valueAt vs k):=by
 unfold KV at r
 induction r with
 | nil=>exact True.intro
 | @cons p q ps qs h t ih =>
  obtain ⟨h1,h2⟩:=h
  by_cases e:p.1=k
  ·have e':q.1=k:=h1.symm.trans e
   have b:valueAt (q::qs) k=some q.2:=by simp [valueAt,List.find?_cons,e']
   rw [vF e,b];exact h2
  ·have e':¬ q.1=k:=fun z=>e (h1.trans z)
   have b:valueAt (q::qs) k=valueAt qs k:=by simp [valueAt,List.find?_cons,e']
   rw [vG e,b];exact ih
theorem KV.any {kvs:List (κ×V)} {vs:List (κ×Value)} (r:KV kvs vs) (k:κ):(kvs.any fun kv=>decide (kv.1=k))=vs.any fun kv=>decide (kv.1=k):=by
 unfold KV at r
 induction r with
 | nil=>rfl
 | cons h t ih=>rw [List.any_cons,List.any_cons,ih,h.1]
theorem KV.repl {kvs:List (κ×V)} {vs:List (κ×Value)} (r:KV kvs vs) (k:κ) {y:V} {u:Value} (ry:aM y u) :
  KV (kvs.map fun kv=>if kv.1=k then (kv.1,y) else kv) (vs.map fun kv=>if kv.1=k then (kv.1,u) else kv):=by
 unfold KV at r ⊢
 induction r with
 | nil=>exact .nil
 | @cons p q ps qs h t ih =>
  rw [List.map_cons,List.map_cons]
  refine .cons ?_ ih
  obtain ⟨h1,h2⟩:=h
  by_cases e:p.1=k
  ·rw [if_pos e,if_pos (h1.symm.trans e)];exact ⟨h1,ry⟩
  ·rw [if_neg e,if_neg (fun z=>e (h1.trans z))];exact ⟨h1,h2⟩
theorem KV.put {kvs:List (κ×V)} {vs:List (κ×Value)} (r:KV kvs vs) (k:κ) {y:V} {u:Value} (ry:aM y u):KV (vX kvs k y) (stored vs k u):=by
 unfold vX stored
 rw [r.any k]
 by_cases e:(vs.any fun kv=>decide (kv.1=k))=true
 ·rw [if_pos e,if_pos e];exact r.repl k ry
 ·rw [if_neg e,if_neg e];exact Paired.snoc r ⟨rfl,ry⟩
theorem KV.drop {kvs:List (κ×V)} {vs:List (κ×Value)} (r:KV kvs vs) (k:κ):KV (x6 kvs k) (without vs k):=by
 unfold KV at r ⊢
 unfold x6 without
 induction r with
 | nil=>exact .nil
 | @cons p q ps qs h t ih =>
  obtain ⟨h1,h2⟩:=h
  rw [List.filter_cons,List.filter_cons]
  by_cases e:p.1=k
  ·have a:¬ decide (p.1≠k)=true:=by simp [e]
   have b:¬ decide (q.1≠k)=true:=by simp [h1.symm.trans e]
   rw [if_neg a,if_neg b];exact ih
  ·have e':¬ q.1=k:=fun z=>e (h1.trans z)
   have a:decide (p.1≠k)=true:=by simp [e]
   have b:decide (q.1≠k)=true:=by simp [e']
   rw [if_pos a,if_pos b];exact .cons ⟨h1,h2⟩ ih
theorem KV.length {kvs:List (κ×V)} {vs:List (κ×Value)} (r:KV kvs vs):kvs.length=vs.length:=Paired.length r
end
end L2
namespace Sp
open PySem PySem.Spec PyProof.Rows L2
inductive D where
 | non|bl (b:Bool) | int (i:Int) | str (x:Str) | dct (ks:List cH) (ds:List D) | tup (l:List D) | lst (l:List D) | typ (n:String) | sn (n:Nat) | obj (n:Str) (ns:List Str) (ds:List D) | cls (n:Str) | xc (n:Str) (p:Option (Str×List (Str×Int)))
mutual
def D.lless:D->Bool
 | .lst _=>false
 | .dct _ _=>false
 | .tup l=>ax l
 | _=>true
def ax:List D->Bool
 | []=>true
 | d::l=>d.lless&&ax l
end
def m4 (K:W.Frag) (H:Hp) (a:Addr) (vs:List V):Bool->Prop
 | true=>H a=some (.lst vs)
 | false=>(∃o,H a=some (.frz o (.lst vs)))\/∃(o:Obj) (its:Array Value) (n:Nat),K.lookup a=some o/\o.cls=.type "list" /\ o.dict=none/\o.data=.seq its n/\its.size<=sizeLine/\aH vs its.toList
theorem m4.sq {K:W.Frag} {H:Hp} {a:Addr} {vs:List V}:∀{b:Bool},m4 K H a vs b->bR K H a vs
 | true,h=>bR.of h
 | false,.inl ⟨o,h⟩=>.inl (.inr ⟨o,h⟩)
 | false,.inr h=>.inr h
structure nB (K:W.Frag) (C:Addr):Prop where
 ha:W.findIn K (.ref C) "__class__" = some (some (.builtin "object.__class__"))
 hn:W.specialIn K (.builtin "object.__class__") "__get__" = some (some (.builtin "getset_descriptor.__get__"))
 ht:W.takesIn K (.builtin "object.__class__")=some true
 hm:W.mroIn K C (.type "object")=some true
def C7:List Str:=["Deed", "Turn", "HalfTurn", "Mirror"]
def nN (m n:Str):Bool:=decide (m=n) || (decide (n = "Deed")&&(decide (m = "Turn") || decide (m = "HalfTurn") || decide (m = "Mirror")))
structure Fk (K:W.Frag) (C:Addr) (n:Str):Prop where
 all:∀m∈C7,∀Cm,W.nsIn K mainGlobals m=some (some (.ref Cm))->nB K Cm/\W.kitOne K (.ref Cm) (.ref C)=some (nN m n)
abbrev aZ:=Addr->Bool->Prop
mutual
def af (K:W.Frag) (H:Hp) (P:aZ):D->V->Prop
 | .non,v=>v=.non
 | .bl b,v=>v=.bl b
 | .int i,v=>v=.int i
 | .str x,v=>v=.str x
 | .dct ks ds,v=>ax ds=true/\ks.length=ds.length/\∃a vs,v=.ref a/\H a=some (.dK (ks.zip vs))/\P a true/\ag K H P ds vs
 | .typ n,v=>v=.ty n
 | .sn n,v => ∃a S,v=.ref a/\H a=some (.set S n)
 | .xc n p,v=>ia K H n p v
 | .cls n,v => ∃C o,v=.ref C/\W.nsIn K mainGlobals n=some (some (.ref C))/\K.lookup C=some o/\o.cls=.type "type" /\ nB K C/\Fk K C n
 | .obj n ns ds,v=>ax ds=true/\ns.length=ds.length/\∃a C dx vs,v=.ref a/\W.nsIn K mainGlobals n=some (some (.ref C))/\fV K C/\H a=some (.ins C dx (ns.zip vs))/\ag K H P ds vs
 | .tup l,v => ∃a vs,v=.ref a/\cj K H a vs/\ag K H P l vs
 | .lst l,v => ∃a vs b,v=.ref a/\m4 K H a vs b/\P a b/\ag K H P l vs
def ag (K:W.Frag) (H:Hp) (P:aZ):List D->List V->Prop
 | [],vs=>vs=[]
 | d::l,vs => ∃v r,vs=v::r/\af K H P d v/\ag K H P l r
end
def nm:HO->Prop
 | .lst _=>False
 | .dK _=>False
 | _=>True
structure c8 (P P':aZ) (H H':Hp):Prop where
 oth:∀a o,H a=some o->nm o->H' a=some o
 lst:∀a o,H a=some o->P a true->H' a=some o
 impT:∀a o,H a=some o->P a true->P' a true
 impF:∀a,P a false->P' a false
theorem c8.sq {P P':aZ} {H H':Hp} {K:W.Frag} (s:c8 P P' H H') {a:Addr} {vs:List V} (h:cj K H a vs):cj K H' a vs:=by
 rcases h with (h | ⟨o,h⟩) | h
 ·exact .inl (.inl (s.oth _ _ h True.intro))
 ·exact .inl (.inr ⟨o,s.oth _ _ h True.intro⟩)
 ·exact .inr h
theorem c8.ls {P P':aZ} {H H':Hp} {K:W.Frag} (s:c8 P P' H H') {a:Addr} {vs:List V}:∀{b:Bool},m4 K H a vs b->P a b->m4 K H' a vs b
 | true,h,p=>s.lst a _ h p
 | false,.inl ⟨o,h⟩,_=>.inl ⟨o,s.oth _ _ h True.intro⟩
 | false,.inr h,_=>.inr h
theorem c8.imp {P P':aZ} {H H':Hp} {K:W.Frag} (s:c8 P P' H H') {a:Addr} {vs:List V}:∀{b:Bool},m4 K H a vs b->P a b->P' a b
 | true,h,p=>s.impT a _ h p
 | false,_,p=>s.impF a p
mutual
theorem af.mono {K:W.Frag} {P P':aZ} {H H':Hp} (s:c8 P P' H H'):∀{d:D} {v:V},af K H P d v->af K H' P' d v
 | .non,v,h=>by rw [af] at h ⊢;exact h
 | .bl b,v,h=>by rw [af] at h ⊢;exact h
 | .int i,v,h=>by rw [af] at h ⊢;exact h
 | .str x,v,h=>by rw [af] at h ⊢;exact h
 | .dct ks ds,v,h=>by
  rw [af] at h ⊢
  obtain ⟨f,e0,a,vs,e,h1,p,r⟩:=h
  exact ⟨f,e0,a,vs,e,s.lst _ _ h1 p,s.impT _ _ h1 p,ag.mono s r⟩
 | .typ n,v,h=>by rw [af] at h ⊢;exact h
 | .sn n,v,h=>by
  rw [af] at h ⊢
  obtain ⟨a,S,e,h⟩:=h
  exact ⟨a,S,e,s.oth _ _ h True.intro⟩
 | .cls n,v,h=>by rw [af] at h ⊢;exact h
 | .xc n p,v,h=>by rw [af] at h ⊢;exact h.mono (fun a C od z=>s.oth _ _ z True.intro) (fun a fs z=>s.oth _ _ z True.intro)
 | .obj n ns ds,v,h=>by
  rw [af] at h ⊢
  obtain ⟨f,e0,a,C,dx,vs,e,h1,h2,h3,r⟩:=h
  exact ⟨f,e0,a,C,dx,vs,e,h1,h2,s.oth _ _ h3 True.intro,ag.mono s r⟩
 | .tup l,v,h=>by
  rw [af] at h ⊢
  obtain ⟨a,vs,e,h,r⟩:=h
  exact ⟨a,vs,e,s.sq h,ag.mono s r⟩
 | .lst l,v,h=>by
  rw [af] at h ⊢
  obtain ⟨a,vs,b,e,h,p,r⟩:=h
  exact ⟨a,vs,b,e,s.ls h p,s.imp h p,ag.mono s r⟩
theorem ag.mono {K:W.Frag} {P P':aZ} {H H':Hp} (s:c8 P P' H H'):∀{l:List D} {vs:List V},ag K H P l vs->ag K H' P' l vs
 | [],vs,h=>by rw [ag] at h ⊢;exact h
 | d::l,vs,h=>by
  rw [ag] at h ⊢
  obtain ⟨v,r,e,h1,h2⟩:=h
  exact ⟨v,r,e,af.mono s h1,ag.mono s h2⟩
end
theorem c8.same {P P':aZ} {H H':Hp} (s:av H H') (i:∀a b,P a b->P' a b):c8 P P' H H':=⟨fun a o h _=>s a o h,fun a vs h _=>s a _ h,fun a _ _ p=>i a true p,fun a p=>i a false p⟩
theorem af.same {K:W.Frag} {P:aZ} {H H':Hp} (s:av H H') {d:D} {v:V} (h:af K H P d v):af K H' P d v:=h.mono (.same s fun _ _ p=>p)
theorem ag.same {K:W.Frag} {P:aZ} {H H':Hp} (s:av H H') {d:List D} {v:List V} (h:ag K H P d v):ag K H' P d v:=h.mono (.same s fun _ _ p=>p)
theorem af.imp {K:W.Frag} {P P':aZ} {H:Hp} (i:∀a b,P a b->P' a b) {d:D} {v:V} (h:af K H P d v):af K H P' d v:=h.mono (.same (av.refl _) i)
theorem ag.imp {K:W.Frag} {P P':aZ} {H:Hp} (i:∀a b,P a b->P' a b) {d:List D} {v:List V} (h:ag K H P d v):ag K H P' d v:=h.mono (.same (av.refl _) i)
theorem af.impH {K:W.Frag} {P P':aZ} {H:Hp} (i:∀a o,H a=some o->P a true->P' a true) (j:∀a,P a false->P' a false) {d:D} {v:V} (h:af K H P d v):af K H P' d v:=h.mono ⟨fun _ _ h _=>h,fun _ _ h _=>h,i,j⟩
theorem ag.impH {K:W.Frag} {P P':aZ} {H:Hp} (i:∀a o,H a=some o->P a true->P' a true) (j:∀a,P a false->P' a false) {d:List D} {v:List V} (h:ag K H P d v):ag K H P' d v:=h.mono ⟨fun _ _ h _=>h,fun _ _ h _=>h,i,j⟩
mutual
theorem af.flat {K:W.Frag} {P:aZ} (P':aZ) {H:Hp}:∀{d:D} {v:V},d.lless=true->af K H P d v->af K H P' d v
 | .non,v,_,h=>by rw [af] at h ⊢;exact h
 | .bl b,v,_,h=>by rw [af] at h ⊢;exact h
 | .int i,v,_,h=>by rw [af] at h ⊢;exact h
 | .str x,v,_,h=>by rw [af] at h ⊢;exact h
 | .dct _ _,v,f,h=>by rw [D.lless] at f;cases f
 | .typ n,v,_,h=>by rw [af] at h ⊢;exact h
 | .sn n,v,_,h=>by rw [af] at h ⊢;exact h
 | .cls n,v,_,h=>by rw [af] at h ⊢;exact h
 | .xc n p,v,_,h=>by rw [af] at h ⊢;exact h
 | .obj n ns ds,v,_,h=>by
  rw [af] at h ⊢
  obtain ⟨f,e0,a,C,dx,vs,e,h1,h2,h3,r⟩:=h
  exact ⟨f,e0,a,C,dx,vs,e,h1,h2,h3,ag.flat P' f r⟩
 | .tup l,v,f,h=>by
  rw [af] at h ⊢
  obtain ⟨a,vs,e,h,r⟩:=h
  exact ⟨a,vs,e,h,ag.flat P' (by rw [D.lless] at f;exact f) r⟩
 | .lst l,v,f,h=>by rw [D.lless] at f;cases f
theorem ag.flat {K:W.Frag} {P:aZ} (P':aZ) {H:Hp}:∀{l:List D} {vs:List V},ax l=true->ag K H P l vs->ag K H P' l vs
 | [],vs,_,h=>by rw [ag] at h ⊢;exact h
 | d::l,vs,f,h=>by
  rw [ag] at h ⊢
  rw [ax,Bool.and_eq_true] at f
  obtain ⟨v,r,e,h1,h2⟩:=h
  exact ⟨v,r,e,af.flat P' f.1 h1,ag.flat P' f.2 h2⟩
end
theorem ag.length {K:W.Frag} {P:aZ} {H:Hp}:∀{l:List D} {vs:List V},ag K H P l vs->l.length=vs.length
 | [],vs,h=>by rw [ag] at h;subst h;rfl
 | d::l,vs,h=>by
  rw [ag] at h
  obtain ⟨v,r,e,h1,h2⟩:=h
  subst e
  rw [List.length_cons,List.length_cons,h2.length]
theorem ag.get {K:W.Frag} {P:aZ} {H:Hp}:∀{l:List D} {vs:List V} {i:Nat} {d:D},ag K H P l vs->l[i]?=some d->∃v,vs[i]?=some v/\af K H P d v
 | [],vs,i,d,h,e=>by simp at e
 | x::l,vs,0,d,h,e=>by
  rw [ag] at h
  obtain ⟨v,r,rfl,h1,h2⟩:=h
  simp at e;subst e
  exact ⟨v,by simp,h1⟩
 | x::l,vs,i+1,d,h,e=>by
  rw [ag] at h
  obtain ⟨v,r,rfl,h1,h2⟩:=h
  obtain ⟨u,h3,h4⟩:=ag.get (i:=i) h2 (by simpa using e)
  exact ⟨u,by simpa using h3,h4⟩
theorem ag.append {K:W.Frag} {P:aZ} {H:Hp}:∀{l m:List D} {vs ws:List V},ag K H P l vs->ag K H P m ws->ag K H P (l++m) (vs++ws)
 | [],m,vs,ws,h,g=>by rw [ag] at h;subst h;exact g
 | d::l,m,vs,ws,h,g=>by
  rw [ag] at h
  obtain ⟨v,r,rfl,h1,h2⟩:=h
  show ag K H P (d::(l++m)) (v::(r++ws))
  rw [ag]
  exact ⟨v,_,rfl,h1,ag.append h2 g⟩
theorem ag.one {K:W.Frag} {P:aZ} {H:Hp} {d:D} {v:V} (h:af K H P d v):ag K H P [d] [v]:=by
 rw [ag];exact ⟨v,[],rfl,h,by rw [ag]⟩
theorem ag.nil {K:W.Frag} {P:aZ} {H:Hp}:ag K H P [] []:=by rw [ag]
theorem ag.cons {K:W.Frag} {P:aZ} {H:Hp} {d:D} {v:V} {l:List D} {vs:List V} (h:af K H P d v) (g:ag K H P l vs):ag K H P (d::l) (v::vs):=by
 rw [ag];exact ⟨v,vs,rfl,h,g⟩
theorem ag.take {K:W.Frag} {P:aZ} {H:Hp}:∀{l:List D} {vs:List V} (n:Nat),ag K H P l vs->ag K H P (l.take n) (vs.take n)
 | [],vs,n,h=>by rw [ag] at h;subst h;simp;exact ag.nil
 | d::l,vs,0,h=>by simp;exact ag.nil
 | d::l,vs,n+1,h=>by
  rw [ag] at h
  obtain ⟨v,r,rfl,h1,h2⟩:=h
  exact ag.cons h1 (ag.take n h2)
theorem ag.drop {K:W.Frag} {P:aZ} {H:Hp}:∀{l:List D} {vs:List V} (n:Nat),ag K H P l vs->ag K H P (l.drop n) (vs.drop n)
 | [],vs,n,h=>by rw [ag] at h;subst h;simp;exact ag.nil
 | d::l,vs,0,h=>h
 | d::l,vs,n+1,h=>by
  rw [ag] at h
  obtain ⟨v,r,rfl,h1,h2⟩:=h
  exact ag.drop n h2
theorem ag.ofInts {K:W.Frag} {P:aZ} {H:Hp}:∀{ns:List Int},ag K H P (ns.map D.int) (ns.map V.int)
 | []=>ag.nil
 | n::ns=>ag.cons (by rw [af]) ag.ofInts
abbrev Ow:=Addr->Option (Option Str)
def Kp (ow:Ow) (H:Hp):Nat->aZ
 | 0=>fun a b=>b=true/\H a=none
 | 1=>fun a b=>b=true->ow a=none
 | 2=>fun a b=>b=true/\(ow a≠none\/H a=none)
 | _=>fun _ _=>True
def kj:Nat->Nat->Nat
 | 0,k=>k
 | k,0=>k
 | 1,1=>1
 | 2,2=>2
 | _,_=>3
def iK (ow:Ow) (x:Str):Bool->aZ
 | true=>fun a b=>b=true/\ow a=some (some x)
 | false=>fun a b=>b=true->ow a=none
def dB (ow:Ow) (H:Hp):Prop:=∀a,ow a≠none->∃o,H a=some o
theorem dB.same {ow:Ow} {H H':Hp} (o:dB ow H) (s:av H H'):dB ow H':=fun a h=>let ⟨x,e⟩:=o a h;⟨x,s a x e⟩
theorem dB.free {ow:Ow} {H:Hp} (o:dB ow H) {a:Addr} (h:H a=none):ow a=none:=by
 cases e:ow a with
 | none=>rfl
 | some x=>obtain ⟨y,q⟩:=o a (by rw [e];exact (fun z=>nomatch z));rw [h] at q;cases q
theorem Kp.back {ow:Ow} {H H':Hp} (s:av H H'):∀(k:Nat) (a:Addr) (b:Bool),Kp ow H' k a b->Kp ow H k a b
 | 0,a,b,h=>⟨h.1,s.free h.2⟩
 | 1,a,b,h=>h
 | 2,a,b,h=>⟨h.1,h.2.imp id fun z=>s.free z⟩
 | _+3,a,b,h=>True.intro
theorem Kp.joinL {ow:Ow} {H:Hp} (o:dB ow H):∀(k j:Nat) (a:Addr) (b:Bool),Kp ow H k a b->Kp ow H (kj k j) a b
 | 0,0,a,b,h=>h
 | 0,1,a,b,h=>fun _=>o.free h.2
 | 0,2,a,b,h=>⟨h.1,.inr h.2⟩
 | 0,_+3,a,b,h=>True.intro
 | 1,0,a,b,h=>h
 | 1,1,a,b,h=>h
 | 1,2,a,b,h=>True.intro
 | 1,_+3,a,b,h=>True.intro
 | 2,0,a,b,h=>h
 | 2,1,a,b,h=>True.intro
 | 2,2,a,b,h=>h
 | 2,_+3,a,b,h=>True.intro
 | _+3,0,a,b,h=>True.intro
 | _+3,1,a,b,h=>True.intro
 | _+3,2,a,b,h=>True.intro
 | _+3,_+3,a,b,h=>True.intro
theorem zx:∀k j,kj k j=kj j k
 | 0,0|0,1|0,2|0,_+3|1,0|1,1|1,2|1,_+3|2,0|2,1|2,2|2,_+3|_+3,0|_+3,1|_+3,2|_+3,_+3=>rfl
theorem Kp.joinR {ow:Ow} {H:Hp} (o:dB ow H) (k j:Nat) (a:Addr) (b:Bool) (h:Kp ow H j a b):Kp ow H (kj k j) a b:=by
 rw [zx];exact Kp.joinL o j k a b h
abbrev ae:=Str->Option (D×Bool)
structure aG (X:Cx) (ow:Ow) (H:Hp) (σ:L2.St) (ρ:ae):Prop where
 get:∀x d o,ρ x=some (d,o)->∃(i:Nat) (v:V),X.N[i]?=some x/\ge X.env.scope x/\σ[i]?=some (some v)/\af X.K H (iK ow x o) d v
 own:dB ow H
theorem aG.same {X:Cx} {ow:Ow} {H H':Hp} {σ:L2.St} {ρ:ae} (e:aG X ow H σ ρ) (s:av H H'):aG X ow H' σ ρ :=
 ⟨fun x d o h=>let ⟨i,v,h1,h2,h3,h4⟩:=e.get x d o h;⟨i,v,h1,h2,h3,h4.same s⟩,e.own.same s⟩
def tD (X:Cx) (ow:Ow) (ρ:ae) (d:D) (k:Nat):TE:=fun σ H Q=>aG X ow H σ ρ/\∀v H',av H H'->af X.K H' (Kp ow H k) d v->Q v H'
def ED (X:Cx) (ρ:ae) (e:Expr) (d:D) (k:Nat):Prop:=∀ow,PE X e (tD X ow ρ d k)
def xl (X:Cx) (ow:Ow) (ρ:ae) (b:Bool):TT:=fun σ H Q=>aG X ow H σ ρ/\∀H',av H H'->Q b H'
def TD (X:Cx) (ρ:ae) (e:Expr) (b:Bool):Prop:=∀ow,PT X e (xl X ow ρ b)
def J8 (X:Cx) (ow:Ow) (ρ:ae) (ds:List D) (k:Nat):TA:=fun σ H Q=>aG X ow H σ ρ/\∀vs H',av H H'->ag X.K H' (Kp ow H k) ds vs->Q vs H'
def AD (X:Cx) (ρ:ae) (es:List Expr) (ds:List D) (k:Nat):Prop:=∀ow,PA X es (J8 X ow ρ ds k)
theorem bj {X:Cx} {e:Expr} {t t':TE} (h:PE X e t) (i:∀σ H Q,t' σ H Q->t σ H Q):PE X e t':=fun pins s σ H Q I q=>h pins s σ H Q I (i σ H Q q)
theorem sL {X:Cx} {e:Expr} {t t':TT} (h:PT X e t) (i:∀σ H Q,t' σ H Q->t σ H Q):PT X e t':=fun pins s σ H Q I q=>h pins s σ H Q I (i σ H Q q)
theorem yn {X:Cx} {e:List Expr} {t t':TA} (h:PA X e t) (i:∀σ H Q,t' σ H Q->t σ H Q):PA X e t':=fun pos pins s σ H Q I q=>h pos pins s σ H Q I (i σ H Q q)
def kn (d:D) (k:Nat):Nat:=if d.lless=true then 0 else k
theorem ED.kn {X:Cx} {ρ:ae} {e:Expr} {d:D} {k:Nat} (h:ED X ρ e d k):ED X ρ e d (Sp.kn d k):=by
 unfold Sp.kn
 by_cases f:d.lless=true
 ·rw [if_pos f]
  exact fun ow=>bj (h ow) fun σ H Q ⟨E,q⟩=>⟨E,fun v H' s r=>q v H' s (r.flat _ f)⟩
 ·rw [if_neg f];exact h
end Sp
namespace Sp
open PySem PySem.Spec PyProof.Rows L2
def FG (K:W.Frag) (J:It) (ds:List D) (P:aZ) (H1:Hp):Prop :=
 ∀(i:Nat) (H2:Hp),c8 P P H1 H2->(∀d,ds[i]?=some d->J.go i H2/\∀x H3,J.yld i H2 x H3->av H2 H3/\af K H3 P d x)/\(ds.length<=i->J.stop i H2)
def Kd (ow:Ow) (H:Hp) (k:Nat) (H1:Hp):aZ:=fun a b=>Kp ow H k a b/\(b=true->∃o,H1 a=some o)
def tI (X:Cx) (ow:Ow) (ρ:ae) (ds:List D) (k:Nat):TI:=fun σ H R=>aG X ow H σ ρ/\∀J H1,av H H1->FG X.K J ds (Kd ow H k H1) H1->R J H1
def IE (X:Cx) (ρ:ae) (tg iter:Expr) (ds:List D) (k:Nat):Prop:=∀ow,PI X tg iter (tI X ow ρ ds k)
def fK (ifs:List Expr) (env:Env):Sem Bool:=forIn ifs true fun c r=>if r=true then do let ok <- isTrue c env (eval c env);pure (ForInStep.yield ok) else pure (ForInStep.yield r)
def vA (X:Cx) (ρ:ae) (ifs:List Expr) (b:Bool):Prop:=∀ow (pins:List (Addr×Obj)) (s:Shared) (σ:L2.St) (H:Hp) (Q:Bool->Hp->Prop),ah X pins σ H s->xl X ow ρ b σ H Q->wpAny (model X.prog X.w) X.A (fK ifs X.env) (TP X pins σ Q) X.xe s
def GD (X:Cx) (ρ:ae) (tg:Expr) (d:D) (ρ':ae):Prop:=∃g:TG,PG X tg g/\∀(ow:Ow) (v:V) (σ:L2.St) (H:Hp) (Q:L2.St->Hp->Prop),σ.length=X.N.length->aG X ow H σ ρ->af X.K H (fun a b=>b=true->ow a=none) d v->(∀σ',σ'.length=X.N.length->aG X ow H σ' ρ'->Q σ' H)->g v σ H Q
abbrev iS (X:Cx) (scope:Scope) (cl:List (Str×Addr)) (C:Addr) (N':List Str) (s:Shared) (H:Hp) (fp:List Addr):Cx :=
 { X with N:=N',s₀:=s,H₀:=H,env:=compEnvC scope cl C X.env,outer:=X.stack,stack:=X.stack,ex:=fp,fn:=fun x=>decide (scope.names.lookup x=some .cell),pn:=[],xe:=fun _ _=>False }
theorem fP {env:Env}:∀(names:List (Str×NameKind)) (cs:List (Str×Addr)),(∀n,(n,NameKind.free)∈names->∃c,env.cells.lookup n=some c) ->
  ∃cl,(forIn names cs (fun (x:Str×NameKind) (r:List (Str×Addr))=>(if (x.2==NameKind.free)=true then do let a <- cellOf env x.1;pure (ForInStep.yield ((x.1,a)::r)) else pure (ForInStep.yield r):Sem (ForInStep (List (Str×Addr))))))=(pure cl:Sem (List (Str×Addr))) /\
   (∀x c,cl.lookup x=some c->(env.cells.lookup x=some c/\(x,NameKind.free)∈names)\/cs.lookup x=some c)/\(∀x,(x,NameKind.free)∈names->∃c,cl.lookup x=some c)/\(∀x c,cs.lookup x=some c->∃c',cl.lookup x=some c')
 | [],cs,_=>⟨cs,rfl,fun x c h=>.inr h,fun x h=>(by cases h),fun x c h=>⟨c,h⟩⟩
 | (n,k)::r,cs,h=>by
  have hr:∀n,(n,NameKind.free)∈r->∃c,env.cells.lookup n=some c:=fun m hm=>h m (List.mem_cons_of_mem _ hm)
  by_cases hk:k=.free
  ·subst hk
   obtain ⟨c,hc⟩:=h n List.mem_cons_self
   obtain ⟨cl,e,h1,h2,h3⟩:=fP r ((n,c)::cs) hr
   refine ⟨cl,?_,fun x c' hx=>?_,fun x hx=>?_,fun x c' hx=>?_⟩
   ·rw [List.forIn_cons]
    simp only [beq_self_eq_true,if_true,cellOf,hc]
    rw [pure_bind,pure_bind]
    exact e
   ·rcases h1 x c' hx with q|q
    ·exact .inl ⟨q.1,List.mem_cons_of_mem _ q.2⟩
    ·rw [List.lookup_cons] at q
     split at q
     ·rename_i hb
      have:x=n:=by simpa using hb
      subst this;cases q;exact .inl ⟨hc,List.mem_cons_self⟩
     ·exact .inr q
   ·rcases List.mem_cons.mp hx with q|q
    ·cases q
     exact h3 n c (by simp)
    ·exact h2 x q
   ·by_cases hb:x==n
    ·exact h3 x c (by rw [List.lookup_cons,hb])
    ·exact h3 x c' (by rw [List.lookup_cons];simp only [hb];exact hx)
  ·obtain ⟨cl,e,h1,h2,h3⟩:=fP r cs hr
   refine ⟨cl,?_,fun x c hx=>(h1 x c hx).imp (fun q=>⟨q.1,List.mem_cons_of_mem _ q.2⟩) id,fun x hx=>?_,h3⟩
   ·rw [List.forIn_cons]
    have:(k==NameKind.free)=false:=by simpa using hk
    simp only [this,Bool.false_eq_true,if_false]
    rw [pure_bind]
    exact e
   ·rcases List.mem_cons.mp hx with q|q
    ·cases q;exact absurd rfl hk
    ·exact h2 x q
theorem pL {env:Env} {scope:Scope} (h:∀n,(n,NameKind.free)∈scope.names->∃c,env.cells.lookup n=some c) :
  ∃cl,closureFor scope env=pure cl/\(∀x c,cl.lookup x=some c->env.cells.lookup x=some c/\(x,NameKind.free)∈scope.names)/\(∀x,(x,NameKind.free)∈scope.names->∃c,cl.lookup x=some c):=by
 obtain ⟨cl,e,h1,h2,_⟩:=fP scope.names [] h
 refine ⟨cl,?_,fun x c hx=>(h1 x c hx).resolve_right (by simp),h2⟩
 unfold closureFor
 rw [<- e,<- bind_pure (forIn scope.names _ _)]
theorem cy {env:Env}:∀{names:List (Str×NameKind)} {x:Str},names.lookup x=some .free ->
  (names.map fun (n,k)=>if (k==NameKind.free&&env.scope.kind == .function&&env.kindOf n==some .cell) then (n,NameKind.cell) else (n,k)).lookup x=some .cell \/
  (names.map fun (n,k)=>if (k==NameKind.free&&env.scope.kind == .function&&env.kindOf n==some .cell) then (n,NameKind.cell) else (n,k)).lookup x=some .free
 | [],_,h=>by simp at h
 | (n,k)::r,x,h=>by
  have ih:=@cy env r x
  show List.lookup x ((if (k==NameKind.free&&env.scope.kind == .function&&env.kindOf n==some .cell)=true then (n,NameKind.cell) else (n,k))::_)=_\/List.lookup x ((if (k==NameKind.free&&env.scope.kind == .function&&env.kindOf n==some .cell)=true then (n,NameKind.cell) else (n,k))::_)=_
  cases hx:x==n with
  | true =>
   simp only [List.lookup_cons,hx] at h
   cases h
   by_cases hc:(NameKind.free==NameKind.free&&env.scope.kind == .function&&env.kindOf n==some .cell)=true
   ·rw [if_pos hc];simp [List.lookup_cons,hx]
   ·rw [if_neg hc];simp [List.lookup_cons,hx]
  | false =>
   simp only [List.lookup_cons,hx] at h
   by_cases hc:(k==NameKind.free&&env.scope.kind == .function&&env.kindOf n==some .cell)=true
   ·rw [if_pos hc];simp only [List.lookup_cons,hx];exact ih h
   ·rw [if_neg hc];simp only [List.lookup_cons,hx];exact ih h
theorem eJ {env:Env}:∀{names:List (Str×NameKind)} {x:Str} {k:NameKind},(names.map fun (n,k)=>if (k==NameKind.free&&env.scope.kind == .function&&env.kindOf n==some .cell) then (n,NameKind.cell) else (n,k)).lookup x=some k ->
  names.lookup x=some k\/(k=.cell/\names.lookup x=some .free)
 | [],_,_,h=>by simp at h
 | (n,j)::r,x,k,h=>by
  have ih:=@eJ env r x k
  replace h:List.lookup x ((if (j==NameKind.free&&env.scope.kind == .function&&env.kindOf n==some .cell)=true then (n,NameKind.cell) else (n,j))::_)=some k:=h
  cases hx:x==n with
  | true =>
   simp only [List.lookup_cons,hx]
   by_cases hc:(j==NameKind.free&&env.scope.kind == .function&&env.kindOf n==some .cell)=true
   ·rw [if_pos hc] at h
    simp only [List.lookup_cons,hx] at h
    cases h
    have:j=.free:=by
     have:=(Bool.and_eq_true _ _).mp ((Bool.and_eq_true _ _).mp hc).1
     simpa using this.1
    exact .inr ⟨rfl,by rw [this]⟩
   ·rw [if_neg hc] at h
    simp only [List.lookup_cons,hx] at h
    exact .inl h
  | false =>
   simp only [List.lookup_cons,hx]
   by_cases hc:(j==NameKind.free&&env.scope.kind == .function&&env.kindOf n==some .cell)=true
   ·rw [if_pos hc] at h;simp only [List.lookup_cons,hx] at h;exact ih h
   ·rw [if_neg hc] at h;simp only [List.lookup_cons,hx] at h;exact ih h
structure fe (env:Env) (scope:Scope) (N':List Str):Prop where
 kind:scope.kind=.function
 nn:(scope.names.map (·.1)).Nodup
 names:∀y∈scope.names,y.2=.local->scope.names.lookup y.1=some .local
 nd:N'.Nodup
 fr:∀n,(n,NameKind.free)∈scope.names->env.kindOf n=some .cell\/env.kindOf n=some .free
theorem oJ:∀{names:List (Str×NameKind)} {x:Str} {k:NameKind},(names.map (·.1)).Nodup->(x,k)∈names->names.lookup x=some k
 | [],_,_,_,h=>by cases h
 | (n,j)::r,x,k,nd,h=>by
  rw [List.map_cons,List.nodup_cons] at nd
  rcases List.mem_cons.mp h with e|h'
  ·cases e;simp
  ·have hx:(x==n)=false:=by
    cases q:x==n with
    | false=>rfl
    | true =>
     have:x=n:=by simpa using q
     subst this
     have hm:x∈r.map (·.1):=List.mem_map.mpr ⟨(x,k),h',rfl⟩
     exact absurd hm nd.1
   rw [List.lookup_cons,hx]
   exact oJ nd.2 h'
theorem li:∀(names:List (Str×NameKind)) (n:Nat) (acc:List (Str×Addr)) {x:Str} {c:Addr},(cellsFrom n names acc).lookup x=some c->acc.lookup x=some c\/(n<=c/\(x,NameKind.cell)∈names)
 | [],_,_,_,_,h=>.inl h
 | (y,k)::r,n,acc,x,c,h=>by
  unfold cellsFrom at h
  split at h
  ·rename_i hk
   have hk:k=.cell:=by simpa using hk
   subst hk
   rcases li r (n+1) ((y,n)::acc) h with q | ⟨q1,q2⟩
   ·rw [List.lookup_cons] at q
    split at q
    ·rename_i hb
     have:x=y:=by simpa using hb
     subst this
     cases q
     exact .inr ⟨Nat.le_refl _,List.mem_cons_self⟩
    ·exact .inl q
   ·exact .inr ⟨by omega,List.mem_cons_of_mem _ q2⟩
  ·rcases li r n acc h with q | ⟨q1,q2⟩
   ·exact .inl q
   ·exact .inr ⟨q1,List.mem_cons_of_mem _ q2⟩
theorem o9:∀(names:List (Str×NameKind)) (n:Nat) (acc:List (Str×Addr)),(∀x y c,acc.lookup x=some c->acc.lookup y=some c->x=y)->(∀x c,acc.lookup x=some c->c < n) ->
  ∀x y c,(cellsFrom n names acc).lookup x=some c->(cellsFrom n names acc).lookup y=some c->x=y
 | [],_,_,h,_,x,y,c,a,b=>h x y c a b
 | (z,k)::r,n,acc,h,hb,x,y,c,a,b=>by
  unfold cellsFrom at a b
  split at a
  ·rename_i hk
   rw [if_pos hk] at b
   refine o9 r (n+1) ((z,n)::acc) (fun u v d p q=>?_) (fun u d p=>?_) x y c a b
   ·rw [List.lookup_cons] at p q
    split at p
    ·rename_i e1
     split at q
     ·rename_i e2
      rw [show u=z by simpa using e1,show v=z by simpa using e2]
     ·cases p;exact absurd (hb v _ q) (Nat.lt_irrefl _)
    ·split at q
     ·cases q;exact absurd (hb u _ p) (Nat.lt_irrefl _)
     ·exact h u v d p q
   ·rw [List.lookup_cons] at p
    split at p
    ·cases p;exact Nat.lt_succ_self _
    ·exact Nat.lt_succ_of_lt (hb u d p)
  ·rename_i hk
   rw [if_neg hk] at b
   exact o9 r n acc h hb x y c a b
theorem lZ:∀(names:List (Str×NameKind)) (h:Heap) (acc:List (Str×Addr)),(∀x c,acc.lookup x=some c->∃v,h.IsCell c v)->∀x c,(cellsFrom h.objs.size names acc).lookup x=some c->∃v,(pushCells h names).IsCell c v
 | [],_,_,h,x,c,a=>h x c a
 | (z,k)::r,h,acc,hc,x,c,a=>by
  unfold cellsFrom at a
  unfold pushCells
  split at a
  ·rename_i hk
   rw [if_pos hk]
   have:=lZ r (h.push { cls:=.type "cell", data:=.cell none }) ((z,h.objs.size)::acc) (fun u d p=>?_) x c
   ·rw [Heap.size_push] at this
    exact this a
   ·rw [List.lookup_cons] at p
    split at p
    ·cases p;exact ⟨none,_,Heap.get?_push_size _ rfl,rfl⟩
    ·obtain ⟨v,q⟩:=hc u d p
     exact ⟨v,q.keeps fun b o e=>Heap.get?_push_of_some _ e⟩
  ·rename_i hk
   rw [if_neg hk]
   exact lZ r h acc hc x c a
theorem tf {M:Model} {A:Around} {E:Value->Shared->Prop} {s:Shared} {scope:Scope} {globals:Addr} {cl:List (Str×Addr)} {qual:Str} {env:Env} {Q:Env->Shared->Prop} (hcl:∀x c,cl.lookup x=some c->∃v,s.heap.IsCell c v)
  (h:∀h',h'.Ns s.heap.objs.size (fun _=>none)->(∀b o,s.heap.get? b=some o->h'.get? b=some o)->(∀x c,(cellsFrom (s.heap.objs.size+1) scope.names cl).lookup x=some c->∃v,h'.IsCell c v) ->
   Q (newEnv scope s.heap.objs.size globals (cellsFrom (s.heap.objs.size+1) scope.names cl) qual none .none (some env) builtinsNs) { s with heap:=h',toks:=s.toks+0 }) :
  wpAny M A (newFunctionEnv scope globals cl [] qual none .none (some env)) Q E s:=by
 simp only [newFunctionEnv,Option.isSome_some,if_true]
 refine wpAny_bind (wpAny_alloc ?_)
 refine wpAny_bind (wpAny_layCells _ (fun name kind cells=>by cases hkc:kind==NameKind.cell <;> simp [hkc]) _ _ _ _ ?_)
 rw [show ({ s with heap:=s.heap.push { cls:=.type "dict", data:=.dict #[] } }:Shared).heap.objs.size=s.heap.objs.size+1 from Heap.size_push ..]
 rw [List.forIn_nil]
 refine wpAny_bind (wpAny_pure (wpAny_pure ?_))
 refine h _ ((Heap.Ns.new s.heap (.type "dict")).keeps (pushCells_keeps _ _)) (fun b o e=>pushCells_keeps _ _ b o (Heap.get?_push_of_some _ e)) fun x c hc=>?_
 have:=lZ scope.names (s.heap.push { cls:=.type "dict", data:=.dict #[] }) cl (fun u d p=>by
  obtain ⟨v,q⟩:=hcl u d p
  exact ⟨v,q.keeps fun b o e=>Heap.get?_push_of_some _ e⟩) x c
 rw [Heap.size_push] at this
 exact this hc
structure jE (X:Cx) (scope:Scope) (cl:List (Str×Addr)) (n:Nat):Prop where
 k1:∀x c,cl.lookup x=some c->X.env.cells.lookup x=some c\/(n < c/\scope.names.lookup x=some .cell)
 k2:∀x,scope.names.lookup x=some .free\/scope.names.lookup x=some .cell->∃c,cl.lookup x=some c
 k4:∀x y c,cl.lookup x=some c->cl.lookup y=some c->x=y
 k5:∀x c,scope.names.lookup x=some .cell->cl.lookup x=some c->n<=c
variable {X:Cx}
theorem wJ {pins:List (Addr×Obj)} {σ:L2.St} {H:Hp} {s:Shared} {scope:Scope} {cl:List (Str×Addr)} {N':List Str} (I:ah X pins σ H s) (S:fe X.env scope N')
  (h1:∀x c,cl.lookup x=some c->X.env.cells.lookup x=some c/\(x,NameKind.free)∈scope.names) (h2:∀x,(x,NameKind.free)∈scope.names->∃c,cl.lookup x=some c) :
  jE X scope (cellsFrom (s.heap.objs.size+1) scope.names cl) s.heap.objs.size where
 k1:=fun x c h=>by
  rcases li _ _ _ h with q | ⟨q1,q2⟩
  ·exact .inl (h1 x c q).1
  ·exact .inr ⟨q1,oJ S.nn q2⟩
 k2:=fun x h=>by
  refine Option.isSome_iff_exists.mp (W.cellsFrom_some scope.names _ cl ?_)
  rcases h with h|h
  ·obtain ⟨c,hc⟩:=h2 x (PySem.mem_of_lookup h)
   exact .inr (by rw [hc];rfl)
  ·exact .inl h
 k4:=o9 scope.names _ cl (fun x y c a b=>I.ok.inj x y c (h1 x c a).1 (h1 y c b).1) fun x c a=>by
  obtain ⟨v,hv⟩:=I.cell x c (h1 x c a).1
  exact Nat.lt_succ_of_lt hv.lt
 k5:=fun x c hx h=>by
  rcases li _ _ _ h with q | ⟨q1,q2⟩
  ·rw [oJ S.nn (h1 x c q).2] at hx;cases hx
  ·omega
theorem Eo {pins:List (Addr×Obj)} {σ:L2.St} {H:Hp} {s:Shared} {scope:Scope} {cl:List (Str×Addr)} {C:Addr} {N':List Str} {fp:List Addr} (I:ah X pins σ H s) (S:fe X.env scope N')
  (hC:s.heap.objs.size<=C) (k:jE X scope cl s.heap.objs.size)
  (hf:∀b∈fp,fi X pins H b) (hfC:∀b∈fp,b < s.heap.objs.size):(iS X scope cl C N' s H fp).Ok where
 mod:=I.ok.mod
 kind:=by show (relabel scope X.env).kind=_;exact S.kind
 glob:=I.ok.glob
 blt:=I.ok.blt
 above:=hC
 inj:=k.k4
 has:=fun x hx=>by
  have hx:(relabel scope X.env).names.lookup x=some .cell\/(relabel scope X.env).names.lookup x=some .free:=hx
  rcases hx with hx|hx
  ·rcases eJ hx with q | ⟨_,q⟩
   ·exact k.k2 x (.inr q)
   ·exact k.k2 x (.inl q)
  ·rcases eJ hx with q | ⟨q,_⟩
   ·exact k.k2 x (.inl q)
   ·cases q
 cab:=fun x c h hc=>k.k5 x c (of_decide_eq_true h) hc
 hd:=I.ok.hd
 frames:=I.ok.frames
 stk:=.inl rfl
 exf:=fun b hb=>⟨by have:=hfC b hb;intro z;subst z;show False;exact absurd (Nat.lt_of_lt_of_le this hC) (Nat.lt_irrefl _),fun x c h=>by
  rcases k.k1 x c h with q | ⟨q,_⟩
  ·exact (hf b hb).2.2.2.2.1 x c q
  ·have:=hfC b hb
   intro z;subst z;exact absurd (Nat.lt_trans q this) (Nat.lt_irrefl _)⟩
 bs:=I.bs
 bsz:=Nat.le_trans I.ok.bsz I.sz
 noex:=fun b o e hb=>by
  rcases (hf b hb).2.2.2.1 with q|q
  ·exact I.ok.noex b o e q
  ·exact absurd (Nat.lt_of_lt_of_le (Heap.lt_size e) (Nat.le_trans I.ok.bsz q)) (Nat.lt_irrefl _)
 exfs:=fun b hb z=>by
  rcases List.mem_cons.mp (I.stkSub b z) with q|q
  ·exact (hf b hb).2.1 q
  ·exact (hf b hb).2.2.1 q
 funs:=I.stack
 frf:=I.stkFree
def jT (X:Cx) (scope:Scope) (N':List Str) (σ:L2.St):L2.St:=N'.map fun x=>if scope.names.lookup x=some .free then (σ[X.N.idxOf x]?).join else none
theorem Cj {pins:List (Addr×Obj)} {σ:L2.St} {H:Hp} {s s1:Shared} {scope:Scope} {cl:List (Str×Addr)} {N':List Str} {fp:List Addr} {m:Str->Option Value} (I:ah X pins σ H s) (S:fe X.env scope N')
  (k:jE X scope cl s.heap.objs.size) (k6:∀x c,cl.lookup x=some c->∃v,s1.heap.IsCell c v)
  (hf:∀b∈fp,fi X pins H b) (hfC:∀b∈fp,b < s.heap.objs.size)
  (es:∃h t,s1 = { s with heap:=h,toks:=t }) (hns:s1.heap.Ns s.heap.objs.size m) (hk:∀b o,s.heap.get? b=some o->s1.heap.get? b=some o) :
  ah (iS X scope cl s.heap.objs.size N' s H fp) [] (jT X scope N' σ) H s1:=by
 obtain ⟨h',t,rfl⟩:=es
 have I1:ah X pins σ H { s with heap:=h',toks:=t }:=I.kept hk
 refine ⟨Eo I S (Nat.le_refl _) k hf hfC,rfl,I.bare,Un.kept hk,⟨m,hns,fun i x v e1 e2 e3=>?_⟩,k6,I.hok.fresh (Nat.le_refl _),fun x c h=>(k.k1 x c h).elim (fun q=>I.freeC x c q) fun q=>I.hok.fresh (Nat.le_of_lt q.1),fun p hp=>absurd (show p∈([]:List (Addr×Obj)) from hp) (by simp),I1.hok,?_⟩
 ·have hN:N'[i]?=some x:=e1
  unfold jT at e2
  rw [List.getElem?_map,hN] at e2
  simp only [Option.map_some,Option.some.injEq] at e2
  split at e2
  ·rename_i hfr
   have hj:σ[X.N.idxOf x]?=some (some v):=by
    cases q:σ[X.N.idxOf x]? with
    | none=>rw [q] at e2;cases e2
    | some y=>rw [q] at e2;rw [show y=some v from e2]
   have hlt:X.N.idxOf x < X.N.length:=by rw [<- I.len];exact (List.getElem?_eq_some_iff.mp hj).1
   have hx:X.N[X.N.idxOf x]?=some x:=by
    rw [List.getElem?_eq_getElem hlt,List.getElem_idxOf hlt]
   have kf:=S.fr x (PySem.mem_of_lookup hfr)
   have vis:ge X.env.scope x:=.inr (kf.imp id id)
   obtain ⟨m1,hn1,hl1⟩:=I1.loc
   obtain ⟨u,r,l⟩:=hl1 _ x v hx hj vis
   refine ⟨u,r,.inr ⟨?_,?_⟩⟩
   ·exact cy hfr
   ·rcases l with ⟨hk',_⟩ | ⟨_,c,hc,hcell⟩
    ·rcases kf with q|q <;> rw [q] at hk' <;> cases hk'
    ·obtain ⟨c',hc'⟩:=k.k2 x (.inl hfr)
     have:c'=c:=by
      rcases k.k1 x c' hc' with this | ⟨_,this⟩
      ·rw [hc] at this;exact (Option.some.inj this).symm
      ·rw [hfr] at this;cases this
     subst this
     exact ⟨c',hc',hcell⟩
  ·cases e2
 ·unfold jT;simp
def flt (scope:Scope) (ρ:ae):ae:=fun x=>if scope.names.lookup x=some .free then ρ x else none
theorem gY {scope:Scope} {ρ:ae} {x:Str} {y:D×Bool} (h:flt scope ρ x=some y):ρ x=some y/\scope.names.lookup x=some .free:=by
 unfold flt at h
 split at h
 ·rename_i e;exact ⟨h,e⟩
 ·cases h
theorem CN {ow:Ow} {H:Hp} {σ:L2.St} {ρ:ae} {scope:Scope} {cl:List (Str×Addr)} {C:Addr} {N':List Str} {s:Shared} {fp:List Addr} {H0:Hp} (E:aG X ow H σ ρ) (hN:X.N.Nodup)
  (hsub:∀x d o,flt scope ρ x=some (d,o)->x∈N') :
  aG (iS X scope cl C N' s H0 fp) ow H (jT X scope N' σ) (flt scope ρ):=by
 refine ⟨fun x d o h=>?_,E.own⟩
 obtain ⟨h1,h2⟩:=gY h
 obtain ⟨i,v,e1,e2,e3,e4⟩:=E.get x d o h1
 have hx:x∈N':=hsub x d o h
 have hi:X.N.idxOf x=i:=by
  have hm:x∈X.N:=List.mem_of_getElem? e1
  have hlt:=List.idxOf_lt_length_iff.mpr hm
  exact fF hN (by rw [List.getElem?_eq_getElem hlt,List.getElem_idxOf hlt]) e1
 refine ⟨N'.idxOf x,v,?_,?_,?_,e4⟩
 ·have hlt:=List.idxOf_lt_length_iff.mpr hx
  show N'[N'.idxOf x]?=some x
  rw [List.getElem?_eq_getElem hlt,List.getElem_idxOf hlt]
 ·exact .inr (cy h2)
 ·have hlt:=List.idxOf_lt_length_iff.mpr hx
  unfold jT
  rw [List.getElem?_map,List.getElem?_eq_getElem hlt,List.getElem_idxOf hlt]
  simp only [Option.map_some]
  rw [if_pos h2,hi,e3];rfl
end Sp
namespace Sp
open PySem PySem.Spec PyProof.Rows L2
variable {X:Cx}
theorem u6 {prog:Program} {w:World} {A:Around} {R:Result->Shared->Prop} {s:Shared} {elt target iter:Expr} {ifs:List Expr} {scope:Scope} {pos:Pos} {it acc:Value} {env:Env} (J:Nat->Shared->Prop)
    (turn:∀n s,J n s->wpAny (model prog w) A (pyNext it) (fun r s₁=>match r with
      | none=>R (.ok .next) s₁
      | some v=>wpAny (model prog w) A (letOwnedTupleGo target it v) (fun _ s₁=>wpAny (model prog w) A (assign target env v) (fun _ s₂ =>
          wpAny (model prog w) A (fK ifs env) (fun ok s₃ =>
            if ok=true then wpAny (model prog w) A (eval elt env) (fun x s₄ =>
              wpAny (model prog w) A (call (.builtin "list.append") [acc,x]) (fun _ s₅ => ∃m,m < n/\J m s₅) (fun _ _=>False) s₄) (fun _ _=>False) s₃
            else ∃m,m < n/\J m s₃) (fun _ _=>False) s₂) (fun _ _=>False) s₁) (fun _ _=>False) s₁) (fun _ _=>False) s)
    (n:Nat) (h:J n s):codeAny (model prog w) A (.compLoop (.ListComp elt [⟨target,iter,ifs,0⟩] scope pos) 0 it acc env) R s:=by
  refine codeAny_loop rfl J (fun n s hI=>?_) n h
  show wpAny _ A ((compTurn (.ListComp elt [⟨target,iter,ifs,0⟩] scope pos) 0 it acc env).onRaise (fun x=>do noteFrame x env;theTreesLotGoes x)) _ _ s
  refine wpAny_noted ?_
  rw [compTurn_list]
  refine wpAny_bind (wpAny_standAt (wpAny_bind (wpAny_mono (turn n s hI) (fun r s₁ h₁=>?_) fun _ _ h'=>h'.elim)))
  cases r with
  | none=>exact wpAny_pure h₁
  | some v =>
    refine wpAny_bind (wpAny_mono h₁ (fun _ s₁' h₁'=>?_) fun _ _ h'=>h'.elim)
    refine wpAny_bind (wpAny_mono h₁' (fun _ s₂ h₂=>wpAny_bind (wpAny_mono h₂ (fun ok s₃ h₃=>?_) fun _ _ h'=>h'.elim)) fun _ _ h'=>h'.elim)
    cases ok with
    | false=>exact wpAny_pure ⟨rfl,h₃⟩
    | true =>
      exact wpAny_bind (wpAny_bind (wpAny_mono h₃ (fun x s₄ h₄=>wpAny_bind (wpAny_mono h₄ (fun _ s₅ h₅=>wpAny_pure (wpAny_pure ⟨rfl,h₅⟩)) fun _ _ h'=>h'.elim)) fun _ _ h'=>h'.elim))
def jB (X:Cx) (ρ:ae) (tg:Expr) (ifs:List Expr) (elt:Expr) (k:Nat) (d:D) (r:Option D):Prop :=
 ∃ρ' b,GD X ρ tg d ρ'/\(∀x y,ρ x=some y->ρ' x=some y)/\vA X ρ' ifs b/\match r with|some d'=>b=true/\ED X ρ' elt d' k|none=>b=false
theorem dW {ow:Ow} {H:Hp} (o:dB ow H) {a:Addr}:∀{k:Nat},k<=1->Kp ow H k a true->ow a=none
 | 0,_,p=>o.free p.2
 | 1,_,p=>p rfl
 | _+2,h,_=>absurd h (by omega)
theorem zw {ow:Ow} {H H9:Hp} {D:Addr} {x:HO} (sm:av H H9) (hD:H9 D=some x) {a:Addr} {b:Bool}:∀{k:Nat},k<=1->Kp (fun a=>if a=D then some none else ow a) H9 k a b->Kp ow H k a b/\(b=true->a≠D)
 | 0,_,p=>⟨⟨p.1,sm.free p.2⟩,fun _ z=>by subst z;have:=p.2;rw [hD] at this;cases this⟩
 | 1,_,p=>by
  have p:b=true->(if a=D then some none else ow a)=none:=p
  refine ⟨fun hb=>?_,fun hb hz=>?_⟩
  ·have p:=p hb
   by_cases hz:a=D
   ·rw [if_pos hz] at p;cases p
   ·rw [if_neg hz] at p;exact p
  ·have p:=p hb
   rw [if_pos hz] at p;cases p
 | _+2,h,_=>absurd h (by omega)
theorem uA {ow:Ow} {H:Hp} {D:Addr} (o:dB ow H) (hD:H D=none):∀{k:Nat},k<=1->Kp ow H k D true
 | 0,_=>⟨rfl,hD⟩
 | 1,_=>fun _=>o.free hD
 | _+2,h=>absurd h (by omega)
theorem kP:∀{l:List D} {i:Nat} {d:D},ax l=true->l[i]?=some d->d.lless=true
 | [],_,_,_,h=>by simp at h
 | x::l,0,d,f,h=>by
  rw [ax,Bool.and_eq_true] at f
  simp at h;subst h;exact f.1
 | x::l,i+1,d,f,h=>by
  rw [ax,Bool.and_eq_true] at f
  exact kP (i:=i) f.2 (by simpa using h)
structure jD (X:Cx) (pins:List (Addr×Obj)) (σ:L2.St) (H5:Hp) (s6:Shared) (C:Addr) (m6:Str->Option Value):Prop where
 inv:ah X pins σ H5 s6
 ns:s6.heap.Ns C m6
 free:H5 C=none
 loc:C≠X.env.locals
 old:X.s₀.heap.objs.size<=C
 cell:∀x c,X.env.cells.lookup x=some c->c≠C
 pin:∀p∈X.pn++pins,p.1≠C
 fs:C∉X.fs
theorem mK {ow:Ow} {use:Option (Value->Sem Unit)} {Q':Value->Shared->Prop} {pins:List (Addr×Obj)} {s:Shared} {σ:L2.St} {H:Hp} {ρ:ae} {tg elt iter:Expr} {ifs:List Expr} {scope:Scope} {pos pos2:Pos} {ds:List D} {f:D->Option D} {k ko:Nat} {N':List Str}
  (hcalm:X.calm=true) (hN:X.N.Nodup) (hk:ax ds=true\/k<=1) (hko:ko<=1) (hlen:ds.length < sizeLine) (S:fe X.env scope N') (hsub:∀x d o,flt scope ρ x=some (d,o)->x∈N')
  (hi:IE X ρ tg iter ds k)
  (turn:∀cl C s H fp,∀d∈ds,jB (iS X scope cl C N' s H fp) (flt scope ρ) tg ifs elt ko d (f d))
  (hs:∀x,foldedSetIterable iter X.env x=pure x) (I:ah X pins σ H s) (E:aG X ow H σ ρ)
  (fin:∀D C s6 H5 m6,jD X pins σ H5 s6 C m6->av H H5->af X.K H5 (Kp ow H ko) (.lst (ds.filterMap f)) (.ref D)->compPost (model X.prog X.w) X.A X.xe use Q' (.ref D) C (.ok .next) s6) :
  wpAny (model X.prog X.w) X.A (comprehension (.ListComp elt [⟨tg,iter,ifs,0⟩] scope pos) scope X.env pos2 (newList []) false (eval iter X.env) use) Q' X.xe s:=by
 obtain ⟨cl,hclos,h1,h2⟩:=pL (env:=X.env) (scope:=scope) fun n hn=>I.ok.has n (S.fr n hn)
 refine wpAny_comprehension_free rfl hs hclos S.kind S.names ?_
 refine aF (hi ow pins s σ H (fun J H1=>av H H1/\FG X.K J ds (Kd ow H k H1) H1) I ⟨E,fun J H1 a b=>⟨a,b⟩⟩) fun v s1 h1'=>aF h1' fun itv s2 h2'=>?_
 obtain ⟨it,fp,tn,J,H2,rfl,I2,T,st2,f2,s12,itd⟩:=h2'
 have hD2:H2 s2.heap.objs.size=none:=I2.hok.fresh (Nat.le_refl _)
 refine wpAny_newObj_type (tf (fun x c hc=>(I2.cell x c (h1 x c hc).1).imp fun v q=>q.keeps fun b o e=>Heap.get?_push_of_some _ e) fun h₁ hns₁ kp0 k60=>?_)
 have I3:ah X pins σ (aE H2 s2.heap.objs.size (.lst [])) { s2 with heap:=s2.heap.push { cls:=.type "list", dict:=none,data:=.seq ([]:List Value).toArray } } :=
  I2.laid (t':=s2.toks) (fun b u e=>Heap.get?_push_of_some _ e) (Nat.le_refl _) ⟨Nat.zero_le _,[],0,.nil,Heap.get?_push_size _ rfl⟩
 generalize hD:s2.heap.objs.size=D at *
 generalize hs3:({ s2 with heap:=s2.heap.push { cls:=.type "list", dict:=none,data:=.seq ([]:List Value).toArray } }:Shared)=s3 at *
 have hsz3:s3.heap.objs.size=D+1:=by rw [<- hs3];show (s2.heap.push _).objs.size=_;rw [Heap.size_push,hD]
 have f3:∀b∈fp,fi X pins (aE H2 D (.lst [])) b:=fun b hb=>by
  obtain ⟨g0,g⟩:=f2 b hb
  obtain ⟨o,e,_⟩:=T.obj _ _ st2 b hb
  have hlt:=Heap.lt_size e
  rw [hD] at hlt
  exact ⟨by rw [az (Nat.ne_of_lt hlt)];exact g0,g⟩
 have fl3:∀b∈fp,b < s3.heap.objs.size:=fun b hb=>by
  obtain ⟨o,e,_⟩:=T.obj _ _ st2 b hb
  have hlt:=Heap.lt_size e
  rw [hD] at hlt
  rw [hsz3];exact Nat.lt_succ_of_lt hlt
 have kp:∀b o,s3.heap.get? b=some o->h₁.get? b=some o:=kp0
 have kc:jE X scope (cellsFrom (s3.heap.objs.size+1) scope.names cl) s3.heap.objs.size:=wJ I3 S h1 h2
 generalize hcl':cellsFrom (s3.heap.objs.size+1) scope.names cl=cl' at *
 have I4:=Cj (s1:={ s3 with heap:=h₁,toks:=s3.toks+0 }) (N':=N') I3 S kc k60 f3 fl3 ⟨_,_,rfl⟩ hns₁ kp
 have sH2:∀vs,av H2 (aE H2 D (.lst vs)):=fun vs b o e=>by rw [az (aO e hD2)];exact e
 let ow':Ow:=fun a=>if a=D then some none else ow a
 have ow'D:ow' D=some none:=if_pos rfl
 have ow'n:∀a,a≠D->ow' a=ow a:=fun a h=>if_neg h
 have own':∀{H':Hp} (vs:List V),H' D=some (.lst vs)->av H2 H'->dB ow' H':=fun {H'} vs hd sm a ha=>by
  by_cases hz:a=D
  ·subst hz;exact ⟨_,hd⟩
  ·rw [ow'n a hz] at ha
   obtain ⟨o,e⟩:=(E.same s12).own a ha
   exact ⟨o,sm a o e⟩
 have E4:aG (iS X scope cl' s3.heap.objs.size N' s3 (aE H2 D (.lst [])) fp) ow' (aE H2 D (.lst [])) (jT X scope N' σ) (flt scope ρ):=by
  have E3:=CN (scope:=scope) (cl:=cl') (C:=s3.heap.objs.size) (N':=N') (s:=s3) (fp:=fp) (H0:=aE H2 D (.lst [])) (E.same s12) hN hsub
  refine ⟨fun x d o h=>?_,own' [] aJ (sH2 [])⟩
  obtain ⟨i,v,e1,e2,e3,e4⟩:=E3.get x d o h
  refine ⟨i,v,e1,e2,e3,af.same (sH2 []) (e4.impH (fun a ob ha p=>?_) fun a p=>?_)⟩
  ·have hz:a≠D:=aO ha hD2
   cases o with
   | true=>exact ⟨p.1,(ow'n a hz).trans p.2⟩
   | false=>exact fun _=>(ow'n a hz).trans (p rfl)
  ·cases o with
   | true=>cases p.1
   | false=>exact fun z=>(by cases z)
 generalize hX':iS X scope cl' s3.heap.objs.size N' s3 (aE H2 D (.lst [])) fp=X' at *
 have turn':∀d∈ds,jB X' (flt scope ρ) tg ifs elt ko d (f d):=fun d hd=>by rw [<- hX'];exact turn _ _ _ _ _ d hd
 have eK:X'.K=X.K:=by rw [<- hX']
 have eP:X'.prog=X.prog:=by rw [<- hX']
 have eW:X'.w=X.w:=by rw [<- hX']
 have eA:X'.A=X.A:=by rw [<- hX']
 have eE:X'.env=compEnvC scope cl' s3.heap.objs.size X.env:=by rw [<- hX']
 have eX:X'.xe=fun _ _=>False:=by rw [<- hX']
 have eC:X'.calm=true:=by rw [<- hX'];exact hcalm
 have stat:∀{H':Hp},(∀b∈fp,H' b=none)->∀b∈fp,fi X' [] H' b:=fun hn b hb=>by
  rw [<- hX']
  refine ⟨hn b hb,?_,?_,.inl hb,fun x c h=>(kc.k1 x c h).elim (fun q=>(f3 b hb).2.2.2.2.1 x c q) (fun q z=>by subst z;exact absurd (Nat.lt_trans q.1 (fl3 _ hb)) (Nat.lt_irrefl _)),fun p hp=>absurd (show p∈([]:List (Addr×Obj)) from hp) (by simp)⟩
  ·show b≠s3.heap.objs.size
   exact Nat.ne_of_lt (fl3 b hb)
  ·intro z
   rcases List.mem_cons.mp (I3.stkSub b z) with q|q
   ·exact (f3 b hb).2.1 q
   ·exact (f3 b hb).2.2.1 q
 let Pe:aZ:=fun a b=>Kp ow H ko a b/\(b=true->a≠D)
 have loop:codeAny (model X.prog X.w) X.A (.compLoop (.ListComp elt [⟨tg,iter,ifs,0⟩] scope pos) 0 (.ref it) (.ref D) (compEnvC scope cl' s3.heap.objs.size X.env)) (compPost (model X.prog X.w) X.A X.xe use Q' (.ref D) s3.heap.objs.size) { s3 with heap:=h₁,toks:=s3.toks+0 }:=by
  refine u6 (fun n s' => ∃(i:Nat) (σ':L2.St) (H':Hp) (vs:List V),ah X' [] σ' H' s'/\tn i s'.heap/\(∀b∈fp,H' b=none)/\aG X' ow' H' σ' (flt scope ρ)/\H' D=some (.lst vs)/\av H2 H' /\
   ag X.K H' Pe ((ds.take i).filterMap f) vs/\i<=ds.length/\n=ds.length - i) ?_ ds.length
   ⟨0,jT X scope N' σ,aE H2 D (.lst []),[],I4,?_,fun b hb=>(f3 b hb).1,E4,aJ,sH2 [],?_,Nat.zero_le _,rfl⟩
  ·rintro n s5 ⟨i,σ5,H5,vs,I5,st5,fr5,E5,hD5,sm5,rp5,hi5,rfl⟩
   have stay:c8 (Kd ow H k H2) (Kd ow H k H2) H2 H5:=.same sm5 fun _ _ p=>p
   have itd5:=itd i H5 stay
   by_cases hlt:i < ds.length
   ·obtain ⟨go,yl⟩:=itd5.1 ds[i] (by simp [hlt])
    have Ti:=T.item X' eP eW eK eC i [] s5 σ5 H5 (fun _ _=>False) I5 (stat fr5) st5 go
    rw [eA] at Ti
    refine aF Ti fun r s6 ⟨u,hr,h6⟩=>?_
    subst hr
    refine aF h6 fun _ s7 ⟨x,H7,I7,r7,y7,st7,fr7⟩=>?_
    obtain ⟨sm7,rx7⟩:=yl x H7 y7
    obtain ⟨ρ',b,⟨g,hg,hgd⟩,hext,hts,hel⟩:=turn' ds[i] (List.getElem_mem hlt)
    have rx7':af X'.K H7 (fun a b=>b=true->ow' a=none) ds[i] x:=by
     rw [eK]
     rcases hk with hk|hk
     ·exact rx7.flat _ (kP hk (List.getElem?_eq_getElem hlt))
     refine rx7.impH (fun a o ha p _=>?_) fun a _ z=>(by cases z)
     obtain ⟨p,p2⟩:=p
     obtain ⟨o2,ho2⟩:=p2 rfl
     show ow' a=none
     rw [ow'n a (aO ho2 hD2)]
     exact dW E.own hk p
    have E7:=E5.same sm7
    have I7':=I7.pinned (stat fr7) (T.obj _ _ st7)
    have hg':=hg _ s7 σ5 H7 x u (fun σ' H'=>aG X' ow' H' σ' ρ'/\H7=H') I7' r7 (hgd ow' x σ5 H7 _ I7.len E7 rx7' fun σ' _ e=>⟨e,rfl⟩)
    rw [eP,eW,eA,eE,eX] at hg'
    refine aF hg' fun _ s8 ⟨σ8,H8,I8,E8,eH8⟩=>?_
    subst eH8
    have ht':=hts ow' _ s8 σ8 H7 (fun c H'=>c=b/\av H7 H') I8 ⟨E8,fun H' sm=>⟨rfl,sm⟩⟩
    rw [eP,eW,eA,eE,eX] at ht'
    refine aF ht' fun c s9 ⟨H9,I9,ec,sm9⟩=>?_
    subst ec
    have back:∀{H':Hp} {σ':L2.St} {s':Shared},ah X' ([]++gB fp s7.heap) σ' H' s'->ah X' [] σ' H' s'/\tn (i+1) s'.heap/\∀b∈fp,H' b=none:=fun {H' σ' s'} J7=>by
     refine ⟨J7.unpinned,T.keep _ _ _ st7 fun b hb o e=>(J7.pin (b,o) (List.mem_append_right _ (List.mem_append_right _ (dw hb e)))).1,fun b hb=>?_⟩
     obtain ⟨o,e,d⟩:=T.obj _ _ st7 b hb
     exact (J7.pin (b,o) (List.mem_append_right _ (List.mem_append_right _ (dw hb e)))).2.1
    have envf:∀{H':Hp} {σ':L2.St},aG X' ow' H' σ' ρ'->aG X' ow' H' σ' (flt scope ρ):=fun {H' σ'} e=>⟨fun x d o h=>e.get x d o (hext x _ h),e.own⟩
    have tk:(ds.take (i+1)).filterMap f=(ds.take i).filterMap f++(f ds[i]).toList:=by
     rw [List.take_add_one]
     simp only [List.getElem?_eq_getElem hlt,Option.toList_some,List.filterMap_append]
     congr 1
    have sm59:av H5 H9:=sm7.trans sm9
    cases hc:c with
    | false =>
     rw [if_neg Bool.false_ne_true]
     subst hc
     obtain ⟨I9',st9,fr9⟩:=back I9
     have fn:f ds[i]=none:=by
      cases hf:f ds[i] with
      | none=>rfl
      | some d'=>rw [hf] at hel;cases hel.1
     refine ⟨ds.length - (i+1),by omega,i+1,σ8,H9,vs,I9',st9,fr9,envf (E8.same sm9),sm59 _ _ hD5,sm5.trans sm59,?_,hlt,rfl⟩
     rw [tk,fn,Option.toList_none,List.append_nil]
     exact rp5.same sm59
    | true =>
     rw [if_pos rfl]
     subst hc
     obtain ⟨d',fs,hed⟩:∃d',f ds[i]=some d'/\ED X' ρ' elt d' ko:=by
      cases hf:f ds[i] with
      | none=>rw [hf] at hel;cases hel
      | some d'=>rw [hf] at hel;exact ⟨d',rfl,hel.2⟩
     have he':=hed ow' _ s9 σ8 H9 (fun v H'=>av H9 H'/\af X'.K H' (Kp ow' H9 ko) d' v) I9 ⟨E8.same sm9,fun v H' a r=>⟨a,r⟩⟩
     rw [eP,eW,eA,eE,eX] at he'
     refine aF he' fun y s10 ⟨v10,H10,I10,r10,sm10,rp10⟩=>?_
     have sm510:=sm59.trans sm10
     have hD10:=sm510 _ _ hD5
     have hlv:vs.length < sizeLine:=by
      rw [<- rp5.length]
      refine Nat.lt_of_le_of_lt (List.length_filterMap_le _ _) ?_
      rw [List.length_take];omega
     have ha':=mD (X:=X') _ s10 σ8 H10 (.ref D) [v10] (.ref D) [y] (fun w H'=>aE H10 D (.lst (vs++[v10]))=H') I10 rfl (.cons r10 .nil) ⟨D,vs,v10,rfl,rfl,hD10,hlv,rfl⟩
     rw [eP,eW,eA,eX] at ha'
     refine aF ha' fun _ s11 ⟨w11,H11,I11,_,eH11⟩=>?_
     subst eH11
     obtain ⟨I11',st11,fr11⟩:=back I11
     have s2D:∀a o,H2 a=some o->a≠D:=fun a o e=>aO e hD2
     have stD:c8 Pe Pe H10 (aE H10 D (.lst (vs++[v10]))):=⟨fun a o h hn=>by rw [az (fun z=>by subst z;rw [hD10] at h;cases h;exact hn)];exact h,fun a ws h p=>by rw [az (p.2 rfl)];exact h,fun _ _ _ p=>p,fun _ p=>p⟩
     refine ⟨ds.length - (i+1),by omega,i+1,σ8,_,vs++[v10],I11',st11,fr11,?_,aJ,?_,?_,hlt,rfl⟩
     ·have E10:=envf ((E8.same sm9).same sm10)
      refine ⟨fun x d o h=>?_,own' _ aJ (fun a o e=>by rw [az (s2D a o e)];exact (sm5.trans sm510) a o e)⟩
      obtain ⟨i',v',e1,e2,e3,e4⟩:=E10.get x d o h
      refine ⟨i',v',e1,e2,e3,e4.mono ⟨fun a o h hn=>by rw [az (fun z=>by subst z;rw [hD10] at h;cases h;exact hn)];exact h,fun a ws h p=>?_,fun _ _ _ p=>p,fun _ p=>p⟩⟩
      have hz:a≠D:=by
       intro z;subst z
       cases o with
       | true=>have:=p.2;rw [ow'D] at this;cases this
       | false=>have:ow' a=none:=p rfl;rw [ow'D] at this;cases this
      rw [az hz];exact h
     ·intro a o e
      rw [az (s2D a o e)]
      exact (sm5.trans sm510) a o e
     ·rw [tk,fs,Option.toList_some]
      refine ((rp5.same sm510).mono stD).append (ag.one (af.mono stD ?_))
      rw [eK] at rp10
      have sH9:av H H9:=s12.trans (sm5.trans sm59)
      exact rp10.imp fun a b p=>zw sH9 (sm59 _ _ hD5) hko p
   ·have hstop:=itd5.2 (by omega)
    have Td:=T.done X' eP eW eK eC i [] s5 σ5 H5 (fun _ _=>False) I5 (stat fr5) st5 hstop
    rw [eA] at Td
    refine aF Td fun r s6 ⟨hr,I6⟩=>?_
    subst hr
    have ei:i=ds.length:=by omega
    subst ei
    rw [List.take_length] at rp5
    have hC:X'.env.locals=s3.heap.objs.size:=by rw [eE];rfl
    obtain ⟨m6,hn6,_⟩:=I6.loc
    rw [hC] at hn6
    have hfree:H5 s3.heap.objs.size=none:=by have:=I6.free;rw [hC] at this;exact this
    have IX:ah X pins σ H5 s6:=by
     have b6:=I6.base
     have o6:=I6.os
     have k6:=I6.hok
     have g6:=I6.bare
     rw [<- hX'] at b6 o6 k6
     exact I3.call' o6 b6 k6 g6 fun b hb=>⟨(f3 b hb).2.2.2.1,(f3 b hb).2.1,(f3 b hb).2.2.2.2.1,(f3 b hb).2.2.2.2.2⟩
    have hHD:H D=none:=s12.free hD2
    refine fin D _ s6 H5 m6 ⟨IX,hn6,hfree,Nat.ne_of_gt I3.lt,I3.sz,fun x c hc z=>?_,fun p hp z=>?_,I3.nofs (Nat.le_refl _)⟩ (s12.trans sm5) ?_
    ·obtain ⟨v,hv⟩:=I3.cell x c hc
     have:=hv.lt
     rw [z] at this;exact absurd this (Nat.lt_irrefl _)
    ·have:=Heap.lt_size (I3.pin p hp).1
     rw [z] at this;exact absurd this (Nat.lt_irrefl _)
    ·rw [af]
     exact ⟨D,vs,true,rfl,hD5,uA E.own hHD hko,rp5.imp fun _ _ p=>p.1⟩
  ·exact T.keep 0 s2.heap h₁ st2 fun b hb o e=>kp b o (by rw [<- hs3];exact Heap.get?_push_of_some _ e)
  ·exact ag.nil
 exact codeAny_compStart_list loop (T.self _ 0 _ _ _ (T.keep 0 s2.heap h₁ st2 fun b hb o e=>kp b o (by rw [<- hs3];exact Heap.get?_push_of_some _ e)) loop)
theorem jD.done {pins:List (Addr×Obj)} {σ:L2.St} {H5:Hp} {s6:Shared} {C:Addr} {m6:Str->Option Value} (e:jD X pins σ H5 s6 C m6) {h':Heap} (sb:Heap.SameBut C s6.heap h'):ah X pins σ H5 { s6 with heap:=h' } :=
 e.inv.turned (t':=s6.toks) (it:=C) (fun b o hb e=>sb.extBut b o hb e) e.free e.loc (.inr e.old) e.cell e.pin
theorem Ac {ρ:ae} {tg elt iter:Expr} {ifs:List Expr} {scope:Scope} {pos:Pos} {ds:List D} {f:D->Option D} {k ko:Nat} {N':List Str}
  (hcalm:X.calm=true) (hN:X.N.Nodup) (hk:ax ds=true\/k<=1) (hko:ko<=1) (hlen:ds.length < sizeLine) (S:fe X.env scope N') (hsub:∀x d o,flt scope ρ x=some (d,o)->x∈N')
  (hi:IE X ρ tg iter ds k)
  (turn:∀cl C s H fp,∀d∈ds,jB (iS X scope cl C N' s H fp) (flt scope ρ) tg ifs elt ko d (f d))
  (hs:∀x,foldedSetIterable iter X.env x=pure x:=by intro _;rfl) :
  ED X ρ (.ListComp elt [⟨tg,iter,ifs,0⟩] scope pos) (.lst (ds.filterMap f)) ko:=by
 intro ow pins s σ H Q I ⟨E,q⟩
 rw [eval_ListComp]
 refine mK hcalm hN hk hko hlen S hsub hi turn hs I E fun D C s6 H5 m6 ce sm rp=>?_
 exact ⟨m6,ce.ns,fun h' sb=>⟨.ref D,H5,ce.done sb,rfl,q (.ref D) H5 sm rp⟩⟩
theorem y8 {D0:ib} {ow:Ow} {x:Str} {px spos:Pos} {pins:List (Addr×Obj)} {s:Shared} {σ:L2.St} {H:Hp} {ρ:ae} {tg elt iter:Expr} {ifs:List Expr} {scope:Scope} {pos:Pos} {ds:List D} {f:D->Option D} {k ko:Nat} {N':List Str} {i:Nat}
  (hcalm:X.calm=true) (hN:X.N.Nodup) (hk:ax ds=true\/k<=1) (hko:ko<=1) (hlen:ds.length < sizeLine) (S:fe X.env scope N') (hsub:∀x d o,flt scope ρ x=some (d,o)->x∈N')
  (hi:IE X ρ tg iter ds k)
  (turn:∀cl C s H fp,∀d∈ds,jB (iS X scope cl C N' s H fp) (flt scope ρ) tg ifs elt ko d (f d))
  (hs:∀x,foldedSetIterable iter X.env x=pure x) (I:ah X pins σ H s) (E:aG X ow H σ ρ)
  (hsw:swapsWith (.ListComp elt [⟨tg,iter,ifs,0⟩] scope pos) (some (.Name x px)) spos.line X.env=pure true)
  (hx:X.N[i]?=some x) (hl:pA X.env.scope x) (hf:X.fn x=true\/X.env.scope.names.lookup x=some .local)
  (q:∀v H',av H H'->af X.K H' (Kp ow H ko) (.lst (ds.filterMap f)) v->D0.nx (σ.set i (some v)) H') :
  wpAny (model X.prog X.w) X.A (exec (.Assign [.Name x px] (.ListComp elt [⟨tg,iter,ifs,0⟩] scope pos) spos) X.env) (SP X pins D0) X.xe s:=by
 rw [exec_Assign_Name_used _ _ _ _ hsw]
 refine wpAny_bind (wpAny_standAt (wpAny_bind ?_))
 show wpAny _ X.A (do let _ <- comprehension (.ListComp elt [⟨tg,iter,ifs,0⟩] scope pos) scope X.env _ (newList []) false (eval iter X.env) (some (assign (.Name x px) X.env))) _ _ s
 refine wpAny_bind (wpAny_mono (mK (use:=some (assign (.Name x px) X.env)) (Q':=fun _ s'=>SP X pins D0 .next s') hcalm hN hk hko hlen S hsub hi turn hs I E fun D C s6 H5 m6 ce sm rp=>?_) (fun _ s' hq=>wpAny_pure (wpAny_pure hq)) fun _ _ e=>e)
 obtain ⟨o,es,ep,ho,hd,hrest⟩:=id ce.ns
 have Ip:ah X (pins++[(C,o)]) σ H5 s6:=ce.inv.pins_of fun p hp=>by
  rcases List.mem_append.mp hp with z|z
  ·exact ce.inv.pin p (List.mem_append_right _ z)
  ·have e:p=(C,o):=by simpa using z
   subst e
   exact ⟨ho,ce.free,ce.loc,ce.fs,fun v z=>by rw [hd] at z;cases z⟩
 show wpAny _ X.A (assign (.Name x px) X.env (.ref D)) _ _ _
 refine aF (gC (i:=i) hN hx hl hf (pins++[(C,o)]) s6 σ H5 (.ref D) (.ref D) (fun σ' H'=>σ.set i (some (.ref D))=σ'/\H5=H') Ip rfl ⟨rfl,rfl⟩) fun _ s7 ⟨σ7,H7,I7,e1,e2⟩=>?_
 subst e1 e2
 have pC:=(I7.pin (C,o) (List.mem_append_right _ (List.mem_append_right _ (by simp)))).1
 refine ⟨m6,⟨o,es,ep,pC,hd,hrest⟩,fun h' sb=>?_⟩
 have ce':jD X pins (σ.set i (some (.ref D))) H5 s7 C m6:=⟨I7.unpinned,⟨o,es,ep,pC,hd,hrest⟩,ce.free,ce.loc,ce.old,ce.cell,ce.pin,ce.fs⟩
 exact ⟨_,H5,ce'.done sb,q (.ref D) H5 sm rp⟩
end Sp
namespace Sp
open PySem PySem.Spec PyProof.Rows L2
mutual
def D.py:D->PyData
 | .non=>.none
 | .bl b=>.bool b
 | .int i=>.int i
 | .str x=>.str x
 | .dct _ _=>.dict []
 | .typ _=>.dict []
 | .sn _=>.dict []
 | .obj _ _ _=>.dict []
 | .cls _=>.dict []
 | .xc _ _=>.dict []
 | .tup l=>.tuple (d6 l)
 | .lst l=>.list (d6 l)
def d6:List D->List PyData
 | []=>[]
 | d::l=>d.py::d6 l
end
inductive Rs (α:Type) where
 | ok (a:α) (l:List Prop)
 | st
def aA:List Prop->Prop
 | []=>True
 | p::l=>p/\aA l
def Rs.bnd {α β:Type} (r:Rs α) (f:α->Rs β):Rs β :=
 match r with
 | .st=>.st
 | .ok a l=>match f a with
  | .st=>.st
  | .ok b m=>.ok b (l++m)
def J9 {α:Type}:Option α->Rs α
 | some a=>.ok a []
 | none=>.st
def gd (b:Bool):List Prop->List Prop
 | []=>[]
 | m=>[b=true->aA m]
abbrev R1:=Rs (D×Nat)
def mk (d:D) (k:Nat):R1:=.ok (d,kn d k) []
structure Fx where
 fn:Str->Option (List D->Rs D)
 con:Str->Option D
 blt:Str->Option (List D->R1)
 itr:Str->Option (List D->Nat->R1)
 mth:Str->Option (D->List D->R1)
 mtt:Str->Option (List D->List D->Nat->Rs (List D))
 slf:D->Option Int->Option Int->R1:=fun _ _ _=>.st
 fld:Str->Str->Bool:=fun _ _=>false
 omt:Str->Str->Option (List D->Rs D):=fun _ _=>none
def ya:Const->Option D
 | .none=>some .non
 | .bool b=>some (.bl b)
 | .int i=>some (.int i)
 | .str x=>some (.str x)
 | _=>none
def vp:Nat:=2 ^ 9000
def dv (a b:Int):Prop:=a.natAbs < 2 ^ 64\/b.natAbs < 2 ^ 64\/(a.natAbs < vp/\b.natAbs < vp)\/(Builtin.Int.intBits a<=2 ^ 22/\Builtin.Int.intBits b<=2 ^ 22)
def k8 (b:Int):Prop:=b≠0/\b.natAbs < vp
def rE (a b:Int):Prop:=0<=b/\b<=1000/\a.natAbs < 2 ^ 64
def bN:Nat:=40000
def wM (op:Operator) (a b:Int):R1 :=
 match op with
 | .Add=>.ok (.int (a+b),0) []
 | .Sub=>.ok (.int (a - b),0) []
 | .Mult=>.ok (.int (a*b),0) [dv a b]
 | .FloorDiv=>.ok (.int (a.fdiv b),0) [k8 b]
 | .Mod=>.ok (.int (a.fmod b),0) [b≠0]
 | .Pow=>.ok (.int (a ^ b.toNat),0) [rE a b]
 | _=>.st
def r8:Operator->Bool
 | .Add=>true
 | _=>false
def sB (op:Operator) (x y:D) (k j:Nat):R1 :=
 match x,y with
 | .int a,.int b=>wM op a b
 | .str a,.str b=>if r8 op=true then .ok (.str (a++b),0) [a.length+b.length<=bN] else .st
 | .lst a,.lst b=>if r8 op=true then .ok (.lst (a++b),0) [ax (a++b)=true,a.length+b.length<=bN] else .st
 | _,_=>.st
def tj (op:UnaryOp) (x:D):Option D :=
 match op,x with
 | .USub,.int a=>some (.int (-a))
 | .Not,.bl b=>some (.bl (!b))
 | _,_=>none
def dP (x y:D):Bool:=SeqAt.shaped x.py&&SeqAt.shaped y.py
def eD (x y:D):Bool:=PyData.eqv x.py y.py
def Ck:List D->Option (List Int)
 | []=>some []
 | .int i::l=>(Ck l).map (i :: ·)
 | _::_=>none
def rP (x:D) (l:List D):Rs Bool:=.ok (l.any fun y=>eD y x) [dP (.tup l) x=true]
def D.isNon:D->Bool
 | .non=>true
 | _=>false
def fW:D->Option (List D)
 | .tup l=>some l
 | .lst l=>some l
 | _=>none
def eN (op:CmpOp) (a b:Int):Option Bool :=
 match op with
 | .Lt=>some (decide (a < b))
 | .LtE=>some (decide (a<=b))
 | .Gt=>some (decide (b < a))
 | .GtE=>some (decide (b<=a))
 | _=>none
def rJ (op:CmpOp) (x y:D):Option Bool :=
 match x,y with
 | .int a,.int b=>eN op a b
 | _,_=>none
def Rs.nt:Rs Bool->Rs Bool
 | .ok b l=>.ok (!b) l
 | .st=>.st
def keyD:D->Option cH
 | .int i=>some (.inl i)
 | .str x=>some (.inr x)
 | _=>none
def dGet (ks:List cH) (ds:List D) (k:cH):Option D:=((ks.zip ds).find? fun p=>decide (p.1=k)).map (·.2)
def Cq (ks:List cH) (k:cH):Bool:=ks.any fun j=>decide (j=k)
def dPutK (ks:List cH) (k:cH):List cH:=cond (Cq ks k) ks (ks++[k])
def dPutV {α:Type} (ks:List cH) (ds:List α) (k:cH) (d:α):List α:=cond (Cq ks k) (List.zipWith (fun j e=>if j=k then d else e) ks ds) (ds++[d])
def xQ (x y:D):Rs Bool :=
 match y with
 | .tup l=>rP x l
 | .lst l=>rP x l
 | .dct _ _=>.st
 | .str b=>(match x with | .str a=>.ok (Txt.contains b a) [] | _=>.st)
 | _=>.st
def iW (op:CmpOp) (x y:D):Rs Bool :=
 match op with
 | .Eq=>.ok (eD x y) [dP x y=true]
 | .NotEq=>.ok (!eD x y) [dP x y=true]
 | .In=>xQ x y
 | .NotIn=>(xQ x y).nt
 | .Is=>(match y with | .non=>.ok x.isNon [] | _=>.st)
 | .IsNot=>(match y with | .non=>.ok (!x.isNon) [] | _=>.st)
 | op=>J9 (rJ op x y)
def D.ty0:D->Option String
 | .non=>some "NoneType"
 | .bl _=>some "bool"
 | .int _=>some "int"
 | .str _=>some "str"
 | .dct _ _=>some "dict"
 | .tup _=>some "tuple"
 | .lst _=>some "list"
 | _=>none
def Ci (x:D) (T:String):Option Bool:=x.ty0.map fun a=>decide (a=T) || decide (a = "bool" /\ T = "int")
def qW (x:Str):Option String :=
 if x = "int" then some "int" else if x = "bool" then some "bool" else if x = "str" then some "str" else if x = "tuple" then some "tuple" else if x = "list" then some "list" else if x = "ValueError" then some "ValueError" else none
def bP:List D->Option (List Bool)
 | []=>some []
 | .bl i::l=>(bP l).map (i :: ·)
 | _::_=>none
def fQ:List Str:=["len", "tuple", "list", "abs", "all", "sum", "isinstance", "set", "int", "bool", "str", "range", "zip", "enumerate", "any", "sorted", "min", "max", "reversed", "ValueError"]
def iR:Expr->Bool
 | .Tuple .. => true
 | _=>false
def cO (e tg:Expr):Bool :=
 match e with
 | .Call (.Name f _) _ _ _=>if f = "enumerate" \/ f = "zip" then iR tg else true
 | _=>true
def sgs (x:Str):List D:=x.cps.toList.map fun c=>.str ⟨#[c]⟩
def items:D->Option (List D)
 | .lst l=>some l
 | .tup l=>some l
 | .str x=>if (x.cps.all fun c=>decide (c < 128))=true then some (sgs x) else none
 | _=>none
def bn (ρ:ae) (x:Str) (y:D×Bool):ae:=fun z=>if z=x then some y else ρ z
def b9 (sc:Scope) (x:Str):Bool:=sc.names.lookup x==some .local || sc.names.lookup x==some .cell
def aN (sc:Scope):List Expr->List D->ae->Option ae
 | [],[],ρ=>some ρ
 | .Name x _::es,d::ds,ρ=>if b9 sc x=true then aN sc es ds (bn ρ x (d,false)) else none
 | _,_,_=>none
def bi (sc:Scope) (tg:Expr) (d:D) (ρ:ae):Option ae :=
 match tg with
 | .Name x _=>if b9 sc x=true then some (bn ρ x (d,false)) else none
 | .Tuple es _ _=>(match d with | .tup ds=>aN sc es ds ρ|_=>none)
 | _=>none
def iZ (sc scope:Scope):Bool :=
 decide (scope.kind=.function)&&scope.names.all (fun y=>decide (y.2 ≠ .local) || decide (scope.names.lookup y.1=some .local)) &&
 scope.names.all (fun y=>decide (y.2 ≠ .free) || b9 sc y.1&&decide (sc.names.lookup y.1=some .cell) || decide (sc.names.lookup y.1=some .free))&&decide ((scope.names.map (·.1)).Nodup)
def fq (step:D->Rs (Option (D×Nat))):List D->Rs (List D×Nat)
 | []=>.ok ([],0) []
 | d::l=>(step d).bnd fun r=>(fq step l).bnd fun q=>match r with
  | none=>.ok q []
  | some p=>.ok (p.1::q.1,kj p.2 q.2) []
def oO (x:D) (i:Int) (k:Nat):R1 :=
 match fW x with
 | some l=>(match atI l i with|some d=>mk d k|none=>.st)
 | none=>.st
def gW (p:D×Nat) (f:Int->R1):R1 :=
 match p.1 with
 | .int j=>f j
 | _=>.st
def jP (p q:D×Nat):R1 :=
 match p.1 with
 | .dct _ _=>.st
 | x=>gW q fun j=>oO x j p.2
def fO (l:List D) (lo hi:Option Int):List D:=(l.drop (HT.sIx l.length 0 lo)).take (HT.sIx l.length l.length hi - HT.sIx l.length 0 lo)
def C5 (l:List D) (lo hi:Option Int):Bool:=!(decide (HT.sIx l.length 0 lo=0)&&decide (HT.sIx l.length l.length hi=l.length))
def nW (x:D) (lo hi:Option Int):R1 :=
 match x with
 | .tup l=>.ok (.tup (fO l lo hi),0) [ax l=true,C5 l lo hi=true]
 | .lst l=>.ok (.lst (fO l lo hi),0) [ax l=true]
 | _=>.st
def eB (x:Str):Bool:=decide ((x==("__debug__" : Str))=false)&&decide ((x==("__classdict__" : Str))=false)
def sG (b:Bool) (r:Rs Bool):Rs Bool :=
 match r with
 | .ok c m=>.ok (b&&c) (gd b m)
 | .st=>match b with|false=>.ok false [] | true=>.st
def xD (b:Bool) (r:Rs Bool):Rs Bool :=
 match r with
 | .ok c m=>.ok (b || c) (gd (!b) m)
 | .st=>match b with|true=>.ok true [] | false=>.st
mutual
def lK (b:Bool):D->D->D
 | .int x,.int y=>.int (cond b x y)
 | .bl x,.bl y=>.bl (cond b x y)
 | .tup x,.tup y=>if x.length=y.length then .tup (iM b x y) else cond b (.tup x) (.tup y)
 | x,y=>cond b x y
def iM (b:Bool):List D->List D->List D
 | x::l,y::m=>lK b x y::iM b l m
 | l,m=>cond b l m
end
def uC (t:Bool) (k j:Nat):Nat:=if k=j then k else cond t k j
def xS (b:Bool) (r s:R1):R1 :=
 match r with
 | .st=>(match b with|true=>.st|false=>s)
 | .ok p m=>match s with
  | .st=>(match b with|true=>.ok p m|false=>.st)
  | .ok q n=>.ok (lK b p.1 q.1,uC b p.2 q.2) (gd b m++gd (!b) n)
def gU (Φ:Fx) (x:Str) (sc:Scope) (ρ:ae):R1 :=
 if eB x=true then
  (if sc.names.lookup x=some .globalImplicit then (match Φ.con x with|some d=>.ok (d,0) [] | none=>match qW x with|some T=>.ok (.typ T,0) [] | none=>.st)
  else match ρ x with
   | some p=>mk p.1 (cond p.2 2 1)
   | none=>.st)
 else .st
def hX (Φ:Fx) (f:Str) (it:Bool) (ds:List D) (k:Nat):R1 :=
 match Φ.fn f with
 | some F=>(F ds).bnd fun d=>.ok (d,0) []
 | none=>match (if it=true then Φ.itr f else none) with
  | some B=>B ds k
  | none=>match Φ.blt f with
   | some B=>B ds
   | none=>.st
def i5 {α:Type} (p:D×Nat) (f:Bool->Rs α):Rs α :=
 match p.1 with
 | .bl j=>f j
 | _=>.st
def Cw (Φ:Fx) (x:D) (f:Str):R1 :=
 match x with
 | .obj n ns ds=>if Φ.fld n f=true then (match (ns.zip ds).lookup f with|some d=>.ok (d,0) [] | none=>.st) else .st
 | .xc _ (some (_,[(g,i)]))=>if f=g then .ok (.int i,0) [] else .st
 | _=>.st
def eu:Expr->Bool
 | .Call (.Name _ _) [] [] _=>false
 | _=>true
def wj (Φ:Fx) (a:Expr) (m:Str) (x:D) (ds:List D):R1 :=
 if eu a=true then (match Φ.mth m with|some M=>M x ds|none=>.st) else .st
def C8 (op op2:CmpOp) (x y z:D):R1 :=
 match x,y,z with
 | .int a,.int b,.int c=>(match eN op a b,eN op2 b c with|some r,some r2=>.ok (.bl (r&&r2),0) [] | _,_=>.st)
 | _,_,_=>.st
mutual
def ar (Φ:Fx):Expr->Bool->Scope->ae->R1
  | .Constant c _ _,_,_,_=>(match ya c with|some d=>.ok (d,0) [] | none=>.st)
  | .Name x _,_,sc,ρ=>gU Φ x sc ρ
  | .BinOp a op b _,_,sc,ρ=>(ar Φ a false sc ρ).bnd fun p=>(ar Φ b false sc ρ).bnd fun q=>sB op p.1 q.1 p.2 q.2
  | .UnaryOp op a _,_,sc,ρ=>(ar Φ a false sc ρ).bnd fun p=>(match tj op p.1 with|some d=>.ok (d,0) [] | none=>.st)
  | .BoolOp op es _,_,sc,ρ=>if es.isEmpty=true then .st else (cQ Φ op es sc ρ).bnd fun b=>.ok (.bl b,0) []
  | .Compare a [op] [b] _,_,sc,ρ=>(ar Φ a false sc ρ).bnd fun p=>(ar Φ b false sc ρ).bnd fun q=>(iW op p.1 q.1).bnd fun r=>.ok (.bl r,0) []
  | .Compare a [op,op2] [b,c] _,_,sc,ρ=>(ar Φ a false sc ρ).bnd fun p=>(ar Φ b false sc ρ).bnd fun q=>(ar Φ c false sc ρ).bnd fun t=>C8 op op2 p.1 q.1 t.1
  | .IfExp c a b _,_,sc,ρ=>(ar Φ c false sc ρ).bnd fun p=>i5 p fun t=>xS t (ar Φ a false sc ρ) (ar Φ b false sc ρ)
  | .Tuple es _ _,_,sc,ρ=>(bq Φ es sc ρ).bnd fun p=>if p.1.length<=bN then mk (.tup p.1) p.2 else .st
  | .List es _,_,sc,ρ=>(bq Φ es sc ρ).bnd fun p=>if p.1.length<=bN/\p.2<=1 then .ok (.lst p.1,p.2) [] else .st
  | .Subscript a (.Slice lo hi none _) _,_,sc,ρ=>(ar Φ a false sc ρ).bnd fun p=>(jJ Φ lo sc ρ).bnd fun l=>(jJ Φ hi sc ρ).bnd fun h=>Φ.slf p.1 l h
  | .Subscript a i _,_,sc,ρ=>(ar Φ a false sc ρ).bnd fun p=>(ar Φ i false sc ρ).bnd fun q=>jP p q
  | .Call (.Name f _) args [] _,it,sc,ρ =>
    if sc.names.lookup f=some .globalImplicit then (bq Φ args sc ρ).bnd fun p=>hX Φ f it p.1 p.2
    else .st
  | .Attribute (.Name x _) f _,_,sc,ρ=>(gU Φ x sc ρ).bnd fun p=>Cw Φ p.1 f
  | .Call (.Attribute a m ap) args [] cp,_,sc,ρ=>if (ap.endLine==cp.line)=true then (ar Φ a false sc ρ).bnd fun p=>(bq Φ args sc ρ).bnd fun q=>wj Φ a m p.1 q.1 else .st
  | .ListComp elt [⟨tg,iter,ifs,0⟩] scope _,_,sc,ρ =>
    if iZ sc scope=true then (ar Φ iter true sc ρ).bnd fun p=>(match items p.1 with
      | some ds=>if cO iter tg=true then
          (Rs.ok () [ds.length<=bN,ax ds=true\/p.2<=1]).bnd fun _=>(fq (fun d=>match bi scope tg d (flt scope ρ) with
            | none=>.st
            | some ρ'=>(cQ Φ .And ifs scope ρ').bnd fun b=>cond b ((ar Φ elt false scope ρ').bnd fun r=>.ok (some r) []) (.ok none [])) ds).bnd fun q=>if q.2<=1 then .ok (.lst q.1,q.2) [] else .st
        else .st
      | none=>.st)
    else .st
  | _,_,_,_=>.st
def bq (Φ:Fx):List Expr->Scope->ae->Rs (List D×Nat)
 | [],_,_=>.ok ([],0) []
 | e::es,sc,ρ=>(ar Φ e false sc ρ).bnd fun p=>(bq Φ es sc ρ).bnd fun q=>.ok (p.1::q.1,kj p.2 q.2) []
def cQ (Φ:Fx):BoolOp->List Expr->Scope->ae->Rs Bool
 | .And,[],_,_=>.ok true []
 | .Or,[],_,_=>.ok false []
 | .And,e::es,sc,ρ=>(ar Φ e false sc ρ).bnd fun p=>i5 p fun b=>sG b (cQ Φ .And es sc ρ)
 | .Or,e::es,sc,ρ=>(ar Φ e false sc ρ).bnd fun p=>i5 p fun b=>xD b (cQ Φ .Or es sc ρ)
def jJ (Φ:Fx):Option Expr->Scope->ae->Rs (Option Int)
 | none,_,_=>.ok none []
 | some e,sc,ρ=>(ar Φ e false sc ρ).bnd fun p=>(match p.1 with | .int i=>.ok (some i) [] | _=>.st)
end
theorem lV {Φ:Fx} {op:BoolOp} {es:List Expr} {p:Pos} {it:Bool} {sc:Scope} {ρ:ae}:ar Φ (.BoolOp op es p) it sc ρ=(if es.isEmpty=true then .st else (cQ Φ op es sc ρ).bnd fun b=>.ok (.bl b,0) []):=rfl
theorem fM {Φ:Fx} {f:Str} {args:List Expr} {p q:Pos} {it:Bool} {sc:Scope} {ρ:ae}:ar Φ (.Call (.Name f p) args [] q) it sc ρ=(if sc.names.lookup f=some .globalImplicit then (bq Φ args sc ρ).bnd fun p=>hX Φ f it p.1 p.2 else .st):=rfl
theorem hJ {Φ:Fx} {a:Expr} {m:Str} {args:List Expr} {ap cp:Pos} {it:Bool} {sc:Scope} {ρ:ae}:ar Φ (.Call (.Attribute a m ap) args [] cp) it sc ρ=(if (ap.endLine==cp.line)=true then (ar Φ a false sc ρ).bnd fun p=>(bq Φ args sc ρ).bnd fun q=>wj Φ a m p.1 q.1 else .st):=rfl
theorem lU {Φ:Fx} {elt tg iter:Expr} {ifs:List Expr} {scope:Scope} {q:Pos} {it:Bool} {sc:Scope} {ρ:ae}:ar Φ (.ListComp elt [⟨tg,iter,ifs,0⟩] scope q) it sc ρ=(if iZ sc scope=true then (ar Φ iter true sc ρ).bnd fun p=>(match items p.1 with
      | some ds=>if cO iter tg=true then
          (Rs.ok () [ds.length<=bN,ax ds=true\/p.2<=1]).bnd fun _=>(fq (fun d=>match bi scope tg d (flt scope ρ) with
            | none=>.st
            | some ρ'=>(cQ Φ .And ifs scope ρ').bnd fun b=>cond b ((ar Φ elt false scope ρ').bnd fun r=>.ok (some r) []) (.ok none [])) ds).bnd fun q=>if q.2<=1 then .ok (.lst q.1,q.2) [] else .st
        else .st
      | none=>.st)
    else .st):=rfl
end Sp
namespace Sp
open PySem PySem.Spec PyProof.Rows L2
inductive Fl where
 | nx (ρ:ae) | rt (d:D) | bk (ρ:ae) | ct (ρ:ae)
def gI:Expr->Bool
 | .ListComp .. => true
 | .SetComp .. => true
 | .DictComp .. => true
 | _=>false
def rq (l:List D) (i:Int) (d:D):Option (List D):=(im l.length i).map fun j=>l.set j d
def jH (f:ae->Rs Fl):Fl->Rs Fl
 | .nx ρ=>f ρ
 | .ct ρ=>f ρ
 | .bk ρ=>.ok (.nx ρ) []
 | .rt d=>.ok (.rt d) []
def cK (bind:D->ae->Option ae) (body:ae->Rs Fl):List D->ae->Rs Fl
 | [],ρ=>.ok (.nx ρ) []
 | d::l,ρ=>match bind d ρ with
  | none=>.st
  | some ρ1=>(body ρ1).bnd (jH (cK bind body l))
def mv (test:ae->Rs Bool) (body:ae->Rs Fl):Nat->ae->Rs Fl
 | 0,_=>.st
 | n+1,ρ=>(test ρ).bnd fun b=>cond b ((body ρ).bnd (jH (mv test body n))) (.ok (.nx ρ) [])
def demX (x:Str) (ρ:ae):ae:=fun y=>if y=x then (ρ y).map fun p=>(p.1,false) else ρ y
def demA (x:Str) (ρ:ae):ae:=fun y=>if y=x then (ρ y).map fun p=>(p.1,p.2&&p.1.lless) else ρ y
def demL:List Expr->ae->ae
 | [],ρ=>ρ
 | .Name x _::es,ρ=>demL es (demA x ρ)
 | .Subscript (.Name x _) _ _::es,ρ=>demL es (demA x ρ)
 | _::es,ρ=>demL es ρ
def demote (e:Expr) (ρ:ae):ae :=
 match e with
 | .Name x _=>demX x ρ
 | .Subscript (.Name x _) _ _=>demX x ρ
 | .Call _ args _ _=>demL args ρ
 | _=>ρ
def lE (sc:Scope) (x:Str) (p:D×Nat) (ρ:ae):Rs Fl :=
 if b9 sc x=true then
  match p.2 with
  | 0=>.ok (.nx (bn ρ x (p.1,true))) []
  | 1=>.ok (.nx (bn ρ x (p.1,false))) []
  | _=>.st
 else .st
def oj (ρ:ae) (x:Str) (f:List D->Rs Fl):Rs Fl :=
 match ρ x with
 | some (.lst l,true)=>if eB x=true then f l else .st
 | _=>.st
def kI (sc:Scope) (x y:Str) (px py:Pos) (a b:Expr):Bool :=
 sc.names.lookup x==some .local&&sc.names.lookup y==some .local&&(px.line==py.line) && !decide (x=y) && !([a,b].all (foldedForSure 8)) && !([a,b].all (constantsAlone 8))
def nq (Φ:Fx) (es:List Expr) (e:Expr) (sc:Scope) (ρ:ae):Rs Fl :=
  match es,e with
  | [.Name x px,.Name y py],.Tuple [a,b] _ _=>if kI sc x y px py a b=true then (bq Φ [a,b] sc ρ).bnd fun p=>(match p.1 with
      | [u,v]=>if ax [u,v]=true\/p.2<=1 then .ok (.nx (bn (bn ρ x (u,false)) y (v,false))) [] else .st
      | _=>.st) else .st
  | _,_=>.st
def pe (sc:Scope) (es:List Expr) (e:Expr):Bool :=
 match es,e with
 | [.Name x _,.Name _ _],.Tuple [_,_] _ _=>sc.names.lookup x==some .cell
 | _,_=>false
def tJ (sc:Scope) (es:List Expr) (e:Expr):Bool:=iR e && !pe sc es e
def wc (sc:Scope) (es:List Expr) (p:D×Nat):Bool :=
 match es,p.1,p.2 with
 | [.Name x _,.Name y _],.tup [d1,d2],0=>d1.lless && !d2.lless && !decide (x=y)&&b9 sc x&&b9 sc y
 | _,_,_=>false
def vY (es:List Expr) (p:D×Nat) (ρ:ae):ae :=
 match es,p.1 with
 | [.Name x _,.Name y _],.tup [d1,d2]=>bn (bn ρ y (d2,true)) x (d1,false)
 | _,_=>ρ
def FU (_:Expr):Bool:=true
def rg (ρ:ae) (x:Str) (i d:D):Rs Fl :=
 match ρ x with
 | some (.lst l,true)=>(match i with | .int j=>if eB x=true then (match rq l j d with|some l'=>.ok (.nx (bn ρ x (.lst l',true))) [ax l=true,d.lless=true] | none=>.st) else .st|_=>.st)
 | some (.dct _ _,true)=>.st
 | _=>.st
def kW (Φ:Fx) (tgs:List Expr) (e:Expr) (sc:Scope) (ρ:ae):Rs Fl :=
  match tgs with
  | [.Name x _]=>(ar Φ e false sc ρ).bnd fun p=>lE sc x p ρ
  | [.Tuple es _ _]=>if tJ sc es e=true then nq Φ es e sc ρ else (ar Φ e false sc ρ).bnd fun p=>if wc sc es p=true then .ok (.nx (vY es p ρ)) [] else (match fW p.1 with
      | some ds=>if ax ds=true\/p.2<=1 then (match aN sc es ds ρ with|some ρ'=>.ok (.nx ρ') [] | none=>.st) else .st
      | none=>.st)
  | [.Subscript (.Name x _) i _]=>if FU e=true then (ar Φ e false sc ρ).bnd fun p=>(ar Φ i false sc ρ).bnd fun q=>rg ρ x q.1 p.1
    else .st
  | _=>.st
def wV (op:Operator) (a b:Int):R1 :=
 match op with
 | .Add=>.ok (.int (a+b),0) []
 | .Sub=>.ok (.int (a - b),0) []
 | .Mult=>.ok (.int (a*b),0) [dv a b]
 | .FloorDiv=>.ok (.int (a.fdiv b),0) [k8 b]
 | _=>.st
def kU (Φ:Fx) (t:Expr) (op:Operator) (e:Expr) (sc:Scope) (ρ:ae):Rs Fl :=
  match t with
  | .Name x _=>if b9 sc x=true then (match ρ x with
      | some p=>gW (p.1,0) (fun a=>(ar Φ e false sc ρ).bnd fun q=>gW q fun b=>wV op a b) |>.bnd fun r=>.ok (.nx (bn ρ x (r.1,true))) []
      | none=>.st) else .st
  | _=>.st
def g7 (Φ:Fx) (e:Expr) (sc:Scope) (ρ:ae):Rs Fl :=
  match e with
  | .Call (.Attribute (.Name x _) m ap) args [] cp=>if (ap.endLine==cp.line)=true then (bq Φ args sc ρ).bnd fun p=>(match Φ.mtt m with
      | some M=>oj ρ x fun l=>(M l p.1 p.2).bnd fun l'=>.ok (.nx (bn ρ x (.lst l',true))) []
      | none=>.st) else .st
  | .Call (.Name f p) args ks cp=>(ar Φ (.Call (.Name f p) args ks cp) false sc ρ).bnd fun _=>.ok (.nx ρ) []
  | _=>.st
def ej (ρ:ae):ae:=fun y=>(ρ y).map fun p=>(p.1,false)
def xE:Expr->Bool
 | .ListComp elt _ _ _=>gI elt
 | _=>false
def nj:Expr->Bool
 | .Tuple es _ _=>es.any xE
 | e=>xE e
def nY (e:Expr) (ρ:ae):ae:=cond (nj e) (ej ρ) ρ
def rA (p:D×Nat):Rs Fl:=if p.2=0\/p.2=2 then .ok (.rt p.1) [] else .st
mutual
def ef (Φ:Fx):Stmt->Scope->ae->Rs Fl
  | .Return (some e) _,sc,ρ=>(ar Φ e false sc (nY e ρ)).bnd rA
  | .Return none _,_,_=>.ok (.rt .non) []
  | .Pass _,_,ρ=>.ok (.nx ρ) []
  | .Break _,_,ρ=>.ok (.bk ρ) []
  | .Continue _,_,ρ=>.ok (.ct ρ) []
  | .Assign tgs e _,sc,ρ=>kW Φ tgs e sc ρ
  | .AugAssign t op e _,sc,ρ=>kU Φ t op e sc ρ
  | .Expr e _,sc,ρ=>g7 Φ e sc ρ
  | .If c a b _,sc,ρ=>(ar Φ c false sc ρ).bnd fun p=>i5 p fun t=>cond t (ay Φ a sc ρ) (ay Φ b sc ρ)
  | .For tg it body els _,sc,ρ=>if els.isEmpty=true then (ar Φ it true sc (demote it ρ)).bnd fun p=>(match items p.1 with
      | some ds=>if p.2<=1/\cO it tg=true then cK (bi sc tg) (ay Φ body sc) ds (demote it ρ) else .st
      | none=>.st)
    else .st
  | .While c body els _,sc,ρ=>if els.isEmpty=true then mv (fun ρ=>(ar Φ c false sc ρ).bnd fun p=>i5 p fun b=>.ok b []) (ay Φ body sc) bN ρ else .st
  | _,_,_=>.st
def ay (Φ:Fx):List Stmt->Scope->ae->Rs Fl
 | [],_,ρ=>.ok (.nx ρ) []
 | s::ss,sc,ρ=>(ef Φ s sc ρ).bnd fun
  | .nx ρ'=>ay Φ ss sc ρ'
  | f=>.ok f []
end
theorem lT {Φ:Fx} {tg it:Expr} {body els:List Stmt} {q:Pos} {sc:Scope} {ρ:ae}:ef Φ (.For tg it body els q) sc ρ=(if els.isEmpty=true then (ar Φ it true sc (demote it ρ)).bnd fun p=>(match items p.1 with
      | some ds=>if p.2<=1/\cO it tg=true then cK (bi sc tg) (ay Φ body sc) ds (demote it ρ) else .st
      | none=>.st)
    else .st):=rfl
theorem uR {Φ:Fx} {c:Expr} {body els:List Stmt} {q:Pos} {sc:Scope} {ρ:ae}:ef Φ (.While c body els q) sc ρ=(if els.isEmpty=true then mv (fun ρ=>(ar Φ c false sc ρ).bnd fun p=>i5 p fun b=>.ok b []) (ay Φ body sc) bN ρ else .st):=rfl
def b8:List Str->List D->ae
 | p::ps,d::ds=>fun z=>if z=p then some (d,false) else b8 ps ds z
 | _,_=>fun _=>none
def ci (Φ:Fx) (sc:Scope) (ps:List Str) (body:List Stmt) (ds:List D):Rs D :=
 if ds.length=ps.length then (ay Φ body sc (b8 ps ds)).bnd fun
  | .rt d=>.ok d []
  | .nx _=>.ok .non []
  | _=>.st
 else .st
def wP (ds:List D):R1 :=
 match ds with
 | [.sn n]=>.ok (.int n,0) []
 | [x]=>(match fW x with|some l=>.ok (.int l.length,0) [] | none=>.st)
 | _=>.st
def jf:List String:=["int", "bool", "str", "tuple", "list", "dict"]
def wR (ds:List D):R1 :=
 match ds with
 | [.obj m _ _,.cls n]=>if m=n then .ok (.bl true,0) [] else if m∈C7 then .ok (.bl (nN m n),0) [] else .st
 | [x,.typ T]=>if T∈jf then (match Ci x T with|some b=>.ok (.bl b,0) [] | none=>.st) else .st
 | _=>.st
def lm (ds:List D):R1 :=
 match ds with
 | [x]=>(match fW x with|some l=>.ok (.tup l,0) [ax l=true] | none=>.st)
 | _=>.st
def wU (ds:List D):R1 :=
 match ds with
 | [.int i]=>.ok (.int (if i < 0 then -i else i),0) []
 | _=>.st
def gq (ds:List D):R1 :=
 match ds with
 | [.lst l]=>(match bP l with|some bs=>.ok (.bl (bs.all id),0) [] | none=>.st)
 | _=>.st
def wT (ds:List D):R1 :=
 match ds with
 | [.int i]=>.ok (.int i,0) []
 | [.bl b]=>.ok (.int (cond b 1 0),0) []
 | _=>.st
def wN (ds:List D):R1 :=
 match ds with
 | [.int i]=>.ok (.str (toString i),0) [i.natAbs < 2 ^ 1900]
 | _=>.st
def iT (ds:List D) (_:Nat):R1 :=
 match ds with
 | [.int j]=>.ok (.lst ((List.range j.toNat).map fun i=>.int (i:Nat)),0) [-4611686018427387904<=j,j<=bN]
 | [.int i,.int j]=>.ok (.lst ((List.range (j - i).toNat).map fun m=>.int (i+(m:Nat))),0) [-4611686018427387904<=i,i<=4611686018427387000,-4611686018427387904<=j,j - i<=800]
 | _=>.st
def dg:Nat->List D->List D
 | _,[]=>[]
 | n,x::xs=>.tup [.int (n:Nat),x]::dg (n+1) xs
theorem lX:∀(l:List D) (n:Nat),dg n l=l.mapIdx fun i x=>.tup [.int ((n+i:Nat):Int),x]
 | [],_=>rfl
 | x::l,n=>by
  rw [dg,lX l (n+1),List.mapIdx_cons]
  simp only [Nat.add_zero]
  congr 1
  congr 1
  funext i y
  rw [show n+1+i=n+(i+1) by omega]
def se (ds:List D) (k:Nat):R1 :=
 match ds with
 | [.tup a]=>.ok (.lst (dg 0 a),0) [ax a=true]
 | [.lst a]=>.ok (.lst (dg 0 a),k) [ax a=true]
 | _=>.st
def jv (l ds:List D) (k:Nat):Rs (List D) :=
 match ds with
 | [d]=>.ok (l++[d]) [d.lless=true\/k=0,l.length < bN]
 | _=>.st
def lL (l ds:List D) (k:Nat):Rs (List D) :=
 match ds,k with
 | [.lst d],0=>.ok (l++d) [l.length+d.length<=bN]
 | _,_=>.st
def Tb (l:List (Str×(List D->Rs D))) (c:List (Str×D)) (b:List (Str×(List D->R1))) (i:List (Str×(List D->Nat->R1))) (m:List (Str×(D->List D->R1))) (t:List (Str×(List D->List D->Nat->Rs (List D)))) (sf:D->Option Int->Option Int->R1):Fx :=
 { slf:=sf,fn:=fun g=>l.lookup g,con:=fun x=>c.lookup x,blt:=fun x=>b.lookup x,itr:=fun x=>i.lookup x,mth:=fun x=>m.lookup x,mtt:=fun x=>t.lookup x }
end Sp
namespace Sp
open PySem PySem.Spec PyProof.Rows L2
variable {X:Cx}
theorem jr {k:Int} {n:Nat} (h:k.natAbs < 2 ^ n):Builtin.Int.intBits k<=n:=by
 unfold Builtin.Int.intBits
 split
 ·exact Nat.zero_le _
 ·rename_i h0
  have:k.natAbs.log2 < n:=by
   rcases Nat.eq_zero_or_pos k.natAbs with h1|hp
   ·exact absurd (by simpa using h1) (by simpa using h0)
   ·exact (Nat.log2_lt (Nat.ne_of_gt hp)).mpr h
  omega
theorem cN:∀{l m:List Prop},aA (l++m) ↔ aA l/\aA m
 | [],m=>by simp [aA]
 | p::l,m=>by
  show p/\aA (l++m) ↔ (p/\aA l)/\aA m
  rw [cN,and_assoc]
theorem aK {α β:Type} {r:Rs α} {f:α->Rs β} {b:β} {l:List Prop} (h:r.bnd f=.ok b l) (hp:aA l):∃a l1 l2,r=.ok a l1/\aA l1/\f a=.ok b l2/\aA l2:=by
 unfold Rs.bnd at h
 split at h
 ·cases h
 ·rename_i a l1
  split at h
  ·cases h
  ·rename_i b' m e
   cases h
   obtain ⟨h1,h2⟩:=cN.mp hp
   exact ⟨a,l1,m,rfl,h1,e,h2⟩
theorem kS {b:Bool} {m:List Prop} (h:aA (gd b m)) (hb:b=true):aA m:=by
 cases m with
 | nil=>exact True.intro
 | cons p l=>exact h.1 hb
theorem Eu {a b:Int} (h:Builtin.Int.intBits a<=2 ^ 22) (g:Builtin.Int.intBits b<=2 ^ 22):IntMulOk a b:=by
 have h':Builtin.Int.intTooBig (Builtin.Int.intBits a+Builtin.Int.intBits b)=false:=by
  unfold Builtin.Int.intTooBig bitsLine;exact decide_eq_false (by omega)
 unfold IntMulOk;rw [h'];simp
theorem ou {a b:Int} (h:dv a b):IntMulOk a b:=by
 rcases h with h|h | ⟨h,g⟩ | ⟨h,g⟩
 ·exact .of_left (jr h)
 ·exact .of_right (jr h)
 ·exact IntMulOk.of_bits (Nat.le_trans (jr h) (by decide)) (Nat.le_trans (jr g) (by decide))
 ·exact Eu h g
theorem zj:cf X (binaryOp .Mult) (rI (fun i j=>dv i j) fun i j=>.int (i*j)):=qg fun _ _ _ _ _ _ _ hc q=>mul_int q (ou hc)
theorem we:cf X (binaryOp .FloorDiv) (rI (fun _ j=>j≠0/\j.natAbs < vp) fun i j=>.int (i.fdiv j)):=qg fun i j _ _ _ _ _ hc q=>floordiv_int hc.1 q (.inl (PyProof.noPylong_of_log2 (by
 rcases Nat.eq_zero_or_pos j.natAbs with h1|hp
 ·exact absurd (by simpa using h1) hc.1
 ·exact (Nat.log2_lt (Nat.ne_of_gt hp)).mpr hc.2)))
mutual
theorem cJ {pins:List (Addr×Obj)} {σ:L2.St} {H:Hp} {s:Shared} (I:ah X pins σ H s) {P:aZ}:∀{d:D} {v:V} {u:Value},d.py.canLay0=true->af X.K H P d v->aM v u->∃as,Reads s.heap u d.py as
 | .non,v,u,_,h,r=>by
  rw [af] at h;subst h;cases (show u=Value.none from r);rw [D.py];exact ⟨_,.none⟩
 | .bl b,v,u,_,h,r=>by rw [af] at h;subst h;cases (show u=Value.bool b from r);rw [D.py];exact ⟨_,.bool b⟩
 | .int i,v,u,_,h,r=>by rw [af] at h;subst h;obtain ⟨t,e⟩:=(show ∃t,u=Value.int i t from r);subst e;rw [D.py];exact ⟨_,.int i t⟩
 | .str x,v,u,_,h,r=>by rw [af] at h;subst h;obtain ⟨t,e⟩:=(show ∃t,u=Value.str x t from r);subst e;rw [D.py];exact ⟨_,.str x t⟩
 | .dct _ _,v,u,c,h,r=>by rw [D.py] at c;simp [PyData.canLay0] at c
 | .typ _,v,u,c,h,r=>by rw [D.py] at c;simp [PyData.canLay0] at c
 | .sn _,v,u,c,h,r=>by rw [D.py] at c;simp [PyData.canLay0] at c
 | .obj _ _ _,v,u,c,h,r=>by rw [D.py] at c;simp [PyData.canLay0] at c
 | .cls _,v,u,c,h,r=>by rw [D.py] at c;simp [PyData.canLay0] at c
 | .xc _ _,v,u,c,h,r=>by rw [D.py] at c;simp [PyData.canLay0] at c
 | .tup l,v,u,c,h,r=>by
  rw [af] at h
  obtain ⟨a,vs,rfl,h,q⟩:=h
  cases (show u=Value.ref a from r)
  obtain ⟨its,rv,ht,_⟩:=I.tuple h
  obtain ⟨o,e1,e2,n,e3⟩:=ht
  rw [D.py] at c ⊢
  obtain ⟨as,ra⟩:=iH I (by simpa [PyData.canLay0] using c) q rv
  exact ⟨as,.tuple e1 e2 e3 (by simpa using ra)⟩
 | .lst l,v,u,c,h,r=>by
  rw [af] at h
  obtain ⟨a,vs,b,rfl,h,_,q⟩:=h
  cases (show u=Value.ref a from r)
  have hs:bR X.K H a vs:=h.sq
  obtain ⟨its,rv,ht,_⟩:=I.list hs
  obtain ⟨o,n,e1,e2,_,e3⟩:=ht
  rw [D.py] at c ⊢
  obtain ⟨as,ra⟩:=iH I (by simpa [PyData.canLay0] using c) q rv
  exact ⟨_,.list e1 e2 e3 (by simpa using ra)⟩
theorem iH {pins:List (Addr×Obj)} {σ:L2.St} {H:Hp} {s:Shared} (I:ah X pins σ H s) {P:aZ}:∀{l:List D} {vs:List V} {us:List Value},PyData.canLayAll0 (d6 l)=true->ag X.K H P l vs->aH vs us->∃as,ReadsAll s.heap us (d6 l) as
 | [],vs,us,_,h,r=>by rw [ag] at h;subst h;cases r;rw [d6];exact ⟨_,.nil⟩
 | d::l,vs,us,c,h,r=>by
  rw [ag] at h
  obtain ⟨v,vr,rfl,h1,h2⟩:=h
  cases r with
  | cons r1 r2 =>
   rw [d6,PyData.canLayAll0,Bool.and_eq_true] at c
   obtain ⟨as,ra⟩:=cJ I c.1 h1 r1
   obtain ⟨bs,rb⟩:=iH I c.2 h2 r2
   rw [d6]
   exact ⟨_,.cons ra rb⟩
end
def yo (X:Cx) (f:Value->Value->Sem Value) (x y z:D) (k j l:Nat):Prop :=
 ∃r:R2,cf X f r/\∀ow H0 H2 v u (Q:VK),dB ow H0->av H0 H2->af X.K H2 (Kp ow H0 k) x v->af X.K H2 (Kp ow H0 j) y u->(∀w H',av H2 H'->af X.K H' (Kp ow H0 l) z w->Q w H')->r v u H2 Q
theorem cu {H:Hp} {p:Addr} {o:HO} (h:H p=none):av H (aE H p o):=fun b x e=>by rw [az (aO e h)];exact e
theorem dN:bN<=sizeLine:=by rw [sizeLine_eq];decide
theorem iN:bN < sizeLine:=by rw [sizeLine_eq];decide
theorem jo {f:Value->Value->Sem Value} {a b:Int} {g:Int->Int->Int} {C:Int->Int->Prop} {k j:Nat} (h:cf X f (rI C fun i j=>.int (g i j))) (hc:C a b):yo X f (.int a) (.int b) (.int (g a b)) k j 0 :=
 ⟨_,h,fun ow H0 H2 v u Q o s rx ry q=>by
  rw [af] at rx ry;subst rx ry
  exact ⟨a,b,rfl,rfl,hc,q _ _ (av.refl _) (by rw [af])⟩⟩
theorem ol {f:Value->Value->Sem Value} {a b:Int} {g:Int->Int->Int} {k j:Nat} (h:cf X f (ij fun i j=>.int (g i j))):yo X f (.int a) (.int b) (.int (g a b)) k j 0 :=
 ⟨_,h,fun ow H0 H2 v u Q o s rx ry q=>by
  rw [af] at rx ry;subst rx ry
  exact ⟨a,b,rfl,rfl,q _ _ (av.refl _) (by rw [af])⟩⟩
theorem ik:∀{a b:List D},ax (a++b)=(ax a&&ax b)
 | [],b=>by simp [ax]
 | x::a,b=>by rw [List.cons_append,ax,ax,ik,Bool.and_assoc]
theorem Al {op:Operator} {a b:Int} {z:D} {k j l:Nat} {o:List Prop} (h:wM op a b=.ok (z,l) o) (hp:aA o):yo X (binaryOp op) (.int a) (.int b) z k j l:=by
 unfold wM at h
 split at h
 ·cases h;exact ol BM
 ·cases h;exact ol BI
 ·cases h;exact jo zj hp.1
 ·cases h;exact jo we hp.1
 ·cases h;exact jo zk hp.1
 ·cases h
  have c:rE a b:=hp.1
  exact jo BJ ⟨c.1,by have:=c.2.1;omega,c.2.2⟩
 ·cases h
theorem oP {op:Operator} (h:r8 op=true):op=.Add:=by cases op <;> first|rfl|cases h
theorem zl:cf X (binaryOp .Add) (fun x y H Q => ∃l b xs zs,x=.ref l/\y=.ref b/\bR X.K H l xs/\bR X.K H b zs/\xs.length+zs.length<=sizeLine/\∀p,H p=none->Q (.ref p) (aE H p (.lst (xs++zs)))):=by
 intro pins s σ H x y v u Q I rx ry h
 obtain ⟨l,b,xs,zs,rfl,rfl,hH,hB,hz,q⟩:=h
 cases rx
 cases ry
 obtain ⟨its,r,⟨⟨cls,dd,data,sl⟩,n,ho,hc,_,hd⟩,z⟩:=I.list hH
 obtain ⟨its2,r2,⟨⟨cls2,dd2,data2,sl2⟩,n2,ho2,hc2,_,hd2⟩,z2⟩:=I.list hB
 simp only at hc hd hc2 hd2
 subst hc hd hc2 hd2
 have l1:=r.length
 have l2:=r2.length
 refine concat_meets ⟨_,ho,rfl⟩ ⟨_,ho2,rfl⟩ noFill_list_add seq_list_add PySem.F.slot_list_add PySem.F.entry_list_add (PySem.F.args_list_add_2 _ _) (list_addW l b its.toArray its2.toArray n n2 dd dd2 sl sl2 (by rw [List.size_toArray,List.size_toArray];omega)) ⟨ho,ho2,?_⟩
 have ea:its.toArray++its2.toArray=(its++its2).toArray:=by simp
 rw [ea]
 exact ⟨.ref _,_,I.lnew (t':=s.toks) (r.append r2) (by rw [List.length_append];omega),rfl,q _ I.fresh⟩
theorem Du {op:Operator} {x y z:D} {k j l:Nat} {o:List Prop} (h:sB op x y k j=.ok (z,l) o) (hp:aA o):yo X (binaryOp op) x y z k j l:=by
 unfold sB at h
 split at h
 ·exact Al h hp
 ·rename_i a b
  split at h
  ·rename_i c;cases h
   cases oP c
   refine ⟨_,rL,fun ow H0 H2 v u Q o s rx ry q=>?_⟩
   rw [af] at rx ry;subst rx ry
   exact ⟨a,b,rfl,rfl,Nat.le_trans hp.1 dN,q _ _ (av.refl _) (by rw [af])⟩
  ·cases h
 ·rename_i a b
  split at h
  ·rename_i c;cases h
   cases oP c
   refine ⟨_,zl,fun ow H0 H2 v u Q o s rx ry q=>?_⟩
   rw [af] at rx ry
   obtain ⟨pa,va,b1,rfl,ha,qa,ra⟩:=rx
   obtain ⟨pb,vb,b2,rfl,hb,qb,rb⟩:=ry
   have la:=ra.length
   have lb:=rb.length
   have fl:=hp.1
   rw [ik,Bool.and_eq_true] at fl
   refine ⟨pa,pb,va,vb,rfl,rfl,ha.sq,hb.sq,by rw [<- la,<- lb];exact Nat.le_trans hp.2.1 dN,fun p hp'=>?_⟩
   have sm:=cu (o:=HO.lst (va++vb)) hp'
   refine q _ _ sm ?_
   rw [af]
   exact ⟨p,_,true,rfl,aJ,⟨rfl,s.free hp'⟩,((ra.flat _ fl.1).same sm).append ((rb.flat _ fl.2).same sm)⟩
  ·cases h
 ·cases h
theorem wp {pins:List (Addr×Obj)} {σ:L2.St} {H:Hp} {s:Shared} {P:aZ} {l:List D} {v:V} (h:af X.K H P (.lst l) v):∃a vs,v=.ref a/\bR X.K H a vs/\ag X.K H P l vs:=by
 rw [af] at h
 obtain ⟨a,vs,b,rfl,h,_,q⟩:=h
 exact ⟨a,vs,rfl,h.sq,q⟩
theorem lj:∀{l:List D} {ns:List Bool},bP l=some ns->l=ns.map D.bl
 | [],ns,h=>by rw [bP] at h;cases h;rfl
 | .bl i::l,ns,h=>by
  rw [bP] at h
  cases e:bP l with
  | none=>rw [e] at h;cases h
  | some m=>rw [e] at h;cases h;rw [lj e];rfl
 | .non::l,ns,h=>by rw [bP] at h <;> first|cases h | (intro z;intro e;cases e)
 | .int _::l,ns,h=>by rw [bP] at h <;> first|cases h | (intro z;intro e;cases e)
 | .str _::l,ns,h=>by rw [bP] at h <;> first|cases h | (intro z;intro e;cases e)
 | .dct _ _::l,ns,h=>by rw [bP] at h <;> first|cases h | (intro z;intro e;cases e)
 | .typ _::l,ns,h=>by cases h
 | .sn _::l,ns,h=>by cases h
 | .obj _ _ _::l,ns,h=>by cases h
 | .cls _::l,ns,h=>by cases h
 | .xc _ _::l,ns,h=>by cases h
 | .tup _::l,ns,h=>by rw [bP] at h <;> first|cases h | (intro z;intro e;cases e)
 | .lst _::l,ns,h=>by rw [bP] at h <;> first|cases h | (intro z;intro e;cases e)
def gy (X:Cx) (op:CmpOp) (x y:D) (r:Bool):Prop:=∀(P P':aZ),cf X (compareOp op) (fun v u H Q=>af X.K H P x v/\af X.K H P' y u/\Q (.bl r) H)
theorem i7 {x:D}:∀{l:List D},((d6 l).any fun y=>PyData.eqv y x.py)=l.any fun y=>eD y x
 | []=>by rw [d6];rfl
 | y::l=>by rw [d6,List.any_cons,List.any_cons,i7];rfl
theorem jy {op:CmpOp} {a b:Int} {g:Int->Int->Bool} (h:cf X (compareOp op) (ij fun i j=>.bl (g i j))):gy X op (.int a) (.int b) (g a b):=fun P P' pins s σ H v u xv yu Q I rx ry ⟨h1,h2,q⟩=>by
 rw [af] at h1 h2;subst h1 h2
 exact h pins s σ H _ _ xv yu Q I rx ry ⟨a,b,rfl,rfl,q⟩
theorem zu {l:List D} (h:SeqAt.shaped (D.tup l).py=true):PyData.canLayAll0 (d6 l)=true:=by
 have:=SeqAt.canLay_of_shaped h
 rw [D.py] at this
 simpa [PyData.canLay0] using this
theorem ql {x:D} {l:List D} {r:Bool} {o:List Prop} (hu:X.A.units+70 < cLine) (h:rP x l=.ok r o) (hp:aA o):gy X .In x (.tup l) r/\gy X .In x (.lst l) r/\gy X .NotIn x (.tup l) (!r)/\gy X .NotIn x (.lst l) (!r):=by
 unfold rP at h
 cases h
 ·have c:=hp.1
  unfold dP at c
  rw [Bool.and_eq_true] at c
  have c1:=zu c.1
  have c2:=SeqAt.canLay_of_shaped c.2
  have dx:=SeqAt.depth_of_shaped c.2
  have hm:min (PyData.depthAll (d6 l)) x.py.depth<=64:=Nat.le_trans (Nat.min_le_right _ _) dx
  have ct:(D.tup l).py.canLay0=true:=SeqAt.canLay_of_shaped c.1
  have cl:(D.lst l).py.canLay0=true:=by rw [D.py];simpa [PyData.canLay0] using c1
  have et:(D.tup l).py=.tuple (d6 l):=by rw [D.py]
  have el:(D.lst l).py=.list (d6 l):=by rw [D.py]
  refine ⟨?_,?_,?_,?_⟩ <;> intro P P' pins s σ H v u xv yu Q I rx ry ⟨h1,h2,q⟩ <;> obtain ⟨as,r1⟩:=cJ I c2 h1 rx
  ·obtain ⟨bs,r2⟩:=cJ I ct h2 ry
   rw [et] at r2
   exact SeqAt.in_tuple_reads r2 r1 c1 c2 (by omega) ⟨.bl _,H,I,rfl,by rw [i7];exact q⟩
  ·obtain ⟨bs,r2⟩:=cJ I cl h2 ry
   rw [el] at r2
   exact SeqAt.in_list_reads r2 r1 c1 c2 (by omega) ⟨.bl _,H,I,rfl,by rw [i7];exact q⟩
  ·obtain ⟨bs,r2⟩:=cJ I ct h2 ry
   rw [et] at r2
   exact SeqAt.notIn_tuple_reads r2 r1 c1 c2 (by omega) ⟨.bl _,H,I,rfl,by rw [i7];exact q⟩
  ·obtain ⟨bs,r2⟩:=cJ I cl h2 ry
   rw [el] at r2
   exact SeqAt.notIn_list_reads r2 r1 c1 c2 (by omega) ⟨.bl _,H,I,rfl,by rw [i7];exact q⟩
theorem BR {r:Rs Bool} {b:Bool} {o:List Prop} (h:r.nt=.ok b o):r=.ok (!b) o:=by
 cases r with
 | st=>cases h
 | ok c l=>cases h;simp
theorem qh {P:aZ} {H:Hp} {x:D} {v:V} (h:af X.K H P x v):decide (v=.non)=x.isNon:=by
 cases x with
 | non=>rw [af] at h;subst h;rfl
 | bl _=>rw [af] at h;subst h;rfl
 | int _=>rw [af] at h;subst h;rfl
 | str _=>rw [af] at h;subst h;rfl
 | dct _ _=>rw [af] at h;obtain ⟨_,_,a,_,rfl,_⟩:=h;rfl
 | typ _=>rw [af] at h;subst h;rfl
 | sn _=>rw [af] at h;obtain ⟨a,_,rfl,_⟩:=h;rfl
 | obj _ _ _=>rw [af] at h;obtain ⟨_,_,a,_,_,_,rfl,_⟩:=h;rfl
 | cls _=>rw [af] at h;obtain ⟨_,_,rfl,_⟩:=h;rfl
 | xc _ _=>rw [af] at h;obtain ⟨_,rfl⟩:=h.ref;rfl
 | tup _=>rw [af] at h;obtain ⟨a,_,rfl,_⟩:=h;rfl
 | lst _=>rw [af] at h;obtain ⟨a,_,_,rfl,_⟩:=h;rfl
theorem fD {d:D} {l:List D} (h:fW d=some l):d=.tup l\/d=.lst l:=by
 unfold fW at h
 split at h
 ·cases h;exact .inl rfl
 ·cases h;exact .inr rfl
 ·cases h
theorem Ai {op:CmpOp} {a b:Int} {r:Bool} (h:eN op a b=some r):gy X op (.int a) (.int b) r:=by
 unfold eN at h
 split at h
 ·cases h;exact jy Ek
 ·cases h;exact jy El
 ·cases h;exact jy Em
 ·cases h;exact jy En
 ·cases h
theorem BH {op:CmpOp} {x y:D} {r:Bool} (hu:X.A.units+70 < cLine) (h:rJ op x y=some r):gy X op x y r:=by
 unfold rJ at h
 split at h
 ·exact Ai h
 ·cases h
theorem xP {x y:D} {r:Bool} {o:List Prop} (hu:X.A.units+70 < cLine) (h:xQ x y=.ok r o) (hp:aA o):gy X .In x y r/\gy X .NotIn x y (!r):=by
 unfold xQ at h
 split at h
 ·have m:=ql hu h hp;exact ⟨m.1,m.2.2.1⟩
 ·have m:=ql hu h hp;exact ⟨m.2.1,m.2.2.2⟩
 ·cases h
 ·rename_i b
  split at h
  ·rename_i a
   cases h
   refine ⟨?_,?_⟩ <;> intro P P' pins s σ H v u xv yu Q I rx ry ⟨h1,h2,q⟩ <;> (rw [af] at h1 h2;subst h1 h2;obtain ⟨t,rfl⟩:=rx;obtain ⟨t',rfl⟩:=ry)
   ·exact SB.contains ⟨.bl _,H,I,rfl,q⟩
   ·exact SB.notContains ⟨.bl _,H,I,rfl,q⟩
  ·cases h
 ·cases h
theorem gM {op:CmpOp} {x y:D} {r:Bool} {o:List Prop} (hu:X.A.units+70 < cLine) (h:iW op x y=.ok r o) (hp:aA o):gy X op x y r:=by
 unfold iW at h
 split at h
 ·cases h
  have c:=hp.1
  unfold dP at c
  rw [Bool.and_eq_true] at c
  intro P P' pins s σ H v u xv yu Q I rx ry ⟨h1,h2,q⟩
  obtain ⟨as,r1⟩:=cJ I (SeqAt.canLay_of_shaped c.1) h1 rx
  obtain ⟨bs,r2⟩:=cJ I (SeqAt.canLay_of_shaped c.2) h2 ry
  exact eq_dataH r1 r2 c.1 c.2 (by omega) ⟨.bl _,H,I,rfl,q⟩
 ·cases h
  have c:=hp.1
  unfold dP at c
  rw [Bool.and_eq_true] at c
  intro P P' pins s σ H v u xv yu Q I rx ry ⟨h1,h2,q⟩
  obtain ⟨as,r1⟩:=cJ I (SeqAt.canLay_of_shaped c.1) h1 rx
  obtain ⟨bs,r2⟩:=cJ I (SeqAt.canLay_of_shaped c.2) h2 ry
  exact ne_dataH r1 r2 c.1 c.2 (by omega) ⟨.bl _,H,I,rfl,q⟩
 ·exact (xP hu h hp).1
 ·have:=(xP hu (BR h) hp).2;rw [Bool.not_not] at this;exact this
 ·split at h
  ·cases h
   intro P P' pins s σ H v u xv yu Q I rx ry ⟨h1,h2,q⟩
   rw [af] at h2
   subst h2
   exact BK pins s σ H v _ xv yu Q I rx ry ⟨rfl,by rw [qh h1];exact q⟩
  ·cases h
 ·split at h
  ·cases h
   intro P P' pins s σ H v u xv yu Q I rx ry ⟨h1,h2,q⟩
   rw [af] at h2
   subst h2
   refine zi pins s σ H v _ xv yu Q I rx ry ⟨rfl,?_⟩
   rw [qh h1]
   exact q
  ·cases h
 ·cases e:rJ op x y with
  | none=>rw [e] at h;cases h
  | some b=>rw [e] at h;cases h;exact BH hu e
end Sp
namespace Sp
open PySem PySem.Spec PyProof.Rows L2
variable {X:Cx}
theorem qt (K:W.Frag) {t:Value}:W.kitOne K t t=some true:=by unfold W.kitOne;rw [if_pos (beq_self_eq_true t)]
def D.ty:D->String
 | .non => "NoneType"
 | .bl _ => "bool"
 | .int _ => "int"
 | .str _ => "str"
 | .dct _ _ => "dict"
 | .tup _ => "tuple"
 | .lst _ => "list"
 | .typ _ => "type"
 | .sn _ => "set"
 | .obj _ _ _ => "object"
 | .cls _ => "type"
 | .xc _ _ => "type"
def D.plain:D->Bool
 | .typ _=>false
 | .sn _=>false
 | .obj _ _ _=>false
 | .cls _=>false
 | .xc _ _=>false
 | _=>true
theorem Cg {x:D} {c:String} {b:Bool} (hpl:x.plain=true) (e:∀K,W.kitOne K (.type x.ty) (.type c)=some b) {pins:List (Addr×Obj)} {σ:L2.St} {H:Hp} {s:Shared} {v:V} {u:Value} {P:aZ} {Q:Value->Shared->Prop} {E:Value->Shared->Prop}
  (I:ah X pins σ H s) (h:af X.K H P x v) (r:aM v u) (q:∀tk,Q (.bool b) { s with toks:=tk }):wpAny (model X.prog X.w) X.A (call (.builtin "isinstance") [u,.type c]) Q E s:=by
 have e:=e X.K
 cases x with
 | non=>rw [af] at h;subst h;cases (show u=Value.none from r);exact W.kia_one W.kitx_none I.kIn True.intro e (fun z=>nomatch z) q
 | bl y=>rw [af] at h;subst h;cases (show u=Value.bool y from r);exact W.kia_one W.kitx_bool I.kIn True.intro e (fun z=>nomatch z) q
 | int i=>rw [af] at h;subst h;obtain ⟨t,z⟩:=(show ∃t,u=Value.int i t from r);cases z;exact W.kia_one W.kitx_int I.kIn True.intro e (fun z=>nomatch z) q
 | str y=>rw [af] at h;subst h;obtain ⟨t,z⟩:=(show ∃t,u=Value.str y t from r);cases z;exact W.kia_one W.kitx_str I.kIn True.intro e (fun z=>nomatch z) q
 | dct ks ds =>
  rw [af] at h
  obtain ⟨_,_,a,vs,rfl,ea,_⟩:=h
  cases (show u=Value.ref a from r)
  obtain ⟨_,_,vs,_,p⟩:=(show bB X.prog X.w H s.heap a (.dK _) from I.hok a _ ea)
  obtain ⟨o,es,ep,h1,h2,_⟩:=p
  exact W.kia_one W.kitx_dict I.kIn ⟨o,h1,h2.1⟩ e (fun z=>nomatch z) q
 | typ _=>cases hpl
 | sn _=>cases hpl
 | obj _ _ _=>cases hpl
 | cls _=>cases hpl
 | xc _ _=>cases hpl
 | tup l =>
  rw [af] at h
  obtain ⟨a,vs,rfl,ea,_⟩:=h
  cases (show u=Value.ref a from r)
  obtain ⟨_,_,⟨o,h1,h2,_⟩,_⟩:=I.tuple ea
  exact W.kia_one W.kitx_tuple I.kIn ⟨o,h1,h2⟩ e (fun z=>nomatch z) q
 | lst l =>
  obtain ⟨a,vs,rfl,ea,_⟩:=wp (pins:=pins) (σ:=σ) (s:=s) h
  cases (show u=Value.ref a from r)
  obtain ⟨_,_,⟨o,n,h1,h2,_⟩,_⟩:=I.list ea
  exact W.kia_one W.kitx_list I.kIn ⟨o,h1,h2⟩ e (fun z=>nomatch z) q
theorem kt (K:W.Frag) (a b:String) (r:Bool) (h:(a==b)=false) (h2:W.kitCls K (.type a) (.type b)=some r):W.kitOne K (.type a) (.type b)=some r:=by
 unfold W.kitOne
 rw [if_neg (by
  intro z
  have:a=b:=by simpa using z
  subst this
  simp at h)]
 exact h2
theorem zy:∀a∈["NoneType", "bool", "int", "str", "dict", "tuple", "list"],∀T∈jf,(a==T)=false->∀K,W.kitCls K (.type a) (.type T)=some (decide (a = "bool" /\ T = "int")):=by
 intro a ha T hT
 simp only [List.mem_cons,List.not_mem_nil,or_false,jf] at ha hT
 rcases ha with rfl|rfl|rfl|rfl|rfl|rfl|rfl <;> rcases hT with rfl|rfl|rfl|rfl|rfl|rfl <;> intro h K <;> first | (exact absurd h (by decide)) | kernel_rfl
theorem Ch {x:D} {T:String} {b:Bool} (h:Ci x T=some b) (hT:T∈jf):x.plain=true/\∀K,W.kitOne K (.type x.ty) (.type T)=some b:=by
 have key:∀(a:String),a∈["NoneType", "bool", "int", "str", "dict", "tuple", "list"]->∀K,W.kitOne K (.type a) (.type T)=some (decide (a=T) || decide (a = "bool" /\ T = "int")):=fun a ha K=>by
  by_cases e:a=T
  ·subst e;rw [qt];simp
  ·have e':(a==T)=false:=by simpa using e
   rw [kt K a T _ e' (zy a ha T hT e' K)];simp [e]
 unfold Ci at h
 cases hx:x.ty0 with
 | none=>rw [hx] at h;cases h
 | some a =>
  rw [hx] at h
  cases h
  have hp:x.plain=true/\x.ty=a/\a∈["NoneType", "bool", "int", "str", "dict", "tuple", "list"]:=by
   cases x <;> cases hx <;> exact ⟨rfl,rfl,by decide⟩
  refine ⟨hp.1,fun K=>?_⟩
  rw [hp.2.1]
  exact key a hp.2.2 K
def ic (X:Cx) (f:Value) (ds:List D) (z:D) (l:Nat):Prop :=
 ∃r:List V->Hp->VK->Prop,cI X f r/\∀ow H0 H2 vs (P:aZ) (Q:VK),dB ow H0->av H0 H2->ag X.K H2 P ds vs->(∀w H',av H2 H'->af X.K H' (Kp ow H0 l) z w->Q w H')->r vs H2 Q
theorem ag.only {K:W.Frag} {P:aZ} {H:Hp} {d:D} {vs:List V} (h:ag K H P [d] vs):∃v,vs=[v]/\af K H P d v:=by
 rw [ag] at h
 obtain ⟨v,r,rfl,h1,h2⟩:=h
 rw [ag] at h2;subst h2
 exact ⟨v,rfl,h1⟩
theorem jh {P:aZ} {H:Hp} {l:List D} {v:V} (h:af X.K H P (.lst l) v):∃a vs,v=.ref a/\bR X.K H a vs/\ag X.K H P l vs:=by
 rw [af] at h
 obtain ⟨a,vs,b,rfl,h,_,q⟩:=h
 exact ⟨a,vs,rfl,h.sq,q⟩
theorem eT {P:aZ} {H:Hp} {l:List D} {v:V} (h:af X.K H P (.tup l) v):∃a vs,v=.ref a/\cj X.K H a vs/\ag X.K H P l vs:=by
 rw [af] at h;exact h
theorem uz {l:List D}:ic X (.builtin "len") [.tup l] (.int l.length) 0/\ic X (.builtin "len") [.lst l] (.int l.length) 0:=by
 constructor
 ·refine ⟨_,iY,fun ow H0 H2 vs P Q o s rx q=>?_⟩
  obtain ⟨v,rfl,ry⟩:=rx.only
  obtain ⟨a,ws,rfl,hs,rl⟩:=eT ry
  exact ⟨a,ws,rfl,.inr hs,by rw [<- rl.length];exact q _ _ (av.refl _) (by rw [af])⟩
 ·refine ⟨_,iY,fun ow H0 H2 vs P Q o s rx q=>?_⟩
  obtain ⟨v,rfl,ry⟩:=rx.only
  obtain ⟨a,ws,rfl,hs,rl⟩:=jh ry
  exact ⟨a,ws,rfl,.inl hs,by rw [<- rl.length];exact q _ _ (av.refl _) (by rw [af])⟩
theorem nI {l:List D} (f:ax l=true):ic X (.type "tuple") [.lst l] (.tup l) 0/\ic X (.type "tuple") [.tup l] (.tup l) 0:=by
 constructor
 ·refine ⟨_,iq,fun ow H0 H2 vs P Q o s rx q=>?_⟩
  obtain ⟨v,rfl,ry⟩:=rx.only
  obtain ⟨a,ws,rfl,hs,rl⟩:=jh ry
  refine ⟨a,ws,rfl,.inl ⟨hs,fun p hp=>?_⟩⟩
  have sm:=cu (o:=HO.tup ws) hp
  refine q _ _ sm ?_
  rw [af]
  exact ⟨p,ws,rfl,cj.of aJ,(rl.flat _ f).same sm⟩
 ·refine ⟨_,iq,fun ow H0 H2 vs P Q o s rx q=>?_⟩
  obtain ⟨v,rfl,ry⟩:=rx.only
  obtain ⟨a,ws,rfl,hs,rl⟩:=eT ry
  refine ⟨a,ws,rfl,.inr ⟨hs,q _ _ (av.refl _) ?_⟩⟩
  rw [af]
  exact ⟨a,ws,rfl,hs,rl.flat _ f⟩
theorem DC {i:Int}:ic X (.builtin "abs") [.int i] (.int (if i < 0 then -i else i)) 0:=by
 refine ⟨_,wL,fun ow H0 H2 vs P Q o s rx q=>?_⟩
 obtain ⟨v,rfl,ry⟩:=rx.only
 rw [af] at ry;subst ry
 exact ⟨i,rfl,q _ _ (av.refl _) (by rw [af])⟩
theorem ag.mapBl {K:W.Frag} {P:aZ} {H:Hp}:∀{ns:List Bool} {vs:List V},ag K H P (ns.map D.bl) vs->vs=ns.map V.bl
 | [],vs,h=>by rw [List.map_nil,ag] at h;exact h
 | n::ns,vs,h=>by
  rw [List.map_cons,ag] at h
  obtain ⟨v,r,rfl,h1,h2⟩:=h
  rw [af] at h1
  rw [h1,ag.mapBl h2];rfl
theorem pW:∀{bs:List Bool} {us:List Value},aH (bs.map V.bl) us->us=bs.map Value.bool
 | [],us,h=>by cases h;rfl
 | b::bs,us,h=>by
  cases h with
  | cons h1 h2=>rw [show _=Value.bool b from h1,pW h2];rfl
theorem vj (hc:X.calm=true):cI X (.builtin "all") (fun xs H Q => ∃(p:Addr) (bs:List Bool),xs=[.ref p]/\bR X.K H p (bs.map V.bl)/\Q (.bl (bs.all id)) H):=by
 intro pins s σ H xs us Q I r h
 obtain ⟨p,bs,rfl,hq,q⟩:=h
 obtain ⟨u,rfl,rx⟩:=cA r
 cases rx
 obtain ⟨its,rv,pl,hz⟩:=I.list hq
 have ei:=pW rv
 subst ei
 have hl:=pl.isList
 have hlt:p < s.heap.objs.size:=by obtain ⟨_,e,_⟩:=hl;exact Heap.lt_size e
 refine call_all_walk (wpAny_pyIter_list hl ?_)
 refine ⟨_,_,_,_,_,_,fun i=>bs.getD i true,rfl,Walks.list (A:=X.A.in1) (by exact I.ok.hd hc) _ p (Nat.ne_of_lt hlt) (bs.map Value.bool).toArray,⟨⟨_,Heap.get?_push_size _ rfl,rfl,rfl⟩,hl.push _⟩,?_,fun h' tk hk=>?_⟩
 ·intro i v s' Q' E' hP hQ
  have hP:((bs.map Value.bool).toArray)[i]?=some v:=hP
  simp only [List.getElem?_toArray,List.getElem?_map] at hP
  cases e:bs[i]? with
  | none=>rw [e] at hP;cases hP
  | some b =>
   rw [e] at hP;cases hP
   refine wpAny_truthy_bool ?_
   have:bs.getD i true=b:=by rw [List.getD_eq_getElem?_getD,e];rfl
   rw [<- this];exact hQ
 ·have:((List.range (bs.map Value.bool).toArray.size).all fun i=>bs.getD i true)=bs.all id:=by
   simp only [List.size_toArray,List.length_map]
   rw [Bool.eq_iff_iff,List.all_eq_true,List.all_eq_true]
   constructor
   ·intro h x hx
    obtain ⟨i,hi,rfl⟩:=List.mem_iff_getElem.mp hx
    have:=h i (List.mem_range.mpr hi)
    rw [List.getD_eq_getElem?_getD,List.getElem?_eq_getElem hi] at this
    exact this
   ·intro h i hi
    have hi:=List.mem_range.mp hi
    rw [List.getD_eq_getElem?_getD,List.getElem?_eq_getElem hi]
    exact h _ (List.getElem_mem hi)
  rw [this]
  refine ⟨.bl _,H,I.kept (fun b o e=>hk b o (fun hm=>?_) (Heap.get?_push_of_some _ e)),rfl,q⟩
  have hb:b=s.heap.objs.size:=by simpa using hm
  subst hb
  exact absurd (Heap.lt_size e) (Nat.lt_irrefl _)
theorem vh:cI X (.builtin "len") (fun xs H Q => ∃(p:Addr) (S:Int->Bool) (n:Nat),xs=[.ref p]/\H p=some (.set S n)/\Q (.int n) H):=by
 intro pins s σ H xs us Q I r h
 obtain ⟨p,S,n,rfl,hp,q⟩:=h
 obtain ⟨u,rfl,rx⟩:=cA r
 cases rx
 obtain ⟨o,es,ep,t,h1,h2,h3,_,_,h4,h5,rfl⟩:=(show s.heap.SetOf (intKind X.prog X.w) p S n from I.hok p _ hp)
 exact call_len_set h1 h2 h3 h5 (by unfold scanBound at h4;omega) ⟨.int _,H,I.tok _,⟨_,rfl⟩,q⟩
def cX (f:Str) (B:List D->R1):Prop:=f∈fQ/\f ≠ "__name__" /\ (f==("__debug__" : Str))=false/\(B []=.st)/\∀(X:Cx) (ds:List D) (z:D) (l:Nat) (o:List Prop),X.calm=true->B ds=.ok (z,l) o->aA o ->
 ((∃id,bootBuiltins f=some (.builtin id)/\ic X (.builtin id) ds z l)\/∃T,bootBuiltins f=some (.type T)/\ic X (.type T) ds z l)
theorem Ap:cX "len" wP:=by
 refine ⟨by decide +kernel,by decide +kernel,by decide +kernel,rfl,fun X ds z l o hc h _=>.inl ⟨"len", by decide +kernel,?_⟩⟩
 unfold wP at h
 split at h
 ·cases h
  refine ⟨_,vh,fun ow H0 H2 vs P Q o s rx q=>?_⟩
  obtain ⟨v,rfl,ry⟩:=rx.only
  rw [af] at ry
  obtain ⟨a,S,rfl,ha⟩:=ry
  exact ⟨a,S,_,rfl,ha,q _ _ (av.refl _) (by rw [af])⟩
 ·split at h
  ·rename_i m e
   cases h
   rcases fD e with rfl|rfl
   ·exact uz.1
   ·exact uz.2
  ·cases h
 ·cases h
theorem vt:cX "tuple" lm:=by
 refine ⟨by decide +kernel,by decide +kernel,by decide +kernel,rfl,fun X ds z l o hc h hp=>.inr ⟨"tuple", by decide +kernel,?_⟩⟩
 unfold lm at h
 split at h
 ·split at h
  ·rename_i m e
   cases h
   have c:=hp.1
   rcases fD e with rfl|rfl
   ·exact (nI c).2
   ·exact (nI c).1
  ·cases h
 ·cases h
theorem Au:cX "abs" wU:=by
 refine ⟨by decide +kernel,by decide +kernel,by decide +kernel,rfl,fun X ds z l o hc h _=>.inl ⟨"abs", by decide +kernel,?_⟩⟩
 unfold wU at h
 split at h
 ·cases h;exact DC
 ·cases h
theorem At:cX "all" gq:=by
 refine ⟨by decide +kernel,by decide +kernel,by decide +kernel,rfl,fun X ds z l o hc h _=>.inl ⟨"all", by decide +kernel,?_⟩⟩
 unfold gq at h
 split at h
 ·split at h
  ·rename_i bs e
   cases h
   cases lj e
   refine ⟨_,vj hc,fun ow H0 H2 vs P Q o s rx q=>?_⟩
   obtain ⟨v,rfl,ry⟩:=rx.only
   obtain ⟨a,ws,rfl,hs,rl⟩:=jh ry
   exact ⟨a,bs,rfl,by rw [<- rl.mapBl];exact hs,q _ _ (av.refl _) (by rw [af])⟩
  ·cases h
 ·cases h
theorem zB (b:Bool):(if b=true then (1:Int) else 0)=cond b 1 0:=by cases b <;> rfl
theorem As:cX "int" wT:=by
 refine ⟨by decide +kernel,by decide +kernel,by decide +kernel,rfl,fun X ds z l o hc h hp=>.inr ⟨"int", by decide +kernel,?_⟩⟩
 unfold wT at h
 split at h
 ·cases h
  refine ⟨_,mU,fun ow H0 H2 vs P Q o s rx q=>?_⟩
  obtain ⟨v,rfl,ry⟩:=rx.only
  rw [af] at ry;subst ry
  exact .inl ⟨_,rfl,q _ _ (av.refl _) (by rw [af])⟩
 ·cases h
  refine ⟨_,mU,fun ow H0 H2 vs P Q o s rx q=>?_⟩
  obtain ⟨v,rfl,ry⟩:=rx.only
  rw [af] at ry;subst ry
  exact .inr ⟨_,rfl,q _ _ (av.refl _) (by rw [af,zB])⟩
 ·cases h
theorem An:cX "str" wN:=by
 refine ⟨by decide +kernel,by decide +kernel,by decide +kernel,rfl,fun X ds z l o hc h hp=>.inr ⟨"str", by decide +kernel,?_⟩⟩
 unfold wN at h
 split at h
 ·rename_i i
  cases h
  refine ⟨_,pf,fun ow H0 H2 vs P Q o s rx q=>?_⟩
  obtain ⟨v,rfl,ry⟩:=rx.only
  rw [af] at ry;subst ry
  refine ⟨_,rfl,?_,q _ _ (av.refl _) (by rw [af])⟩
  rcases Nat.eq_zero_or_pos i.natAbs with z|z
  ·rw [z];decide
  ·exact Nat.lt_of_lt_of_le ((Nat.log2_lt (Nat.ne_of_gt z)).mpr hp.1) (by decide)
 ·cases h
theorem Ar:cX "isinstance" wR:=by
 refine ⟨by decide +kernel,by decide +kernel,by decide +kernel,rfl,fun X ds z l o hc h _=>.inl ⟨"isinstance", by decide +kernel,?_⟩⟩
 unfold wR at h
 split at h
 ·rename_i m ns es n
  split at h
  ·rename_i hmn
   subst hmn
   cases h
   have cr:cI X (.builtin "isinstance") (fun xs H Q => ∃a C dx fs,xs=[.ref a,.ref C]/\H a=some (.ins C dx fs)/\fV X.K C/\nB X.K C/\Q (.bl true) H):=by
    intro pins s σ H xs us Q I r hh
    obtain ⟨a,C,dx,fs,rfl,ea,hc,ho,q⟩:=hh
    obtain ⟨u,u2,rfl,ru,ru2⟩:=ky r
    cases (show u2=Value.ref C from ru2)
    exact mF I ru (.ins ea hc ho.ha ho.hn ho.ht ho.hm) (qt _) fun tk=>⟨.bl true,H,I.tok tk,rfl,q⟩
   refine ⟨_,cr,fun ow H0 H2 vs P Q o s rx q=>?_⟩
   rw [ag] at rx
   obtain ⟨v,r,rfl,r1,r2⟩:=rx
   obtain ⟨w,rfl,r3⟩:=r2.only
   rw [af] at r1
   rw [af] at r3
   obtain ⟨_,_,a,C,dx,vs,rfl,h1,h2,h3,_⟩:=r1
   obtain ⟨C',o',rfl,h4,_,_,h5,_⟩:=r3
   rw [h1] at h4;cases h4
   exact ⟨a,C,dx,_,rfl,h3,h2,h5,q _ _ (av.refl _) (by rw [af])⟩
  ·split at h
   ·rename_i hmn
    cases h
    have cr:cI X (.builtin "isinstance") (fun xs H Q => ∃a C C' dx fs,xs=[.ref a,.ref C']/\H a=some (.ins C dx fs)/\fV X.K C/\nB X.K C/\W.kitOne X.K (.ref C) (.ref C')=some (nN m n)/\Q (.bl (nN m n)) H):=by
     intro pins s σ H xs us Q I r hh
     obtain ⟨a,C,C',dx,fs,rfl,ea,hc,ho,hk,q⟩:=hh
     obtain ⟨u,u2,rfl,ru,ru2⟩:=ky r
     cases (show u2=Value.ref C' from ru2)
     exact mF I ru (.ins ea hc ho.ha ho.hn ho.ht ho.hm) hk fun tk=>⟨.bl (nN m n),H,I.tok tk,rfl,q⟩
    refine ⟨_,cr,fun ow H0 H2 vs P Q o s rx q=>?_⟩
    rw [ag] at rx
    obtain ⟨v,r,rfl,r1,r2⟩:=rx
    obtain ⟨w,rfl,r3⟩:=r2.only
    rw [af] at r1
    rw [af] at r3
    obtain ⟨_,_,a,C,dx,vs,rfl,h1,h2,h3,_⟩:=r1
    obtain ⟨C',o',rfl,_,_,_,_,h5⟩:=r3
    obtain ⟨h6,h7⟩:=h5.all m hmn C h1
    exact ⟨a,C,C',dx,_,rfl,h3,h2,h6,h7,q _ _ (av.refl _) (by rw [af])⟩
   ·cases h
 ·rename_i x T
  split at h
  ·rename_i hT
   split at h
   ·rename_i b hb
    cases h
    obtain ⟨h1,h2⟩:=Ch hb hT
    have cr:cI X (.builtin "isinstance") (fun xs H Q => ∃v P,xs=[v,.ty T]/\af X.K H P x v/\Q (.bl b) H):=by
     intro pins s σ H xs us Q I r hh
     obtain ⟨v,P,rfl,rp,q⟩:=hh
     obtain ⟨u,u2,rfl,ru,ru2⟩:=ky r
     cases (show u2=Value.type T from ru2)
     exact Cg h1 h2 I rp ru fun tk=>⟨.bl b,H,I.tok tk,rfl,q⟩
    refine ⟨_,cr,fun ow H0 H2 vs P Q o s rx q=>?_⟩
    rw [ag] at rx
    obtain ⟨v,r,rfl,r1,r2⟩:=rx
    obtain ⟨w,rfl,r3⟩:=r2.only
    rw [af] at r3;subst r3
    exact ⟨v,P,rfl,r1,q _ _ (av.refl _) (by rw [af])⟩
   ·cases h
  ·cases h
 ·cases h
end Sp
namespace Sp
open PySem PySem.Spec PyProof.Rows L2
def ii (K:W.Frag) (F:List D->Rs D):Sp:=fun vs H Q _ => ∃ds r l,ag K H (fun _ _=>True) ds vs/\F ds=.ok r l/\aA l/\∀v H',av H H'->af K H' (fun a b=>b=true/\H a=none) r v->Q v H'
def yv (X:Cx) (g:Str) (F:List D->Rs D):Prop:=∃k f fd ps,bv X.prog X.w X.K X.mg X.base cU k f fd ps (ii X.K F)/\bu k X.A/\X.mg g=some (.ref f)/\W.keepIn X.K (.ref f)=true/\bG X.K fd ps []/\(g==("__debug__" : Str))=false
def Fr (K:W.Frag) (n:Str) (F:List D->Rs D):Sp:=fun vs H Q _ => ∃x ws C dx ds r l,vs=.ref x::ws/\H x=some (.ins C dx [])/\W.nsIn K mainGlobals n=some (some (.ref C))/\fV K C/\ag K H (fun _ _=>True) ds ws/\F ds=.ok r l/\aA l/\r.lless=true /\
 ∀H',(∀a o,a≠x->H a=some o->H' a=some o)->af K H' (fun _ _=>True) r (.ref x)->Q .non H'
def DL (X:Cx) (g:Str) (F:List D->Rs D):Prop:=∃k C f fd ps,(∀ds r l,F ds=.ok r l->r.lless=true)/\Mk X.K C f/\bv X.prog X.w X.K X.mg X.base cU k f fd ps (Fr X.K g F)/\bu (k+1) X.A/\X.mg g=some (.ref C)/\W.nsIn X.K mainGlobals g=some (some (.ref C))/\fV X.K C/\bG X.K fd ps []/\(g==("__debug__" : Str))=false
def JS (X:Cx) (g:Str) (F:List D->Rs D):Prop:=yv X g F\/DL X g F
def DM (X:Cx) (n m:Str) (F:List D->Rs D):Prop:=∃k C f fd ps,W.nsIn X.K mainGlobals n=some (some (.ref C))/\fV X.K C/\DN X.K C m f/\bv X.prog X.w X.K X.mg X.base cU k f fd ps (ii X.K F)/\bu k X.A/\bG X.K fd ps []
def lz (f:Str) (B:List D->Nat->R1):Prop:=f∈fQ/\∀(X:Cx) (ρ:ae) (p pos:Pos) (args:List Expr) (ds:List D) (k:Nat) (d:D) (j:Nat) (l:List D) (tg:Expr) (o:List Prop),X.calm=true->Gl X f->X.mg f=none->AD X ρ args ds k ->
 (∀e∈args,∀x p,e ≠ .Starred x p)->args.length=ds.length->B ds k=.ok (d,j) o->aA o->items d=some l->cO (.Call (.Name f p) args [] pos) tg=true->IE X ρ tg (.Call (.Name f p) args [] pos) l j
def gi (m:Str) (M:D->List D->R1):Prop:=∀(X:Cx) (ρ:ae) (a:Expr) (args:List Expr) (ap cp:Pos) (x:D) (k:Nat) (ds:List D) (j:Nat) (z:D) (l:Nat) (o:List Prop),X.calm=true->X.A.units+70 < cLine->ED X ρ a x k->AD X ρ args ds j ->
 (∀e∈args,∀x p,e ≠ .Starred x p)->args.length=ds.length->(ap.endLine==cp.line)=true->eu a=true->M x ds=.ok (z,l) o->aA o->ED X ρ (.Call (.Attribute a m ap) args [] cp) z l
def jC (m:Str) (M:List D->List D->Nat->Rs (List D)):Prop:=∀X:Cx,X.calm=true->∃(id:String) (r:V->List V->Hp->VK->Prop),Slot "list" m id/\typeOf (.builtin id)=pure (.type "method_descriptor")/\DJ X id r /\
 ∀(ow:Ow) (H0 H:Hp) (l ds l':List D) (j:Nat) (o:List Prop) (a:Addr) (vs ws:List V),M l ds j=.ok l' o->aA o->ds.length < 29/\(∀(P:aZ) (Q:VK),(∀b c,Kp ow H0 0 b c->P b c)->dB ow H0->av H0 H->H a=some (.lst vs)->ag X.K H P l vs->ag X.K H (Kp ow H0 j) ds ws ->
  (∀vs' w,ag X.K H P l' vs'->Q w (aE H a (.lst vs')))->r (.ref a) ws H Q)
def JZ (X:Cx) (ow:Ow) (ρ:ae) (o:Option Int):TO:=fun σ H Q=>aG X ow H σ ρ/\∀H',av H H'->Q o H'
def OD (X:Cx) (ρ:ae) (e:Option Expr) (o:Option Int):Prop:=∀ow,PO X e (JZ X ow ρ o)
def nv (F:D->Option Int->Option Int->R1):Prop:=∀(X:Cx) (ρ:ae) (a:Expr) (lo hi:Option Expr) (p2 pos:Pos) (x z:D) (l h:Option Int) (k j:Nat) (o:List Prop),ED X ρ a x k->OD X ρ lo l->OD X ρ hi h->F x l h=.ok (z,j) o->aA o->ED X ρ (.Subscript a (.Slice lo hi none p2) pos) z j
structure aL (Φ:Fx) (X:Cx) (sc:Scope):Prop where
 calm:X.calm=true
 nd:X.N.Nodup
 gl:∀x,sc.names.lookup x=some .globalImplicit->Gl X x
 kc:∀x,(sc.names.lookup x=some .cell\/sc.names.lookup x=some .free)->X.env.kindOf x=some .cell\/X.env.kindOf x=some .free
 lc:∀x,sc.names.lookup x=some .local->X.env.scope.names.lookup x=some .local
 cc:∀x,sc.names.lookup x=some .cell->X.env.scope.names.lookup x=some .cell
 fn:∀g F,Φ.fn g=some F->JS X g F
 con:∀x d,Φ.con x=some d->∃v u,X.mg x=some u/\aM v u/\∀H P,af X.K H P d v
 blt:∀f B,Φ.blt f=some B->cX f B
 itr:∀f B,Φ.itr f=some B->lz f B
 mth:∀m M,Φ.mth m=some M->gi m M
 mtt:∀m M,Φ.mtt m=some M->jC m M
 slf:nv Φ.slf
 fld:∀n f,Φ.fld n f=true->∀C,W.nsIn X.K mainGlobals n=some (some (.ref C))->ly X.K C f
 omt:∀n m F,Φ.omt n m=some F->DM X n m F
 bl:∀f∈fQ,X.mg f=none
 room:X.A.units+70 < cLine
 ns:∀x,b9 sc x=true->x∈X.N
 ft:∀x,sc.names.lookup x=some .cell->X.fn x=true
variable {X:Cx}
theorem d7 {x:Str} (h:eB x=true):(x==("__debug__" : Str))=false/\(x==("__classdict__" : Str))=false:=by
 unfold eB at h
 rw [Bool.and_eq_true] at h
 exact ⟨of_decide_eq_true h.1,of_decide_eq_true h.2⟩
theorem zZ {ρ:ae} {x:Str} {pos:Pos} {d:D} {o:Bool} (h:ρ x=some (d,o)) (hx:eB x=true):ED X ρ (.Name x pos) d (kn d (cond o 2 1)):=by
 refine ED.kn fun ow pins s σ H Q I ⟨E,q⟩=>?_
 obtain ⟨i,v,e1,e2,e3,e4⟩:=E.get x d o h
 refine iJ (i:=i) e1 e2 (d7 hx).1 (d7 hx).2 pins s σ H Q I ⟨v,e3,q v H (av.refl _) (e4.imp fun a b p=>?_)⟩
 cases o with
 | true=>exact ⟨p.1,.inl (by rw [p.2];exact (fun z=>nomatch z))⟩
 | false=>exact p
theorem CV {Φ:Fx} {sc:Scope} {ρ:ae} {x:Str} {pos:Pos} {d:D} (G:aL Φ X sc) (h:Φ.con x=some d) (hg:sc.names.lookup x=some .globalImplicit) (hx:eB x=true):ED X ρ (.Name x pos) d 0:=by
 obtain ⟨v,u,h1,h2,h3⟩:=G.con x d h
 exact fun ow=>bj (ze (G.gl x hg) h1 h2 (d7 hx).1) fun σ H Q ⟨E,q⟩=>q v H (av.refl _) (h3 H _)
theorem yA {x:Str} {T:String} (h:qW x=some T):bootBuiltins x=some (.type T)/\x ≠ "__name__" /\ (x==("__debug__" : Str))=false/\x∈fQ:=by
 unfold qW at h
 split at h
 ·rename_i e;subst e;cases h;exact ⟨by decide +kernel,by decide +kernel,by decide +kernel,by decide +kernel⟩
 split at h
 ·rename_i e;subst e;cases h;exact ⟨by decide +kernel,by decide +kernel,by decide +kernel,by decide +kernel⟩
 split at h
 ·rename_i e;subst e;cases h;exact ⟨by decide +kernel,by decide +kernel,by decide +kernel,by decide +kernel⟩
 split at h
 ·rename_i e;subst e;cases h;exact ⟨by decide +kernel,by decide +kernel,by decide +kernel,by decide +kernel⟩
 split at h
 ·rename_i e;subst e;cases h;exact ⟨by decide +kernel,by decide +kernel,by decide +kernel,by decide +kernel⟩
 split at h
 ·rename_i e;subst e;cases h;exact ⟨by decide +kernel,by decide +kernel,by decide +kernel,by decide +kernel⟩
 ·cases h
theorem CQ {Φ:Fx} {sc:Scope} {ρ:ae} {x:Str} {pos:Pos} {T:String} (G:aL Φ X sc) (h:qW x=some T) (hg:sc.names.lookup x=some .globalImplicit):ED X ρ (.Name x pos) (.typ T) 0:=by
 obtain ⟨h1,h2,h3,h4⟩:=yA h
 exact fun ow=>bj (zg (v:=.ty T) (G.gl x hg) (G.bl x h4) h1 rfl h2 h3) fun σ H Q ⟨E,q⟩=>q _ H (av.refl _) (by rw [af])
theorem CU {ρ:ae} {c:Const} {n:Nat} {pos:Pos} {d:D} (h:ya c=some d):ED X ρ (.Constant c n pos) d 0:=by
 intro ow
 unfold ya at h
 split at h
 ·cases h;exact bj Bv fun σ H Q ⟨E,q⟩=>q _ H (av.refl _) (by rw [af])
 ·cases h;exact bj Ej fun σ H Q ⟨E,q⟩=>q _ H (av.refl _) (by rw [af])
 ·cases h;exact bj Bx fun σ H Q ⟨E,q⟩=>q _ H (av.refl _) (by rw [af])
 ·cases h;exact bj Bs fun σ H Q ⟨E,q⟩=>q _ H (av.refl _) (by rw [af])
 ·cases h
theorem CZ {ρ:ae} {a b:Expr} {op:Operator} {pos:Pos} {x y z:D} {k j l:Nat} (ha:ED X ρ a x k) (hb:ED X ρ b y j) {o:List Prop} (h:sB op x y k j=.ok (z,l) o) (hp:aA o):ED X ρ (.BinOp a op b pos) z l:=by
 obtain ⟨r,h1,h2⟩:=Du (X:=X) h hp
 refine fun ow=>bj (Ei h1 (ha ow) (hb ow)) fun σ H Q ⟨E,q⟩=>⟨E,fun v H1 s1 r1=>⟨E.same s1,fun u H2 s2 r2=>?_⟩⟩
 exact h2 ow H H2 v u Q E.own (s1.trans s2) (r1.same s2) (r2.imp (Kp.back s1 j)) fun w H' s3 r3=>q w H' ((s1.trans s2).trans s3) r3
theorem Fb {ρ:ae} {a:Expr} {op:UnaryOp} {pos:Pos} {x z:D} {k:Nat} (ha:ED X ρ a x k) (h:tj op x=some z):ED X ρ (.UnaryOp op a pos) z 0:=by
 unfold tj at h
 split at h
 ·cases h
  refine fun ow=>bj (Eh AB (ha ow)) fun σ H Q ⟨E,q⟩=>⟨E,fun v H1 s1 r1=>?_⟩
  rw [af] at r1;subst r1
  exact ⟨_,rfl,q _ H1 s1 (by rw [af])⟩
 ·cases h
  refine fun ow=>bj (Bu (ha ow)) fun σ H Q ⟨E,q⟩=>⟨E,fun v H1 s1 r1=>?_⟩
  rw [af] at r1;subst r1
  exact ⟨_,rfl,q _ H1 s1 (by rw [af])⟩
 ·cases h
theorem CW {ρ:ae} {a b:Expr} {op:CmpOp} {pos:Pos} {x y:D} {r:Bool} {k j:Nat} (hu:X.A.units+70 < cLine) {o:List Prop} (ha:ED X ρ a x k) (hb:ED X ρ b y j) (h:iW op x y=.ok r o) (hp:aA o) (hm:behindInMarks op b=false):ED X ρ (.Compare a [op] [b] pos) (.bl r) 0:=by
 have c:=gM hu h hp
 intro ow pins s σ H Q I ⟨E,q⟩
 refine wpAny_Compare1 (Fw (ha ow) (hb ow) I (R:=fun v u H2=>av H H2/\af X.K H2 (fun _ _=>True) x v/\af X.K H2 (fun _ _=>True) y u) ⟨E,fun v H1 s1 r1=>⟨E.same s1,fun u H2 s2 r2=>⟨s1.trans s2,(r1.imp fun _ _ _=>True.intro).same s2,r2.imp fun _ _ _=>True.intro⟩⟩⟩ fun v u s2 x y H2 I2 rx ry ⟨sm,r1,r2⟩=>?_) hm
 exact c _ _ pins s2 σ H2 x y v u Q I2 rx ry ⟨r1,r2,q _ H2 sm (by rw [af])⟩
theorem Aj {op op2:CmpOp} {x y z:D} {r:D×Nat} {l:List Prop} (h:C8 op op2 x y z=.ok r l):∃a b c r1 r2,x=.int a/\y=.int b/\z=.int c/\eN op a b=some r1/\eN op2 b c=some r2/\r=(.bl (r1&&r2),0):=by
 unfold C8 at h
 split at h
 ·split at h
  ·rename_i h1 h2;cases h;exact ⟨_,_,_,_,_,rfl,rfl,rfl,h1,h2,rfl⟩
  ·cases h
 ·cases h
theorem lh {op:CmpOp} {a b:Int} {r:Bool} (h:eN op a b=some r):iW op (.int a) (.int b)=.ok r []:=by
 unfold eN at h
 split at h <;> first | (cases h;rfl) | cases h
theorem wH {ρ:ae} {a b c:Expr} {op op2:CmpOp} {pos:Pos} {x y z:Int} {r r2:Bool} {k j i:Nat} (hu:X.A.units+70 < cLine) (ha:ED X ρ a (.int x) k) (hb:ED X ρ b (.int y) j) (hc:ED X ρ c (.int z) i) (h:eN op x y=some r) (h2:eN op2 y z=some r2) (hm:behindInMarks op2 c=false):ED X ρ (.Compare a [op,op2] [b,c] pos) (.bl (r&&r2)) 0:=by
 have c1:=gM (X:=X) hu (lh h) (show aA [] from True.intro)
 have c2:=gM (X:=X) hu (lh h2) (show aA [] from True.intro)
 refine fun ow=>bj (v7 (c1 (fun _ _=>True) (fun _ _=>True)) (c2 (fun _ _=>True) (fun _ _=>True)) (ha ow) (hb ow) (hc ow) hm) fun σ H Q ⟨E,q⟩=>⟨E,fun v H1 s1 r1=>⟨E.same s1,fun u H2 s2 r2=>?_⟩⟩
 rw [af] at r1 r2
 subst r1 r2
 refine ⟨by rw [af],by rw [af],r,rfl,?_⟩
 cases r with
 | false=>exact q _ H2 (s1.trans s2) (by rw [af];rfl)
 | true =>
  rw [if_pos rfl]
  refine ⟨(E.same s1).same s2,fun w H3 s3 r3=>?_⟩
  rw [af] at r3
  subst r3
  exact ⟨by rw [af],by rw [af],q _ H3 ((s1.trans s2).trans s3) (by rw [af];rfl)⟩
theorem DW {ρ:ae} {e:Expr} {b:Bool} {k:Nat} (h:ED X ρ e (.bl b) k) (he:∀whole,isTrue e X.env whole=(do let v <- whole;standAt e.pos;holding [v] (truthy v))):TD X ρ e b :=
 fun ow=>sL (Bh (h ow) he) fun σ H Q ⟨E,q⟩=>⟨E,fun v H1 s1 r1=>by rw [af] at r1;exact ⟨b,r1,q H1 s1⟩⟩
theorem i8 {ρ:ae}:AD X ρ [] [] 0:=fun ow=>yn ug fun σ H Q ⟨E,q⟩=>q [] H (av.refl _) ag.nil
theorem gP {ρ:ae} {e:Expr} {es:List Expr} {d:D} {ds:List D} {k j:Nat} (h1:ED X ρ e d k) (h2:AD X ρ es ds j) (hs:starEach (e::es) X.env=(false,eval e X.env)::starEach es X.env):AD X ρ (e::es) (d::ds) (kj k j) :=
 fun ow=>yn (lH (h1 ow) (h2 ow) hs) fun σ H Q ⟨E,q⟩=>⟨E,fun v H1 s1 r1=>⟨E.same s1,fun vs H2 s2 r2=>q _ H2 (s1.trans s2) (ag.cons ((r1.imp (Kp.joinL E.own k j)).same s2) (r2.imp fun a b p=>Kp.joinR E.own k j a b (Kp.back s1 j a b p)))⟩⟩
theorem wF {ρ:ae} {es:List Expr} {n:Nat} {pos:Pos} {ds:List D} {k:Nat} (h:AD X ρ es ds k) (hl:ds.length<=bN):ED X ρ (.Tuple es n pos) (.tup ds) (kn (.tup ds) k):=by
 refine ED.kn fun ow=>bj (Br (h ow)) fun σ H Q ⟨E,q⟩=>⟨E,fun vs H1 s1 r1=>⟨by rw [<- r1.length];exact Nat.le_trans hl dN,fun p hp=>?_⟩⟩
 have sm:=cu (o:=HO.tup vs) hp
 refine q _ _ (s1.trans sm) ?_
 rw [af]
 exact ⟨p,vs,rfl,cj.of aJ,r1.same sm⟩
theorem Ab {ρ:ae} {es:List Expr} {pos:Pos} {ds:List D} {k:Nat} (h:AD X ρ es ds k) (hk:k<=1) (hl:ds.length<=bN):ED X ρ (.List es pos) (.lst ds) k:=by
 refine fun ow=>bj (Bw (h ow)) fun σ H Q ⟨E,q⟩=>⟨E,fun vs H1 s1 r1=>⟨by rw [<- r1.length];exact Nat.le_trans hl dN,fun p hp=>?_⟩⟩
 have sm:=cu (o:=HO.lst vs) hp
 refine q _ _ (s1.trans sm) ?_
 rw [af]
 exact ⟨p,vs,true,rfl,aJ,uA E.own (s1.free hp) hk,r1.same sm⟩
theorem x5 {ρ:ae} {c a b:Expr} {pos:Pos} {t:Bool} {d:D} {k:Nat} (hc:TD X ρ c t) (h:if t=true then ED X ρ a d k else ED X ρ b d k):ED X ρ (.IfExp c a b pos) d k:=by
 cases t with
 | true =>
  intro ow pins s σ H Q I ⟨E,q⟩
  refine PyProof.Rows.IfExp_ (aF (hc ow pins s σ H (fun t H1=>t=true/\av H H1) I ⟨E,fun H1 s1=>⟨rfl,s1⟩⟩) fun t s1 ⟨H1,I1,e1,s1'⟩=>?_)
  subst e1
  exact h ow pins s1 σ H1 Q I1 ⟨E.same s1',fun v H2 s2 r2=>q v H2 (s1'.trans s2) (r2.imp (Kp.back s1' k))⟩
 | false =>
  intro ow pins s σ H Q I ⟨E,q⟩
  refine PyProof.Rows.IfExp_ (aF (hc ow pins s σ H (fun t H1=>t=false/\av H H1) I ⟨E,fun H1 s1=>⟨rfl,s1⟩⟩) fun t s1 ⟨H1,I1,e1,s1'⟩=>?_)
  subst e1
  exact h ow pins s1 σ H1 Q I1 ⟨E.same s1',fun v H2 s2 r2=>q v H2 (s1'.trans s2) (r2.imp (Kp.back s1' k))⟩
end Sp
namespace Sp
open PySem PySem.Spec PyProof.Rows L2
variable {X:Cx}
theorem ag.atI {K:W.Frag} {P:aZ} {H:Hp} {l:List D} {vs:List V} {i:Int} {d:D} (h:ag K H P l vs) (e:L2.atI l i=some d):∃v,L2.atI vs i=some v/\af K H P d v:=by
 unfold L2.atI at e ⊢
 rw [<- h.length]
 cases q:im l.length i with
 | none=>rw [q] at e;cases e
 | some j=>rw [q] at e;exact h.get e
theorem Fc {ρ:ae} {a b:Expr} {pos:Pos} {x z:D} {i:Int} {k j l:Nat} {o:List Prop} (ha:ED X ρ a x k) (hb:ED X ρ b (.int i) j) (hs:fB b) (h:oO x i k=.ok (z,l) o):ED X ρ (.Subscript a b pos) z l:=by
 unfold oO at h
 split at h
 ·rename_i m e0
  split at h
  ·rename_i d e
   unfold mk at h
   cases h
   rcases fD e0 with rfl|rfl
   ·refine ED.kn fun ow=>bj (xC Cf (ha ow) (hb ow) hs) fun σ H Q ⟨E,q⟩=>⟨E,fun v H1 s1 r1=>⟨E.same s1,fun u H2 s2 r2=>?_⟩⟩
    obtain ⟨p,vs,rfl,hq,rl⟩:=eT (r1.same s2)
    rw [af] at r2;subst r2
    obtain ⟨w,h1,h2⟩:=rl.atI e
    exact ⟨p,vs,i,w,rfl,rfl,hq,h1,q w H2 (s1.trans s2) h2⟩
   ·refine ED.kn fun ow=>bj (xC zA (ha ow) (hb ow) hs) fun σ H Q ⟨E,q⟩=>⟨E,fun v H1 s1 r1=>⟨E.same s1,fun u H2 s2 r2=>?_⟩⟩
    obtain ⟨p,vs,rfl,hq,rl⟩:=jh (r1.same s2)
    rw [af] at r2;subst r2
    obtain ⟨w,h1,h2⟩:=rl.atI e
    exact ⟨p,vs,i,w,rfl,rfl,hq,h1,q w H2 (s1.trans s2) h2⟩
  ·cases h
 ·cases h
def rIxD:R2:=fun x y H Q => ∃p kvs k v,x=.ref p/\y=kV k/\H p=some (.dK kvs)/\jO kvs k=some v/\Q v H
theorem CS {ρ:ae} {a b:Expr} {pos:Pos} {p q r:D×Nat} {o:List Prop} (ha:ED X ρ a p.1 p.2) (hb:ED X ρ b q.1 q.2) (hs:fB b) (h:jP p q=.ok r o):ED X ρ (.Subscript a b pos) r.1 r.2:=by
 obtain ⟨z,k⟩:=p
 unfold jP at h
 split at h
 ·cases h
 ·unfold gW at h
  split at h
  ·rename_i j hj
   rw [hj] at hb
   exact Fc ha hb hs h
  ·cases h
theorem ym {X:Cx} {e:Option Expr} {t t':TO} (h:PO X e t) (i:∀σ H Q,t' σ H Q->t σ H Q):PO X e t':=fun pins s σ H Q I q=>h pins s σ H Q I (i σ H Q q)
theorem zo {ρ:ae}:OD X ρ none none:=fun ow=>ym zb fun σ H Q ⟨E,q⟩=>q H (av.refl _)
theorem zn {ρ:ae} {e:Expr} {i:Int} {k:Nat} (h:ED X ρ e (.int i) k):OD X ρ (some e) (some i):=fun ow=>ym (za (h ow)) fun σ H Q ⟨E,q⟩=>⟨E,fun v H1 s1 r1=>by rw [af] at r1;exact ⟨i,r1,q H1 s1⟩⟩
theorem ag.cut {K:W.Frag} {P:aZ} {H:Hp} {l:List D} {vs:List V} {lo hi:Option Int} (h:ag K H P l vs):ag K H P (fO l lo hi) (gp vs lo hi):=by
 unfold fO gp
 rw [<- h.length]
 exact (h.drop _).take _
theorem gm:∀{l:List D} {n:Nat},ax l=true->ax (l.take n)=true
 | [],n,h=>by simp [ax]
 | d::l,0,h=>by simp [ax]
 | d::l,n+1,h=>by
  rw [ax,Bool.and_eq_true] at h
  rw [List.take_succ_cons,ax,Bool.and_eq_true];exact ⟨h.1,gm h.2⟩
theorem gn:∀{l:List D} {n:Nat},ax l=true->ax (l.drop n)=true
 | [],n,h=>by simp [ax]
 | d::l,0,h=>h
 | d::l,n+1,h=>by
  rw [ax,Bool.and_eq_true] at h
  exact gn (n:=n) h.2
theorem wG {ρ:ae} {a:Expr} {lo hi:Option Expr} {p2 pos:Pos} {x z:D} {l h:Option Int} {k j:Nat} (ha:ED X ρ a x k) (hl:OD X ρ lo l) (hh:OD X ρ hi h) {o:List Prop} (e:nW x l h=.ok (z,j) o) (hp:aA o):ED X ρ (.Subscript a (.Slice lo hi none p2) pos) z j:=by
 unfold nW at e
 split at e
 ·rename_i m
  ·cases e
   have c:ax m=true /\ ¬ (HT.sIx m.length 0 l=0/\HT.sIx m.length m.length h=m.length):=⟨hp.1,by have hx:=hp.2.1;unfold C5 at hx;intro z;rw [decide_eq_true z.1,decide_eq_true z.2] at hx;cases hx⟩
   refine fun ow=>bj (jX AZ (ha ow) (hl ow) (hh ow)) fun σ H Q ⟨E,q⟩=>⟨E,fun v H1 s1 r1=>⟨E.same s1,fun H2 s2=>⟨(E.same s1).same s2,fun H3 s3=>?_⟩⟩⟩
   have s13:=s2.trans s3
   obtain ⟨p,vs,rfl,hq,rl⟩:=eT (r1.same s13)
   refine ⟨p,vs,rfl,hq,by rw [<- rl.length];exact c.2,fun p' hp'=>?_⟩
   have sm:=cu (o:=HO.tup (gp vs l h)) hp'
   refine q _ _ ((s1.trans s13).trans sm) ?_
   rw [af]
   exact ⟨p',_,rfl,cj.of aJ,ag.flat _ (by unfold fO;exact gm (gn c.1)) (rl.cut.same sm)⟩
 ·rename_i m
  ·cases e
   have c:ax m=true:=hp.1
   refine fun ow=>bj (jX yM (ha ow) (hl ow) (hh ow)) fun σ H Q ⟨E,q⟩=>⟨E,fun v H1 s1 r1=>⟨E.same s1,fun H2 s2=>⟨(E.same s1).same s2,fun H3 s3=>?_⟩⟩⟩
   have s13:=s2.trans s3
   obtain ⟨p,vs,rfl,hq,rl⟩:=jh (r1.same s13)
   refine ⟨p,vs,rfl,hq,fun p' hp'=>?_⟩
   have sm:=cu (o:=HO.lst (gp vs l h)) hp'
   refine q _ _ ((s1.trans s13).trans sm) ?_
   rw [af]
   exact ⟨p',_,true,rfl,aJ,⟨rfl,(s1.trans s13).free hp'⟩,ag.flat _ (by unfold fO;exact gm (gn c)) (rl.cut.same sm)⟩
 ·cases e
theorem bL {env:Env} {pos:Pos}:∀{es:List Expr},(∀e∈es,∀x p,e ≠ .Starred x p)->(backTo pos (starEach es env)).any (·.1)=false
 | [],_=>rfl
 | e::es,h=>by
  have ih:=bL (env:=env) (es:=es) (pos:=pos) fun x hx=>h x (List.mem_cons_of_mem _ hx)
  have he:=h e List.mem_cons_self
  cases e <;> first|exact absurd rfl (he _ _) | exact ih
theorem aI {e:Expr} {es:List Expr} {env:Env} (h:∀x p,e ≠ .Starred x p):starEach (e::es) env=(false,eval e env)::starEach es env:=by
 cases e <;> first|exact absurd rfl (h _ _) | rfl
theorem wI {Φ:Fx} {sc:Scope} {ρ:ae} {f:Str} {p pos:Pos} {args:List Expr} {F:List D->Rs D} {ds:List D} {k:Nat} {r:D} {o:List Prop} (G:aL Φ X sc) (hf:yv X f F) (hg:sc.names.lookup f=some .globalImplicit)
  (ha:AD X ρ args ds k) (hst:∀e∈args,∀x p,e ≠ .Starred x p) (hnil:args=[]->ds=[]) (h:F ds=.ok r o) (hp:aA o):ED X ρ (.Call (.Name f p) args [] pos) r 0:=by
 obtain ⟨n,fa,fd,ps,hF,hr,hm,hk,hb,hd⟩:=hf
 intro ow
 cases args with
 | nil =>
  refine bj (v9 hF hr (G.gl f hg) hm hk hb .nil kH hd) fun σ H Q ⟨E,q⟩=>?_
  have hds:=hnil rfl
  subst hds
  exact ⟨[],r,o,ag.nil,h,hp,fun v H' s1 r1=>q v H' s1 r1⟩
 | cons e es =>
  refine bj (zf hF hr (G.gl f hg) hm hk hb .nil kH (ha ow) hd (aI (hst e List.mem_cons_self)) (bL fun x hx=>hst x (List.mem_cons_of_mem _ hx))) fun σ H Q ⟨E,q⟩=>⟨E,fun vs H1 s1 r1=>?_⟩
  refine ⟨ds,r,o,by rw [List.append_nil];exact r1.imp fun _ _ _=>True.intro,h,hp,fun v H' s2 r2=>q v H' (s1.trans s2) (r2.imp fun a b p=>⟨p.1,s1.free p.2⟩)⟩
theorem eU {H:Hp} {x dx C:Addr} (hx:H x=none) (hd:H dx=none):av H (aE (aE H dx (.own x)) x (.ins C dx [])):=fun a o h=>by
 rw [az (fun z=>by subst z;rw [hx] at h;cases h),az (fun z=>by subst z;rw [hd] at h;cases h)]
 exact h
theorem Aa {Φ:Fx} {sc:Scope} {ρ:ae} {f:Str} {p pos:Pos} {args:List Expr} {F:List D->Rs D} {ds:List D} {k:Nat} {r:D} {o:List Prop} (G:aL Φ X sc) (hf:DL X f F) (hg:sc.names.lookup f=some .globalImplicit)
  (ha:AD X ρ args ds k) (hst:∀e∈args,∀x p,e ≠ .Starred x p) (hnil:args=[]->ds=[]) (h:F ds=.ok r o) (hp:aA o):ED X ρ (.Call (.Name f p) args [] pos) r 0:=by
 obtain ⟨n,C,fa,fd,ps,hfl,hM,hF,hr,hm,hns,hc,hb,hd⟩:=hf
 have hl:=hfl ds r o h
 intro ow
 cases args with
 | nil =>
  refine bj (v6 hM hF hr (G.gl f hg) hm hb .nil kH hd) fun σ H Q ⟨E,q⟩=>?_
  have hds:=hnil rfl
  subst hds
  intro x dx hx hdx ne
  refine ⟨x,[],C,dx,[],r,o,rfl,aJ,hns,hc,ag.nil,h,hp,hl,fun H' kp rr=>⟨rfl,q _ H' (fun a ob ha=>?_) (rr.flat _ hl)⟩⟩
  exact kp a ob (fun z=>by subst z;rw [hx] at ha;cases ha) (eU hx hdx a ob ha)
 | cons e es =>
  refine bj (zd hM hF hr (G.gl f hg) hm hb .nil kH (ha ow) hd (aI (hst e List.mem_cons_self)) (bL fun x hx=>hst x (List.mem_cons_of_mem _ hx))) fun σ H Q ⟨E,q⟩=>⟨E,fun vs H1 s1 r1=>?_⟩
  intro x dx hx hdx ne
  refine ⟨x,vs++[],C,dx,ds,r,o,rfl,aJ,hns,hc,by rw [List.append_nil];exact (r1.same (eU hx hdx)).imp fun _ _ _=>True.intro,h,hp,hl,fun H' kp rr=>⟨rfl,q _ H' (s1.trans fun a ob ha=>?_) (rr.flat _ hl)⟩⟩
  exact kp a ob (fun z=>by subst z;rw [hx] at ha;cases ha) (eU hx hdx a ob ha)
theorem Ad {Φ:Fx} {sc:Scope} {ρ:ae} {f:Str} {p pos:Pos} {args:List Expr} {F:List D->Rs D} {ds:List D} {k:Nat} {r:D} {o:List Prop} (G:aL Φ X sc) (hf:Φ.fn f=some F) (hg:sc.names.lookup f=some .globalImplicit)
  (ha:AD X ρ args ds k) (hst:∀e∈args,∀x p,e ≠ .Starred x p) (hnil:args=[]->ds=[]) (h:F ds=.ok r o) (hp:aA o):ED X ρ (.Call (.Name f p) args [] pos) r 0:=by
 rcases G.fn f F hf with z|z
 ·exact wI G z hg ha hst hnil h hp
 ·exact Aa G z hg ha hst hnil h hp
theorem ET {o:Expr} {name:Str} {apos pos:Pos} {args:List Expr} {env:Env} (hb:attributeBase o name env (eval o env)=eval o env) (hf:methodCallForm (args.length+([]:List Keyword).length) (backTo pos (starEach args env)) (backToKw pos (keywordEach [] env))=true)
  (hl:(apos.endLine==pos.line)=true):eval (.Call (.Attribute o name apos) args [] pos) env=(do
   let ov <- eval o env
   standAt apos.atName
   let (f,first) <- holding [ov] (getMethod ov name (do return (<- importBound o env).getD true))
   callWith pos f first (backTo pos (starEach args env)) (backToKw pos (keywordEach [] env))):=by
 show (do
  let ov <- attributeBase o name env (eval o env)
  standAt apos.atName
  methodCall o name apos pos env ov (args.length+([]:List Keyword).length) (backTo pos (starEach args env)) (backToKw pos (keywordEach [] env)))=_
 rw [hb]
 unfold methodCall calleeOf methodCallPos
 rw [hf,hl]
 rfl
theorem cR {a:Expr} {m:Str} {env:Env} {t:Sem Value} (h:eu a=true):attributeBase a m env t=t:=by
 unfold attributeBase
 split
 ·cases h
 ·rfl
theorem gL {env:Env} {pos:Pos} {args:List Expr} (hst:∀e∈args,∀x p,e ≠ .Starred x p) (hn:args.length < 29):methodCallForm (args.length+([]:List Keyword).length) (backTo pos (starEach args env)) (backToKw pos (keywordEach [] env))=true:=by
 unfold methodCallForm
 have e1:(backTo pos (starEach args env)).all (fun x => !x.1)=true:=by
  have:=bL (env:=env) (pos:=pos) hst
  rw [List.all_eq_true]
  intro x hx
  have h2:¬ (backTo pos (starEach args env)).any (·.1)=true:=by rw [this];exact Bool.false_ne_true
  cases hb:x.1 with
  | false=>rfl
  | true=>exact absurd (List.any_eq_true.mpr ⟨x,hx,hb⟩) h2
 rw [e1]
 show (true&&true&&decide (args.length+0+0 < 30))=true
 simp;omega
theorem nC {K:W.Frag} {H:Hp} {P:aZ} {f:Str} {d:D}:∀{ns:List Str} {ds:List D} {vs:List V},ag K H P ds vs->(ns.zip ds).lookup f=some d->∃v,(ns.zip vs).lookup f=some v/\af K H P d v/\(ax ds=true->d.lless=true)
 | [],ds,vs,_,h=>by cases h
 | a::ns,[],vs,_,h=>by cases h
 | a::ns,e::ds,vs,r,h=>by
  rw [ag] at r
  obtain ⟨v,ws,rfl,r1,r2⟩:=r
  replace h:List.lookup f ((a,e)::ns.zip ds)=some d:=h
  show ∃u,List.lookup f ((a,v)::ns.zip ws)=some u/\_
  rw [List.lookup_cons] at h ⊢
  cases hb:f==a with
  | true =>
   rw [hb] at h;cases h
   exact ⟨v,rfl,r1,fun z=>by rw [ax,Bool.and_eq_true] at z;exact z.1⟩
  | false =>
   rw [hb] at h
   obtain ⟨u,u1,u2,u3⟩:=nC r2 h
   exact ⟨u,u1,u2,fun z=>by rw [ax,Bool.and_eq_true] at z;exact u3 z.2⟩
theorem CT {Φ:Fx} {sc:Scope} {ρ:ae} {a:Expr} {n f:Str} {pos:Pos} {ns:List Str} {ds:List D} {j:Nat} {d:D} (G:aL Φ X sc) (hf:Φ.fld n f=true) (he:ED X ρ a (.obj n ns ds) j) (hb:eu a=true) (h:(ns.zip ds).lookup f=some d):ED X ρ (.Attribute a f pos) d 0:=by
 intro ow
 refine bj (BC (he ow) (cR hb)) fun σ H Q ⟨E,q⟩=>⟨E,fun v H1 s1 r1=>?_⟩
 rw [af] at r1
 obtain ⟨fl,e0,x,C,dx,vs,rfl,h1,h2,h3,r2⟩:=r1
 obtain ⟨u,u1,u2,u3⟩:=nC r2 h
 exact ⟨x,C,dx,_,u,rfl,h3,h2,G.fld n f hf C h1,u1,q u H1 s1 (u2.flat _ (u3 fl))⟩
theorem zY {ρ:ae} {a:Expr} {n p f:Str} {i:Int} {pos:Pos} {j:Nat} (he:ED X ρ a (.xc n (some (p,[(f,i)]))) j) (hb:eu a=true):ED X ρ (.Attribute a f pos) (.int i) 0:=by
 intro ow pins s σ H Q I ⟨E,q⟩
 refine qO (cR hb) (aF (he ow pins s σ H (fun v H'=>av H H'/\ia X.K H' n (some (p,[(f,i)])) v) I ⟨E,fun v H' s1 r1=>⟨s1,by rw [af] at r1;exact r1⟩⟩) fun u s1 ⟨v,H1,I1,rx,sm,x,C,S,od,e,h1,h2,h3,h4,h5,h6⟩=>?_)
 subst e
 obtain rfl:u=Value.ref x:=rx
 obtain ⟨dx,rfl,hdx⟩:=h5 f i rfl
 obtain ⟨o,vs,e1,e2,e3,e4⟩:=(show bB X.prog X.w H1 s1.heap x (io x C (some dx)) from I1.hok x _ h4).1
 obtain ⟨mA,hn,hr⟩:=(show bB X.prog X.w H1 s1.heap dx (.xd [(f,.int i)]) from I1.hok dx _ hdx)
 obtain ⟨u,hu,ru⟩:=gw.some_of (v:=.int i) (o:=mA f) (by have:=hr f;rw [List.lookup_cons,beq_self_eq_true] at this;exact this)
 obtain ⟨nm,qn,N,bs,hdct,sn,sub,ab,col,dd,k0,k1,k2,k3,k5,mN,g1,g2,g3,g4⟩:=dO h3.ex I1.kIn
 exact zM h3.ga h3.gt (h6 f i rfl).no (h6 f i rfl).di I1.kIn e1 e2 e4 e3 hn hu (mH ru) g1 g4 ⟨.int i,H1,I1.tok _,ru,q _ _ sm (by rw [af])⟩
theorem CY {Φ:Fx} {sc:Scope} {ρ:ae} {f:Str} {B:List D->R1} {p pos:Pos} {e:Expr} {es:List Expr} {ds:List D} {k l:Nat} {z:D} {o:List Prop} (G:aL Φ X sc) (hB:cX f B) (hg:sc.names.lookup f=some .globalImplicit)
  (ha:AD X ρ (e::es) ds k) (hst:∀x∈e::es,∀y p,x ≠ .Starred y p) (h:B ds=.ok (z,l) o) (hp:aA o):ED X ρ (.Call (.Name f p) (e::es) [] pos) z l:=by
 obtain ⟨h3,h1,h2,_,h4⟩:=hB
 have h4:=h4 X ds z l o G.calm h hp
 intro ow
 have n1:=aI (env:=X.env) (es:=es) (hst e List.mem_cons_self)
 have n2:(backTo pos (starEach es X.env)).any (·.1)=false:=bL fun x hx=>hst x (List.mem_cons_of_mem _ hx)
 rcases h4 with ⟨id,e1,r,e2,e3⟩ | ⟨T,e1,r,e2,e3⟩
 ·refine bj (v8 e2 (G.gl f hg) (G.bl f h3) e1 (ha ow) h1 h2 n1 n2) fun σ H Q ⟨E,q⟩=>⟨E,fun vs H1 s1 r1=>?_⟩
  exact e3 ow H H1 vs _ Q E.own s1 r1 fun w H' s2 r2=>q w H' (s1.trans s2) r2
 ·refine bj (ue e2 (G.gl f hg) (G.bl f h3) e1 (ha ow) h1 h2 n1 n2) fun σ H Q ⟨E,q⟩=>⟨E,fun vs H1 s1 r1=>?_⟩
  exact e3 ow H H1 vs _ Q E.own s1 r1 fun w H' s2 r2=>q w H' (s1.trans s2) r2
theorem zF {ρ:ae} {tg e:Expr} {l:List D} {k:Nat} (h:ED X ρ e (.lst l) k):IE X ρ tg e l k:=by
 intro ow pins s σ H R I ⟨E,q⟩
 refine zc (tg:=tg) (h ow) pins s σ H R I ⟨E,fun v H1 s1 r1=>?_⟩
 rw [af] at r1
 obtain ⟨a,vs,b,rfl,hl,hp,rl⟩:=r1
 have rl':ag X.K H1 (Kd ow H k H1) l vs:=rl.impH (fun a o ho p=>⟨p,fun _=>⟨o,ho⟩⟩) fun a p=>⟨p,fun z=>(by cases z)⟩
 have hp':Kd ow H k H1 a b:=⟨hp,fun hb=>by subst hb;exact ⟨_,hl⟩⟩
 have sq:∀{H2:Hp},m4 X.K H2 a vs b->bR X.K H2 a vs:=fun {H2} h=>h.sq
 refine ⟨a,rfl,⟨vs,sq hl⟩,q _ H1 s1 fun i H2 st=>⟨fun d hd=>?_,fun hle=>?_⟩⟩
 ·have h2:=sq (st.ls hl hp')
  obtain ⟨w,hw,rw'⟩:=rl'.get hd
  refine ⟨⟨vs,w,h2,hw⟩,fun x H3 ⟨e3,y3⟩=>?_⟩
  subst e3
  have:=y3 vs h2
  rw [hw] at this;cases this
  exact ⟨av.refl _,rw'.mono st⟩
 ·exact ⟨vs,sq (st.ls hl hp'),by rw [<- rl.length];exact hle⟩
theorem Cn {ρ:ae} {tg e:Expr} {l:List D} {k:Nat} (h:ED X ρ e (.tup l) k):IE X ρ tg e l k:=by
 intro ow pins s σ H R I ⟨E,q⟩
 refine Bo (tg:=tg) (h ow) pins s σ H R I ⟨E,fun v H1 s1 r1=>?_⟩
 rw [af] at r1
 obtain ⟨a,vs,rfl,hl,rl⟩:=r1
 have rl':ag X.K H1 (Kd ow H k H1) l vs:=rl.impH (fun a o ho p=>⟨p,fun _=>⟨o,ho⟩⟩) fun a p=>⟨p,fun z=>(by cases z)⟩
 refine ⟨a,rfl,⟨vs,hl⟩,q _ H1 s1 fun i H2 st=>⟨fun d hd=>?_,fun hle=>?_⟩⟩
 ·have h2:=st.sq hl
  obtain ⟨w,hw,rw'⟩:=rl'.get hd
  refine ⟨⟨vs,w,h2,hw⟩,fun x H3 ⟨e3,y3⟩=>?_⟩
  subst e3
  have:=y3 vs h2
  rw [hw] at this;cases this
  exact ⟨av.refl _,rw'.mono st⟩
 ·exact ⟨vs,st.sq hl,by rw [<- rl.length];exact hle⟩
def FF (x:Str):It:=⟨fun i _=>i < x.cps.size,fun i H v H'=>H'=H/\∃c,x.cps[i]?=some c/\v=.str ⟨#[c]⟩,fun i _=>x.cps.size<=i⟩
theorem vH {P:Program} {w:World} {K:W.Frag} {tg:Expr} (x:Str) (t:Tok) (it:Addr):Turn P w K tg (FF x) [it] it (fun i h=>h.IsStrIter it "str_ascii_iterator" x t i) where
 mem:=by simp
 obj:=fun i h st b hb=>by
  have e:b=it:=by simpa using hb
  subst e
  obtain ⟨o,e,c,d⟩:=st
  exact ⟨o,e,fun v z=>by rw [d] at z;cases z⟩
 keep:=fun i h h' st k=>by
  obtain ⟨o,e,c,d⟩:=st
  exact ⟨o,k it (by simp) o e,c,d⟩
 item:=by
  intro X hP hw hK hc i pins s σ H E I hf st hg
  subst hP hw hK
  obtain ⟨f0,f1,f2,f3,f4,f5⟩:=hf it (by simp)
  have hx:x.cps[i]?=some x.cps[i]:=Array.getElem?_eq_getElem hg
  refine wpAny_pyNext_ascii_item st hx fun h' st' sb=>?_
  have I1:ah X pins σ H { s with heap:=h',toks:=s.toks+1 }:=I.turned (t':=s.toks+1) (fun b o hb e=>(sb.2 b hb).trans e) f0 f1 f3 f4 f5
  obtain ⟨o,e,c,d⟩:=id st'
  exact ⟨_,rfl,nk (s:={ s with heap:=h',toks:=s.toks+1 }) e c d (by decide) ⟨.str ⟨#[x.cps[i]]⟩,H,I1,⟨_,rfl⟩,⟨rfl,_,hx,rfl⟩,st',fun b hb=>(hf b hb).1⟩⟩
 done:=by
  intro X hP hw hK hc i pins s σ H E I hf st hg
  subst hP hw hK
  obtain ⟨f0,f1,f2,f3,f4,f5⟩:=hf it (by simp)
  exact wpAny_pyNext_ascii_end (I.ok.hd hc) st (Array.getElem?_eq_none hg) fun h' eb=>⟨rfl,I.turned (t':=s.toks) (fun b o hb e=>eb b o hb e) f0 f1 f3 f4 f5⟩
 self:=fun _ _ _ _ _ st h=>wpAny_pyIter_striter_ascii st h
theorem Co {ρ:ae} {tg e:Expr} {x:Str} {k:Nat} (h:ED X ρ e (.str x) k) (ha:(x.cps.all fun c=>decide (c < 128))=true):IE X ρ tg e (sgs x) k:=by
 intro ow pins s σ H R I ⟨E,q⟩
 refine aF (h ow pins s σ H _ I ⟨E,fun v H1 s1 r1=>(show (fun v H1=>av H H1/\af X.K H1 (Kp ow H k) (.str x) v) v H1 from ⟨s1,r1⟩)⟩) fun v s1 ⟨y,H1,I1,rel,sm,rp⟩=>?_
 rw [af] at rp;subst rp
 obtain ⟨t,rfl⟩:=rel
 have ty:strIterType x = "str_ascii_iterator" := if_pos ha
 refine wpAny_pyIter_strU ?_
 rw [ty]
 refine ⟨s1.heap.objs.size,[s1.heap.objs.size],_,FF x,H1,rfl,I1.kept (t':=s1.toks) fun b o e=>Heap.get?_push_of_some _ e,vH x t _,⟨_,Heap.get?_push_size _ rfl,rfl,rfl⟩,fun b hb=>?_,q _ H1 sm fun i H2 st=>⟨fun d hd=>?_,fun hle=>?_⟩⟩
 ·have e:b=s1.heap.objs.size:=by simpa using hb
  subst e
  exact I1.fpOk (Nat.le_refl _) (I1.hok.fresh (Nat.le_refl _))
 ·unfold sgs at hd
  rw [List.getElem?_map] at hd
  cases hc:x.cps.toList[i]? with
  | none=>rw [hc] at hd;cases hd
  | some c =>
   rw [hc] at hd;cases hd
   have hi:i < x.cps.size:=by simpa using (List.getElem?_eq_some_iff.mp hc).1
   refine ⟨hi,fun z H3 ⟨e3,c',e4,e5⟩=>?_⟩
   subst e3 e5
   rw [Array.getElem?_toList] at hc
   rw [hc] at e4;cases e4
   exact ⟨av.refl _,by rw [af]⟩
 ·unfold sgs at hle
  rw [List.length_map,Array.length_toList] at hle
  exact hle
theorem EM {ρ:ae} {tg e:Expr} {d:D} {l:List D} {k:Nat} (h:ED X ρ e d k) (hi:items d=some l):IE X ρ tg e l k:=by
 unfold items at hi
 split at hi
 ·cases hi;exact zF h
 ·cases hi;exact Cn h
 ·split at hi
  ·rename_i ha;cases hi;exact Co h ha
  ·cases hi
 ·cases hi
theorem ww {ρ:ae} {tg a:Expr} {p pos:Pos} {j:Int} {k:Nat} (hg:Gl X "range") (hm0:X.mg "range" = none) (ha:AD X ρ [a] [.int j] k) (hst:∀y p,a ≠ .Starred y p) (h1:-4611686018427387904<=j) (h2:j<=bN) :
  IE X ρ tg (.Call (.Name "range" p) [a] [] pos) ((List.range j.toNat).map fun i=>.int (i:Nat)) 0:=by
 intro ow pins s σ H R I ⟨E,q⟩
 refine ud (tg:=tg) hg hm0 (ha ow) (by rw [aI hst];rfl) pins s σ H R I ⟨E,fun vs H1 s1 r1=>?_⟩
 obtain ⟨v,rfl,rv⟩:=r1.only
 rw [af] at rv;subst rv
 have hm:(bN:Int) < 2 ^ 62:=by decide
 refine ⟨j,rfl,h1,by omega,q _ H1 s1 fun i H2 st=>⟨fun d hd=>?_,fun hle=>?_⟩⟩
 ·rw [List.getElem?_map] at hd
  cases e:(List.range j.toNat)[i]? with
  | none=>rw [e] at hd;cases hd
  | some n =>
   rw [e] at hd;cases hd
   obtain ⟨hi,hn⟩:=List.getElem?_eq_some_iff.mp e
   rw [List.getElem_range] at hn
   subst hn
   rw [List.length_range] at hi
   refine ⟨hi,fun x H3 ⟨e3,y3⟩=>?_⟩
   subst e3 y3
   exact ⟨av.refl _,by rw [af,Int.zero_add]⟩
 ·rw [List.length_map,List.length_range] at hle
  exact hle
theorem uJ {ρ:ae} {tg a b:Expr} {p pos:Pos} {j0 j:Int} {k:Nat} (hg:Gl X "range") (hm0:X.mg "range" = none) (ha:AD X ρ [a,b] [.int j0,.int j] k) (hst:∀y p,a ≠ .Starred y p) (hst2:∀y p,b ≠ .Starred y p) (h1:-4611686018427387904<=j0) (h2:j0<=4611686018427387000) (h3:-4611686018427387904<=j) (h4:j - j0<=800) :
  IE X ρ tg (.Call (.Name "range" p) [a,b] [] pos) ((List.range (j - j0).toNat).map fun i=>.int (j0+(i:Nat))) 0:=by
 intro ow pins s σ H R I ⟨E,q⟩
 refine uc (tg:=tg) hg hm0 (ha ow) (by rw [aI hst,aI hst2];rfl) (by rw [aI hst2];rfl) pins s σ H R I ⟨E,fun vs H1 s1 r1=>?_⟩
 rw [ag] at r1
 obtain ⟨v1,r,rfl,r2,r3⟩:=r1
 rw [ag] at r3
 obtain ⟨v2,r',rfl,r4,r5⟩:=r3
 rw [ag] at r5
 rw [af] at r2 r4
 subst r2 r4 r5
 refine ⟨j0,j,rfl,⟨h1,by omega,h3,by omega⟩,q _ H1 s1 fun i H2 st=>⟨fun d hd=>?_,fun hle=>?_⟩⟩
 ·rw [List.getElem?_map] at hd
  cases e:(List.range (j - j0).toNat)[i]? with
  | none=>rw [e] at hd;cases hd
  | some n =>
   rw [e] at hd;cases hd
   obtain ⟨hi,hn⟩:=List.getElem?_eq_some_iff.mp e
   rw [List.getElem_range] at hn
   subst hn
   rw [List.length_range] at hi
   refine ⟨hi,fun x H3 ⟨e3,y3⟩=>?_⟩
   subst e3 y3
   exact ⟨av.refl _,by rw [af]⟩
 ·rw [List.length_map,List.length_range] at hle
  exact hle
theorem uL:lz "range" iT:=by
 refine ⟨by decide +kernel,fun X ρ p pos args ds k d j l tg o hc hg hm ha hst hlen h hp hl ht=>?_⟩
 unfold iT at h
 split at h
 ·rename_i n
  cases h
  cases hl
  match args,hlen,ha,hst with
  | [a],_,ha,hst=>exact ww hg hm ha (hst a List.mem_cons_self) hp.1 hp.2.1
 ·rename_i m n
  cases h
  cases hl
  match args,hlen,ha,hst with
  | [a,b],_,ha,hst=>exact uJ hg hm ha (hst a List.mem_cons_self) (hst b (List.mem_cons_of_mem _ List.mem_cons_self)) hp.1 hp.2.1 hp.2.2.1 hp.2.2.2.1
 ·cases h
end Sp
namespace Sp
open PySem PySem.Spec PyProof.Rows L2
variable {X:Cx}
theorem cY {x:Str} {y:D×Bool} {ρ:ae} (z:Str):bn ρ x y z=if z=x then some y else ρ z:=rfl
theorem dy {ow:Ow} {H:Hp} {σ:L2.St} {ρ:ae} {x:Str} {d:D} {o:Bool} {v:V} {i:Nat} (hN:X.N.Nodup) (hl:σ.length=X.N.length) (E:aG X ow H σ ρ) (hi:X.N[i]?=some x) (hv:ge X.env.scope x) (r:af X.K H (iK ow x o) d v) :
  aG X ow H (σ.set i (some v)) (bn ρ x (d,o)):=by
 have hil:i < σ.length:=by rw [hl];exact (List.getElem?_eq_some_iff.mp hi).1
 refine ⟨fun y e o' h=>?_,E.own⟩
 rw [cY] at h
 by_cases hy:y=x
 ·subst hy
  rw [if_pos rfl] at h
  cases h
  exact ⟨i,v,hi,hv,by rw [List.getElem?_set_self hil],r⟩
 ·rw [if_neg hy] at h
  obtain ⟨j,w,e1,e2,e3,e4⟩:=E.get y e o' h
  have hij:i≠j:=by intro z;subst z;rw [hi] at e1;cases e1;exact hy rfl
  exact ⟨j,w,e1,e2,by rw [List.getElem?_set_ne hij];exact e3,e4⟩
theorem d8 {Φ:Fx} {sc:Scope} {x:Str} (G:aL Φ X sc) (h:b9 sc x=true):pA X.env.scope x/\ge X.env.scope x/\(X.fn x=true\/X.env.scope.names.lookup x=some .local)/\∃i:Nat,X.N[i]?=some x:=by
 have hx:=G.ns x h
 have hlt:=List.idxOf_lt_length_iff.mpr hx
 have hi:∃i:Nat,X.N[i]?=some x:=⟨X.N.idxOf x,by rw [List.getElem?_eq_getElem hlt,List.getElem_idxOf hlt]⟩
 unfold b9 at h
 rw [Bool.or_eq_true] at h
 rcases h with h|h
 ·have h:=G.lc x (by simpa using h)
  exact ⟨.inl h,.inl h,.inr h,hi⟩
 ·have h0:sc.names.lookup x=some .cell:=by simpa using h
  have h:=G.cc x h0
  exact ⟨.inr h,.inr (.inl h),.inl (G.ft x h0),hi⟩
theorem iI {Φ:Fx} {sc:Scope} (G:aL Φ X sc):∀{es:List Expr} {ds:List D} {ρ ρ':ae},aN sc es ds ρ=some ρ'->∃t,qT X es t/\(assignEach es X.env).length=ds.length/\(assignEach es X.env).findIdx? (·.1)=none /\
  ∀(ow:Ow) (vs:List V) (σ:L2.St) (H:Hp) (Q:L2.St->Hp->Prop),σ.length=X.N.length->aG X ow H σ ρ->ag X.K H (fun a b=>b=true->ow a=none) ds vs->(∀σ',σ'.length=X.N.length->aG X ow H σ' ρ'->Q σ' H)->t vs σ H Q
 | [],[],ρ,ρ',h=>by
  rw [aN] at h;cases h
  refine ⟨_,qe,rfl,rfl,fun ow vs σ H Q hl E r q=>?_⟩
  rw [ag] at r
  exact ⟨r,q σ hl E⟩
 | .Name x p::es,d::ds,ρ,ρ',h=>by
  rw [aN] at h
  split at h
  ·rename_i hx
   obtain ⟨t,h1,h2,h3,h4⟩:=iI G h
   obtain ⟨g1,g2,g3,i,g4⟩:=d8 G hx
   refine ⟨_,jW (gC (i:=i) G.nd g4 g1 g3) h1 rfl,?_,?_,fun ow vs σ H Q hl E r q=>?_⟩
   ·show (assignEach es X.env).length+1=ds.length+1
    rw [h2]
   ·show List.findIdx? (·.1) ((false,_)::assignEach es X.env)=none
    rw [List.findIdx?_cons,h3];rfl
   ·rw [ag] at r
    obtain ⟨v,vr,rfl,r1,r2⟩:=r
    refine ⟨v,vr,rfl,?_⟩
    exact h4 ow vr _ H Q (by rw [List.length_set];exact hl) (dy G.nd hl E g4 g2 r1) r2 q
  ·cases h
 | [],_::_,ρ,ρ',h=>by simp [aN] at h
 | .Name _ _::_,[],ρ,ρ',h=>by simp [aN] at h
 | .BoolOp .. :: _,ds,ρ,ρ',h=>by cases ds <;> simp [aN] at h
 | .NamedExpr .. :: _,ds,ρ,ρ',h=>by cases ds <;> simp [aN] at h
 | .BinOp .. :: _,ds,ρ,ρ',h=>by cases ds <;> simp [aN] at h
 | .UnaryOp .. :: _,ds,ρ,ρ',h=>by cases ds <;> simp [aN] at h
 | .Lambda .. :: _,ds,ρ,ρ',h=>by cases ds <;> simp [aN] at h
 | .IfExp .. :: _,ds,ρ,ρ',h=>by cases ds <;> simp [aN] at h
 | .Dict .. :: _,ds,ρ,ρ',h=>by cases ds <;> simp [aN] at h
 | .Set .. :: _,ds,ρ,ρ',h=>by cases ds <;> simp [aN] at h
 | .ListComp .. :: _,ds,ρ,ρ',h=>by cases ds <;> simp [aN] at h
 | .SetComp .. :: _,ds,ρ,ρ',h=>by cases ds <;> simp [aN] at h
 | .DictComp .. :: _,ds,ρ,ρ',h=>by cases ds <;> simp [aN] at h
 | .GeneratorExp .. :: _,ds,ρ,ρ',h=>by cases ds <;> simp [aN] at h
 | .Await .. :: _,ds,ρ,ρ',h=>by cases ds <;> simp [aN] at h
 | .Yield .. :: _,ds,ρ,ρ',h=>by cases ds <;> simp [aN] at h
 | .YieldFrom .. :: _,ds,ρ,ρ',h=>by cases ds <;> simp [aN] at h
 | .Compare .. :: _,ds,ρ,ρ',h=>by cases ds <;> simp [aN] at h
 | .Call .. :: _,ds,ρ,ρ',h=>by cases ds <;> simp [aN] at h
 | .FormattedValue .. :: _,ds,ρ,ρ',h=>by cases ds <;> simp [aN] at h
 | .JoinedStr .. :: _,ds,ρ,ρ',h=>by cases ds <;> simp [aN] at h
 | .Constant .. :: _,ds,ρ,ρ',h=>by cases ds <;> simp [aN] at h
 | .Attribute .. :: _,ds,ρ,ρ',h=>by cases ds <;> simp [aN] at h
 | .Subscript .. :: _,ds,ρ,ρ',h=>by cases ds <;> simp [aN] at h
 | .Starred .. :: _,ds,ρ,ρ',h=>by cases ds <;> simp [aN] at h
 | .List .. :: _,ds,ρ,ρ',h=>by cases ds <;> simp [aN] at h
 | .Tuple .. :: _,ds,ρ,ρ',h=>by cases ds <;> simp [aN] at h
 | .Slice .. :: _,ds,ρ,ρ',h=>by cases ds <;> simp [aN] at h
theorem nl {Φ:Fx} {sc:Scope} {tg:Expr} {d:D} {ρ ρ':ae} (G:aL Φ X sc) (h:bi sc tg d ρ=some ρ'):GD X ρ tg d ρ':=by
 unfold bi at h
 split at h
 ·split at h
  ·rename_i x p hx
   cases h
   obtain ⟨g1,g2,g3,i,g4⟩:=d8 G hx
   exact ⟨_,gC (i:=i) G.nd g4 g1 g3,fun ow v σ H Q hl E r q=>q _ (by rw [List.length_set];exact hl) (dy G.nd hl E g4 g2 r)⟩
  ·cases h
 ·split at h
  ·obtain ⟨t,h1,h2,h3,h4⟩:=iI G h
   refine ⟨_,oa (n:=_) G.calm h1 h2 h3,fun ow v σ H Q hl E r q=>?_⟩
   obtain ⟨a,vs,rfl,hs,rl⟩:=eT r
   exact ⟨a,vs,rfl,hs,rl.length.symm,h4 ow vs σ H Q hl E rl q⟩
  ·cases h
 ·cases h
theorem q9 {c:Expr} {cs:List Expr} {env:Env} {M:Model} {A:Around} {E:Value->Shared->Prop} {s:Shared} {Q:Bool->Shared->Prop}
  (h:wpAny M A (isTrue c env (eval c env)) (fun b s'=>if b=true then wpAny M A (fK cs env) Q E s' else Q false s') E s):wpAny M A (fK (c::cs) env) Q E s:=by
 have no:∀(l:List Expr) (s:Shared),Q false s->wpAny M A (forIn l false fun c r=>if r=true then do let ok <- isTrue c env (eval c env);pure (ForInStep.yield ok) else pure (ForInStep.yield r)) Q E s:=by
  intro l
  induction l with
  | nil=>intro s h;exact wpAny_pure h
  | cons x l ih =>
   intro s h
   rw [List.forIn_cons]
   simp only [Bool.false_eq_true,if_false]
   exact wpAny_bind (wpAny_pure (ih s h))
 unfold fK
 rw [List.forIn_cons]
 simp only [if_true]
 refine wpAny_bind (wpAny_bind (wpAny_mono h (fun b s' hb=>wpAny_pure ?_) fun _ _ x=>x))
 cases b with
 | true=>exact hb
 | false=>exact no cs s' hb
theorem tE {ρ:ae}:vA X ρ [] true:=fun ow pins s σ H Q I ⟨E,q⟩=>wpAny_pure ⟨H,I,q H (av.refl _)⟩
theorem lB {ρ:ae} {c:Expr} {cs:List Expr} {b b':Bool} (h:TD X ρ c b) (h':if b=true then vA X ρ cs b' else b'=false):vA X ρ (c::cs) b':=by
 intro ow pins s σ H Q I ⟨E,q⟩
 refine q9 (aF (h ow pins s σ H (fun t H1=>t=b/\av H H1) I ⟨E,fun H1 s1=>⟨rfl,s1⟩⟩) fun t s1 ⟨H1,I1,e,sm⟩=>?_)
 subst e
 cases t with
 | true =>
  rw [if_pos rfl] at h' ⊢
  exact h' ow pins s1 σ H1 Q I1 ⟨E.same sm,fun H2 s2=>q H2 (sm.trans s2)⟩
 | false =>
  rw [if_neg Bool.false_ne_true] at h' ⊢
  subst h'
  exact ⟨H1,I1,q H1 sm⟩
end Sp
namespace Sp
open PySem PySem.Spec PyProof.Rows L2
variable {X:Cx}
structure dY (X:Cx) (ρ:ae) (e:Expr) (it:Bool) (d:D) (k:Nat):Prop where
 ed:it=false->ED X ρ e d k
 td:it=false->∀b,d=.bl b->TD X ρ e b
 ie:it=true->∀tg l,items d=some l->cO e tg=true->IE X ρ tg e l k
theorem dY.of {ρ:ae} {e:Expr} {it:Bool} {d:D} {k:Nat} (h:ED X ρ e d k) (t:∀b,d=.bl b->TD X ρ e b):dY X ρ e it d k:=⟨fun _=>h,fun _=>t,fun _ tg l hi _=>EM h hi⟩
theorem fo {Φ:Fx} {e:Expr} {it:Bool} {sc:Scope} {ρ:ae} {r:D×Nat} {l:List Prop} (h:ar Φ e it sc ρ=.ok r l):∀x p,e ≠ .Starred x p:=by
 intro x p z;subst z;cases h
theorem cM {Φ:Fx} {sc:Scope} {ρ:ae}:∀{es:List Expr} {r:List D×Nat} {l:List Prop},bq Φ es sc ρ=.ok r l->aA l->(∀e∈es,∀x p,e ≠ .Starred x p)/\es.length=r.1.length
 | [],r,l,h,_=>by cases h;exact ⟨fun e he=>(by cases he),rfl⟩
 | e::es,r,l,h,hp=>by
  obtain ⟨p,l1,l2,h1,p1,h,p2⟩:=aK h hp
  obtain ⟨q,l3,l4,h2,p3,h,p4⟩:=aK h p2
  cases h
  obtain ⟨i1,i2⟩:=cM h2 p3
  refine ⟨fun e' he=>?_,by rw [List.length_cons,List.length_cons,i2]⟩
  rcases List.mem_cons.mp he with rfl|he
  ·exact fo h1
  ·exact i1 e' he
theorem xJ {d:D} {k:Nat}:kn d k=0\/kn d k=k:=by
 unfold kn;split
 ·exact .inl rfl
 ·exact .inr rfl
theorem vk {sc scope:Scope} (h:iZ sc scope=true):scope.kind=.function/\(∀y∈scope.names,y.2=.local->scope.names.lookup y.1=some .local) /\
  (∀y∈scope.names,y.2=.free->sc.names.lookup y.1=some .cell\/sc.names.lookup y.1=some .free)/\(scope.names.map (·.1)).Nodup:=by
 unfold iZ at h
 simp only [Bool.and_eq_true,List.all_eq_true,decide_eq_true_eq,Bool.or_eq_true] at h
 obtain ⟨⟨⟨h1,h3⟩,h4⟩,h5⟩:=h
 refine ⟨h1,fun y hy e=>(h3 y hy).resolve_left (fun z=>z e),fun y hy e=>?_,h5⟩
 rcases h4 y hy with (q|q) | q
 ·exact absurd e q
 ·exact .inl q.2
 ·exact .inr q
theorem cx {env:Env}:∀{names:List (Str×NameKind)} {x:Str} {k0:NameKind},k0 ≠ .free->names.lookup x=some k0 ->
  (names.map fun (n,k)=>if (k==NameKind.free&&env.scope.kind == .function&&env.kindOf n==some .cell) then (n,NameKind.cell) else (n,k)).lookup x=some k0
 | [],_,_,_,h=>by simp at h
 | (n,k)::r,x,k0,hk,h=>by
  have ih:=@cx env r x k0 hk
  show List.lookup x ((if (k==NameKind.free&&env.scope.kind == .function&&env.kindOf n==some .cell)=true then (n,NameKind.cell) else (n,k))::_)=_
  cases hx:x==n with
  | true =>
   simp only [List.lookup_cons,hx] at h
   cases h
   have:(k==NameKind.free)=false:=by simpa using hk
   simp [List.lookup_cons,hx,this]
  | false =>
   simp only [List.lookup_cons,hx] at h
   by_cases hc:(k==NameKind.free&&env.scope.kind == .function&&env.kindOf n==some .cell)=true
   ·rw [if_pos hc];simp only [List.lookup_cons,hx];exact ih h
   ·rw [if_neg hc];simp only [List.lookup_cons,hx];exact ih h
theorem kN {names:List (Str×NameKind)}:∀{x:Str} {k:NameKind},names.lookup x=some k->x∈names.map (·.1):=fun {x k} h=>List.mem_map.mpr ⟨_,PySem.mem_of_lookup h,rfl⟩
theorem zH {Φ:Fx} {sc scope:Scope} {cl:List (Str×Addr)} {C:Addr} {s:Shared} {H:Hp} {fp:List Addr} (G:aL Φ X sc) (h:iZ sc scope=true):aL Φ (iS X scope cl C (scope.names.map (·.1)) s H fp) scope:=by
 obtain ⟨h1,h3,h4,h5⟩:=vk h
 refine ⟨G.calm,h5,fun x hx=>?_,fun x hx=>?_,fun x hx=>lookup_relabel_local hx,fun x hx=>cx (by decide) hx,fun g F hg=>G.fn g F hg,G.con,G.blt,G.itr,G.mth,G.mtt,G.slf,G.fld,G.omt,G.bl,G.room,fun x hx=>?_,fun x hx=>decide_eq_true hx⟩
 ·exact cx (by decide) hx
 ·rcases hx with hx|hx
  ·exact .inl (cx (by decide) hx)
  ·exact cy hx
 ·unfold b9 at hx
  rw [Bool.or_eq_true] at hx
  rcases hx with hx|hx <;> exact kN (by simpa using hx)
theorem u5 {Φ:Fx} {sc scope:Scope} (G:aL Φ X sc) (h:iZ sc scope=true):fe X.env scope (scope.names.map (·.1)):=by
 obtain ⟨h1,h3,h4,h5⟩:=vk h
 exact ⟨h1,h5,h3,h5,fun n hn=>G.kc n (h4 (n,.free) hn rfl)⟩
theorem EH:∀{a b:Nat},kj a b<=1->a<=kj a b/\b<=kj a b
 | 0,0,_=>by decide
 | 0,1,_=>by decide
 | 0,2,h=>absurd h (by decide)
 | 0,_+3,h=>by rw [kj] at h;omega
 | 1,0,_=>by decide
 | 1,1,_=>by decide
 | 1,2,h=>absurd h (by decide)
 | 1,_+3,h=>absurd h (by rw [kj] <;> simp)
 | 2,0,h=>absurd h (by decide)
 | 2,1,h=>absurd h (by decide)
 | 2,2,h=>absurd h (by decide)
 | 2,_+3,h=>absurd h (by rw [kj] <;> simp)
 | _+3,0,h=>by rw [kj] at h <;> simp_all <;> omega
 | _+3,1,h=>absurd h (by rw [kj] <;> simp)
 | _+3,2,h=>absurd h (by rw [kj] <;> simp)
 | _+3,_+3,h=>absurd h (by rw [kj] <;> simp)
theorem Kp.up {ow:Ow} {H:Hp} (o:dB ow H) {a:Addr} {b:Bool}:∀{i j:Nat},i<=j->j<=1->Kp ow H i a b->Kp ow H j a b
 | 0,0,_,_,p=>p
 | 0,1,_,_,p=>fun _=>o.free p.2
 | 1,1,_,_,p=>p
 | 1,0,h,_,_=>absurd h (by omega)
 | _+2,_,h,g,_=>absurd h (by omega)
 | 0,_+2,_,g,_=>absurd g (by omega)
 | 1,_+2,_,g,_=>absurd g (by omega)
theorem ED.up {ρ:ae} {e:Expr} {d:D} {i j:Nat} (h:ED X ρ e d i) (h1:i<=j) (h2:j<=1):ED X ρ e d j:=fun ow=>bj (h ow) fun σ H Q ⟨E,q⟩=>⟨E,fun v H' s r=>q v H' s (r.imp fun a b p=>Kp.up E.own h1 h2 p)⟩
def ni (step:D->Rs (Option (D×Nat))) (d:D):Option D:=match step d with | .ok (some p) _=>some p.1|_=>none
theorem o8 {step:D->Rs (Option (D×Nat))}:∀{ds:List D} {r:List D×Nat} {l:List Prop},fq step ds=.ok r l->aA l ->
  (∀d∈ds,∃r l,step d=.ok r l/\aA l)/\r.1=ds.filterMap (ni step)/\(r.2<=1->∀d∈ds,∀p l,step d=.ok (some p) l->p.2<=r.2)
 | [],r,l,h,_=>by
  cases h
  exact ⟨fun d hd=>(by cases hd),rfl,fun _ d hd=>(by cases hd)⟩
 | d::ds,r,l,h,hp=>by
  obtain ⟨x,l1,l2,h1,p1,h,p2⟩:=aK h hp
  obtain ⟨q,l3,l4,h2,p3,h,p4⟩:=aK h p2
  obtain ⟨i1,i2,i3⟩:=o8 h2 p3
  have i1':∀y∈d::ds,∃r l,step y=.ok r l/\aA l:=fun y hy=>by
   rcases List.mem_cons.mp hy with rfl|hy
   ·exact ⟨_,_,h1,p1⟩
   ·exact i1 y hy
  cases x with
  | none =>
   cases h
   refine ⟨i1',?_,fun hj x hx y i e=>?_⟩
   ·rw [List.filterMap_cons_none (by unfold ni;rw [h1])];exact i2
   ·rcases List.mem_cons.mp hx with rfl|hx
    ·rw [h1] at e;cases e
    ·exact i3 hj x hx y i e
  | some p =>
   cases h
   refine ⟨i1',?_,fun hj x hx y i e=>?_⟩
   ·rw [List.filterMap_cons_some (by unfold ni;rw [h1]),i2]
   ·obtain ⟨a1,a2⟩:=EH hj
    rcases List.mem_cons.mp hx with rfl|hx
    ·rw [h1] at e;cases e;exact a1
    ·exact Nat.le_trans (i3 (Nat.le_trans a2 hj) x hx y i e) a2
end Sp
namespace Sp
open PySem PySem.Spec PyProof.Rows L2
theorem bD {X:Cx} {ρ:ae} {e:Expr} {it:Bool} {d:D} {k:Nat} (h:ED X ρ e d k) (he:∀whole,isTrue e X.env whole=(do let v <- whole;standAt e.pos;holding [v] (truthy v))):dY X ρ e it d k:=.of h fun b hb=>by subst hb;exact DW h he
theorem AK {X:Cx} {ρ:ae} {a b:Expr} {op:CmpOp} {pos:Pos} {x y:D} {r:Bool} {k j:Nat} {o:List Prop} (hu:X.A.units+70 < cLine) (ha:ED X ρ a x k) (hb:ED X ρ b y j) (h:iW op x y=.ok r o) (hp:aA o) (hm:behindInMarks op b=false):TD X ρ (.Compare a [op] [b] pos) r:=by
 have c:=gM (X:=X) hu h hp
 intro ow pins s σ H Q I ⟨E,q⟩
 refine wpAny_isTrue_Compare1 (Fw (ha ow) (hb ow) I (R:=fun v u H2=>av H H2/\af X.K H2 (fun _ _=>True) x v/\af X.K H2 (fun _ _=>True) y u) ⟨E,fun v H1 s1 r1=>⟨E.same s1,fun u H2 s2 r2=>⟨s1.trans s2,(r1.imp fun _ _ _=>True.intro).same s2,r2.imp fun _ _ _=>True.intro⟩⟩⟩ fun v u s2 x y H2 I2 rx ry ⟨sm,r1,r2⟩=>?_) hm
 refine aF (c _ _ pins s2 σ H2 x y v u (fun w H'=>w=.bl r/\H2=H') I2 rx ry ⟨r1,r2,rfl,rfl⟩) fun u' s3 ⟨w,H3,I3,r3,e1,e2⟩=>?_
 subst e1 e2
 cases (show u'=Value.bool r from r3)
 exact wpAny_truthy_bool ⟨H2,I3,q H2 sm⟩
theorem vJ {X:Cx} {ρ:ae} {a b c:Expr} {op op2:CmpOp} {pos:Pos} {x y z:Int} {r r2:Bool} {k j i:Nat} (hu:X.A.units+70 < cLine) (ha:ED X ρ a (.int x) k) (hb:ED X ρ b (.int y) j) (hc:ED X ρ c (.int z) i) (h:eN op x y=some r) (h2:eN op2 y z=some r2) (hm:behindInMarks op2 c=false):TD X ρ (.Compare a [op,op2] [b,c] pos) (r&&r2):=by
 have c1:=gM (X:=X) hu (lh h) (show aA [] from True.intro)
 have c2:=gM (X:=X) hu (lh h2) (show aA [] from True.intro)
 refine fun ow=>sL (vZ (c1 (fun _ _=>True) (fun _ _=>True)) (c2 (fun _ _=>True) (fun _ _=>True)) (ha ow) (hb ow) (hc ow) hm) fun σ H Q ⟨E,q⟩=>⟨E,fun v H1 s1 r1=>⟨E.same s1,fun u H2 s2 r2=>?_⟩⟩
 rw [af] at r1 r2
 subst r1 r2
 refine ⟨by rw [af],by rw [af],r,rfl,?_⟩
 cases r with
 | false=>exact ⟨false,rfl,q H2 (s1.trans s2)⟩
 | true =>
  rw [if_pos rfl]
  refine ⟨(E.same s1).same s2,fun w H3 s3 r3=>?_⟩
  rw [af] at r3
  subst r3
  exact ⟨by rw [af],by rw [af],_,rfl,q H3 ((s1.trans s2).trans s3)⟩
theorem AJ {X:Cx} {ρ:ae} {a:Expr} {pos:Pos} {b:Bool} (h:TD X ρ a b):TD X ρ (.UnaryOp .Not a pos) (!b):=fun ow=>sL (Bi (h ow)) fun σ H Q ⟨E,q⟩=>⟨E,fun H1 s1=>q H1 s1⟩
structure c6 (X:Cx) (ρ:ae) (op:BoolOp) (es:List Expr) (b:Bool):Prop where
 ed:es≠[]->∀pos,ED X ρ (.BoolOp op es pos) (.bl b) 0
 tw:es≠[]->∀pos ow,PW X (.BoolOp op es pos) (xl X ow ρ b)
 ts:op=.And->vA X ρ es b
theorem eO {X:Cx} {ρ:ae} {op:BoolOp} {e:Expr} {b:Bool} {k:Nat} (h:ED X ρ e (.bl b) k) (t:TD X ρ e b):c6 X ρ op [e] b:=by
 have h0:ED X ρ e (.bl b) 0:=by
  have:=h.kn
  rw [show kn (.bl b) k=0 from rfl] at this
  exact this
 refine ⟨fun _ pos ow=>Bt (h0 ow),fun _ pos ow=>?_,fun _=>lB t (by cases b;rfl;exact tE)⟩
 cases op with
 | And=>exact yW (t ow)
 | Or=>exact Bg (t ow)
theorem pO {X:Cx} {ρ:ae} {e e2:Expr} {es:List Expr} {b:Bool} {k:Nat} (h:ED X ρ e (.bl true) k) (t:TD X ρ e true) (r:c6 X ρ .And (e2::es) b):c6 X ρ .And (e::e2::es) b:=by
 refine ⟨fun _ pos ow=>?_,fun _ pos ow=>?_,fun _=>lB t (by rw [if_pos rfl];exact r.ts rfl)⟩
 ·refine bj (uf (h ow) (r.ed (by simp) pos ow)) fun σ H Q ⟨E,q⟩=>⟨E,fun v H1 s1 r1=>?_⟩
  rw [af] at r1
  exact ⟨true,r1,by rw [if_pos rfl];exact ⟨E.same s1,fun w H2 s2 r2=>q w H2 (s1.trans s2) (r2.imp (Kp.back s1 0))⟩⟩
 ·intro wh pins s σ H Q I hq
  exact t8 (t ow) (r.tw (by simp) pos ow) wh pins s σ H Q I ⟨hq.1,fun H1 s1=>by dsimp only;rw [if_pos rfl];exact ⟨hq.1.same s1,fun H2 s2=>hq.2 H2 (s1.trans s2)⟩⟩
theorem pi {X:Cx} {ρ:ae} {e e2:Expr} {es:List Expr} {k:Nat} (h:ED X ρ e (.bl false) k) (t:TD X ρ e false) (ne:∀pos,∃t,PE X (.BoolOp .And (e2::es) pos) t) (nw:∀pos,∃t,PW X (.BoolOp .And (e2::es) pos) t):c6 X ρ .And (e::e2::es) false:=by
 refine ⟨fun _ pos ow=>?_,fun _ pos ow=>?_,fun _=>lB t (by rw [if_neg Bool.false_ne_true])⟩
 ·obtain ⟨t2,h2⟩:=ne pos
  refine bj (uf (h ow) h2) fun σ H Q ⟨E,q⟩=>⟨E,fun v H1 s1 r1=>?_⟩
  rw [af] at r1
  exact ⟨false,r1,by rw [if_neg Bool.false_ne_true];exact q _ H1 s1 (by rw [af])⟩
 ·obtain ⟨t2,h2⟩:=nw pos
  intro wh pins s σ H Q I hq
  exact t8 (t ow) h2 wh pins s σ H Q I ⟨hq.1,fun H1 s1=>by dsimp only;rw [if_neg Bool.false_ne_true];exact hq.2 H1 s1⟩
theorem sy {X:Cx} {ρ:ae} {e e2:Expr} {es:List Expr} {b:Bool} {k:Nat} (h:ED X ρ e (.bl false) k) (t:TD X ρ e false) (r:c6 X ρ .Or (e2::es) b):c6 X ρ .Or (e::e2::es) b:=by
 refine ⟨fun _ pos ow=>?_,fun _ pos ow=>?_,fun z=>by cases z⟩
 ·refine bj (xB (h ow) (r.ed (by simp) pos ow)) fun σ H Q ⟨E,q⟩=>⟨E,fun v H1 s1 r1=>?_⟩
  rw [af] at r1
  exact ⟨false,r1,by rw [if_neg Bool.false_ne_true];exact ⟨E.same s1,fun w H2 s2 r2=>q w H2 (s1.trans s2) (r2.imp (Kp.back s1 0))⟩⟩
 ·intro wh pins s σ H Q I hq
  exact xz (t ow) (r.tw (by simp) pos ow) wh pins s σ H Q I ⟨hq.1,fun H1 s1=>by dsimp only;rw [if_neg Bool.false_ne_true];exact ⟨hq.1.same s1,fun H2 s2=>hq.2 H2 (s1.trans s2)⟩⟩
theorem pN {X:Cx} {ρ:ae} {e e2:Expr} {es:List Expr} {k:Nat} (h:ED X ρ e (.bl true) k) (t:TD X ρ e true) (ne:∀pos,∃t,PE X (.BoolOp .Or (e2::es) pos) t) (nw:∀pos,∃t,PW X (.BoolOp .Or (e2::es) pos) t):c6 X ρ .Or (e::e2::es) true:=by
 refine ⟨fun _ pos ow=>?_,fun _ pos ow=>?_,fun z=>by cases z⟩
 ·obtain ⟨t2,h2⟩:=ne pos
  refine bj (xB (h ow) h2) fun σ H Q ⟨E,q⟩=>⟨E,fun v H1 s1 r1=>?_⟩
  rw [af] at r1
  exact ⟨true,r1,by rw [if_pos rfl];exact q _ H1 s1 (by rw [af])⟩
 ·obtain ⟨t2,h2⟩:=nw pos
  intro wh pins s σ H Q I hq
  exact xz (t ow) h2 wh pins s σ H Q I ⟨hq.1,fun H1 s1=>by dsimp only;rw [if_pos rfl];exact hq.2 H1 s1⟩
theorem og {X:Cx} {e:Expr}:PE X e (fun _ _ _=>False):=fun _ _ _ _ _ _ h=>h.elim
theorem n6 {X:Cx} {e:Expr}:PW X e (fun _ _ _=>False):=fun _ _ _ _ _ _ _ h=>h.elim
theorem ye {op:CmpOp} {b:Expr} {Φ:Fx} {sc:Scope} {ρ:ae} {r:D×Nat} {it:Bool} {l:List Prop} (h:ar Φ b it sc ρ=.ok r l):behindInMarks op b=false:=by
 cases b <;> first|rfl|cases h
theorem qp {sc:Scope} {x z:Str} (h:b9 sc z=true) (hx:sc.names.lookup x=some .free):x≠z:=by
 intro e;subst e
 unfold b9 at h
 rw [hx] at h
 revert h;decide
theorem sA {sc:Scope}:∀{es:List Expr} {ds:List D} {ρ ρ':ae},aN sc es ds ρ=some ρ'->∀x y,sc.names.lookup x=some .free->ρ x=some y->ρ' x=some y:=by
 intro es
 induction es with
 | nil =>
  intro ds ρ ρ' h x y hx hl
  cases ds with
  | nil=>rw [aN] at h;cases h;exact hl
  | cons d ds=>cases h
 | cons e es ih =>
  intro ds ρ ρ' h x y hx hl
  cases ds with
  | nil=>cases e <;> cases h
  | cons d ds =>
   cases e with
   | Name z p =>
    rw [aN] at h
    split at h
    ·rename_i hz
     exact ih h x y hx (by rw [cY,if_neg (qp hz hx)];exact hl)
    ·cases h
   | _=>cases h
theorem vn {sc:Scope} {tg:Expr} {d:D} {ρ ρ':ae} (h:bi sc tg d ρ=some ρ'):∀x y,sc.names.lookup x=some .free->ρ x=some y->ρ' x=some y:=by
 intro x y hx hl
 unfold bi at h
 split at h
 ·split at h
  ·rename_i hz
   cases h
   rw [cY,if_neg (qp hz hx)];exact hl
  ·cases h
 ·split at h
  ·exact sA h x y hx hl
  ·cases h
 ·cases h
theorem iU {Φ:Fx} {e:Expr} {it:Bool} {sc:Scope} {ρ:ae} {r:D×Nat} {l:List Prop} {env:Env} (h:ar Φ e it sc ρ=.ok r l) (x:Value):foldedSetIterable e env x=pure x:=by
 cases e <;> first|rfl|cases h
mutual
theorem oC:∀x y:D,lK true x y=x
 | .int _,.int _=>rfl
 | .bl _,.bl _=>rfl
 | .tup l,.tup m=>by
  show (if l.length=m.length then D.tup (iM true l m) else cond true (.tup l) (.tup m))=.tup l
  split
  ·rename_i h;rw [um l m h]
  ·rfl
 | .non,_=>rfl
 | .str _,_=>rfl
 | .dct _ _,_=>rfl
 | .lst _,_=>rfl
 | .typ _,_=>rfl
 | .sn _,_=>rfl
 | .obj _ _ _,_=>rfl
 | .cls _,_=>rfl
 | .xc _ _,_=>rfl
 | .int _,.non=>rfl
 | .int _,.bl _=>rfl
 | .int _,.str _=>rfl
 | .int _,.dct _ _=>rfl
 | .int _,.typ _=>rfl
 | .int _,.sn _=>rfl
 | .int _,.obj _ _ _=>rfl
 | .int _,.cls _=>rfl
 | .int _,.xc _ _=>rfl
 | .int _,.tup _=>rfl
 | .int _,.lst _=>rfl
 | .bl _,.non=>rfl
 | .bl _,.int _=>rfl
 | .bl _,.str _=>rfl
 | .bl _,.dct _ _=>rfl
 | .bl _,.typ _=>rfl
 | .bl _,.sn _=>rfl
 | .bl _,.obj _ _ _=>rfl
 | .bl _,.cls _=>rfl
 | .bl _,.xc _ _=>rfl
 | .bl _,.tup _=>rfl
 | .bl _,.lst _=>rfl
 | .tup _,.non=>rfl
 | .tup _,.int _=>rfl
 | .tup _,.bl _=>rfl
 | .tup _,.str _=>rfl
 | .tup _,.dct _ _=>rfl
 | .tup _,.typ _=>rfl
 | .tup _,.sn _=>rfl
 | .tup _,.obj _ _ _=>rfl
 | .tup _,.cls _=>rfl
 | .tup _,.xc _ _=>rfl
 | .tup _,.lst _=>rfl
theorem um:∀l m:List D,l.length=m.length->iM true l m=l
 | [],[],_=>rfl
 | x::l,y::m,h=>by
  show lK true x y::iM true l m=x::l
  rw [oC x y,um l m (by simpa using h)]
 | [],_::_,h=>by cases h
 | _::_,[],h=>by cases h
end
mutual
theorem oE:∀x y:D,lK false x y=y
 | .int _,.int _=>rfl
 | .bl _,.bl _=>rfl
 | .tup l,.tup m=>by
  show (if l.length=m.length then D.tup (iM false l m) else cond false (.tup l) (.tup m))=.tup m
  split
  ·rename_i h;rw [uo l m h]
  ·rfl
 | .non,_=>rfl
 | .str _,_=>rfl
 | .dct _ _,_=>rfl
 | .lst _,_=>rfl
 | .typ _,_=>rfl
 | .sn _,_=>rfl
 | .obj _ _ _,_=>rfl
 | .cls _,_=>rfl
 | .xc _ _,_=>rfl
 | .int _,.non=>rfl
 | .int _,.bl _=>rfl
 | .int _,.str _=>rfl
 | .int _,.dct _ _=>rfl
 | .int _,.typ _=>rfl
 | .int _,.sn _=>rfl
 | .int _,.obj _ _ _=>rfl
 | .int _,.cls _=>rfl
 | .int _,.xc _ _=>rfl
 | .int _,.tup _=>rfl
 | .int _,.lst _=>rfl
 | .bl _,.non=>rfl
 | .bl _,.int _=>rfl
 | .bl _,.str _=>rfl
 | .bl _,.dct _ _=>rfl
 | .bl _,.typ _=>rfl
 | .bl _,.sn _=>rfl
 | .bl _,.obj _ _ _=>rfl
 | .bl _,.cls _=>rfl
 | .bl _,.xc _ _=>rfl
 | .bl _,.tup _=>rfl
 | .bl _,.lst _=>rfl
 | .tup _,.non=>rfl
 | .tup _,.int _=>rfl
 | .tup _,.bl _=>rfl
 | .tup _,.str _=>rfl
 | .tup _,.dct _ _=>rfl
 | .tup _,.typ _=>rfl
 | .tup _,.sn _=>rfl
 | .tup _,.obj _ _ _=>rfl
 | .tup _,.cls _=>rfl
 | .tup _,.xc _ _=>rfl
 | .tup _,.lst _=>rfl
theorem uo:∀l m:List D,l.length=m.length->iM false l m=m
 | [],[],_=>rfl
 | x::l,y::m,h=>by
  show lK false x y::iM false l m=y::m
  rw [oE x y,uo l m (by simpa using h)]
 | [],_::_,h=>by cases h
 | _::_,[],h=>by cases h
end
theorem xL {k j:Nat}:uC true k j=k:=by unfold uC;split <;> rfl
theorem xM {k j:Nat}:uC false k j=j:=by
 unfold uC;split
 ·assumption
 ·rfl
theorem qx {t:Bool} {r s:R1} {d:D×Nat} {l:List Prop} (h:xS t r s=.ok d l) (hp:aA l):∃m,(if t=true then r else s)=.ok d m/\aA m:=by
 unfold xS at h
 split at h
 ·cases t with
  | true=>cases h
  | false=>exact ⟨l,h,hp⟩
 ·rename_i p m
  split at h
  ·cases t with
   | true=>exact ⟨l,h,hp⟩
   | false=>cases h
  ·rename_i q n
   cases h
   obtain ⟨p1,p2⟩:=cN.mp hp
   cases t with
   | true=>exact ⟨m,by rw [oC,xL];rfl,kS p1 rfl⟩
   | false=>exact ⟨n,by rw [oE,xM];rfl,kS p2 rfl⟩
theorem jA {α:Type} {p:D×Nat} {f:Bool->Rs α} {a:α} {l:List Prop} (h:i5 p f=.ok a l):∃b,p.1=.bl b/\f b=.ok a l:=by
 unfold i5 at h
 split at h
 ·rename_i b e;exact ⟨b,e,h⟩
 ·cases h
theorem wv {p:D×Nat} {f:Int->R1} {a:D×Nat} {l:List Prop} (h:gW p f=.ok a l):∃b,p.1=.int b/\f b=.ok a l:=by
 unfold gW at h
 split at h
 ·rename_i b e;exact ⟨b,e,h⟩
 ·cases h
structure Ih (Φ:Fx) (n:Nat):Prop where
 e:∀(e:Expr) {it:Bool} {sc:Scope} {ρ:ae} {p:D×Nat} {l:List Prop} {X:Cx},sizeOf e < n->ar Φ e it sc ρ=.ok p l->aA l->aL Φ X sc->dY X ρ e it p.1 p.2
 es:∀(es:List Expr) {sc:Scope} {ρ:ae} {p:List D×Nat} {l:List Prop} {X:Cx},sizeOf es < n->bq Φ es sc ρ=.ok p l->aA l->aL Φ X sc->AD X ρ es p.1 p.2
 b:∀(op:BoolOp) (es:List Expr) {sc:Scope} {ρ:ae} {b:Bool} {l:List Prop} {X:Cx},sizeOf es < n->cQ Φ op es sc ρ=.ok b l->aA l->aL Φ X sc->c6 X ρ op es b
 o:∀(e:Option Expr) {sc:Scope} {ρ:ae} {o:Option Int} {l:List Prop} {X:Cx},sizeOf e < n->jJ Φ e sc ρ=.ok o l->aA l->aL Φ X sc->OD X ρ e o
theorem aU {a b n:Nat} (h:a < b) (hs:b < n+1):a < n:=Nat.lt_of_lt_of_le h (Nat.le_of_lt_succ hs)
section
variable {Φ:Fx} {n:Nat} {it:Bool} {sc:Scope} {ρ:ae} {r:D×Nat} {l:List Prop} {X:Cx}
theorem yF {x:Str} {pos:Pos} (h:gU Φ x sc ρ=.ok r l) (G:aL Φ X sc):dY X ρ (.Name x pos) it r.1 r.2:=by
 unfold gU at h
 split at h
 ·rename_i hx
  split at h
  ·rename_i hg
   split at h
   ·rename_i d hd;cases h;exact bD (CV G hd hg hx) (fun _=>rfl)
   ·split at h
    ·rename_i T hT;cases h;exact bD (CQ G hT hg) (fun _=>rfl)
    ·cases h
  ·split at h
   ·rename_i p hl
    unfold mk at h;cases h
    exact bD (zZ (o:=p.2) hl hx) (fun _=>rfl)
   ·cases h
 ·cases h
theorem AU (I:Ih Φ n) {a b:Expr} {op:Operator} {pos:Pos} (hs:sizeOf (Expr.BinOp a op b pos) < n+1) (h:ar Φ (.BinOp a op b pos) it sc ρ=.ok r l) (hp:aA l) (G:aL Φ X sc):dY X ρ (.BinOp a op b pos) it r.1 r.2:=by
 obtain ⟨p,l1,l2,h1,p1,h,p2⟩:=aK (show Rs.bnd _ _=_ from h) hp
 obtain ⟨q,l3,l4,h2,p3,h,p4⟩:=aK h p2
 exact bD (CZ ((I.e a (aU (by simp <;> omega) hs) h1 p1 G).ed rfl) ((I.e b (aU (by simp <;> omega) hs) h2 p3 G).ed rfl) h p4) (fun _=>rfl)
theorem D6 (I:Ih Φ n) {a:Expr} {op:UnaryOp} {pos:Pos} (hs:sizeOf (Expr.UnaryOp op a pos) < n+1) (h:ar Φ (.UnaryOp op a pos) it sc ρ=.ok r l) (hp:aA l) (G:aL Φ X sc):dY X ρ (.UnaryOp op a pos) it r.1 r.2:=by
 obtain ⟨p,l1,l2,h1,p1,h,p2⟩:=aK (show Rs.bnd _ _=_ from h) hp
 split at h
 ·rename_i z hu
  cases h
  have c:=I.e a (aU (by simp <;> omega) hs) h1 p1 G
  refine .of (Fb (c.ed rfl) hu) fun b hb=>?_
  have hb:z=.bl b:=hb
  subst hb
  unfold tj at hu
  split at hu
  ·cases hu
  ·rename_i e;cases hu;exact AJ (c.td rfl _ e)
  ·cases hu
 ·cases h
theorem AT (I:Ih Φ n) {a b:Expr} {op:CmpOp} {pos:Pos} (hs:sizeOf (Expr.Compare a [op] [b] pos) < n+1) (h:ar Φ (.Compare a [op] [b] pos) it sc ρ=.ok r l) (hp:aA l) (G:aL Φ X sc):dY X ρ (.Compare a [op] [b] pos) it r.1 r.2:=by
 obtain ⟨p,l1,l2,h1,p1,h,p2⟩:=aK (show Rs.bnd _ _=_ from h) hp
 obtain ⟨q,l3,l4,h2,p3,h,p4⟩:=aK h p2
 obtain ⟨z,l5,l6,hc,p5,h,p6⟩:=aK h p4
 cases h
 have ca:=(I.e a (aU (by simp <;> omega) hs) h1 p1 G).ed rfl
 have cb:=(I.e b (aU (by simp <;> omega) hs) h2 p3 G).ed rfl
 exact .of (CW G.room ca cb hc p5 (ye h2)) fun b' hb'=>by cases hb';exact AK G.room ca cb hc p5 (ye h2)
theorem vM (I:Ih Φ n) {a b c:Expr} {op op2:CmpOp} {pos:Pos} (hs:sizeOf (Expr.Compare a [op,op2] [b,c] pos) < n+1) (h:ar Φ (.Compare a [op,op2] [b,c] pos) it sc ρ=.ok r l) (hp:aA l) (G:aL Φ X sc):dY X ρ (.Compare a [op,op2] [b,c] pos) it r.1 r.2:=by
 obtain ⟨p,l1,l2,h1,p1,h,p2⟩:=aK (show Rs.bnd _ _=_ from h) hp
 obtain ⟨q,l3,l4,h2,p3,h,p4⟩:=aK h p2
 obtain ⟨t,l5,l6,h3,p5,h,p6⟩:=aK h p4
 obtain ⟨x,y,z,r1,r2,e1,e2,e3,k1,k2,rfl⟩:=Aj h
 have ca:=(I.e a (aU (by simp <;> omega) hs) h1 p1 G).ed rfl
 have cb:=(I.e b (aU (by simp <;> omega) hs) h2 p3 G).ed rfl
 have cc:=(I.e c (aU (by simp <;> omega) hs) h3 p5 G).ed rfl
 rw [e1] at ca
 rw [e2] at cb
 rw [e3] at cc
 exact .of (wH G.room ca cb cc k1 k2 (ye h3)) fun b' hb'=>by cases hb';exact vJ G.room ca cb cc k1 k2 (ye h3)
theorem D7 (I:Ih Φ n) {c a b:Expr} {pos:Pos} (hs:sizeOf (Expr.IfExp c a b pos) < n+1) (h:ar Φ (.IfExp c a b pos) it sc ρ=.ok r l) (hp:aA l) (G:aL Φ X sc):dY X ρ (.IfExp c a b pos) it r.1 r.2:=by
 obtain ⟨p,l1,l2,h1,p1,h,p2⟩:=aK (show Rs.bnd _ _=_ from h) hp
 obtain ⟨t,ht,h⟩:=jA h
 obtain ⟨m,he,hm⟩:=qx h p2
 have hc:=(I.e c (aU (by simp <;> omega) hs) h1 p1 G).td rfl t ht
 cases t with
 | true =>
  rw [if_pos rfl] at he
  have ha:=I.e a (aU (by simp <;> omega) hs) he hm G
  refine .of (x5 hc (by rw [if_pos rfl];exact ha.ed rfl)) fun b' hb'=>?_
  intro ow pins s σ H Q I ⟨E,q⟩
  refine isTrue_IfExp (aF (hc ow pins s σ H (fun t H1=>t=true/\av H H1) I ⟨E,fun H1 s1=>⟨rfl,s1⟩⟩) fun t s1 ⟨H1,I1,e1,s1'⟩=>?_)
  subst e1
  exact ha.td rfl b' hb' ow pins s1 σ H1 Q I1 ⟨E.same s1',fun H2 s2=>q H2 (s1'.trans s2)⟩
 | false =>
  rw [if_neg Bool.false_ne_true] at he
  have hb:=I.e b (aU (by simp <;> omega) hs) he hm G
  refine .of (x5 hc (by rw [if_neg Bool.false_ne_true];exact hb.ed rfl)) fun b' hb'=>?_
  intro ow pins s σ H Q I ⟨E,q⟩
  refine isTrue_IfExp (aF (hc ow pins s σ H (fun t H1=>t=false/\av H H1) I ⟨E,fun H1 s1=>⟨rfl,s1⟩⟩) fun t s1 ⟨H1,I1,e1,s1'⟩=>?_)
  subst e1
  exact hb.td rfl b' hb' ow pins s1 σ H1 Q I1 ⟨E.same s1',fun H2 s2=>q H2 (s1'.trans s2)⟩
theorem rF {Φ:Fx} {e:Expr} {it:Bool} {sc:Scope} {ρ:ae} {r:D×Nat} {l:List Prop} (h:ar Φ e it sc ρ=.ok r l):fB e:=by
 cases e <;> first | (intro _ _;rfl) | cases h
theorem xr (I:Ih Φ n) {a i:Expr} {pos:Pos} (hs:sizeOf (Expr.Subscript a i pos) < n+1) (h:((ar Φ a false sc ρ).bnd fun p=>(ar Φ i false sc ρ).bnd fun q=>jP p q)=.ok r l) (hp:aA l) (G:aL Φ X sc):dY X ρ (.Subscript a i pos) it r.1 r.2:=by
 obtain ⟨p,l1,l2,h1,p1,h,p2⟩:=aK h hp
 obtain ⟨q,l3,l4,h2,p3,h,p4⟩:=aK h p2
 exact bD (CS ((I.e a (aU (by simp <;> omega) hs) h1 p1 G).ed rfl) ((I.e i (aU (by simp <;> omega) hs) h2 p3 G).ed rfl) (rF h2) h) (fun _=>rfl)
theorem vL (I:Ih Φ n) {a:Expr} {lo hi:Option Expr} {p2 pos:Pos} (hs:sizeOf (Expr.Subscript a (.Slice lo hi none p2) pos) < n+1) (h:ar Φ (.Subscript a (.Slice lo hi none p2) pos) it sc ρ=.ok r l) (hp:aA l) (G:aL Φ X sc):dY X ρ (.Subscript a (.Slice lo hi none p2) pos) it r.1 r.2:=by
 obtain ⟨p,l1,l2,h1,p1,h,q2⟩:=aK (show Rs.bnd _ _=_ from h) hp
 obtain ⟨q,l3,l4,h2,p3,h,p4⟩:=aK h q2
 obtain ⟨q',l5,l6,h3,p5,h,p6⟩:=aK h p4
 exact bD (G.slf X ρ a lo hi p2 pos p.1 r.1 q q' p.2 r.2 l6 ((I.e a (aU (by simp <;> omega) hs) h1 p1 G).ed rfl) (I.o lo (aU (by simp <;> omega) hs) h2 p3 G) (I.o hi (aU (by simp <;> omega) hs) h3 p5 G) h p6) (fun _=>rfl)
theorem AS (I:Ih Φ n) {a i:Expr} {pos:Pos} (hs:sizeOf (Expr.Subscript a i pos) < n+1) (h:ar Φ (.Subscript a i pos) it sc ρ=.ok r l) (hp:aA l) (G:aL Φ X sc):dY X ρ (.Subscript a i pos) it r.1 r.2:=by
 cases i with
 | Slice lo hi st p2 =>
  cases st with
  | none=>exact vL I hs h hp G
  | some e=>exact xr I hs h hp G
 | _=>exact xr I hs h hp G
theorem yG (I:Ih Φ n) {f:Str} {p pos:Pos} {args:List Expr} (hs:sizeOf args < n) (hf:sc.names.lookup f=some .globalImplicit) (h0:((bq Φ args sc ρ).bnd fun p=>hX Φ f it p.1 p.2)=.ok r l) (hp:aA l) (G:aL Φ X sc):dY X ρ (.Call (.Name f p) args [] pos) it r.1 r.2:=by
 obtain ⟨q,l1,l2,h1,p1,h,p2⟩:=aK h0 hp
 clear h0
 have ha:=I.es args hs h1 p1 G
 obtain ⟨hst,hlen⟩:=cM h1 p1
 unfold hX at h
 split at h
 ·rename_i F hF
  obtain ⟨d,l3,l4,h2,p3,h,p4⟩:=aK h p2
  cases h
  exact bD (Ad G hF hf ha hst (fun z=>by subst z;exact List.length_eq_zero_iff.mp hlen.symm) h2 p3) (fun _=>rfl)
 ·split at h
  ·rename_i B hB
   split at hB
   ·rename_i hit
    have hI:=G.itr f B hB
    refine ⟨fun z=>(by rw [hit] at z;cases z),fun z=>(by rw [hit] at z;cases z),fun _ tg l' hl ht=>?_⟩
    exact hI.2 X ρ p pos args q.1 q.2 r.1 r.2 l' tg l2 G.calm (G.gl f hf) (G.bl f hI.1) ha hst hlen h p2 hl ht
   ·cases hB
  ·split at h
   ·rename_i B hB
    have hb:=G.blt f B hB
    cases args with
    | nil =>
     have e0:q.1=[]:=List.length_eq_zero_iff.mp hlen.symm
     rw [e0,hb.2.2.2.1] at h;cases h
    | cons e es=>exact bD (CY G hb hf ha hst h p2) (fun _=>rfl)
   ·cases h
theorem vN (I:Ih Φ n) {f:Str} {p pos:Pos} {args:List Expr} (hs:sizeOf (Expr.Call (.Name f p) args [] pos) < n+1) (h:ar Φ (.Call (.Name f p) args [] pos) it sc ρ=.ok r l) (hp:aA l) (G:aL Φ X sc):dY X ρ (.Call (.Name f p) args [] pos) it r.1 r.2:=by
 rw [fM] at h
 split at h
 ·rename_i hf
  exact yG I (aU (by simp <;> omega) hs) hf h hp G
 ·cases h
theorem vO (I:Ih Φ n) {a:Expr} {m:Str} {ap pos:Pos} {args:List Expr} (hs:sizeOf (Expr.Call (.Attribute a m ap) args [] pos) < n+1) (h:ar Φ (.Call (.Attribute a m ap) args [] pos) it sc ρ=.ok r l) (hp:aA l) (G:aL Φ X sc):dY X ρ (.Call (.Attribute a m ap) args [] pos) it r.1 r.2:=by
 rw [hJ] at h
 split at h
 ·rename_i hln
  obtain ⟨p,l1,l2,h1,p1,h,p2⟩:=aK h hp
  obtain ⟨q,l3,l4,h2,p3,h,p4⟩:=aK h p2
  obtain ⟨hst,hlen⟩:=cM h2 p3
  have hea:=(I.e a (aU (by simp <;> omega) hs) h1 p1 G).ed rfl
  have hes:=I.es args (aU (by simp <;> omega) hs) h2 p3 G
  obtain ⟨x,kx⟩:=p
  unfold wj at h
  dsimp only at h hea
  split at h
  ·rename_i hb
   split at h
   ·rename_i M hM
    exact bD (G.mth m M hM X ρ a args ap pos x kx q.1 q.2 r.1 r.2 l4 G.calm G.room hea hes hst hlen hln hb h p4) (fun _=>rfl)
   ·cases h
  ·cases h
 ·cases h
theorem yC {elt tg:Expr} {ifs:List Expr} {scope:Scope} {ds:List D} {q:List D×Nat} {m:List Prop} (hE:∀{ρ:ae} {p:D×Nat} {l:List Prop} {X:Cx},ar Φ elt false scope ρ=.ok p l->aA l->aL Φ X scope->dY X ρ elt false p.1 p.2)
    (hB:∀{ρ:ae} {b:Bool} {l:List Prop} {X:Cx},cQ Φ .And ifs scope ρ=.ok b l->aA l->aL Φ X scope->c6 X ρ .And ifs b) (hc:iZ sc scope=true) (G:aL Φ X sc)
    (h:fq (fun d=>match bi scope tg d (flt scope ρ) with
            | none=>.st
            | some ρ'=>(cQ Φ .And ifs scope ρ').bnd fun b=>cond b ((ar Φ elt false scope ρ').bnd fun r=>.ok (some r) []) (.ok none [])) ds=.ok q m) (hp:aA m) (hj:q.2<=1) :
    ∃f:D->Option D,q.1=ds.filterMap f/\∀cl C s H fp,∀d∈ds,jB (iS X scope cl C (scope.names.map (·.1)) s H fp) (flt scope ρ) tg ifs elt q.2 d (f d):=by
  generalize hst:(fun d=>match bi scope tg d (flt scope ρ) with
            | none=>.st
            | some ρ'=>(cQ Φ .And ifs scope ρ').bnd fun b=>cond b ((ar Φ elt false scope ρ').bnd fun r=>.ok (some r) []) (.ok none []):D->Rs (Option (D×Nat)))=step at h
  obtain ⟨c1,c2,c3⟩:=o8 h hp
  refine ⟨_,c2,fun cl C s H fp d hd=>?_⟩
  have G':=zH (cl:=cl) (C:=C) (s:=s) (H:=H) (fp:=fp) G hc
  obtain ⟨x,lx,hx,px⟩:=c1 d hd
  have c3:=c3 hj d hd
  have hs:=congrFun hst d
  unfold ni
  rw [hx]
  split at hs
  . rw [<- hs] at hx;cases hx
  . rename_i ρ' hb
    have gd:=nl G' hb
    have ext:∀x y,flt scope ρ x=some y->ρ' x=some y:=fun x y hxy=>vn hb x y (gY hxy).2 hxy
    have hx0:=hx
    rw [<- hs] at hx
    obtain ⟨b,l3,l4,h2,p3,hx,p4⟩:=aK hx px
    have ts:=(hB h2 p3 G').ts rfl
    cases b with
    | false =>
      cases hx
      exact ⟨ρ',false,gd,ext,ts,rfl⟩
    | true =>
      rw [cond_true] at hx
      obtain ⟨z,l5,l6,h3,p5,hx,p6⟩:=aK hx p4
      cases hx
      exact ⟨ρ',true,gd,ext,ts,rfl,((hE h3 p5 G').ed rfl).up (c3 z lx hx0) hj⟩
theorem pY (I:Ih Φ n) {elt tg iter:Expr} {ifs:List Expr} {scope:Scope} {pos:Pos} (hs:sizeOf (Expr.ListComp elt [⟨tg,iter,ifs,0⟩] scope pos) < n+1) (h:ar Φ (.ListComp elt [⟨tg,iter,ifs,0⟩] scope pos) it sc ρ=.ok r l) (hp:aA l) (G:aL Φ X sc) :
  ∃ds f k,(ax ds=true\/k<=1)/\r.2<=1/\ds.length < sizeLine/\fe X.env scope (scope.names.map (·.1))/\(∀x d o,flt scope ρ x=some (d,o)->x∈scope.names.map (·.1))/\IE X ρ tg iter ds k /\
   (∀cl C s H fp,∀d∈ds,jB (iS X scope cl C (scope.names.map (·.1)) s H fp) (flt scope ρ) tg ifs elt r.2 d (f d))/\(∀x,foldedSetIterable iter X.env x=pure x)/\r.1=.lst (ds.filterMap f):=by
 rw [lU] at h
 split at h
 ·rename_i hc
  obtain ⟨p,l1,l2,h1,p1,h,p2⟩:=aK h hp
  split at h
  ·rename_i ds hd
   split at h
   ·rename_i ht
    obtain ⟨u0,l7,l8,h7,p7,h,p8⟩:=aK h p2
    cases h7
    have hl:=And.intro p7.1 p7.2.1
    obtain ⟨q,l3,l4,h2,p3,h,p4⟩:=aK h p8
    split at h
    ·rename_i hj
     cases h
     obtain ⟨f,e1,t⟩:=yC (fun a b c=>I.e elt (by first|omega | (simp at *;omega)) a b c) (fun a b c=>I.b .And ifs (by first|omega | (simp at *;omega)) a b c) hc G h2 p3 hj
     refine ⟨ds,f,p.2,hl.2,hj,Nat.lt_of_le_of_lt hl.1 iN,u5 G hc,fun x d o hx=>kN (gY hx).2,(I.e iter (by first|omega | (simp at *;omega)) h1 p1 G).ie rfl tg ds hd ht,t,iU h1,by rw [e1]⟩
    ·cases h
   ·cases h
  ·cases h
 ·cases h
theorem lN {elt:Expr} {gens:List Comprehension} {scope:Scope} {pos:Pos} (h:ar Φ (.ListComp elt gens scope pos) it sc ρ=.ok r l):∃tg iter ifs,gens=[⟨tg,iter,ifs,0⟩]:=by
 match gens,h with
 | [⟨tg,iter,ifs,0⟩],h=>exact ⟨_,_,_,rfl⟩
 | [],h=>cases h
 | ⟨_,_,_,.ofNat (n+1)⟩::r,h=>cases r <;> cases h
 | ⟨_,_,_,.negSucc n⟩::_,h=>cases h
 | ⟨_,_,_,0⟩::_::_,h=>cases h
theorem EZ (I:Ih Φ n) (e:Expr) (hs:sizeOf e < n+1) (h:ar Φ e it sc ρ=.ok r l) (hp:aA l) (G:aL Φ X sc):dY X ρ e it r.1 r.2:=by
 cases e with
 | Constant c k p =>
  replace h:(match ya c with|some d=>.ok (d,0) [] | none=>.st:R1)=.ok r l:=h
  split at h
  ·rename_i d hc;cases h;exact bD (CU hc) (fun _=>rfl)
  ·cases h
 | Name x p=>exact yF h G
 | BinOp a op b p=>exact AU I hs h hp G
 | UnaryOp op a p=>exact D6 I hs h hp G
 | BoolOp op es p =>
  rw [lV] at h
  split at h
  ·cases h
  ·rename_i hne
   obtain ⟨b,l1,l2,h1,p1,h,p2⟩:=aK h hp
   cases h
   have ne:es≠[]:=fun z=>hne (by rw [z];rfl)
   have c:=I.b op es (aU (by simp <;> omega) hs) h1 p1 G
   exact .of (c.ed ne p) fun b' hb'=>by cases hb';exact fun ow=>(c.tw ne p ow).pt
 | Compare a ops bs p =>
  match ops,bs,hs,h with
  | [op],[b],hs,h=>exact AT I hs h hp G
  | [],bs,_,h=>cases h
  | [op],[],_,h=>cases h
  | [op],_::_::_,_,h=>cases h
  | [op,op2],[b,c],hs,h=>exact vM I hs h hp G
  | [_,_],[],_,h=>cases h
  | [_,_],[_],_,h=>cases h
  | [_,_],_::_::_::_,_,h=>cases h
  | _::_::_::_,bs,_,h=>cases h
 | IfExp c a b p=>exact D7 I hs h hp G
 | Tuple es k p =>
  obtain ⟨q,l1,l2,h1,p1,h,p2⟩:=aK (show Rs.bnd _ _=_ from h) hp
  split at h
  ·rename_i hl
   unfold mk at h;cases h
   exact bD (wF (I.es es (aU (by simp <;> omega) hs) h1 p1 G) hl) (fun _=>rfl)
  ·cases h
 | List es p =>
  obtain ⟨q,l1,l2,h1,p1,h,p2⟩:=aK (show Rs.bnd _ _=_ from h) hp
  split at h
  ·rename_i hl
   cases h
   exact bD (Ab (I.es es (aU (by simp <;> omega) hs) h1 p1 G) hl.2 hl.1) (fun _=>rfl)
  ·cases h
 | Attribute a f p =>
  cases a with
  | Name x pn =>
   obtain ⟨q,l1,l2,h1,p1,h,p2⟩:=aK (show Rs.bnd _ _=_ from h) hp
   have hea:=(I.e (.Name x pn) (aU (by simp <;> omega) hs) (it:=false) h1 p1 G).ed rfl
   obtain ⟨d,kd⟩:=q
   unfold Cw at h
   dsimp only at h hea
   split at h
   ·rename_i n ns ds
    split at h
    ·rename_i hf
     split at h
     ·rename_i e hl
      cases h
      exact bD (CT G hf hea rfl hl) (fun _=>rfl)
     ·cases h
    ·cases h
   ·split at h
    ·rename_i hf
     subst hf
     cases h
     exact bD (zY hea rfl) (fun _=>rfl)
    ·cases h
   ·cases h
  | _=>cases h
 | Dict ks vs p =>
  match ks,vs,h with
  | [],[],h=>cases h
  | _::_,_,h=>cases h
  | [],_::_,h=>cases h
 | Subscript a i p=>exact AS I hs h hp G
 | Call f args kws p =>
  cases f with
  | Name f fp =>
   cases kws with
   | nil=>exact vN I hs h hp G
   | cons _ _=>cases h
  | Attribute a m ap =>
   cases kws with
   | nil=>exact vO I hs h hp G
   | cons _ _=>cases h
  | _=>cases h
 | ListComp elt gens scope p =>
  obtain ⟨tg,iter,ifs,rfl⟩:=lN h
  obtain ⟨ds,f,k,a1,a2,a3,a4,a5,a6,a7,a8,a9⟩:=pY I hs h hp G
  rw [a9]
  exact bD (Ac G.calm G.nd a1 a2 a3 a4 a5 a6 a7 a8) (fun _=>rfl)
 | _=>cases h
theorem CI (I:Ih Φ n) (es:List Expr) {r:List D×Nat} (hs:sizeOf es < n+1) (h:bq Φ es sc ρ=.ok r l) (hp:aA l) (G:aL Φ X sc):AD X ρ es r.1 r.2:=by
 cases es with
 | nil=>cases h;exact i8
 | cons e es =>
  obtain ⟨p,l1,l2,h1,p1,h,p2⟩:=aK (show Rs.bnd _ _=_ from h) hp
  obtain ⟨q,l3,l4,h2,p3,h,p4⟩:=aK h p2
  cases h
  exact gP ((I.e e (aU (by simp <;> omega) hs) h1 p1 G).ed rfl) (I.es es (aU (by simp <;> omega) hs) h2 p3 G) (aI (fo h1))
theorem pp {b c:Bool} {r:Rs Bool} {l:List Prop} (h:sG b r=.ok c l) (hp:aA l):(b=true/\∃m,r=.ok c m/\aA m)\/(b=false/\c=false):=by
 unfold sG at h
 split at h
 ·rename_i c' m
  cases h
  cases b with
  | true=>exact .inl ⟨rfl,m,rfl,kS hp rfl⟩
  | false=>exact .inr ⟨rfl,rfl⟩
 ·cases b with
  | true=>cases h
  | false=>cases h;exact .inr ⟨rfl,rfl⟩
theorem qf {b c:Bool} {r:Rs Bool} {l:List Prop} (h:xD b r=.ok c l) (hp:aA l):(b=false/\∃m,r=.ok c m/\aA m)\/(b=true/\c=true):=by
 unfold xD at h
 split at h
 ·rename_i c' m
  cases h
  cases b with
  | false=>exact .inl ⟨rfl,m,rfl,kS hp rfl⟩
  | true=>exact .inr ⟨rfl,rfl⟩
 ·cases b with
  | false=>cases h
  | true=>cases h;exact .inr ⟨rfl,rfl⟩
theorem CK (I:Ih Φ n) (op:BoolOp) (es:List Expr) {b:Bool} (hs:sizeOf es < n+1) (h:cQ Φ op es sc ρ=.ok b l) (hp:aA l) (G:aL Φ X sc):c6 X ρ op es b:=by
 cases es with
 | nil =>
  cases op with
  | And=>cases h;exact ⟨fun z=>absurd rfl z,fun z=>absurd rfl z,fun _=>tE⟩
  | Or=>cases h;exact ⟨fun z=>absurd rfl z,fun z=>absurd rfl z,fun z=>(by cases z)⟩
 | cons e es =>
  cases op with
  | And =>
   obtain ⟨p,l1,l2,h1,p1,h,p2⟩:=aK (show Rs.bnd _ _=_ from h) hp
   obtain ⟨b',hb,h⟩:=jA h
   have c:=I.e e (aU (by simp <;> omega) hs) h1 p1 G
   have ce:=c.ed rfl
   rw [hb] at ce
   have ct:=c.td rfl b' hb
   rcases pp h p2 with ⟨rfl,m,h,pm⟩ | ⟨rfl,rfl⟩
   ·cases es with
    | nil=>cases h;exact eO ce ct
    | cons e2 es=>exact pO ce ct (I.b .And (e2::es) (aU (by simp <;> omega) hs) h pm G)
   ·cases es with
    | nil=>exact eO ce ct
    | cons e2 es=>exact pi ce ct (fun pos=>⟨_,og⟩) (fun pos=>⟨_,n6⟩)
  | Or =>
   obtain ⟨p,l1,l2,h1,p1,h,p2⟩:=aK (show Rs.bnd _ _=_ from h) hp
   obtain ⟨b',hb,h⟩:=jA h
   have c:=I.e e (aU (by simp <;> omega) hs) h1 p1 G
   have ce:=c.ed rfl
   rw [hb] at ce
   have ct:=c.td rfl b' hb
   rcases qf h p2 with ⟨rfl,m,h,pm⟩ | ⟨rfl,rfl⟩
   ·cases es with
    | nil=>cases h;exact eO ce ct
    | cons e2 es=>exact sy ce ct (I.b .Or (e2::es) (aU (by simp <;> omega) hs) h pm G)
   ·cases es with
    | nil=>exact eO ce ct
    | cons e2 es=>exact pN ce ct (fun pos=>⟨_,og⟩) (fun pos=>⟨_,n6⟩)
theorem CJ (I:Ih Φ n) (e:Option Expr) {o:Option Int} (hs:sizeOf e < n+1) (h:jJ Φ e sc ρ=.ok o l) (hp:aA l) (G:aL Φ X sc):OD X ρ e o:=by
 cases e with
 | none=>cases h;exact zo
 | some e =>
  obtain ⟨p,l1,l2,h1,p1,h,p2⟩:=aK (show Rs.bnd _ _=_ from h) hp
  have c:=(I.e e (aU (by simp <;> omega) hs) h1 p1 G).ed rfl
  split at h
  ·rename_i i hi
   cases h
   rw [hi] at c
   exact zn c
  ·cases h
end
theorem fH (Φ:Fx):∀n,Ih Φ n
 | 0=>⟨fun _ _ _ _ _ _ _ h=>absurd h (Nat.not_lt_zero _),fun _ _ _ _ _ _ h=>absurd h (Nat.not_lt_zero _),fun _ _ _ _ _ _ _ h=>absurd h (Nat.not_lt_zero _),fun _ _ _ _ _ _ h=>absurd h (Nat.not_lt_zero _)⟩
 | n+1=>⟨fun e _ _ _ _ _ _ hs h hp G=>EZ (fH Φ n) e hs h hp G,fun e _ _ _ _ _ hs h hp G=>CI (fH Φ n) e hs h hp G,fun op e _ _ _ _ _ hs h hp G=>CK (fH Φ n) op e hs h hp G,fun e _ _ _ _ _ hs h hp G=>CJ (fH Φ n) e hs h hp G⟩
theorem E9 {Φ:Fx} (e:Expr) {it:Bool} {sc:Scope} {ρ:ae} {p:D×Nat} {l:List Prop} {X:Cx} (h:ar Φ e it sc ρ=.ok p l) (hp:aA l) (G:aL Φ X sc):dY X ρ e it p.1 p.2:=(fH Φ _).e e (Nat.lt_succ_self _) h hp G
theorem kX {Φ:Fx} (es:List Expr) {sc:Scope} {ρ:ae} {p:List D×Nat} {l:List Prop} {X:Cx} (h:bq Φ es sc ρ=.ok p l) (hp:aA l) (G:aL Φ X sc):AD X ρ es p.1 p.2:=(fH Φ _).es es (Nat.lt_succ_self _) h hp G
end Sp
namespace Sp
open PySem PySem.Spec PyProof.Rows L2
structure aR (ow:Ow) (H:Hp) (ow':Ow) (H':Hp):Prop where
 keep:∀a o,H a=some o->(nm o\/ow a=none)->H' a=some o
 low:∀a o,H a=some o->ow a=none->ow' a=none
theorem aR.refl (ow:Ow) (H:Hp):aR ow H ow H:=⟨fun _ _ h _=>h,fun _ _ _ h=>h⟩
theorem aR.same {ow:Ow} {H H':Hp} (s:av H H'):aR ow H ow H':=⟨fun a o h _=>s a o h,fun _ _ _ h=>h⟩
theorem aR.trans {ow ow1 ow2:Ow} {H H1 H2:Hp} (a:aR ow H ow1 H1) (b:aR ow1 H1 ow2 H2):aR ow H ow2 H2 :=
 ⟨fun x o h c=>b.keep x o (a.keep x o h c) (c.imp id fun z=>a.low x o h z),fun x o h z=>b.low x o (a.keep x o h (.inr z)) (a.low x o h z)⟩
def bI (H0:Hp) (ow:Ow) (H:Hp):Prop:=∀a o,H0 a=some o->H a=some o/\ow a=none
theorem bI.keep {H0:Hp} {ow ow':Ow} {H H':Hp} (b:bI H0 ow H) (k:aR ow H ow' H'):bI H0 ow' H':=fun a o h=>let ⟨h1,h2⟩:=b a o h;⟨k.keep a o h1 (.inr h2),k.low a o h1 h2⟩
theorem bI.sm {H0:Hp} {ow:Ow} {H:Hp} (b:bI H0 ow H):av H0 H:=fun a o h=>(b a o h).1
variable {X:Cx}
def ml (X:Cx) (H0:Hp) (ow:Ow) (H:Hp) (fl:Fl) (D:ib):Prop :=
 match fl with
 | .nx ρ => ∀ow' σ' H',aG X ow' H' σ' ρ->σ'.length=X.N.length->aR ow H ow' H'->D.nx σ' H'
 | .bk ρ => ∀ow' σ' H',aG X ow' H' σ' ρ->σ'.length=X.N.length->aR ow H ow' H'->D.bk σ' H'
 | .ct ρ => ∀ow' σ' H',aG X ow' H' σ' ρ->σ'.length=X.N.length->aR ow H ow' H'->D.ct σ' H'
 | .rt d => ∀v H',av H0 H'->af X.K H' (fun a b=>b=true/\H0 a=none) d v->D.rt v H'
theorem ml.keep {H0:Hp} {ow ow':Ow} {H H':Hp} {fl:Fl} {D:ib} (p:ml X H0 ow H fl D) (k:aR ow H ow' H'):ml X H0 ow' H' fl D:=by
 cases fl with
 | nx ρ=>exact fun ow2 σ2 H2 a b c=>p ow2 σ2 H2 a b (k.trans c)
 | bk ρ=>exact fun ow2 σ2 H2 a b c=>p ow2 σ2 H2 a b (k.trans c)
 | ct ρ=>exact fun ow2 σ2 H2 a b c=>p ow2 σ2 H2 a b (k.trans c)
 | rt d=>exact p
def tF (X:Cx) (H0:Hp) (ρ:ae) (fl:Fl):TS:=fun D σ H => ∃ow,aG X ow H σ ρ/\σ.length=X.N.length/\bI H0 ow H/\ml X H0 ow H fl D
def SD (X:Cx) (H0:Hp) (ρ:ae) (st:Stmt) (fl:Fl):Prop:=PS X st (tF X H0 ρ fl)
def fT (X:Cx) (H0:Hp) (ρ:ae) (st:List Stmt) (fl:Fl):Prop:=cT X st (tF X H0 ρ fl)
theorem yH {H0:Hp} {ρ:ae}:fT X H0 ρ [] (.nx ρ):=fun pins s σ H D I ⟨ow,E,hl,B,q⟩=>yX pins s σ H D I (q ow σ H E hl (aR.refl _ _))
theorem jR {H0:Hp} {ρ ρ1:ae} {st:Stmt} {ss:List Stmt} {fl:Fl} (h1:SD X H0 ρ st (.nx ρ1)) (h2:fT X H0 ρ1 ss fl):fT X H0 ρ (st::ss) fl:=fun pins s σ H D I ⟨ow,E,hl,B,q⟩ =>
 dM h1 h2 pins s σ H D I ⟨ow,E,hl,B,fun ow' σ' H' E' hl' k=>⟨ow',E',hl',B.keep k,q.keep k⟩⟩
theorem jQ {H0:Hp} {ρ:ae} {st:Stmt} {ss:List Stmt} {fl:Fl} (h1:SD X H0 ρ st fl) (hf:∀ρ',fl ≠ .nx ρ'):fT X H0 ρ (st::ss) fl:=fun pins s σ H D I ⟨ow,E,hl,B,q⟩ =>
 dM h1 fX pins s σ H D I ⟨ow,E,hl,B,by
  cases fl with
  | nx ρ'=>exact absurd rfl (hf ρ')
  | bk ρ'=>exact q
  | ct ρ'=>exact q
  | rt d=>exact q⟩
theorem A3 {H0:Hp} {ρ:ae} {e:Expr} {pos:Pos} {d:D} {k:Nat} (h:ED X ρ e d k) (hk:k=0\/k=2):SD X H0 ρ (.Return (some e) pos) (.rt d):=fun pins s σ H D I ⟨ow,E,hl,B,q⟩ =>
 n9 (h ow) pins s σ H D I ⟨E,fun v H1 s1 r1=>q v H1 (B.sm.trans s1) (r1.imp fun a b p=>by
  rcases hk with rfl|rfl
  ·exact ⟨p.1,B.sm.free p.2⟩
  ·refine ⟨p.1,p.2.elim (fun z=>?_) B.sm.free⟩
   cases e0:H0 a with
   | none=>rfl
   | some o=>exact absurd (B a o e0).2 z)⟩
theorem zT {ow:Ow} {H:Hp} {σ:L2.St} {ρ:ae} (E:aG X ow H σ ρ):aG X (fun _=>none) H σ (ej ρ):=by
 refine ⟨fun x d o h=>?_,fun a z=>absurd rfl z⟩
 unfold ej at h
 cases e:ρ x with
 | none=>rw [e] at h;cases h
 | some y =>
  rw [e] at h
  cases h
  obtain ⟨i,v,h1,h2,h3,h4⟩:=E.get x y.1 y.2 e
  exact ⟨i,v,h1,h2,h3,h4.imp fun _ _ _ _=>rfl⟩
theorem yP {H0:Hp} {ρ:ae} {e:Expr} {pos:Pos} {d:D} {k:Nat} (h:ED X (ej ρ) e d k) (hk:k=0\/k=2):SD X H0 ρ (.Return (some e) pos) (.rt d):=fun pins s σ H D I ⟨ow,E,hl,B,q⟩ =>
 n9 (h fun _=>none) pins s σ H D I ⟨zT E,fun v H1 s1 r1=>q v H1 (B.sm.trans s1) (r1.imp fun a b p=>by
  rcases hk with rfl|rfl
  ·exact ⟨p.1,B.sm.free p.2⟩
  ·exact ⟨p.1,p.2.elim (fun z=>absurd rfl z) B.sm.free⟩)⟩
theorem yS {H0:Hp} {ρ:ae} {e:Expr} {pos:Pos} {d:D} {k:Nat} (h:ED X ρ e d k) (hc:∃f p args ks cp,e=.Call (.Name f p) args ks cp):SD X H0 ρ (.Expr e pos) (.nx ρ):=fun pins s σ H D I ⟨ow,E,hl,B,q⟩=>by
 obtain ⟨f,p,args,ks,cp,rfl⟩:=hc
 exact jj (h ow) rfl pins s σ H D I ⟨E,fun v H1 s1 r1=>q ow σ H1 (E.same s1) hl (aR.same s1)⟩
theorem yO {H0:Hp} {ρ:ae} {pos:Pos}:SD X H0 ρ (.Return none pos) (.rt .non):=fun pins s σ H D I ⟨ow,E,hl,B,q⟩=>yZ pins s σ H D I (q .non H B.sm (by rw [af]))
theorem yQ {H0:Hp} {ρ:ae} {pos:Pos}:SD X H0 ρ (.Pass pos) (.nx ρ):=fun pins s σ H D I ⟨ow,E,hl,B,q⟩=>y0 pins s σ H D I (q ow σ H E hl (aR.refl _ _))
theorem vV {H0:Hp} {ρ:ae} {pos:Pos}:SD X H0 ρ (.Break pos) (.bk ρ):=fun pins s σ H D I ⟨ow,E,hl,B,q⟩=>v3 pins s σ H D I (q ow σ H E hl (aR.refl _ _))
theorem yT {H0:Hp} {ρ:ae} {pos:Pos}:SD X H0 ρ (.Continue pos) (.ct ρ):=fun pins s σ H D I ⟨ow,E,hl,B,q⟩=>pI pins s σ H D I (q ow σ H E hl (aR.refl _ _))
theorem Ea {H0:Hp} {ρ:ae} {c:Expr} {a b:List Stmt} {pos:Pos} {t:Bool} {fl:Fl} (hc:TD X ρ c t) (h:if t=true then fT X H0 ρ a fl else fT X H0 ρ b fl):SD X H0 ρ (.If c a b pos) fl:=by
 cases t with
 | true =>
  intro pins s σ H D I ⟨ow,E,hl,B,q⟩
  exact xA (hc ow) h fX pins s σ H D I ⟨E,fun H1 s1=>by
   show if true=true then _ else _
   rw [if_pos rfl]
   exact ⟨ow,E.same s1,hl,B.keep (aR.same s1),q.keep (aR.same s1)⟩⟩
 | false =>
  intro pins s σ H D I ⟨ow,E,hl,B,q⟩
  exact xA (hc ow) fX h pins s σ H D I ⟨E,fun H1 s1=>by
   show if false=true then _ else _
   rw [if_neg Bool.false_ne_true]
   exact ⟨ow,E.same s1,hl,B.keep (aR.same s1),q.keep (aR.same s1)⟩⟩
theorem lW {ow:Ow} {H H1:Hp} {σ:L2.St} {ρ:ae} {x:Str} {d:D} {v:V} {i:Nat} (hN:X.N.Nodup) (hl:σ.length=X.N.length) (E:aG X ow H σ ρ) (sm:av H H1) (hi:X.N[i]?=some x) (hv:ge X.env.scope x) (r:af X.K H1 (Kp ow H 0) d v) :
  ∃ow',aG X ow' H1 (σ.set i (some v)) (bn ρ x (d,true))/\aR ow H ow' H1:=by
 classical
 let ow':Ow:=fun a=>if H a=none/\∃o,H1 a=some o then some (some x) else ow a
 have o1:∀a o,H a=some o->ow' a=ow a:=fun a o h=>if_neg (fun z=>by rw [h] at z;cases z.1)
 have E1:aG X ow' H1 σ ρ:=⟨fun y e o h=>by
  obtain ⟨j,w,e1,e2,e3,e4⟩:=E.get y e o h
  refine ⟨j,w,e1,e2,e3,af.same sm (e4.impH (fun a ob ha p=>?_) fun a p=>?_)⟩
  ·cases o with
   | true=>exact ⟨p.1,(o1 a ob ha).trans p.2⟩
   | false=>exact fun z=>(o1 a ob ha).trans (p z)
  ·cases o with
   | true=>cases p.1
   | false=>exact fun z=>(by cases z),fun a ha=>by
  by_cases hz:H a=none/\∃o,H1 a=some o
  ·exact hz.2
  ·have:ow' a=ow a:=if_neg hz
   rw [this] at ha
   exact (E.own.same sm) a ha⟩
 refine ⟨ow',dy hN hl E1 hi hv (r.impH (fun a o ha p=>⟨rfl,if_pos ⟨p.2,o,ha⟩⟩) fun a p=>(by cases p.1)),fun a o h _=>sm a o h,fun a o h z=>(o1 a o h).trans z⟩
theorem gj {e:Expr} {t:Option Expr} {n:Nat} {env:Env} (h:gI e=false):swapsWith e t n env=pure false:=by
 cases e <;> first|rfl|cases h
theorem tZ {Φ:Fx} {sc:Scope} {H0:Hp} {ρ:ae} {e:Expr} {x:Str} {p pos:Pos} {d:D} {k:Nat} {o:Bool} (G:aL Φ X sc) (hx:b9 sc x=true) (h:ED X ρ e d k) (ho:(k=0/\o=true)\/(k=1/\o=false)) (hs:swapsWith e (some (.Name x p)) pos.line X.env=pure false) :
  SD X H0 ρ (.Assign [.Name x p] e pos) (.nx (bn ρ x (d,o))):=by
 obtain ⟨g1,g2,g3,i,g4⟩:=d8 G hx
 intro pins s σ H D I ⟨ow,E,hl,B,q⟩
 refine t9 (i:=i) G.nd g4 g1 (h ow) hs g3 pins s σ H D I ⟨E,fun v H1 s1 r1=>?_⟩
 show D.nx (σ.set i (some v)) H1
 rcases ho with ⟨rfl,rfl⟩ | ⟨rfl,rfl⟩
 ·obtain ⟨ow',E',k'⟩:=lW G.nd hl E s1 g4 g2 r1
  exact q ow' _ H1 E' (by rw [List.length_set];exact hl) k'
 ·exact q ow _ H1 (dy G.nd hl (E.same s1) g4 g2 r1) (by rw [List.length_set];exact hl) (aR.same s1)
theorem eR {e:Expr} {es:List Expr} {n k:Nat} {p:Pos} {env:Env}:swapsWithSole [.Tuple es n p] e k env=pure false:=by
 cases e <;> rfl
theorem tH {e a i:Expr} {k:Nat} {p:Pos} {env:Env}:swapsWithSole [.Subscript a i p] e k env=pure false:=by
 cases e <;> rfl
def Iv (K:W.Frag) (n:Nat) (t:lw):TG:=fun v σ H Q => ∃a xs,v=.ref a/\bR K H a xs/\xs.length=n/\t xs σ H Q
theorem Bq {es:List Expr} {k:Nat} {t:lw} {n:Nat} {pos:Pos} (hc:X.calm=true) (h:qT X es t)
  (hn:(assignEach es X.env).length=n) (hst:(assignEach es X.env).findIdx? (·.1)=none):PG X (.Tuple es k pos) (Iv X.K n t):=by
 intro pins s σ H v u Q I r hw
 obtain ⟨a,xs,e1,hq,hl,hw⟩:=hw
 subst e1
 cases r
 obtain ⟨its,rv,pl,hz⟩:=I.list hq
 have hsz:(assignEach es X.env).length=its.toArray.size:=by simp [hn,<- hl,rv.length]
 rw [assign_Tuple]
 refine wpAny_bind (wpAny_standAt ?_)
 unfold unpack
 rw [hst,hsz]
 refine wpAny_bind (wpAny_holding (W.kun_itemsOf (I.ok.hd hc) pl.isList fun h' hx=>?_))
 have I1:ah X pins σ H { s with heap:=h' }:=I.kept (t':=s.toks) fun b o e=>hx b o (Nat.ne_of_lt (Heap.lt_size e)) e
 exact h pins _ σ H xs _ Q I1 (by simpa using rv) hw
theorem kE {ow:Ow} {H H1:Hp} {ds:List D} {vs:List V} {k:Nat} (o:dB ow H) (hf:ax ds=true\/k<=1) (r:ag X.K H1 (Kp ow H k) ds vs):ag X.K H1 (fun a b=>b=true->ow a=none) ds vs:=by
 rcases hf with hf|hf
 ·exact r.flat _ hf
 ·exact r.imp fun a b p hb=>by subst hb;exact dW o hf p
theorem lC {Φ:Fx} {sc:Scope} {es:List Expr} {e:Expr} {n:Nat} {p:Pos} (G:aL Φ X sc) (ht:tJ sc es e=false):swappedStores [.Tuple es n p] e X.env=pure none:=by
 unfold tJ at ht
 cases hte:iR e with
 | false=>cases e <;> first|rfl|cases hte
 | true =>
  rw [hte] at ht
  have hc:pe sc es e=true:=by simpa using ht
  unfold pe at hc
  split at hc
  ·rename_i x px y py a b m q
   have k1:X.env.kindOf x=some .cell:=G.cc x (by simpa using hc)
   unfold swappedStores
   dsimp only
   split
   ·rfl
   ·split
    ·rfl
    ·rw [if_pos]
     rw [List.filterMap_cons_none (by simp [k1])]
     have:∀l:List Str,l.length<=1->(l.length != [Expr.Name x px,Expr.Name y py].length || l.eraseDups.length != l.length)=true:=fun l hl=>by
      have:(l.length != [Expr.Name x px,Expr.Name y py].length)=true:=by simp;omega
      rw [this];rfl
     exact this _ (Nat.le_trans (List.length_filterMap_le _ _) (Nat.le_refl _))
  ·cases hc
theorem A1 {Φ:Fx} {sc:Scope} {H0:Hp} {ρ ρ':ae} {es:List Expr} {e:Expr} {n:Nat} {p pos:Pos} {d:D} {ds:List D} {k:Nat} (G:aL Φ X sc) (h:ED X ρ e d k) (hd:fW d=some ds) (hf:ax ds=true\/k<=1) (hb:aN sc es ds ρ=some ρ') (ht:tJ sc es e=false) :
  SD X H0 ρ (.Assign [.Tuple es n p] e pos) (.nx ρ'):=by
 obtain ⟨t,h1,h2,h3,h4⟩:=iI G hb
 intro pins s σ H D I ⟨ow,E,hl,B,q⟩
 have fin:∀H1 vs,av H H1->ag X.K H1 (Kp ow H k) ds vs->t vs σ H1 D.nx:=fun H1 vs s1 rl=>h4 ow vs σ H1 D.nx hl (E.same s1) (kE E.own hf rl) fun σ' hl' E'=>q ow σ' H1 E' hl' (aR.same s1)
 rcases fD hd with rfl|rfl
 ·refine kG (h ow) (oa (n:=_) G.calm h1 h2 h3) eR (lC G ht) rfl pins s σ H D I ⟨E,fun v H1 s1 r1=>?_⟩
  obtain ⟨a,vs,rfl,hs,rl⟩:=eT r1
  exact ⟨a,vs,rfl,hs,rl.length.symm,fin H1 vs s1 rl⟩
 ·refine kG (h ow) (Bq (n:=_) G.calm h1 h2 h3) eR (lC G ht) rfl pins s σ H D I ⟨E,fun v H1 s1 r1=>?_⟩
  obtain ⟨a,vs,rfl,hs,rl⟩:=jh r1
  exact ⟨a,vs,rfl,hs,rl.length.symm,fin H1 vs s1 rl⟩
theorem Ed {K:W.Frag} {H:Hp} {P:aZ} {a b:D} {vs:List V} (h:ag K H P [a,b] vs):∃x y,vs=[x,y]/\af K H P a x/\af K H P b y:=by
 rw [ag] at h
 obtain ⟨x,r,rfl,h1,h⟩:=h
 rw [ag] at h
 obtain ⟨y,r,rfl,h2,h⟩:=h
 rw [ag] at h
 subst h
 exact ⟨x,y,rfl,h1,h2⟩
theorem yR {Φ:Fx} {sc:Scope} {H0:Hp} {ρ:ae} {es:List Expr} {e:Expr} {n:Nat} {pt pos:Pos} {p:D×Nat} (G:aL Φ X sc) (h:ED X ρ e p.1 p.2) (ho:wc sc es p=true) (ht:tJ sc es e=false) :
  SD X H0 ρ (.Assign [.Tuple es n pt] e pos) (.nx (vY es p ρ)):=by
 obtain ⟨d,k⟩:=p
 unfold wc at ho
 split at ho
 ·rename_i x px y py d1 d2 e0 e1
  have e0:d=_:=e0
  have e1:k=_:=e1
  subst e0 e1
  simp only [Bool.and_eq_true,Bool.not_eq_true',decide_eq_false_iff_not] at ho
  obtain ⟨⟨⟨⟨f1,_⟩,hxy⟩,hx⟩,hy⟩:=ho
  obtain ⟨g1,g2,g3,i,g4⟩:=d8 G hx
  obtain ⟨j1,j2,j3,j,j4⟩:=d8 G hy
  have hij:i≠j:=fun z=>by subst z;rw [g4] at j4;exact hxy (Option.some.inj j4)
  intro pins s σ H D I ⟨ow,E,hl,B,q⟩
  refine kG (h ow) (oa (n:=2) G.calm (jW (gC (i:=i) G.nd g4 g1 g3) (jW (gC (i:=j) G.nd j4 j1 j3) qe rfl) rfl) rfl rfl) eR (lC G ht) rfl pins s σ H D I ⟨E,fun v H1 s1 r1=>?_⟩
  obtain ⟨a,vs,rfl,hs,rl⟩:=eT r1
  obtain ⟨v1,v2,rfl,r2,r3⟩:=Ed rl
  refine ⟨a,[v1,v2],rfl,hs,rfl,v1,[v2],rfl,v2,[],rfl,rfl,?_⟩
  obtain ⟨ow',E',k'⟩:=lW G.nd hl E s1 j4 j2 r3
  have hl':(σ.set j (some v2)).length=X.N.length:=by rw [List.length_set];exact hl
  have E2:=dy (o:=false) G.nd hl' E' g4 g2 (r2.flat _ f1)
  rw [List.set_comm _ _ hij]
  exact q ow' _ H1 E2 (by rw [List.length_set];exact hl') k'
 ·cases ho
theorem re {sc:Scope} {Φ:Fx} {x y:Str} {px py p p2:Pos} {n n2:Nat} {a b:Expr} (G:aL Φ X sc) (hk:X.env.scope.kind=.function) (h:kI sc x y px py a b=true) (ha:∀x p,a ≠ .Starred x p) (hb:∀x p,b ≠ .Starred x p) :
  swappedStores [.Tuple [.Name x px,.Name y py] n p] (.Tuple [a,b] n2 p2) X.env=pure (some [x,y]):=by
 unfold kI at h
 simp only [Bool.and_eq_true,Bool.not_eq_true',beq_iff_eq,decide_eq_false_iff_not] at h
 obtain ⟨⟨⟨⟨⟨h1,h2⟩,h3⟩,h4⟩,h5⟩,h6⟩:=h
 have k1:X.env.kindOf x=some .local:=G.lc x h1
 have k2:X.env.kindOf y=some .local:=G.lc y h2
 have bk:X.env.blockKind=.function:=by unfold Env.blockKind;rw [hk];rfl
 have an:∀f:Expr->Bool,(∀e,(∀x p,e ≠ .Starred x p)->f e=false) -> ¬ ([a,b].any f=true):=fun f hf=>by simp [hf a ha,hf b hb]
 have fm:∀f:Expr->Option Str,f (.Name x px)=some x->f (.Name y py)=some y->[Expr.Name x px,Expr.Name y py].filterMap f=[x,y]:=fun f h1 h2=>by simp [h1,h2]
 have ed:[x,y].eraseDups=[x,y]:=by
  have e1:(!(y==x))=true:=by simp;exact fun z=>h4 z.symm
  rw [List.eraseDups_cons,List.filter_cons_of_pos (p:=fun b => !b==x) e1,List.filter_nil]
  rfl
 unfold swappedStores
 dsimp only
 rw [bk]
 refine (if_neg (by simp)).trans ?_
 refine (if_neg (an _ fun e he=>by cases e <;> first|rfl|exact absurd rfl (he _ _))).trans ?_
 rw [fm _ (by show (if (X.env.kindOf x==some NameKind.local&&px.line==px.line)=true then some x else none)=some x;rw [k1];simp) (by show (if (X.env.kindOf y==some NameKind.local&&py.line==px.line)=true then some y else none)=some y;rw [k2,h3];simp)]
 rw [ed]
 refine (if_neg (by simp)).trans ?_
 rw [h5,h6]
 rfl
theorem A4 {Φ:Fx} {sc:Scope} {H0:Hp} {ρ:ae} {a b:Expr} {x y:Str} {px py p p2 pos:Pos} {n n2:Nat} {u v:D} {k:Nat} (G:aL Φ X sc) (h:AD X ρ [a,b] [u,v] k) (hf:ax [u,v]=true\/k<=1) (hp:kI sc x y px py a b=true) (ha:∀x p,a ≠ .Starred x p) (hb:∀x p,b ≠ .Starred x p) :
  SD X H0 ρ (.Assign [.Tuple [.Name x px,.Name y py] n p] (.Tuple [a,b] n2 p2) pos) (.nx (bn (bn ρ x (u,false)) y (v,false))):=by
 have hp0:=hp
 unfold kI at hp
 simp only [Bool.and_eq_true,Bool.not_eq_true',beq_iff_eq,decide_eq_false_iff_not] at hp
 obtain ⟨⟨⟨⟨⟨l1,l2⟩,_⟩,hxy⟩,_⟩,_⟩:=hp
 obtain ⟨g1,g2,g3,i,g4⟩:=d8 (x:=x) G (by unfold b9;rw [l1];rfl)
 obtain ⟨j1,j2,j3,j,j4⟩:=d8 (x:=y) G (by unfold b9;rw [l2];rfl)
 have hij:i≠j:=by intro z;subst z;rw [g4] at j4;cases j4;exact hxy rfl
 intro pins s σ H D I ⟨ow,E,hl,B,q⟩
 refine Bj (i:=i) (j:=j) G.calm G.nd g4 j4 hij (G.lc x l1) (G.lc y l2) (h ow) (re G I.ok.kind hp0 ha hb) eR pins s σ H D I ⟨E,fun vs H1 s1 r1=>?_⟩
 have rs:=kE E.own hf r1
 rw [ag] at rs
 obtain ⟨v1,r,rfl,rv1,rs⟩:=rs
 obtain ⟨v2,rfl,rv2⟩:=rs.only
 refine ⟨v1,v2,rfl,?_⟩
 have E1:=dy (o:=false) G.nd hl (E.same s1) g4 g2 rv1
 have hl1:(σ.set i (some v1)).length=X.N.length:=by rw [List.length_set];exact hl
 exact q ow _ H1 (dy (o:=false) G.nd hl1 E1 j4 j2 rv2) (by rw [List.length_set];exact hl1) (aR.same s1)
theorem uW {ow:Ow} {H1:Hp} {σ:L2.St} {ρ:ae} {x:Str} {l':List D} {a:Addr} {vs vs':List V} {i:Nat} (E:aG X ow H1 σ ρ) (hi:X.N[i]?=some x) (hs:σ[i]?=some (some (.ref a)))
  (hv:ge X.env.scope x) (ha:H1 a=some (.lst vs)) (ho:ow a=some (some x)) (f:ax l'=true) (r:ag X.K H1 (fun _ _=>True) l' vs') :
  aG X ow (aE H1 a (.lst vs')) σ (bn ρ x (.lst l',true)):=by
 have st:∀{P:aZ},(P a true->False)->c8 P P H1 (aE H1 a (.lst vs')):=fun {P} h=>⟨fun b o hb hn=>by rw [az (fun z=>by subst z;rw [ha] at hb;cases hb;exact hn)];exact hb,fun b ws hb p=>by rw [az (fun z=>by subst z;exact h p)];exact hb,fun _ _ _ p=>p,fun _ p=>p⟩
 have r':ag X.K (aE H1 a (.lst vs')) (iK ow x true) l' vs':=ag.flat _ f ((r.flat (fun _ _=>False) f).mono (st fun z=>z))
 refine ⟨fun y e o h=>?_,fun b hb=>?_⟩
 ·rw [cY] at h
  by_cases hy:y=x
  ·subst hy
   rw [if_pos rfl] at h
   cases h
   exact ⟨i,.ref a,hi,hv,hs,by rw [af];exact ⟨a,vs',true,rfl,aJ,⟨rfl,ho⟩,r'⟩⟩
  ·rw [if_neg hy] at h
   obtain ⟨j,w,e1,e2,e3,e4⟩:=E.get y e o h
   refine ⟨j,w,e1,e2,e3,e4.mono (st fun p=>?_)⟩
   cases o with
   | true=>have:=p.2;rw [ho] at this;cases this;exact hy rfl
   | false=>have:=p rfl;rw [ho] at this;cases this
 ·by_cases hz:b=a
  ·subst hz;exact ⟨_,aJ⟩
  ·rw [az hz];exact E.own b hb
theorem BF {ow:Ow} {H:Hp} {σ:L2.St} {ρ:ae} {x:Str} {l:List D} (E:aG X ow H σ ρ) (h:ρ x=some (.lst l,true)):∃(i:Nat) (a:Addr) (vs:List V),X.N[i]?=some x/\ge X.env.scope x/\σ[i]?=some (some (.ref a))/\H a=some (.lst vs)/\ow a=some (some x)/\ag X.K H (fun _ _=>True) l vs:=by
 obtain ⟨i,v,e1,e2,e3,e4⟩:=E.get x _ _ h
 rw [af] at e4
 obtain ⟨a,vs,b,rfl,hl,hp,rl⟩:=e4
 cases hp.1
 exact ⟨i,a,vs,e1,e2,e3,hl,hp.2,rl.imp fun _ _ _=>True.intro⟩
theorem r6 {ow:Ow} {H H1:Hp} {a:Addr} {vs vs':List V} {x:Str} (sm:av H H1) (h0:H a=some (.lst vs)) (ho:ow a=some (some x)):aR ow H ow (aE H1 a (.lst vs')) :=
 ⟨fun b o h c=>by
  rw [az (fun z=>by
   subst z
   rw [h0] at h;cases h
   rcases c with c|c
   ·exact c
   ·rw [ho] at c;cases c)]
  exact sm b o h,fun _ _ _ z=>z⟩
theorem eV {pins:List (Addr×Obj)} {σ:L2.St} {H:Hp} {s:Shared} (I:ah X pins σ H s) {a:Addr} {o:Obj} (h:X.K.lookup a=some o):H a=none:=(I.bs a o (I.ok.mod.kin a o h)).2
mutual
def D.lsz:D->Nat
 | .lst l=>1+gk l
 | .tup l=>gk l
 | _=>0
def gk:List D->Nat
 | []=>0
 | d::l=>d.lsz+gk l
end
theorem wn {pins:List (Addr×Obj)} {σ:L2.St} {H:Hp} {s:Shared} (I:ah X pins σ H s) {P:aZ} {d:D} {a:Addr} {vs:List V} (ha:H a=some (.lst vs)) (h:af X.K H P d (.ref a)):∃l,d=.lst l:=by
 cases d with
 | lst l=>exact ⟨l,rfl⟩
 | tup l =>
  rw [af] at h
  obtain ⟨a',vs',e,hs,_⟩:=h
  cases e
  rcases hs with (q | ⟨o,q⟩) | ⟨o,its,n,q,_⟩
  ·rw [ha] at q;cases q
  ·rw [ha] at q;cases q
  ·rw [eV I q] at ha;cases ha
 | dct _ _=>rw [af] at h;obtain ⟨_,_,a',_,e,hl,_⟩:=h;cases e;rw [ha] at hl;cases hl
 | sn m=>rw [af] at h;obtain ⟨a',S,e,hl⟩:=h;cases e;rw [ha] at hl;cases hl
 | obj n ns es=>rw [af] at h;obtain ⟨_,_,a',C,dx,vs',e,_,_,hl,_⟩:=h;cases e;rw [ha] at hl;cases hl
 | cls n=>rw [af] at h;obtain ⟨C,o',e,_,hl,_⟩:=h;cases e;rw [eV I hl] at ha;cases ha
 | xc n p =>
  rw [af] at h
  rcases h.at with ⟨o',hl,_⟩ | ⟨C,od,hl⟩
  ·rw [eV I hl] at ha;cases ha
  ·rw [ha] at hl;cases hl
 | _=>rw [af] at h;cases h
theorem vI {pins:List (Addr×Obj)} {σ:L2.St} {H:Hp} {s:Shared} (I:ah X pins σ H s) {P:aZ} (hP:∀a b,P a b->b=true) {d:D} {a:Addr} {vs:List V} (ha:cj X.K H a vs) (h:af X.K H P d (.ref a)):∃l,d=.tup l/\ag X.K H P l vs:=by
 have no:∀o,H a=some o->(∀xs,o ≠ .tup xs)->(∀p q,o ≠ .frz p q)->False:=fun o e h1 h2=>by
  rcases ha with (q | ⟨o',q⟩) | ⟨o',its,n,q,_⟩
  ·rw [e] at q;cases q;exact h1 _ rfl
  ·rw [e] at q;cases q;exact h2 _ _ rfl
  ·rw [eV I q] at e;cases e
 cases d with
 | lst l =>
  rw [af] at h
  obtain ⟨a',vs',b,e,hl,p,_⟩:=h
  cases e
  cases hP _ _ p
  exact (no _ hl (fun _ z=>nomatch z) fun _ _ z=>nomatch z).elim
 | tup l =>
  rw [af] at h
  obtain ⟨a',vs',e,hs,rl⟩:=h
  cases e
  have:=I.tuple_inj ha hs
  subst this
  exact ⟨l,rfl,rl⟩
 | dct _ _=>rw [af] at h;obtain ⟨_,_,a',_,e,hl,_⟩:=h;cases e;exact (no _ hl (fun _ z=>nomatch z) fun _ _ z=>nomatch z).elim
 | sn m=>rw [af] at h;obtain ⟨a',S,e,hl⟩:=h;cases e;exact (no _ hl (fun _ z=>nomatch z) fun _ _ z=>nomatch z).elim
 | obj n ns es=>rw [af] at h;obtain ⟨_,_,a',C,dx,vs',e,_,_,hl,_⟩:=h;cases e;exact (no _ hl (fun _ z=>nomatch z) fun _ _ z=>nomatch z).elim
 | cls n =>
  rw [af] at h
  obtain ⟨C,o',e,_,hl,ht,_⟩:=h
  cases e
  rcases ha with (q | ⟨o,q⟩) | ⟨o,its,n,q,hc,_⟩
  ·rw [eV I hl] at q;cases q
  ·rw [eV I hl] at q;cases q
  ·rw [hl] at q;cases q;rw [hc] at ht;injection ht with ht;exact absurd ht (by decide)
 | xc n p =>
  rw [af] at h
  rcases h.at with ⟨o',hl,ht⟩ | ⟨C,od,hl⟩
  ·rcases ha with (q | ⟨o,q⟩) | ⟨o,its,n,q,hc,_⟩
   ·rw [eV I hl] at q;cases q
   ·rw [eV I hl] at q;cases q
   ·rw [hl] at q;cases q;rw [hc] at ht;injection ht with ht;exact absurd ht (by decide)
  ·exact (no _ hl (fun _ z=>nomatch z) fun _ _ z=>nomatch z).elim
 | _=>rw [af] at h;cases h
mutual
theorem nZ {pins:List (Addr×Obj)} {σ:L2.St} {H:Hp} {s:Shared} (I:ah X pins σ H s) {P:aZ} (hP:∀a b,P a b->b=true):∀(d d':D) (v:V),af X.K H P d v->af X.K H P d' v->d.lsz<=d'.lsz
 | .tup l,d',v,h,h'=>by
  rw [af] at h
  obtain ⟨a,vs,rfl,hs,rl⟩:=h
  obtain ⟨l',rfl,rl'⟩:=vI I hP hs h'
  rw [D.lsz,D.lsz];exact iG I hP l l' vs rl rl'
 | .lst l,d',v,h,h'=>by
  rw [af] at h
  obtain ⟨a,vs,b,rfl,hs,p,rl⟩:=h
  cases hP _ _ p
  replace hs:H a=some (.lst vs):=hs
  obtain ⟨l',rfl⟩:=wn I hs h'
  rw [af] at h'
  obtain ⟨a',vs',b,e,hl,p',rl'⟩:=h'
  cases e
  cases hP _ _ p'
  replace hl:H a=some (.lst vs'):=hl
  rw [hs] at hl;cases hl
  rw [D.lsz,D.lsz]
  exact Nat.add_le_add_left (iG I hP l l' vs rl rl') 1
 | .non,_,_,_,_=>Nat.zero_le _
 | .bl _,_,_,_,_=>Nat.zero_le _
 | .int _,_,_,_,_=>Nat.zero_le _
 | .str _,_,_,_,_=>Nat.zero_le _
 | .dct _ _,_,_,_,_=>Nat.zero_le _
 | .typ _,_,_,_,_=>Nat.zero_le _
 | .sn _,_,_,_,_=>Nat.zero_le _
 | .obj _ _ _,_,_,_,_=>Nat.zero_le _
 | .cls _,_,_,_,_=>Nat.zero_le _
 | .xc _ _,_,_,_,_=>Nat.zero_le _
theorem iG {pins:List (Addr×Obj)} {σ:L2.St} {H:Hp} {s:Shared} (I:ah X pins σ H s) {P:aZ} (hP:∀a b,P a b->b=true):∀(l l':List D) (vs:List V),ag X.K H P l vs->ag X.K H P l' vs->gk l<=gk l'
 | [],l',vs,h,h'=>Nat.zero_le _
 | d::l,l',vs,h,h'=>by
  rw [ag] at h
  obtain ⟨v,r,rfl,h1,h2⟩:=h
  cases l' with
  | nil=>rw [ag] at h';cases h'
  | cons d' l' =>
   rw [ag] at h'
   obtain ⟨v',r',e,h1',h2'⟩:=h'
   cases e
   rw [gk,gk]
   exact Nat.add_le_add (nZ I hP d d' v h1 h1') (iG I hP l l' r h2 h2')
end
mutual
theorem Bf {pins:List (Addr×Obj)} {σ:L2.St} {H:Hp} {s:Shared} (I:ah X pins σ H s) {P:aZ} (hP:∀a b,P a b->b=true) {A:Addr} {l:List D} (hA:af X.K H P (.lst l) (.ref A)):∀(d:D) (v:V),d.lsz < (D.lst l).lsz->af X.K H P d v->af X.K H (fun a b=>P a b/\a≠A) d v
 | .tup m,v,hs,h=>by
  rw [af] at h ⊢
  obtain ⟨a,vs,e,h1,h2⟩:=h
  exact ⟨a,vs,e,h1,ji I hP hA m vs (by rw [D.lsz] at hs;exact hs) h2⟩
 | .lst m,v,hs,h=>by
  have h0:=h
  rw [af] at h ⊢
  obtain ⟨a,vs,b,e,h1,p,h2⟩:=h
  refine ⟨a,vs,b,e,h1,⟨p,fun z=>?_⟩,ji I hP hA m vs (by rw [D.lsz] at hs;omega) h2⟩
  subst e z
  have:=nZ I hP _ _ _ hA h0
  exact absurd (Nat.lt_of_lt_of_le hs this) (Nat.lt_irrefl _)
 | .non,v,_,h=>by rw [af] at h ⊢;exact h
 | .bl _,v,_,h=>by rw [af] at h ⊢;exact h
 | .int _,v,_,h=>by rw [af] at h ⊢;exact h
 | .str _,v,_,h=>by rw [af] at h ⊢;exact h
 | .dct ks es,v,_,h=>by
  rw [af] at h ⊢
  obtain ⟨f,e0,a,vs,e,h1,p,r⟩:=h
  refine ⟨f,e0,a,vs,e,h1,⟨p,fun z=>?_⟩,r.flat _ f⟩
  subst z
  rw [af] at hA
  obtain ⟨a2,vs2,b,e2,hl,p2,_⟩:=hA
  cases e2
  cases hP _ _ p2
  replace hl:H a=some (.lst vs2):=hl
  rw [h1] at hl;cases hl
 | .typ _,v,_,h=>by rw [af] at h ⊢;exact h
 | .sn _,v,_,h=>by rw [af] at h ⊢;exact h
 | .obj n ns es,v,_,h=>h.flat _ rfl
 | .cls n,v,_,h=>h.flat _ rfl
 | .xc n p,v,_,h=>h.flat _ rfl
theorem ji {pins:List (Addr×Obj)} {σ:L2.St} {H:Hp} {s:Shared} (I:ah X pins σ H s) {P:aZ} (hP:∀a b,P a b->b=true) {A:Addr} {l:List D} (hA:af X.K H P (.lst l) (.ref A)):∀(m:List D) (vs:List V),gk m < (D.lst l).lsz->ag X.K H P m vs->ag X.K H (fun a b=>P a b/\a≠A) m vs
 | [],vs,_,h=>by rw [ag] at h ⊢;exact h
 | d::m,vs,hs,h=>by
  rw [ag] at h ⊢
  obtain ⟨v,r,e,h1,h2⟩:=h
  exact ⟨v,r,e,Bf I hP hA d v (by rw [gk] at hs;omega) h1,ji I hP hA m r (by rw [gk] at hs;omega) h2⟩
end
theorem BG {pins:List (Addr×Obj)} {s:Shared} {ow:Ow} {H:Hp} {σ:L2.St} {ρ:ae} {x:Str} {l:List D} (I:ah X pins σ H s) (E:aG X ow H σ ρ) (h:ρ x=some (.lst l,true)):∃(i:Nat) (a:Addr) (vs:List V),X.N[i]?=some x/\ge X.env.scope x/\σ[i]?=some (some (.ref a))/\H a=some (.lst vs)/\ow a=some (some x)/\ag X.K H (fun b c=>iK ow x true b c/\b≠a) l vs:=by
 obtain ⟨i,v,e1,e2,e3,e4⟩:=E.get x _ _ h
 have e5:=e4
 rw [af] at e4
 obtain ⟨a,vs,b,rfl,hl,hp,rl⟩:=e4
 cases hp.1
 exact ⟨i,a,vs,e1,e2,e3,hl,hp.2,ji I (fun _ _ p=>p.1) e5 l vs (by rw [D.lsz];omega) rl⟩
theorem zR {ow:Ow} {H H1:Hp} {σ:L2.St} {ρ:ae} {x:Str} {l':List D} {a:Addr} {vs vs':List V} {i:Nat} (E:aG X ow H σ ρ) (sm:av H H1) (hi:X.N[i]?=some x) (hs:σ[i]?=some (some (.ref a)))
  (hv:ge X.env.scope x) (h0:H a=some (.lst vs)) (ho:ow a=some (some x)) (r:ag X.K H1 (fun b c=>(iK ow x true b c/\b≠a)\/Kp ow H 0 b c) l' vs') :
  ∃ow',aG X ow' (aE H1 a (.lst vs')) σ (bn ρ x (.lst l',true))/\aR ow H ow' (aE H1 a (.lst vs')):=by
 classical
 let ow':Ow:=fun a=>if H a=none/\∃o,H1 a=some o then some (some x) else ow a
 have o1:∀a o,H a=some o->ow' a=ow a:=fun a o h=>if_neg (fun z=>by rw [h] at z;cases z.1)
 have ha:H1 a=some (.lst vs):=sm _ _ h0
 have ho':ow' a=some (some x):=(o1 a _ h0).trans ho
 have E1:aG X ow' H1 σ ρ:=⟨fun y e o h=>by
  obtain ⟨j,w,e1,e2,e3,e4⟩:=E.get y e o h
  refine ⟨j,w,e1,e2,e3,af.same sm (e4.impH (fun a ob ha p=>?_) fun a p=>?_)⟩
  ·cases o with
   | true=>exact ⟨p.1,(o1 a ob ha).trans p.2⟩
   | false=>exact fun z=>(o1 a ob ha).trans (p z)
  ·cases o with
   | true=>cases p.1
   | false=>exact fun z=>(by cases z),fun a ha=>by
  by_cases hz:H a=none/\∃o,H1 a=some o
  ·exact hz.2
  ·have:ow' a=ow a:=if_neg hz
   rw [this] at ha
   exact (E.own.same sm) a ha⟩
 have st:∀{P:aZ},(P a true->False)->c8 P P H1 (aE H1 a (.lst vs')):=fun {P} h=>⟨fun b o hb hn=>by rw [az (fun z=>by subst z;rw [ha] at hb;cases hb;exact hn)];exact hb,fun b ws hb p=>by rw [az (fun z=>by subst z;exact h p)];exact hb,fun _ _ _ p=>p,fun _ p=>p⟩
 have r1:ag X.K H1 (fun b c=>iK ow' x true b c/\b≠a) l' vs':=r.impH (fun b o hb p=>by
  rcases p with ⟨p,hne⟩ | p
  ·refine ⟨⟨rfl,?_⟩,hne⟩
   by_cases hz:H b=none/\∃o,H1 b=some o
   ·exact if_pos hz
   ·exact (if_neg hz).trans p.2
  ·exact ⟨⟨rfl,if_pos ⟨p.2,o,hb⟩⟩,fun z=>by subst z;rw [p.2] at h0;cases h0⟩) fun b p=>by
  rcases p with ⟨p,_⟩ | p
  ·cases p.1
  ·cases p.1
 have r':ag X.K (aE H1 a (.lst vs')) (iK ow' x true) l' vs':=(r1.mono (st fun z=>z.2 rfl)).imp fun _ _ p=>p.1
 refine ⟨ow',⟨fun y e o h=>?_,fun b hb=>?_⟩,fun b o h c=>?_,fun b o h z=>(o1 b o h).trans z⟩
 ·rw [cY] at h
  by_cases hy:y=x
  ·subst hy
   rw [if_pos rfl] at h
   cases h
   exact ⟨i,.ref a,hi,hv,hs,by rw [af];exact ⟨a,vs',true,rfl,aJ,⟨rfl,ho'⟩,r'⟩⟩
  ·rw [if_neg hy] at h
   obtain ⟨j,w,e1,e2,e3,e4⟩:=E1.get y e o h
   refine ⟨j,w,e1,e2,e3,e4.mono (st fun p=>?_)⟩
   cases o with
   | true=>have:=p.2;rw [ho'] at this;cases this;exact hy rfl
   | false=>have:=p rfl;rw [ho'] at this;cases this
 ·by_cases hz:b=a
  ·subst hz;exact ⟨_,aJ⟩
  ·rw [az hz];exact E1.own b hb
 ·rw [az (fun z=>by
   subst z
   rw [h0] at h;cases h
   rcases c with c|c
   ·exact c
   ·rw [ho] at c;cases c)]
  exact sm b o h
theorem kJ {env:Env} {pos:Pos}:∀{es:List Expr},(∀e∈es,∀x p,e ≠ .Starred x p)->(backTo pos (starEach es env)).all (fun x => !x.1)=true
 | [],_=>rfl
 | e::es,h=>by
  have ih:=kJ (env:=env) (es:=es) (pos:=pos) fun x hx=>h x (List.mem_cons_of_mem _ hx)
  have he:=h e List.mem_cons_self
  cases e <;> first|exact absurd rfl (he _ _) | exact ih
theorem A5 {H0:Hp} {ρ:ae} {x m:Str} {M:List D->List D->Nat->Rs (List D)} {args:List Expr} {p1 ap cp p4:Pos} {l l' ds:List D} {k:Nat} {o:List Prop} (hcalm:X.calm=true) (hM:jC m M) (hx:ρ x=some (.lst l,true)) (h:AD X ρ args ds k) (hst:∀e∈args,∀y p,e ≠ .Starred y p) (hlen:args.length=ds.length)
  (hn:eB x=true) (hln:(ap.endLine==cp.line)=true) (hm:M l ds k=.ok l' o) (hp:aA o):SD X H0 ρ (.Expr (.Call (.Attribute (.Name x p1) m ap) args [] cp) p4) (.nx (bn ρ x (.lst l',true))):=by
 obtain ⟨id,r,sl,ty,mt,hr⟩:=hM X hcalm
 intro pins s σ H D I ⟨ow,E,hl,B,q⟩
 obtain ⟨i,a,vs,g1,g2,g3,g4,g5,g6⟩:=BG I E hx
 have pn:PE X (.Name x p1) (nK i):=iJ g1 g2 (d7 hn).1 (d7 hn).2
 have fin:∀(H1:Hp) (ws:List V),av H H1->ag X.K H1 (Kp ow H k) ds ws->r (.ref a) ws H1 fun _ H2=>D.nx σ H2:=fun H1 ws s1 r1 =>
  (hr ow H H1 l ds l' k o a vs ws hm hp).2 (fun b c=>(iK ow x true b c/\b≠a)\/Kp ow H 0 b c) _ (fun _ _ p=>.inr p) E.own s1 (s1 _ _ g4) ((g6.same s1).imp fun _ _ p=>.inl p) r1 fun vs' _ rv=>by
   obtain ⟨ow',E',k'⟩:=zR E s1 g1 g3 g2 g4 g5 rv
   exact q ow' σ _ E' hl k'
 have few:ds.length < 29:=(hr ow H H l ds l' k o a vs vs hm hp).1
 cases args with
 | nil =>
  have e0:ds=[]:=List.length_eq_zero_iff.mp hlen.symm
  refine jj (BD PySem.F.plainAttrs_list sl ty mt pn rfl hln) rfl pins s σ H D I ⟨_,g3,.inl ⟨rfl,_,bR.of g4⟩,?_⟩
  exact fin H [] (av.refl _) (by rw [e0];exact ag.nil)
 | cons e es =>
  have hfew:((backTo cp (starEach (e::es) X.env)).all (fun x => !x.1)&&(backToKw cp (keywordEach [] X.env)).all (fun x=>x.1.isSome)&&decide ((e::es).length+([]:List Keyword).length+(if ([]:List Keyword).isEmpty then 0 else 1) < 30))=true:=by
   rw [kJ hst,hlen]
   have:decide (ds.length+0+0 < 30)=true:=by simp;omega
   exact this
  refine jj (jk PySem.F.plainAttrs_list sl ty mt pn (h ow) rfl hfew hln (aI (hst e List.mem_cons_self)) (bL fun x hx=>hst x (List.mem_cons_of_mem _ hx))) rfl pins s σ H D I ⟨_,g3,.inl ⟨rfl,_,bR.of g4⟩,E,fun ws H1 s1 r1=>?_⟩
  exact fin H1 ws s1 r1
theorem kO:∀{l:List D} {j:Nat} {d:D},ax l=true->d.lless=true->ax (l.set j d)=true
 | [],j,d,h,f=>by simp [ax]
 | x::l,0,d,h,f=>by
  rw [ax,Bool.and_eq_true] at h
  rw [List.set_cons_zero,ax,Bool.and_eq_true];exact ⟨f,h.2⟩
 | x::l,j+1,d,h,f=>by
  rw [ax,Bool.and_eq_true] at h
  rw [List.set_cons_succ,ax,Bool.and_eq_true];exact ⟨h.1,kO h.2 f⟩
theorem ag.set {K:W.Frag} {P:aZ} {H:Hp} {d:D} {v:V} (r:af K H P d v):∀{l:List D} {vs:List V} (j:Nat),ag K H P l vs->ag K H P (l.set j d) (vs.set j v)
 | [],vs,j,h=>by rw [ag] at h;subst h;simp;exact ag.nil
 | x::l,vs,0,h=>by
  rw [ag] at h
  obtain ⟨w,u,rfl,h1,h2⟩:=h
  exact ag.cons r h2
 | x::l,vs,j+1,h=>by
  rw [ag] at h
  obtain ⟨w,u,rfl,h1,h2⟩:=h
  exact ag.cons h1 (ag.set r j h2)
theorem vU {H0:Hp} {ρ:ae} {x:Str} {e i:Expr} {p1 p2 pos:Pos} {l l':List D} {d:D} {j:Int} {k k2:Nat} (hx:ρ x=some (.lst l,true)) (h:ED X ρ e d k) (hi:ED X ρ i (.int j) k2) (f:ax l=true) (fd:d.lless=true) (hn:eB x=true) (hm:rq l j d=some l') (hsl:∀a b c p,i ≠ .Slice a b c p) :
  SD X H0 ρ (.Assign [.Subscript (.Name x p1) i p2] e pos) (.nx (bn ρ x (.lst l',true))):=by
 unfold rq at hm
 cases hj:im l.length j with
 | none=>rw [hj] at hm;cases hm
 | some n =>
  rw [hj] at hm;cases hm
  intro pins s σ H D I ⟨ow,E,hl,B,q⟩
  obtain ⟨ix,a,vs,g1,g2,g3,g4,g5,g6⟩:=BF E hx
  have pn:PE X (.Name x p1) (nK ix):=iJ g1 g2 (d7 hn).1 (d7 hn).2
  refine kG (h ow) (Bp pn (hi ow) vR (fun v=>by cases i <;> first|rfl|exact absurd rfl (hsl _ _ _ _))) tH (by cases e <;> rfl) rfl pins s σ H D I ⟨E,fun v H1 s1 r1=>?_⟩
  refine ⟨_,g3,E.same s1,fun u H2 s2 r2=>?_⟩
  rw [af] at r2;subst r2
  have s12:=s1.trans s2
  refine ⟨a,vs,j,n,rfl,rfl,s12 _ _ g4,by rw [<- g6.length];exact hj,?_⟩
  exact q ow σ _ (uW (E.same s12) g1 g3 g2 (s12 _ _ g4) g5 (kO f fd) (ag.set ((r1.imp fun _ _ _=>True.intro).same s2) n (g6.same s12))) hl (r6 s12 g4 g5)
def rSetD:sJ:=fun o i v H Q => ∃p kvs k,o=.ref p/\i=kV k/\H p=some (.dK kvs)/\kvs.length < sizeLine/\Q (aE H p (.dK (vX kvs k v)))
theorem EK {op:Operator} {r:R2} (h:cf X (inplaceOp op) r):FB X op r:=h
theorem wu:cf X (inplaceOp .Mult) (rI (fun i j=>dv i j) fun i j=>.int (i*j)):=qg fun _ _ _ _ _ _ _ hc q=>imul_int q (ou hc)
theorem uG:cf X (inplaceOp .FloorDiv) (rI (fun _ j=>k8 j) fun i j=>.int (i.fdiv j)):=qg fun i j _ _ _ _ _ hc q=>ifloordiv_int hc.1 q (.inl (PyProof.noPylong_of_log2 (by
 rcases Nat.eq_zero_or_pos j.natAbs with h1|hp
 ·exact absurd (by simpa using h1) hc.1
 ·exact (Nat.log2_lt (Nat.ne_of_gt hp)).mpr hc.2)))
theorem A7 {Φ:Fx} {sc:Scope} {H0:Hp} {ρ:ae} {e:Expr} {x:Str} {p pos:Pos} {op:Operator} {a b:Int} {d:D} {k k2:Nat} {o:Bool} {l:List Prop} (G:aL Φ X sc) (hx:b9 sc x=true) (ha:ρ x=some (.int a,o)) (h:ED X ρ e (.int b) k) (hr:wV op a b=.ok (d,k2) l) (hp:aA l) :
  SD X H0 ρ (.AugAssign (.Name x p) op e pos) (.nx (bn ρ x (d,true))):=by
 obtain ⟨g1,g2,g3,i,g4⟩:=d8 G hx
 obtain ⟨r,hr1,hr2⟩:∃r:R2,cf X (inplaceOp op) r/\d.lless=true/\∀H (Q:VK),(∀v,af X.K H (fun _ _=>False) d v->Q v H)->r (.int a) (.int b) H Q:=by
  unfold wV at hr
  split at hr
  ·cases hr;exact ⟨_,zE,rfl,fun H Q q=>⟨a,b,rfl,rfl,q _ (by rw [af])⟩⟩
  ·cases hr;exact ⟨_,zD,rfl,fun H Q q=>⟨a,b,rfl,rfl,q _ (by rw [af])⟩⟩
  ·cases hr;exact ⟨_,wu,rfl,fun H Q q=>⟨a,b,rfl,rfl,hp.1,q _ (by rw [af])⟩⟩
  ·cases hr;exact ⟨_,uG,rfl,fun H Q q=>⟨a,b,rfl,rfl,hp.1,q _ (by rw [af])⟩⟩
  ·cases hr
 intro pins s σ H D I ⟨ow,E,hl,B,q⟩
 obtain ⟨i2,v,e1,e2,e3,e4⟩:=E.get x _ _ ha
 rw [af] at e4;subst e4
 have hi:i2=i:=fF G.nd e1 g4
 subst hi
 refine Bl (i:=i2) G.nd g4 g1 (h ow) (EK hr1) g3 pins s σ H D I ⟨.int a,e3,E,fun v H1 s1 r1=>?_⟩
 rw [af] at r1;subst r1
 refine hr2.2 H1 _ fun w rw'=>?_
 exact q ow _ H1 (dy G.nd hl (E.same s1) g4 g2 (rw'.flat _ hr2.1)) (by rw [List.length_set];exact hl) (aR.same s1)
theorem rV:jC "append" jv:=fun X hc=>⟨"list.append", _,PySem.F.slot_list_append,PySem.F.type_list_append,mD,fun ow H0 H l ds l' j o a vs ws h hp=>by
 unfold jv at h
 split at h
 ·rename_i d
  cases h
  have c:=hp.1
  refine ⟨by simp,fun P Q hP oi sm ha rl rd q=>?_⟩
  obtain ⟨w,rfl,rw'⟩:=rd.only
  refine ⟨a,vs,w,rfl,rfl,ha,?_,q _ _ (rl.append (ag.one ?_))⟩
  ·rw [<- rl.length];exact Nat.lt_trans hp.2.1 iN
  ·rcases c with c|c
   ·exact rw'.flat _ c
   ·subst c;exact rw'.imp hP
 ·cases h⟩
theorem rT:jC "extend" lL:=fun X hc=>⟨"list.extend", _,PySem.F.slot_list_extend,PySem.F.type_list_extend,ul,fun ow H0 H l ds l' j o a vs ws h hp=>by
 unfold lL at h
 split at h
 ·rename_i d
  cases h
  refine ⟨by simp,fun P Q hP oi sm ha rl rd q=>?_⟩
  obtain ⟨w,rfl,rw'⟩:=rd.only
  rw [af] at rw'
  obtain ⟨b,zs,bb,rfl,hb,pb,rz⟩:=rw'
  have hbb:bb=true:=pb.1
  subst hbb
  refine ⟨a,b,vs,zs,rfl,rfl,ha,hb,?_,q _ _ (rl.append (rz.imp hP))⟩
  rw [<- rl.length,<- rz.length];exact Nat.le_trans hp.1 (Nat.le_of_lt iN)
 ·cases h⟩
end Sp
namespace Sp
open PySem PySem.Spec PyProof.Rows L2
variable {X:Cx}
theorem j7 {ow:Ow} {H:Hp} {σ:L2.St} {ρ:ae} (x:Str) (E:aG X ow H σ ρ):∃ow',aG X ow' H σ (demX x ρ)/\aR ow H ow' H:=by
 classical
 unfold demX
 let ow':Ow:=fun a=>if ow a=some (some x) then none else ow a
 have o1:∀a,ow a=none->ow' a=none:=fun a h=>by show (if _ then _ else _)=_;split;rfl;exact h
 refine ⟨ow',⟨fun y e o h=>?_,fun a ha=>?_⟩,fun a o h _=>h,fun a o h z=>o1 a z⟩
 ·by_cases hy:y=x
  ·subst hy
   simp only [if_true] at h
   cases hd:ρ y with
   | none=>rw [hd] at h;cases h
   | some q =>
    obtain ⟨d,o'⟩:=q
    rw [hd] at h
    cases h
    obtain ⟨j,w,e1,e2,e3,e4⟩:=E.get y _ _ hd
    refine ⟨j,w,e1,e2,e3,e4.imp fun a b p z=>?_⟩
    cases o' with
    | true=>exact if_pos p.2
    | false=>exact o1 a (p z)
  ·simp only [if_neg hy] at h
   obtain ⟨j,w,e1,e2,e3,e4⟩:=E.get y e o h
   refine ⟨j,w,e1,e2,e3,e4.imp fun a b p=>?_⟩
   cases o with
   | true=>exact ⟨p.1,by show (if _ then _ else _)=_;rw [if_neg (fun z=>by rw [p.2] at z;cases z;exact hy rfl)];exact p.2⟩
   | false=>exact fun z=>o1 a (p z)
 ·refine E.own a fun z=>ha (o1 a z)
theorem Ag (x:Str) (ρ:ae):demA x ρ=ρ\/demA x ρ=demX x ρ:=by
 cases h:ρ x with
 | none=>exact .inl (funext fun y=>by unfold demA;split;(rename_i e;subst e;rw [h];rfl);rfl)
 | some p =>
  cases hl:p.1.lless with
  | true=>exact .inl (funext fun y=>by unfold demA;split;(rename_i e;subst e;rw [h];show some (p.1,p.2&&p.1.lless)=_;rw [hl,Bool.and_true]);rfl)
  | false=>exact .inr (funext fun y=>by unfold demA demX;split;(rename_i e;subst e;rw [h];show some (p.1,p.2&&p.1.lless)=_;rw [hl,Bool.and_false];rfl);rfl)
theorem hU:∀{es:List Expr} {ow:Ow} {H:Hp} {σ:L2.St} {ρ:ae},aG X ow H σ ρ->∃ow',aG X ow' H σ (demL es ρ)/\aR ow H ow' H
 | [],ow,H,σ,ρ,E=>⟨ow,E,aR.refl _ _⟩
 | e::es,ow,H,σ,ρ,E=>by
  have one:∀x,∃ow',aG X ow' H σ (demL es (demA x ρ))/\aR ow H ow' H:=fun x=>by
   rcases Ag x ρ with h|h
   ·rw [h];exact hU E
   ·rw [h]
    obtain ⟨ow1,E1,k1⟩:=j7 x E
    obtain ⟨ow2,E2,k2⟩:=hU (es:=es) E1
    exact ⟨ow2,E2,k1.trans k2⟩
  unfold demL
  split
  ·rename_i z;cases z
  ·rename_i z;cases z;exact one _
  ·rename_i z;cases z;exact one _
  ·rename_i z;cases z;exact hU E
theorem k7 {ow:Ow} {H:Hp} {σ:L2.St} {ρ:ae} {e:Expr} (E:aG X ow H σ ρ):∃ow',aG X ow' H σ (demote e ρ)/\aR ow H ow' H:=by
 unfold demote
 split
 ·exact j7 _ E
 ·exact j7 _ E
 ·exact hU E
 ·exact ⟨ow,E,aR.refl _ _⟩
def aa {α:Type} (r:Rs α) (a:α):Prop:=∃l,r=.ok a l/\aA l
theorem aq {α β:Type} {r:Rs α} {f:α->Rs β} {b:β} (h:aa (r.bnd f) b):∃a,aa r a/\aa (f a) b:=by
 obtain ⟨l,h,hp⟩:=h
 obtain ⟨a,l1,l2,h1,p1,h2,p2⟩:=aK h hp
 exact ⟨a,⟨l1,h1,p1⟩,l2,h2,p2⟩
theorem am {α:Type} {a:α} (h:aa (.st) a):False:=by obtain ⟨l,h,_⟩:=h;cases h
theorem aB {α:Type} {a b:α} {l:List Prop} (h:aa (.ok a l) b):a=b:=by obtain ⟨m,h,_⟩:=h;cases h;rfl
theorem A6 {H0:Hp} {ρ:ae} {tg iter:Expr} {body:List Stmt} {pos:Pos} {bind:D->ae->Option ae} {bodyF:ae->Rs Fl} {ds:List D} {k:Nat} {fl:Fl} (hp:PassesOwn (model X.prog X.w) X.A X.env X.xe) (hcalm:X.calm=true)
  (hi:IE X (demote iter ρ) tg iter ds k) (hk:k<=1) (hg:∀d ρ ρ',bind d ρ=some ρ'->GD X ρ tg d ρ') (hb:∀ρ fl,aa (bodyF ρ) fl->fT X H0 ρ body fl) (h:aa (cK bind bodyF ds (demote iter ρ)) fl)
  (hs:∀x,foldedSetIterable iter X.env x=pure x):SD X H0 ρ (.For tg iter body [] pos) fl:=by
 intro pins s σ H D0 I ⟨ow0,E0,hl,B0,q0⟩
 obtain ⟨ow,E,k0⟩:=k7 (e:=iter) E0
 have B:=B0.keep k0
 have q:=q0.keep k0
 have pb:cT X body (fun D σ H => ∃ρ fl,aa (bodyF ρ) fl/\tF X H0 ρ fl D σ H):=fun pins s σ H D I ⟨ρ1,fl1,h1,h2⟩=>hb ρ1 fl1 h1 pins s σ H D I h2
 have pg:PG X tg (fun v σ H Q => ∃g:TG,PG X tg g/\g v σ H Q):=fun pins s σ H v u Q I r ⟨g,h1,h2⟩=>h1 pins s σ H v u Q I r h2
 refine Bk hp hcalm (hi ow) pg pb hs pins s σ H D0 I ⟨E,fun J H1 s1 itd=>?_⟩
 refine ⟨fun i m σ' H'=>m=ds.length - i/\i<=ds.length/\∃ow' ρ',aG X ow' H' σ' ρ'/\σ'.length=X.N.length/\bI H0 ow' H'/\aR ow H1 ow' H'/\aa (cK bind bodyF (ds.drop i) ρ') fl,
  ⟨ds.length,by simp,Nat.zero_le _,ow,_,E.same s1,hl,B.keep (aR.same s1),aR.refl _ _,h⟩,?_⟩
 rintro i m σ' H' ⟨rfl,hile,ow',ρ',E',hl',B',k',hf⟩
 have q':ml X H0 ow' H' fl D0:=q.keep ((aR.same s1).trans k')
 have st:c8 (Kd ow H k H1) (Kd ow H k H1) H1 H':=⟨fun a o ha hn=>k'.keep a o ha (.inl hn),fun a vs ha p=>k'.keep a _ ha (.inr (dW E.own hk p.1)),fun _ _ _ p=>p,fun _ p=>p⟩
 have it:=itd i H' st
 by_cases hlt:i < ds.length
 ·obtain ⟨go,yl⟩:=it.1 ds[i] (List.getElem?_eq_getElem hlt)
  have hdrop:ds.drop i=ds[i]::ds.drop (i+1):=List.drop_eq_getElem_cons hlt
  rw [hdrop,cK] at hf
  refine .inr ⟨go,fun σ2 H2=>i+1<=ds.length/\∃ow2 ρ2,aG X ow2 H2 σ2 ρ2/\σ2.length=X.N.length/\bI H0 ow2 H2/\aR ow H1 ow2 H2/\aa (cK bind bodyF (ds.drop (i+1)) ρ2) fl,fun σ2 H2 n=>⟨ds.length - (i+1),by omega,rfl,n.1,n.2⟩,fun x H3 y3=>?_⟩
  obtain ⟨sm3,rx⟩:=yl x H3 y3
  cases hbd:bind ds[i] ρ' with
  | none=>rw [hbd] at hf;exact (am hf).elim
  | some ρ1 =>
   rw [hbd] at hf
   dsimp only at hf
   obtain ⟨g,g1,g2⟩:=hg _ _ _ hbd
   have rx':af X.K H3 (fun a b=>b=true->ow' a=none) ds[i] x:=rx.impH (fun a o ha p _=>by
    obtain ⟨o1,h1⟩:=p.2 rfl
    exact k'.low a o1 h1 (dW E.own hk p.1)) fun a _ z=>(by cases z)
   refine ⟨g,g1,g2 ow' x σ' H3 _ hl' (E'.same sm3) rx' fun σ2 hl2 E2=>?_⟩
   have k3:aR ow' H' ow' H3:=aR.same sm3
   obtain ⟨f1,hbo,hf⟩:=aq hf
   refine ⟨ρ1,f1,hbo,ow',E2,hl2,B'.keep k3,?_⟩
   cases f1 with
   | nx ρ2=>exact fun ow2 σ3 H4 a b c=>⟨hlt,ow2,ρ2,a,b,(B'.keep k3).keep c,k'.trans (k3.trans c),hf⟩
   | ct ρ2=>exact fun ow2 σ3 H4 a b c=>⟨hlt,ow2,ρ2,a,b,(B'.keep k3).keep c,k'.trans (k3.trans c),hf⟩
   | bk ρ2=>cases aB hf;exact fun ow2 σ3 H4 a b c=>q' ow2 σ3 H4 a b (k3.trans c)
   | rt d=>cases aB hf;exact q'
 ·have ei:i=ds.length:=by omega
  subst ei
  rw [List.drop_length,cK] at hf
  cases aB hf
  exact .inl ⟨it.2 (Nat.le_refl _),q' ow' σ' H' E' hl' (aR.refl _ _)⟩
theorem vT {H0:Hp} {c:Expr} {body:List Stmt} {pos:Pos} {test:ae->Rs Bool} {bodyF:ae->Rs Fl} {fl:Fl} (hp:PassesOwn (model X.prog X.w) X.A X.env X.xe)
  (hc:∀ρ b,aa (test ρ) b->TD X ρ c b) (hb:∀ρ fl,aa (bodyF ρ) fl->fT X H0 ρ body fl) {n0:Nat} {ρ0:ae} (h:aa (mv test bodyF n0 ρ0) fl):SD X H0 ρ0 (.While c body [] pos) fl:=by
 intro pins s σ H D0 I ⟨ow,E,hl,B,q⟩
 have pc:PT X c (fun σ H Q => ∃ow ρ b,aa (test ρ) b/\xl X ow ρ b σ H Q):=fun pins s σ H Q I ⟨ow,ρ,b,h1,h2⟩=>hc ρ b h1 ow pins s σ H Q I h2
 have pb:cT X body (fun D σ H => ∃ρ fl,aa (bodyF ρ) fl/\tF X H0 ρ fl D σ H):=fun pins s σ H D I ⟨ρ1,fl1,h1,h2⟩=>hb ρ1 fl1 h1 pins s σ H D I h2
 refine v0 hp pc pb pins s σ H D0 I ?_
 refine ⟨fun m σ' H' => ∃ow' ρ',aG X ow' H' σ' ρ'/\σ'.length=X.N.length/\bI H0 ow' H'/\aR ow H ow' H'/\aa (mv test bodyF m ρ') fl,⟨n0,ow,ρ0,E,hl,B,aR.refl _ _,h⟩,?_⟩
 rintro m σ' H' ⟨ow',ρ',E',hl',B',k',hw⟩
 have q':ml X H0 ow' H' fl D0:=q.keep k'
 cases m with
 | zero=>exact (am hw).elim
 | succ m =>
  rw [mv] at hw
  obtain ⟨b,ht,hw⟩:=aq hw
  refine ⟨ow',ρ',b,ht,E',fun H1 s1=>?_⟩
  have k1:aR ow' H' ow' H1:=aR.same s1
  cases b with
  | false =>
   cases aB hw
   exact q' ow' σ' H1 (E'.same s1) hl' k1
  | true =>
   rw [cond_true] at hw
   show if true=true then _ else _
   rw [if_pos rfl]
   refine ⟨fun σ2 H2 => ∃ow2 ρ2,aG X ow2 H2 σ2 ρ2/\σ2.length=X.N.length/\bI H0 ow2 H2/\aR ow H ow2 H2/\aa (mv test bodyF m ρ2) fl,fun σ2 H2 z=>⟨m,Nat.lt_succ_self _,z⟩,?_⟩
   obtain ⟨f1,hbo,hw⟩:=aq hw
   refine ⟨ρ',f1,hbo,ow',E'.same s1,hl',B'.keep k1,?_⟩
   cases f1 with
   | nx ρ2=>exact fun ow2 σ3 H4 a b c=>⟨ow2,ρ2,a,b,(B'.keep k1).keep c,k'.trans (k1.trans c),hw⟩
   | ct ρ2=>exact fun ow2 σ3 H4 a b c=>⟨ow2,ρ2,a,b,(B'.keep k1).keep c,k'.trans (k1.trans c),hw⟩
   | bk ρ2=>cases aB hw;exact fun ow2 σ3 H4 a b c=>q' ow2 σ3 H4 a b (k1.trans c)
   | rt d=>cases aB hw;exact q'
theorem bX {Φ:Fx} {e:Expr} {it:Bool} {sc:Scope} {ρ:ae} {p:D×Nat} {X:Cx} (h:aa (ar Φ e it sc ρ) p) (G:aL Φ X sc):dY X ρ e it p.1 p.2:=let ⟨_,h,hp⟩:=h;E9 e h hp G
theorem uF {e:Expr} (h:gI e=true):(∃a b c d,e=.ListComp a b c d)\/∀(Φ:Fx) (sc:Scope) (ρ:ae),ar Φ e false sc ρ=.st:=by
 cases e <;> first|exact .inl ⟨_,_,_,_,rfl⟩ | exact .inr fun _ _ _=>rfl|cases h
theorem mB {Φ:Fx} {sc:Scope} {H0:Hp} {ρ:ae} {e:Expr} {x:Str} {p pos:Pos} {r:D×Nat} {o:Bool} (G:aL Φ X sc) (hx:b9 sc x=true) (h:aa (ar Φ e false sc ρ) r) (ho:(r.2=0/\o=true)\/(r.2=1/\o=false)) :
  SD X H0 ρ (.Assign [.Name x p] e pos) (.nx (bn ρ x (r.1,o))):=by
 by_cases hc:gI e=true
 ·rcases uF hc with ⟨elt,gens,scope,q,rfl⟩ | hno
  rotate_left
  ·rw [hno] at h;exact (am h).elim
  ·clear hc
   have hsw:∃b,swapsWith (.ListComp elt gens scope q) (some (.Name x p)) pos.line X.env=pure b:=⟨_,rfl⟩
   obtain ⟨b,hsw⟩:=hsw
   cases b with
   | false=>exact tZ G hx ((bX h G).ed rfl) ho hsw
   | true =>
    obtain ⟨l,h,hp⟩:=h
    obtain ⟨tg,iter,ifs,rfl⟩:=lN h
    obtain ⟨ds,f,k1,a1,a2,a3,a4,a5,a6,a7,a8,a9⟩:=pY (fH Φ _) (Nat.lt_succ_self _) h hp G
    obtain ⟨g1,g2,g3,i,g4⟩:=d8 G hx
    rw [a9]
    intro pins s σ H D0 I ⟨ow,E,hl,B,q⟩
    refine y8 (D0:=D0) (i:=i) G.calm G.nd a1 a2 a3 a4 a5 a6 a7 a8 I E hsw g4 g1 g3 fun v H1 s1 r1=>?_
    rcases ho with ⟨ho,rfl⟩ | ⟨ho,rfl⟩ <;> rw [ho] at r1
    ·obtain ⟨ow',E',k'⟩:=lW G.nd hl E s1 g4 g2 r1
     exact q ow' _ H1 E' (by rw [List.length_set];exact hl) k'
    ·exact q ow _ H1 (dy G.nd hl (E.same s1) g4 g2 r1) (by rw [List.length_set];exact hl) (aR.same s1)
 ·exact tZ G hx ((bX h G).ed rfl) ho (gj (by simpa using hc))
theorem pK {Φ:Fx} {e:Expr} {it:Bool} {sc:Scope} {ρ:ae} {r:D×Nat} (h:aa (ar Φ e it sc ρ) r):∀a b c p,e ≠ .Slice a b c p:=by
 intro a b c p z;subst z;exact (am h).elim
theorem oh {ρ:ae} {x:Str} {f:List D->Rs Fl} {fl:Fl} (h:aa (oj ρ x f) fl):∃l,ρ x=some (.lst l,true)/\eB x=true/\aa (f l) fl:=by
 unfold oj at h
 split at h
 ·rename_i l e
  split at h
  ·rename_i c
   exact ⟨l,e,c,h⟩
  ·exact (am h).elim
 ·exact (am h).elim
theorem jp {α:Type} {a b:α} {l:List Prop} (h:aa (.ok a l) b):a=b/\aA l:=by obtain ⟨m,h,hp⟩:=h;cases h;exact ⟨rfl,hp⟩
theorem nQ {ρ:ae} {x:Str} {i d:D} {fl:Fl} (h:aa (rg ρ x i d) fl):(∃l j l',ρ x=some (.lst l,true)/\ax l=true/\eB x=true/\i=.int j/\rq l j d=some l'/\d.lless=true/\fl=.nx (bn ρ x (.lst l',true)))\/False:=by
 unfold rg at h
 split at h
 ·rename_i l e
  split at h
  ·split at h
   ·rename_i hn
    split at h
    ·rename_i l' hs
     obtain ⟨h9,h1,h2,_⟩:=jp h
     exact .inl ⟨l,_,l',e,h1,hn,rfl,hs,h2,h9.symm⟩
    ·exact (am h).elim
   ·exact (am h).elim
  ·exact (am h).elim
 ·exact (am h).elim
 ·exact (am h).elim
theorem BE {Φ:Fx} {es:List Expr} {e:Expr} {n:Nat} {p pos:Pos} {sc:Scope} {ρ:ae} {fl:Fl} {X:Cx} {H0:Hp} (h:aa (nq Φ es e sc ρ) fl) (G:aL Φ X sc):SD X H0 ρ (.Assign [.Tuple es n p] e pos) fl:=by
 unfold nq at h
 split at h
 ·split at h
  ·rename_i hp
   obtain ⟨q,⟨lq,h1,hq⟩,h⟩:=aq h
   split at h
   ·rename_i u v hd
    split at h
    ·rename_i hf
     cases aB h
     obtain ⟨n1,_⟩:=cM h1 hq
     have c:=kX _ h1 hq G
     rw [hd] at c
     exact A4 G c hf hp (n1 _ (by simp)) (n1 _ (by simp))
    ·exact (am h).elim
   ·exact (am h).elim
  ·exact (am h).elim
 ·exact (am h).elim
theorem Dx {Φ:Fx} {tgs:List Expr} {e:Expr} {sc:Scope} {ρ:ae} {fl:Fl} {X:Cx} {H0:Hp} {pos:Pos} (h:aa (kW Φ tgs e sc ρ) fl) (G:aL Φ X sc):SD X H0 ρ (.Assign tgs e pos) fl:=by
 unfold kW at h
 split at h
 ·obtain ⟨p,h1,h⟩:=aq h
  unfold lE at h
  split at h
  ·rename_i hx
   split at h
   ·rename_i ho;cases aB h;exact mB G hx h1 (.inl ⟨ho,rfl⟩)
   ·rename_i ho;cases aB h;exact mB G hx h1 (.inr ⟨ho,rfl⟩)
   ·exact (am h).elim
  ·exact (am h).elim
 ·split at h
  ·exact BE h G
  ·rename_i ht
   have ht:=Bool.eq_false_iff.mpr ht
   obtain ⟨p,h1,h⟩:=aq h
   split at h
   ·rename_i ho
    cases aB h
    exact yR G ((bX h1 G).ed rfl) ho ht
   split at h
   ·rename_i ds hd
    split at h
    ·rename_i hf
     split at h
     ·rename_i ρ' hb
      cases aB h
      exact A1 G ((bX h1 G).ed rfl) hd hf hb ht
     ·exact (am h).elim
    ·exact (am h).elim
   ·exact (am h).elim
 ·split at h
  ·rename_i hc
   obtain ⟨p,h1,h⟩:=aq h
   obtain ⟨q,h2,h⟩:=aq h
   have c2:=(bX h2 G).ed rfl
   rcases nQ h with ⟨l,j,l',a1,a2,a3,hj,hs,hf,rfl⟩ | hF
   ·rw [hj] at c2
    exact vU a1 ((bX h1 G).ed rfl) c2 a2 hf a3 hs (pK h2)
   ·exact hF.elim
  ·exact (am h).elim
 ·exact (am h).elim
theorem lI {p:D×Nat} {f:Int->R1} {a:D×Nat} (h:aa (gW p f) a):∃b,p.1=.int b/\aa (f b) a:=by
 obtain ⟨l,h,hp⟩:=h
 obtain ⟨b,h1,h2⟩:=wv h
 exact ⟨b,h1,l,h2,hp⟩
theorem Dw {Φ:Fx} {t e:Expr} {op:Operator} {sc:Scope} {ρ:ae} {fl:Fl} {X:Cx} {H0:Hp} {pos:Pos} (h:aa (kU Φ t op e sc ρ) fl) (G:aL Φ X sc):SD X H0 ρ (.AugAssign t op e pos) fl:=by
 unfold kU at h
 split at h
 ·split at h
  ·rename_i hx
   split at h
   ·rename_i p hp
    obtain ⟨r,h1,h⟩:=aq h
    cases aB h
    obtain ⟨a,ha,h3⟩:=lI h1
    obtain ⟨q,h2,h4⟩:=aq h3
    obtain ⟨b,hb,h5⟩:=lI h4
    obtain ⟨l,h9,hpl⟩:=h5
    have c:=(bX h2 G).ed rfl
    rw [hb] at c
    obtain ⟨p1,p2⟩:=p
    have ha:p1=.int a:=ha
    subst ha
    exact A7 G hx hp c h9 hpl
   ·exact (am h).elim
  ·exact (am h).elim
 ·exact (am h).elim
theorem CD {Φ:Fx} {e:Expr} {sc:Scope} {ρ:ae} {fl:Fl} {X:Cx} {H0:Hp} {pos:Pos} (h:aa (g7 Φ e sc ρ) fl) (G:aL Φ X sc):SD X H0 ρ (.Expr e pos) fl:=by
 unfold g7 at h
 split at h
 ·split at h
  ·rename_i hln
   obtain ⟨p,⟨lp,h1,hp1⟩,h⟩:=aq h
   split at h
   ·rename_i M hM
    obtain ⟨l,a1,a3,h⟩:=oh h
    obtain ⟨l',⟨o,h2,hp2⟩,h⟩:=aq h
    cases aB h
    obtain ⟨n1,n2⟩:=cM h1 hp1
    exact A5 G.calm (G.mtt _ M hM) a1 (kX _ h1 hp1 G) n1 n2 a3 hln h2 hp2
   ·exact (am h).elim
  ·exact (am h).elim
 ·obtain ⟨p,h1,h⟩:=aq h
  cases aB h
  exact yS ((bX h1 G).ed rfl) ⟨_,_,_,_,_,rfl⟩
 ·exact (am h).elim
structure Is (Φ:Fx) (n:Nat):Prop where
 s:∀(st:Stmt) {sc:Scope} {ρ:ae} {fl:Fl} {X:Cx} {H0:Hp},sizeOf st < n->aa (ef Φ st sc ρ) fl->aL Φ X sc->PassesOwn (model X.prog X.w) X.A X.env X.xe->SD X H0 ρ st fl
 ss:∀(st:List Stmt) {sc:Scope} {ρ:ae} {fl:Fl} {X:Cx} {H0:Hp},sizeOf st < n->aa (ay Φ st sc ρ) fl->aL Φ X sc->PassesOwn (model X.prog X.w) X.A X.env X.xe->fT X H0 ρ st fl
theorem gE {p:D×Nat} {α:Type} {f:Bool->Rs α} {a:α} (h:aa (i5 p f) a):∃b,p.1=.bl b/\aa (f b) a:=by
 obtain ⟨l,h,hp⟩:=h
 obtain ⟨b,h1,h2⟩:=jA h
 exact ⟨b,h1,l,h2,hp⟩
theorem EY {Φ:Fx} {n:Nat} (I:Is Φ n) (st:Stmt) {sc:Scope} {ρ:ae} {fl:Fl} {X:Cx} {H0:Hp} (hs:sizeOf st < n+1) (h:aa (ef Φ st sc ρ) fl) (G:aL Φ X sc) (hp:PassesOwn (model X.prog X.w) X.A X.env X.xe):SD X H0 ρ st fl:=by
 cases st with
 | Return e p =>
  cases e with
  | none=>cases aB h;exact yO
  | some e =>
   obtain ⟨p,h1,h⟩:=aq (show aa (Rs.bnd _ _) fl from h)
   unfold rA at h
   split at h
   ·rename_i hk
    cases aB h
    unfold nY at h1
    cases hn:nj e with
    | true=>rw [hn] at h1;exact yP ((bX h1 G).ed rfl) hk
    | false=>rw [hn] at h1;exact A3 ((bX h1 G).ed rfl) hk
   ·exact (am h).elim
 | Pass p=>cases aB h;exact yQ
 | Break p=>cases aB h;exact vV
 | Continue p=>cases aB h;exact yT
 | Assign tgs e p=>exact Dx h G
 | AugAssign t op e p=>exact Dw h G
 | Expr e p=>exact CD h G
 | If c a b p =>
  obtain ⟨p,h1,h⟩:=aq (show aa (Rs.bnd _ _) fl from h)
  obtain ⟨t,ht,h⟩:=gE h
  refine Ea ((bX h1 G).td rfl t ht) ?_
  cases t with
  | true=>rw [if_pos rfl];exact I.ss _ (aU (by simp <;> omega) hs) h G hp
  | false=>rw [if_neg Bool.false_ne_true];exact I.ss _ (aU (by simp <;> omega) hs) h G hp
 | For tg it body els p =>
  rw [lT] at h
  split at h
  ·rename_i he
   have he:=List.isEmpty_iff.mp he
   subst he
   obtain ⟨p,h1,h⟩:=aq h
   split at h
   ·rename_i ds hd
    split at h
    ·rename_i hk
     obtain ⟨lq,h1',_⟩:=id h1
     exact A6 hp G.calm ((bX h1 G).ie rfl _ ds hd hk.2) hk.1 (fun d ρ ρ' hb=>nl G hb) (fun ρ1 f1 h2=>I.ss _ (aU (by simp <;> omega) hs) h2 G hp) h (iU h1')
    ·exact (am h).elim
   ·exact (am h).elim
  ·exact (am h).elim
 | While c body els p =>
  rw [uR] at h
  split at h
  ·rename_i he
   have he:=List.isEmpty_iff.mp he
   subst he
   refine vT hp (fun ρ b hb=>?_) (fun ρ1 f1 h2=>I.ss _ (aU (by simp <;> omega) hs) h2 G hp) h
   obtain ⟨p,h1,hb⟩:=aq hb
   obtain ⟨t,ht,hb⟩:=gE hb
   cases aB hb
   exact (bX h1 G).td rfl _ ht
  ·exact (am h).elim
 | _=>exact (am h).elim
theorem CC {Φ:Fx} {n:Nat} (I:Is Φ n) (ss:List Stmt) {sc:Scope} {ρ:ae} {fl:Fl} {X:Cx} {H0:Hp} (hs:sizeOf ss < n+1) (h:aa (ay Φ ss sc ρ) fl) (G:aL Φ X sc) (hp:PassesOwn (model X.prog X.w) X.A X.env X.xe):fT X H0 ρ ss fl:=by
 cases ss with
 | nil=>cases aB h;exact yH
 | cons s ss =>
  obtain ⟨f1,h1,h⟩:=aq (show aa (Rs.bnd _ _) fl from h)
  have c:=I.s s (H0:=H0) (aU (by simp <;> omega) hs) h1 G hp
  cases f1 with
  | nx ρ'=>exact jR c (I.ss ss (aU (by simp <;> omega) hs) h G hp)
  | bk ρ'=>cases aB h;exact jQ c (fun _ z=>(by cases z))
  | ct ρ'=>cases aB h;exact jQ c (fun _ z=>(by cases z))
  | rt d=>cases aB h;exact jQ c (fun _ z=>(by cases z))
theorem gH (Φ:Fx):∀n,Is Φ n
 | 0=>⟨fun _ _ _ _ _ _ h=>absurd h (Nat.not_lt_zero _),fun _ _ _ _ _ _ h=>absurd h (Nat.not_lt_zero _)⟩
 | n+1=>⟨fun e _ _ _ _ _ hs h G hp=>EY (gH Φ n) e hs h G hp,fun e _ _ _ _ _ hs h G hp=>CC (gH Φ n) e hs h G hp⟩
theorem fL {Φ:Fx} (ss:List Stmt) {sc:Scope} {ρ:ae} {fl:Fl} {X:Cx} {H0:Hp} (h:aa (ay Φ ss sc ρ) fl) (G:aL Φ X sc) (hp:PassesOwn (model X.prog X.w) X.A X.env X.xe):fT X H0 ρ ss fl:=(gH Φ _).ss ss (Nat.lt_succ_self _) h G hp
end Sp
namespace Sp
open PySem PySem.Spec PyProof.Rows L2
def aw (sc:Scope):List Str:=(sc.names.filter fun y=>y.2 == .local || y.2 == .cell).map (·.1)
def cV (P:Program) (w:World) (K:W.Frag) (mg:Str->Option Value) (base:Heap) (k:Nat) (g:Str) (F:List D->Rs D):Prop :=
 ∃f fd ps,bv P w K mg base cU k f fd ps (ii K F)/\mg g=some (.ref f)/\W.keepIn K (.ref f)=true/\bG K fd ps []/\(g==("__debug__" : Str))=false
theorem cV.mono {P:Program} {w:World} {K:W.Frag} {mg:Str->Option Value} {base:Heap} {j k:Nat} {g:Str} {F:List D->Rs D} (h:cV P w K mg base j g F) (hjk:j<=k):cV P w K mg base k g F :=
 let ⟨f,fd,ps,h1,h2⟩:=h;⟨f,fd,ps,h1.mono hjk,h2⟩
def yq (P:Program) (w:World) (K:W.Frag) (mg:Str->Option Value) (base:Heap) (k:Nat) (g:Str) (F:List D->Rs D):Prop :=
 ∃j C f fd ps,j+1<=k/\(∀ds r l,F ds=.ok r l->r.lless=true)/\Mk K C f/\bv P w K mg base cU j f fd ps (Fr K g F)/\mg g=some (.ref C)/\W.nsIn K mainGlobals g=some (some (.ref C))/\fV K C/\bG K fd ps []/\(g==("__debug__" : Str))=false
theorem yq.mono {P:Program} {w:World} {K:W.Frag} {mg:Str->Option Value} {base:Heap} {j k:Nat} {g:Str} {F:List D->Rs D} (h:yq P w K mg base j g F) (hjk:j<=k):yq P w K mg base k g F :=
 let ⟨i,C,f,fd,ps,h0,h1⟩:=h;⟨i,C,f,fd,ps,Nat.le_trans h0 hjk,h1⟩
def FH (P:Program) (w:World) (K:W.Frag) (mg:Str->Option Value) (base:Heap) (k:Nat) (g:Str) (F:List D->Rs D):Prop:=cV P w K mg base k g F\/yq P w K mg base k g F
def nA (P:Program) (w:World) (K:W.Frag) (mg:Str->Option Value) (base:Heap) (k:Nat) (n m:Str) (F:List D->Rs D):Prop :=
 ∃C f fd ps,W.nsIn K mainGlobals n=some (some (.ref C))/\fV K C/\DN K C m f/\bv P w K mg base cU k f fd ps (ii K F)/\bG K fd ps []
theorem nA.mono {P:Program} {w:World} {K:W.Frag} {mg:Str->Option Value} {base:Heap} {j k:Nat} {n m:Str} {F:List D->Rs D} (h:nA P w K mg base j n m F) (hjk:j<=k):nA P w K mg base k n m F :=
 let ⟨C,f,fd,ps,h1,h2,h3,h4,h5⟩:=h;⟨C,f,fd,ps,h1,h2,h3,h4.mono hjk,h5⟩
theorem pj:∀{ps:List Str} {ds:List D} {x:Str} {d:D} {o:Bool},b8 ps ds x=some (d,o)->o=false/\∃i:Nat,ps[i]?=some x/\ds[i]?=some d
 | [],ds,x,d,o,h=>by cases ds <;> cases h
 | p::ps,[],x,d,o,h=>by cases h
 | p::ps,y::ds,x,d,o,h=>by
  replace h:(if x=p then some (y,false) else b8 ps ds x)=some (d,o):=h
  by_cases e:x=p
  ·rw [if_pos e] at h
   cases h;subst e;exact ⟨rfl,0,rfl,rfl⟩
  ·rw [if_neg e] at h
   obtain ⟨h1,i,h2,h3⟩:=pj h
   exact ⟨h1,i+1,by simpa using h2,by simpa using h3⟩
structure pB (P:Program) (w:World) (K:W.Frag) (mg:Str->Option Value) (base:Heap) (k:Nat) (Φ:Fx):Prop where
 fn:∀g F,Φ.fn g=some F->FH P w K mg base k g F
 con:∀x d,Φ.con x=some d->∃v u,mg x=some u/\aM v u/\∀H P,af K H P d v
 blt:∀f B,Φ.blt f=some B->cX f B
 itr:∀f B,Φ.itr f=some B->lz f B
 mth:∀m M,Φ.mth m=some M->gi m M
 mtt:∀m M,Φ.mtt m=some M->jC m M
 slf:nv Φ.slf
 fld:∀n f,Φ.fld n f=true->∀C,W.nsIn K mainGlobals n=some (some (.ref C))->ly K C f
 omt:∀n m F,Φ.omt n m=some F->nA P w K mg base k n m F
 bl:∀n∈fQ,mg n=none
def cS (Φ:Fx) (sc:Scope) (ps:List Str) (body:List Stmt) (F:List D->Rs D):Prop:=∀ds r,aa (F ds) r->aa (ci Φ sc ps body ds) r
theorem cS.self {Φ:Fx} {sc:Scope} {ps:List Str} {body:List Stmt}:cS Φ sc ps body (ci Φ sc ps body):=fun _ _ h=>h
theorem jw {P:Program} {w:World} {K:W.Frag} {mg:Str->Option Value} {base:Heap} {k:Nat} {qual:Str} {st:Stmt} {f:Addr} {ps:List Str} {Φ:Fx} {cdv:Value} {A:Around} {outer:List Env} {s:Shared} {H:Hp} {E:XK}
  (S:aQ (aw (ac st)) ps (ac st)) (hΦ:pB P w K mg base k Φ) (hr:bu k (A.deeper (envOfC qual (ac st) s.heap.objs.size f cdv))) :
  aL Φ (cW cU P w K mg base (aw (ac st)) qual (ac st) f cdv A outer s H E).nox (ac st):=by
 have hun:=hr.un
 refine ⟨rfl,S.nd,fun x hx=>hx,fun x hx=>hx,fun x hx=>hx,fun x hx=>hx,fun g' F' hg=>?_,hΦ.con,hΦ.blt,hΦ.itr,hΦ.mth,hΦ.mtt,hΦ.slf,hΦ.fld,fun n m F hF=>?_,hΦ.bl,?_,fun x hx=>?_,fun x _=>rfl⟩
 ·rcases hΦ.fn g' F' hg with z|z
  ·obtain ⟨f',fd',ps',a1,a2,a3,a4,a5⟩:=z
   exact .inl ⟨k,f',fd',ps',a1,hr,a2,a3,a4,a5⟩
  ·obtain ⟨j,C,f',fd',ps',a0,a1,a2,a3,a4⟩:=z
   exact .inr ⟨j,C,f',fd',ps',a1,a2,a3,hr.mono a0,a4⟩
 ·obtain ⟨C,f',fd',ps',a1,a2,a3,a4,a5⟩:=hΦ.omt n m F hF
  exact ⟨k,C,f',fd',ps',a1,a2,a3,a4,hr,a5⟩
 ·show (A.deeper _).units+70 < cLine
  omega
 ·show x∈aw (ac st)
  unfold aw
  unfold b9 at hx
  rw [Bool.or_eq_true] at hx
  rcases hx with hx|hx
  ·have hx:(ac st).names.lookup x=some .local:=by simpa using hx
   exact List.mem_map.mpr ⟨(x,.local),List.mem_filter.mpr ⟨PySem.mem_of_lookup hx,by simp⟩,rfl⟩
  ·have hx:(ac st).names.lookup x=some .cell:=by simpa using hx
   exact List.mem_map.mpr ⟨(x,.cell),List.mem_filter.mpr ⟨PySem.mem_of_lookup hx,by simp⟩,rfl⟩
theorem kZ {P:Program} {w:World} {K:W.Frag} {mg:Str->Option Value} {base:Heap} {qual:Str} {st:Stmt} {f:Addr} {ps:List Str} {cdv:Value} {A:Around} {outer:List Env} {s:Shared} {H:Hp} {E:XK} {ds:List D} {vs:List V}
  (S:aQ (aw (ac st)) ps (ac st)) (h1:ag K H (fun _ _=>True) ds vs) (hl:ds.length=ps.length) :
  aG (cW cU P w K mg base (aw (ac st)) qual (ac st) f cdv A outer s H E).nox (fun _=>none) H (start (aw (ac st)) vs) (b8 ps ds)/\(start (aw (ac st)) vs).length=(aw (ac st)).length:=by
 have hpl:ps.length<=(aw (ac st)).length:=by have:=congrArg List.length S.pre;rw [List.length_take] at this;omega
 have hvl:vs.length=ps.length:=by rw [<- h1.length];exact hl
 refine ⟨⟨fun x d o hx=>?_,fun a ha=>absurd rfl ha⟩,by unfold L2.start;rw [List.length_append,List.length_map,List.length_replicate];omega⟩
 obtain ⟨rfl,i,i1,i2⟩:=pj hx
 obtain ⟨v,i3,i4⟩:=h1.get i2
 have hi:i < ps.length:=(List.getElem?_eq_some_iff.mp i1).1
 refine ⟨i,v,?_,?_,?_,i4.imp fun a b _ _=>rfl⟩
 ·show (aw (ac st))[i]?=some x
  rw [<- S.pre,List.getElem?_take_of_lt hi] at i1
  exact i1
 ·rcases S.par x (List.mem_of_getElem? i1) with z|z
  ·exact .inl z
  ·exact .inr (.inl z)
 ·unfold L2.start
  rw [List.getElem?_append_left (by rw [List.length_map];omega),List.getElem?_map,i3];rfl
theorem qE {P:Program} {w:World} {K:W.Frag} {mg:Str->Option Value} {base:Heap} {k:Nat} {g qual:Str} {st:Stmt} {f:Addr} {fd:FuncData} {ps:List Str} {F:List D->Rs D} {Φ:Fx} (Fn:iz K g qual st f fd)
  (S:aQ (aw (ac st)) ps (ac st)) (hΦ:pB P w K mg base k Φ)
  (hrun:cS Φ (ac st) ps (ak st) F):bv P w K mg base cU (k+1) f fd ps (ii K F):=by
 refine Fn.ok S (fun vs H Q E h=>?_) (fun cdv A outer s H vs Q E hr h=>?_)
 ·obtain ⟨ds,r,l,h1,h2,hp,_⟩:=h
  have:=hrun ds r ⟨l,h2,hp⟩
  unfold ci at this
  split at this
  ·rename_i hl;rw [<- h1.length];exact hl
  ·exact (am this).elim
 ·obtain ⟨ds,r,l,h1,h2,hp,q⟩:=h
  have hr1:=hrun ds r ⟨l,h2,hp⟩
  unfold ci at hr1
  split at hr1
  ·rename_i hl
   have G:=jw (outer:=outer) (H:=H) (E:=E) S hΦ hr
   obtain ⟨E0,hsl⟩:=kZ (P:=P) (w:=w) (mg:=mg) (base:=base) (qual:=qual) (f:=f) (cdv:=cdv) (A:=A) (outer:=outer) (s:=s) (E:=E) S h1 hl
   have B0:bI H (fun _=>none) H:=fun a o h=>⟨h,rfl⟩
   obtain ⟨fl,hx,hr1⟩:=aq hr1
   cases fl with
   | rt d =>
    cases aB hr1
    exact ⟨_,fL _ (H0:=H) hx G PassesOwn.never,fun _=>none,E0,hsl,B0,fun v H' sm rp=>q v H' sm rp⟩
   | nx ρ' =>
    cases aB hr1
    exact ⟨_,fL _ (H0:=H) hx G PassesOwn.never,fun _=>none,E0,hsl,B0,fun ow' σ' H' _ _ kp=>q .non H' (fun a o h=>kp.keep a o h (.inr rfl)) (by rw [af])⟩
   | bk ρ'=>exact (am hr1).elim
   | ct ρ'=>exact (am hr1).elim
  ·exact (am hr1).elim
mutual
def D.noObj:D->Bool
 | .obj _ _ _=>false
 | .tup l=>gF l
 | .lst l=>gF l
 | .dct _ l=>gF l
 | _=>true
def gF:List D->Bool
 | []=>true
 | d::l=>d.noObj&&gF l
end
mutual
theorem af.off {K:W.Frag} {P:aZ} {H H':Hp} {x C dx:Addr} {fs:List (Str×V)} (hx:H x=some (.ins C dx fs)) (s:∀a o,a≠x->H a=some o->H' a=some o):∀{d:D} {v:V},d.noObj=true->af K H P d v->af K H' P d v
 | .non,v,_,h=>by rw [af] at h ⊢;exact h
 | .bl b,v,_,h=>by rw [af] at h ⊢;exact h
 | .int i,v,_,h=>by rw [af] at h ⊢;exact h
 | .str x,v,_,h=>by rw [af] at h ⊢;exact h
 | .dct ks es,v,f,h=>by
  rw [af] at h ⊢
  obtain ⟨f0,e0,a,vs,e,h1,p,r⟩:=h
  exact ⟨f0,e0,a,vs,e,s _ _ (fY h1 hx (fun z=>nomatch z)) h1,p,ag.off hx s (by rw [D.noObj] at f;exact f) r⟩
 | .typ n,v,_,h=>by rw [af] at h ⊢;exact h
 | .sn n,v,_,h=>by
  rw [af] at h ⊢
  obtain ⟨a,S,e,h⟩:=h
  exact ⟨a,S,e,s _ _ (fY h hx (fun z=>nomatch z)) h⟩
 | .obj n ns ds,v,f,h=>by rw [D.noObj] at f;cases f
 | .cls n,v,_,h=>by rw [af] at h ⊢;exact h
 | .xc n p,v,_,h=>by rw [af] at h ⊢;exact h.mono (fun a C od z=>s _ _ (fY z hx (fun z=>nomatch z)) z) (fun a fs z=>s _ _ (fY z hx (fun z=>nomatch z)) z)
 | .tup l,v,f,h=>by
  rw [af] at h ⊢
  obtain ⟨a,vs,e,h,r⟩:=h
  refine ⟨a,vs,e,?_,ag.off hx s (by rw [D.noObj] at f;exact f) r⟩
  rcases h with (h | ⟨o,h⟩) | h
  ·exact .inl (.inl (s _ _ (fY h hx (fun z=>nomatch z)) h))
  ·exact .inl (.inr ⟨o,s _ _ (fY h hx (fun z=>nomatch z)) h⟩)
  ·exact .inr h
 | .lst l,v,f,h=>by
  rw [af] at h ⊢
  obtain ⟨a,vs,b,e,h,p,r⟩:=h
  refine ⟨a,vs,b,e,?_,p,ag.off hx s (by rw [D.noObj] at f;exact f) r⟩
  cases b with
  | true=>exact s _ _ (fY h hx (fun z=>nomatch z)) h
  | false =>
   rcases h with ⟨o,h⟩ | h
   ·exact .inl ⟨o,s _ _ (fY h hx (fun z=>nomatch z)) h⟩
   ·exact .inr h
theorem ag.off {K:W.Frag} {P:aZ} {H H':Hp} {x C dx:Addr} {fs:List (Str×V)} (hx:H x=some (.ins C dx fs)) (s:∀a o,a≠x->H a=some o->H' a=some o):∀{l:List D} {vs:List V},gF l=true->ag K H P l vs->ag K H' P l vs
 | [],vs,_,h=>by rw [ag] at h ⊢;exact h
 | d::l,vs,f,h=>by
  rw [ag] at h ⊢
  rw [gF,Bool.and_eq_true] at f
  obtain ⟨v,r,e,h1,h2⟩:=h
  exact ⟨v,r,e,af.off hx s f.1 h1,ag.off hx s f.2 h2⟩
end
def jz (s:Stmt) (j:Nat):Stmt:=(match s with | .ClassDef _ _ _ b _ _ _ _ _ _ _=>b|_=>[]).getD j (.Pass ⟨0,0,0,0⟩)
theorem b4 {P:Program} {w:World} {K:W.Frag} {mg:Str->Option Value} {base:Heap} {k:Nat} {g qual:Str} {st:Stmt} {f:Addr} {fd:FuncData} {ps:List Str} {F:List D->Rs D} {Φ:Fx} (Fn:iz K g qual st f fd)
  (S:aQ (aw (ac st)) ps (ac st)) (hm:mg g=some (.ref f)) (hb:bG K fd ps []) (hd:(g==("__debug__" : Str))=false)
  (hΦ:pB P w K mg base k Φ) (hrun:cS Φ (ac st) ps (ak st) F):cV P w K mg base (k+1) g F :=
 ⟨f,fd,ps,qE Fn S hΦ hrun,hm,Fn.kp,hb,hd⟩
theorem aj {α:Type} {Pr:α->Prop} {x:α} {l:List α} (h1:Pr x) (h2:∀y∈l,Pr y):∀y∈x::l,Pr y:=fun y hy=>(List.mem_cons.mp hy).elim (fun e=>e ▸ h1) (h2 y)
theorem aC {α:Type} {Pr:α->Prop}:∀y∈([]:List α),Pr y:=fun y hy=>by cases hy
theorem Cp {K:W.Frag} {H:Hp} {a:Addr} {ns:List Int} {F:List D->Rs D} (hO:sM H) (hS:bR K H a (ns.map V.int)) (h:aa (F [.lst (ns.map D.int)]) (.bl true)):ii K F [.ref a] H (fun v _=>v=.bl true) fun _ _ _=>False:=by
 obtain ⟨l,h,hp⟩:=h
 refine ⟨[.lst (ns.map D.int)],.bl true,l,ag.one ?_,h,hp,fun v H' _ r=>by rw [af] at r;exact r⟩
 rw [af]
 rcases hS with (hS|hS) | hS
 ·rcases hO a with z | ⟨o,xs,z⟩
  ·rw [z] at hS;cases hS
  ·rw [z] at hS;cases hS
 ·exact ⟨a,_,false,rfl,.inl hS,True.intro,ag.ofInts⟩
 ·exact ⟨a,_,false,rfl,.inr hS,True.intro,ag.ofInts⟩
abbrev yt (P:Program) (w:World) (K:W.Frag) (mg:Str->Option Value) (base:Heap) (k:Nat):Str×(List D->Rs D)->Prop:=fun p=>FH P w K mg base k p.1 p.2
abbrev du (mg:Str->Option Value) (K:W.Frag):Str×D->Prop:=fun p => ∃v u,mg p.1=some u/\aM v u/\∀H P,af K H P p.2 v
abbrev gz:Str×(List D->R1)->Prop:=fun p=>cX p.1 p.2
abbrev sQ:Str×(List D->Nat->R1)->Prop:=fun p=>lz p.1 p.2
abbrev kh:Str×(D->List D->R1)->Prop:=fun p=>gi p.1 p.2
abbrev sP:Str×(List D->List D->Nat->Rs (List D))->Prop:=fun p=>jC p.1 p.2
theorem bH {P:Program} {w:World} {K:W.Frag} {mg:Str->Option Value} {base:Heap} {k:Nat} {l:List (Str×(List D->Rs D))} {c:List (Str×D)} {b:List (Str×(List D->R1))} {i:List (Str×(List D->Nat->R1))} {m:List (Str×(D->List D->R1))} {t:List (Str×(List D->List D->Nat->Rs (List D)))} {sf:D->Option Int->Option Int->R1}
  (hl:∀p∈l,yt P w K mg base k p) (hc:∀p∈c,du mg K p) (hb:∀p∈b,gz p) (hi:∀p∈i,sQ p) (hm:∀p∈m,kh p) (ht:∀p∈t,sP p) (hs:nv sf) (hn:∀n∈fQ,mg n=none):pB P w K mg base k (Tb l c b i m t sf) :=
 ⟨fun g F h=>hl (g,F) (PySem.mem_of_lookup h),fun x d h=>hc (x,d) (PySem.mem_of_lookup h),fun f B h=>hb (f,B) (PySem.mem_of_lookup h),fun f B h=>hi (f,B) (PySem.mem_of_lookup h),fun f B h=>hm (f,B) (PySem.mem_of_lookup h),fun f B h=>ht (f,B) (PySem.mem_of_lookup h),hs,(fun _ _ h=>by cases h),(fun _ _ _ h=>by cases h),hn⟩
theorem Ah {mg:Str->Option Value} {K:W.Frag} {x y:Str} {t:Tok} (hm:mg x=some (.str y t)):du mg K (x,.str y):=⟨.str y,.str y t,hm,⟨t,rfl⟩,fun H P=>by rw [af]⟩
theorem qK {mg:Str->Option Value} {K:W.Frag} {x:Str} {y:Int} {t:Tok} (hm:mg x=some (.int y t)):du mg K (x,.int y):=⟨.int y,.int y t,hm,⟨t,rfl⟩,fun H P=>by rw [af]⟩
end Sp
namespace Sp
open PySem PySem.Spec PyProof.Rows L2
open AutoSeq1 (wpAny_loadPart')
theorem CO (tu:Addr) (vs:Array Value) (n:Nat) (dc:Option Addr) (so:Array (Option Value)) :
  Meets (Builtin.«enumerate.__new__» ⟨[.type "enumerate", .ref tu],[]⟩) (fun _ R st=>st.heap.get? tu=some { cls:=.type "tuple", dict:=dc,data:=.seq vs n,slots:=so } /\
   R (.ok (.ret (.ref (st.heap.push { cls:=.type "tuple_iterator", data:=.fields #[.ref tu,.int 0 0] }).objs.size)))
    { st with heap:=(st.heap.push { cls:=.type "tuple_iterator", data:=.fields #[.ref tu,.int 0 0] }).push { cls:=.type "enumerate", data:=.fields #[.none,.bool false,.ref st.heap.objs.size,rawInt 0,.none,.none] } }) :=
 .of_wp fun pg wd AA RR st hh=>by
  obtain ⟨hp0,gg,dd,tk0,oo⟩:=st;obtain ⟨htu,hh⟩:=hh
  have hsub0:=sub_enumerate
  have hTT:Heap.IsTuple (Shared.heap ⟨hp0,gg,dd,tk0,oo⟩) tu vs:=⟨_,htu,rfl,n,rfl⟩
  wp_walk using wpAny_loadPart' htu
  refine wpAny_stack_any fun stk0=>wpAny_pure ?_
  split
  ·rename_i c0 _ _ _ _ _
   cases (c0==Value.type "enumerate")
   ·wp_walk using wpAny_loadPart' htu,wpAny_pyIter_tuple hTT
    exact ⟨_,rfl,hh⟩
   ·wp_walk using wpAny_loadPart' htu,wpAny_pyIter_tuple hTT
    exact ⟨_,rfl,hh⟩
  ·wp_walk using wpAny_loadPart' htu,wpAny_pyIter_tuple hTT
   exact ⟨_,rfl,hh⟩
section
variable {prog:Program} {w:World} {A:Around} {E:Value->Shared->Prop} {s:Shared}
theorem zX {tu:Addr} {vs:Array Value} {Q:Value->Shared->Prop} (hT:s.heap.IsTuple tu vs)
  (go:∀h1,IsEnum h1 (s.heap.objs.size+1) s.heap.objs.size 0 .none->h1.IsTupleIter s.heap.objs.size tu 0->h1.objs.size=s.heap.objs.size+2->(∀b o,s.heap.get? b=some o->h1.get? b=some o)->Q (.ref (s.heap.objs.size+1)) { s with heap:=h1 }) :
  wpAny (model prog w) A (call (.type "enumerate") [.ref tu]) Q E s:=by
 obtain ⟨⟨cc,dc,dt,so⟩,htu,hcc,n,hdd⟩:=hT
 replace hcc:cc=.type "tuple" := hcc
 replace hdd:dt=.seq vs n:=hdd
 subst hcc hdd
 refine callType_new F.called_enumerate (by decide) (F.typeCall_enumerate_1 _) (F.newCall_enumerate_1 _) (fun ob=>F.args_object_init_2 ob _) F.entry_enumerate_new (CO tu vs n dc so) ⟨htu,?_⟩
 have sz:(s.heap.push { cls:=.type "tuple_iterator", data:=.fields #[.ref tu,.int 0 0] }).objs.size=s.heap.objs.size+1:=Heap.size_push ..
 show _/\_
 rw [sz]
 have isE:IsEnum ((s.heap.push { cls:=.type "tuple_iterator", data:=.fields #[.ref tu,.int 0 0] }).push { cls:=.type "enumerate", data:=.fields #[.none,.bool false,.ref s.heap.objs.size,rawInt 0,.none,.none] }) (s.heap.objs.size+1) s.heap.objs.size 0 .none:=by
  have q:=Heap.get?_push_size (s.heap.push { cls:=.type "tuple_iterator", data:=.fields #[.ref tu,.int 0 0] }) (o:={ cls:=.type "enumerate", data:=.fields #[.none,.bool false,.ref s.heap.objs.size,rawInt 0,.none,.none] }) rfl
  rw [sz] at q;exact q
 refine ⟨⟨_,isE,rfl⟩,go _ isE ⟨_,Heap.get?_push_of_some _ (Heap.get?_push_size _ rfl),rfl,rfl⟩ (by rw [Heap.size_push,sz]) fun b o z=>Heap.get?_push_of_some _ (Heap.get?_push_of_some _ z)⟩
theorem yD {it tu:Addr} {i:Nat} {vs:Array Value} {x:Value} {Q:Value->Shared->Prop} (hIt:s.heap.IsTupleIter it tu i) (hT:s.heap.IsTuple tu vs) (hx:vs[i]?=some x)
  (go:∀h1,h1.IsTupleIter it tu (i+1)->Heap.SameBut it s.heap h1->Q x { s with heap:=h1 }):wpAny (model prog w) A (Builtin.SmallTypes.nextOf (.ref it)) Q E s:=by
 have key:=wpAny_pyNext_tuple_item (prog:=prog) (w:=w) (A:=A) (E:=E) (Q:=fun r s1 => ∃v,r=some v/\Q v s1) hIt hT hx (fun h1 a b=>⟨x,rfl,go h1 a b⟩)
 obtain ⟨o,ho,hc,hd⟩:=id hIt
 obtain ⟨ot,hot,_,nt,hdt⟩:=hT
 unfold Builtin.SmallTypes.nextOf
 refine wpAny_bind (wpAny_callSpecial?_slot (name:=Str.ofString "__next__") hIt.typeIs F.slot_tuple_iterator_next (wpAny_call_entry F.slot_tuple_iterator_next hIt.typeIs F.entry_tuple_iterator_next ?_ (F.args_tuple_iterator_next_1 _)))
 show wpAny _ _ (field (.ref it) 0 >>= _) _ _ s
 refine wpAny_bind (wpAny_field ho hd (x:=.ref tu) rfl ?_)
 show wpAny _ _ (if (Value.ref tu==Value.none)=true then _ else _) _ _ s
 rw [if_neg (show ¬ ((Value.ref tu==Value.none)=true) from Bool.false_ne_true)]
 show wpAny _ _ (field (.ref it) 1 >>= _) _ _ s
 refine wpAny_bind (wpAny_field ho hd (x:=Value.int (i:Int) 0) rfl ?_)
 show wpAny _ _ (seqItems? (.ref tu) >>= _) _ _ s
 refine wpAny_bind (wpAny_seqItems hot hdt ?_)
 simp only [Int.toNat_natCast,hx]
 refine wpAny_bind (wpAny_setField ho hd (by simp) (wpAny_pure ⟨x,rfl,wpAny_pure (go _ ?_ (Heap.SameBut.update ..))⟩))
 refine ⟨_,Heap.get?_update_self _ ho (Obj.isFreed_of_fields (Obj.data_mapFields hd _)),(Obj.cls_mapFields ..).trans hc,?_⟩
 rw [Obj.data_mapFields hd];simp [rawInt]
theorem AI {it tu:Addr} {i:Nat} {vs:Array Value} {Q:Value->Shared->Prop} (hh:A.handled=none) (hIt:s.heap.IsTupleIter it tu i) (hT:s.heap.IsTuple tu vs) (hx:vs[i]?=none)
  (go:∀h1 x,Heap.ExtBut it s.heap h1->(∃o,h1.get? x=some o/\o.cls=.type "StopIteration")->E (.ref x) { s with heap:=h1 }):wpAny (model prog w) A (Builtin.SmallTypes.nextOf (.ref it)) Q E s:=by
 obtain ⟨o,ho,hc,hd⟩:=id hIt
 obtain ⟨ot,hot,_,nt,hdt⟩:=hT
 unfold Builtin.SmallTypes.nextOf
 refine wpAny_bind (wpAny_callSpecial?_slot (name:=Str.ofString "__next__") hIt.typeIs F.slot_tuple_iterator_next (wpAny_call_entry F.slot_tuple_iterator_next hIt.typeIs F.entry_tuple_iterator_next ?_ (F.args_tuple_iterator_next_1 _)))
 show wpAny _ _ (field (.ref it) 0 >>= _) _ _ s
 refine wpAny_bind (wpAny_field ho hd (x:=.ref tu) rfl ?_)
 show wpAny _ _ (if (Value.ref tu==Value.none)=true then _ else _) _ _ s
 rw [if_neg (show ¬ ((Value.ref tu==Value.none)=true) from Bool.false_ne_true)]
 show wpAny _ _ (field (.ref it) 1 >>= _) _ _ s
 refine wpAny_bind (wpAny_field ho hd (x:=Value.int (i:Int) 0) rfl ?_)
 show wpAny _ _ (seqItems? (.ref tu) >>= _) _ _ s
 refine wpAny_bind (wpAny_seqItems hot hdt ?_)
 simp only [Int.toNat_natCast,hx]
 refine wpAny_bind (wpAny_rule (wpAny_bind (wpAny_setField ho hd (by simp) ?_)))
 show wpAny _ _ (newExc (.type "StopIteration") [] >>= _) _ _ _
 refine wpAny_bind ?_
 simp only [newExc,newTuple]
 refine wpAny_bind (wpAny_newObj_type ?_ (by size_fits))
 refine wpAny_bind (m:=firstArgMember _ _) (wpAny_of_eq (a:=Value.none) (by first|rfl | (simp only [firstArgMember] <;> rfl)) ?_)
 refine wpAny_newObj_type ?_ (by size_fits)
 simp only [raiseNew]
 refine wpAny_bind (wpAny_handled ?_)
 first|rw [show A.in1.handled=none from hh] | rw [hh]
 refine wpAny_bind (wpAny_pure (wpAny_throw ?_))
 exact go _ _ (((Heap.SameBut.update ..).extBut.push _).push _) ⟨_,Heap.get?_push_size _ rfl,rfl⟩
theorem qJ {e it:Addr} {i:Nat} {x old:Value} {Q:Value->Shared->Prop} {Kn:Heap->Prop} (isE:IsEnum s.heap e it i old) (hne:e≠it)
  (stay:∀h1 h2:Heap,Kn h1->(∀o,h1.get? it=some o->h2.get? it=some o)->Kn h2)
  (inner:∀(Q1:Value->Shared->Prop),(∀h1,Kn h1->Heap.SameBut it s.heap h1->Q1 x { s with heap:=h1 })->wpAny (model prog w) A.in1 (Builtin.SmallTypes.nextOf (.ref it)) Q1 E s)
  (go:∀h1,IsEnumOut h1 e it ((i:Int)+1) x s.heap.objs.size->Kn h1->h1.get? s.heap.objs.size=some { cls:=.type "tuple", data:=.seq #[.int i s.toks,x] }->(∀b o,b≠e->b≠it->s.heap.get? b=some o->h1.get? b=some o)->Q (.ref s.heap.objs.size) { s with heap:=h1,toks:=s.toks+1 }) :
  wpAny (model prog w) A.in1 (Builtin.«enumerate.__next__» ⟨[.ref e],[]⟩) (fun fin s' => ∃v,fin=.done (.ret v)/\Q v s') E s:=by
 obtain ⟨h0,gg,dd,t0,oo⟩:=s
 have elt:e < h0.objs.size:=Heap.lt_size isE
 show wpAny _ _ (field (.ref e) 2 >>= _) _ _ _
 refine wpAny_bind (wpAny_field isE rfl (x:=Value.ref it) rfl (wpAny_bind (inner _ fun h1 k1 b1=>?_)))
 have b1':Heap.SameBut it h0 h1:=b1
 have E1:IsEnum h1 e it i old:=(b1'.2 e hne).trans isE
 show wpAny _ _ (field (.ref e) 3 >>= _) _ _ ⟨h1,gg,dd,t0,oo⟩
 refine wpAny_bind (wpAny_field E1 rfl (x:=rawInt (i:Int)) rfl ?_)
 show wpAny _ _ (field (.ref e) 4 >>= _) _ _ ⟨h1,gg,dd,t0,oo⟩
 refine wpAny_bind (wpAny_field E1 rfl (x:=Value.none) rfl ?_)
 show wpAny _ _ (mkInt i >>= _) _ _ ⟨h1,gg,dd,t0,oo⟩
 refine wpAny_bind (wpAny_mkInt ?_)
 show wpAny _ _ (setField (.ref e) 3 (rawInt ((i:Int)+1)) >>= _) _ _ ⟨h1,gg,dd,t0+1,oo⟩
 refine wpAny_bind (wpAny_setField_rec E1 (by simp) fun h2 E2 b2=>?_)
 have b2':Heap.SameBut e h1 h2:=b2
 have E2':IsEnum h2 e it ((i:Int)+1) old:=E2
 show wpAny _ _ (setField (.ref e) 4 .none >>= _) _ _ ⟨h2,gg,dd,t0+1,oo⟩
 refine wpAny_bind (wpAny_setField_rec E2' (by simp) fun h3 E3 b3=>?_)
 have b3':Heap.SameBut e h2 h3:=b3
 have E3':IsEnum h3 e it ((i:Int)+1) old:=E3
 show wpAny _ _ (newTuple [.int i t0,x] >>= _) _ _ ⟨h3,gg,dd,t0+1,oo⟩
 refine wpAny_bind (wpAny_newTuple ?_)
 have z3:h3.objs.size=h0.objs.size:=by rw [b3'.1,b2'.1,b1'.1]
 have E4:IsEnum (h3.push { cls:=.type "tuple", data:=.seq #[.int i t0,x] }) e it ((i:Int)+1) old:=Heap.get?_push_of_some _ E3'
 have T4:(h3.push { cls:=.type "tuple", data:=.seq #[.int i t0,x] }).get? h0.objs.size=some { cls:=.type "tuple", data:=.seq #[.int i t0,x] }:=by rw [<- z3];exact Heap.get?_push_size _ rfl
 have K4:∀b o,b≠e->b≠it->h0.get? b=some o->(h3.push { cls:=.type "tuple", data:=.seq #[.int i t0,x] }).get? b=some o:=fun b o n1 n2 q=>Heap.get?_push_of_some _ (b3'.extBut b o n1 (b2'.extBut b o n1 (b1'.extBut b o n2 q)))
 have N4:Kn (h3.push { cls:=.type "tuple", data:=.seq #[.int i t0,x] }):=stay h1 _ k1 fun o q=>Heap.get?_push_of_some _ (b3'.extBut it o (Ne.symm hne) (b2'.extBut it o (Ne.symm hne) q))
 rw [z3]
 generalize h3.push { cls:=.type "tuple", data:=.seq #[.int i t0,x] }=h4 at E4 T4 K4 N4
 show wpAny _ _ (Builtin.SmallTypes.ownedTupleIsFree (.ref e) >>= _) _ _ ⟨h4,gg,dd,t0+1,oo⟩
 refine wpAny_bind ?_
 unfold Builtin.SmallTypes.ownedTupleIsFree
 refine wpAny_bind (wpAny_field E4 rfl (x:=Value.none) rfl (wpAny_pure ?_))
 simp only [if_true]
 refine wpAny_bind (wpAny_rule (wpAny_bind (wpAny_field E4 rfl (x:=old) rfl ?_)))
 refine wpAny_bind (wpAny_setField_rec E4 (by simp) fun h5 E5 b5=>?_)
 have b5':Heap.SameBut e h4 h5:=b5
 have E5':IsEnum h5 e it ((i:Int)+1) x:=E5
 show wpAny _ _ (Builtin.SmallTypes.ownedTupleHandOut (.ref e) (.ref h0.objs.size) >>= _) _ _ ⟨h5,gg,dd,t0+1,oo⟩
 refine wpAny_bind ?_
 unfold Builtin.SmallTypes.ownedTupleHandOut
 refine wpAny_bind (wpAny_setField_rec E5' (by simp) fun h6 E6 b6=>?_)
 have b6':Heap.SameBut e h5 h6:=b6
 have E6':IsEnumOut h6 e it ((i:Int)+1) x h0.objs.size:=E6
 refine wpAny_setField_rec E6' (by simp) fun h7 E7 b7=>?_
 have b7':Heap.SameBut e h6 h7:=b7
 have E7':IsEnumOut h7 e it ((i:Int)+1) x h0.objs.size:=E7
 have far:∀b o,b≠e->h4.get? b=some o->h7.get? b=some o:=fun b o n1 q=>b7'.extBut b o n1 (b6'.extBut b o n1 (b5'.extBut b o n1 q))
 refine wpAny_bind (wpAny_letGo (wpAny_pure ⟨_,rfl,go h7 E7' ?_ (far _ _ (Nat.ne_of_gt elt) T4) fun b o n1 n2 q=>far b o n1 (K4 b o n1 n2 q)⟩))
 exact stay h4 h7 N4 fun o q=>far it o (Ne.symm hne) q
theorem zV {e it tu:Addr} {i:Nat} {vs:Array Value} {x old:Value} {Q:Option Value->Shared->Prop} (isE:IsEnum s.heap e it i old) (hIt:s.heap.IsTupleIter it tu i) (hT:s.heap.IsTuple tu vs) (hx:vs[i]?=some x) (hne:e≠it)
  (go:∀h1,IsEnumOut h1 e it ((i:Int)+1) x s.heap.objs.size->h1.IsTupleIter it tu (i+1)->h1.get? s.heap.objs.size=some { cls:=.type "tuple", data:=.seq #[.int i s.toks,x] }->(∀b o,b≠e->b≠it->s.heap.get? b=some o->h1.get? b=some o)->Q (some (.ref s.heap.objs.size)) { s with heap:=h1,toks:=s.toks+1 }) :
  wpAny (model prog w) A (pyNext (.ref e)) Q E s:=by
 have tyE:s.TypeIs (.ref e) "enumerate" := ⟨_,isE,rfl⟩
 unfold pyNext
 refine wpAny_bind (wpAny_attempt (wpAny_callSpecial?_slot (name:=Str.ofString "__next__") tyE F.slot_enumerate_next (wpAny_call_entry F.slot_enumerate_next tyE F.entry_enumerate_next ?_ (F.args_enumerate_next_1 _))))
 exact qJ (Kn:=fun h1=>h1.IsTupleIter it tu (i+1)) isE hne (fun h1 h2 k hk=>k.at hk) (fun Q1 q1=>yD hIt hT hx q1) fun h1 a b c d=>wpAny_pure (go h1 a b c d)
theorem CP {e it tu:Addr} {i:Nat} {vs:Array Value} {old:Value} {Q:Option Value->Shared->Prop} (hh:A.handled=none) (isE:IsEnum s.heap e it i old) (hIt:s.heap.IsTupleIter it tu i) (hT:s.heap.IsTuple tu vs) (hx:vs[i]?=none)
  (go:∀h1,Heap.ExtBut it s.heap h1->Q none { s with heap:=h1 }):wpAny (model prog w) A (pyNext (.ref e)) Q E s:=by
 have tyE:s.TypeIs (.ref e) "enumerate" := ⟨_,isE,rfl⟩
 unfold pyNext
 refine wpAny_bind (wpAny_attempt (wpAny_callSpecial?_slot (name:=Str.ofString "__next__") tyE F.slot_enumerate_next (wpAny_call_entry F.slot_enumerate_next tyE F.entry_enumerate_next ?_ (F.args_enumerate_next_1 _))))
 show wpAny _ _ (field (.ref e) 2 >>= _) _ _ _
 refine wpAny_bind (wpAny_field isE rfl (x:=Value.ref it) rfl (wpAny_bind (AI hh hIt hT hx fun h1 xx eb hx'=>?_)))
 obtain ⟨o,ho,hc⟩:=hx'
 exact wpAny_bind (wpAny_isInstance (T := "StopIteration") (b:=true) ⟨o,ho,hc⟩ isSubtype_stop (wpAny_pure (go _ eb)))
end
end Sp
namespace Sp
open PySem PySem.Spec PyProof.Rows L2
variable {X:Cx}
theorem mG {pins:List (Addr×Obj)} {σ:L2.St} {H:Hp} {s:Shared} {h2:Heap} {t2:Nat} {ch:List Addr} {p:Addr} {o:HO} (I:ah X pins σ H s)
  (k:∀b u,b∉ch->s.heap.get? b=some u->h2.get? b=some u) (hp:s.heap.objs.size<=p) (hn:∀b∈ch,fi X pins H b) (new:bB X.prog X.w (aE H p o) h2 p o):ah X pins σ (aE H p o) { s with heap:=h2,toks:=t2 }:=by
 have hH:H p=none:=I.hok.fresh hp
 have tr:∀b u,H b=some u->b∉ch:=fun b u e z=>by rw [(hn b z).1] at e;cases e
 have un:Un (bJ X.stack) ch H (aE H p o) s.heap h2:=by
  refine ⟨fun b ob e n _ c=>k b ob c e,fun b ob e n _ c=>⟨ob.slots,k b ob c e⟩,fun b ob e n c=>?_,fun b ob e c=>⟨ob,k b ob c e⟩,fun b xs e=>?_,fun b ob u e=>?_,fun b ps e=>⟨#[],?_⟩⟩
  ·rw [az (Nat.ne_of_lt (Nat.lt_of_lt_of_le (Heap.lt_size e) hp))];exact n
  ·rw [az (aO e hH)];exact e
  ·rw [az (aO e hH)];exact e
  ·rw [az (aO e hH),e];simp
 refine I.call (g':=s.gens) (d':=s.drawn) un (fun b u e=>?_) I.bare fun b hb=>⟨(hn b hb).2.2.2.1,(hn b hb).2.1,(hn b hb).2.2.2.2.1,(hn b hb).2.2.2.2.2⟩
 by_cases hb:b=p
 ·subst hb;rw [aJ] at e;cases e;exact new
 ·rw [az hb] at e
  refine (I.hok b u e).stay (fun c v hc q=>k c v ?_ q) (fun c q=>by rw [az (aO q hH)];exact q) fun c xs q=>by rw [az (aO q hH)];exact q
  rcases hc with z|z
  ·rw [z];exact tr b u e
  ·exact tr c _ z
def Kj (K:W.Frag) (a:Addr):It :=
 ⟨fun i H => ∃xs x,cj K H a xs/\xs[i]?=some x,fun i H x H' => ∃p v,x=.ref p/\H p=none/\H'=aE H p (.tup [.int (i:Nat),v])/\∀xs,cj K H a xs->xs[i]?=some v,fun i H => ∃xs,cj K H a xs/\xs.length<=i⟩
theorem tz {P:Program} {w:World} {K:W.Frag} {es:List Expr} {n1:Nat} {pos:Pos} (a e it:Addr) (hne:e≠it) :
  L2.Turn P w K (.Tuple es n1 pos) (Kj K a) [e,it] e (fun i h=>(∃old,IsEnum h e it ((i:Nat):Int) old)/\h.IsTupleIter it a i) where
 mem:=by simp
 obj:=fun i h st b hb=>by
  obtain ⟨⟨old,q⟩,o,q2,c,d⟩:=st
  rcases List.mem_cons.mp hb with rfl|hb
  ·exact ⟨_,q,fun v z=>by have z':Data.fields _=Data.cell v:=z;cases z'⟩
  ·have eb:b=it:=by simpa using hb
   subst eb
   exact ⟨o,q2,fun v z=>by rw [d] at z;cases z⟩
 keep:=fun i h h' st k=>⟨let ⟨old,q⟩:=st.1;⟨old,k e (by simp) _ q⟩,st.2.at fun o q=>k it (by simp) o q⟩
 item:=by
  intro Y hP hw hK hc i pins s σ H E I hf st hg
  subst hP hw hK
  obtain ⟨xs,x,hq,hx⟩:=hg
  obtain ⟨its,rv,p,hz⟩:=I.tuple hq
  obtain ⟨u,hu,ru⟩:=rv.get hx
  obtain ⟨⟨old,isE⟩,hIt⟩:=st
  refine zV isE hIt (show s.heap.IsTuple a its.toArray from p) (x:=u) (by simpa using hu) hne fun h1 eo it1 t1 k1=>?_
  refine ⟨_,rfl,wpAny_letOwnedTupleGo_enum eo fun h2 e2 sb2=>?_⟩
  have sb2':Heap.SameBut e h1 h2:=sb2
  have elt:e < s.heap.objs.size:=Heap.lt_size isE
  have k2:∀b o,b∉[e,it]->s.heap.get? b=some o->h2.get? b=some o:=fun b o nb q=>by
   have n1:b≠e:=fun z=>nb (by simp [z])
   have n2:b≠it:=fun z=>nb (by simp [z])
   exact sb2'.extBut b o n1 (k1 b o n1 n2 q)
  have t2:h2.get? s.heap.objs.size=some { cls:=.type "tuple", data:=.seq #[.int i s.toks,u] }:=sb2'.extBut _ _ (Nat.ne_of_gt elt) t1
  have hn0:H s.heap.objs.size=none:=I.hok.fresh (Nat.le_refl _)
  refine ⟨.ref s.heap.objs.size,aE H s.heap.objs.size (.tup [.int (i:Nat),x]),mG (s:=s) (h2:=h2) (t2:=s.toks+1) I k2 (Nat.le_refl _) hf ?_,rfl,⟨_,x,rfl,hn0,rfl,fun ys hy=>by rw [I.tuple_inj hy hq];exact hx⟩,⟨⟨u,?_⟩,it1.at fun o q=>sb2'.extBut it o (Ne.symm hne) q⟩,fun b hb=>?_⟩
  ·exact ⟨by show 2<=sizeLine;decide,[.int i s.toks,u],.cons ⟨_,rfl⟩ (.cons ru .nil),⟨_,t2,rfl,_,rfl⟩⟩
  ·have q:=e2
   rw [show ((i:Nat):Int)+1=((i+1:Nat):Int) by omega] at q
   exact q
  ·have hb':=hf b hb
   have lt:b < s.heap.objs.size:=by
    rcases List.mem_cons.mp hb with rfl|hb
    ·exact elt
    ·have eb:b=it:=by simpa using hb
     subst eb
     obtain ⟨o,q,_⟩:=hIt
     exact Heap.lt_size q
   rw [az (Nat.ne_of_lt lt)];exact hb'.1
 done:=by
  intro Y hP hw hK hc i pins s σ H E I hf st hg
  subst hP hw hK
  obtain ⟨xs,hq,hx⟩:=hg
  obtain ⟨its,rv,p,hz⟩:=I.tuple hq
  obtain ⟨⟨old,isE⟩,hIt⟩:=st
  obtain ⟨f0,f1,f2,f3,f4,f5⟩:=hf it (by simp)
  have hl:=rv.length
  exact CP (I.ok.hd hc) isE hIt (show s.heap.IsTuple a its.toArray from p) (by simp;omega) fun h1 eb=>⟨rfl,I.turned (t':=s.toks) (fun b o hb q=>eb b o hb q) f0 f1 f3 f4 f5⟩
 self:=fun _ _ _ _ _ st h=>let ⟨old,q⟩:=st.1;wpAny_pyIter_enum q h
theorem zG {ρ:ae} {es:List Expr} {n1:Nat} {tp p pos:Pos} {a:Expr} {l:List D} {k:Nat} (hg:Gl X "enumerate") (hm0:X.mg "enumerate" = none) (ha:AD X ρ [a] [.tup l] k) (hst:∀y p,a ≠ .Starred y p) (hf:ax l=true) :
  IE X ρ (.Tuple es n1 tp) (.Call (.Name "enumerate" p) [a] [] pos) (l.mapIdx fun i x=>.tup [.int (i:Nat),x]) 0:=by
 intro ow pins s σ H R I ⟨E,q⟩
 refine Call_ (fG I hg hm0 (show bootBuiltins "enumerate" = some (.type "enumerate") by decide +kernel) (PyProof.Rows.callWith_type1 (aF (ha ow pos pins s σ H (fun vs H1=>av H H1/\ag X.K H1 (Kp ow H k) [.tup l] vs) I ⟨E,fun vs H1 s1 r1=>⟨s1,r1⟩⟩) fun us s1 ⟨vs,H1,I1,rv,sm,rp⟩=>?_) (aI hst) rfl) (by decide +kernel) (by decide +kernel))
 obtain ⟨v,rfl,rv1⟩:=rp.only
 obtain ⟨ta,xs,rfl,hq,rl⟩:=eT rv1
 obtain ⟨u,rfl,ru⟩:=cA rv
 cases (show u=Value.ref ta from ru)
 obtain ⟨its,rvs,pt,hz⟩:=I1.tuple hq
 refine zX (show s1.heap.IsTuple ta its.toArray from pt) fun h2 isE hIt sz k2=>?_
 refine wpAny_pyIter_enum isE ?_
 have I2:ah X pins σ H1 { s1 with heap:=h2 }:=I1.kept (t':=s1.toks) k2
 have f0:H1 s1.heap.objs.size=none:=I1.hok.fresh (Nat.le_refl _)
 have f1:H1 (s1.heap.objs.size+1)=none:=I1.hok.fresh (Nat.le_succ _)
 refine ⟨s1.heap.objs.size+1,[s1.heap.objs.size+1,s1.heap.objs.size],_,_,H1,rfl,I2,tz ta _ _ (Nat.ne_of_gt (Nat.lt_succ_self _)),⟨⟨_,isE⟩,hIt⟩,fun b hb=>?_,q _ H1 sm ?_⟩
 ·rcases List.mem_cons.mp hb with rfl|hb
  ·exact I1.fpOk (Nat.le_succ _) f1
  ·have eb:b=s1.heap.objs.size:=by simpa using hb
   subst eb
   exact I1.fpOk (Nat.le_refl _) f0
 ·intro i H2 st
  have rl':ag X.K H1 (Kd ow H 0 H1) l xs:=rl.flat _ hf
  refine ⟨fun d hd=>?_,fun hle=>?_⟩
  ·rw [List.getElem?_mapIdx] at hd
   cases e:l[i]? with
   | none=>rw [e] at hd;cases hd
   | some x =>
    rw [e] at hd;cases hd
    obtain ⟨y,hy,ry⟩:=rl'.get e
    refine ⟨⟨xs,y,st.sq hq,hy⟩,fun x' H3 ⟨p',v',e1,e2,e3,e4⟩=>?_⟩
    have hv:=e4 xs (st.sq hq)
    rw [hy] at hv;cases hv
    subst e1 e3
    have sm3:=cu (o:=HO.tup [.int (i:Nat),y]) e2
    refine ⟨sm3,?_⟩
    rw [af]
    exact ⟨p',_,rfl,cj.of aJ,ag.cons (by rw [af]) (ag.one ((ry.mono st).same sm3))⟩
  ·rw [List.length_mapIdx] at hle
   exact ⟨xs,st.sq hq,by rw [<- rl.length];exact hle⟩
theorem uE {tg:Expr} (h:iR tg=true):∃es n p,tg=.Tuple es n p:=by
 cases tg <;> first|exact ⟨_,_,_,rfl⟩ | cases h
end Sp
namespace Sp
open PySem PySem.Spec PyProof.Rows L2
open AutoSeq1 (wpAny_loadPart')
section
variable {prog:Program} {w:World} {A:Around} {E:Value->Shared->Prop} {s:Shared}
variable {z TI TO i1 i2 l1 l2:Addr} {k1 k2:Nat} {P1 P2:Nat->Heap->Prop} {g1 g2:Nat->Option Value} {x y a b:Value}
end
end Sp
namespace Sp
open PySem PySem.Spec PyProof.Rows L2
variable {X:Cx}
end Sp
namespace Sp
open PySem PySem.Spec PyProof.Rows L2
variable {X:Cx}
def FA (κ:Bool) (K:W.Frag) (H:Hp) (a:Addr) (xs:List V):Prop:=match κ with|true=>cj K H a xs|false=>bR K H a xs
def vS (κ:Bool) (l:List D):D:=match κ with|true=>.tup l|false=>.lst l
theorem AV {κ:Bool} {ow:Ow} {H H1:Hp} {k:Nat} {l:List D} {v:V} (h:af X.K H1 (Kp ow H k) (vS κ l) v):∃a vs,v=.ref a/\FA κ X.K H1 a vs/\ag X.K H1 (Kp ow H k) l vs/\∀{P':aZ} {H2:Hp},c8 (Kd ow H k H1) P' H1 H2->FA κ X.K H2 a vs:=by
 cases κ
 ·rw [show vS false l=.lst l from rfl,af] at h
  obtain ⟨a,vs,b,rfl,hl,hp,rl⟩:=h
  have hp':Kd ow H k H1 a b:=⟨hp,fun hb=>by subst hb;exact ⟨_,hl⟩⟩
  exact ⟨a,vs,rfl,hl.sq,rl,fun st=>(st.ls hl hp').sq⟩
 ·rw [show vS true l=.tup l from rfl,af] at h
  obtain ⟨a,vs,rfl,hl,rl⟩:=h
  exact ⟨a,vs,rfl,hl,rl,fun st=>st.sq hl⟩
end Sp
namespace Sp
open PySem PySem.Spec PyProof.Rows L2
open AutoSeq1 (wpAny_loadPart')
variable {X:Cx}
theorem zU (tu:Addr) (vs:Array Value) (n:Nat) (dc:Option Addr) (so:Array (Option Value)) :
  Meets (Builtin.«enumerate.__new__» ⟨[.type "enumerate", .ref tu],[]⟩) (fun _ R st=>st.heap.get? tu=some { cls:=.type "list", dict:=dc,data:=.seq vs n,slots:=so } /\
   R (.ok (.ret (.ref (st.heap.push { cls:=.type "list_iterator", data:=.fields #[.ref tu,.int 0 0] }).objs.size)))
    { st with heap:=(st.heap.push { cls:=.type "list_iterator", data:=.fields #[.ref tu,.int 0 0] }).push { cls:=.type "enumerate", data:=.fields #[.none,.bool false,.ref st.heap.objs.size,rawInt 0,.none,.none] } }) :=
 .of_wp fun pg wd AA RR st hh=>by
  obtain ⟨hp0,gg,dd,tk0,oo⟩:=st;obtain ⟨htu,hh⟩:=hh
  have hsub0:=sub_enumerate
  have hTT:Heap.IsList (Shared.heap ⟨hp0,gg,dd,tk0,oo⟩) tu vs:=⟨_,htu,rfl,n,rfl⟩
  wp_walk using wpAny_loadPart' htu
  refine wpAny_stack_any fun stk0=>wpAny_pure ?_
  split
  ·rename_i c0 _ _ _ _ _
   cases (c0==Value.type "enumerate")
   ·wp_walk using wpAny_loadPart' htu,wpAny_pyIter_list hTT
    exact ⟨_,rfl,hh⟩
   ·wp_walk using wpAny_loadPart' htu,wpAny_pyIter_list hTT
    exact ⟨_,rfl,hh⟩
  ·wp_walk using wpAny_loadPart' htu,wpAny_pyIter_list hTT
   exact ⟨_,rfl,hh⟩
section
variable {prog:Program} {w:World} {A:Around} {E:Value->Shared->Prop} {s:Shared}
theorem wE {tu:Addr} {vs:Array Value} {Q:Value->Shared->Prop} (hT:s.heap.IsList tu vs)
  (go:∀h1,IsEnum h1 (s.heap.objs.size+1) s.heap.objs.size 0 .none->h1.IsListIter s.heap.objs.size tu 0->h1.objs.size=s.heap.objs.size+2->(∀b o,s.heap.get? b=some o->h1.get? b=some o)->Q (.ref (s.heap.objs.size+1)) { s with heap:=h1 }) :
  wpAny (model prog w) A (call (.type "enumerate") [.ref tu]) Q E s:=by
 obtain ⟨⟨cc,dc,dt,so⟩,htu,hcc,n,hdd⟩:=hT
 replace hcc:cc=.type "list" := hcc
 replace hdd:dt=.seq vs n:=hdd
 subst hcc hdd
 refine callType_new F.called_enumerate (by decide) (F.typeCall_enumerate_1 _) (F.newCall_enumerate_1 _) (fun ob=>F.args_object_init_2 ob _) F.entry_enumerate_new (zU tu vs n dc so) ⟨htu,?_⟩
 have sz:(s.heap.push { cls:=.type "list_iterator", data:=.fields #[.ref tu,.int 0 0] }).objs.size=s.heap.objs.size+1:=Heap.size_push ..
 show _/\_
 rw [sz]
 have isE:IsEnum ((s.heap.push { cls:=.type "list_iterator", data:=.fields #[.ref tu,.int 0 0] }).push { cls:=.type "enumerate", data:=.fields #[.none,.bool false,.ref s.heap.objs.size,rawInt 0,.none,.none] }) (s.heap.objs.size+1) s.heap.objs.size 0 .none:=by
  have q:=Heap.get?_push_size (s.heap.push { cls:=.type "list_iterator", data:=.fields #[.ref tu,.int 0 0] }) (o:={ cls:=.type "enumerate", data:=.fields #[.none,.bool false,.ref s.heap.objs.size,rawInt 0,.none,.none] }) rfl
  rw [sz] at q;exact q
 refine ⟨⟨_,isE,rfl⟩,go _ isE ⟨_,Heap.get?_push_of_some _ (Heap.get?_push_size _ rfl),rfl,rfl⟩ (by rw [Heap.size_push,sz]) fun b o z=>Heap.get?_push_of_some _ (Heap.get?_push_of_some _ z)⟩
theorem wD {e it tu:Addr} {i:Nat} {vs:Array Value} {x old:Value} {Q:Option Value->Shared->Prop} (isE:IsEnum s.heap e it i old) (hIt:s.heap.IsListIter it tu i) (hT:s.heap.IsList tu vs) (hx:vs[i]?=some x) (hne:e≠it)
  (go:∀h1,IsEnumOut h1 e it ((i:Int)+1) x s.heap.objs.size->h1.IsListIter it tu (i+1)->h1.get? s.heap.objs.size=some { cls:=.type "tuple", data:=.seq #[.int i s.toks,x] }->(∀b o,b≠e->b≠it->s.heap.get? b=some o->h1.get? b=some o)->Q (some (.ref s.heap.objs.size)) { s with heap:=h1,toks:=s.toks+1 }) :
  wpAny (model prog w) A (pyNext (.ref e)) Q E s:=by
 have tyE:s.TypeIs (.ref e) "enumerate" := ⟨_,isE,rfl⟩
 unfold pyNext
 refine wpAny_bind (wpAny_attempt (wpAny_callSpecial?_slot (name:=Str.ofString "__next__") tyE F.slot_enumerate_next (wpAny_call_entry F.slot_enumerate_next tyE F.entry_enumerate_next ?_ (F.args_enumerate_next_1 _))))
 exact qJ (Kn:=fun h1=>h1.IsListIter it tu (i+1)) isE hne (fun h1 h2 k hk=>k.at hk) (fun Q1 q1=>wpAny_nextOf_list_item hIt hT hx q1) fun h1 a b c d=>wpAny_pure (go h1 a b c d)
theorem zW {e it tu:Addr} {i:Nat} {vs:Array Value} {old:Value} {Q:Option Value->Shared->Prop} (hh:A.handled=none) (isE:IsEnum s.heap e it i old) (hIt:s.heap.IsListIter it tu i) (hT:s.heap.IsList tu vs) (hx:vs[i]?=none)
  (go:∀h1,Heap.ExtBut it s.heap h1->Q none { s with heap:=h1 }):wpAny (model prog w) A (pyNext (.ref e)) Q E s:=by
 have tyE:s.TypeIs (.ref e) "enumerate" := ⟨_,isE,rfl⟩
 unfold pyNext
 refine wpAny_bind (wpAny_attempt (wpAny_callSpecial?_slot (name:=Str.ofString "__next__") tyE F.slot_enumerate_next (wpAny_call_entry F.slot_enumerate_next tyE F.entry_enumerate_next ?_ (F.args_enumerate_next_1 _))))
 show wpAny _ _ (field (.ref e) 2 >>= _) _ _ _
 refine wpAny_bind (wpAny_field isE rfl (x:=Value.ref it) rfl (wpAny_bind (wpAny_nextOf_list_end hh hIt hT hx fun h1 xx eb hx'=>?_)))
 obtain ⟨o,ho,hc⟩:=hx'
 exact wpAny_bind (wpAny_isInstance (T := "StopIteration") (b:=true) ⟨o,ho,hc⟩ isSubtype_stop (wpAny_pure (go _ eb)))
end
def JP (K:W.Frag) (a:Addr):It :=
 ⟨fun i H => ∃xs x,bR K H a xs/\xs[i]?=some x,fun i H x H' => ∃p v,x=.ref p/\H p=none/\H'=aE H p (.tup [.int (i:Nat),v])/\∀xs,bR K H a xs->xs[i]?=some v,fun i H => ∃xs,bR K H a xs/\xs.length<=i⟩
theorem qZ {P:Program} {w:World} {K:W.Frag} {es:List Expr} {n1:Nat} {pos:Pos} (a e it:Addr) (hne:e≠it) :
  L2.Turn P w K (.Tuple es n1 pos) (JP K a) [e,it] e (fun i h=>(∃old,IsEnum h e it ((i:Nat):Int) old)/\h.IsListIter it a i) where
 mem:=by simp
 obj:=fun i h st b hb=>by
  obtain ⟨⟨old,q⟩,o,q2,c,d⟩:=st
  rcases List.mem_cons.mp hb with rfl|hb
  ·exact ⟨_,q,fun v z=>by have z':Data.fields _=Data.cell v:=z;cases z'⟩
  ·have eb:b=it:=by simpa using hb
   subst eb
   exact ⟨o,q2,fun v z=>by rw [d] at z;cases z⟩
 keep:=fun i h h' st k=>⟨let ⟨old,q⟩:=st.1;⟨old,k e (by simp) _ q⟩,st.2.at fun o q=>k it (by simp) o q⟩
 item:=by
  intro Y hP hw hK hc i pins s σ H E I hf st hg
  subst hP hw hK
  obtain ⟨xs,x,hq,hx⟩:=hg
  obtain ⟨its,rv,p,hz⟩:=I.list hq
  obtain ⟨u,hu,ru⟩:=rv.get hx
  obtain ⟨⟨old,isE⟩,hIt⟩:=st
  refine wD isE hIt (show s.heap.IsList a its.toArray from p.isList) (x:=u) (by simpa using hu) hne fun h1 eo it1 t1 k1=>?_
  refine ⟨_,rfl,wpAny_letOwnedTupleGo_enum eo fun h2 e2 sb2=>?_⟩
  have sb2':Heap.SameBut e h1 h2:=sb2
  have elt:e < s.heap.objs.size:=Heap.lt_size isE
  have k2:∀b o,b∉[e,it]->s.heap.get? b=some o->h2.get? b=some o:=fun b o nb q=>by
   have n1:b≠e:=fun z=>nb (by simp [z])
   have n2:b≠it:=fun z=>nb (by simp [z])
   exact sb2'.extBut b o n1 (k1 b o n1 n2 q)
  have t2:h2.get? s.heap.objs.size=some { cls:=.type "tuple", data:=.seq #[.int i s.toks,u] }:=sb2'.extBut _ _ (Nat.ne_of_gt elt) t1
  have hn0:H s.heap.objs.size=none:=I.hok.fresh (Nat.le_refl _)
  refine ⟨.ref s.heap.objs.size,aE H s.heap.objs.size (.tup [.int (i:Nat),x]),mG (s:=s) (h2:=h2) (t2:=s.toks+1) I k2 (Nat.le_refl _) hf ?_,rfl,⟨_,x,rfl,hn0,rfl,fun ys hy=>by rw [I.list_inj hy hq];exact hx⟩,⟨⟨u,?_⟩,it1.at fun o q=>sb2'.extBut it o (Ne.symm hne) q⟩,fun b hb=>?_⟩
  ·exact ⟨by show 2<=sizeLine;decide,[.int i s.toks,u],.cons ⟨_,rfl⟩ (.cons ru .nil),⟨_,t2,rfl,_,rfl⟩⟩
  ·have q:=e2
   rw [show ((i:Nat):Int)+1=((i+1:Nat):Int) by omega] at q
   exact q
  ·have hb':=hf b hb
   have lt:b < s.heap.objs.size:=by
    rcases List.mem_cons.mp hb with rfl|hb
    ·exact elt
    ·have eb:b=it:=by simpa using hb
     subst eb
     obtain ⟨o,q,_⟩:=hIt
     exact Heap.lt_size q
   rw [az (Nat.ne_of_lt lt)];exact hb'.1
 done:=by
  intro Y hP hw hK hc i pins s σ H E I hf st hg
  subst hP hw hK
  obtain ⟨xs,hq,hx⟩:=hg
  obtain ⟨its,rv,p,hz⟩:=I.list hq
  obtain ⟨⟨old,isE⟩,hIt⟩:=st
  obtain ⟨f0,f1,f2,f3,f4,f5⟩:=hf it (by simp)
  have hl:=rv.length
  exact zW (I.ok.hd hc) isE hIt (show s.heap.IsList a its.toArray from p.isList) (by simp;omega) fun h1 eb=>⟨rfl,I.turned (t':=s.toks) (fun b o hb q=>eb b o hb q) f0 f1 f3 f4 f5⟩
 self:=fun _ _ _ _ _ st h=>let ⟨old,q⟩:=st.1;wpAny_pyIter_enum q h
theorem wx {ρ:ae} {es:List Expr} {n1:Nat} {tp p pos:Pos} {a:Expr} {l:List D} {k:Nat} (hg:Gl X "enumerate") (hm0:X.mg "enumerate" = none) (ha:AD X ρ [a] [.lst l] k) (hst:∀y p,a ≠ .Starred y p) (hf:ax l=true) :
  IE X ρ (.Tuple es n1 tp) (.Call (.Name "enumerate" p) [a] [] pos) (l.mapIdx fun i x=>.tup [.int (i:Nat),x]) k:=by
 intro ow pins s σ H R I ⟨E,q⟩
 refine Call_ (fG I hg hm0 (show bootBuiltins "enumerate" = some (.type "enumerate") by decide +kernel) (PyProof.Rows.callWith_type1 (aF (ha ow pos pins s σ H (fun vs H1=>av H H1/\ag X.K H1 (Kp ow H k) [.lst l] vs) I ⟨E,fun vs H1 s1 r1=>⟨s1,r1⟩⟩) fun us s1 ⟨vs,H1,I1,rv,sm,rp⟩=>?_) (aI hst) rfl) (by decide +kernel) (by decide +kernel))
 obtain ⟨v,rfl,rv1⟩:=rp.only
 obtain ⟨ta,xs,rfl,hq,rl,hk1⟩:=AV (κ:=false) rv1
 replace hq:bR X.K H1 ta xs:=hq
 obtain ⟨u,rfl,ru⟩:=cA rv
 cases (show u=Value.ref ta from ru)
 obtain ⟨its,rvs,pt,hz⟩:=I1.list hq
 refine wE (show s1.heap.IsList ta its.toArray from pt.isList) fun h2 isE hIt sz k2=>?_
 refine wpAny_pyIter_enum isE ?_
 have I2:ah X pins σ H1 { s1 with heap:=h2 }:=I1.kept (t':=s1.toks) k2
 have f0:H1 s1.heap.objs.size=none:=I1.hok.fresh (Nat.le_refl _)
 have f1:H1 (s1.heap.objs.size+1)=none:=I1.hok.fresh (Nat.le_succ _)
 refine ⟨s1.heap.objs.size+1,[s1.heap.objs.size+1,s1.heap.objs.size],_,_,H1,rfl,I2,qZ ta _ _ (Nat.ne_of_gt (Nat.lt_succ_self _)),⟨⟨_,isE⟩,hIt⟩,fun b hb=>?_,q _ H1 sm ?_⟩
 ·rcases List.mem_cons.mp hb with rfl|hb
  ·exact I1.fpOk (Nat.le_succ _) f1
  ·have eb:b=s1.heap.objs.size:=by simpa using hb
   subst eb
   exact I1.fpOk (Nat.le_refl _) f0
 ·intro i H2 st
  have rl':ag X.K H1 (Kd ow H k H1) l xs:=rl.flat _ hf
  refine ⟨fun d hd=>?_,fun hle=>?_⟩
  ·rw [List.getElem?_mapIdx] at hd
   cases e:l[i]? with
   | none=>rw [e] at hd;cases hd
   | some x =>
    rw [e] at hd;cases hd
    obtain ⟨y,hy,ry⟩:=rl'.get e
    refine ⟨⟨xs,y,hk1 st,hy⟩,fun x' H3 ⟨p',v',e1,e2,e3,e4⟩=>?_⟩
    have hv:=e4 xs (hk1 st)
    rw [hy] at hv;cases hv
    subst e1 e3
    have sm3:=cu (o:=HO.tup [.int (i:Nat),y]) e2
    refine ⟨sm3,?_⟩
    rw [af]
    exact ⟨p',_,rfl,cj.of aJ,ag.cons (by rw [af]) (ag.one ((ry.mono st).same sm3))⟩
  ·rw [List.length_mapIdx] at hle
   exact ⟨xs,hk1 st,by rw [<- rl.length];exact hle⟩
theorem wy:lz "enumerate" se:=by
 refine ⟨by decide +kernel,fun X ρ p pos args ds k d j l tg o hc hg hm ha hst hlen h hp hl ht=>?_⟩
 unfold se at h
 have ht2:iR tg=true:=by simpa [cO] using ht
 obtain ⟨es,n1,tp,rfl⟩:=uE ht2
 split at h
 ·cases h
  cases hl
  match args,hlen,ha,hst with
  | [a'],_,ha,hst=>rw [lX];simp only [Nat.zero_add];exact zG hg hm ha (hst a' List.mem_cons_self) hp.1
 ·cases h
  cases hl
  match args,hlen,ha,hst with
  | [a'],_,ha,hst=>rw [lX];simp only [Nat.zero_add];exact wx hg hm ha (hst a' List.mem_cons_self) hp.1
 ·cases h
end Sp
namespace Sp
open PySem PySem.Spec PyProof.Rows L2
open PySem.W (KasT kas_sort kas_ask KatLex KatTups kat_sorted kat_kind kat_lt kat_cons kat_nil kat_go kat_yes kat_no kat_one KasFin)
section
variable {prog:Program} {w:World} {A:Around} {E:Value->Shared->Prop} {s:Shared}
end
variable {X:Cx}
end Sp
namespace Sp
open PySem PySem.Spec PyProof.Rows L2
theorem gD {α:Type} {r:Rs α} {a:α} {l:List Prop} (h:r=.ok a l) (hp:aA l):aa r a:=⟨l,h,hp⟩
theorem aa.eq {α:Type} {r:Rs α} {a b:α} (h:aa r a) (e:a=b):aa r b:=e ▸ h
theorem aa.bnd {α β:Type} {r:Rs α} {f:α->Rs β} {a:α} {b:β} (h1:aa r a) (h2:aa (f a) b):aa (r.bnd f) b:=by
 obtain ⟨l,rfl,p1⟩:=h1
 obtain ⟨m,h2,p2⟩:=h2
 refine ⟨l++m,?_,cN.mpr ⟨p1,p2⟩⟩
 show (match f a with | .st=>(.st:Rs β) | .ok b m=>Rs.ok b (l++m))=_
 rw [h2]
theorem aa.inj {α:Type} {r:Rs α} {a b:α} (h:aa r a) (g:aa r b):a=b:=by
 obtain ⟨l,h,_⟩:=h;obtain ⟨m,g,_⟩:=g;rw [h] at g;cases g;rfl
section
variable {Φ:Fx} {sc:Scope} {ρ ρ':ae} {fl:Fl} {ss:List Stmt}
theorem bz {ps:List Str} {body:List Stmt} {ds:List D} {d:D} (h:aa (ay Φ body sc (b8 ps ds)) (.rt d)) (hl:ds.length=ps.length:=by rfl):aa (ci Φ sc ps body ds) d:=by
 unfold ci;rw [if_pos hl];exact h.bnd ⟨[],rfl,True.intro⟩
theorem be:aa (ay Φ [] sc ρ) (.nx ρ):=⟨[],rfl,True.intro⟩
theorem aS {s:Stmt} (h:aa (ef Φ s sc ρ) (.nx ρ')) (h2:aa (ay Φ ss sc ρ') fl):aa (ay Φ (s::ss) sc ρ) fl:=aa.bnd h h2
theorem iD {s:Stmt} (h:aa (ef Φ s sc ρ) fl) (hf:∀ρ,fl ≠ .nx ρ):aa (ay Φ (s::ss) sc ρ) fl:=aa.bnd h (by
 cases fl with
 | nx ρ=>exact absurd rfl (hf ρ)
 | rt d=>exact ⟨[],rfl,True.intro⟩
 | bk ρ=>exact ⟨[],rfl,True.intro⟩
 | ct ρ=>exact ⟨[],rfl,True.intro⟩)
theorem bf {s:Stmt} {d:D} (h:aa (ef Φ s sc ρ) (.rt d)):aa (ay Φ (s::ss) sc ρ) (.rt d):=iD h fun _ z=>by cases z
theorem kC {s:Stmt} (h:aa (ay Φ (s::ss) sc ρ) fl):(∃ρ',aa (ef Φ s sc ρ) (.nx ρ')/\aa (ay Φ ss sc ρ') fl)\/((∀ρ,fl ≠ .nx ρ)/\aa (ef Φ s sc ρ) fl):=by
 obtain ⟨f,h1,h2⟩:=aq (show aa (Rs.bnd _ _) fl from h)
 cases f with
 | nx ρ'=>exact .inl ⟨ρ',h1,h2⟩
 | rt d=>cases aB h2;exact .inr ⟨fun _ z=>(by cases z),h1⟩
 | bk ρ=>cases aB h2;exact .inr ⟨fun _ z=>(by cases z),h1⟩
 | ct ρ=>cases aB h2;exact .inr ⟨fun _ z=>(by cases z),h1⟩
theorem vy:∀{a:List Stmt} {ρ:ae},aa (ay Φ a sc ρ) (.nx ρ')->aa (ay Φ ss sc ρ') fl->aa (ay Φ (a++ss) sc ρ) fl
 | [],ρ,h,h2=>by cases aB h;exact h2
 | s::a,ρ,h,h2=>by
  rcases kC h with ⟨ρ1,h3,h4⟩ | ⟨h3,_⟩
  ·exact aS h3 (vy h4 h2)
  ·exact absurd rfl (h3 _)
theorem l9:∀{a:List Stmt} {ρ:ae},aa (ay Φ (a++ss) sc ρ) fl->(∃ρ',aa (ay Φ a sc ρ) (.nx ρ')/\aa (ay Φ ss sc ρ') fl)\/((∀ρ,fl ≠ .nx ρ)/\aa (ay Φ a sc ρ) fl)
 | [],ρ,h=>.inl ⟨ρ,be,h⟩
 | s::a,ρ,h=>by
  rcases kC h with ⟨ρ1,h3,h4⟩ | ⟨h3,h4⟩
  ·rcases l9 h4 with ⟨ρ2,h5,h6⟩ | ⟨h5,h6⟩
   ·exact .inl ⟨ρ2,aS h3 h5,h6⟩
   ·exact .inr ⟨h5,aS h3 h6⟩
  ·exact .inr ⟨h3,iD h4 h3⟩
theorem dD (n:Nat) (h:aa (ay Φ (ss.take n) sc ρ) (.nx ρ')) (h2:aa (ay Φ (ss.drop n) sc ρ') fl):aa (ay Φ ss sc ρ) fl:=by
 rw [<- List.take_append_drop n ss];exact vy h h2
theorem rh {c:Expr} {a b:List Stmt} {p:Pos} {t:Bool} {k:Nat} (hc:aa (ar Φ c false sc ρ) (.bl t,k)) (h1:t=true->aa (ay Φ (a++ss) sc ρ) fl) (h2:t=false->aa (ay Φ (b++ss) sc ρ) fl):aa (ay Φ (.If c a b p::ss) sc ρ) fl:=by
 have key:∀x,aa (cond t (ay Φ a sc ρ) (ay Φ b sc ρ)) x->aa (ef Φ (.If c a b p) sc ρ) x:=fun x hx=>aa.bnd hc hx
 cases t with
 | true =>
  rcases l9 (h1 rfl) with ⟨ρ1,h3,h4⟩ | ⟨h3,h4⟩
  ·exact aS (key _ h3) h4
  ·exact iD (key _ h4) h3
 | false =>
  rcases l9 (h2 rfl) with ⟨ρ1,h3,h4⟩ | ⟨h3,h4⟩
  ·exact aS (key _ h3) h4
  ·exact iD (key _ h4) h3
theorem bo {c:Expr} {a b:List Stmt} {p:Pos} {t:Bool} {k:Nat} (hc:aa (ar Φ c false sc ρ) (.bl t,k)) (ht:t=true) (h1:aa (ay Φ (a++ss) sc ρ) fl):aa (ay Φ (.If c a b p::ss) sc ρ) fl:=rh hc (fun _=>h1) fun z=>by rw [ht] at z;cases z
theorem aD {c:Expr} {a b:List Stmt} {p:Pos} {t:Bool} {k:Nat} (hc:aa (ar Φ c false sc ρ) (.bl t,k)) (ht:t=false) (h1:aa (ay Φ (b++ss) sc ρ) fl):aa (ay Φ (.If c a b p::ss) sc ρ) fl:=rh hc (fun z=>by rw [ht] at z;cases z) fun _=>h1
theorem oW {tg it:Expr} {body:List Stmt} {p:Pos} {d:D} {ds:List D} {k:Nat} (hi:aa (ar Φ it true sc (demote it ρ)) (d,k)) (hd:items d=some ds) (hk:k<=1) (ht:cO it tg=true) (h:aa (cK (bi sc tg) (ay Φ body sc) ds (demote it ρ)) fl):aa (ef Φ (.For tg it body [] p) sc ρ) fl:=by
 rw [lT,if_pos (show List.isEmpty ([]:List Stmt)=true from rfl)]
 refine hi.bnd ?_
 dsimp only
 rw [hd]
 dsimp only
 rw [if_pos ⟨hk,ht⟩]
 exact h
theorem aV {f:Str} {p q:Pos} {args:List Expr} {it:Bool} {ds:List D} {k:Nat} {F:List D->Rs D} {v:D} (ha:aa (bq Φ args sc ρ) (ds,k)) (hv:aa (F ds) v) (hF:Φ.fn f=some F:=by rfl) (hg:sc.names.lookup f=some .globalImplicit:=by rfl):aa (ar Φ (.Call (.Name f p) args [] q) it sc ρ) (v,0):=by
 rw [fM,if_pos hg]
 refine ha.bnd ?_
 unfold hX
 rw [hF]
 exact hv.bnd ⟨[],rfl,True.intro⟩
theorem fb {f:Str} {p q:Pos} {args:List Expr} {it:Bool} {ds:List D} {k:Nat} {B:List D->R1} {v:D×Nat} (ha:aa (bq Φ args sc ρ) (ds,k)) (hv:aa (B ds) v) (hF:Φ.fn f=none:=by rfl) (hI:(if it=true then Φ.itr f else none)=none:=by rfl) (hB:Φ.blt f=some B:=by rfl) (hg:sc.names.lookup f=some .globalImplicit:=by rfl):aa (ar Φ (.Call (.Name f p) args [] q) it sc ρ) v:=by
 rw [fM,if_pos hg]
 refine ha.bnd ?_
 unfold hX
 rw [hF];dsimp only
 rw [hI];dsimp only
 rw [hB];exact hv
theorem bO:aa (bq Φ [] sc ρ) ([],0):=⟨[],rfl,True.intro⟩
theorem bC {e:Expr} {es:List Expr} {d:D} {ds:List D} {k j:Nat} (h:aa (ar Φ e false sc ρ) (d,k)) (h2:aa (bq Φ es sc ρ) (ds,j)):aa (bq Φ (e::es) sc ρ) (d::ds,kj k j):=aa.bnd h (aa.bnd h2 ⟨[],rfl,True.intro⟩)
theorem zP {elt tg iter:Expr} {ifs:List Expr} {scope:Scope} {p:Pos} {it:Bool} {d:D} {ds out:List D} {k j:Nat} (hi:aa (ar Φ iter true sc ρ) (d,k)) (hd:items d=some ds) (hl:ds.length<=bN/\(ax ds=true\/k<=1))
    (h:aa (fq (fun d=>match bi scope tg d (flt scope ρ) with
            | none=>.st
            | some ρ'=>(cQ Φ .And ifs scope ρ').bnd fun b=>cond b ((ar Φ elt false scope ρ').bnd fun r=>.ok (some r) []) (.ok none [])) ds) (out,j)) (hj:j<=1) (hc:iZ sc scope=true:=by rfl) (ht:cO iter tg=true:=by rfl):aa (ar Φ (.ListComp elt [⟨tg,iter,ifs,0⟩] scope p) it sc ρ) (.lst out,j):=by
  rw [lU,if_pos hc]
  refine hi.bnd ?_
  dsimp only
  rw [hd]
  dsimp only
  rw [if_pos ht]
  refine aa.bnd (a:=()) ⟨_,rfl,hl.1,hl.2,True.intro⟩ ?_
  refine h.bnd ?_
  rw [if_pos hj]
  exact ⟨[],rfl,True.intro⟩
theorem nr {a i:Expr} {p:Pos} {it:Bool} {x d:D} {l:List D} {j:Int} {k k2:Nat} (ha:aa (ar Φ a false sc ρ) (x,k)) (hi:aa (ar Φ i false sc ρ) (.int j,k2)) (hx:fW x=some l) (hd:L2.atI l j=some d):aa (ar Φ (.Subscript a i p) it sc ρ) (d,kn d k):=by
 have key:aa ((ar Φ a false sc ρ).bnd fun p=>(ar Φ i false sc ρ).bnd fun q=>jP p q) (d,kn d k):=by
  refine ha.bnd (hi.bnd ?_)
  rcases fD hx with rfl|rfl
  ·show aa (oO (.tup l) j k) _
   unfold oO
   rw [hx];dsimp only
   rw [hd];exact ⟨[],rfl,True.intro⟩
  ·show aa (oO (.lst l) j k) _
   unfold oO
   rw [hx];dsimp only
   rw [hd];exact ⟨[],rfl,True.intro⟩
 cases i with
 | Slice lo hi st p2=>exact (am hi).elim
 | _=>exact key
theorem aP {e:Expr} {x:Str} {p q:Pos} {d:D} (h:aa (ar Φ e false sc ρ) (d,0)) (hx:b9 sc x=true:=by rfl):aa (ef Φ (.Assign [.Name x p] e q) sc ρ) (.nx (bn ρ x (d,true))):=by
 refine aa.bnd h ?_
 unfold lE
 rw [if_pos hx]
 exact ⟨[],rfl,True.intro⟩
theorem aX {e:Expr} {q:Pos} {d:D} {k:Nat} (h:aa (ar Φ e false sc ρ) (d,k)) (hk:k=0\/k=2:=by exact .inl rfl) (hn:nj e=false:=by rfl):aa (ef Φ (.Return (some e) q) sc ρ) (.rt d):=by
 have h:aa (ar Φ e false sc (nY e ρ)) (d,k):=by unfold nY;rw [hn];exact h
 refine aa.bnd h ?_
 unfold rA
 rw [if_pos hk]
 exact ⟨[],rfl,True.intro⟩
end
theorem oR {bind:D->ae->Option ae} {body:ae->Rs Fl} (ah:List D->ae->Prop) (step:∀d l ρ,ah (d::l) ρ->∃ρ1 ρ2,bind d ρ=some ρ1/\(aa (body ρ1) (.nx ρ2)\/aa (body ρ1) (.ct ρ2))/\ah l ρ2):∀{ds:List D} {ρ:ae},ah ds ρ->∃ρ',aa (cK bind body ds ρ) (.nx ρ')/\ah [] ρ'
 | [],ρ,h=>⟨ρ,⟨[],rfl,True.intro⟩,h⟩
 | d::l,ρ,h=>by
  obtain ⟨ρ1,ρ2,h1,h2,h3⟩:=step d l ρ h
  obtain ⟨ρ',h4,h5⟩:=oR ah step h3
  refine ⟨ρ',?_,h5⟩
  show aa (match bind d ρ with|none=>(.st:Rs Fl) | some ρ1=>(body ρ1).bnd (jH (cK bind body l))) _
  rw [h1]
  rcases h2 with h2|h2
  ·exact h2.bnd h4
  ·exact h2.bnd h4
theorem qD {bind:D->ae->Option ae} {body:ae->Rs Fl} (ah:List D->ae->Prop) (R:D->Prop) (step:∀d l ρ,ah (d::l) ρ->∃ρ1,bind d ρ=some ρ1/\((∃ρ2,(aa (body ρ1) (.nx ρ2)\/aa (body ρ1) (.ct ρ2))/\ah l ρ2)\/∃r,aa (body ρ1) (.rt r)/\R r)):∀{ds:List D} {ρ:ae},ah ds ρ->(∃ρ',aa (cK bind body ds ρ) (.nx ρ')/\ah [] ρ')\/∃r,aa (cK bind body ds ρ) (.rt r)/\R r
 | [],ρ,h=>.inl ⟨ρ,⟨[],rfl,True.intro⟩,h⟩
 | d::l,ρ,h=>by
  obtain ⟨ρ1,h1,h2⟩:=step d l ρ h
  have key:cK bind body (d::l) ρ=(body ρ1).bnd (jH (cK bind body l)):=by
   show (match bind d ρ with|none=>(.st:Rs Fl) | some ρ1=>(body ρ1).bnd (jH (cK bind body l)))=_
   rw [h1]
  rw [key]
  rcases h2 with ⟨ρ2,h2,h3⟩ | ⟨r,h2,h3⟩
  ·have go:∀x,aa (cK bind body l ρ2) x->aa ((body ρ1).bnd (jH (cK bind body l))) x:=fun x hx=>by
    rcases h2 with h2|h2
    ·exact h2.bnd hx
    ·exact h2.bnd hx
   rcases qD ah R step h3 with ⟨ρ',h4,h5⟩ | ⟨r,h4,h5⟩
   ·exact .inl ⟨ρ',go _ h4,h5⟩
   ·exact .inr ⟨r,go _ h4,h5⟩
  ·exact .inr ⟨r,h2.bnd ⟨[],rfl,True.intro⟩,h3⟩
theorem mL {α:Type} {step:D->Rs (Option (D×Nat))} {g:α->D} {f:α->D}:∀{l:List α},(∀x∈l,aa (step (g x)) (some (f x,0)))->aa (fq step (l.map g)) (l.map f,0)
 | [],_=>⟨[],rfl,True.intro⟩
 | x::l,h=>aa.bnd (h x List.mem_cons_self) (aa.bnd (mL fun y hy=>h y (List.mem_cons_of_mem _ hy)) ⟨[],rfl,True.intro⟩)
theorem qi {a b:Int} (h:a.natAbs < 18446744073709551616):dv a b:=.inl h
theorem fw {a b:Int} (h:b.natAbs < 18446744073709551616):dv a b:=.inr (.inl h)
theorem vo {n:Nat} (h:n < 2 ^ 64):n < vp:=Nat.lt_of_lt_of_le h (Nat.pow_le_pow_right (by decide) (by decide))
theorem Ae {b:Int} (h0:b≠0) (h:b.natAbs < 18446744073709551616):k8 b:=⟨h0,vo h⟩
theorem Av {ns:List Int} {i:Int} (h0:0<=i) (h1:i < ns.length):L2.atI (ns.map D.int) i=some (.int (ns.getD i.toNat 0)):=by
 obtain ⟨j,rfl⟩:=Int.eq_ofNat_of_zero_le h0
 have hj:j < ns.length:=by omega
 have:=qP (xs:=ns.map D.int) (j:=j) (v:=.int (ns.getD j 0)) (by simp [hj])
 simpa using this
theorem wX:aA []:=True.intro
theorem sH {l m:List Prop} (h:aA l) (g:aA m):aA (l++m):=cN.mpr ⟨h,g⟩
theorem wW {p:Prop} (h:p):aA [p]:=⟨h,True.intro⟩
theorem pP {p:Prop} {l:List Prop} (h:p) (g:aA l):aA (p::l):=⟨h,g⟩
theorem y9 {a b:Int} (h0:0<=b) (h1:b<=1000) (h2:a.natAbs < 18446744073709551616):rE a b:=⟨h0,h1,h2⟩
end Sp
namespace Sp
open PySem PySem.Spec PyProof.Rows L2
def Sub (C ρ:ae):Prop:=∀x y,C x=some y->ρ x=some y
theorem Sub.refl (ρ:ae):Sub ρ ρ:=fun _ _ h=>h
theorem Sub.trans {a b c:ae} (h:Sub a b) (g:Sub b c):Sub a c:=fun x y e=>g x y (h x y e)
theorem Sub.put {C ρ:ae} (h:Sub C ρ) (x:Str) (y:D×Bool):Sub (bn C x y) (bn ρ x y):=fun z w e=>by
 rw [cY] at e ⊢
 by_cases hz:z=x
 ·rw [if_pos hz] at e ⊢;exact e
 ·rw [if_neg hz] at e ⊢;exact h z w e
theorem Sub.flt {C ρ:ae} (h:Sub C ρ) (scope:Scope):Sub (flt scope C) (flt scope ρ):=fun z w e=>by
 obtain ⟨e1,e2⟩:=gY e
 unfold Sp.flt
 rw [if_pos e2];exact h z w e1
theorem Sub.demX {C ρ:ae} (h:Sub C ρ) (x:Str):Sub (demX x C) (demX x ρ):=by
 unfold Sp.demX
 intro z w hz
 by_cases hx:z=x
 ·simp only [if_pos hx] at hz ⊢
  cases hc:C z with
  | none=>rw [hc] at hz;cases hz
  | some q=>rw [hc] at hz;rw [h z q hc];exact hz
 ·simp only [if_neg hx] at hz ⊢;exact h z w hz
theorem Sub.demA {C ρ:ae} (h:Sub C ρ) (x:Str):Sub (demA x C) (demA x ρ):=by
 intro z w hz
 unfold Sp.demA at hz ⊢
 by_cases hx:z=x
 ·simp only [if_pos hx] at hz ⊢
  cases hc:C z with
  | none=>rw [hc] at hz;cases hz
  | some q=>rw [hc] at hz;rw [h z q hc];exact hz
 ·simp only [if_neg hx] at hz ⊢;exact h z w hz
theorem Sub.demL:∀{es:List Expr} {C ρ:ae},Sub C ρ->Sub (demL es C) (demL es ρ)
 | [],_,_,h=>h
 | e::es,C,ρ,h=>by
  cases e with
  | Name x p=>exact Sub.demL (es:=es) (h.demA x)
  | Subscript a i p =>
   cases a with
   | Name x q=>exact Sub.demL (es:=es) (h.demA x)
   | _=>exact Sub.demL (es:=es) h
  | _=>exact Sub.demL (es:=es) h
theorem Sub.demote {C ρ:ae} (h:Sub C ρ) (e:Expr):Sub (demote e C) (demote e ρ):=by
 unfold Sp.demote
 split
 ·exact h.demX _
 ·exact h.demX _
 ·exact h.demL
 ·exact h
theorem mz {sc:Scope}:∀{es:List Expr} {ds:List D} {C C' ρ:ae},aN sc es ds C=some C'->Sub C ρ->∃ρ',aN sc es ds ρ=some ρ'/\Sub C' ρ':=by
 intro es
 induction es with
 | nil =>
  intro ds C C' ρ h s
  cases ds with
  | nil=>cases h;exact ⟨ρ,rfl,s⟩
  | cons d ds=>cases h
 | cons e es ih =>
  intro ds C C' ρ h s
  cases ds with
  | nil=>cases e <;> cases h
  | cons d ds =>
   cases e with
   | Name z p =>
    rw [aN] at h ⊢
    split at h
    ·rename_i hz
     rw [if_pos hz]
     exact ih h (s.put _ _)
    ·cases h
   | _=>cases h
theorem nO {sc:Scope} {tg:Expr} {d:D} {C C' ρ:ae} (h:bi sc tg d C=some C') (s:Sub C ρ):∃ρ',bi sc tg d ρ=some ρ'/\Sub C' ρ':=by
 unfold bi at h ⊢
 split at h
 ·split at h
  ·rename_i hx;cases h;exact ⟨_,if_pos hx,s.put _ _⟩
  ·cases h
 ·split at h
  ·exact mz h s
  ·cases h
 ·cases h
theorem dz {b:Bool} {m:List Prop} (h:b=true->aA m):aA (gd b m):=by
 cases m with
 | nil=>exact True.intro
 | cons p l=>exact ⟨h,True.intro⟩
theorem pq {b c:Bool} {r:Rs Bool} (h:b=true->aa r c) (hf:b=false->c=false):aa (sG b r) c:=by
 cases b with
 | true =>
  obtain ⟨m,rfl,hm⟩:=h rfl
  exact ⟨_,rfl,dz fun _=>hm⟩
 | false =>
  rw [hf rfl]
  cases r with
  | ok c' m=>exact ⟨_,rfl,dz fun z=>(by cases z)⟩
  | st=>exact ⟨_,rfl,True.intro⟩
theorem rK {b c:Bool} {r:Rs Bool} (h:b=false->aa r c) (hf:b=true->c=true):aa (xD b r) c:=by
 cases b with
 | false =>
  obtain ⟨m,rfl,hm⟩:=h rfl
  exact ⟨_,rfl,dz fun _=>hm⟩
 | true =>
  rw [hf rfl]
  cases r with
  | ok c' m=>exact ⟨_,rfl,dz fun z=>(by cases z)⟩
  | st=>exact ⟨_,rfl,True.intro⟩
theorem xR {t:Bool} {r s:R1} {d:D×Nat} (h:aa (if t=true then r else s) d):aa (xS t r s) d:=by
 cases t with
 | true =>
  rw [if_pos rfl] at h
  obtain ⟨m,rfl,hm⟩:=h
  cases s with
  | ok q n=>exact ⟨_,by show Rs.ok _ _=Rs.ok _ _;rw [oC,xL],cN.mpr ⟨dz fun _=>hm,dz fun z=>(by cases z)⟩⟩
  | st=>exact ⟨m,rfl,hm⟩
 | false =>
  rw [if_neg Bool.false_ne_true] at h
  obtain ⟨m,rfl,hm⟩:=h
  cases r with
  | ok q n=>exact ⟨_,by show Rs.ok _ _=Rs.ok _ _;rw [oE,xM],cN.mpr ⟨dz fun z=>(by cases z),dz fun _=>hm⟩⟩
  | st=>exact ⟨m,rfl,hm⟩
theorem i0 {α:Type} {p:D×Nat} {f:Bool->Rs α} {a:α} {b:Bool} (h:p.1=.bl b) (h2:aa (f b) a):aa (i5 p f) a:=by
 unfold i5;rw [h];exact h2
theorem EL {p:D×Nat} {f:Int->R1} {a:D×Nat} {b:Int} (h:p.1=.int b) (h2:aa (f b) a):aa (gW p f) a:=by
 unfold gW;rw [h];exact h2
structure Mo (Φ:Fx) (n:Nat):Prop where
 e:∀(e:Expr) {it:Bool} {sc:Scope} {C ρ:ae} {p:D×Nat},sizeOf e < n->aa (ar Φ e it sc C) p->Sub C ρ->aa (ar Φ e it sc ρ) p
 es:∀(es:List Expr) {sc:Scope} {C ρ:ae} {p:List D×Nat},sizeOf es < n->aa (bq Φ es sc C) p->Sub C ρ->aa (bq Φ es sc ρ) p
 b:∀(op:BoolOp) (es:List Expr) {sc:Scope} {C ρ:ae} {b:Bool},sizeOf es < n->aa (cQ Φ op es sc C) b->Sub C ρ->aa (cQ Φ op es sc ρ) b
 o:∀(e:Option Expr) {sc:Scope} {C ρ:ae} {o:Option Int},sizeOf e < n->aa (jJ Φ e sc C) o->Sub C ρ->aa (jJ Φ e sc ρ) o
theorem qj {step step2:D->Rs (Option (D×Nat))} (h:∀d r,aa (step d) r->aa (step2 d) r):∀{ds:List D} {q:List D×Nat},aa (fq step ds) q->aa (fq step2 ds) q
 | [],q,hq=>hq
 | d::ds,q,hq=>by
  obtain ⟨r,h1,h2⟩:=aq (show aa (Rs.bnd _ _) q from hq)
  obtain ⟨q1,h3,h4⟩:=aq h2
  exact aa.bnd (h _ _ h1) (aa.bnd (qj h h3) h4)
section
variable {Φ:Fx} {n:Nat} {it:Bool} {sc:Scope} {C ρ:ae} {p:D×Nat}
theorem xG (I:Mo Φ n) {a i:Expr} {pos:Pos} (hs:sizeOf (Expr.Subscript a i pos) < n+1) (h:aa ((ar Φ a false sc C).bnd fun p=>(ar Φ i false sc C).bnd fun q=>jP p q) p) (s:Sub C ρ):aa ((ar Φ a false sc ρ).bnd fun p=>(ar Φ i false sc ρ).bnd fun q=>jP p q) p:=by
 obtain ⟨x,h1,h⟩:=aq h
 obtain ⟨y,h2,h⟩:=aq h
 exact aa.bnd (I.e a (aU (by simp <;> omega) hs) h1 s) (aa.bnd (I.e i (aU (by simp <;> omega) hs) h2 s) h)
theorem HK (I:Mo Φ n) (e:Expr) (hs:sizeOf e < n+1) (h:aa (ar Φ e it sc C) p) (s:Sub C ρ):aa (ar Φ e it sc ρ) p:=by
 cases e with
 | Constant c k q=>exact h
 | Name x q =>
  replace h:aa (gU Φ x sc C) p:=h
  show aa (gU Φ x sc ρ) p
  unfold gU at h ⊢
  split at h
  ·rename_i hx
   rw [if_pos hx]
   split at h
   ·rename_i hg;rw [if_pos hg];exact h
   ·rename_i hg
    rw [if_neg hg]
    split at h
    ·rename_i y hy;rw [s x y hy];exact h
    ·exact (am h).elim
  ·exact (am h).elim
 | BinOp a op b q =>
  obtain ⟨x,h1,h⟩:=aq (show aa (Rs.bnd _ _) p from h)
  obtain ⟨y,h2,h⟩:=aq h
  exact aa.bnd (I.e a (aU (by simp <;> omega) hs) h1 s) (aa.bnd (I.e b (aU (by simp <;> omega) hs) h2 s) h)
 | UnaryOp op a q =>
  obtain ⟨x,h1,h⟩:=aq (show aa (Rs.bnd _ _) p from h)
  exact aa.bnd (I.e a (aU (by simp <;> omega) hs) h1 s) h
 | BoolOp op es q =>
  rw [lV] at h ⊢
  split at h
  ·exact (am h).elim
  ·rename_i hne
   rw [if_neg hne]
   obtain ⟨b,h1,h⟩:=aq h
   exact aa.bnd (I.b op es (aU (by simp <;> omega) hs) h1 s) h
 | Compare a ops bs q =>
  match ops,bs,hs,h with
  | [op],[b],hs,h =>
   obtain ⟨x,h1,h⟩:=aq (show aa (Rs.bnd _ _) p from h)
   obtain ⟨y,h2,h⟩:=aq h
   exact aa.bnd (I.e a (aU (by simp <;> omega) hs) h1 s) (aa.bnd (I.e b (aU (by simp <;> omega) hs) h2 s) h)
  | [],bs,_,h=>exact (am h).elim
  | [op],[],_,h=>exact (am h).elim
  | [op],_::_::_,_,h=>exact (am h).elim
  | [op,op2],[b,c],hs,h =>
   obtain ⟨x,h1,h⟩:=aq (show aa (Rs.bnd _ _) p from h)
   obtain ⟨y,h2,h⟩:=aq h
   obtain ⟨z,h3,h⟩:=aq h
   exact aa.bnd (I.e a (aU (by simp <;> omega) hs) h1 s) (aa.bnd (I.e b (aU (by simp <;> omega) hs) h2 s) (aa.bnd (I.e c (aU (by simp <;> omega) hs) h3 s) h))
  | [_,_],[],_,h=>exact (am h).elim
  | [_,_],[_],_,h=>exact (am h).elim
  | [_,_],_::_::_::_,_,h=>exact (am h).elim
  | _::_::_::_,bs,_,h=>exact (am h).elim
 | IfExp c a b q =>
  obtain ⟨x,h1,h⟩:=aq (show aa (Rs.bnd _ _) p from h)
  obtain ⟨t,ht,h⟩:=gE h
  obtain ⟨l,h,hp⟩:=h
  obtain ⟨m,h,hm⟩:=qx h hp
  refine aa.bnd (I.e c (aU (by simp <;> omega) hs) h1 s) (i0 ht (xR ?_))
  cases t with
  | true=>exact I.e a (aU (by simp <;> omega) hs) ⟨m,h,hm⟩ s
  | false=>exact I.e b (aU (by simp <;> omega) hs) ⟨m,h,hm⟩ s
 | Tuple es k q =>
  obtain ⟨x,h1,h⟩:=aq (show aa (Rs.bnd _ _) p from h)
  exact aa.bnd (I.es es (aU (by simp <;> omega) hs) h1 s) h
 | List es q =>
  obtain ⟨x,h1,h⟩:=aq (show aa (Rs.bnd _ _) p from h)
  exact aa.bnd (I.es es (aU (by simp <;> omega) hs) h1 s) h
 | Attribute a f q =>
  cases a with
  | Name x pn =>
   obtain ⟨y,h1,h⟩:=aq (show aa (Rs.bnd _ _) p from h)
   exact aa.bnd (I.e (.Name x pn) (it:=false) (aU (by simp <;> omega) hs) h1 s) h
  | _=>exact (am h).elim
 | Dict ks vs q =>
  match ks,vs,h with
  | [],[],h=>exact h
  | _::_,_,h=>exact (am h).elim
  | [],_::_,h=>exact (am h).elim
 | Subscript a i q =>
  cases i with
  | Slice lo hi st p2 =>
   cases st with
   | none =>
    obtain ⟨x,h1,h⟩:=aq (show aa (Rs.bnd _ _) p from h)
    obtain ⟨y,h2,h⟩:=aq h
    obtain ⟨z,h3,h⟩:=aq h
    exact aa.bnd (I.e a (aU (by simp <;> omega) hs) h1 s) (aa.bnd (I.o lo (aU (by simp <;> omega) hs) h2 s) (aa.bnd (I.o hi (aU (by simp <;> omega) hs) h3 s) h))
   | some e=>exact xG I hs h s
  | _=>exact xG I hs h s
 | Call f args kws q =>
  cases f with
  | Name f fp =>
   cases kws with
   | nil =>
    rw [fM] at h ⊢
    split at h
    ·rename_i hf
     rw [if_pos hf]
     obtain ⟨x,h1,h⟩:=aq h
     exact aa.bnd (I.es args (aU (by simp <;> omega) hs) h1 s) h
    ·exact (am h).elim
   | cons _ _=>exact (am h).elim
  | Attribute a m ap =>
   cases kws with
   | nil =>
    rw [hJ] at h ⊢
    split at h
    ·rename_i hf
     rw [if_pos hf]
     obtain ⟨x,h1,h⟩:=aq h
     obtain ⟨y,h2,h⟩:=aq h
     exact aa.bnd (I.e a (aU (by simp <;> omega) hs) h1 s) (aa.bnd (I.es args (aU (by simp <;> omega) hs) h2 s) h)
    ·exact (am h).elim
   | cons _ _=>exact (am h).elim
  | _=>exact (am h).elim
 | ListComp elt gens scope q =>
  obtain ⟨l0,h0,_⟩:=id h
  obtain ⟨tg,iter,ifs,rfl⟩:=lN h0
  rw [lU] at h ⊢
  split at h
  ·rename_i hc
   rw [if_pos hc]
   obtain ⟨x,h1,h⟩:=aq h
   refine aa.bnd (I.e iter (by first|omega | (simp at *;omega)) h1 s) ?_
   split at h
   ·split at h
    ·rename_i hl
     rw [if_pos hl]
     obtain ⟨u0,h0',h⟩:=aq h
     obtain ⟨y,h2,h⟩:=aq h
     refine aa.bnd h0' (aa.bnd (qj (fun d r hr=>?_) h2) h)
     split at hr
     ·exact (am hr).elim
     ·rename_i C' hb
      obtain ⟨ρ',hb',s'⟩:=nO hb (s.flt scope)
      rw [hb']
      obtain ⟨b,h3,hr⟩:=aq hr
      refine aa.bnd (I.b .And ifs (by first|omega | (simp at *;omega)) h3 s') ?_
      cases b with
      | false=>exact hr
      | true =>
       rw [cond_true] at hr ⊢
       obtain ⟨z,h4,hr⟩:=aq hr
       exact aa.bnd (I.e elt (by first|omega | (simp at *;omega)) h4 s') hr
    ·exact (am h).elim
   ·exact (am h).elim
  ·exact (am h).elim
 | _=>exact (am h).elim
theorem Ez (I:Mo Φ n) (es:List Expr) {p:List D×Nat} (hs:sizeOf es < n+1) (h:aa (bq Φ es sc C) p) (s:Sub C ρ):aa (bq Φ es sc ρ) p:=by
 cases es with
 | nil=>exact h
 | cons e es =>
  obtain ⟨x,h1,h⟩:=aq (show aa (Rs.bnd _ _) p from h)
  obtain ⟨y,h2,h⟩:=aq h
  exact aa.bnd (I.e e (aU (by simp <;> omega) hs) h1 s) (aa.bnd (I.es es (aU (by simp <;> omega) hs) h2 s) h)
theorem HL (I:Mo Φ n) (op:BoolOp) (es:List Expr) {b:Bool} (hs:sizeOf es < n+1) (h:aa (cQ Φ op es sc C) b) (s:Sub C ρ):aa (cQ Φ op es sc ρ) b:=by
 cases es with
 | nil=>cases op <;> exact h
 | cons e es =>
  cases op with
  | And =>
   obtain ⟨x,h1,h⟩:=aq (show aa (Rs.bnd _ _) b from h)
   obtain ⟨t,ht,l,h,hp⟩:=gE h
   refine aa.bnd (I.e e (aU (by simp <;> omega) hs) h1 s) (i0 ht ?_)
   rcases pp h hp with ⟨rfl,m,h,pm⟩ | ⟨rfl,rfl⟩
   ·exact pq (fun _=>I.b .And es (aU (by simp <;> omega) hs) ⟨m,h,pm⟩ s) fun z=>(by cases z)
   ·exact pq (fun z=>(by cases z)) fun _=>rfl
  | Or =>
   obtain ⟨x,h1,h⟩:=aq (show aa (Rs.bnd _ _) b from h)
   obtain ⟨t,ht,l,h,hp⟩:=gE h
   refine aa.bnd (I.e e (aU (by simp <;> omega) hs) h1 s) (i0 ht ?_)
   rcases qf h hp with ⟨rfl,m,h,pm⟩ | ⟨rfl,rfl⟩
   ·exact rK (fun _=>I.b .Or es (aU (by simp <;> omega) hs) ⟨m,h,pm⟩ s) fun z=>(by cases z)
   ·exact rK (fun z=>(by cases z)) fun _=>rfl
theorem HJ (I:Mo Φ n) (e:Option Expr) {o:Option Int} (hs:sizeOf e < n+1) (h:aa (jJ Φ e sc C) o) (s:Sub C ρ):aa (jJ Φ e sc ρ) o:=by
 cases e with
 | none=>exact h
 | some e =>
  obtain ⟨x,h1,h⟩:=aq (show aa (Rs.bnd _ _) o from h)
  exact aa.bnd (I.e e (aU (by simp <;> omega) hs) h1 s) h
end
theorem gG (Φ:Fx):∀n,Mo Φ n
 | 0=>⟨fun _ _ _ _ _ _ h=>absurd h (Nat.not_lt_zero _),fun _ _ _ _ _ h=>absurd h (Nat.not_lt_zero _),fun _ _ _ _ _ _ h=>absurd h (Nat.not_lt_zero _),fun _ _ _ _ _ h=>absurd h (Nat.not_lt_zero _)⟩
 | n+1=>⟨fun e _ _ _ _ _ hs h s=>HK (gG Φ n) e hs h s,fun e _ _ _ _ hs h s=>Ez (gG Φ n) e hs h s,fun op e _ _ _ _ hs h s=>HL (gG Φ n) op e hs h s,fun e _ _ _ _ hs h s=>HJ (gG Φ n) e hs h s⟩
theorem cE {Φ:Fx} {e:Expr} {it:Bool} {sc:Scope} {C ρ:ae} {p:D×Nat} (h:aa (ar Φ e it sc C) p) (s:Sub C ρ):aa (ar Φ e it sc ρ) p:=(gG Φ _).e e (Nat.lt_succ_self _) h s
theorem js {Φ:Fx} {e:List Expr} {sc:Scope} {C ρ:ae} {p:List D×Nat} (h:aa (bq Φ e sc C) p) (s:Sub C ρ):aa (bq Φ e sc ρ) p:=(gG Φ _).es e (Nat.lt_succ_self _) h s
def xa:Fl->Fl->Prop
 | .nx a,.nx b=>Sub a b
 | .bk a,.bk b=>Sub a b
 | .ct a,.ct b=>Sub a b
 | .rt a,.rt b=>a=b
 | _,_=>False
theorem cD {α:Type} {a:α}:aa (.ok a []) a:=⟨[],rfl,True.intro⟩
def iw (f:ae->Rs Fl):Prop:=∀C ρ fl,aa (f C) fl->Sub C ρ->∃fl',aa (f ρ) fl'/\xa fl fl'
theorem uq {f:ae->Rs Fl} (h:iw f) {x y z:Fl} (hx:aa (jH f x) z) (s:xa x y):∃z',aa (jH f y) z'/\xa z z':=by
 cases x <;> cases y <;> first|exact s.elim|skip
 ·exact h _ _ _ hx s
 ·cases aB hx;cases s;exact ⟨_,cD,rfl⟩
 ·cases aB hx;exact ⟨_,cD,s⟩
 ·exact h _ _ _ hx s
theorem ur {sc:Scope} {tg:Expr} {body:ae->Rs Fl} (hb:iw body):∀ds,iw (cK (bi sc tg) body ds)
 | []=>fun C ρ fl h s=>by cases aB h;exact ⟨_,cD,s⟩
 | d::ds=>fun C ρ fl h s=>by
  replace h:aa (match bi sc tg d C with|none=>(.st:Rs Fl) | some ρ1=>(body ρ1).bnd (jH (cK (bi sc tg) body ds))) fl:=h
  split at h
  ·exact (am h).elim
  ·rename_i C1 hC
   obtain ⟨ρ1,hρ,s1⟩:=nO hC s
   obtain ⟨x,h1,h2⟩:=aq h
   obtain ⟨y,h3,s2⟩:=hb _ _ _ h1 s1
   obtain ⟨z,h4,s3⟩:=uq (ur hb ds) h2 s2
   refine ⟨z,?_,s3⟩
   show aa (match bi sc tg d ρ with|none=>(.st:Rs Fl) | some ρ1=>(body ρ1).bnd (jH (cK (bi sc tg) body ds))) z
   rw [hρ];exact aa.bnd h3 h4
theorem xF {test:ae->Rs Bool} {body:ae->Rs Fl} (ht:∀C ρ b,aa (test C) b->Sub C ρ->aa (test ρ) b) (hb:iw body):∀n,iw (mv test body n)
 | 0=>fun C ρ fl h s=>(am h).elim
 | n+1=>fun C ρ fl h s=>by
  obtain ⟨b,h1,h2⟩:=aq (show aa (Rs.bnd _ _) fl from h)
  have h1':=ht _ _ _ h1 s
  cases b with
  | false=>cases aB h2;exact ⟨_,aa.bnd h1' cD,s⟩
  | true =>
   obtain ⟨x,h3,h4⟩:=aq (show aa (Rs.bnd _ _) fl from h2)
   obtain ⟨y,h5,s2⟩:=hb _ _ _ h3 s
   obtain ⟨z,h6,s3⟩:=uq (xF ht hb n) h4 s2
   exact ⟨z,aa.bnd h1' (aa.bnd h5 h6),s3⟩
theorem BW {Φ:Fx} {tgs:List Expr} {e:Expr} {sc:Scope}:iw (kW Φ tgs e sc):=by
 intro C ρ fl h s
 unfold kW at h ⊢
 split at h
 ·obtain ⟨p,h1,h⟩:=aq h
  unfold lE at h
  split at h
  ·rename_i hx
   split at h
   ·rename_i ho;cases aB h
    exact ⟨.nx _,aa.bnd (cE h1 s) (by unfold lE;rw [if_pos hx,ho];exact cD),s.put _ _⟩
   ·rename_i ho;cases aB h
    exact ⟨.nx _,aa.bnd (cE h1 s) (by unfold lE;rw [if_pos hx,ho];exact cD),s.put _ _⟩
   ·exact (am h).elim
  ·exact (am h).elim
 ·split at h
  ·rename_i ht
   rw [if_pos ht]
   unfold nq at h ⊢
   split at h
   ·split at h
    ·rename_i hp
     rw [if_pos hp]
     obtain ⟨q,h1,h⟩:=aq h
     split at h
     ·rename_i u v hd
      split at h
      ·rename_i hf
       cases aB h
       refine ⟨.nx _,aa.bnd (js h1 s) ?_,(s.put _ _).put _ _⟩
       rw [hd];dsimp only;rw [if_pos hf];exact cD
      ·exact (am h).elim
     ·exact (am h).elim
    ·exact (am h).elim
   ·exact (am h).elim
  ·rename_i ht
   rw [if_neg ht]
   obtain ⟨p,h1,h⟩:=aq h
   split at h
   ·rename_i ho
    cases aB h
    refine ⟨.nx _,aa.bnd (cE h1 s) (by rw [if_pos ho];exact cD),?_⟩
    show Sub _ _
    unfold vY
    split
    ·exact (s.put _ _).put _ _
    ·exact s
   rename_i ho
   split at h
   ·rename_i ds hd
    split at h
    ·rename_i hf
     split at h
     ·rename_i C' hb
      cases aB h
      obtain ⟨ρ',hb',s'⟩:=mz hb s
      refine ⟨.nx _,aa.bnd (cE h1 s) ?_,s'⟩
      rw [if_neg ho,hd];dsimp only;rw [if_pos hf,hb'];exact cD
     ·exact (am h).elim
    ·exact (am h).elim
   ·exact (am h).elim
 ·split at h
  ·rename_i hc
   rw [if_pos hc]
   obtain ⟨p,h1,h⟩:=aq h
   obtain ⟨q,h2,h⟩:=aq h
   rcases nQ h with ⟨l,j,l',a1,a2,a3,hj,hs,hf,rfl⟩ | hF
   ·refine ⟨.nx _,aa.bnd (cE h1 s) (aa.bnd (cE h2 s) ?_),s.put _ _⟩
    rw [hj];unfold rg;rw [s _ _ a1];dsimp only;rw [if_pos a3,hs]
    exact ⟨_,rfl,a2,hf,True.intro⟩
   ·exact hF.elim
  ·exact (am h).elim
 ·exact (am h).elim
theorem BV {Φ:Fx} {t e:Expr} {op:Operator} {sc:Scope}:iw (kU Φ t op e sc):=by
 intro C ρ fl h s
 unfold kU at h ⊢
 split at h
 ·split at h
  ·rename_i hx
   rw [if_pos hx]
   split at h
   ·rename_i p hp
    rw [s _ _ hp]
    obtain ⟨r,h1,h⟩:=aq h
    cases aB h
    obtain ⟨a,ha,h3⟩:=lI h1
    obtain ⟨q,h2,h4⟩:=aq h3
    exact ⟨.nx _,aa.bnd (EL ha (aa.bnd (cE h2 s) h4)) cD,s.put _ _⟩
   ·exact (am h).elim
  ·exact (am h).elim
 ·exact (am h).elim
theorem BU {Φ:Fx} {e:Expr} {sc:Scope}:iw (g7 Φ e sc):=by
 intro C ρ fl h s
 unfold g7 at h ⊢
 split at h
 ·split at h
  ·rename_i hln
   rw [if_pos hln]
   obtain ⟨p,h1,h⟩:=aq h
   split at h
   ·rename_i M hM
    obtain ⟨l,a1,a3,h⟩:=oh h
    obtain ⟨l',h2,h⟩:=aq h
    cases aB h
    refine ⟨.nx _,aa.bnd (js h1 s) ?_,s.put _ _⟩
    unfold oj;rw [s _ _ a1];dsimp only;rw [if_pos a3];exact aa.bnd h2 cD
   ·exact (am h).elim
  ·exact (am h).elim
 ·obtain ⟨p,h1,h⟩:=aq h
  cases aB h
  exact ⟨.nx _,aa.bnd (cE h1 s) cD,s⟩
 ·exact (am h).elim
structure DK (Φ:Fx) (n:Nat):Prop where
 s:∀(st:Stmt) (sc:Scope),sizeOf st < n->iw (ef Φ st sc)
 ss:∀(st:List Stmt) (sc:Scope),sizeOf st < n->iw (ay Φ st sc)
theorem Ey {Φ:Fx} {n:Nat} (I:DK Φ n) (st:Stmt) (sc:Scope) (hs:sizeOf st < n+1):iw (ef Φ st sc):=by
 intro C ρ fl h s
 cases st with
 | Return e p =>
  cases e with
  | none=>cases aB h;exact ⟨_,cD,rfl⟩
  | some e =>
   obtain ⟨p,h1,h⟩:=aq (show aa (Rs.bnd _ _) fl from h)
   have s':Sub (nY e C) (nY e ρ):=by
    unfold nY
    cases nj e with
    | false=>exact s
    | true =>
     intro x y hx
     have hx:(C x).map (fun p=>(p.1,false))=some y:=hx
     show (ρ x).map (fun p=>(p.1,false))=some y
     cases e:C x with
     | none=>rw [e] at hx;cases hx
     | some z=>rw [e] at hx;rw [s x z e];exact hx
   refine ⟨fl,aa.bnd (cE h1 s') h,?_⟩
   unfold rA at h
   split at h
   ·cases aB h;rfl
   ·exact (am h).elim
 | Pass p=>cases aB h;exact ⟨_,cD,s⟩
 | Break p=>cases aB h;exact ⟨_,cD,s⟩
 | Continue p=>cases aB h;exact ⟨_,cD,s⟩
 | Assign tgs e p=>exact BW C ρ fl h s
 | AugAssign t op e p=>exact BV C ρ fl h s
 | Expr e p=>exact BU C ρ fl h s
 | If c a b p =>
  obtain ⟨p,h1,h⟩:=aq (show aa (Rs.bnd _ _) fl from h)
  obtain ⟨t,ht,h⟩:=gE h
  cases t with
  | true =>
   obtain ⟨z,h2,s2⟩:=I.ss a sc (aU (by simp <;> omega) hs) C ρ fl h s
   exact ⟨z,aa.bnd (cE h1 s) (i0 ht h2),s2⟩
  | false =>
   obtain ⟨z,h2,s2⟩:=I.ss b sc (aU (by simp <;> omega) hs) C ρ fl h s
   exact ⟨z,aa.bnd (cE h1 s) (i0 ht h2),s2⟩
 | For tg it body els p =>
  rw [lT] at h ⊢
  split at h
  ·rename_i he
   rw [if_pos he]
   obtain ⟨p,h1,h⟩:=aq h
   split at h
   ·rename_i ds hd
    split at h
    ·rename_i hk
     obtain ⟨z,h2,s2⟩:=ur (I.ss body sc (aU (by simp <;> omega) hs)) ds _ _ fl h (s.demote it)
     refine ⟨z,aa.bnd (cE h1 (s.demote it)) ?_,s2⟩
     rw [hd];dsimp only;rw [if_pos hk];exact h2
    ·exact (am h).elim
   ·exact (am h).elim
  ·exact (am h).elim
 | While c body els p =>
  rw [uR] at h ⊢
  split at h
  ·rename_i he
   rw [if_pos he]
   refine xF (fun C ρ b hb s=>?_) (I.ss body sc (aU (by simp <;> omega) hs)) bN C ρ fl h s
   obtain ⟨q,h1,hb⟩:=aq hb
   exact aa.bnd (cE h1 s) hb
  ·exact (am h).elim
 | _=>exact (am h).elim
theorem BT {Φ:Fx} {n:Nat} (I:DK Φ n) (ss:List Stmt) (sc:Scope) (hs:sizeOf ss < n+1):iw (ay Φ ss sc):=by
 intro C ρ fl h s
 cases ss with
 | nil=>cases aB h;exact ⟨_,cD,s⟩
 | cons st ss =>
  rcases kC h with ⟨C',h1,h2⟩ | ⟨h1,h2⟩
  ·obtain ⟨x,h3,s2⟩:=I.s st sc (aU (by simp <;> omega) hs) C ρ _ h1 s
   cases x with
   | nx ρ' =>
    obtain ⟨z,h4,s3⟩:=I.ss ss sc (aU (by simp <;> omega) hs) C' ρ' fl h2 s2
    exact ⟨z,aS h3 h4,s3⟩
   | rt _=>exact s2.elim
   | bk _=>exact s2.elim
   | ct _=>exact s2.elim
  ·obtain ⟨x,h3,s2⟩:=I.s st sc (aU (by simp <;> omega) hs) C ρ _ h2 s
   refine ⟨x,iD h3 fun ρ' z=>?_,s2⟩
   subst z
   cases fl <;> first|exact h1 _ rfl|exact s2
theorem ju (Φ:Fx):∀n,DK Φ n
 | 0=>⟨fun _ _ h=>absurd h (Nat.not_lt_zero _),fun _ _ h=>absurd h (Nat.not_lt_zero _)⟩
 | n+1=>⟨fun e sc hs=>Ey (ju Φ n) e sc hs,fun e sc hs=>BT (ju Φ n) e sc hs⟩
theorem zr {Φ:Fx} {ss:List Stmt} {sc:Scope} {C C' ρ:ae} (h:aa (ay Φ ss sc C) (.nx C')) (s:Sub C ρ):∃ρ',aa (ay Φ ss sc ρ) (.nx ρ')/\Sub C' ρ':=by
 obtain ⟨z,h1,h2⟩:=(ju Φ _).ss ss sc (Nat.lt_succ_self _) C ρ _ h s
 cases z with
 | nx ρ'=>exact ⟨ρ',h1,h2⟩
 | rt _=>exact h2.elim
 | bk _=>exact h2.elim
 | ct _=>exact h2.elim
theorem zq {Φ:Fx} {ss:List Stmt} {sc:Scope} {C ρ:ae} {d:D} (h:aa (ay Φ ss sc C) (.rt d)) (s:Sub C ρ):aa (ay Φ ss sc ρ) (.rt d):=by
 obtain ⟨z,h1,h2⟩:=(ju Φ _).ss ss sc (Nat.lt_succ_self _) C ρ _ h s
 cases z with
 | rt _=>cases h2;exact h1
 | nx _=>exact h2.elim
 | bk _=>exact h2.elim
 | ct _=>exact h2.elim
def bw:List (Str×D×Bool)->ae
 | []=>fun _=>none
 | p::l=>fun z=>if z=p.1 then some p.2 else bw l z
theorem aT {ρ:ae}:Sub (bw []) ρ:=fun _ _ h=>by cases h
theorem au {ρ:ae} {x:Str} {y:D×Bool} {l:List (Str×D×Bool)} (h:ρ x=some y) (g:Sub (bw l) ρ):Sub (bw ((x,y)::l)) ρ:=fun z w e=>by
 replace e:(if z=x then some y else bw l z)=some w:=e
 by_cases hz:z=x
 ·rw [if_pos hz] at e;cases e;rw [hz];exact h
 ·rw [if_neg hz] at e;exact g z w e
theorem Sub.get {C ρ:ae} {x:Str} {y:D×Bool} (s:Sub C ρ) (h:C x=some y:=by rfl):ρ x=some y:=s x y h
end Sp
namespace Sp
open PySem PySem.Spec PyProof.Rows L2
section
variable {Φ:Fx} {sc:Scope} {ρ ρ':ae} {fl:Fl} {ss:List Stmt}
theorem bM {C C':ae} {P:ae->Prop} (s:Sub C ρ) (h:aa (ay Φ ss sc C) (.nx C')) (k:∀ρ',Sub C' ρ'->P ρ'):∃ρ',aa (ay Φ ss sc ρ) (.nx ρ')/\P ρ' :=
 let ⟨ρ',h1,h2⟩:=zr h s;⟨ρ',h1,k ρ' h2⟩
theorem cC {C:ae} {d:D} (s:Sub C ρ) (h:aa (ay Φ ss sc C) (.rt d)):aa (ay Φ ss sc ρ) (.rt d):=zq h s
theorem uT {C:ae} {e:Expr} {it:Bool} {p:D×Nat} (s:Sub C ρ) (h:aa (ar Φ e it sc C) p):aa (ar Φ e it sc ρ) p:=cE h s
theorem yJ {tg it:Expr} {body:List Stmt} {p:Pos} {d:D} {ds:List D} {k:Nat} (ah:List D->ae->Prop) (hi:aa (ar Φ it true sc (demote it ρ)) (d,k)) (h0:ah ds (demote it ρ))
  (step:∀d l ρ,ah (d::l) ρ->∃ρ1,bi sc tg d ρ=some ρ1/\∃ρ2,aa (ay Φ body sc ρ1) (.nx ρ2)/\ah l ρ2) (rest:∀ρ',ah [] ρ'->aa (ay Φ ss sc ρ') fl) (hd:items d=some ds:=by rfl) (hk:k<=1:=by first|exact Nat.le_refl 1|exact Nat.zero_le 1) (ht:cO it tg=true:=by rfl):aa (ay Φ (.For tg it body [] p::ss) sc ρ) fl:=by
 obtain ⟨ρ',h1,h2⟩:=oR (bind:=bi sc tg) (body:=ay Φ body sc) ah (fun d l ρ h=>let ⟨ρ1,a,ρ2,b,c⟩:=step d l ρ h;⟨ρ1,ρ2,a,.inl b,c⟩) h0
 exact aS (oW hi hd hk ht h1) (rest ρ' h2)
theorem yI {tg it:Expr} {body:List Stmt} {p:Pos} {d:D} {ds:List D} {k:Nat} (ah:List D->ae->Prop) (R:D->Prop) (hi:aa (ar Φ it true sc (demote it ρ)) (d,k)) (h0:ah ds (demote it ρ))
  (step:∀d l ρ,ah (d::l) ρ->∃ρ1,bi sc tg d ρ=some ρ1/\((∃ρ2,aa (ay Φ body sc ρ1) (.nx ρ2)/\ah l ρ2)\/∃r,aa (ay Φ body sc ρ1) (.rt r)/\R r)) (rest:∀ρ',ah [] ρ'->∃r,aa (ay Φ ss sc ρ') (.rt r)/\R r) (hd:items d=some ds:=by rfl) (hk:k<=1:=by first|exact Nat.le_refl 1|exact Nat.zero_le 1) (ht:cO it tg=true:=by rfl):∃r,aa (ay Φ (.For tg it body [] p::ss) sc ρ) (.rt r)/\R r:=by
 rcases qD (bind:=bi sc tg) (body:=ay Φ body sc) ah R (fun d l ρ h=>by
  obtain ⟨ρ1,a,b⟩:=step d l ρ h
  rcases b with ⟨ρ2,b,c⟩ | ⟨r,b,c⟩
  ·exact ⟨ρ1,a,.inl ⟨ρ2,.inl b,c⟩⟩
  ·exact ⟨ρ1,a,.inr ⟨r,b,c⟩⟩) h0 with ⟨ρ',h1,h2⟩ | ⟨r,h1,h2⟩
 ·obtain ⟨r,h3,h4⟩:=rest ρ' h2
  exact ⟨r,aS (oW hi hd hk ht h1) h3,h4⟩
 ·exact ⟨r,bf (oW hi hd hk ht h1),h2⟩
theorem pZ {tg it:Expr} {body:List Stmt} {p:Pos} {n:Nat} (ah:Nat->ae->Prop) (hi:aa (ar Φ it true sc (demote it ρ)) (.lst ((List.range n).map fun i=>.int (i:Nat)),0)) (h0:ah 0 (demote it ρ))
  (step:∀i ρ,i < n->ah i ρ->∃ρ1,bi sc tg (.int (i:Nat)) ρ=some ρ1/\∃ρ2,aa (ay Φ body sc ρ1) (.nx ρ2)/\ah (i+1) ρ2) (rest:∀ρ',ah n ρ'->aa (ay Φ ss sc ρ') fl) (ht:cO it tg=true:=by rfl):aa (ay Φ (.For tg it body [] p::ss) sc ρ) fl:=by
 refine yJ (fun rem ρ => ∃i,i<=n/\rem=(List.range' i (n - i)).map (fun i=>D.int (i:Nat))/\ah i ρ) hi ⟨0,Nat.zero_le _,by rw [List.range_eq_range'];simp,h0⟩ ?_ ?_ rfl (Nat.zero_le 1) ht
 ·rintro d l ρ ⟨i,hi,e,h⟩
  have hlt:i < n:=by
   rcases Nat.lt_or_ge i n with h|h
   ·exact h
   ·rw [show n - i=0 by omega] at e;cases e
  obtain ⟨m,hm⟩:∃m,n - i=m+1:=⟨n - i - 1,by omega⟩
  rw [hm,List.range'_succ,List.map_cons] at e
  cases e
  obtain ⟨ρ1,h1,ρ2,h2,h3⟩:=step i ρ hlt h
  exact ⟨ρ1,h1,ρ2,h2,i+1,hlt,by rw [show n - (i+1)=m by omega],h3⟩
 ·rintro ρ ⟨i,hi,e,h⟩
  have:i=n:=by
   rcases Nat.lt_or_ge i n with h|h
   ·obtain ⟨m,hm⟩:∃m,n - i=m+1:=⟨n - i - 1,by omega⟩
    rw [hm,List.range'_succ] at e;cases e
   ·omega
  subst this
  exact rest ρ h
theorem uV {a b:Expr} {op:CmpOp} {p:Pos} {it:Bool} {x y:D} {k j:Nat} {r:Bool} (ha:aa (ar Φ a false sc ρ) (x,k)) (hb:aa (ar Φ b false sc ρ) (y,j)) (h:aa (iW op x y) r):aa (ar Φ (.Compare a [op] [b] p) it sc ρ) (.bl r,0) :=
 aa.bnd ha (aa.bnd hb (aa.bnd h cD))
theorem uU {a:Expr} {p:Pos} {it:Bool} {b:Bool} {k:Nat} (ha:aa (ar Φ a false sc ρ) (.bl b,k)):aa (ar Φ (.UnaryOp .Not a p) it sc ρ) (.bl (!b),0):=aa.bnd ha cD
theorem bg {op:BoolOp} {e:Expr} {es:List Expr} {p:Pos} {it:Bool} {b:Bool} (h:aa (cQ Φ op (e::es) sc ρ) b):aa (ar Φ (.BoolOp op (e::es) p) it sc ρ) (.bl b,0):=by
 rw [lV,if_neg (show ¬ (List.isEmpty (e::es)=true) from Bool.false_ne_true)];exact aa.bnd h cD
theorem cn {e:Expr} {es:List Expr} {b c:Bool} {k:Nat} (h:aa (ar Φ e false sc ρ) (.bl b,k)) (h1:b=true->aa (cQ Φ .And es sc ρ) c) (h2:b=false->c=false):aa (cQ Φ .And (e::es) sc ρ) c:=aa.bnd h (i0 rfl (pq h1 h2))
theorem cF {e:Expr} {es:List Expr} {b c:Bool} {k:Nat} (h:aa (ar Φ e false sc ρ) (.bl b,k)) (h1:b=false->aa (cQ Φ .Or es sc ρ) c) (h2:b=true->c=true):aa (cQ Φ .Or (e::es) sc ρ) c:=aa.bnd h (i0 rfl (rK h1 h2))
theorem fZ {e:Expr} {es:List Expr} {c:Bool} {k:Nat} (h:aa (ar Φ e false sc ρ) (.bl true,k)) (h1:aa (cQ Φ .And es sc ρ) c):aa (cQ Φ .And (e::es) sc ρ) c:=cn h (fun _=>h1) fun z=>by cases z
theorem bS {e:Expr} {es:List Expr} {c:Bool} {k:Nat} (h:aa (ar Φ e false sc ρ) (.bl false,k)) (h1:aa (cQ Φ .Or es sc ρ) c):aa (cQ Φ .Or (e::es) sc ρ) c:=cF h (fun _=>h1) fun z=>by cases z
theorem uS:aa (cQ Φ .And [] sc ρ) true:=cD
theorem eZ:aa (cQ Φ .Or [] sc ρ) false:=cD
theorem aa.bl {r:R1} {b c:Bool} {k:Nat} (h:aa r (.bl b,k)) (e:b=c):aa r (.bl c,k):=e ▸ h
theorem g8 {a:Expr} {lo hi:Option Expr} {p p2:Pos} {it:Bool} {x:D} {k:Nat} {l h:Option Int} {r:D×Nat} (ha:aa (ar Φ a false sc ρ) (x,k)) (hl:aa (jJ Φ lo sc ρ) l) (hh:aa (jJ Φ hi sc ρ) h) (hr:aa (Φ.slf x l h) r):aa (ar Φ (.Subscript a (.Slice lo hi none p2) p) it sc ρ) r:=aa.bnd ha (aa.bnd hl (aa.bnd hh hr))
theorem g9 {α:Type} {elt tg iter:Expr} {scope:Scope} {p:Pos} {it:Bool} {d:D} {g f:α->D} {l:List α} {k:Nat} (hi:aa (ar Φ iter true sc ρ) (d,k)) (hd:items d=some (l.map g)) (hl:l.length<=bN) (hk:ax (l.map g)=true\/k<=1)
  (h:∀x∈l,∃ρ',bi scope tg (g x) (flt scope ρ)=some ρ'/\aa (ar Φ elt false scope ρ') (f x,0)) (hc:iZ sc scope=true:=by rfl) (ht:cO iter tg=true:=by rfl):aa (ar Φ (.ListComp elt [⟨tg,iter,[],0⟩] scope p) it sc ρ) (.lst (l.map f),0):=by
 refine zP hi hd ⟨by rw [List.length_map];exact hl,hk⟩ (mL fun x hx=>?_) (Nat.zero_le _) hc ht
 obtain ⟨ρ',h1,h2⟩:=h x hx
 rw [h1]
 refine aa.bnd (a:=true) cD ?_
 rw [cond_true]
 exact aa.bnd h2 cD
end
theorem df {us:List Value} (h:us.length=1):∃a,us=[a]:=List.length_eq_one_iff.mp h
theorem HM {us:List Value} {n:Nat} (h:us.length=n+1):∃a r,us=a::r/\r.length=n:=by
 cases us with
 | nil=>cases h
 | cons a r=>exact ⟨a,r,rfl,by simpa using h⟩
theorem rY {us:List Value} (h:us.length=2):∃a b,us=[a,b]:=by
 obtain ⟨a,r,e1,h1⟩:=HM h;subst e1;obtain ⟨b,rfl⟩:=df h1;exact ⟨a,b,rfl⟩
end Sp
namespace Qm
end Qm
namespace K
open PySem L2 Sp
structure Dc (α:Type) where
 dec:D->Option α
 enc:α->D
 ok:∀x a,dec x=some a->x=enc a
def dI:Dc Int:=⟨fun | .int i=>some i|_=>none,.int,fun x a h=>by cases x <;> cases h;rfl⟩
def dL:Dc (List D):=⟨fun | .lst i=>some i|_=>none,.lst,fun x a h=>by cases x <;> cases h;rfl⟩
def xu {α:Type} (A:Dc α) (f:α->Rs D):List D->Rs D
 | [x]=>(match A.dec x with|some a=>f a|none=>.st)
 | _=>.st
def AW {α β:Type} (A:Dc α) (B:Dc β) (f:α->β->Rs D):List D->Rs D
 | [x,y]=>(match A.dec x with|some a=>(match B.dec y with|some b=>f a b|none=>.st) | none=>.st)
 | _=>.st
theorem o5 {α β:Type} {A:Dc α} {x:D} {f:α->Rs β} {r:β} (h:aa (match A.dec x with|some a=>f a|none=>.st) r):∃a,x=A.enc a/\aa (f a) r:=by
 split at h
 ·rename_i a e;exact ⟨a,A.ok _ _ e,h⟩
 ·exact (am h).elim
theorem qc {α:Type} {A:Dc α} {f:α->Rs D} {ds:List D} {r:D} (h:aa (xu A f ds) r):∃a,ds=[A.enc a]/\aa (f a) r:=by
 unfold xu at h
 split at h
 ·obtain ⟨a,e1,h1⟩:=o5 h;exact ⟨a,by rw [e1],h1⟩
 ·exact (am h).elim
theorem yK {α β:Type} {A:Dc α} {B:Dc β} {f:α->β->Rs D} {ds:List D} {r:D} (h:aa (AW A B f ds) r):∃a b,ds=[A.enc a,B.enc b]/\aa (f a b) r:=by
 unfold AW at h
 split at h
 ·obtain ⟨a,e1,h1⟩:=o5 h
  obtain ⟨b,e2,h2⟩:=o5 h1
  exact ⟨a,b,by rw [e1,e2],h2⟩
 ·exact (am h).elim
def JV:D->Int
 | .int i=>i
 | _=>0
def nJ (l:List D):List Int:=l.map JV
theorem q8 (ns:List Int):nJ (ns.map D.int)=ns:=by
 induction ns with
 | nil=>rfl
 | cons n ns ih=>show n::nJ (ns.map D.int)=_;rw [ih]
def Fs (l:List D):Prop:=∃ns:List Int,l=ns.map D.int
def iX (ns:List Int) (k:Int):Int:=if ns=[] then 0 else ns.getD (k.fmod ns.length).toNat 0
def yc (ns:List Int) (k:Int):Int :=
 (iX ns k).fdiv 2147483647*2147483647+((((iX ns k).fmod 2147483647+7919*k+1)*48271).fmod 2147483647*69621+k).fmod 2147483647
def gO (l:List D) (k:Int):Int:=yc (nJ l) k
abbrev t4 (a b c d:Int):D:=.tup [.int a,.int b,.int c,.int d]
abbrev Qd:=Int×Int×Int×Int
def dq (q:Qd):D:=t4 q.1 q.2.1 q.2.2.1 q.2.2.2
def q4:D->Option Qd
 | .tup [.int a,.int b,.int c,.int d]=>some (a,b,c,d)
 | _=>none
theorem Ef (x:D) (q:Qd) (h:q4 x=some q):x=dq q:=by
 unfold q4 at h
 split at h
 ·cases h;rfl
 ·cases h
def dQ:Dc Qd:=⟨q4,dq,Ef⟩
theorem fj {α:Type} {G:α->D} (h:∀x,(G x).lless=true):∀l:List α,ax (l.map G)=true
 | []=>rfl
 | x::l=>by rw [List.map_cons,ax,h x,fj h l];rfl
@[simp] theorem cG (a b:Int):eD (.int a) (.int b)=decide (a=b):=by
 show (a==b)=_
 rw [Bool.eq_iff_iff];simp
@[simp] theorem eqD_q (p q:Qd):eD (dq p) (dq q)=decide (p=q):=by
 show (p.1==q.1&&(p.2.1==q.2.1&&(p.2.2.1==q.2.2.1&&(p.2.2.2==q.2.2.2&&true))))=_
 obtain ⟨a,b,c,d⟩:=p;obtain ⟨e,f,g,h⟩:=q
 rw [Bool.eq_iff_iff];simp
end K
namespace Sp
open PySem PySem.Spec PyProof.Rows L2
open AutoSeq1 (wpAny_loadPart')
section
variable {prog:Program} {w:World} {A:Around} {E:Value->Shared->Prop} {s:Shared}
variable {n l1 l2 l3:Nat} {xs ys ws:Array Value} {k:Nat} {x y u:Value} {f0 f1:Value}
end
end Sp
namespace Sp
open PySem PySem.Spec PyProof.Rows L2
open AutoSeq1 (wpAny_loadPart')
section
variable {prog:Program} {w:World} {A:Around} {E:Value->Shared->Prop} {s:Shared}
end
end Sp
namespace Sp
open PySem PySem.Spec PyProof.Rows L2
section
variable {prog:Program} {w:World} {A:Around} {E:Value->Shared->Prop} {s:Shared}
end
end Sp
namespace Sp
open PySem PySem.Spec PyProof.Rows L2
variable {X:Cx}
theorem uO {P:Program} {w:World} {K:W.Frag} {mg:Str->Option Value} {base:Heap} {k:Nat} {g:Str} {f:Addr} {fd:FuncData} {ps:List Str} {F:List D->Rs D} (h:bv P w K mg base cU k f fd ps (ii K F)) (hm:mg g=some (.ref f)) (hk:W.keepIn K (.ref f)=true) (hb:bG K fd ps []) (hd:(g==("__debug__" : Str))=false):cV P w K mg base k g F :=
 ⟨f,fd,ps,h,hm,hk,hb,hd⟩
end Sp
namespace Sp
open PySem PySem.Spec PyProof.Rows L2
variable {X:Cx}
theorem lG {Φ:Fx} {sc:Scope} {H0:Hp} {rest:List Stmt} {t:TS} (G:aL Φ X sc) (hp:PassesOwn (model X.prog X.w) X.A X.env X.xe) (hr:cT X rest t):∀{pre:List Stmt} {ρ ρ1:ae},aa (ay Φ pre sc ρ) (.nx ρ1) ->
  cT X (pre++rest) (fun D σ H => ∃ow,aG X ow H σ ρ/\σ.length=X.N.length/\bI H0 ow H/\∀ow' σ' H',aG X ow' H' σ' ρ1->σ'.length=X.N.length->bI H0 ow' H'->t D σ' H')
 | [],ρ,ρ1,h=>by
  cases aB h
  exact fun pins s σ H D I ⟨ow,E,hl,B,q⟩=>hr pins s σ H D I (q ow σ H E hl B)
 | st::ss,ρ,ρ1,h=>by
  obtain ⟨f1,h1,h2⟩:=aq (show aa (Rs.bnd _ _) _ from h)
  cases f1 with
  | nx ρ' =>
   have sd:=(gH Φ _).s st (H0:=H0) (Nat.lt_succ_self _) h1 G hp
   have ih:=lG (H0:=H0) G hp hr h2
   exact fun pins s σ H D I ⟨ow,E,hl,B,q⟩=>dM sd ih pins s σ H D I ⟨ow,E,hl,B,fun ow' σ' H' E' hl' k=>⟨ow',E',hl',B.keep k,q⟩⟩
  | rt d=>cases aB h2
  | bk ρ'=>cases aB h2
  | ct ρ'=>cases aB h2
end Sp
namespace Sp
open PySem PySem.Spec PyProof.Rows L2
variable {Φ:Fx} {sc:Scope} {ρ ρ':ae} {fl:Fl} {ss:List Stmt}
theorem xZ {c a b:Expr} {p:Pos} {it:Bool} {t:Bool} {k:Nat} {r:D×Nat} (hc:aa (ar Φ c false sc ρ) (.bl t,k)) (h1:t=true->aa (ar Φ a false sc ρ) r) (h2:t=false->aa (ar Φ b false sc ρ) r):aa (ar Φ (.IfExp c a b p) it sc ρ) r:=by
 refine aa.bnd hc (i0 rfl (xR ?_))
 cases t with
 | true=>exact h1 rfl
 | false=>exact h2 rfl
end Sp
namespace K
open PySem L2 Sp
end K
namespace K
open PySem L2 Sp
end K
namespace K
open PySem L2 Sp Qm
end K
namespace K
open PySem L2 Sp Qm
theorem lQ (x:Int) {n:Int} (h:0 < n):(x.fdiv n).natAbs<=x.natAbs:=by
 rw [Int.fdiv_eq_ediv_of_nonneg _ (by omega)]
 exact Int.natAbs_ediv_le_natAbs x n
end K
namespace K
open PySem L2 Sp Qm
end K
namespace K
open PySem L2 Sp Qm
theorem de {a b:Int} (h:a=b):(!eD (.int a) (.int b))=false:=by rw [h];simp
end K
namespace K
open PySem L2 Sp Qm
end K
namespace K
open PySem L2 Sp Qm
theorem sF {α:Type} {f:α->D} {l:List α} {i:Int} (h0:0<=i) (h1:i < l.length):∃x∈l,L2.atI (l.map f) i=some (f x):=by
 obtain ⟨j,rfl⟩:=Int.eq_ofNat_of_zero_le h0
 have hj:j < l.length:=by omega
 exact ⟨l[j],List.getElem_mem _,qP (by simp [hj])⟩
end K
namespace K
open PySem L2 Sp Qm
def qU (Φ:Fx) (sc:Scope) (tg:Expr) (body ss:List Stmt) (r:D):List D->ae->Prop
 | [],ρ=>aa (ay Φ ss sc ρ) (.rt r)
 | d::l,ρ => ∃ρ1,bi sc tg d ρ=some ρ1/\((∃ρ2,aa (ay Φ body sc ρ1) (.nx ρ2)/\qU Φ sc tg body ss r l ρ2)\/aa (ay Φ body sc ρ1) (.rt r))
theorem jg {Φ:Fx} {sc:Scope} {ρ:ae} {ss:List Stmt} {tg it:Expr} {body:List Stmt} {p:Pos} {d r:D} (ds:List D) {k:Nat} (hi:aa (ar Φ it true sc (demote it ρ)) (d,k)) (h:qU Φ sc tg body ss r ds (demote it ρ)) (hd:items d=some ds:=by rfl) (hk:k<=1:=by first|exact Nat.le_refl 1|exact Nat.zero_le 1) (ht:cO it tg=true:=by rfl):aa (ay Φ (.For tg it body [] p::ss) sc ρ) (.rt r):=by
 obtain ⟨r',h1,rfl⟩:=yI (ds:=ds) (fun ds ρ=>qU Φ sc tg body ss r ds ρ) (fun r'=>r'=r) hi h (fun d l ρ ⟨ρ1,h1,h2⟩=>⟨ρ1,h1,by
  rcases h2 with h2|h2
  ·exact .inl h2
  ·exact .inr ⟨r,h2,rfl⟩⟩) (fun ρ' h=>⟨r,h,rfl⟩) hd hk ht
 exact h1
end K
namespace K
open PySem L2 Sp Qm
open Builtin.Int (intBits)
theorem qA {P:ae->Prop} {ρ C:ae} (h:Sub C ρ) (k:∀ρ,Sub C ρ->P ρ):P ρ:=k ρ h
end K
namespace K
open PySem L2 Sp Qm
theorem Kb (d:D):kn d 1<=1:=by rcases xJ (d:=d) (k:=1) with q|q <;> omega
end K
namespace K
open PySem L2 Sp Qm
end K
namespace K
open PySem L2 Sp Qm
end K
namespace K
open PySem PySem.Spec PyProof.Rows L2 Sp Qm
end K
namespace K
open PySem PySem.Spec PyProof.Rows L2 Sp Qm
end K
namespace K
open PySem L2 Sp Qm
section
variable {Φ:Fx} {sc:Scope} {ρ ρ1:ae} {ss:List Stmt}
end
theorem x9 {α:Type} {f:α->D} (l:List α) (c:Nat):fO (l.map f) none (some (c:Int))=(l.take c).map f:=by
 simp only [fO,HT.sIx_none,HT.sIx_nat,List.length_map,List.drop_zero,Nat.sub_zero,List.map_take]
 rcases Nat.le_total c l.length with h|h
 ·rw [Nat.min_eq_left h]
 ·rw [Nat.min_eq_right h,List.take_of_length_le (by simp),List.take_of_length_le (by simpa using h)]
end K
namespace Sp
open PySem PySem.Spec PyProof.Rows L2
variable {X:Cx}
def d5:List D->Option (List Str)
 | []=>some []
 | .str i::l=>(d5 l).map (i :: ·)
 | _::_=>none
def kK (x:D) (ds:List D):R1 :=
 match x,ds with
 | .str sep,[.lst l]=>(match d5 l with
  | some ys=>.ok (.str (Txt.join sep ys),0) [sep.length<=16,(ys.map fun y=>y.length).sum+ys.length<=1048576]
  | none=>.st)
 | _,_=>.st
theorem mC {K:W.Frag} {H:Hp} {P:aZ}:∀{l:List D} {ys:List Str} {vs:List V} {us:List Value},d5 l=some ys->ag K H P l vs->aH vs us->StrsAre us ys
 | [],ys,vs,us,h,r,q=>by
  rw [d5] at h;cases h
  rw [ag] at r;subst r;cases q;exact .nil
 | .str x::l,ys,vs,us,h,r,q=>by
  rw [d5] at h
  cases e:d5 l with
  | none=>rw [e] at h;cases h
  | some zs =>
   rw [e] at h;cases h
   rw [ag] at r
   obtain ⟨v,vr,rfl,r1,r2⟩:=r
   rw [af] at r1;subst r1
   cases q with
   | cons q1 q2 =>
    obtain ⟨t,rfl⟩:=q1
    exact .cons x t (mC e r2 q2)
 | .non::l,ys,vs,us,h,_,_=>by cases h
 | .bl _::l,ys,vs,us,h,_,_=>by cases h
 | .int _::l,ys,vs,us,h,_,_=>by cases h
 | .dct _ _::l,ys,vs,us,h,_,_=>by cases h
 | .typ _::l,ys,vs,us,h,_,_=>by cases h
 | .sn _::l,ys,vs,us,h,_,_=>by cases h
 | .obj _ _ _::l,ys,vs,us,h,_,_=>by cases h
 | .cls _::l,ys,vs,us,h,_,_=>by cases h
 | .xc _ _::l,ys,vs,us,h,_,_=>by cases h
 | .tup _::l,ys,vs,us,h,_,_=>by cases h
 | .lst _::l,ys,vs,us,h,_,_=>by cases h
theorem zp:mZ X "str.join" (fun x xs H Q => ∃sep l ys P v,x=.str sep/\xs=[v]/\af X.K H P (.lst l) v/\d5 l=some ys/\sep.length<=16/\(ys.map fun y=>y.length).sum+ys.length<=1048576/\Q (.str (Txt.join sep ys)) H):=by
 intro pins s σ H x xs v us Q I rx rxs h
 obtain ⟨sep,l,ys,P,v1,rfl,rfl,r,hl,h1,h2,q⟩:=h
 obtain ⟨t,rfl⟩:=rx
 obtain ⟨u,rfl,ru⟩:=cA rxs
 rw [af] at r
 obtain ⟨a,vs,b,rfl,ha,_,rl⟩:=r
 cases ru
 obtain ⟨its,rv,⟨o,n,e1,e2,_,e3⟩,_⟩:=I.list ha.sq
 exact join_listW (D:=a) (items:=its.toArray) ⟨o,e1,e2,n,e3⟩ (by rw [List.toList_toArray];exact mC hl rl rv) h1 h2 fun t' k=>⟨.str _,H,I.tok _,⟨_,rfl⟩,q⟩
theorem wm:gi "join" kK:=by
 intro X ρ a args ap cp x k ds j z l o hc hroom hea hes hst hlen hline hb h hp
 unfold kK at h
 split at h
 ·rename_i sep l1
  split at h
  ·rename_i ys hy
   cases h
   obtain ⟨e,rfl⟩:∃e,args=[e]:=by
    match args,hlen with
    | [e],_=>exact ⟨e,rfl⟩
   intro ow
   refine bj (jk PySem.F.plainAttrs_str PySem.F.slot_str_join PySem.F.type_str_join zp (hea ow) (hes ow) (cR hb) (gL hst (show 1 < 29 by decide)) hline (aI (hst e List.mem_cons_self)) rfl) fun σ H Q ⟨E,q⟩=>⟨E,fun v H1 s1 r1=>?_⟩
   rw [af] at r1;subst r1
   refine ⟨rfl,E.same s1,fun vs H2 s2 r2=>?_⟩
   obtain ⟨v,rfl,r3⟩:=r2.only
   exact ⟨sep,l1,ys,_,v,rfl,rfl,r3,hy,hp.1,hp.2.1,q _ _ (s1.trans s2) (by rw [af])⟩
  ·cases h
 ·cases h
theorem kT {Φ:Fx} {sc:Scope} {rest:List Stmt} {d:D}:∀{pre:List Stmt} {ρ:ae},aa (ay Φ pre sc ρ) (.rt d)->aa (ay Φ (pre++rest) sc ρ) (.rt d)
 | [],ρ,h=>by cases aB h
 | st::ss,ρ,h=>by
  obtain ⟨f1,h1,h2⟩:=aq (show aa (Rs.bnd _ _) _ from h)
  refine aa.bnd (f:=fun | .nx ρ'=>ay Φ (ss++rest) sc ρ' | f=>.ok f []) h1 ?_
  cases f1 with
  | nx ρ'=>exact kT h2
  | rt d'=>exact h2
  | bk ρ'=>exact h2
  | ct ρ'=>exact h2
theorem By {ρ:ae} {e:Expr} {i:Int} {k:Nat} {t:Str} {p1 p2 p3:Pos} {kd:Nat} (he:ED X ρ e (.int i) k) (hi:i.natAbs < 2 ^ 1900) (ht:t.length<=64):ED X ρ (.JoinedStr [.FormattedValue e (-1) none p1,.Constant (.str t) kd p2] p3) (.str (Str.ofString (toString i)++t)) 0:=by
 intro ow pins s σ H Q I ⟨E,q⟩
 have hl:i.natAbs.log2 < 1920:=by
  rcases Nat.eq_zero_or_pos i.natAbs with z|z
  ·rw [z];decide
  ·exact Nat.lt_of_lt_of_le ((Nat.log2_lt (Nat.ne_of_gt z)).mpr hi) (by decide)
 have tl:=int_text_len_1921 hl
 refine wpAny_JoinedStr ?_
 show wpAny _ _ (eval (.FormattedValue e (-1) none p1) X.env) (fun v s₁ => ∃y t',v=Value.str y t'/\(Str.empty++y).length<=sizeLine/\wpAny _ _ (eval (.Constant (.str t) kd p2) X.env) (fun v s₂ => ∃z t'',v=Value.str z t''/\(Str.empty++y++z).length<=sizeLine/\_) _ s₁) _ s
 refine wpAny_FormattedValue_plain ?_
 refine aF (he ow pins s σ H (fun v H'=>v=.int i/\av H H') I ⟨E,fun v H' s' r=>⟨by rw [af] at r;exact r,s'⟩⟩) fun u s1 ⟨v,H1,I1,r1,e1,s1'⟩=>?_
 subst e1
 obtain ⟨tk,rfl⟩:=r1
 refine wpAny_formatField_int hl ⟨_,_,rfl,?_,?_⟩
 ·rw [Str.empty_append]
  exact Nat.le_trans tl (by rw [sizeLine_eq];decide)
 ·refine wpAny_Constant_str ⟨_,_,rfl,?_,?_⟩
  ·rw [Str.empty_append,Str.length_append]
   exact Nat.le_trans (Nat.add_le_add tl ht) (by rw [sizeLine_eq];decide)
  ·refine ⟨?_,.str _,H1,(I1.tok _).tok _ |>.tok _,⟨_,rfl⟩,q _ _ s1' (by rw [af,Str.empty_append])⟩
   rw [Str.empty_append,Str.length_append]
   exact Nat.le_trans (Nat.add_le_add tl ht) (by rw [sizeLine_eq];decide)
def Kf:Stmt->Expr
 | .Return (some (.JoinedStr [.FormattedValue e _ _ _,_] _)) _=>e
 | _=>.Constant .none 0 ⟨0,0,0,0⟩
def Ke:Stmt->Str
 | .Return (some (.JoinedStr [_,.Constant (.str t) _ _] _)) _=>t
 | _ => ""
def iF (Φ:Fx) (sc:Scope) (ps:List Str) (pre:List Stmt) (e:Expr) (t:Str) (ds:List D):Rs D :=
 if ds.length=ps.length then (ay Φ pre sc (b8 ps ds)).bnd fun
  | .rt d=>.ok d []
  | .nx ρ1=>(ar Φ e false sc ρ1).bnd fun p=>(match p.1 with
   | .int i=>.ok (.str (Str.ofString (toString i)++t)) [i.natAbs < 2 ^ 1900,t.length<=64]
   | _=>.st)
  | _=>.st
 else .st
theorem Cu {P:Program} {w:World} {K:W.Frag} {mg:Str->Option Value} {base:Heap} {k:Nat} {g qual:Str} {st:Stmt} {f:Addr} {fd:FuncData} {ps:List Str} {Φ:Fx} {pre:List Stmt} {e:Expr} {t:Str} {kd:Nat} {q p1 p2 p3:Pos} {F:List D->Rs D} (Fn:iz K g qual st f fd)
  (S:aQ (aw (ac st)) ps (ac st)) (hΦ:pB P w K mg base k Φ) (hb:ak st=pre++[.Return (some (.JoinedStr [.FormattedValue e (-1) none p1,.Constant (.str t) kd p2] p3)) q])
  (hrun:∀ds r,aa (F ds) r->aa (iF Φ (ac st) ps pre e t ds) r):bv P w K mg base cU (k+1) f fd ps (ii K F):=by
 refine Fn.ok S (fun vs H Q E h=>?_) (fun cdv A outer s H vs Q E hr h=>?_)
 ·obtain ⟨ds,r,l,h1,h2,hp,_⟩:=h
  have:=hrun ds r ⟨l,h2,hp⟩
  unfold iF at this
  split at this
  ·rename_i hl;rw [<- h1.length];exact hl
  ·exact (am this).elim
 ·obtain ⟨ds,r,l,h1,h2,hp,qq⟩:=h
  have h2:=hrun ds r ⟨l,h2,hp⟩
  unfold iF at h2
  split at h2
  ·rename_i hl
   have G:=jw (outer:=outer) (H:=H) (E:=E) S hΦ hr
   obtain ⟨E0,hsl⟩:=kZ (P:=P) (w:=w) (mg:=mg) (base:=base) (qual:=qual) (f:=f) (cdv:=cdv) (A:=A) (outer:=outer) (s:=s) (E:=E) S h1 hl
   have B0:bI H (fun _=>none) H:=fun a o h=>⟨h,rfl⟩
   obtain ⟨fl,h3,h4⟩:=aq h2
   cases fl with
   | nx ρ1 =>
    obtain ⟨p,h5,h6⟩:=aq h4
    split at h6
    ·rename_i i hi
     obtain ⟨l6,h6,p6⟩:=h6
     cases h6
     obtain ⟨px,pk⟩:=p
     cases (show px=.int i from hi)
     have ed:=By (p1:=p1) (p2:=p2) (p3:=p3) (kd:=kd) ((bX h5 G).ed rfl) p6.1 p6.2.1
     rw [hb]
     refine ⟨_,lG (H0:=H) (t:=fun D σ' H' => ∃ow,aG _ ow H' σ' ρ1/\∀v H2,av H' H2->af K H2 (fun _ _=>True) (.str (Str.ofString (toString i)++t)) v->D.rt v H2) G PassesOwn.never (lF fun pins s σ H1 D I ⟨ow,E1,q1⟩=>n9 (ed ow) pins s σ H1 D I ⟨E1,fun v H2 s2 r2=>q1 v H2 s2 (r2.imp fun _ _ _=>True.intro)⟩) h3,fun _=>none,E0,hsl,B0,fun ow' σ' H' E' hl' B'=>⟨ow',E',fun v H2 s2 r2=>?_⟩⟩
     refine qq v H2 (fun a o h=>s2 a o (B' a o h).1) ?_
     rw [af] at r2 ⊢
     exact r2
    ·exact (am h6).elim
   | rt d =>
    cases aB h4
    have hx:=kT (rest:=[.Return (some (.JoinedStr [.FormattedValue e (-1) none p1,.Constant (.str t) kd p2] p3)) q]) h3
    rw [hb]
    exact ⟨_,fL _ (H0:=H) hx G PassesOwn.never,fun _=>none,E0,hsl,B0,fun v H' sm rp=>qq v H' sm rp⟩
   | bk _=>exact (am h4).elim
   | ct _=>exact (am h4).elim
  ·exact (am h2).elim
end Sp
namespace K
open PySem L2 Sp Qm
section
variable {Φ:Fx} {sc:Scope} {ρ ρ1:ae} {ss:List Stmt}
def dU (p:Int):Str:=if p.fmod 2=0 then Str.ofString (toString (p.fdiv 2)) else Str.ofString (toString p)++Str.ofString "/2"
def gJ (p:Qd):Str:=Txt.join (Str.ofString " ") [dU p.1,dU p.2.1,dU p.2.2.1,dU p.2.2.2]
theorem qr {i:Int} (h:i.natAbs < 2 ^ 1900):(Str.ofString (toString i)).length<=1921:=by
 refine PyProof.Rows.int_text_len_1921 ?_
 rcases Nat.eq_zero_or_pos i.natAbs with z|z
 ·rw [z];decide
 ·exact Nat.lt_of_lt_of_le ((Nat.log2_lt (Nat.ne_of_gt z)).mpr h) (by decide)
theorem qz {p:Int} (h:p.natAbs < 2 ^ 1900):(p.fdiv 2).natAbs < 2 ^ 1900:=Nat.lt_of_le_of_lt (lQ p (by decide)) h
theorem kF {p:Int} (h:p.natAbs < 2 ^ 1900):(dU p).length<=1923:=by
 unfold dU
 split
 ·have:=qr (qz h);omega
 ·rw [Str.length_append]
  have:=qr h
  have e:(Str.ofString "/2").length=2:=by decide +kernel
  omega
def BP (p:Qd):Prop:=p.1.natAbs < 2 ^ 1900/\p.2.1.natAbs < 2 ^ 1900/\p.2.2.1.natAbs < 2 ^ 1900/\p.2.2.2.natAbs < 2 ^ 1900
theorem EV {p:Qd} (h:BP p):([dU p.1,dU p.2.1,dU p.2.2.1,dU p.2.2.2].map fun y=>y.length).sum+[dU p.1,dU p.2.1,dU p.2.2.1,dU p.2.2.2].length<=1048576:=by
 have h1:=kF h.1
 have h2:=kF h.2.1
 have h3:=kF h.2.2.1
 have h4:=kF h.2.2.2
 simp only [List.map_cons,List.map_nil,List.sum_cons,List.sum_nil,List.length_cons,List.length_nil]
 omega
theorem Bc {ps:List Str} {pre:List Stmt} {e:Expr} {t:Str} {ds:List D} {d:D} (h:aa (ay Φ pre sc (b8 ps ds)) (.rt d)) (hl:ds.length=ps.length:=by rfl):aa (iF Φ sc ps pre e t ds) d:=by
 unfold iF
 rw [if_pos hl]
 exact aa.bnd h cD
theorem Bd {ps:List Str} {pre:List Stmt} {e:Expr} {t:Str} {ds:List D} {i:Int} {k:Nat} (h:aa (ay Φ pre sc (b8 ps ds)) (.nx ρ1)) (he:aa (ar Φ e false sc ρ1) (.int i,k)) (hi:i.natAbs < 2 ^ 1900) (ht:t.length<=64) (hl:ds.length=ps.length:=by rfl):aa (iF Φ sc ps pre e t ds) (.str (Str.ofString (toString i)++t)):=by
 unfold iF
 rw [if_pos hl]
 exact aa.bnd h (aa.bnd he (gD rfl ⟨hi,ht,True.intro⟩))
theorem qd (i:Int):PyData.strOk (Str.ofString (toString i))=true:=by
 unfold PyData.strOk
 rw [<- Array.all_toList,List.all_eq_true]
 intro k hk
 refine decide_eq_true ?_
 rcases Nat.lt_or_ge k 1114112 with h|h
 ·exact h
 ·exact absurd hk (PyProof.Rows.int_text_free' k ⟨by omega,.inr (by omega)⟩ i)
theorem yL {a b:Str} (h:PyData.strOk a=true) (g:PyData.strOk b=true):PyData.strOk (a++b)=true:=by
 unfold PyData.strOk at *
 rw [Str.cps_append,Array.all_append,h,g];rfl
theorem nU {sep:Str} (hs:PyData.strOk sep=true):∀{ys:List Str} {a:Array Nat},a.all (fun x=>decide (x < 1114112))=true->(∀y∈ys,PyData.strOk y=true)->(ys.foldl (fun acc p=>acc++sep.cps++p.cps) a).all (fun x=>decide (x < 1114112))=true
  | [],a,ha,_=>ha
  | y::ys,a,ha,h=>nU hs (ys:=ys) (by
      have h1:=h y List.mem_cons_self
      unfold PyData.strOk at hs h1
      rw [Array.all_append,Array.all_append,ha,hs,h1];rfl) fun z hz=>h z (List.mem_cons_of_mem _ hz)
theorem vQ {sep y:Str} {ys:List Str} (hs:PyData.strOk sep=true) (h:∀z∈y::ys,PyData.strOk z=true):PyData.strOk (Txt.join sep (y::ys))=true :=
 nU (ys:=ys) (a:=y.cps) hs (h y List.mem_cons_self) fun z hz=>h z (List.mem_cons_of_mem _ hz)
theorem eL {x y:Str} (h:PyData.strOk x=true) (g:PyData.strOk y=true):dP (.str x) (.str y)=true:=by
 have k:∀x:Str,PyData.strOk x=true->SeqAt.shaped (D.str x).py=true:=fun x h=>by
  rw [D.py];unfold SeqAt.shaped
  simp [PyData.canLay0,PyData.depth,h]
 unfold dP
 rw [k x h,k y g];rfl
theorem AX (p:Int):PyData.strOk (dU p)=true:=by
 unfold dU
 split
 ·exact qd _
 ·exact yL (qd _) (by decide +kernel)
theorem tR (p:Qd):PyData.strOk (gJ p)=true:=vQ (by decide +kernel) (by
 intro z hz
 simp only [List.mem_cons,List.not_mem_nil,or_false] at hz
 rcases hz with rfl|rfl|rfl|rfl <;> exact AX _)
end
end K
namespace K
open PySem L2 Sp Qm
section
variable {Φ:Fx} {sc:Scope} {ρ ρ1:ae} {ss:List Stmt} {P Q:ae->Prop}
def EW:Stmt->Expr
 | .For t _ _ _ _=>t
 | _=>.Name (Str.ofString "") ⟨0,0,0,0⟩
def xU:Stmt->Expr
 | .For _ i _ _ _=>i
 | _=>.Name (Str.ofString "") ⟨0,0,0,0⟩
def jx:Stmt->List Stmt
 | .For _ _ b _ _=>b
 | _=>[]
theorem xY {a:Expr} {p:Pos} {it:Bool} {b c:Bool} {k:Nat} (h:aa (ar Φ a false sc ρ) (.bl b,k)) (e:(!b)=c):aa (ar Φ (.UnaryOp .Not a p) it sc ρ) (.bl c,0):=by
 subst e
 exact (show aa (Rs.bnd (ar Φ a false sc ρ) fun p=>(match tj .Not p.1 with|some d=>.ok (d,0) [] | none=>.st)) (.bl (!b),0) from aa.bnd h cD)
theorem Fa {f:Str} {p q:Pos} {args:List Expr} {ds:List D} {k:Nat} {B:List D->Nat->R1} {v:D×Nat} (ha:aa (bq Φ args sc ρ) (ds,k)) (hv:aa (B ds k) v) (hF:Φ.fn f=none:=by rfl) (hI:Φ.itr f=some B:=by rfl) (hg:sc.names.lookup f=some .globalImplicit:=by rfl):aa (ar Φ (.Call (.Name f p) args [] q) true sc ρ) v:=by
 rw [fM,if_pos hg]
 refine aa.bnd ha ?_
 unfold hX
 dsimp only
 rw [hF]
 dsimp only
 rw [if_pos rfl,hI]
 exact hv
theorem Be {m k:Nat} (h:m<=1000):aa (iT [.int (m:Int)] k) (.lst ((List.range m).map fun i=>.int (i:Nat)),0):=⟨_,rfl,by omega,by show (m:Int)<=((40000:Nat):Int);omega,True.intro⟩
theorem Dz {l:List D} {d:D} {k:Nat} (h:l.length < bN) (hd:d.lless=true:=by rfl):aa (jv l [d] k) (l++[d]):=⟨_,rfl,.inl hd,h,True.intro⟩
end
def Fv:List Int:=[0,1,2,3,4,5,6,7,8,9,10,11,12,13,14,15,16,17,18,19,20]
end K
namespace Sp
open PySem PySem.Spec PyProof.Rows L2
variable {X:Cx}
end Sp
namespace Sp
open PySem PySem.Spec PyProof.Rows L2
variable {X:Cx}
end Sp
namespace Sp
open PySem PySem.Spec PyProof.Rows L2
section
variable {prog:Program} {w:World} {A:Around} {E:Value->Shared->Prop} {s:Shared}
end
variable {X:Cx}
end Sp
namespace Sp
open PySem PySem.Spec PyProof.Rows L2
variable {X:Cx}
def Kc:Stmt->Expr
 | .If c _ _ _=>c
 | _=>.Constant .none 0 ⟨0,0,0,0⟩
end Sp
namespace Sp
open PySem PySem.Spec PyProof.Rows L2
end Sp
namespace Sp
open PySem PySem.Spec PyProof.Rows L2
def Cl (x:Int):List Int->List Int
 | []=>[x]
 | y::l=>if x<=y then x::y::l else y::Cl x l
def vP:List Int->List Int
 | []=>[]
 | x::l=>Cl x (vP l)
variable {X:Cx}
def HN (b:Bool) (n0:Nat) (p0 kp:Pos):List Keyword:=cond b [⟨some (Str.ofString "reverse"),.Constant (.bool true) n0 p0,kp⟩] []
def FV (b:Bool) (ns:List Int):List Int:=cond b (vP ns).reverse (vP ns)
end Sp
namespace Sp
open PySem PySem.Spec PyProof.Rows L2
section
variable {prog:Program} {w:World} {A:Around} {E:Value->Shared->Prop} {s:Shared}
end
variable {X:Cx}
end Sp
namespace Sp
open PySem PySem.Spec PyProof.Rows L2
inductive Xd (Φ:Fx) (sc:Scope) (ρ:ae):Expr->D->Prop where
 | ev {e:Expr} {d:D} (h:aa (ar Φ e false sc ρ) (d,0)):Xd Φ sc ρ e d
 | lrev {e:Expr} {l:List D} {k:Nat} {f g:Str} {p q r t:Pos} (h:aa (bq Φ [e] sc ρ) ([.lst l],k)) (fl:ax l=true) (hf:f = "list" := by rfl) (hg:g = "reversed" := by rfl) (gf:sc.names.lookup f=some .globalImplicit:=by rfl) (gg:sc.names.lookup g=some .globalImplicit:=by rfl):Xd Φ sc ρ (.Call (.Name f p) [.Call (.Name g q) [e] [] r] [] t) (.lst l.reverse)
 | srt (b:Bool) {e:Expr} {ns:List Int} {k n0:Nat} {f:Str} {p t p0 kp:Pos} (h:aa (bq Φ [e] sc ρ) ([.lst (ns.map D.int)],k)) (hn:ns.length < 64) (hf:f = "sorted" := by rfl) (gf:sc.names.lookup f=some .globalImplicit:=by rfl):Xd Φ sc ρ (.Call (.Name f p) [e] (HN b n0 p0 kp) t) (.lst ((FV b ns).map D.int))
 | short {e:Expr} {l:List D} {k:Nat} {f:Str} {p t:Pos} (h:aa (bq Φ [e] sc ρ) ([.lst l],k)) (hn:l.length < 2) (fl:ax l=true) (hf:f = "sorted" := by rfl) (gf:sc.names.lookup f=some .globalImplicit:=by rfl):Xd Φ sc ρ (.Call (.Name f p) [e] [] t) (.lst l)
 | pick4 {e1 e2 e3 e4 i:Expr} {d1 d2 d3 d4 d:D} {j:Int} {k:Nat} {lp p:Pos} (h1:Xd Φ sc ρ e1 d1) (h2:Xd Φ sc ρ e2 d2) (h3:Xd Φ sc ρ e3 d3) (h4:Xd Φ sc ρ e4 d4) (hi:aa (ar Φ i false sc ρ) (.int j,k)) (ha:atI [d1,d2,d3,d4] j=some d):Xd Φ sc ρ (.Subscript (.List [e1,e2,e3,e4] lp) i p) d
variable {X:Cx}
inductive Rn (Φ:Fx) (sc:Scope):List Stmt->ae->D->Prop where
 | fin {ss:List Stmt} {ρ:ae} {r:D} (h:aa (ay Φ ss sc ρ) (.rt r)):Rn Φ sc ss ρ r
 | cut (n:Nat) {ss:List Stmt} {ρ ρ1:ae} {r:D} (h:aa (ay Φ (ss.take n) sc ρ) (.nx ρ1)) (k:Rn Φ sc (ss.drop n) ρ1 r):Rn Φ sc ss ρ r
 | dem {ss:List Stmt} {ρ:ae} {r:D} (k:Rn Φ sc ss (ej ρ) r):Rn Φ sc ss ρ r
 | set {x:Str} {e:Expr} {px q:Pos} {ss:List Stmt} {ρ:ae} {d r:D} (h:Xd Φ sc ρ e d) (k:Rn Φ sc ss (bn ρ x (d,true)) r) (hx:b9 sc x=true:=by rfl) (hc:gI e=false:=by rfl):Rn Φ sc (.Assign [.Name x px] e q::ss) ρ r
end Sp
namespace Sp
open PySem PySem.Spec PyProof.Rows L2
variable {X:Cx}
def Fu (l:List Int):D:=.lst (l.map D.int)
def Fd (ρ:ae) (x:Str):ae:=fun y=>if y=x then none else ρ y
end Sp
namespace Sp
open PySem PySem.Spec PyProof.Rows L2
variable {X:Cx}
def yx (X:Cx) (H0:Hp) (tg:Expr) (body:List Stmt):List D->ae->Fl->Prop
 | [],ρ,fl=>fl=.nx ρ
 | d::ds,ρ,fl => ∃ρ1,GD X ρ tg d ρ1/\((∃ρ2,fT X H0 ρ1 body (.nx ρ2)/\yx X H0 tg body ds ρ2 fl)\/∃r,fl=.rt r/\fT X H0 ρ1 body (.rt r))
inductive Rp (Φ:Fx) (sc:Scope) (tg c:Expr):List D->ae->ae->Prop where
 | nil {ρ:ae}:Rp Φ sc tg c [] ρ ρ
 | cons {d:D} {ds:List D} {ρ ρ1 ρ':ae} {k:Nat} (hb:bi sc tg d ρ=some ρ1) (hc:aa (ar Φ c false sc ρ1) (.bl false,k)) (h:Rp Φ sc tg c ds ρ1 ρ'):Rp Φ sc tg c (d::ds) ρ ρ'
inductive Xo (Φ:Fx) (sc:Scope) (ρ:ae):Option Expr->Option Int->Prop where
 | no:Xo Φ sc ρ none none
 | yes {e:Expr} {i:Int} {k:Nat} (h:aa (ar Φ e false sc ρ) (.int i,k)):Xo Φ sc ρ (some e) (some i)
inductive pr (Φ:Fx) (sc:Scope) (ρ:ae):Expr->D->Prop where
 | name {x:Str} {p:Pos} {m:List D} (h:ρ x=some (.lst m,false)) (hx:eB x=true):pr Φ sc ρ (.Name x p) (.lst m)
 | cut {e:Expr} {lo hi:Option Expr} {l h:Option Int} {m:List D} {p2 p:Pos} (he:pr Φ sc ρ e (.lst m)) (hl:Xo Φ sc ρ lo l) (hh:Xo Φ sc ρ hi h):pr Φ sc ρ (.Subscript e (.Slice lo hi none p2) p) (.lst (fO m l h))
 | cat {a b:Expr} {l m:List D} {p:Pos} (ha:pr Φ sc ρ a (.lst l)) (hb:pr Φ sc ρ b (.lst m)) (hn:l.length+m.length<=bN):pr Φ sc ρ (.BinOp a .Add b p) (.lst (l++m))
mutual
inductive Rf (Φ:Fx) (sc:Scope):List Stmt->ae->Fl->Prop where
 | base {ss:List Stmt} {ρ:ae} {fl:Fl} (h:aa (ay Φ ss sc ρ) fl):Rf Φ sc ss ρ fl
 | cut (n:Nat) {ss:List Stmt} {ρ ρ1:ae} {fl:Fl} (h:aa (ay Φ (ss.take n) sc ρ) (.nx ρ1)) (k:Rf Φ sc (ss.drop n) ρ1 fl):Rf Φ sc ss ρ fl
 | seq {s:Stmt} {ss:List Stmt} {ρ ρ1:ae} {fl:Fl} (h:jN Φ sc s ρ (.nx ρ1)) (k:Rf Φ sc ss ρ1 fl):Rf Φ sc (s::ss) ρ fl
 | stop {s:Stmt} {ss:List Stmt} {ρ:ae} {r:D} (h:jN Φ sc s ρ (.rt r)):Rf Φ sc (s::ss) ρ (.rt r)
 | dem {ss:List Stmt} {ρ:ae} {fl:Fl} (k:Rf Φ sc ss (ej ρ) fl):Rf Φ sc ss ρ fl
inductive jN (Φ:Fx) (sc:Scope):Stmt->ae->Fl->Prop where
 | set {x:Str} {e:Expr} {px q:Pos} {ρ:ae} {d:D} (h:Xd Φ sc ρ e d) (hx:b9 sc x=true) (hc:gI e=false):jN Φ sc (.Assign [.Name x px] e q) ρ (.nx (bn ρ x (d,true)))
 | setS {x:Str} {e:Expr} {px q:Pos} {ρ:ae} {d:D} (h:pr Φ sc ρ e d) (hx:b9 sc x=true):jN Φ sc (.Assign [.Name x px] e q) ρ (.nx (bn ρ x (d,false)))
 | app1 {x m:Str} {M:List D->List D->Nat->Rs (List D)} {i e:Expr} {p1 p2 ap cp p4:Pos} {ρ:ae} {dt l l':List D} {d:D} {j:Int} {k ki:Nat} (hM:Φ.mtt m=some M) (hx:ρ x=some (.tup dt,true)) (hi:aa (ar Φ i false sc ρ) (.int j,ki)) (hs:fB i) (hat:L2.atI dt j=some (.lst l)) (h:aa (bq Φ [e] sc ρ) ([d],k)) (hn:eB x=true) (hln:(ap.endLine==cp.line)=true) (hm:aa (M l [d] k) l') :
  jN Φ sc (.Expr (.Call (.Attribute (.Subscript (.Name x p1) i p2) m ap) [e] [] cp) p4) ρ (.nx (Fd ρ x))
 | sto2 {x:Str} {e i m:Expr} {p1 p2 p3 pos:Pos} {ρ:ae} {Ls:List (List Int)} {l:List Int} {j jm v:Int} {n nm k k1 k2:Nat} (hx:ρ x=some (.lst (Ls.map Fu),true)) (h:aa (ar Φ e false sc ρ) (.int v,k)) (hi:aa (ar Φ i false sc ρ) (.int j,k1)) (hm:aa (ar Φ m false sc ρ) (.int jm,k2)) (hn:eB x=true)
  (h1:im Ls.length j=some n) (h2:Ls[n]?=some l) (h3:im l.length jm=some nm) (hd:∀a y,Ls[a]?=some y->a≠n->y≠l) (hs:fB i) (hsl:∀a b c p,m ≠ .Slice a b c p) :
  jN Φ sc (.Assign [.Subscript (.Subscript (.Name x p1) i p2) m p3] e pos) ρ (.nx (bn ρ x (.lst ((Ls.set n (l.set nm v)).map Fu),true)))
 | ret {e:Expr} {q:Pos} {ρ:ae} {d:D} (h:Xd Φ sc ρ e d):jN Φ sc (.Return (some e) q) ρ (.rt d)
 | iff {c:Expr} {a b:List Stmt} {pos:Pos} {ρ:ae} {t:Bool} {k:Nat} {fl:Fl} (hc:aa (ar Φ c false sc ρ) (.bl t,k)) (h:Rf Φ sc (cond t a b) ρ fl):jN Φ sc (.If c a b pos) ρ fl
 | forC {tg it:Expr} {body:List Stmt} {pos:Pos} {ρ:ae} {d:D} {ds:List D} {k:Nat} {fl:Fl} (hi:aa (ar Φ it true sc (demote it ρ)) (d,k)) (hd:items d=some ds) (hk:k<=1) (ht:cO it tg=true) (h:Rc Φ sc tg body ds (demote it ρ) fl):jN Φ sc (.For tg it body [] pos) ρ fl
 | forP {tg it c:Expr} {a:List Stmt} {pos q:Pos} {ρ ρ':ae} {d:D} {ds:List D} {k:Nat} (hi:aa (ar Φ it true sc ρ) (d,k)) (hd:items d=some ds) (hl:ax ds=true) (ht:cO it tg=true) (h:Rp Φ sc tg c ds ρ ρ'):jN Φ sc (.For tg it [.If c a [] q] [] pos) ρ (.nx ρ')
inductive Rc (Φ:Fx) (sc:Scope):Expr->List Stmt->List D->ae->Fl->Prop where
 | nil {tg:Expr} {body:List Stmt} {ρ:ae}:Rc Φ sc tg body [] ρ (.nx ρ)
 | cons {tg:Expr} {body:List Stmt} {d:D} {ds:List D} {ρ ρ1 ρ2:ae} {fl:Fl} (hb:bi sc tg d ρ=some ρ1) (h:Rf Φ sc body ρ1 (.nx ρ2)) (k:Rc Φ sc tg body ds ρ2 fl):Rc Φ sc tg body (d::ds) ρ fl
 | stop {tg:Expr} {body:List Stmt} {d:D} {ds:List D} {ρ ρ1:ae} {r:D} (hb:bi sc tg d ρ=some ρ1) (h:Rf Φ sc body ρ1 (.rt r)):Rc Φ sc tg body (d::ds) ρ (.rt r)
end
end Sp
namespace Sp
open PySem PySem.Spec PyProof.Rows L2
def j8 (ds:List D):R1 :=
 match ds with
 | [.int a,.int b]=>.ok (.int (if b < a then b else a),0) []
 | _=>.st
theorem Ao:cX "min" j8:=by
 refine ⟨by decide +kernel,by decide +kernel,by decide +kernel,rfl,fun X ds z l o hc h _=>.inl ⟨"min", by decide +kernel,?_⟩⟩
 unfold j8 at h
 split at h
 ·rename_i a b
  cases h
  refine ⟨_,vg hc,fun ow H0 H2 vs P Q o s rx q=>?_⟩
  rw [ag] at rx
  obtain ⟨v,r,rfl,r1,r2⟩:=rx
  obtain ⟨w,rfl,r3⟩:=r2.only
  rw [af] at r1 r3
  subst r1 r3
  exact ⟨a,b,rfl,q _ _ (av.refl _) (by rw [af])⟩
 ·cases h
end Sp
namespace Sp
open PySem PySem.Spec PyProof.Rows L2
variable {X:Cx}
def sE (ds:List D):R1 :=
 match ds with
 | [.str x]=>.ok (.int x.length,0) [x.length<=1048576]
 | ds=>wP ds
theorem wO:cX "len" sE:=by
 refine ⟨by decide +kernel,by decide +kernel,by decide +kernel,rfl,fun X ds z l o hc h hp=>?_⟩
 unfold sE at h
 split at h
 ·rename_i x
  refine .inl ⟨"len", by decide +kernel,?_⟩
  cases h
  refine ⟨_,ph,fun ow H0 H2 vs P Q o s rx q=>?_⟩
  obtain ⟨v,rfl,ry⟩:=rx.only
  rw [af] at ry;subst ry
  exact ⟨x,rfl,by rw [sizeLine_eq];have:=hp.1;omega,q _ _ (av.refl _) (by rw [af])⟩
 ·exact Ap.2.2.2.2 X _ z l o hc h hp
def fu (ds:List D):R1 :=
 match ds with
 | [.str x]=>(match intText? x with|some n=>.ok (.int n,0) [x.length<=640] | none=>.st)
 | ds=>wT ds
theorem vi:cI X (.type "int") (fun xs H Q => ∃x n,xs=[.str x]/\intText? x=some n/\x.length<=640/\Q (.int n) H):=by
 intro pins s σ H xs us Q I r h
 obtain ⟨x,n,rfl,h1,h2,q⟩:=h
 obtain ⟨u,rfl,t,rfl⟩:=cA r
 exact W.KIN.call_text h1 h2 ⟨.int n,H,I.tok _,⟨_,rfl⟩,q⟩
theorem wS:cX "int" fu:=by
 refine ⟨by decide +kernel,by decide +kernel,by decide +kernel,rfl,fun X ds z l o hc h hp=>?_⟩
 unfold fu at h
 split at h
 ·rename_i x
  split at h
  ·rename_i n e
   refine .inr ⟨"int", by decide +kernel,?_⟩
   cases h
   refine ⟨_,vi,fun ow H0 H2 vs P Q o s rx q=>?_⟩
   obtain ⟨v,rfl,ry⟩:=rx.only
   rw [af] at ry;subst ry
   exact ⟨x,n,rfl,e,hp.1,q _ _ (av.refl _) (by rw [af])⟩
  ·cases h
 ·exact As.2.2.2.2 X _ z l o hc h hp
theorem A0:yj X (fun x lo hi H Q => ∃y,x=.str y/\y.length<=sizeLine/\Q (.str (Txt.slice y lo hi)) H):=by
 intro pins s σ H x v vl vu lo hi sl Q I rx hs pl pu h
 obtain ⟨y,rfl,hy,q⟩:=h
 obtain ⟨t,rfl⟩:=rx
 refine ⟨"str", "str.__getitem__", PySem.F.slot_str_getitem.lookup,typeIs_str s y t,?_⟩
 obtain ⟨l,hl,el⟩:∃l:Option (Int×Tok),partValue l=vl/\l.map (·.1)=lo:=by
  cases pl with
  | none=>exact ⟨none,rfl,rfl⟩
  | int i t=>exact ⟨some (i,t),rfl,rfl⟩
 obtain ⟨m,hm,em⟩:∃l:Option (Int×Tok),partValue l=vu/\l.map (·.1)=hi:=by
  cases pu with
  | none=>exact ⟨none,rfl,rfl⟩
  | int i t=>exact ⟨some (i,t),rfl,rfl⟩
 obtain ⟨o,h1,h2,h3⟩:=hs
 refine wpAny_getItem_str_slice (l:=l) (u:=m) (st:=none) ⟨o,h1,h2,by rw [h3,hl,hm];rfl⟩ rfl ?_
 subst el em
 exact post_val_or_str ⟨Nat.le_trans (Txt.slice_le y (l.map (·.1)) (m.map (·.1))) hy,fun t' k=>⟨.str (Txt.slice y (l.map (·.1)) (m.map (·.1))),H,I.tok _,⟨t',rfl⟩,q⟩⟩
def bx (x:D) (lo hi:Option Int):R1 :=
 match x with
 | .str y=>.ok (.str (Txt.slice y lo hi),0) [y.length<=1048576]
 | x=>nW x lo hi
theorem aY:nv bx:=fun X ρ a lo hi p2 pos x z l h k j o ha hl hh e hp=>by
 unfold bx at e
 split at e
 ·rename_i y
  cases e
  refine fun ow=>bj (jX A0 (ha ow) (hl ow) (hh ow)) fun σ H Q ⟨E,q⟩=>⟨E,fun v H1 s1 r1=>⟨E.same s1,fun H2 s2=>⟨(E.same s1).same s2,fun H3 s3=>?_⟩⟩⟩
  rw [af] at r1;subst r1
  exact ⟨y,rfl,by rw [sizeLine_eq];have:=hp.1;omega,q _ H3 (s1.trans (s2.trans s3)) (by rw [af])⟩
 ·exact wG ha hl hh e hp
theorem tP {prog:Program} {w:World} {A:Around} {E:Value->Shared->Prop} {s:Shared} {x y:Str} {t u:Tok} {Q:Value->Shared->Prop} (hy:(y.length==0)=false) (hsz:x.length+2<=sizeLine)
  (h:∀(l:List (Str×Tok)) (k:Nat),l.map (·.1)=Txt.split x y->Q (.ref s.heap.objs.size) { s with heap:=s.heap.push { cls:=.type "list", data:=.seq (strValues l).toArray },toks:=k }) :
  wpAny (model prog w) A (call (.builtin "str.split") [.str x t,.str y u]) Q E s:=by
 have e1:=(fact_split x y).2
 cases h1:(decide (x.length < y.length) || decide (Builtin.Str.strKind x < Builtin.Str.strKind y)) with
 | true=>exact call_meets PySem.F.slot_str_split (typeIs_str s x t) PySem.F.entry_str_split (PySem.F.args_str_split_2 _ _) (meets_str_split_cannot_occur x y t u h1) (h [(x,t)] s.toks (by unfold Txt.split;rw [if_pos h1];rfl))
 | false =>
  cases hf:(Builtin.Str.occurrences x y 0 x.length (x.length+1)).isEmpty with
  | true=>exact call_meets PySem.F.slot_str_split (typeIs_str s x t) PySem.F.entry_str_split (PySem.F.args_str_split_2 _ _) (meets_str_split_not_found x y t u h1 hy hf) (h [(x,t)] s.toks (by unfold Txt.split;rw [if_neg (by rw [h1];decide),if_pos hf];rfl))
  | false =>
   have es:Txt.split x y=Builtin.Str.partsBetween x (Builtin.Str.occurrences x y 0 x.length (x.length+1)) y.length:=by unfold Txt.split;rw [if_neg (by rw [h1];decide),if_neg (by rw [hf];decide)]
   rw [es] at e1 h
   refine call_meets PySem.F.slot_str_split (typeIs_str s x t) PySem.F.entry_str_split (PySem.F.args_str_split_2 _ _) (meets_str_split_sep x y t u h1 hy hf (by omega) (by omega)) ?_
   rw [strsFrom_eq]
   exact h _ _ (numbered_texts _ _)
theorem mw:∀l:List (Str×Tok),aH (l.map fun p=>V.str p.1) (strValues l)
 | []=>.nil
 | p::l=>.cons ⟨p.2,rfl⟩ (mw l)
theorem n4 {K:W.Frag} {P:aZ} {H:Hp}:∀ys:List Str,ag K H P (ys.map D.str) (ys.map V.str)
 | []=>ag.nil
 | y::ys=>ag.cons (by rw [af]) (n4 ys)
theorem wk:mZ X "str.split" (fun x xs H Q => ∃a b,x=.str a/\xs=[.str b]/\(b.length==0)=false/\a.length+2<=sizeLine/\∀p,H p=none->Q (.ref p) (aE H p (.lst ((Txt.split a b).map V.str)))):=by
 intro pins s σ H x xs v us Q I rx rxs h
 obtain ⟨a,b,rfl,rfl,h1,h2,q⟩:=h
 obtain ⟨t,rfl⟩:=rx
 obtain ⟨u,rfl,t',rfl⟩:=cA rxs
 refine tP h1 h2 fun l k hl=>?_
 have hz:l.length<=sizeLine:=by
  have e:=(fact_split a b).2
  have:=congrArg List.length hl
  rw [List.length_map] at this
  omega
 refine ⟨.ref s.heap.objs.size,_,I.laid (t':=k) (o:=.lst ((Txt.split a b).map V.str)) (fun b ob q=>Heap.get?_push_of_some _ q) (Nat.le_refl _) ?_,rfl,q _ (I.hok.fresh (Nat.le_refl _))⟩
 rw [<- hl,List.map_map]
 exact ⟨by rw [List.length_map];exact hz,strValues l,0,mw l,Heap.get?_push_size _ rfl⟩
def iO (x:D) (ds:List D):R1 :=
 match x,ds with
 | .str a,[.str b]=>.ok (.lst ((Txt.split a b).map D.str),0) [(b.length==0)=false,a.length<=1048576]
 | _,_=>.st
theorem ut:gi "split" iO:=by
 intro X ρ a args ap cp x k ds j z l o hc hroom hea hes hst hlen hline hb h hp
 unfold iO at h
 split at h
 ·rename_i y b
  cases h
  obtain ⟨e,rfl⟩:∃e,args=[e]:=by
   match args,hlen with
   | [e],_=>exact ⟨e,rfl⟩
  intro ow
  refine bj (jk PySem.F.plainAttrs_str PySem.F.slot_str_split PySem.F.type_str_split wk (hea ow) (hes ow) (cR hb) (gL hst (show 1 < 29 by decide)) hline (aI (hst e List.mem_cons_self)) rfl) fun σ H Q ⟨E,q⟩=>⟨E,fun v H1 s1 r1=>?_⟩
  rw [af] at r1;subst r1
  refine ⟨rfl,E.same s1,fun vs H2 s2 r2=>?_⟩
  obtain ⟨v,rfl,r3⟩:=r2.only
  rw [af] at r3;subst r3
  refine ⟨y,b,rfl,rfl,hp.1,by rw [sizeLine_eq];have:=hp.2.1;omega,fun p hp'=>q _ _ ((s1.trans s2).trans (cu hp')) ?_⟩
  rw [af]
  exact ⟨p,_,true,rfl,aJ,⟨rfl,(s1.trans s2).free hp'⟩,n4 _⟩
 ·cases h
theorem Ev:mZ X "str.startswith" (fun x xs H Q => ∃a b,x=.str a/\xs=[.str b]/\Q (.bl (Txt.startswith a b)) H):=by
 intro pins s σ H x xs v us Q I rx rxs h
 obtain ⟨a,b,rfl,rfl,q⟩:=h
 obtain ⟨t,rfl⟩:=rx
 obtain ⟨u,rfl,t',rfl⟩:=cA rxs
 exact SC.startswith ⟨.bl _,H,I,rfl,q⟩
theorem Ew:mZ X "str.endswith" (fun x xs H Q => ∃a b,x=.str a/\xs=[.str b]/\Q (.bl (Txt.endswith a b)) H):=by
 intro pins s σ H x xs v us Q I rx rxs h
 obtain ⟨a,b,rfl,rfl,q⟩:=h
 obtain ⟨t,rfl⟩:=rx
 obtain ⟨u,rfl,t',rfl⟩:=cA rxs
 exact SC.endswith ⟨.bl _,H,I,rfl,q⟩
def BY (x:D) (ds:List D):R1 :=
 match x,ds with
 | .str a,[.str b]=>.ok (.bl (Txt.startswith a b),0) []
 | _,_=>.st
def B1 (x:D) (ds:List D):R1 :=
 match x,ds with
 | .str a,[.str b]=>.ok (.bl (Txt.endswith a b),0) []
 | _,_=>.st
theorem BX:gi "startswith" BY:=by
 intro X ρ a args ap cp x k ds j z l o hc hroom hea hes hst hlen hline hb h hp
 unfold BY at h
 split at h
 ·rename_i y b
  cases h
  obtain ⟨e,rfl⟩:∃e,args=[e]:=by
   match args,hlen with
   | [e],_=>exact ⟨e,rfl⟩
  intro ow
  refine bj (jk PySem.F.plainAttrs_str PySem.F.slot_str_startswith PySem.F.type_str_startswith Ev (hea ow) (hes ow) (cR hb) (gL hst (show 1 < 29 by decide)) hline (aI (hst e List.mem_cons_self)) rfl) fun σ H Q ⟨E,q⟩=>⟨E,fun v H1 s1 r1=>?_⟩
  rw [af] at r1;subst r1
  refine ⟨rfl,E.same s1,fun vs H2 s2 r2=>?_⟩
  obtain ⟨v,rfl,r3⟩:=r2.only
  rw [af] at r3;subst r3
  exact ⟨y,b,rfl,rfl,q _ _ (s1.trans s2) (by rw [af])⟩
 ·cases h
theorem BZ:gi "endswith" B1:=by
 intro X ρ a args ap cp x k ds j z l o hc hroom hea hes hst hlen hline hb h hp
 unfold B1 at h
 split at h
 ·rename_i y b
  cases h
  obtain ⟨e,rfl⟩:∃e,args=[e]:=by
   match args,hlen with
   | [e],_=>exact ⟨e,rfl⟩
  intro ow
  refine bj (jk PySem.F.plainAttrs_str PySem.F.slot_str_endswith PySem.F.type_str_endswith Ew (hea ow) (hes ow) (cR hb) (gL hst (show 1 < 29 by decide)) hline (aI (hst e List.mem_cons_self)) rfl) fun σ H Q ⟨E,q⟩=>⟨E,fun v H1 s1 r1=>?_⟩
  rw [af] at r1;subst r1
  refine ⟨rfl,E.same s1,fun vs H2 s2 r2=>?_⟩
  obtain ⟨v,rfl,r3⟩:=r2.only
  rw [af] at r3;subst r3
  exact ⟨y,b,rfl,rfl,q _ _ (s1.trans s2) (by rw [af])⟩
 ·cases h
end Sp
namespace K
open PySem L2 Sp Qm
abbrev sN (l:List Nat):Str:=⟨l.toArray⟩
theorem nP (x:Str):x=sN x.cps.toList:=by cases x;simp [sN]
theorem dF (s:String):Str.ofString s=sN (s.toList.map Char.toNat):=by rw [nP (Str.ofString s),PyProof.Rows.signs_ofString]
theorem aW (l:List Nat):(sN l).length=l.length:=by show l.toArray.size=_;simp
theorem fE (l m:List Nat):sN l++sN m=sN (l++m):=by show (⟨l.toArray++m.toArray⟩:Str)=_;simp
theorem gA {l m:List Nat} (h:sN l=sN m):l=m:=by
 have:=congrArg (fun x:Str=>x.cps.toList) h
 simpa using this
theorem cB (l:List Nat):(sN l).cps.toList=l:=by simp
def bt (m:Nat):List Nat:=(Nat.toDigits 10 m).map Char.toNat
def br (i:Int):List Nat:=if i < 0 then 45::bt i.natAbs else bt i.natAbs
theorem iC (m:Nat):Str.ofString (toString (m:Int))=sN (bt m):=by rw [nP (Str.ofString _),W.KIN.signs_num];rfl
theorem gS (i:Int):Str.ofString (toString i)=sN (br i):=by
 unfold br
 by_cases h:i < 0
 ·have e:(0 - i)=((i.natAbs:Nat):Int):=by omega
  rw [if_pos h,PyProof.Rows.toString_neg h,e,dF,String.toList_append,List.map_append,<- fE]
  have h2:=iC i.natAbs
  rw [dF] at h2
  rw [h2,fE]
  rfl
 ·have e:i=((i.natAbs:Nat):Int):=by omega
  rw [if_neg h]
  conv=>lhs;rw [e]
  exact iC _
theorem dj (m:Nat):∀c∈bt m,48<=c/\c<=57:=by
 intro c hc
 obtain ⟨d,hd,rfl⟩:=List.mem_map.mp hc
 have:=Nat.isDigit_of_mem_toDigits (by decide) (by decide) hd
 simp only [Char.isDigit,Bool.and_eq_true,decide_eq_true_eq] at this
 obtain ⟨h1,h2⟩:=this
 exact ⟨UInt32.le_iff_toNat_le.mp h1,UInt32.le_iff_toNat_le.mp h2⟩
theorem iV (m:Nat):NumText.digitsVal (bt m)=m:=W.KIN.val_back m
theorem nu (m:Nat):bt m≠[]:=by
 intro z
 have:=(PyProof.Rows.digitsFacts10 m).ge1
 have e:=congrArg List.length z
 unfold bt at e
 rw [List.length_map] at e
 simp at e
 try omega
theorem eg {m k:Nat} (h1:1<=k) (h:m < 10 ^ k):(bt m).length<=k:=by unfold bt;rw [List.length_map];exact PyProof.Rows.digits10_le h1 h
theorem pG {c:Nat} (h:c<=57):(Char.ofNat c).toNat=c:=by
 have hv:c.isValidChar:=.inl (by omega)
 unfold Char.ofNat
 rw [dif_pos hv]
 first|done|rfl
theorem mJ:∀{l:List Nat} {c:Nat} {r:List Nat},l.dropWhile (fun x=>x==48)=c::r->c≠48
 | [],c,r,h=>by cases h
 | a::l,c,r,h=>by
  rw [List.dropWhile_cons] at h
  split at h
  ·exact mJ h
  ·rename_i hn
   cases h
   intro z;subst z;exact hn rfl
theorem Af (m:Nat):bt m=[48]\/∃c r,bt m=c::r/\c≠48:=by
 have h:=NumText.toDigits_all (bt m) (dj m)
 rw [iV] at h
 cases e:(bt m).dropWhile (fun x=>x==48) with
 | nil =>
  rw [e] at h
  left
  unfold bt
  rw [h];rfl
 | cons c r =>
  rw [e] at h
  right
  have hc:=mJ e
  have hm:∀x∈c::r,x<=57:=fun x hx=>(dj m x ((List.dropWhile_sublist (fun x=>x==48)).subset (by rw [e];exact hx))).2
  refine ⟨c,r,?_,hc⟩
  show (Nat.toDigits 10 m).map Char.toNat=_
  rw [h]
  show List.map Char.toNat (List.map Char.ofNat (c::r))=c::r
  rw [List.map_map]
  conv=>rhs;rw [<- List.map_id (c::r)]
  exact List.map_congr_left fun x hx=>pG (hm x hx)
theorem eG (i:Int):∀c∈br i,c=45\/48<=c/\c<=57:=by
 intro c hc
 unfold br at hc
 split at hc
 ·rcases List.mem_cons.mp hc with z|z
  ·exact .inl z
  ·exact .inr (dj _ c z)
 ·exact .inr (dj _ c hc)
def jn:List (List Nat)->List Nat
 | []=>[]
 | a::l=>a++l.flatMap fun p=>32::p
theorem qB (ws:List (List Nat)):Txt.join (sN [32]) (ws.map sN)=sN (jn ws):=by
 have key:∀(ws:List (List Nat)) (acc:Array Nat),List.foldl (fun (acc:Array Nat) (p:Str)=>acc++(sN [32]).cps++p.cps) acc (ws.map sN)=(acc.toList++ws.flatMap fun p=>32::p).toArray:=by
  intro ws
  induction ws with
  | nil=>intro acc;simp
  | cons w ws ih =>
   intro acc
   rw [List.map_cons,List.foldl_cons,ih,List.flatMap_cons]
   simp
 show (⟨List.foldl _ ((ws.map sN).headD Str.empty).cps ((ws.map sN).drop 1)⟩:Str)=_
 cases ws with
 | nil=>rfl
 | cons w ws =>
  show (⟨List.foldl (fun (acc:Array Nat) (p:Str)=>acc++(sN [32]).cps++p.cps) (sN w).cps (ws.map sN)⟩:Str)=_
  rw [key]
  show sN ((sN w).cps.toList++_)=_
  rw [cB];rfl
theorem qu:∀(ws:List (List Nat)),Str.join (sN [32]) (ws.map sN)=sN (jn ws)
 | []=>rfl
 | [w]=>by show sN w=sN (w++[]);rw [List.append_nil]
 | w::v::ws=>by
  show sN w++sN [32]++Str.join (sN [32]) ((v::ws).map sN)=_
  rw [qu (v::ws),fE,fE]
  simp [jn]
def gK (w:List Nat):Prop:=32∉w
theorem xj {a:List Nat} {l:List (List Nat)} (h:gK a):(jn (a::l)).takeWhile (fun c=>c != 32)=a/\(jn (a::l)).dropWhile (fun c=>c != 32)=l.flatMap fun p=>32::p:=by
 unfold jn
 have ha:∀c∈a,(c != 32)=true:=fun c hc=>by
  have:c≠32:=fun z=>h (z ▸ hc)
  simpa using this
 cases l with
 | nil =>
  refine ⟨?_,?_⟩
  ·show List.takeWhile _ (a++[])=a
   rw [List.takeWhile_append_of_pos ha];simp
  ·show List.dropWhile _ (a++[])=[]
   rw [List.dropWhile_append_of_pos ha];rfl
 | cons b l =>
  show List.takeWhile _ (a++List.flatMap _ (b::l))=a/\List.dropWhile _ (a++List.flatMap _ (b::l))=_
  rw [List.takeWhile_append_of_pos ha,List.dropWhile_append_of_pos ha,List.flatMap_cons]
  refine ⟨?_,?_⟩
  ·show a++List.takeWhile _ (32::(b++_))=a
   rw [List.takeWhile_cons_of_neg (by decide),List.append_nil]
  ·show List.dropWhile _ (32::(b++_))=_
   rw [List.dropWhile_cons_of_neg (by decide)];rfl
theorem uD:∀{l m:List (List Nat)},l≠[]->m≠[]->(∀w∈l,gK w)->(∀w∈m,gK w)->jn l=jn m->l=m
 | [],m,h,_,_,_,_=>absurd rfl h
 | a::l,[],_,h,_,_,_=>absurd rfl h
 | a::l,b::m,_,_,hl,hm,e=>by
  obtain ⟨a1,a2⟩:=xj (l:=l) (hl a List.mem_cons_self)
  obtain ⟨b1,b2⟩:=xj (l:=m) (hm b List.mem_cons_self)
  rw [e] at a1 a2
  rw [b1] at a1
  rw [b2] at a2
  subst a1
  cases l with
  | nil =>
   cases m with
   | nil=>rfl
   | cons v m=>rw [List.flatMap_nil,List.flatMap_cons] at a2;cases a2
  | cons u l =>
   cases m with
   | nil=>rw [List.flatMap_nil,List.flatMap_cons] at a2;cases a2
   | cons v m =>
    rw [List.flatMap_cons,List.flatMap_cons] at a2
    have e2:jn (v::m)=jn (u::l):=by
     have:=congrArg List.tail a2
     exact this
    rw [uD (by simp) (by simp) (fun w hw=>hl w (List.mem_cons_of_mem _ hw)) (fun w hw=>hm w (List.mem_cons_of_mem _ hw)) e2.symm]
theorem nR {ws:List (List Nat)} (h0:ws≠[]) (h:∀w∈ws,gK w):Txt.split (sN (jn ws)) (sN [32])=ws.map sN:=by
 have hc:=PyProof.Rows.split_closes (sN (jn ws)) 32
 rw [Bool.and_eq_true] at hc
 obtain ⟨h1,h2⟩:=hc
 have h1:Str.join (sN [32]) (Txt.split (sN (jn ws)) (sN [32]))=sN (jn ws):=by simpa using h1
 have hl:=(PyProof.Rows.fact_split (sN (jn ws)) (sN [32])).1
 generalize hP:Txt.split (sN (jn ws)) (sN [32])=ps at *
 obtain ⟨qs,rfl⟩:∃qs:List (List Nat),ps=qs.map sN:=⟨ps.map fun p=>p.cps.toList,by
  rw [List.map_map]
  conv=>lhs;rw [<- List.map_id ps]
  exact List.map_congr_left fun p _=>nP p⟩
 rw [qu] at h1
 have h1:=gA h1
 have hq:∀w∈qs,gK w:=fun w hw z=>by
  have:=List.all_eq_true.mp h2 (sN w) (List.mem_map.mpr ⟨w,hw,rfl⟩)
  rw [PyProof.Rows.countIn_signs_decide,cB,decide_eq_true z] at this
  cases this
 rw [uD (fun z=>by subst z;simp at hl) h0 hq h h1]
theorem xq (l:List Nat) (c:Nat):Txt.startswith (sN l) (sN [c])=decide (l.head?=some c):=by
 unfold Txt.startswith Builtin.Str.subAt
 rw [aW,aW]
 cases l with
 | nil=>rfl
 | cons a l =>
  have e:((a::l).toArray.extract 0 (0+[c].length)==[c].toArray)=decide (a=c):=by
   rw [List.extract_toArray,Bool.eq_iff_iff]
   simp
  show (decide (0+[c].length<=(a::l).length)&&((a::l).toArray.extract 0 (0+[c].length)==[c].toArray))=_
  rw [e,decide_eq_true (by simp),Bool.true_and]
  simp
theorem wB (l:List Nat):Txt.endswith (sN (l++[47,50])) (sN [47,50])=true:=by rw [<- fE];exact W.KT.ends_app _ _
theorem wC {l:List Nat} (h:47∉l):Txt.endswith (sN l) (sN [47,50])=false:=by
 cases e:Txt.endswith (sN l) (sN [47,50]) with
 | false=>rfl
 | true =>
  exfalso
  unfold Txt.endswith Builtin.Str.subAt at e
  rw [Bool.and_eq_true] at e
  have e2:(l.toArray.extract ((sN l).length - (sN [47,50]).length) ((sN l).length - (sN [47,50]).length+(sN [47,50]).length))=[47,50].toArray:=by simpa using e.2
  rw [List.extract_toArray] at e2
  have e3:=congrArg Array.toList e2
  simp only [List.extract_eq_take_drop] at e3
  apply h
  have m:47∈List.take ((sN l).length - (sN [47,50]).length+(sN [47,50]).length - ((sN l).length - (sN [47,50]).length)) (List.drop ((sN l).length - (sN [47,50]).length) l):=by rw [e3];simp
  exact List.mem_of_mem_drop (List.mem_of_mem_take m)
theorem o7 (l:List Nat):Txt.slice (sN (l++[47,50])) none (some (-2))=sN l:=by
 have hl:(sN (l++[47,50])).length=l.length+2:=by rw [aW];simp
 have:=PyProof.Rows.slice_closes_to_neg (x:=sN (l++[47,50])) (j:=-2) (k:=l.length) (by decide) (by rw [hl];omega) (by rw [hl];omega)
 rw [cB] at this
 have:=eq_of_beq this
 rw [this]
 show sN _=sN _
 simp
theorem x8 (c:Nat) (l:List Nat):Txt.slice (sN (c::l)) (some 1) none=sN l:=by
 have hl:(sN (c::l)).length=l.length+1:=by rw [aW];simp
 have:=PyProof.Rows.slice_from_eq (x:=sN (c::l)) (i:=1) (b:=l.length+1) (by decide) (by rw [hl];omega) (by rw [hl];omega)
 rw [cB] at this
 rw [this]
 show sN _=sN _
 congr 1
 rw [show ((l.length:Int)+1 - 1).toNat=l.length by omega]
 simp
def Cy:Str:=Str.ofString "0123456789"
theorem Cz {c:Nat} (h1:48<=c) (h2:c<=57):Txt.contains Cy (sN [c])=true:=by
 have:c=48\/c=49\/c=50\/c=51\/c=52\/c=53\/c=54\/c=55\/c=56\/c=57:=by omega
 rcases this with rfl|rfl|rfl|rfl|rfl|rfl|rfl|rfl|rfl|rfl <;> decide +kernel
theorem kR {i:Int} (h:(br i).length<=640):intText? (sN (br i))=some i:=by
 unfold br at h ⊢
 by_cases hi:i < 0
 ·rw [if_pos hi] at h ⊢
  rw [intText_neg (cs:=bt i.natAbs) (cB _) (dj _) (nu _) (by rw [aW];omega),iV]
  congr 1;omega
 ·rw [if_neg hi] at h ⊢
  rw [intText_digits (by rw [cB];exact dj _) (by rw [cB];exact nu _) (by rw [aW];omega),cB,iV]
  congr 1;omega
theorem jq {l:List Nat} (h:∀c∈l,c < 128):PyData.strOk (sN l)=true:=by
 unfold PyData.strOk
 rw [Array.all_eq_true']
 intro c hc
 have:=h c (by simpa using hc)
 exact decide_eq_true (by omega)
theorem vw {l:List Nat} (h:∀c∈l,c < 128):((sN l).cps.all fun c=>decide (c < 128))=true:=by
 rw [Array.all_eq_true']
 intro c hc
 exact decide_eq_true (h c (by simpa using hc))
theorem tY (l:List Nat):Sp.sgs (sN l)=l.map fun c=>D.str (sN [c]):=by unfold Sp.sgs;rw [cB]
theorem eM (x y:Str):eD (.str x) (.str y)=decide (x=y):=by
 show ((x==y):Bool)=_
 by_cases h:x=y
 ·subst h;simp
 ·rw [decide_eq_false h];simpa using h
def cq (p:Int):List Nat:=if p.fmod 2=0 then br (p.fdiv 2) else br p++[47,50]
theorem nh (p:Int):dU p=sN (cq p):=by
 unfold dU cq
 split
 ·exact gS _
 ·rw [gS,show Str.ofString "/2" = sN [47,50] by rw [dF];rfl,fE]
theorem yy (p:Int):∀c∈cq p,45<=c/\c<=57:=by
 intro c hc
 unfold cq at hc
 split at hc
 ·rcases eG _ c hc with z|z <;> omega
 ·rcases List.mem_append.mp hc with hc|hc
  ·rcases eG _ c hc with z|z <;> omega
  ·simp only [List.mem_cons,List.not_mem_nil,or_false] at hc
   omega
theorem yz (p:Int):gK (cq p):=fun h=>by have:=yy p 32 h;omega
def jG (q:Qd):List (List Nat):=[cq q.1,cq q.2.1,cq q.2.2.1,cq q.2.2.2]
theorem sh (q:Qd):gJ q=sN (jn (jG q)):=by
 unfold gJ
 rw [nh,nh,nh,nh,show Str.ofString " " = sN [32] by rw [dF];rfl]
 exact qB (jG q)
theorem wA (q:Qd):Txt.split (gJ q) (Str.ofString " ")=(jG q).map sN:=by
 rw [sh,show Str.ofString " " = sN [32] by rw [dF];rfl]
 refine nR (by unfold jG;simp) fun w hw=>?_
 simp only [jG,List.mem_cons,List.not_mem_nil,or_false] at hw
 rcases hw with rfl|rfl|rfl|rfl <;> exact yz _
theorem nG {i:Int} (h:i.natAbs < 10 ^ 40):(br i).length<=41:=by
 unfold br
 have:=eg (m:=i.natAbs) (k:=40) (by decide) h
 split
 ·rw [List.length_cons];omega
 ·omega
theorem iB {p:Int} (h:p.natAbs < 10 ^ 40):(cq p).length<=43:=by
 unfold cq
 split
 ·have:=nG (i:=p.fdiv 2) (Nat.lt_of_le_of_lt (lQ p (by decide)) h)
  omega
 ·rw [List.length_append]
  have:=nG h
  show _+2<=43
  omega
theorem Ce {a b c d:List Nat} (h1:a.length<=43) (h2:b.length<=43) (h3:c.length<=43) (h4:d.length<=43):(jn [a,b,c,d]).length<=200:=by
 show (a++(32::b++(32::c++(32::d++[])))).length<=200
 simp only [List.length_append,List.length_cons,List.length_nil]
 omega
theorem Fi (l:List Nat):aa (gq [.lst (l.map fun _=>D.bl true)]) (.bl true,0):=by
 have e:∀l:List Nat,bP (l.map fun _=>D.bl true)=some (l.map fun _=>true):=fun l=>by
  induction l with
  | nil=>rfl
  | cons b bs ih=>rw [List.map_cons,bP,ih];rfl
 have z:(l.map fun _=>true).all id=true:=List.all_eq_true.mpr fun x hx=>by
  obtain ⟨_,_,rfl⟩:=List.mem_map.mp hx;rfl
 unfold gq;dsimp only;rw [e]
 have h:aa (Rs.ok (D.bl ((l.map fun _=>true).all id),0) []:R1) (D.bl ((l.map fun _=>true).all id),0):=cD
 rw [z] at h
 dsimp only
 rw [z]
 exact h
def Kh:Stmt->Expr
 | .If (.BoolOp _ (e::_) _) _ _ _=>e
 | _=>.Constant .none 0 ⟨0,0,0,0⟩
def Dy:Stmt->Expr
 | .Assign _ e _=>e
 | _=>.Constant .none 0 ⟨0,0,0,0⟩
theorem kY {Φ:Fx} {sc:Scope} {ρ:ae} {a:Expr} {m:Str} {ap cp:Pos} {args:List Expr} {it:Bool} {y:Str} {ds:List D} {k j:Nat} {M:D->List D->R1} {r:D×Nat} (ha:aa (ar Φ a false sc ρ) (.str y,k)) (hs:aa (bq Φ args sc ρ) (ds,j)) (hM:aa (M (.str y) ds) r) (hm:Φ.mth m=some M:=by rfl) (hp:(ap.endLine==cp.line)=true:=by rfl) (hb:eu a=true:=by rfl):aa (ar Φ (.Call (.Attribute a m ap) args [] cp) it sc ρ) r:=by
 rw [hJ,if_pos hp]
 refine ha.bnd (hs.bnd ?_)
 show aa (if eu a=true then (match Φ.mth m with|some M=>M (.str y) ds|none=>.st) else .st) r
 rw [if_pos hb,hm]
 exact hM
theorem fz (i:Int):(if i < 0 then -i else i)=((i.natAbs:Nat):Int):=by split <;> omega
def uh (q:Qd):Prop:=q.1.natAbs < 10 ^ 40/\q.2.1.natAbs < 10 ^ 40/\q.2.2.1.natAbs < 10 ^ 40/\q.2.2.2.natAbs < 10 ^ 40
theorem Ep {q:Qd} (h:uh q):BP q:=by
 have:10 ^ 40 < 2 ^ 1900:=Nat.lt_of_lt_of_le (show 10 ^ 40 < 2 ^ 200 by decide) (Nat.pow_le_pow_right (by decide) (by decide))
 exact ⟨Nat.lt_trans h.1 this,Nat.lt_trans h.2.1 this,Nat.lt_trans h.2.2.1 this,Nat.lt_trans h.2.2.2 this⟩
theorem B2 {n:Nat} (h:n < 10 ^ 40):n < 2 ^ 1900:=Nat.lt_trans h (Nat.lt_of_lt_of_le (show 10 ^ 40 < 2 ^ 200 by decide) (Nat.pow_le_pow_right (by decide) (by decide)))
theorem gT (i:Int):(br i).head?=some 45 ↔ i < 0:=by
 unfold br
 split
 ·rename_i h;simp [h]
 ·rename_i h
  constructor
  ·intro e
   exfalso
   have hm:45∈bt i.natAbs:=List.mem_of_mem_head? e
   have:=dj _ 45 hm
   omega
  ·intro z;exact absurd z h
theorem yB (i:Int):sN (br i)≠Str.ofString "-0" := by
 intro e
 rw [dF] at e
 have e:br i=[45,48]:=gA e
 have hi:=(gT i).mp (by rw [e];rfl)
 unfold br at e
 rw [if_pos hi] at e
 have e2:bt i.natAbs=[48]:=by injection e
 have:=iV i.natAbs
 rw [e2] at this
 have z:NumText.digitsVal [48]=0:=rfl
 rw [z] at this
 omega
theorem dZ (i:Int):∀c∈br i,c < 128:=fun c hc=>by rcases eG i c hc with z|z <;> omega
end K
namespace Sp
open PySem PySem.Spec PyProof.Rows L2
variable {X:Cx}
def oq:V->Bool
 | .non=>false
 | _=>true
theorem zQ:∀{y:V},fk y=true->oZ y .non = !oq y
 | .non,_=>rfl
 | .bl _,_=>rfl
 | .int _,_=>rfl
 | .str _,_=>rfl
theorem nE:∀{ys:List V} {us:List Value},aH ys us->∀{j:Nat} {y:V},ys[j]?=some y->∃u,us[j]?=some u/\aM y u
 | _,_,.nil,j,y,h=>by cases h
 | _,_,.cons r t,0,y,h=>by cases h;exact ⟨_,rfl,r⟩
 | _,_,.cons r t,j+1,y,h=>nE t h
theorem my:∀{ys:List V} {us:List Value},aH ys us->∀{j:Nat} {u:Value},us[j]?=some u->∃y,ys[j]?=some y/\aM y u
 | _,_,.nil,j,y,h=>by cases h
 | _,_,.cons r t,0,y,h=>by cases h;exact ⟨_,rfl,r⟩
 | _,_,.cons r t,j+1,y,h=>my t h
theorem wl:mZ X "list.index" (fun x xs H Q => ∃p ys j,x=.ref p/\xs=[.non]/\bR X.K H p ys/\ys.all fk=true/\ys[j]?=some .non/\(∀m y,m < j->ys[m]?=some y->oq y=true)/\Q (.int (j:Nat)) H):=by
 intro pins s σ H x xs v us Q I rx rxs h
 obtain ⟨p,ys,j,rfl,rfl,sq,fl,hj,hm,q⟩:=h
 cases rx
 obtain ⟨u,rfl,hu⟩:=cA rxs
 cases hu
 obtain ⟨its,r,pl,hz⟩:=I.list sq
 obtain ⟨o,n,e,c1,c2,c3⟩:=pl
 have e':s.heap.get? p=some { cls:=.type "list", dict:=none,data:=.seq its.toArray n,slots:=o.slots }:=by
  rw [e]
  obtain ⟨a,b,c,d⟩:=o
  simp only at c1 c2 c3
  subst c1;subst c2;subst c3
  rfl
 have fm:∀(m:Nat) (y:V),ys[m]?=some y->fk y=true:=fun m y hy=>List.all_eq_true.mp fl y (List.mem_of_getElem? hy)
 obtain ⟨u,hu,ru⟩:=nE r hj
 have hl:j < its.toArray.size:=by rw [List.size_toArray];exact (List.getElem?_eq_some_iff.mp hu).1
 have hlen:its.length=ys.length:=r.length.symm
 refine call_meets F.slot_list_index ⟨_,e',rfl⟩ F.entry_list_index (F.args_list_index_2 _ _) (SeqAt.list_indexAt p its.toArray n none o.slots .none (CL .non) j hl ?_ ?_ fun m hm' hlt=>?_) ⟨e',fun y hy=>oF (x:=.non) rfl rfl r fl y (by simpa using hy),⟨.int (j:Nat),H,I.tok _,⟨_,rfl⟩,q⟩⟩
 ·rw [List.size_toArray,hlen] at hl
  rw [sizeLine_eq] at hz
  omega
 ·have:its.toArray[j]=u:=by
   rw [List.getElem_toArray]
   exact (List.getElem?_eq_some_iff.mp hu).2
  rw [this,o0 ru rfl]
  rfl
 ·rw [List.size_toArray] at hm'
  have g:its[m]?=some its[m]:=List.getElem?_eq_getElem hm'
  obtain ⟨y,hy,ry⟩:=my r g
  rw [List.getElem_toArray,o0 ry (fm m y hy),zQ (fm m y hy),hm m y hlt hy]
  rfl
def jI:List D->Bool
 | []=>true
 | .int _::l=>jI l
 | .non::l=>jI l
 | _::_=>false
def fJ:List D->Option Nat
 | []=>none
 | .non::_=>some 0
 | _::l=>(fJ l).map (· + 1)
theorem j5 {K:W.Frag} {H:Hp} {P:aZ}:∀{l:List D} {vs:List V},jI l=true->ag K H P l vs->vs.all fk=true
 | [],vs,_,r=>by rw [ag] at r;subst r;rfl
 | .int i::l,vs,h,r=>by
  rw [ag] at r
  obtain ⟨v,w,rfl,r1,r2⟩:=r
  rw [af] at r1;subst r1
  rw [List.all_cons,j5 (show jI l=true from h) r2];rfl
 | .non::l,vs,h,r=>by
  rw [ag] at r
  obtain ⟨v,w,rfl,r1,r2⟩:=r
  rw [af] at r1;subst r1
  rw [List.all_cons,j5 (show jI l=true from h) r2];rfl
theorem qy {K:W.Frag} {H:Hp} {P:aZ}:∀{l:List D} {vs:List V} {j:Nat},jI l=true->fJ l=some j->ag K H P l vs->vs[j]?=some .non/\∀m y,m < j->vs[m]?=some y->oq y=true
 | [],vs,j,_,h,_=>by cases h
 | .non::l,vs,j,_,h,r=>by
  cases h
  rw [ag] at r
  obtain ⟨v,w,rfl,r1,r2⟩:=r
  rw [af] at r1;subst r1
  exact ⟨rfl,fun m y hm=>absurd hm (Nat.not_lt_zero _)⟩
 | .int i::l,vs,j,hi,h,r=>by
  rw [ag] at r
  obtain ⟨v,w,rfl,r1,r2⟩:=r
  rw [af] at r1;subst r1
  cases e:fJ l with
  | none=>rw [show fJ (.int i::l)=(fJ l).map (· + 1) from rfl,e] at h;cases h
  | some k =>
   rw [show fJ (.int i::l)=(fJ l).map (· + 1) from rfl,e] at h
   cases h
   obtain ⟨h1,h2⟩:=qy (show jI l=true from hi) e r2
   refine ⟨h1,fun m y hm hy=>?_⟩
   cases m with
   | zero=>cases hy;rfl
   | succ m=>exact h2 m y (Nat.lt_of_succ_lt_succ hm) hy
def kL (x:D) (ds:List D):R1 :=
 match x,ds with
 | .lst l,[.non]=>(match fJ l with|some j=>.ok (.int (j:Nat),0) [jI l=true] | none=>.st)
 | _,_=>.st
theorem uu:gi "index" kL:=by
 intro X ρ a args ap cp x k ds j z l o hc hroom hea hes hst hlen hline hb h hp
 unfold kL at h
 split at h
 ·rename_i l'
  split at h
  ·rename_i n hn
   cases h
   obtain ⟨e,rfl⟩:∃e,args=[e]:=by
    match args,hlen with
    | [e],_=>exact ⟨e,rfl⟩
   intro ow
   refine bj (jk PySem.F.plainAttrs_list PySem.F.slot_list_index PySem.F.type_list_index wl (hea ow) (hes ow) (cR hb) (gL hst (show 1 < 29 by decide)) hline (aI (hst e List.mem_cons_self)) rfl) fun σ H Q ⟨E,q⟩=>⟨E,fun v H1 s1 r1=>?_⟩
   rw [af] at r1
   obtain ⟨p,vs,b,rfl,hL,hP,rl⟩:=r1
   refine ⟨?_,E.same s1,fun ws H2 s2 r2=>?_⟩
   ·exact .inl ⟨rfl,vs,hL.sq⟩
   ·obtain ⟨w,rfl,r3⟩:=r2.only
    rw [af] at r3;subst r3
    obtain ⟨g1,g2⟩:=qy hp.1 hn rl
    refine ⟨p,vs,n,rfl,rfl,?_,j5 hp.1 rl,g1,g2,q _ _ (s1.trans s2) (by rw [af])⟩
    exact (show m4 X.K H2 p vs b from by
     cases b with
     | true=>exact s2 _ _ hL
     | false =>
      rcases hL with ⟨o,h⟩ | h
      ·exact .inl ⟨o,s2 _ _ h⟩
      ·exact .inr h).sq
  ·cases h
 ·cases h
end Sp
namespace K
open PySem L2 Sp Qm
theorem lY:∀(cs:List Nat) (acc:Nat),(∀c∈cs,c<=57)->List.foldl (fun acc c=>acc*10+(c - 48)) acc cs < (acc+1)*10 ^ cs.length
 | [],acc,_=>by show acc < (acc+1)*1;omega
 | c::cs,acc,h=>by
  have h1:=lY cs (acc*10+(c - 48)) fun x hx=>h x (List.mem_cons_of_mem _ hx)
  have hc:=h c List.mem_cons_self
  rw [List.foldl_cons,List.length_cons,Nat.pow_succ]
  have:acc*10+(c - 48)+1<=(acc+1)*10:=by omega
  have h2:=Nat.mul_le_mul_right (10 ^ cs.length) this
  rw [Nat.mul_assoc] at h2
  rw [Nat.mul_comm (10 ^ cs.length) 10]
  omega
theorem si {m k:Nat} (h:10 ^ k<=m):k < (bt m).length:=by
 have h1:=lY (bt m) 0 fun c hc=>(dj m c hc).2
 have h2:NumText.digitsVal (bt m)=m:=iV m
 unfold NumText.digitsVal at h2
 rw [h2,Nat.zero_add,Nat.one_mul] at h1
 exact (Nat.pow_lt_pow_iff_right (by decide)).mp (Nat.lt_of_le_of_lt h h1)
theorem uX (m:Nat):(40 < (bt m).length) ↔ 10 ^ 40<=m:=by
 constructor
 ·intro h
  rcases Nat.lt_or_ge m (10 ^ 40) with z|z
  ·have:=eg (k:=40) (by decide) z;omega
  ·exact z
 ·exact si
theorem uZ (l:List Nat):Txt.slice (sN l) none (some 1)=sN (l.take 1):=by
 have:=PyProof.Rows.slice_to_min_closes (x:=sN l) (n:=1) (m:=if (((sN l).length:Nat):Int) < 1 then (((sN l).length:Nat):Int) else 1) (by decide) rfl
 have:=eq_of_beq this
 rw [this,cB]
 show sN _=sN _
 congr 1
 cases l with
 | nil=>rfl
 | cons a l =>
  rw [if_neg (by rw [aW,List.length_cons];omega)]
  rfl
def oI:Option Int->D
 | none=>.non
 | some i=>.int i
def bE (s:String):List Nat:=s.toList.map Char.toNat
theorem uj (s:String):Str.ofString s=sN (bE s):=dF s
def hZ:List (List Nat):=[bE "", bE "-", bE "-0", bE "00", bE "01", bE "+1", bE "1.0", bE "1/1", bE "1/", bE "a", bE "1/3", bE "--1", bE "1-", bE "1/02", bE "1e3", bE "1_0"]
def i6:List (List Nat):=[bE "1/2", bE "", bE "03", bE "-01", bE "-", bE "--1"]
def ir:Nat:=10 ^ 42
inductive Wc:List Nat->Option Int->Prop where
 | tx (n:Int) (h:n.natAbs < ir):Wc (br n) (if (n*2).natAbs < 10 ^ 40 then some (n*2) else none)
 | hf (m:Int) (h:m.natAbs < ir) (ho:m.fmod 2≠0):Wc (br m++[47,50]) (if m.natAbs < 10 ^ 40 then some m else none)
 | he (m:Int) (h:m.natAbs < 10 ^ 40) (ho:m.fmod 2=0):Wc (br m++[47,50]) none
 | bd (w:List Nat) (h:w∈hZ):Wc w none
 | bh (w:List Nat) (h:w∈i6):Wc (w++[47,50]) none
def dh (c:Nat):Bool:=decide (48<=c)&&decide (c<=57)
def db (l:List Nat):List Nat:=if l.head?=some 45 then l.tail else l
def lP (l:List Nat):Bool:=(decide (1<=l.length)&&decide (l.length<=40))&&(!(decide (l.head?=some 48)&&decide (1 < l.length))&&l.all dh)
def il (l:List Nat):Bool:=(!decide (l=[]))&&(decide (l.length<=40)&&l.all dh)
def Ft (l:List Nat):Bool:=l.all (fun c=>decide (c≠32)&&decide (c < 128))&&decide (l.length<=5)
theorem Fg:(hZ++i6).all Ft=true:=by decide +kernel
theorem fR {w:List Nat} (h:w∈hZ++i6):(∀c∈w,c≠32/\c < 128)/\w.length<=5:=by
 have h:=List.all_eq_true.mp Fg w h
 unfold Ft at h
 rw [Bool.and_eq_true] at h
 refine ⟨fun c hc=>?_,of_decide_eq_true h.2⟩
 have:=List.all_eq_true.mp h.1 c hc
 rw [Bool.and_eq_true] at this
 exact ⟨of_decide_eq_true this.1,of_decide_eq_true this.2⟩
theorem vq:∀w∈hZ,Txt.endswith (sN w) (sN [47,50])=false:=by decide +kernel
theorem qN:∀w∈hZ++i6,(decide (w=[45,48]) || !lP (db w))=true:=by decide +kernel
def DB (l:List Nat):Bool:=!il (db l) || (decide (db l=l) && !decide (bt (NumText.digitsVal l)=l)) || (decide (45::db l=l) && !decide (br (-((NumText.digitsVal (db l):Nat):Int))=l))
theorem Am:∀w∈hZ++i6,DB w=true:=by decide +kernel
theorem dS {i:Int} (h:i.natAbs < ir):(br i).length<=43:=by
 unfold br
 have:=eg (m:=i.natAbs) (k:=42) (by decide) h
 split
 ·rw [List.length_cons];omega
 ·omega
theorem yf {n:Nat} (h:n < 10 ^ 40):n < ir:=Nat.lt_of_lt_of_le h (by decide)
theorem DT {w:List Nat} {v:Option Int} (h:Wc w v):∀c∈w,c≠32/\c < 128:=by
 have key:∀i:Int,∀c∈br i,c≠32/\c < 128:=fun i c z=>by rcases eG i c z with q|q <;> omega
 have two:∀{l:List Nat},(∀c∈l,c≠32/\c < 128)->∀c∈l++[47,50],c≠32/\c < 128:=fun {l} hl c z=>by
  rcases List.mem_append.mp z with z|z
  ·exact hl c z
  ·simp only [List.mem_cons,List.not_mem_nil,or_false] at z;omega
 cases h with
 | tx n h=>exact key n
 | hf m h ho=>exact two (key m)
 | he m h ho=>exact two (key m)
 | bd _ h=>exact (fR (List.mem_append_left _ h)).1
 | bh _ h=>exact two (fR (List.mem_append_right _ h)).1
theorem qV {w:List Nat} {v:Option Int} (h:Wc w v):w.length<=45:=by
 cases h with
 | tx n h=>have:=dS h;omega
 | hf m h ho=>have:=dS h;rw [List.length_append];show _+2<=45;omega
 | he m h ho=>have:=dS (yf h);rw [List.length_append];show _+2<=45;omega
 | bd _ h=>have:=(fR (List.mem_append_left i6 h)).2;omega
 | bh _ h=>have:=(fR (List.mem_append_right hZ h)).2;rw [List.length_append];show _+2<=45;omega
theorem nc {w:List Nat} {i:Int} (h:Wc w (some i)):w=cq i/\i.natAbs < 10 ^ 40:=by
 generalize e:some i=v at h
 cases h with
 | tx n h =>
  split at e
  ·rename_i hn
   cases e
   refine ⟨?_,hn⟩
   unfold cq
   have e1:(n*2).fmod 2=0:=Int.mul_fmod_left n 2
   have e2:(n*2).fdiv 2=n:=Int.mul_fdiv_cancel n (by decide)
   rw [if_pos e1,e2]
  ·cases e
 | hf m h ho =>
  split at e
  ·rename_i hn
   cases e
   exact ⟨by unfold cq;rw [if_neg ho],hn⟩
  ·cases e
 | he=>cases e
 | bd=>cases e
 | bh=>cases e
theorem xW:∀c,c < 128->Txt.contains Cy (sN [c])=dh c:=by decide +kernel
theorem yg (g:Nat->Bool) (l:List Nat):aa (gq [.lst (l.map fun c=>D.bl (g c))]) (.bl (l.all g),0):=by
 have e:∀l:List Nat,bP (l.map fun c=>D.bl (g c))=some (l.map g):=fun l=>by
  induction l with
  | nil=>rfl
  | cons b bs ih=>rw [List.map_cons,bP,ih];rfl
 have z:(l.map g).all id=l.all g:=by rw [List.all_map];rfl
 unfold gq;dsimp only;rw [e]
 dsimp only
 rw [z]
 exact cD
theorem xN {l:List Nat} (h:∀c∈l,c < 128):items (.str (sN l))=some (l.map fun c=>D.str (sN [c])):=by
 show (if ((sN l).cps.all fun c=>decide (c < 128))=true then some (Sp.sgs (sN l)) else none)=_
 rw [if_pos (vw h),tY]
theorem kB {l:List Nat} (h:∀c∈l,c < 128):∀c∈db l,c < 128:=fun c hc=>by
 unfold db at hc
 split at hc
 ·exact h c (List.mem_of_mem_tail hc)
 ·exact h c hc
theorem tM (l:List Nat):(db l).length<=l.length:=by
 unfold db
 split
 ·rw [List.length_tail];omega
 ·exact Nat.le_refl _
theorem kA (i:Int):db (br i)=bt i.natAbs:=by
 unfold db
 by_cases hi:i < 0
 ·rw [if_pos ((gT i).mpr hi),show br i=45::bt i.natAbs from if_pos hi];rfl
 ·rw [if_neg fun z=>hi ((gT i).mp z),show br i=bt i.natAbs from if_neg hi]
theorem uY {l:List Nat} (h:l.head?=some 45):Txt.slice (sN l) (some 1) none=sN l.tail:=by
 cases l with
 | nil=>cases h
 | cons c l=>exact x8 c l
theorem xI:∀vs:List (Option Int),PyData.canLayAll0 (d6 (vs.map oI))=true/\PyData.depthAll (d6 (vs.map oI))<=10
 | []=>by simp [d6,PyData.canLayAll0,PyData.depthAll]
 | v::vs=>by
  have ih:=xI vs
  rw [List.map_cons,d6]
  cases v <;> simp [oI,D.py,PyData.canLayAll0,PyData.canLay0,PyData.depthAll,PyData.depth,ih]
theorem D9 (vs:List (Option Int)):SeqAt.shaped (D.tup (vs.map oI)).py=true:=by
 have:=xI vs
 rw [D.py]
 unfold SeqAt.shaped
 simp [PyData.canLay0,PyData.depth,this]
 omega
theorem lJ:∀vs:List (Option Int),((vs.map oI).any fun y=>eD y .non)=vs.any Option.isNone
 | []=>rfl
 | none::vs=>by rw [List.map_cons,List.any_cons,List.any_cons,lJ vs];rfl
 | some i::vs=>by rw [List.map_cons,List.any_cons,List.any_cons,lJ vs];rfl
theorem uI {vs:List (Option Int)} {b:Bool} (h:vs.any Option.isNone=b):aa (iW .In .non (.lst (vs.map oI))) b:=by
 refine aa.eq ⟨_,rfl,?_,True.intro⟩ ((lJ vs).trans h)
 unfold dP
 rw [D9]
 rfl
def fN:List (Option Int)->Option Nat
 | []=>none
 | none::_=>some 0
 | some _::l=>(fN l).map (· + 1)
theorem uK:∀vs:List (Option Int),fJ (vs.map oI)=fN vs
 | []=>rfl
 | none::vs=>rfl
 | some i::vs=>by rw [List.map_cons];show (fJ (vs.map oI)).map _=(fN vs).map _;rw [uK vs]
theorem r9:∀vs:List (Option Int),jI (vs.map oI)=true
 | []=>rfl
 | none::vs=>r9 vs
 | some i::vs=>r9 vs
theorem oS:∀vs:List (Option Int),vs.any Option.isNone=(fN vs).isSome
 | []=>rfl
 | none::vs=>rfl
 | some i::vs=>by
  rw [List.any_cons,oS vs]
  show (false || _)=((fN vs).map _).isSome
  cases fN vs <;> rfl
theorem oV:∀{vs:List (Option Int)},fN vs=none->∃is:List Int,vs=is.map some
 | [],_=>⟨[],rfl⟩
 | none::vs,h=>by cases h
 | some i::vs,h=>by
  have h:(fN vs).map (· + 1)=none:=h
  obtain ⟨is,e⟩:=oV (vs:=vs) (by cases e:fN vs with|none=>rfl|some j=>rw [e] at h;cases h)
  exact ⟨i::is,by rw [e];rfl⟩
theorem xX:∀{vs:List (Option Int)} {j:Nat},fN vs=some j->j < vs.length/\vs[j]?=some none/\∃is:List Int,vs.take j=is.map some
 | none::vs,j,h=>by cases h;exact ⟨by simp,rfl,[],rfl⟩
 | some i::vs,j,h=>by
  cases e:fN vs with
  | none=>rw [show fN (some i::vs)=(fN vs).map (· + 1) from rfl,e] at h;cases h
  | some k =>
   rw [show fN (some i::vs)=(fN vs).map (· + 1) from rfl,e] at h
   cases h
   obtain ⟨h1,h2,is,h3⟩:=xX e
   exact ⟨Nat.succ_lt_succ h1,h2,i::is,by show some i::vs.take k=_;rw [h3];rfl⟩
def pF (a b c d:Int):Option Nat:=if b.fmod 2≠a.fmod 2 then some 1 else if c.fmod 2≠a.fmod 2 then some 2 else if d.fmod 2≠a.fmod 2 then some 3 else none
def c7 (vs:List (Option Int)):Option Nat:=match fN (vs.take 4) with
 | some j=>some j
 | none=>if 4 < vs.length then some 4 else if vs.length < 4 then some vs.length else match vs with
  | [some a,some b,some c,some d]=>pF a b c d
  | _=>none
def oN:Option Nat->D
 | none=>.non
 | some j=>.int (j:Nat)
theorem lO {vs:List (Option Int)} (h:fN (vs.take 4)=none) (hl:vs.length=4):∃a b c d:Int,vs=[some a,some b,some c,some d]:=by
 rw [List.take_of_length_le (by omega)] at h
 obtain ⟨is,rfl⟩:=oV h
 rw [List.length_map] at hl
 match is,hl with
 | [a,b,c,d],_=>exact ⟨a,b,c,d,rfl⟩
theorem zO {Φ:Fx} {sc:Scope} {ρ:ae} {a:Expr} {m:Str} {ap cp:Pos} {args:List Expr} {it:Bool} {y:List D} {ds:List D} {k j:Nat} {M:D->List D->R1} {r:D×Nat} (ha:aa (ar Φ a false sc ρ) (.lst y,k)) (hs:aa (bq Φ args sc ρ) (ds,j)) (hM:aa (M (.lst y) ds) r) (hm:Φ.mth m=some M:=by rfl) (hp:(ap.endLine==cp.line)=true:=by rfl) (hb:eu a=true:=by rfl):aa (ar Φ (.Call (.Attribute a m ap) args [] cp) it sc ρ) r:=by
 rw [hJ,if_pos hp]
 refine ha.bnd (hs.bnd ?_)
 show aa (if eu a=true then (match Φ.mth m with|some M=>M (.lst y) ds|none=>.st) else .st) r
 rw [if_pos hb,hm]
 exact hM
theorem zK {ws:List (List Nat×Option Int)} {a b c d:Option Int} (h:ws.map (·.2)=[a,b,c,d]):∃w1 w2 w3 w4,ws=[(w1,a),(w2,b),(w3,c),(w4,d)]:=by
 rcases ws with _ | ⟨p1,_ | ⟨p2,_ | ⟨p3,_ | ⟨p4,_ | ⟨p5,t⟩⟩⟩⟩⟩
 ·cases h
 ·cases h
 ·cases h
 ·cases h
 ·simp only [List.map_cons,List.map_nil,List.cons.injEq,and_true] at h
  obtain ⟨rfl,rfl,rfl,rfl⟩:=h
  exact ⟨p1.1,p2.1,p3.1,p4.1,rfl⟩
 ·simp at h
theorem EA {a:Int} (h:4 < a):aa (j8 [.int a,.int 4]) (.int 4,0):=⟨[],by show Rs.ok (D.int (if (4:Int) < a then 4 else a),0) []=_;rw [if_pos h],True.intro⟩
theorem EB {a n:Int} (e:a=n) (h:a < 4):aa (j8 [.int a,.int 4]) (.int n,0):=⟨[],by show Rs.ok (D.int (if (4:Int) < a then 4 else a),0) []=_;rw [if_neg (by omega),e],True.intro⟩
theorem zC {is:List Int} {a b c d:Int} (h:[some a,some b,some c,some d]=is.map some):is=[a,b,c,d]:=by
 rcases is with _ | ⟨p1,_ | ⟨p2,_ | ⟨p3,_ | ⟨p4,_ | ⟨p5,t⟩⟩⟩⟩⟩
 ·cases h
 ·cases h
 ·cases h
 ·cases h
 ·simp only [List.map_cons,List.map_nil,List.cons.injEq,Option.some.injEq,and_true] at h
  obtain ⟨rfl,rfl,rfl,rfl⟩:=h
  rfl
 ·simp at h
end K
namespace Sp
open PySem PySem.Spec PyProof.Rows L2
abbrev eY (x:Addr) (o:Obj):HO:=.ext (fun h=>h.get? x=some o)
theorem oX {P:Program} {w:World} {H:Hp} {h:Heap} {x:Addr} {o:Obj} (e:h.get? x=some o):bB P w H h x (eY x o):=⟨e,⟨o,e⟩,fun h1 h2 a b=>b _ a⟩
theorem oY {P:Program} {w:World} {H:Hp} {h:Heap} {x:Addr} {o:Obj} (e:bB P w H h x (eY x o)):h.get? x=some o:=e.1
theorem wa {X:Cx} {b:Str} {S C:Addr} {mc:Value} {p pos apos:Pos} {e1:Expr} {es:List Expr} {t:TA} (hg:Gl X b) (hm:X.mg b=some (.ref S)) (hga:W.specialIn X.K (.ref S) "__getattribute__" = some (some (.builtin "type.__getattribute__")))
  (hrd:W.readsIn X.K S mc=true) (hfc:W.findCls X.K (.ref S) mc "__init__" = some (.val (.builtin "ValueError.__init__"))) (hex:gZ X.K C S=true) (ha:PA X (e1::es) t)
  (hst:starEach (e1::es) X.env=(false,eval e1 X.env)::starEach es X.env) (hpl:(backTo pos (starEach es X.env)).any (·.1)=false) (hdb:(b==("__debug__" : Str))=false)
  (ht:eval (.Call (.Attribute (.Name b p) "__init__" apos) (e1::es) [] pos) X.env=(do
   let ov <- eval (.Name b p) X.env
   standAt apos.atName
   let (f,first) <- holding [ov] (getMethod ov "__init__" (do return (<- importBound (.Name b p) X.env).getD true))
   callWith pos f first (backTo pos (starEach (e1::es) X.env)) (backToKw pos (keywordEach [] X.env)))) :
  PE X (.Call (.Attribute (.Name b p) "__init__" apos) (e1::es) [] pos) (fun σ H Q=>t σ H fun vs H1 => ∃x y o vv t0,vs=[.ref x,y]/\H1 x=some (eY x o)/\o.cls=.ref C/\o.data=.fields vv/\vv[0]?=some (.ref t0)/\∀t1,Q .non (aE H1 x (eY x { o with data:=.fields (vv.setIfInBounds 0 (.ref t1)) }))):=by
 intro pins s σ H Q I h
 obtain ⟨nm,qn,N,bs,hdct,sn,sub,ab,col,dd,k0,k1,k2,k3,k5,mN,g1,g2,g3,g4⟩:=dO hex I.ok.mod.kin
 refine W.methodCall_KW (pl:=(do return (<- importBound (.Name b p) X.env).getD true)) (cP I hg hm ?_ hdb) ht
 refine W.method_cls I.kIn hga (W.cls_value I.kIn hrd hfc rfl ?_)
 have I':=I.tok (s.toks+1)
 refine PyProof.Rows.callWith_builtin1 (aF (ha pos pins _ σ H _ I' h) fun us s2 ⟨vs,H2,I2,r,q2⟩=>?_) hst hpl
 obtain ⟨x,y,o,vv,t0,rfl,hx,hc,hd,h0,q⟩:=q2
 have e0:=oY (I2.hok x _ hx)
 cases r with
 | cons r1 r =>
  cases r with
  | cons r2 r =>
   cases r
   cases r1
   refine sx PySem.F.excBase_ValueError ((OwnTailQ.tail g4).keeps I2.bk) (Code.quiet_builtin _ (by decide +kernel)) (I2.bk _ _ g1) e0 hc hd h0 (fun h' w1 w2=>?_)
   exact ⟨.non,_,I2.write (x:=x) (e:=x) (by rw [hx];exact True.intro) (.inl rfl) w1 ⟨_,w2⟩ (oX w2),rfl,q _⟩
theorem yY {X:Cx} {C S:Addr} {cd:ClassData} {o value:Expr} {ta tv:TE} {f:Str} {pos' pos:Pos} (hcd:W.clsIn X.K C=some cd) (hmro:cd.mro=.ref C :: .ref S::dX) (hdd:cd.hasDict=true) (hsa:W.findIn X.K (.ref C) "__setattr__" = some (some (.builtin "object.__setattr__"))) (hff:W.findIn X.K (.ref C) f=some none)
  (ha:PE X o ta) (hv:PE X value tv) (hs:swapsWith value (some (.Attribute o f pos')) pos.line X.env=pure false):PS X (.Assign [.Attribute o f pos'] value pos) (fun D σ H=>tv σ H fun y H1=>ta σ H1 fun x H2 => ∃a ob vv,x=.ref a/\H2 a=some (eY a ob)/\ob.cls=.ref C/\ob.data=.fields vv/\ob.dict=none/\∀dx,H2 dx=none->D.nx σ (aE (aE H2 a (eY a { ob with dict:=some dx })) dx (.xd [(f,y)]))):=by
 intro pins s σ H D I h
 refine plainObj_wpAny_Assign_Attribute (aF (hv pins s σ H _ I h) fun u s1 ⟨y,H1,I1,ry,q⟩=>aF (ha pins s1 σ H1 _ I1 q) fun ov s2 ⟨x,H2,I2,rx,a,ob,vv,ex,ea,c1,c2,c3,q2⟩=>?_) hs
 subst ex
 obtain rfl:ov=Value.ref a:=rx
 have e0:=oY (I2.hok a _ ea)
 refine zL I2.kIn e0 c1 c2 c3 hcd hmro hdd hsa hff (fun h' dx w1 w2 w3 w4=>?_)
 have n1:H2 dx=none:=I2.hok.fresh w1
 have hne:a≠dx:=fun z=>by subst z;rw [n1] at ea;cases ea
 have up:(s2.heap.update a fun _ => { ob with dict:=some dx }).get? a=some { ob with dict:=some dx }:=Heap.get?_update_self _ e0 (by show Obj.isFreed _=false;unfold Obj.isFreed;rw [c2])
 have J1:ah X pins σ (aE H2 a (eY a { ob with dict:=some dx })) { s2 with heap:=s2.heap.update a fun _ => { ob with dict:=some dx },toks:=s2.toks }:=I2.write (x:=a) (e:=a) (by rw [ea];exact True.intro) (.inl rfl) (fun b u hb e=>(Heap.get?_update_other _ _ hb.symm).trans e) ⟨_,up⟩ (oX up)
 have J2:=J1.laid (a:=dx) (o:=.xd [(f,y)]) (h':=h') (t':=s2.toks+2) (fun b u e=>by
  by_cases hb:b=a
  ·subst hb
   have:some { ob with dict:=some dx }=some u:=up.symm.trans e
   rw [w3,this]
  ·exact w2 b u hb ((Heap.get?_update_other _ _ (Ne.symm hb)).symm.trans e)) (by show (s2.heap.update a _).objs.size<=dx;rw [Heap.size_update];exact w1) ⟨_,w4,fun g=>by
   by_cases hg:g=f
   ·subst hg;simp [List.lookup_cons];exact ry
   ·rw [if_neg hg,List.lookup_cons,show (g==f)=false from by simpa using hg];exact True.intro⟩
 exact ⟨σ,_,J2,q2 dx n1⟩
theorem BB {X:Cx} {e:Expr} {te:TE} {a:Str} {p0 p1 p3:Pos} {kd:Nat} (he:PE X e te) (ha:a.length<=200):PE X (.JoinedStr [.Constant (.str a) kd p0,.FormattedValue e (-1) none p1] p3) (fun σ H Q=>te σ H fun v H1 => ∃i:Int,v=.int i/\i.natAbs < 2 ^ 1900/\∀y,Q (.str y) H1):=by
 intro pins s σ H Q I h
 have hz:(2200:Nat)<=sizeLine:=by rw [sizeLine_eq];decide
 refine wpAny_JoinedStr ?_
 show wpAny _ _ (eval (.Constant (.str a) kd p0) X.env) (fun v s₁ => ∃y t',v=Value.str y t'/\(Str.empty++y).length<=sizeLine/\wpAny _ _ (eval (.FormattedValue e (-1) none p1) X.env) (fun v s₂ => ∃z t'',v=Value.str z t''/\(Str.empty++y++z).length<=sizeLine/\_) _ s₁) _ s
 refine wpAny_Constant_str ⟨_,_,rfl,?_,?_⟩
 ·rw [Str.empty_append];omega
 refine wpAny_FormattedValue_plain ?_
 refine aF (he pins _ σ H _ (I.tok _) h) fun u s1 ⟨v,H1,I1,r1,i,e1,hi,q⟩=>?_
 subst e1
 obtain ⟨tk,rfl⟩:=r1
 have hl:i.natAbs.log2 < 1920:=by
  rcases Nat.eq_zero_or_pos i.natAbs with z|z
  ·rw [z];decide
  ·exact Nat.lt_of_lt_of_le ((Nat.log2_lt (Nat.ne_of_gt z)).mpr hi) (by decide)
 have tl:=int_text_len_1921 hl
 refine wpAny_formatField_int hl ⟨_,_,rfl,?_,?_⟩
 ·rw [Str.empty_append,Str.length_append];omega
 ·refine ⟨?_,.str _,H1,(I1.tok _).tok _,⟨_,rfl⟩,q _⟩
  rw [Str.empty_append,Str.length_append];omega
def nS (C:Addr) (f:Str):Sp:=fun vs H Q _ => ∃x i o vv t0,vs=[.ref x,.int i]/\i.natAbs < 2 ^ 1900/\H x=some (eY x o)/\o.cls=.ref C/\o.data=.fields vv/\o.dict=none/\vv[0]?=some (.ref t0) /\
 ∀t1 dx,H dx=none->Q .non (aE (aE H x (eY x ⟨o.cls,some dx,.fields (vv.setIfInBounds 0 (.ref t1)),o.slots⟩)) dx (.xd [(f,.int i)]))
theorem vC {P:Program} {w:World} {K:W.Frag} {mg:Str->Option Value} {base:Heap} {g qual:Str} {st:Stmt} {f C S0:Addr} {fd:FuncData} {cd:ClassData} {mc:Value} (Fn:iz K g qual st f fd) {s0 a1 fl b a:Str} {kd:Nat} {p1 p2 p3 p5 p6 p7 p8 p9 p10 q1 q2 q3 q4:Pos}
  (hN:aw (ac st)=[s0,a1]) (S:aQ (aw (ac st)) [s0,a1] (ac st)) (hv:∀x∈[s0,a1],ge (ac st) x) (hok:∀x∈[s0,a1],eB x=true)
  (hgb:(ac st).names.lookup b=some .globalImplicit) (hm:mg b=some (.ref S0)) (hga:W.specialIn K (.ref S0) "__getattribute__" = some (some (.builtin "type.__getattribute__"))) (hrd:W.readsIn K S0 mc=true) (hfc:W.findCls K (.ref S0) mc "__init__" = some (.val (.builtin "ValueError.__init__"))) (hex:gZ K C S0=true)
  (hcd:W.clsIn K C=some cd) (hmro:cd.mro=.ref C :: .ref S0::dX) (hdd:cd.hasDict=true) (hsa:W.findIn K (.ref C) "__setattr__" = some (some (.builtin "object.__setattr__"))) (hff:W.findIn K (.ref C) fl=some none)
  (hb:ak st=[.Expr (.Call (.Attribute (.Name b p1) "__init__" p2) [.Name s0 p3,.JoinedStr [.Constant (.str a) kd p5,.FormattedValue (.Name a1 p6) (-1) none p7] p8] [] p9) p10,.Assign [.Attribute (.Name s0 q1) fl q2] (.Name a1 q3) q4]) (ha:a.length<=200) (hln:(p2.endLine==p9.line)=true) (hdb:(b==("__debug__" : Str))=false) :
  bv P w K mg base cU 1 f fd [s0,a1] (nS C fl):=by
 refine Fn.ok (k:=0) S (fun vs H Q E h=>?_) (fun cdv A outer s H vs Q E hr h=>?_)
 ·obtain ⟨x,i,o,vv,t0,rfl,_⟩:=h
  rfl
 ·obtain ⟨x,i,o,vv,t0,rfl,hi,hx,hc,hd,hdi,h0,q⟩:=h
  have nm:∀(i:Nat) (x:Str) (p:Pos),[s0,a1][i]?=some x->PE (cW cU P w K mg base (aw (ac st)) qual (ac st) f cdv A outer s H E).nox (.Name x p) (nK i):=fun i x p hi =>
   iJ (by show (aw (ac st))[i]?=some x;rw [hN];exact hi) (hv x (List.mem_of_getElem? hi)) (d7 (hok x (List.mem_of_getElem? hi))).1 (d7 (hok x (List.mem_of_getElem? hi))).2
  have ns:∀e∈[Expr.Name s0 p3,.JoinedStr [.Constant (.str a) kd p5,.FormattedValue (.Name a1 p6) (-1) none p7] p8],∀y p,e≠Expr.Starred y p:=fun e he=>by
   simp only [List.mem_cons,List.not_mem_nil,or_false] at he
   rcases he with rfl|rfl <;> (intro y p z;cases z)
  rw [hb]
  refine ⟨_,dM (jj (wa (C:=C) hgb hm hga hrd hfc hex (lH (nm 0 s0 p3 rfl) (lH (BB (nm 1 a1 p6 rfl) ha) ug (aI fun _ _ z=>by cases z)) (aI fun _ _ z=>by cases z)) (aI fun _ _ z=>by cases z) (bL fun e he=>ns e (List.mem_cons_of_mem _ he)) hdb (ET (cR rfl) (gL ns (Nat.le_of_ble_eq_true rfl)) hln)) rfl) (lF (yY hcd hmro hdd hsa hff (nm 0 s0 q1 rfl) (nm 1 a1 q3 rfl) rfl)),?_⟩
  rw [hN]
  refine ⟨.ref x,rfl,.int i,rfl,i,rfl,hi,fun y=>⟨x,.str y,o,vv,t0,rfl,hx,hc,hd,h0,fun t1=>?_⟩⟩
  refine ⟨.int i,rfl,.ref x,rfl,x,_,_,rfl,aJ,hc,rfl,hdi,fun dx hdx=>?_⟩
  rw [pX]
  have hne:dx≠x:=fun z=>by subst z;rw [aJ] at hdx;cases hdx
  exact q t1 dx (by rw [az hne] at hdx;exact hdx)
def hide (H:Hp) (z:Addr):Hp:=fun a=>if a=z then none else H a
theorem Un.hide {fs ex:List Addr} {H H':Hp} {h h1 h2:Heap} {z:Addr} {o:HO} (u:Un fs ex (aE H z o) H' h1 h2) (k:∀b q,h.get? b=some q->h1.get? b=some q) (hz:h.get? z=none) (nz:H z=none):Un fs ex H (Sp.hide H' z) h h2:=by
 have ne:∀b q,h.get? b=some q->b≠z:=fun b q e y=>by subst y;rw [hz] at e;cases e
 have up:∀b q,h.get? b=some q->H b=none->aE H z o b=none:=fun b q e n=>(az (ne b q e)).trans n
 have nt:∀b q,H b=some q->b≠z:=fun b q e y=>by subst y;rw [nz] at e;cases e
 refine ⟨fun b q e n hf hx=>u.keep b q (k b q e) (up b q e n) hf hx,fun b q e n hf hx=>u.slot b q (k b q e) (up b q e n) hf hx,fun b q e n hx=>?_,fun b q e hx=>u.there b q (k b q e) hx,fun b xs e=>?_,fun b q v e=>?_,fun b ps e=>?_⟩
 ·show (if b=z then none else H' b)=none
  rw [if_neg (ne b q e)];exact u.free b q (k b q e) (up b q e n) hx
 ·show (if b=z then none else H' b)=_
  rw [if_neg (nt b _ e)];exact u.tups b xs ((az (nt b _ e)).trans e)
 ·show (if b=z then none else H' b)=_
  rw [if_neg (nt b _ e)];exact u.frzs b q v ((az (nt b _ e)).trans e)
 ·show ∃more,(if b=z then none else H' b)=_
  rw [if_neg (nt b _ e)];exact u.tbls b ps ((az (nt b _ e)).trans e)
theorem cg.hide {P:Program} {w:World} {H:Hp} {h:Heap} {z:Addr} {φ:Heap->Prop} (ok:cg P w H h) (hz:H z=some (.ext φ)):cg P w (Sp.hide H z) h:=fun b o e=>by
 have hb:b≠z:=fun y=>by subst y;unfold Sp.hide at e;rw [if_pos rfl] at e;cases e
 have e':H b=some o:=by unfold Sp.hide at e;rw [if_neg hb] at e;exact e
 have st:∀a q,H a=some q->(∀φ,q ≠ .ext φ)->Sp.hide H z a=some q:=fun a q ea hq=>by
  unfold Sp.hide
  rw [if_neg (fun y=>by subst y;rw [hz] at ea;cases ea;exact hq _ rfl)];exact ea
 exact (ok b o e').stay (fun c v _ q=>q) (fun x q=>st _ _ q (fun _ y=>by cases y)) (fun a xs q=>st _ _ q (fun _ y=>by cases y))
theorem t6 {X:Cx} {pins:List (Addr×Obj)} {σ:L2.St} {H:Hp} {s:Shared} {x f:Str} {C S fI:Addr} {oI:Obj} {fd:FuncData} {ps:List Str} {k:Nat} {np cpos pos:Pos} {e:Expr} {t:TA} {Q:Flow->Shared->Prop} (I:ah X pins σ H s) (hc:X.calm=true) (hg:Gl X x) (hm:X.mg x=some (.ref C)) (hx:fc X.K C S) (hin:d9 X.K C=some (.ref fI))
  (hfo:X.K.lookup fI=some oI) (hfc:oI.cls=.type "function") (hkC:W.keepIn X.K (.ref C)=true) (F:bv X.prog X.w X.K X.mg X.base cU k fI fd ps (nS C f)) (hr:bu (k+1) X.A) (hb:bG X.K fd ps []) (hdb:(x==("__debug__" : Str))=false)
  (ha:PA X [e] t) (he:starEach [e] X.env=(false,eval e X.env)::starEach [] X.env)
  (h:t σ H fun vs H1 => ∃i:Int,vs=[.int i]/\i.natAbs < 2 ^ 1900/\∀s1 z dx o vv a0,ah X pins σ (aE H1 dx (.xd [(f,.int i)])) s1->H1 dx=none->s1.heap.get? z=some o->o.cls=.ref C->o.dict=some dx->o.data=.fields vv->1 < vv.size->vv[0]?=some a0->vv[1]?=some .none->(aE H1 dx (.xd [(f,.int i)])) z=none->X.s₀.heap.get? z=none->X.xe (.ref z) s1) :
  wpAny (model X.prog X.w) X.A (exec (.Raise (some (.Call (.Name x np) [e] [] cpos)) none pos) X.env) Q X.xe s:=by
 obtain ⟨nm,qn,N,bs,hdct,sn,sub,ab,col,dd,k0,k1,k2,k3,k5,mN,g1,g2,g3,g4⟩:=dO hx.ex I.ok.mod.kin
 rw [arm_exec_Raise]
 refine wpAny_bind (wpAny_standAt ?_)
 refine rB (x:=(do let v <- eval (.Call (.Name x np) [e] [] cpos) X.env;standAt pos;pure v)) (C:=C) (nm:=nm) (q:=qn) (N:=N) (bs:=bs) (bm:=.ref S::dX) (hdct:=hdct) (sn:=sn) (sub:=sub) (ab:=ab) (col:=col) (dd:=dd) (k0:=k0) (k1:=k1) (k2:=k2) (k3:=k3) (k5:=k5) (newId := "ValueError.__new__") (vm S) (I.ok.hd hc) ?_
 refine wpAny_bind (wpAny_Call_ofName (cP I hg hm ?_ hdb))
 refine W.callWith_K (h₀:=X.base) I.ok.mod.kin hkC (aF (ha cpos pins s σ H _ I h) fun us s1 ⟨vs,H1,I1,r,i,ev,hi,q⟩=>⟨I1.kIn,?_⟩) he rfl
 subst ev
 cases r with
 | cons r1 r =>
 rename_i u0 us0
 cases r
 obtain ⟨tk,rfl⟩:=r1
 obtain ⟨hh,gg,d0,tt,oo⟩:=s1
 have gN:hh.Ns N mN:=by obtain ⟨o,es,ep,e1,e2⟩:=g2;exact ⟨o,es,ep,I1.bk _ _ e1,e2⟩
 refine sw PySem.F.excBase_ValueError ((OwnTailQ.tail g4).keeps I1.bk) (I1.bk _ _ g1) gN (g3.trans hin) (I1.kIn _ _ hfo) hfc (fun h' z hz m=>?_) (by rw [sizeLine_eq];exact Nat.le_of_ble_eq_true rfl)
 obtain ⟨t0,w1,w2,w3⟩:=m.there
 have n1:H1 z=none:=I1.hok.fresh hz
 have I2:ah X pins σ (aE H1 z (eY z _)) ⟨h',gg,d0,tt,oo⟩:=I1.laid (a:=z) (h':=h') (t':=tt) m.keeps hz (oX w1)
 have hsp:nS C f [.ref z,.int i] (aE H1 z (eY z { cls:=.ref C,data:=.fields #[.ref t0,.none,.none,.none,.bool false,.none] })) (fun v H'=>v=.non/\∃t1 dx,(aE H1 z (eY z { cls:=.ref C,data:=.fields #[.ref t0,.none,.none,.none,.bool false,.none] })) dx=none/\H'=aE (aE (aE H1 z (eY z { cls:=.ref C,data:=.fields #[.ref t0,.none,.none,.none,.bool false,.none] })) z (eY z ⟨.ref C,some dx,.fields (#[.ref t0,.none,.none,.none,.bool false,.none].setIfInBounds 0 (.ref t1)),#[]⟩)) dx (.xd [(f,.int i)])) (fun _ _ _=>False) :=
  ⟨z,i,_,_,t0,rfl,hi,aJ,rfl,rfl,rfl,rfl,fun t1 dx hdx=>⟨rfl,t1,dx,hdx,rfl⟩⟩
 have r2:aH [.ref z,.int i] [.ref z,.int i tk]:=.cons rfl (.cons ⟨tk,rfl⟩ .nil)
 have hl:([Value.ref z,.int i tk]++[]).length=ps.length:=F.len _ _ _ _ hsp
 refine wpAny_call (codeAny_mono (F.run (X.A.under (.builtin "type.__call__" ⟨.ref C::([]++[.int i tk]),[]⟩)) X.stack ⟨h',gg,d0,tt,oo⟩ _ ⟨[.ref z,.int i tk],[]⟩ [.ref z,.int i tk] [.ref z,.int i] _ _ (hr.make C _ []) (I2.env0.make C _ []) (by have:=hb ⟨h',gg,d0,tt,oo⟩ [.ref z,.int i tk] I2.kIn hl;rw [List.append_nil] at this;exact this) r2 hsp) fun r s' hq=>?_)
 cases r with
 | error e=>exact kH pins σ _ _ e s' I2 hq
 | ok fl =>
  cases fl with
  | next=>exact False.elim hq
  | brk=>exact False.elim hq
  | cont=>exact False.elim hq
  | ret u =>
   obtain ⟨v,H',os',bare,un,hok,ru,rfl,t1,dx,hdx,rfl⟩:=hq
   have hne:dx≠z:=fun y=>by subst y;rw [aJ] at hdx;cases hdx
   rw [az hne] at hdx
   rw [pX] at un hok
   have hzn:hh.get? z=none:=Heap.get?_none_of_le hz
   have un2:=Un.hide un m.keeps hzn n1
   have ez:(aE (aE H1 z (eY z ⟨.ref C,some dx,.fields (#[.ref t0,.none,.none,.none,.bool false,.none].setIfInBounds 0 (.ref t1)),#[]⟩)) dx (.xd [(f,.int i)])) z=some (eY z ⟨.ref C,some dx,.fields (#[.ref t0,.none,.none,.none,.bool false,.none].setIfInBounds 0 (.ref t1)),#[]⟩):=by rw [az hne.symm];exact aJ
   have hok2:=cg.hide hok ez
   have oz:=oY (hok z _ ez)
   have eH:Sp.hide (aE (aE H1 z (eY z ⟨.ref C,some dx,.fields (#[.ref t0,.none,.none,.none,.bool false,.none].setIfInBounds 0 (.ref t1)),#[]⟩)) dx (.xd [(f,.int i)])) z=aE H1 dx (.xd [(f,.int i)]):=by
    funext a
    unfold Sp.hide
    by_cases ha:a=z
    ·subst ha;rw [if_pos rfl,az hne.symm,n1]
    ·rw [if_neg ha]
     by_cases hb:a=dx
     ·subst hb;rw [aJ,aJ]
     ·rw [az hb,az hb,az ha]
   rw [eH] at un2 hok2
   obtain ⟨hh',g',d',t',o'⟩:=s'
   obtain rfl:o'=oo:=os'
   have I3:=I1.call (h':=hh') (g':=g') (d':=d') (t':=t') (ch:=[]) un2 hok2 bare (fun b z=>absurd z (by simp))
   have ru:u=Value.none:=ru
   refine ⟨ru,wpAny_bind (wpAny_standAt (wpAny_pure ⟨z,_,_,rfl,I3.bk _ _ g1,oz,rfl,rfl,by simp,q _ z dx _ _ _ I3 hdx oz rfl rfl rfl (by simp) (by simp;rfl) (by simp) (by rw [az hne.symm];exact n1) (Heap.get?_none_of_le (Nat.le_trans I1.sz hz))⟩))⟩
end Sp
namespace Sp
open PySem PySem.Spec PyProof.Rows L2
variable {X:Cx}
theorem _root_.L2.PA.nox {es:List Expr} {t:TA} (h:PA X.nox es t):PA X es t:=fun pos pins s σ H Q I hw =>
 wpAny_mono (h pos pins s σ H Q (I.wish _) hw) (fun _ _ ⟨v,H',I',r,q⟩=>⟨v,H',I'.unwish,r,q⟩) fun _ _ z=>False.elim z
theorem _root_.L2.PS.nox {st:Stmt} {t:TS} (h:PS X.nox st t):PS X st t:=fun pins s σ H D I hw =>
 wpAny_mono (h pins s σ H D (I.wish _) hw) (fun _ _ q=>q.unwish) fun _ _ z=>False.elim z
theorem Ak {pins:List (Addr×Obj)} {s:Shared} {σ:L2.St} {H:Hp} {Q:Value->Shared->Prop} {k:Nat} {f:Addr} {fd:FuncData} {ps:List Str} {sp:L2.Sp} {E:XK} {x:Str} {p pos:Pos} {e:Expr} {es:List Expr} {t:TA} (F:bv X.prog X.w X.K X.mg X.base (cm X.prog X.w) k f fd ps sp) (hr:bu k X.A) (hg:Gl X x) (hm:X.mg x=some (.ref f)) (hk:W.keepIn X.K (.ref f)=true) (hb:bG X.K fd ps [])
  (I:ah X pins σ H s) (hx:∀H1 s1 e s',ah X pins σ H1 s1->cm X.prog X.w X.stack H1 s1 E e s'->X.xe e s')
  (ha:PA X (e::es) t) (hdb:(x==("__debug__" : Str))=false) (he:starEach (e::es) X.env=(false,eval e X.env)::starEach es X.env) (hpl:(backTo pos (starEach es X.env)).any (·.1)=false)
  (h:t σ H fun vs H1=>sp vs H1 (fun _ _=>False) E):wpAny (model X.prog X.w) X.A (eval (.Call (.Name x p) (e::es) [] pos) X.env) Q X.xe s:=by
 refine wpAny_Call_Name_kw (cP I hg hm ?_ hdb)
 refine W.callWith_K (h₀:=X.base) I.ok.mod.kin hk (aF (ha pos pins s σ H _ I h) fun us s1 ⟨vs,H1,I1,r,q⟩=>⟨I1.kIn,?_⟩) he hpl
 have hl:us.length=ps.length:=by rw [<- r.length];exact F.len _ _ _ _ q
 refine wpAny_call (codeAny_mono (F.run X.A X.stack s1 H1 ⟨us,[]⟩ us vs _ E hr I1.env0 (by have:=hb s1 us I1.kIn (by rw [List.append_nil];exact hl);rw [List.append_nil] at this;exact this) r q) fun r s' hq=>?_)
 cases r with
 | error e=>exact hx H1 s1 e s' I1 hq
 | ok fl =>
  cases fl with
  | ret u=>obtain ⟨_,_,_,_,_,_,_,z⟩:=hq;exact z.elim
  | next=>exact False.elim hq
  | brk=>exact False.elim hq
  | cont=>exact False.elim hq
theorem zt {pins:List (Addr×Obj)} {s:Shared} {σ:L2.St} {H:Hp} {Q:Value->Shared->Prop} {k:Nat} {C f:Addr} {fd:FuncData} {ps:List Str} {sp:L2.Sp} {E:XK} {x:Str} {p pos:Pos} {e:Expr} {es:List Expr} {t:TA} (M:Mk X.K C f) (F:bv X.prog X.w X.K X.mg X.base (cm X.prog X.w) k f fd ps sp) (hr:bu (k+1) X.A) (hg:Gl X x) (hm:X.mg x=some (.ref C)) (hb:bG X.K fd ps [])
  (I:ah X pins σ H s) (hx:∀H1 s1 e s',ah X pins σ H1 s1->cm X.prog X.w X.stack H1 s1 E e s'->X.xe e s')
  (ha:PA X (e::es) t) (hdb:(x==("__debug__" : Str))=false) (he:starEach (e::es) X.env=(false,eval e X.env)::starEach es X.env) (hpl:(backTo pos (starEach es X.env)).any (·.1)=false)
  (h:t σ H fun vs H1 => ∀x dx,H1 x=none->H1 dx=none->dx≠x->sp (.ref x::vs) (aE (aE H1 dx (.own x)) x (.ins C dx [])) (fun _ _=>False) E):wpAny (model X.prog X.w) X.A (eval (.Call (.Name x p) (e::es) [] pos) X.env) Q X.xe s:=by
 refine wpAny_Call_Name_kw (cP I hg hm ?_ hdb)
 refine W.callWith_K (h₀:=X.base) I.ok.mod.kin M.kp (aF (ha pos pins s σ H _ I h) fun us s1 ⟨vs,H1,I1,r,q⟩=>⟨I1.kIn,?_⟩) he hpl
 have hq:=q (s1.heap.objs.size+1) s1.heap.objs.size (I1.hok.fresh (Nat.le_succ _)) (I1.hok.fresh (Nat.le_refl _)) (Nat.ne_of_lt (Nat.lt_succ_self _))
 have I2:=ah.made (C:=C) I1
 have r2:aH (V.ref (s1.heap.objs.size+1)::vs) (Value.ref (s1.heap.objs.size+1)::us):=.cons rfl r
 have hl:(Value.ref (s1.heap.objs.size+1)::us++[]).length=ps.length:=by
  have e:=r2.length
  rw [F.len _ _ _ _ hq] at e
  rw [List.append_nil]
  exact e.symm
 refine wpAny_call (oG (f:=f) I1.kIn M.makes M.init (beq_iff_eq.mp M.fn) (codeAny_mono (F.run _ X.stack _ _ ⟨Value.ref (s1.heap.objs.size+1)::us,[]⟩ (Value.ref (s1.heap.objs.size+1)::us) _ _ E (hr.make C us [])
  (I2.env0.make C us []) (by have:=hb _ (Value.ref (s1.heap.objs.size+1)::us) I2.kIn hl;rw [List.append_nil] at this;exact this) r2 hq) fun r s' hq'=>?_))
 cases r with
 | error e=>exact hx _ _ e s' I2 hq'
 | ok fl =>
  cases fl with
  | ret u=>obtain ⟨_,_,_,_,_,_,_,z⟩:=hq';exact z.elim
  | next=>exact False.elim hq'
  | brk=>exact False.elim hq'
  | cont=>exact False.elim hq'
def tQ (K:W.Frag) (G:List D->Option Xs):L2.Sp:=fun vs H _ E => ∃ds n p fs C S,ag K H (fun _ _=>True) ds vs/\G ds=some (n,p,fs)/\W.nsIn K mainGlobals n=some (some (.ref C))/\W.nsIn K mainGlobals p=some (some (.ref S))/\fc K C S/\∀od H',av H H'->qH H' od fs->E (.ref C) od H'
def yw (H0:Hp) (C:Addr) (fs:List (Str×Int)):XK:=fun c od H'=>c=.ref C/\av H0 H'/\qH H' od fs
def AY (g:Str) (G:List D->Option Xs):List D->Option Xs:=fun ds=>match ds with
 | .obj n [] []::l=>if n=g then G l else none
 | _=>none
def JR (X:Cx) (g:Str) (G:List D->Option Xs):Prop:=∃k f fd ps,bv X.prog X.w X.K X.mg X.base (cm X.prog X.w) k f fd ps (tQ X.K G)/\bu k X.A/\X.mg g=some (.ref f)/\W.keepIn X.K (.ref f)=true/\bG X.K fd ps []/\(g==("__debug__" : Str))=false
def JN (X:Cx) (g:Str) (G:List D->Option Xs):Prop:=∃k C f fd ps,Mk X.K C f/\bv X.prog X.w X.K X.mg X.base (cm X.prog X.w) k f fd ps (tQ X.K (AY g G))/\bu (k+1) X.A/\X.mg g=some (.ref C)/\W.nsIn X.K mainGlobals g=some (some (.ref C))/\fV X.K C/\bG X.K fd ps []/\(g==("__debug__" : Str))=false
def pD (X:Cx) (g:Str) (G:List D->Option Xs):Prop:=JR X g G\/JN X g G
theorem Bz {ρ:ae} {e:Expr} {x:Str} {k:Nat} {t:Str} {p1 p2 p3:Pos} {kd:Nat} (he:ED X ρ e (.str x) k) (hx:(reprText x).length<=1000) (ht:t.length<=64):ED X ρ (.JoinedStr [.FormattedValue e 114 none p1,.Constant (.str t) kd p2] p3) (.str (reprText x++t)) 0:=by
 intro ow pins s σ H Q I ⟨E,q⟩
 have hz:(1064:Nat)<=sizeLine:=by rw [sizeLine_eq];decide
 have hx':(reprText x).length<=sizeLine:=by omega
 refine wpAny_JoinedStr ?_
 show wpAny _ _ (eval (.FormattedValue e 114 none p1) X.env) (fun v s₁ => ∃y t',v=Value.str y t'/\(Str.empty++y).length<=sizeLine/\wpAny _ _ (eval (.Constant (.str t) kd p2) X.env) (fun v s₂ => ∃z t'',v=Value.str z t''/\(Str.empty++y++z).length<=sizeLine/\_) _ s₁) _ s
 rw [arm_eval_FormattedValue]
 refine wpAny_bind (aF (he ow pins s σ H (fun v H'=>v=.str x/\av H H') I ⟨E,fun v H' s' r=>⟨by rw [af] at r;exact r,s'⟩⟩) fun u s1 ⟨v,H1,I1,r1,e1,s1'⟩=>?_)
 subst e1
 obtain ⟨tk,rfl⟩:=r1
 refine wpAny_bind (wpAny_standAt ?_)
 refine wpAny_bind (wpAny_holding ?_)
 show wpAny _ _ (pyReprObj (Value.str x tk)) _ _ _
 refine wpAny_pyReprObj_str ?_ hx'
 show wpAny _ _ (formatField (Value.str (reprText x) s1.toks) Str.empty) _ _ _
 refine PyProof.Rows.formatField_str (fun t' tk'=>⟨_,_,rfl,?_,?_⟩) hx'
 ·rw [Str.empty_append];exact hx'
 ·refine wpAny_Constant_str ⟨_,_,rfl,?_,?_⟩
  ·rw [Str.empty_append,Str.length_append];omega
  ·refine ⟨?_,.str _,H1,((I1.tok _).tok _).tok _,⟨_,rfl⟩,q _ _ s1' (by rw [af,Str.empty_append])⟩
   rw [Str.empty_append,Str.length_append];omega
theorem BA {ρ:ae} {e:Expr} {i:Int} {k:Nat} {a t:Str} {p0 p1 p2 p3:Pos} {kd0 kd:Nat} (he:ED X ρ e (.int i) k) (hi:i.natAbs < 2 ^ 1900) (ha:a.length<=200) (ht:t.length<=64):ED X ρ (.JoinedStr [.Constant (.str a) kd0 p0,.FormattedValue e (-1) none p1,.Constant (.str t) kd p2] p3) (.str (a++Str.ofString (toString i)++t)) 0:=by
 intro ow pins s σ H Q I ⟨E,q⟩
 have hl:i.natAbs.log2 < 1920:=by
  rcases Nat.eq_zero_or_pos i.natAbs with z|z
  ·rw [z];decide
  ·exact Nat.lt_of_lt_of_le ((Nat.log2_lt (Nat.ne_of_gt z)).mpr hi) (by decide)
 have tl:=int_text_len_1921 hl
 have hz:(2200:Nat)<=sizeLine:=by rw [sizeLine_eq];decide
 refine wpAny_JoinedStr ?_
 show wpAny _ _ (eval (.Constant (.str a) kd0 p0) X.env) (fun v s₁ => ∃y t',v=Value.str y t'/\(Str.empty++y).length<=sizeLine/\wpAny _ _ (eval (.FormattedValue e (-1) none p1) X.env) (fun v s₂ => ∃z t'',v=Value.str z t''/\(Str.empty++y++z).length<=sizeLine/\wpAny _ _ (eval (.Constant (.str t) kd p2) X.env) (fun v s₂ => ∃z' t'',v=Value.str z' t''/\(Str.empty++y++z++z').length<=sizeLine/\_) _ s₂) _ s₁) _ s
 refine wpAny_Constant_str ⟨_,_,rfl,?_,?_⟩
 ·rw [Str.empty_append];omega
 refine wpAny_FormattedValue_plain ?_
 refine aF (he ow pins _ σ H (fun v H'=>v=.int i/\av H H') (I.tok _) ⟨E,fun v H' s' r=>⟨by rw [af] at r;exact r,s'⟩⟩) fun u s1 ⟨v,H1,I1,r1,e1,s1'⟩=>?_
 subst e1
 obtain ⟨tk,rfl⟩:=r1
 refine wpAny_formatField_int hl ⟨_,_,rfl,?_,?_⟩
 ·rw [Str.empty_append,Str.length_append];omega
 ·refine wpAny_Constant_str ⟨_,_,rfl,?_,?_⟩
  ·rw [Str.empty_append,Str.length_append,Str.length_append];omega
  ·refine ⟨?_,.str _,H1,(I1.tok _).tok _ |>.tok _,⟨_,rfl⟩,q _ _ s1' (by rw [af,Str.empty_append])⟩
   rw [Str.empty_append,Str.length_append,Str.length_append];omega
inductive Rz (Φ:Fx) (Ψ:Str->Option (List D->Option Xs)) (Ex:Str->Option (Str×Option Str)) (sc:Scope):List Stmt->ae->Xs->Prop where
 | raise {e:Expr} {d:D} {k:Nat} {x p:Str} {np cpos pos:Pos} {ss:List Stmt} {ρ:ae} (he:aa (ar Φ e false sc ρ) (d,k)) (hx:sc.names.lookup x=some .globalImplicit) (hd:(x==("__debug__" : Str))=false) (hp:Ex x=some (p,none)):Rz Φ Ψ Ex sc (.Raise (some (.Call (.Name x np) [e] [] cpos)) none pos::ss) ρ (x,p,[])
 | raiseR {e:Expr} {y t:Str} {k kd:Nat} {x p:Str} {np cpos pos p1 p2 p3:Pos} {ss:List Stmt} {ρ:ae} (he:aa (ar Φ e false sc ρ) (.str y,k)) (hy:(reprText y).length<=1000) (ht:t.length<=64) (hx:sc.names.lookup x=some .globalImplicit) (hd:(x==("__debug__" : Str))=false) (hp:Ex x=some (p,none)):Rz Φ Ψ Ex sc (.Raise (some (.Call (.Name x np) [.JoinedStr [.FormattedValue e 114 none p1,.Constant (.str t) kd p2] p3] [] cpos)) none pos::ss) ρ (x,p,[])
 | raiseM {e:Expr} {i:Int} {a t:Str} {k kd0 kd:Nat} {x p:Str} {np cpos pos p0 p1 p2 p3:Pos} {ss:List Stmt} {ρ:ae} (he:aa (ar Φ e false sc ρ) (.int i,k)) (hi:i.natAbs < 2 ^ 1900) (ha:a.length<=200) (ht:t.length<=64) (hx:sc.names.lookup x=some .globalImplicit) (hd:(x==("__debug__" : Str))=false) (hp:Ex x=some (p,none)):Rz Φ Ψ Ex sc (.Raise (some (.Call (.Name x np) [.JoinedStr [.Constant (.str a) kd0 p0,.FormattedValue e (-1) none p1,.Constant (.str t) kd p2] p3] [] cpos)) none pos::ss) ρ (x,p,[])
 | raiseF {e:Expr} {i:Int} {k:Nat} {x p f:Str} {np cpos pos:Pos} {ss:List Stmt} {ρ:ae} (he:aa (ar Φ e false sc ρ) (.int i,k)) (hi:i.natAbs < 2 ^ 1900) (hx:sc.names.lookup x=some .globalImplicit) (hd:(x==("__debug__" : Str))=false) (hp:Ex x=some (p,some f)):Rz Φ Ψ Ex sc (.Raise (some (.Call (.Name x np) [e] [] cpos)) none pos::ss) ρ (x,p,[(f,i)])
 | exp {f:Str} {G:List D->Option Xs} {e:Expr} {es:List Expr} {p q pos:Pos} {ds:List D} {k:Nat} {ss:List Stmt} {ρ:ae} {r:Xs} (ha:aa (bq Φ (e::es) sc ρ) (ds,k)) (hf:sc.names.lookup f=some .globalImplicit) (hG:Ψ f=some G) (h:G ds=some r):Rz Φ Ψ Ex sc (.Expr (.Call (.Name f p) (e::es) [] q) pos::ss) ρ r
 | asn {f:Str} {G:List D->Option Xs} {x:Str} {e:Expr} {es:List Expr} {p q pos px:Pos} {ds:List D} {k:Nat} {ss:List Stmt} {ρ:ae} {r:Xs} (ha:aa (bq Φ (e::es) sc ρ) (ds,k)) (hf:sc.names.lookup f=some .globalImplicit) (hG:Ψ f=some G) (h:G ds=some r):Rz Φ Ψ Ex sc (.Assign [.Name x px] (.Call (.Name f p) (e::es) [] q) pos::ss) ρ r
 | ast {f:Str} {G:List D->Option Xs} {ts:List Expr} {n:Nat} {e:Expr} {es:List Expr} {p q pos px:Pos} {ds:List D} {k:Nat} {ss:List Stmt} {ρ:ae} {r:Xs} (ha:aa (bq Φ (e::es) sc ρ) (ds,k)) (hf:sc.names.lookup f=some .globalImplicit) (hG:Ψ f=some G) (h:G ds=some r):Rz Φ Ψ Ex sc (.Assign [.Tuple ts n px] (.Call (.Name f p) (e::es) [] q) pos::ss) ρ r
 | ret {f:Str} {G:List D->Option Xs} {e:Expr} {es:List Expr} {p q pos:Pos} {ds:List D} {k:Nat} {ss:List Stmt} {ρ:ae} {r:Xs} (ha:aa (bq Φ (e::es) sc ρ) (ds,k)) (hf:sc.names.lookup f=some .globalImplicit) (hG:Ψ f=some G) (h:G ds=some r):Rz Φ Ψ Ex sc (.Return (some (.Call (.Name f p) (e::es) [] q)) pos::ss) ρ r
 | iff {c:Expr} {a b ss:List Stmt} {t:Bool} {k:Nat} {pos:Pos} {ρ:ae} {r:Xs} (hc:aa (ar Φ c false sc ρ) (.bl t,k)) (h:Rz Φ Ψ Ex sc (cond t a b) ρ r):Rz Φ Ψ Ex sc (.If c a b pos::ss) ρ r
 | step {s:Stmt} {ss:List Stmt} {ρ ρ':ae} {r:Xs} (hs:aa (ef Φ s sc ρ) (.nx ρ')) (h:Rz Φ Ψ Ex sc ss ρ' r):Rz Φ Ψ Ex sc (s::ss) ρ r
def nM (X:Cx) (H0:Hp) (ρ:ae):TS:=fun _ σ H => ∃ow,aG X.nox ow H σ ρ/\σ.length=X.N.length/\bI H0 ow H
theorem bI.same {H0:Hp} {ow:Ow} {H H':Hp} (b:bI H0 ow H) (s:av H H'):bI H0 ow H':=b.keep (aR.same s)
theorem dE {H0:Hp} {ρ:ae} {st:Stmt} {ss:List Stmt} (h:PS X st (nM X H0 ρ)):cT X (st::ss) (nM X H0 ρ):=fun pins s σ H D I q=>dM h fX pins s σ H D I q
theorem fv {Φ:Fx} {sc:Scope} {H0:Hp} {C S:Addr} {n p:Str} {fs:List (Str×Int)} {f:Str} {G:List D->Option Xs} {e:Expr} {es:List Expr} {fp q:Pos} {ds:List D} {k:Nat} {ρ:ae} {pins:List (Addr×Obj)} {s:Shared} {σ:L2.St} {H:Hp} {ow:Ow} {Q:Value->Shared->Prop}
  (Gd:aL Φ X.nox sc) (GR:pD X f G) (hcn:W.nsIn X.K mainGlobals n=some (some (.ref C))) (hcp:W.nsIn X.K mainGlobals p=some (some (.ref S))) (hex:fc X.K C S)
  (ha:aa (bq Φ (e::es) sc ρ) (ds,k)) (hf:sc.names.lookup f=some .globalImplicit) (h:G ds=some (n,p,fs)) (I:ah X pins σ H s) (E:aG X.nox ow H σ ρ) (B:av H0 H)
  (hx:∀H1 s1 e s',ah X pins σ H1 s1->cm X.prog X.w X.stack H1 s1 (yw H0 C fs) e s'->X.xe e s'):wpAny (model X.prog X.w) X.A (eval (.Call (.Name f fp) (e::es) [] q) X.env) Q X.xe s:=by
 rcases GR with GR|GR
 ·obtain ⟨k',fa,fd,ps,F,hr,hm,hk,hb,hdb⟩:=GR
  obtain ⟨l,ha,hp⟩:=ha
  obtain ⟨hst,_⟩:=cM ha hp
  have ad:=kX (e::es) ha hp Gd
  refine Ak F hr (Gd.gl f hf) hm hk hb I hx (ad ow).nox hdb (aI (hst e List.mem_cons_self)) (bL fun x hx=>hst x (List.mem_cons_of_mem _ hx)) ⟨E,fun vs H1 s1 r1=>?_⟩
  exact ⟨ds,n,p,fs,C,S,r1.imp fun _ _ _=>True.intro,h,hcn,hcp,hex,fun od H' s' fd=>⟨rfl,(B.trans s1).trans s',fd⟩⟩
 ·obtain ⟨k',Cc,fa,fd,ps,hM,F,hr,hm,hns,hc,hb,hdb⟩:=GR
  obtain ⟨l,ha,hp⟩:=ha
  obtain ⟨hst,_⟩:=cM ha hp
  have ad:=kX (e::es) ha hp Gd
  refine zt hM F hr (Gd.gl f hf) hm hb I hx (ad ow).nox hdb (aI (hst e List.mem_cons_self)) (bL fun x hx=>hst x (List.mem_cons_of_mem _ hx)) ⟨E,fun vs H1 s1 r1=>?_⟩
  intro x dx hx0 hd0 ne
  exact ⟨.obj f [] []::ds,n,p,fs,C,S,ag.cons (by rw [af];exact ⟨rfl,rfl,x,Cc,dx,[],rfl,hns,hc,aJ,ag.nil⟩) ((r1.same (eU hx0 hd0)).imp fun _ _ _=>True.intro),(if_pos rfl).trans h,hcn,hcp,hex,fun od H' s' fd=>⟨rfl,((B.trans s1).trans (eU hx0 hd0)).trans s',fd⟩⟩
def Fj (X:Cx) (C:Addr) (f:Str):Prop:=∃j fI oI fd ps,d9 X.K C=some (.ref fI)/\X.K.lookup fI=some oI/\oI.cls=.type "function" /\ W.keepIn X.K (.ref C)=true/\bv X.prog X.w X.K X.mg X.base cU j fI fd ps (nS C f)/\bu (j+1) X.A/\bG X.K fd ps []
theorem xy {Φ:Fx} {Ψ:Str->Option (List D->Option Xs)} {Ex:Str->Option (Str×Option Str)} {sc:Scope} {H0:Hp} {C S:Addr} {n p:Str} {fs:List (Str×Int)} (Gd:aL Φ X.nox sc) (GR:∀f G,Ψ f=some G->pD X f G) (hcn:W.nsIn X.K mainGlobals n=some (some (.ref C))) (hcp:W.nsIn X.K mainGlobals p=some (some (.ref S))) (hex:fc X.K C S) (hmn:X.mg n=some (.ref C)) (hin:∀p',Ex n=some (p',none)->d9 X.K C=none) (hif:∀p' f,Ex n=some (p',some f)->Fj X C f)
  (hr:fs=[]->∀pins σ H s h' a us,ah X pins σ H s->av H0 H->s.heap.MadeExcOf h' a (.ref C) us->X.xe (.ref a) { s with heap:=h' })
  (hr2:∀f i,fs=[(f,i)]->∀pins σ H1 s1 z dx o vv a0,av H0 H1->ah X pins σ (aE H1 dx (.xd [(f,.int i)])) s1->H1 dx=none->s1.heap.get? z=some o->o.cls=.ref C->o.dict=some dx->o.data=.fields vv->1 < vv.size->vv[0]?=some a0->vv[1]?=some .none->(aE H1 dx (.xd [(f,.int i)])) z=none->X.s₀.heap.get? z=none->X.xe (.ref z) s1)
  (hx:∀pins σ H1 s1 e s',ah X pins σ H1 s1->cm X.prog X.w X.stack H1 s1 (yw H0 C fs) e s'->X.xe e s'):∀{ss:List Stmt} {ρ:ae} {r:Xs},Rz Φ Ψ Ex sc ss ρ r->r=(n,p,fs)->cT X ss (nM X H0 ρ):=by
 intro ss ρ r h
 induction h with
 | raise he hl hd hp =>
  rename_i e d k x p' np cpos pos ss ρ
  intro er
  cases er
  refine dE fun pins s σ H D I ⟨ow,E,hl',B⟩=>?_
  have ed:=(bX he Gd).ed rfl
  obtain ⟨l,he',_⟩:=id he
  have ns:=fo he'
  have ad:AD X.nox ρ [e] [d] (kj k 0):=gP ed i8 (aI ns)
  refine jU I Gd.calm (Gd.gl _ hl) hmn hex (hin _ hp) hd (ad ow).nox (bL fun y hy=>by rw [List.mem_singleton.mp hy];exact ns) (aI ns) ⟨E,fun vs H1 s1 r1=>⟨?_,fun s2 h' a us I2 m=>hr rfl pins σ H1 s2 h' a us I2 (B.sm.trans s1) m⟩⟩
  rw [<- r1.length]
  exact Nat.le_trans (show 1<=bN by decide) dN
 | raiseR he hy ht hl hd hp =>
  rename_i e y t k kd x p' np cpos pos p1 p2 p3 ss ρ
  intro er
  cases er
  refine dE fun pins s σ H D I ⟨ow,E,hl',B⟩=>?_
  have ed:=Bz (p1:=p1) (p2:=p2) (p3:=p3) (kd:=kd) ((bX he Gd).ed rfl) hy ht
  have ns:∀(z:Expr) (p:Pos),Expr.JoinedStr [.FormattedValue e 114 none p1,.Constant (.str t) kd p2] p3 ≠ .Starred z p:=fun z p h=>by cases h
  have ad:AD X.nox ρ [Expr.JoinedStr [.FormattedValue e 114 none p1,.Constant (.str t) kd p2] p3] [.str (reprText y++t)] (kj 0 0):=gP ed i8 (aI ns)
  refine jU I Gd.calm (Gd.gl _ hl) hmn hex (hin _ hp) hd (ad ow).nox (bL fun y hy=>by rw [List.mem_singleton.mp hy];exact ns) (aI ns) ⟨E,fun vs H1 s1 r1=>⟨?_,fun s2 h' a us I2 m=>hr rfl pins σ H1 s2 h' a us I2 (B.sm.trans s1) m⟩⟩
  rw [<- r1.length]
  exact Nat.le_trans (show 1<=bN by decide) dN
 | raiseM he hi ha ht hl hd hp =>
  rename_i e i a t k kd0 kd x p' np cpos pos p0 p1 p2 p3 ss ρ
  intro er
  cases er
  refine dE fun pins s σ H D I ⟨ow,E,hl',B⟩=>?_
  have ed:=BA (p0:=p0) (p1:=p1) (p2:=p2) (p3:=p3) (kd0:=kd0) (kd:=kd) ((bX he Gd).ed rfl) hi ha ht
  have ns:∀(z:Expr) (p:Pos),Expr.JoinedStr [.Constant (.str a) kd0 p0,.FormattedValue e (-1) none p1,.Constant (.str t) kd p2] p3 ≠ .Starred z p:=fun z p h=>by cases h
  have ad:AD X.nox ρ [Expr.JoinedStr [.Constant (.str a) kd0 p0,.FormattedValue e (-1) none p1,.Constant (.str t) kd p2] p3] [.str (a++Str.ofString (toString i)++t)] (kj 0 0):=gP ed i8 (aI ns)
  refine jU I Gd.calm (Gd.gl _ hl) hmn hex (hin _ hp) hd (ad ow).nox (bL fun y hy=>by rw [List.mem_singleton.mp hy];exact ns) (aI ns) ⟨E,fun vs H1 s1 r1=>⟨?_,fun s2 h' a us I2 m=>hr rfl pins σ H1 s2 h' a us I2 (B.sm.trans s1) m⟩⟩
  rw [<- r1.length]
  exact Nat.le_trans (show 1<=bN by decide) dN
 | raiseF he hi hl hd hp =>
  rename_i e i k x p' f np cpos pos ss ρ
  intro er
  cases er
  refine dE fun pins s σ H D I ⟨ow,E,hl',B⟩=>?_
  have ed:=(bX he Gd).ed rfl
  obtain ⟨l,he',_⟩:=id he
  have ns:=fo he'
  have ad:AD X.nox ρ [e] [.int i] (kj k 0):=gP ed i8 (aI ns)
  obtain ⟨j,fI,oI,fd,ps,q1,q2,q3,q4,q5,q6,q7⟩:=hif _ _ hp
  refine t6 I Gd.calm (Gd.gl _ hl) hmn hex q1 q2 q3 q4 q5 q6 q7 hd (ad ow).nox (aI ns) ⟨E,fun vs H1 s1 r1=>?_⟩
  obtain ⟨v,rfl,rv⟩:=r1.only
  rw [af] at rv
  subst rv
  exact ⟨i,rfl,hi,fun s2 z dx o vv a0 I2 w1 w2 w3 w4 w5 w6 w7 w8 w9 w10=>hr2 f i rfl pins σ H1 s2 z dx o vv a0 (B.sm.trans s1) I2 w1 w2 w3 w4 w5 w6 w7 w8 w9 w10⟩
 | exp ha hf hG h =>
  intro er
  subst er
  refine dE fun pins s σ H D I ⟨ow,E,hl',B⟩=>?_
  exact wpAny_Expr_any (fv Gd (GR _ _ hG) hcn hcp hex ha hf h I E B.sm (hx pins σ)) I.quiet rfl
 | asn ha hf hG h =>
  intro er
  subst er
  refine dE fun pins s σ H D I ⟨ow,E,hl',B⟩=>?_
  exact wpAny_Assign_Name (fv Gd (GR _ _ hG) hcn hcp hex ha hf h I E B.sm (hx pins σ)) (gj rfl)
 | ast ha hf hG h =>
  intro er
  subst er
  refine dE fun pins s σ H D I ⟨ow,E,hl',B⟩=>?_
  exact wpAny_Assign_stores (fv Gd (GR _ _ hG) hcn hcp hex ha hf h I E B.sm (hx pins σ)) eR rfl
 | ret ha hf hG h =>
  intro er
  subst er
  refine dE fun pins s σ H D I ⟨ow,E,hl',B⟩=>?_
  exact wpAny_Return_some (fv Gd (GR _ _ hG) hcn hcp hex ha hf h I E B.sm (hx pins σ))
 | iff hc h ih =>
  rename_i c a b ss t k pos ρ r
  intro er
  refine dE fun pins s σ H D I ⟨ow,E,hl',B⟩=>?_
  have td:=((bX hc Gd).td rfl t rfl ow).nox
  refine wpAny_If (aF (td pins s σ H (fun b H'=>b=t/\av H H') I ⟨E,fun H' sm=>⟨rfl,sm⟩⟩) fun d s1 ⟨H1,I1,e,sm⟩=>?_)
  subst e
  cases d with
  | true=>exact ih er pins s1 σ H1 _ I1 ⟨ow,E.same sm,hl',B.same sm⟩
  | false=>exact ih er pins s1 σ H1 _ I1 ⟨ow,E.same sm,hl',B.same sm⟩
 | step hs h ih =>
  rename_i st ss ρ ρ' r
  intro er
  have sd:=((gH Φ _).s st (H0:=H0) (Nat.lt_succ_self _) hs Gd PassesOwn.never)
  intro pins s σ H D I ⟨ow,E,hl',B⟩
  exact dM (L2.PS.nox sd) (ih er) pins s σ H D I ⟨ow,E,hl',B,fun ow' σ' H' E' hl2 k=>⟨ow',E',hl2,B.keep k⟩⟩
def JQ (P:Program) (w:World) (K:W.Frag) (mg:Str->Option Value) (base:Heap) (k:Nat) (g:Str) (G:List D->Option Xs):Prop:=∃f fd ps,bv P w K mg base (cm P w) k f fd ps (tQ K G)/\mg g=some (.ref f)/\W.keepIn K (.ref f)=true/\bG K fd ps []/\(g==("__debug__" : Str))=false
def Ki (P:Program) (w:World) (K:W.Frag) (mg:Str->Option Value) (base:Heap) (k:Nat) (g:Str) (G:List D->Option Xs):Prop:=∃j C f fd ps,j+1<=k/\Mk K C f/\bv P w K mg base (cm P w) j f fd ps (tQ K (AY g G))/\mg g=some (.ref C)/\W.nsIn K mainGlobals g=some (some (.ref C))/\fV K C/\bG K fd ps []/\(g==("__debug__" : Str))=false
def jb (P:Program) (w:World) (K:W.Frag) (mg:Str->Option Value) (base:Heap) (k:Nat) (g:Str) (G:List D->Option Xs):Prop:=JQ P w K mg base k g G\/Ki P w K mg base k g G
theorem jb.mono {P:Program} {w:World} {K:W.Frag} {mg:Str->Option Value} {base:Heap} {j k:Nat} {g:Str} {G:List D->Option Xs} (h:jb P w K mg base j g G) (hjk:j<=k):jb P w K mg base k g G:=by
 rcases h with ⟨f,fd,ps,h1,h2⟩ | ⟨i,C,f,fd,ps,h0,h1⟩
 ·exact .inl ⟨f,fd,ps,h1.mono hjk,h2⟩
 ·exact .inr ⟨i,C,f,fd,ps,Nat.le_trans h0 hjk,h1⟩
theorem jb.at {X:Cx} {k:Nat} {g:Str} {G:List D->Option Xs} (h:jb X.prog X.w X.K X.mg X.base k g G) (hr:bu k X.A):pD X g G:=by
 rcases h with ⟨f',fd',ps',a1,a2,a3,a4,a5⟩ | ⟨j,C',f',fd',ps',a0,a1,a2,a3,a4,a5,a6,a7⟩
 ·exact .inl ⟨k,f',fd',ps',a1,hr,a2,a3,a4,a5⟩
 ·exact .inr ⟨j,C',f',fd',ps',a1,a2,hr.mono a0,a3,a4,a5,a6,a7⟩
def DS (P:Program) (w:World) (K:W.Frag) (mg:Str->Option Value) (base:Heap) (k:Nat) (Ex:Str->Option (Str×Option Str)):Prop:=∀c C,W.nsIn K mainGlobals c=some (some (.ref C))->(∀p,Ex c=some (p,none)->d9 K C=none) /\
 ∀p f,Ex c=some (p,some f)->∃j fI oI fd ps,j+1<=k/\d9 K C=some (.ref fI)/\K.lookup fI=some oI/\oI.cls=.type "function" /\ W.keepIn K (.ref C)=true/\bv P w K mg base cU j fI fd ps (nS C f)/\bG K fd ps []
end Sp
namespace Sp
open PySem PySem.Spec PyProof.Rows L2
variable {X:Cx}
def lS (ρ:ae) (n y c B:Str) (fs:List (Str×Int)):ae:=fun z=>if z=n then none else if z=y then some (.xc c (some (B,fs)),true) else ρ z
inductive Rt (Φ:Fx) (Ψ:Str->Option (List D->Option Xs)) (sc:Scope):List Stmt->ae->Xs->Prop where
 | exp {f:Str} {G:List D->Option Xs} {e:Expr} {es:List Expr} {p q pos:Pos} {ds:List D} {k:Nat} {ρ:ae} {r:Xs} (ha:aa (bq Φ (e::es) sc ρ) (ds,k)) (hf:sc.names.lookup f=some .globalImplicit) (hG:Ψ f=some G) (h:G ds=some r):Rt Φ Ψ sc [.Expr (.Call (.Name f p) (e::es) [] q) pos] ρ r
 | asn {f:Str} {G:List D->Option Xs} {x:Str} {e:Expr} {es:List Expr} {p q pos px:Pos} {ds:List D} {k:Nat} {ρ:ae} {r:Xs} (ha:aa (bq Φ (e::es) sc ρ) (ds,k)) (hf:sc.names.lookup f=some .globalImplicit) (hG:Ψ f=some G) (h:G ds=some r):Rt Φ Ψ sc [.Assign [.Name x px] (.Call (.Name f p) (e::es) [] q) pos] ρ r
 | iff {c:Expr} {a b:List Stmt} {t:Bool} {k:Nat} {pos:Pos} {ρ:ae} {r:Xs} (hc:aa (ar Φ c false sc ρ) (.bl t,k)) (h:Rt Φ Ψ sc (cond t a b) ρ r):Rt Φ Ψ sc [.If c a b pos] ρ r
theorem iA {M:Model} {A:Around} {E:Value->Shared->Prop} {s:Shared} {env:Env} {st:Stmt} {Q:Flow->Shared->Prop} (h:wpAny M A (exec st env) Q E s):wpAny M A (execs [st] env) Q E s :=
 wpAny_execs_cons (aF h fun f s1 q=>by
  cases f with
  | next=>exact wpAny_execs_nil q
  | ret v=>exact q
  | brk=>exact q
  | cont=>exact q)
theorem Ec {Φ:Fx} {Ψ:Str->Option (List D->Option Xs)} {sc:Scope} {H0:Hp} {C S:Addr} {n p:Str} {fs:List (Str×Int)} {pins:List (Addr×Obj)} {σ:L2.St} {ow:Ow} {Q:Flow->Shared->Prop} (Gd:aL Φ X.nox sc) (GR:∀f G,Ψ f=some G->pD X f G) (hcn:W.nsIn X.K mainGlobals n=some (some (.ref C))) (hcp:W.nsIn X.K mainGlobals p=some (some (.ref S))) (hex:fc X.K C S)
  (hx:∀H1 s1 e s',ah X pins σ H1 s1->cm X.prog X.w X.stack H1 s1 (yw H0 C fs) e s'->X.xe e s'):∀{ss:List Stmt} {ρ:ae} {r:Xs},Rt Φ Ψ sc ss ρ r->r=(n,p,fs)->∀{s:Shared} {H:Hp},ah X pins σ H s->aG X.nox ow H σ ρ->av H0 H->wpAny (model X.prog X.w) X.A (execs ss X.env) Q X.xe s:=by
 intro ss ρ r h
 induction h with
 | exp ha hf hG h =>
  intro er s H I E B
  subst er
  exact iA (wpAny_Expr_any (fv Gd (GR _ _ hG) hcn hcp hex ha hf h I E B hx) I.quiet rfl)
 | asn ha hf hG h =>
  intro er s H I E B
  subst er
  exact iA (wpAny_Assign_Name (fv Gd (GR _ _ hG) hcn hcp hex ha hf h I E B hx) (gj rfl))
 | iff hc h ih =>
  rename_i c a b t k pos ρ r
  intro er s H I E B
  have td:=((bX hc Gd).td rfl t rfl ow).nox
  refine iA (wpAny_If (aF (td pins s σ H (fun b H'=>b=t/\av H H') I ⟨E,fun H' sm=>⟨rfl,sm⟩⟩) fun d s1 ⟨H1,I1,e,sm⟩=>?_))
  subst e
  cases d with
  | true=>exact ih er I1 (E.same sm) (B.trans sm)
  | false=>exact ih er I1 (E.same sm) (B.trans sm)
theorem zS {ow:Ow} {H H':Hp} {σ:L2.St} {ρ:ae} {x C S:Addr} {od:Option Addr} {fs:List (Str×Int)} {c B n y:Str} {ie iy:Nat} (E:aG X ow H σ ρ) (sm:av H H') (nx:H' x=none) (hie:X.N[ie]?=some n) (hiy:X.N[iy]?=some y) (hv:ge X.env.scope y) (hne:iy≠ie) (hl:iy < σ.length)
  (hcn:W.nsIn X.K mainGlobals c=some (some (.ref C))) (hcp:W.nsIn X.K mainGlobals B=some (some (.ref S))) (hex:fc X.K C S) (hfd:qH H' od fs) (hfo:∀f i,fs=[(f,i)]->pE X.K C f) :
  aG X ow (aE H' x (io x C od)) (((σ.set ie (some (.ref x))).set iy (some (.ref x))).set ie none) (lS ρ n y c B fs):=by
 have sm':av H (aE H' x (io x C od)):=sm.trans fun a o h=>by rw [az (aO h nx)];exact h
 refine ⟨fun z d o h=>?_,(E.same sm').own⟩
 unfold lS at h
 by_cases hz:z=n
 ·rw [if_pos hz] at h;cases h
 ·rw [if_neg hz] at h
  by_cases hy:z=y
  ·rw [if_pos hy] at h
   cases h
   refine ⟨iy,.ref x,by rw [hiy,hy],by rw [hy];exact hv,?_,?_⟩
   ·rw [List.getElem?_set_ne (Ne.symm hne),List.getElem?_set_self (by rw [List.length_set];exact hl)]
   ·rw [af]
    refine ⟨x,C,S,od,rfl,hcn,hcp,hex,aJ,fun f i z=>?_,hfo⟩
    obtain ⟨dx,e1,e2⟩:=hfd f i z
    exact ⟨dx,e1,by rw [az (aO e2 nx)];exact e2⟩
  ·rw [if_neg hy] at h
   obtain ⟨i,v,e1,e2,e3,e4⟩:=(E.same sm').get z d o h
   have n1:i≠ie:=fun q=>hz (by rw [q,hie] at e1;exact (Option.some.inj e1).symm)
   have n2:i≠iy:=fun q=>hy (by rw [q,hiy] at e1;exact (Option.some.inj e1).symm)
   exact ⟨i,v,e1,e2,by rw [List.getElem?_set_ne (Ne.symm n1),List.getElem?_set_ne (Ne.symm n2),List.getElem?_set_ne (Ne.symm n1)];exact e3,e4⟩
theorem A2 {Y:Cx} {Φ:Fx} {Ψ:Str->Option (List D->Option Xs)} {sc:Scope} {H0:Hp} {C S:Addr} {c B n y:Str} {fs:List (Str×Int)} {tb:List Stmt} {ρ:ae} {bp hpos p1 p2 p3 tpos:Pos} (Gd:aL Φ Y.nox sc) (GR:∀f G,Ψ f=some G->pD Y.nox f G) (hst:Y.stack=Y.env::Y.outer)
  (hcn:W.nsIn Y.K mainGlobals c=some (some (.ref C))) (hcp:W.nsIn Y.K mainGlobals B=some (some (.ref S))) (hex:fc Y.K C S) (hexm:W.exmOne Y.K (.ref C) (.ref S)=some true) (hmB:Y.mg B=some (.ref S))
  (hB:sc.names.lookup B=some .globalImplicit) (hdb:(B==("__debug__" : Str))=false) (hn:sc.names.lookup n=some .local) (hy:sc.names.lookup y=some .local) (hny:n≠y) (hd1:(n==("__debug__" : Str))=false) (hd2:(n==("__classdict__" : Str))=false)
  (hfo:∀f i,fs=[(f,i)]->pE Y.K C f) (h:Rt Φ Ψ sc tb ρ (c,B,fs)):SD Y.nox H0 ρ (.Try tb [.ExceptHandler (some (.Name B bp)) (some n) [.Assign [.Name y p1] (.Name n p2) p3] hpos] [] [] tpos) (.nx (lS ρ n y c B fs)):=by
 intro pins s σ H D I ⟨ow,E,hl,B0,q⟩
 have lk:∀z,sc.names.lookup z=some .local->∃i,Y.N[i]?=some z:=fun z hz=>by
  have:=Gd.ns z (by unfold b9;rw [hz];rfl)
  obtain ⟨i,hi,e⟩:=List.getElem_of_mem this
  exact ⟨i,by rw [List.getElem?_eq_getElem hi];exact congrArg some e⟩
 obtain ⟨ie,hie⟩:=lk n hn
 obtain ⟨iy,hiy⟩:=lk y hy
 have hne:iy≠ie:=fun z=>hny (by rw [z,hie] at hiy;exact Option.some.inj hiy)
 refine wpAny_Try_except ?_
 refine Ec (X:=Y.nox.wish fun e s₁=>wpAny (model Y.prog Y.w) Y.A (noteFrame e Y.env) (fun _ s₂=>wpAny (model Y.prog Y.w) Y.A (setFlight e none) (fun _ s₃=>wpAny (model Y.prog Y.w) Y.A (handleBy e Y.env [.ExceptHandler (some (.Name B bp)) (some n) [.Assign [.Name y p1] (.Name n p2) p3] hpos]) (SP Y.nox pins D) Y.nox.xe s₃) Y.nox.xe s₂) Y.nox.xe s₁) (H0:=H) (n:=c) (p:=B) Gd GR hcn hcp hex (fun H1 s1 e s' I1 c1=>?_) h rfl (I.wish _) E (av.refl _)
 refine Dt (X:=Y.nox) (ie:=ie) (iy:=iy) (C0:=S) I1.unwish hst Gd.nd c1 (Gd.gl B hB) hmB hdb hie (Gd.lc n hn) hiy (Gd.lc y hy) hne hd1 hd2 fun C' od H' ⟨e1,sm,hfd⟩=>?_
 cases e1
 refine ⟨hexm,fun x nx=>?_⟩
 have hl2:iy < σ.length:=by rw [hl];exact (List.getElem?_eq_some_iff.mp hiy).1
 refine q ow _ _ (zS (X:=Y.nox) E sm nx hie hiy (.inl (Gd.lc y hy)) hne hl2 hcn hcp hex hfd hfo) (by simpa using hl) (aR.same (sm.trans fun a o h=>by rw [az (aO h nx)];exact h))
theorem yN {Y:Cx} {Φ:Fx} {sc:Scope} {H0:Hp} {hd:ExceptHandler} {tb:List Stmt} {ρ ρ2:ae} {tpos:Pos} (Gd:aL Φ Y.nox sc) (h:aa (ay Φ tb sc ρ) (.nx ρ2)):SD Y.nox H0 ρ (.Try tb [hd] [] [] tpos) (.nx ρ2):=by
 intro pins s σ H D I hq
 refine wpAny_Try_except ?_
 refine wpAny_mono (fL tb (H0:=H0) h Gd PassesOwn.never pins s σ H D I hq) (fun f s1 q=>?_) (fun _ _ z=>z.elim)
 cases f with
 | next=>exact wpAny_execs_nil q
 | ret v=>exact q
 | brk=>exact q
 | cont=>exact q
def lu (Φ:Fx) (Ψ:Str->Option (List D->Option Xs)) (Ex:Str->Option (Str×Option Str)) (sc:Scope) (ps:List Str) (pre tb post:List Stmt) (B n y:Str) (ds:List D) (r:D):Prop :=
 ds.length=ps.length/\∃ρ1,aa (ay Φ pre sc (b8 ps ds)) (.nx ρ1)/\((∃ρ2,aa (ay Φ tb sc ρ1) (.nx ρ2)/\aa (ay Φ post sc ρ2) (.rt r))\/∃c o fs,Ex c=some (B,o)/\(∀f i,fs=[(f,i)]->o=some f)/\Rt Φ Ψ sc tb ρ1 (c,B,fs)/\aa (ay Φ post sc (lS ρ1 n y c B fs)) (.rt r))
def xg (K:W.Frag) (Ex:Str->Option (Str×Option Str)):Prop:=∀c p o,Ex c=some (p,o)->∃C S,W.nsIn K mainGlobals c=some (some (.ref C))/\W.nsIn K mainGlobals p=some (some (.ref S))/\fc K C S/\W.exmOne K (.ref C) (.ref S)=some true/\∀f,o=some f->pE K C f
theorem Ct {P:Program} {w:World} {K:W.Frag} {mg:Str->Option Value} {base:Heap} {k:Nat} {g qual:Str} {st:Stmt} {f:Addr} {fd:FuncData} {ps:List Str} {Φ:Fx} {Ψ:Str->Option (List D->Option Xs)} {Ex:Str->Option (Str×Option Str)} {F:List D->Rs D} {pre tb post:List Stmt} {B n y:Str} {bp hpos p1 p2 p3 tpos:Pos} (Fn:iz K g qual st f fd)
  (S:aQ (aw (ac st)) ps (ac st)) (hΦ:pB P w K mg base k Φ) (hΨ:∀g G,Ψ g=some G->jb P w K mg base k g G) (hmg:∀n C,W.nsIn K mainGlobals n=some (some (.ref C))->mg n=some (.ref C)) (hEx:xg K Ex)
  (hb:ak st=pre ++ .Try tb [.ExceptHandler (some (.Name B bp)) (some n) [.Assign [.Name y p1] (.Name n p2) p3] hpos] [] [] tpos::post)
  (hB:(ac st).names.lookup B=some .globalImplicit) (hdb:(B==("__debug__" : Str))=false) (hn:(ac st).names.lookup n=some .local) (hy:(ac st).names.lookup y=some .local) (hny:n≠y) (hd1:(n==("__debug__" : Str))=false) (hd2:(n==("__classdict__" : Str))=false)
  (hrun:∀ds r,aa (F ds) r->lu Φ Ψ Ex (ac st) ps pre tb post B n y ds r):bv P w K mg base cU (k+1) f fd ps (ii K F):=by
 refine Fn.ok S (fun vs H Q E h=>?_) (fun cdv A outer s H vs Q E hr h=>?_)
 ·obtain ⟨ds,r,l,h1,h2,hp,_⟩:=h
  rw [<- h1.length];exact (hrun ds r ⟨l,h2,hp⟩).1
 ·obtain ⟨ds,r,l,h1,h2,hp,qq⟩:=h
  obtain ⟨hl,ρ1,h3,h4⟩:=hrun ds r ⟨l,h2,hp⟩
  have G:=jw (outer:=outer) (H:=H) (E:=E) S hΦ hr
  obtain ⟨E0,hsl⟩:=kZ (P:=P) (w:=w) (mg:=mg) (base:=base) (qual:=qual) (f:=f) (cdv:=cdv) (A:=A) (outer:=outer) (s:=s) (E:=E) S h1 hl
  have B0:bI H (fun _=>none) H:=fun a o h=>⟨h,rfl⟩
  have key:fT (cW cU P w K mg base (aw (ac st)) qual (ac st) f cdv A outer s H E).nox H ρ1 (.Try tb [.ExceptHandler (some (.Name B bp)) (some n) [.Assign [.Name y p1] (.Name n p2) p3] hpos] [] [] tpos::post) (.rt r):=by
   rcases h4 with ⟨ρ2,h5,h6⟩ | ⟨c,o,fs,hc,hco,h5,h6⟩
   ·exact jR (yN G h5) (fL post (H0:=H) h6 G PassesOwn.never)
   ·obtain ⟨C,S',c1,c2,c3,c4,c5⟩:=hEx c B o hc
    refine jR (A2 (Y:=cW cU P w K mg base (aw (ac st)) qual (ac st) f cdv A outer s H E) (Ψ:=Ψ) G (fun g' G' hG=>?_) rfl c1 c2 c3 c4 (hmg B S' c2) hB hdb hn hy hny hd1 hd2 (fun f i z=>c5 f (hco f i z)) h5) (fL post (H0:=H) h6 G PassesOwn.never)
    exact (hΨ g' G' hG).at hr
  rw [hb]
  exact ⟨_,lG (H0:=H) G PassesOwn.never key h3,fun _=>none,E0,hsl,B0,fun ow' σ' H' E' hl' B'=>⟨ow',E',hl',B',fun v H2 s2 r2=>qq v H2 s2 r2⟩⟩
end Sp
namespace Sp
open PySem PySem.Spec PyProof.Rows L2
variable {X:Cx}
inductive Rw (Φ:Fx) (sc:Scope):List Stmt->ae->D->Prop where
 | fin {ss:List Stmt} {ρ:ae} {d:D} (h:Rf Φ sc ss ρ (.rt d)):Rw Φ sc ss ρ d
 | cut (n:Nat) {ss:List Stmt} {ρ ρ1:ae} {d:D} (h:aa (ay Φ (ss.take n) sc ρ) (.nx ρ1)) (k:Rw Φ sc (ss.drop n) ρ1 d):Rw Φ sc ss ρ d
 | ret {e:Expr} {q:Pos} {ss:List Stmt} {ρ:ae} {d:D} {k:Nat} (h:aa (ar Φ e false sc ρ) (d,k)):Rw Φ sc (.Return (some e) q::ss) ρ d
abbrev DF:=Str->Option (List D->Rs D)
abbrev ma:=Str->Option (List D->Option Xs)
mutual
inductive Rq (Φ:Fx) (Ψ:ma) (Ex:Str->Option (Str×Option Str)) (Ω:DF) (sc:Scope):List Stmt->ae->Fl->Prop where
 | rf {ss:List Stmt} {ρ:ae} {fl:Fl} (h:Rf Φ sc ss ρ fl):Rq Φ Ψ Ex Ω sc ss ρ fl
 | cut (n:Nat) {ss:List Stmt} {ρ ρ1:ae} {fl:Fl} (h:aa (ay Φ (ss.take n) sc ρ) (.nx ρ1)) (k:Rq Φ Ψ Ex Ω sc (ss.drop n) ρ1 fl):Rq Φ Ψ Ex Ω sc ss ρ fl
 | dem {ss:List Stmt} {ρ:ae} {fl:Fl} (k:Rq Φ Ψ Ex Ω sc ss (ej ρ) fl):Rq Φ Ψ Ex Ω sc ss ρ fl
 | callW {x f:Str} {F:List D->Rs D} {e:Expr} {es:List Expr} {p t px q:Pos} {ds:List D} {j:Nat} {d:D} {ss:List Stmt} {ρ:ae} {fl:Fl} (hF:Ω f=some F) (ha:aa (bq Φ (e::es) sc (ej ρ)) (ds,j)) (h:aa (F ds) d) (gf:sc.names.lookup f=some .globalImplicit) (hx:b9 sc x=true) (k:Rq Φ Ψ Ex Ω sc ss (bn (ej ρ) x (d,false)) fl) :
  Rq Φ Ψ Ex Ω sc (.Assign [.Name x px] (.Call (.Name f p) (e::es) [] t) q::ss) ρ fl
 | forQ {tg it:Expr} {body ss:List Stmt} {pos:Pos} {ρ ρ1:ae} {d:D} {ds:List D} {k:Nat} {fl:Fl} (hi:aa (ar Φ it true sc (demote it ρ)) (d,k)) (hd:items d=some ds) (hk:k<=1) (ht:cO it tg=true) (h:yk Φ Ψ Ex Ω sc tg body ds (demote it ρ) ρ1) (k:Rq Φ Ψ Ex Ω sc ss ρ1 fl):Rq Φ Ψ Ex Ω sc (.For tg it body [] pos::ss) ρ fl
 | iff {c:Expr} {a b ss:List Stmt} {pos:Pos} {ρ ρ1:ae} {t:Bool} {k:Nat} {fl:Fl} (hc:aa (ar Φ c false sc ρ) (.bl t,k)) (h:Rq Φ Ψ Ex Ω sc (cond t a b) ρ (.nx ρ1)) (k:Rq Φ Ψ Ex Ω sc ss ρ1 fl):Rq Φ Ψ Ex Ω sc (.If c a b pos::ss) ρ fl
 | tryN {tb ss:List Stmt} {hd:ExceptHandler} {tpos:Pos} {ρ ρ1:ae} {fl:Fl} (h:Rf Φ sc tb ρ (.nx ρ1)) (k:Rq Φ Ψ Ex Ω sc ss ρ1 fl):Rq Φ Ψ Ex Ω sc (.Try tb [hd] [] [] tpos::ss) ρ fl
 | tryX {tb ss:List Stmt} {c B n y:Str} {o:Option Str} {fs:List (Str×Int)} {bp hpos p1 p2 p3 tpos:Pos} {ρ:ae} {fl:Fl} (hE:Ex c=some (B,o)) (ho:∀f i,fs=[(f,i)]->o=some f) (h:Rt Φ Ψ sc tb ρ (c,B,fs)) (k:Rq Φ Ψ Ex Ω sc ss (lS ρ n y c B fs) fl)
  (hB:sc.names.lookup B=some .globalImplicit:=by rfl) (hdb:(B==("__debug__" : Str))=false:=by decide +kernel) (hn:sc.names.lookup n=some .local:=by rfl) (hy:sc.names.lookup y=some .local:=by rfl) (hny:n≠y:=by decide +kernel) (hd1:(n==("__debug__" : Str))=false:=by decide +kernel) (hd2:(n==("__classdict__" : Str))=false:=by decide +kernel) :
  Rq Φ Ψ Ex Ω sc (.Try tb [.ExceptHandler (some (.Name B bp)) (some n) [.Assign [.Name y p1] (.Name n p2) p3] hpos] [] [] tpos::ss) ρ fl
inductive yk (Φ:Fx) (Ψ:ma) (Ex:Str->Option (Str×Option Str)) (Ω:DF) (sc:Scope):Expr->List Stmt->List D->ae->ae->Prop where
 | nil {tg:Expr} {body:List Stmt} {ρ:ae}:yk Φ Ψ Ex Ω sc tg body [] ρ ρ
 | cons {tg:Expr} {body:List Stmt} {d:D} {ds:List D} {ρ ρ1 ρ2 ρ3:ae} (hb:bi sc tg d ρ=some ρ1) (h:Rq Φ Ψ Ex Ω sc body ρ1 (.nx ρ2)) (k:yk Φ Ψ Ex Ω sc tg body ds ρ2 ρ3):yk Φ Ψ Ex Ω sc tg body (d::ds) ρ ρ3
end
noncomputable def mT (f:List D->Option Xs) (P:List D->Xs->Prop):List D->Option Xs:=fun ds => @ite (Option Xs) (∃r,f ds=some r/\P ds r) (Classical.propDecidable _) (f ds) none
theorem qM {f:List D->Option Xs} {P:List D->Xs->Prop} {ds:List D} {r:Xs} (h:mT f P ds=some r):P ds r:=by
 unfold mT at h
 split at h
 ·rename_i k;obtain ⟨r',e,p⟩:=k;rw [e] at h;cases h;exact p
 ·cases h
theorem u7 {f:List D->Option Xs} {P:List D->Xs->Prop} {ds:List D} {r:Xs} (e:f ds=some r) (h:P ds r):mT f P ds=some r:=by
 unfold mT;rw [if_pos ⟨r,e,h⟩];exact e
end Sp
namespace L2
open PySem PySem.Spec PyProof.Rows
theorem oK {s:Shared} {M:Model} {A:Around} {E F:Value->Shared->Prop} {base:Heap} {env:Env} {outer:List Env} {L x C:Addr} {od:Option Addr} {oe:Obj} {vs:Array Value} {a0:Value} {Q:Unit->Shared->Prop} (fs:A.frames=some (env::outer)) (hf:s.heap.FunFrames base (env::outer)) (hfr:env.frame=some L)
  (e1:s.heap.get? x=some oe) (e2:oe.cls=.ref C) (e6:oe.dict=od) (e3:oe.data=.fields vs) (hsz:1 < vs.size) (e4:vs[0]?=some a0) (e5:vs[1]?=some .none\/∃T oT ts,vs[1]?=some (.ref T)/\T≠x/\s.heap.get? T=some oT/\oT.data=.fields ts/\ts[3]?=some .none)
  (hF:∀s2,wpAny M A (noteFrame (.ref x) env) (fun _ s3=>wpAny M A (setFlight (.ref x) none) Q E s3) E s2->F (.ref x) s2)
  (h:∀h2 T',(∀b o,s.heap.get? b=some o->b≠x->vs[1]? ≠ some (.ref b)->b∉bJ (env::outer)->h2.get? b=some o)->(∀b∈bJ (env::outer),∀o,s.heap.get? b=some o->∃sl,h2.get? b=some { o with slots:=sl }) ->
   s.heap.get? T'=none->yi x C T' od h2->Q () { s with heap:=h2 }):notedBy M A env (cameBackBy M A env F) (.ref x) s:=by
 unfold notedBy
 refine uk fs hf hfr e1 e3 hsz e5 fun h2 T' k1 k2 nT nTx ex ⟨oT,ts,f1,f2,f3⟩=>?_
 have d1:(Obj.mapFields (fun v=>v.setIfInBounds 1 (.ref T')) oe).data=.fields (vs.setIfInBounds 1 (.ref T')):=Obj.data_mapFields e3 _
 have v1:(vs.setIfInBounds 1 (.ref T'))[1]?=some (.ref T'):=by simp [hsz]
 have f4:3 < ts.size:=by
  rcases Nat.lt_or_ge 3 ts.size with z|z
  ·exact z
  ·rw [Array.getElem?_eq_none z] at f3;cases f3
 have nT2:∀b o,s.heap.get? b=some o->T'≠b:=fun b o eb z=>by rw [<- z,nT] at eb;cases eb
 have ce:(Obj.mapFields (fun v=>v.setIfInBounds 1 (.ref T')) oe).cls=.ref C/\(Obj.mapFields (fun v=>v.setIfInBounds 1 (.ref T')) oe).dict=od:=by
  obtain ⟨c,d,da,sl⟩:=oe
  simp only at e3 e2 e6
  subst e3
  exact ⟨e2,e6⟩
 unfold cameBackBy
 refine wpAny_bind (wpAny_field (s:={ s with heap:=h2 }) ex d1 v1 ?_)
 rw [if_neg (by simp)]
 unfold setFlight
 refine wpAny_bind (wpAny_field (s:={ s with heap:=h2 }) ex d1 v1 ?_)
 rw [if_pos (by simp),hfr]
 refine wpAny_setField (s:={ s with heap:=h2 }) f1 f2 f4 ?_
 have g1:(h2.update T' (Obj.mapFields fun v=>v.setIfInBounds 3 (rawInt L))).get? x=some (Obj.mapFields (fun v=>v.setIfInBounds 1 (.ref T')) oe):=(Heap.get?_update_other _ _ nTx).trans ex
 have g2:(h2.update T' (Obj.mapFields fun v=>v.setIfInBounds 3 (rawInt L))).get? T'=some (Obj.mapFields (fun v=>v.setIfInBounds 3 (rawInt L)) oT):=Heap.get?_update_self _ f1 (Obj.isFreed_of_fields (Obj.data_mapFields f2 _))
 have g3:(Obj.mapFields (fun v=>v.setIfInBounds 3 (rawInt L)) oT).data=.fields (ts.setIfInBounds 3 (rawInt L)):=Obj.data_mapFields f2 _
 have g4:(ts.setIfInBounds 3 (rawInt L))[3]?=some (rawInt L):=by simp [f4]
 refine hF _ ?_
 unfold noteFrame
 rw [hfr]
 dsimp only
 refine wpAny_bind (wpAny_field (s:={ s with heap:=h2.update T' (Obj.mapFields fun v=>v.setIfInBounds 3 (rawInt L)) }) g1 d1 v1 ?_)
 rw [if_pos (by simp)]
 refine wpAny_bind (wpAny_field (s:={ s with heap:=h2.update T' (Obj.mapFields fun v=>v.setIfInBounds 3 (rawInt L)) }) g2 g3 g4 ?_)
 rw [if_pos (by simp [rawInt])]
 refine wpAny_pure ?_
 refine j6 (s:={ s with heap:=h2.update T' (Obj.mapFields fun v=>v.setIfInBounds 3 (rawInt L)) }) g1 d1 v1 g2 g3 (by simp [f4]) ?_
 refine h ((h2.update T' (Obj.mapFields fun v=>v.setIfInBounds 3 (rawInt L))).update T' _) T' (fun b o eb b1 b2 b3=>(Heap.get?_update_other _ _ (nT2 b o eb)).trans ((Heap.get?_update_other _ _ (nT2 b o eb)).trans (k1 b o eb b1 b2 b3))) (fun b hb o eb=>?_) nT ⟨_,_,_,_,a0,(Heap.get?_update_other _ _ nTx).trans g1,ce.1,ce.2,d1,?_,v1,nTx,Heap.get?_update_self _ g2 (Obj.isFreed_of_fields (Obj.data_mapFields g3 _)),Obj.data_mapFields g3 _,by simp [f4]⟩
 ·obtain ⟨sl,z⟩:=k2 b hb o eb
  exact ⟨sl,(Heap.get?_update_other _ _ (nT2 b o eb)).trans ((Heap.get?_update_other _ _ (nT2 b o eb)).trans z)⟩
 ·rw [Array.getElem?_setIfInBounds_ne (by decide)];exact e4
section
variable {X:Cx} {pins:List (Addr×Obj)} {σ:St} {H H':Hp} {s:Shared}
def vB (X:Cx) (E:XK) (F:Value->Shared->Prop):Prop:=∀e s2,wpAny (model X.prog X.w) X.A (leaving X.env e) (fun _ s''=>cm X.prog X.w X.outer X.H₀ X.s₀ E e s'') (fun _ _=>False) s2->F e s2
theorem vB.two {E:XK} {F:Value->Shared->Prop} (h:vB X E F) {x:Addr} (s2:Shared) (k:wpAny (model X.prog X.w) X.A (noteFrame (.ref x) X.env) (fun _ s3=>wpAny (model X.prog X.w) X.A (setFlight (.ref x) none) (fun _ s''=>cm X.prog X.w X.outer X.H₀ X.s₀ E (.ref x) s'') (fun _ _=>False) s3) (fun _ _=>False) s2):F (.ref x) s2:=h _ _ (wpAny_bind k)
theorem pJ {e C:Addr} {od:Option Addr} {oe:Obj} {vs:Array Value} {a0:Value} {E:XK} {F:Value->Shared->Prop} (I:ah X pins σ H s) (hs:X.stack=X.env::X.outer) (hex:X.ex=[]) (e1:s.heap.get? e=some oe) (e2:oe.cls=.ref C) (e6:oe.dict=od) (e3:oe.data=.fields vs) (hsz:1 < vs.size) (e4:vs[0]?=some a0) (e5:vs[1]?=some .none)
  (n0:X.s₀.heap.get? e=none) (nH:H e=none) (q:E (.ref C) od H) (hF:vB X E F):notedBy (model X.prog X.w) X.A X.env (cameBackBy (model X.prog X.w) X.A X.env F) (.ref e) s:=by
 have hfr:=I.frame hs
 have fs:X.A.frames=some (X.env::X.outer):=by rw [<- hs];exact I.ok.frames
 have hf:=I.stack
 rw [hs] at hf
 refine oK (C:=C) (od:=od) (Q:=fun _ s''=>cm X.prog X.w X.outer X.H₀ X.s₀ E (.ref e) s'') (E:=fun _ _=>False) fs hf hfr e1 e2 e6 e3 hsz e4 (.inl e5) hF.two fun h2 T' k1 k2 nT tr=>?_
 have ov:fh X (e::bJ X.stack) s.heap h2:=⟨fun b o eb nb=>k1 b o eb (fun z=>nb (by rw [z];exact List.mem_cons_self)) (by rw [e5];intro z;cases z) (fun z=>nb (List.mem_cons_of_mem _ (by rw [hs];exact z))),fun b hb o eb=>k2 b (by rw [<- hs];exact hb) o eb⟩
 refine k9 (s:=s) I hs hex (fun b hb=>?_) (fun b hb=>?_) ov tr (.inl nT) n0 nH q
 ·rcases List.mem_cons.mp hb with rfl|hb
  ·exact .inr n0
  ·exact .inl hb
 ·rcases List.mem_cons.mp hb with rfl|hb
  ·exact nH
  ·exact I.stkFree b hb
theorem uy {E:XK} {F:Value->Shared->Prop} {e:Value} {s':Shared} (I:ah X pins σ H s) (hs:X.stack=X.env::X.outer) (hex:X.ex=[]) (c:cm X.prog X.w X.stack H s E e s') (hF:vB X E F) :
  notedBy (model X.prog X.w) X.A X.env (cameBackBy (model X.prog X.w) X.A X.env F) e s':=by
 obtain ⟨x,C,T,od,H',rfl,hx,hT,t,ho,hg,u,hk,nx,nT,q⟩:=c
 have J:ah X pins σ H' s':=I.call' (ch:=[]) ho u hk hg (fun b z=>absurd z (by simp))
 have hfr:=I.frame hs
 have ub:Un X.fs [] X.H₀ H X.s₀.heap s.heap:=by have:=I.base;rw [hex] at this;exact this
 have fs:X.A.frames=some (X.env::X.outer):=by rw [<- hs];exact I.ok.frames
 have hf:=J.stack
 rw [hs] at hf
 have old:∀b,s.heap.get? b=none->X.s₀.heap.get? b=none:=fun b hb=>by
  cases z:X.s₀.heap.get? b with
  | none=>rfl
  | some o=>obtain ⟨o',e'⟩:=ub.there b o z (by simp);rw [hb] at e';cases e'
 obtain ⟨oe,vs,oT,ts,a0,e1,e2,e6,e3,e4,e5,f0,f1,f2,f3⟩:=id t
 have hsz:1 < vs.size:=by
  rcases Nat.lt_or_ge 1 vs.size with z|z
  ·exact z
  ·rw [Array.getElem?_eq_none z] at e5;cases e5
 refine oK (C:=C) (od:=od) (Q:=fun _ s''=>cm X.prog X.w X.outer X.H₀ X.s₀ E (.ref x) s'') (E:=fun _ _=>False) fs hf hfr e1 e2 e6 e3 hsz e4 (.inr ⟨T,oT,ts,e5,f0,f1,f2,f3⟩) hF.two fun h2 T2 k1 k2 nT2 tr=>?_
 have ov:fh X (x::T::bJ X.stack) s'.heap h2:=⟨fun b o eb nb=>k1 b o eb (fun z=>nb (by rw [z];exact List.mem_cons_self)) (by rw [e5];intro z;injection z with z;injection z with z;exact nb (by rw [<- z];exact List.mem_cons_of_mem _ List.mem_cons_self)) (fun z=>nb (List.mem_cons_of_mem _ (List.mem_cons_of_mem _ (by rw [hs];exact z)))),fun b hb o eb=>k2 b (by rw [<- hs];exact hb) o eb⟩
 refine k9 J hs hex (fun b hb=>?_) (fun b hb=>?_) ov tr (.inl nT2) (old x hx) nx q
 ·rcases List.mem_cons.mp hb with rfl|hb
  ·exact .inr (old _ hx)
  ·rcases List.mem_cons.mp hb with rfl|hb
   ·exact .inr (old _ hT)
   ·exact .inl hb
 ·rcases List.mem_cons.mp hb with rfl|hb
  ·exact nx
  ·rcases List.mem_cons.mp hb with rfl|hb
   ·exact nT
   ·exact J.stkFree b hb
end
end L2
namespace Sp
open PySem PySem.Spec PyProof.Rows L2
variable {X:Cx}
abbrev ux (X:Cx):Value->Shared->Prop:=notedBy (model X.prog X.w) X.A X.env (cameBackBy (model X.prog X.w) X.A X.env X.xe)
theorem y6 {tg iter:Expr} {body:List Stmt} {wi:TI} {g:TG} {tb:TS} {pos:Pos} (hc:X.calm=true) (hi:PI X.nox tg iter wi) (hg:PG X.nox tg g) (hb:cT (X.wish (ux X)) body tb)
  (hs:∀x,foldedSetIterable iter X.env x=pure x):PS X (.For tg iter body [] pos) (AN wi g tb):=by
 intro pins s σ H D I h
 refine wpAny_For (wpAny_mono (hi pins s σ H _ (I.wish _) h) (fun v s1 h1=>wpAny_mono h1 (fun itv s2 h2=>?_) fun _ _ z=>z.elim) fun _ _ z=>z.elim) hs
 obtain ⟨it,fp,tn,J,H2,e,I2,T,st2,f2,W,⟨m0,w0⟩,turn⟩:=h2
 subst e
 have stat:∀{H':Hp},(∀b∈fp,H' b=none)->∀b∈fp,fi X pins H' b:=fun hn b hb=>⟨hn b hb,(f2 b hb).2⟩
 refine codeAny_forLoop_any (fun n s' => ∃i σ' H',ah X pins σ' H' s'/\tn i s'.heap/\(∀b∈fp,H' b=none)/\W i n σ' H') ?_ m0 ⟨0,σ,H2,I2.unwish,st2,fun b hb=>(f2 b hb).1,w0⟩
 rintro n s3 ⟨i,σ3,H3,I3,st3,fr3,w3⟩
 rcases turn i n σ3 H3 w3 with ⟨stop,qn⟩ | ⟨go,N,hN,step⟩
 ·refine aF (T.done X rfl rfl rfl hc i pins s3 σ3 H3 _ I3 (stat fr3) st3 stop) fun r s4 ⟨hr,I4⟩=>?_
  subst hr
  exact wpAny_execs_nil ⟨σ3,H3,I4,qn⟩
 ·refine aF (T.item X rfl rfl rfl hc i pins s3 σ3 H3 _ I3 (stat fr3) st3 go) fun r s4 ⟨u,hr,h4⟩=>?_
  subst hr
  refine aF h4 fun _ s5 ⟨x,H5,I5,r5,y5,st5,fr5⟩=>?_
  have I5':=I5.pinned (stat fr5) (T.obj _ _ st5)
  refine wpAny_mono (hg _ s5 σ3 H5 x u _ (I5'.wish _) r5 (step x H5 y5)) (fun _ s6 ⟨σ6,H6,I6,q6⟩=>?_) fun _ _ z=>z.elim
  refine wpAny_mono (hb _ s6 σ6 H6 _ (I6.unwish.wish _) q6) (fun f s7 q7=>?_) fun _ _ z=>z
  replace q7:=q7.unwish
  have again:∀{σ7:L2.St} {H7:Hp},ah X (pins++gB fp s5.heap) σ7 H7 s7->N σ7 H7->∃m,m < n/\∃i σ' H',ah X pins σ' H' s7/\tn i s7.heap/\(∀b∈fp,H' b=none)/\W i m σ' H':=fun {σ7 H7} I7 n7=>by
   obtain ⟨m',hm,w7⟩:=hN σ7 H7 n7
   refine ⟨m',hm,i+1,σ7,H7,I7.unpinned,T.keep _ _ _ st5 fun b hb o e=>(I7.pin (b,o) (List.mem_append_right _ (List.mem_append_right _ (dw hb e)))).1,fun b hb=>?_,w7⟩
   obtain ⟨o,e,d⟩:=T.obj _ _ st5 b hb
   exact (I7.pin (b,o) (List.mem_append_right _ (List.mem_append_right _ (dw hb e)))).2.1
  cases f with
  | next=>obtain ⟨σ7,H7,I7,n7⟩:=q7;exact again I7 n7
  | cont=>obtain ⟨σ7,H7,I7,n7⟩:=q7;exact again I7 n7
  | brk=>obtain ⟨σ7,H7,I7,q7⟩:=q7;exact ⟨σ7,H7,I7.unpinned,q7⟩
  | ret v=>obtain ⟨x7,σ7,H7,I7,r7,q7⟩:=q7;exact ⟨x7,σ7,H7,I7.unpinned,r7,q7⟩
inductive eF (Φ:Fx) (sc:Scope) (tg:Expr) (body:List Stmt):List D->ae->ae->Prop where
 | nil {ρ:ae}:eF Φ sc tg body [] ρ ρ
 | cons {d:D} {ds:List D} {ρ ρ1 ρ2 ρ3:ae} (hb:bi sc tg d ρ=some ρ1) (h:aa (ay Φ body sc ρ1) (.nx ρ2)) (k:eF Φ sc tg body ds ρ2 ρ3):eF Φ sc tg body (d::ds) ρ ρ3
theorem CA {Φ:Fx} {sc:Scope} {H0:Hp} {tg:Expr} {body:List Stmt} {ds:List D} {ρ ρ':ae} (G:aL Φ X.nox sc) (h:eF Φ sc tg body ds ρ ρ'):yx X.nox H0 tg body ds ρ (.nx ρ'):=by
 induction h with
 | nil=>exact rfl
 | cons hb h k ih=>exact ⟨_,nl G hb,.inl ⟨_,fL _ h G PassesOwn.never,ih⟩⟩
inductive dA (Φ:Fx) (Ψ:ma) (Ex:Str->Option (Str×Option Str)) (sc:Scope):List Stmt->ae->Xs->Prop where
 | rz {ss:List Stmt} {ρ:ae} {r:Xs} (h:Rz Φ Ψ Ex sc ss ρ r):dA Φ Ψ Ex sc ss ρ r
 | step {s:Stmt} {ss:List Stmt} {ρ ρ':ae} {r:Xs} (hs:aa (ef Φ s sc ρ) (.nx ρ')) (h:dA Φ Ψ Ex sc ss ρ' r):dA Φ Ψ Ex sc (s::ss) ρ r
 | forR {tg it:Expr} {body ss:List Stmt} {pos:Pos} {ρ ρ1 ρ2:ae} {d x:D} (pre:List D) {post:List D} {k:Nat} {r:Xs} (hi:aa (ar Φ it true sc (demote it ρ)) (d,k)) (hd:items d=some (pre++x::post)) (hk:k<=1) (ht:cO it tg=true) (hf:eF Φ sc tg body pre (demote it ρ) ρ1) (hb:bi sc tg x ρ1=some ρ2) (h:Rz Φ Ψ Ex sc body ρ2 r):dA Φ Ψ Ex sc (.For tg it body [] pos::ss) ρ r
theorem iE {Φ:Fx} {Ψ:ma} {Ex:Str->Option (Str×Option Str)} {sc:Scope} {r:Xs}:∀(n:Nat) {ss:List Stmt} {ρ ρ':ae},aa (ay Φ (ss.take n) sc ρ) (.nx ρ')->dA Φ Ψ Ex sc (ss.drop n) ρ' r->dA Φ Ψ Ex sc ss ρ r
 | 0,ss,ρ,ρ',h,k=>by cases aB h;exact k
 | n+1,[],ρ,ρ',h,k=>by cases aB h;exact k
 | n+1,s::ss,ρ,ρ',h,k=>by
  rcases kC h with ⟨ρ1,h1,h2⟩ | ⟨h1,_⟩
  ·exact dA.step h1 (iE n h2 k)
  ·exact absurd rfl (h1 _)
theorem Bb {Φ:Fx} {Ψ:ma} {Ex:Str->Option (Str×Option Str)} {sc:Scope} {H0:Hp} {r0:Xs} (Gd:aL Φ X.nox sc)
  (hz:∀{ss:List Stmt} {ρ:ae},Rz Φ Ψ Ex sc ss ρ r0->cT X ss (nM X H0 ρ)) (hz':∀{ss:List Stmt} {ρ:ae},Rz Φ Ψ Ex sc ss ρ r0->cT (X.wish (ux X)) ss (nM X H0 ρ)):∀{ss:List Stmt} {ρ:ae} {r:Xs},dA Φ Ψ Ex sc ss ρ r->r=r0->cT X ss (nM X H0 ρ):=by
 intro ss ρ r h
 induction h with
 | rz h=>intro er;subst er;exact hz h
 | step hs h ih =>
  rename_i st ss ρ ρ' r
  intro er
  have sd:=((gH Φ _).s st (H0:=H0) (Nat.lt_succ_self _) hs Gd PassesOwn.never)
  intro pins s σ H D I ⟨ow,E,hl',B⟩
  exact dM (L2.PS.nox sd) (ih er) pins s σ H D I ⟨ow,E,hl',B,fun ow' σ' H' E' hl2 k=>⟨ow',E',hl2,B.keep k⟩⟩
 | forR pre hi hd hk ht hf hb h =>
  rename_i tg it body ss pos ρ ρ1 ρ2 d x post k r
  intro er
  subst er
  have hB:=hz' h
  have hF:=CA (H0:=H0) Gd hf
  obtain ⟨l,hi1,hi2⟩:=hi
  have hI:=(bX ⟨l,hi1,hi2⟩ Gd).ie rfl _ _ hd ht
  have hG:=nl Gd hb
  refine dE fun pins s σ H D0 I ⟨ow0,E0,hl,B0⟩=>?_
  obtain ⟨ow,E,k0⟩:=k7 (e:=it) E0
  have B:=B0.keep k0
  have pb:cT (X.wish (ux X)) body (fun D σ H=>(∃ρ fl,fT X.nox H0 ρ body fl/\tF X.nox H0 ρ fl D σ H)\/nM X H0 ρ2 D σ H):=fun pins s σ H D I h=>by
   rcases h with ⟨ρ',fl,h1,h2⟩ | h
   ·exact cT.nox (X:=X.wish (ux X)) h1 pins s σ H D I h2
   ·exact hB pins s σ H D I h
  have pg:PG X.nox tg (fun v σ H Q => ∃g:TG,PG X.nox tg g/\g v σ H Q):=fun pins s σ H v u Q I r ⟨g,h1,h2⟩=>h1 pins s σ H v u Q I r h2
  refine y6 (X:=X) Gd.calm (hI ow) pg pb (iU hi1) pins s σ H D0 I ⟨E,fun J H1 s1 itd=>?_⟩
  refine ⟨fun i m σ' H'=>m=pre.length+1 - i/\i<=pre.length/\∃ow' ρ',aG X.nox ow' H' σ' ρ'/\σ'.length=X.N.length/\bI H0 ow' H'/\aR ow H1 ow' H'/\yx X.nox H0 tg body (pre.drop i) ρ' (.nx ρ1),
   ⟨pre.length+1,by simp,Nat.zero_le _,ow,_,E.same s1,hl,B.keep (aR.same s1),aR.refl _ _,hF⟩,?_⟩
  rintro i m σ' H' ⟨rfl,hile,ow',ρ',E',hl',B',k',hc⟩
  have st:c8 (Kd ow H k H1) (Kd ow H k H1) H1 H':=⟨fun a o ha hn=>k'.keep a o ha (.inl hn),fun a vs ha p=>k'.keep a _ ha (.inr (dW E.own hk p.1)),fun _ _ _ p=>p,fun _ p=>p⟩
  have it:=itd i H' st
  have hlt:i < (pre++x::post).length:=by rw [List.length_append,List.length_cons];omega
  obtain ⟨go,yl⟩:=it.1 (pre++x::post)[i] (List.getElem?_eq_getElem hlt)
  have key:∀y H3,J.yld i H' y H3->av H' H3/\af X.K H3 (fun a b=>b=true->ow' a=none) (pre++x::post)[i] y:=fun y H3 y3=>by
   obtain ⟨sm3,rx⟩:=yl y H3 y3
   exact ⟨sm3,rx.impH (fun a o ha p _=>by
    obtain ⟨o1,h1⟩:=p.2 rfl
    exact k'.low a o1 h1 (dW E.own hk p.1)) fun a _ z=>(by cases z)⟩
  by_cases hp:i < pre.length
  ·have hdrop:pre.drop i=pre[i]::pre.drop (i+1):=List.drop_eq_getElem_cons hp
   rw [hdrop] at hc
   have ei:(pre++x::post)[i]=pre[i]:=List.getElem_append_left hp
   rw [ei] at key
   refine .inr ⟨go,fun σ2 H2=>i+1<=pre.length/\∃ow2 ρ2,aG X.nox ow2 H2 σ2 ρ2/\σ2.length=X.N.length/\bI H0 ow2 H2/\aR ow H1 ow2 H2/\yx X.nox H0 tg body (pre.drop (i+1)) ρ2 (.nx ρ1),fun σ2 H2 n=>⟨pre.length+1 - (i+1),by omega,rfl,n.1,n.2⟩,fun y H3 y3=>?_⟩
   obtain ⟨sm3,rx'⟩:=key y H3 y3
   obtain ⟨ρ3,⟨g,g1,g2⟩,hc⟩:=hc
   refine ⟨g,g1,g2 ow' y σ' H3 _ hl' (E'.same sm3) rx' fun σ2 hl2 E2=>?_⟩
   have k3:aR ow' H' ow' H3:=aR.same sm3
   rcases hc with ⟨ρ4,hb4,hc⟩ | ⟨r,z,_⟩
   ·exact .inl ⟨ρ3,.nx ρ4,hb4,ow',E2,hl2,B'.keep k3,fun ow2 σ3 H4 a b c=>⟨hp,ow2,ρ4,a,b,(B'.keep k3).keep c,k'.trans (k3.trans c),hc⟩⟩
   ·cases z
  ·have ei:i=pre.length:=by omega
   subst ei
   rw [List.drop_length] at hc
   cases (show Fl.nx ρ1=.nx ρ' from hc)
   have ex:(pre++x::post)[pre.length]=x:=by rw [List.getElem_append_right (Nat.le_refl _)];simp
   rw [ex] at key
   refine .inr ⟨go,fun _ _=>False,fun _ _ z=>z.elim,fun y H3 y3=>?_⟩
   obtain ⟨sm3,rx'⟩:=key y H3 y3
   obtain ⟨g,g1,g2⟩:=hG
   exact ⟨g,g1,g2 ow' y σ' H3 _ hl' (E'.same sm3) rx' fun σ2 hl2 E2=>.inr ⟨ow',E2,hl2,B'.keep (aR.same sm3)⟩⟩
theorem qF {P:Program} {w:World} {K:W.Frag} {mg:Str->Option Value} {base:Heap} {k:Nat} {g qual:Str} {st:Stmt} {f:Addr} {fd:FuncData} {ps:List Str} {Φ:Fx} {Ψ:ma} {Ex:Str->Option (Str×Option Str)} {G:List D->Option Xs} (Fn:iz K g qual st f fd)
  (S:aQ (aw (ac st)) ps (ac st)) (hΦ:pB P w K mg base k Φ) (hΨ:∀g G,Ψ g=some G->jb P w K mg base k g G) (hmg:∀n C,W.nsIn K mainGlobals n=some (some (.ref C))->mg n=some (.ref C)) (hEI:DS P w K mg base k Ex)
  (hrun:∀ds r,G ds=some r->ds.length=ps.length/\r.2.2≠[]/\dA Φ Ψ Ex (ac st) (ak st) (b8 ps ds) r):bv P w K mg base (cm P w) (k+1) f fd ps (tQ K G):=by
 obtain ⟨oc,od,kV,doc,pm,an,cdv,ct,osl,rfl,lk,hcd⟩:=Fn.ex
 refine xV lk hcd S (fun vs H Q E h=>?_) fun A outer s H vs Q E hr hsp=>?_
 ·obtain ⟨ds,n,p,fs,C,S',h1,h2,_⟩:=h
  rw [<- h1.length];exact (hrun ds _ h2).1
 ·obtain ⟨ds,n,p,fs,C,S',h1,h2,h3,h4,h5,h6⟩:=hsp
  obtain ⟨hl,hne,hz⟩:=hrun ds _ h2
  have Gd:=jw (outer:=outer) (H:=H) (E:=E) S hΦ hr
  obtain ⟨E0,hsl⟩:=kZ (P:=P) (w:=w) (mg:=mg) (base:=base) (qual:=qual) (f:=f) (cdv:=cdv) (A:=A) (outer:=outer) (s:=s) (E:=E) S h1 hl
  have B0:bI H (fun _=>none) H:=fun a o h=>⟨h,rfl⟩
  have lv:vB (cW (cm P w) P w K mg base (aw (ac st)) qual (ac st) f cdv A outer s H E) E (cW (cm P w) P w K mg base (aw (ac st)) qual (ac st) f cdv A outer s H E).xe:=fun e s2 k=>wpAny_mono k (fun _ _ z=>z) fun _ _ z=>z.elim
  have hcx:∀{e s' H1 s1},cm P w (cW (cm P w) P w K mg base (aw (ac st)) qual (ac st) f cdv A outer s H E).stack H1 s1 (yw H C fs) e s'->cm P w (cW (cm P w) P w K mg base (aw (ac st)) qual (ac st) f cdv A outer s H E).stack H1 s1 E e s':=fun {e s' H1 s1} c=>by
   obtain ⟨x,C',T,od,H',rfl,z1,z2,z3,z4,z5,z6,z7,z8,z9,⟨e1,e2,e3⟩⟩:=c
   cases e1
   exact ⟨x,C,T,od,H',rfl,z1,z2,z3,z4,z5,z6,z7,z8,z9,h6 od H' e2 e3⟩
  refine ⟨_,Bb (X:=cW (cm P w) P w K mg base (aw (ac st)) qual (ac st) f cdv A outer s H E) (H0:=H) (r0:=(n,p,fs)) Gd (fun hz=>?_) (fun hz=>?_) hz rfl,fun _=>none,E0,hsl,B0⟩
  ·refine xy (X:=cW (cm P w) P w K mg base (aw (ac st)) qual (ac st) f cdv A outer s H E) (H0:=H) (C:=C) (S:=S') Gd (fun g' G' hG=>?_) h3 h4 h5 (hmg n C h3) (hEI n C h3).1 (fun p' f' hp'=>?_) (fun hfs pins σ H1 s1 h' a us I sm m=>?_) (fun f' i' hfs pins σ H1 s1 z dx o vv a0 sm I w1 w2 w3 w4 w5 w6 w7 w8 w9 w10=>?_) (fun pins σ H1 s1 e s' I c=>?_) hz rfl
   ·exact (hΨ g' G' hG).at hr
   ·obtain ⟨j,fI,oI,fd',ps',q0,q1,q2,q3,q4,q5,q6⟩:=(hEI n C h3).2 p' f' hp'
    exact ⟨j,fI,oI,fd',ps',q1,q2,q3,q4,q5,hr.mono q0,q6⟩
   ·exact absurd hfs hne
   ·subst hfs
    exact oM I rfl rfl w2 w3 w4 w5 w6 w7 w8 w10 w9 (h6 _ _ (sm.trans (cu w1)) (fun f i z=>by cases z;exact ⟨dx,rfl,aJ⟩))
   ·exact rZ I rfl rfl (hcx c)
  ·refine xy (X:=(cW (cm P w) P w K mg base (aw (ac st)) qual (ac st) f cdv A outer s H E).wish (ux (cW (cm P w) P w K mg base (aw (ac st)) qual (ac st) f cdv A outer s H E))) (H0:=H) (C:=C) (S:=S') Gd (fun g' G' hG=>?_) h3 h4 h5 (hmg n C h3) (hEI n C h3).1 (fun p' f' hp'=>?_) (fun hfs pins σ H1 s1 h' a us I sm m=>?_) (fun f' i' hfs pins σ H1 s1 z dx o vv a0 sm I w1 w2 w3 w4 w5 w6 w7 w8 w9 w10=>?_) (fun pins σ H1 s1 e s' I c=>?_) hz rfl
   ·exact (hΨ g' G' hG).at hr
   ·obtain ⟨j,fI,oI,fd',ps',q0,q1,q2,q3,q4,q5,q6⟩:=(hEI n C h3).2 p' f' hp'
    exact ⟨j,fI,oI,fd',ps',q1,q2,q3,q4,q5,hr.mono q0,q6⟩
   ·exact absurd hfs hne
   ·subst hfs
    exact pJ I.unwish rfl rfl w2 w3 w4 w5 w6 w7 w8 w10 w9 (h6 _ _ (sm.trans (cu w1)) (fun f i z=>by cases z;exact ⟨dx,rfl,aJ⟩)) lv
   ·exact uy I.unwish rfl rfl (hcx c) lv
end Sp
namespace Sp
open PySem PySem.Spec PyProof.Rows L2
variable {X:Cx}
def lA (n p:Str):List D->Option Bool
 | []=>some false
 | .xc m none::l=>(lA n p l).map fun b=>(decide (m=n) || decide (m=p)) || b
 | _=>none
def Fm (n p:Str):D->Option Bool
 | .xc m none=>some (decide (m=n) || decide (m=p))
 | .typ T=>if T = "ValueError" then some true else none
 | .tup cs=>lA n p cs
 | _=>none
def wQ (ds:List D):R1 :=
 match ds with
 | [.xc n (some (p,_)),c]=>(match Fm n p c with|some b=>.ok (.bl b,0) [] | none=>.st)
 | ds=>wR ds
theorem xO {K:W.Frag} {H:Hp} {P:aZ} {n p:Str} {C S:Addr} (hn:W.nsIn K mainGlobals n=some (some (.ref C))) (hp:W.nsIn K mainGlobals p=some (some (.ref S))) (e:fc K C S):∀{cs:List D} {vs:List V} {us:List Value} {b:Bool},lA n p cs=some b->ag K H P cs vs->aH vs us->W.kitAny K (.ref C) us=some b
 | [],vs,us,b,h,r,q=>by
  rw [lA] at h;cases h
  rw [ag] at r;subst r;cases q;rfl
 | .xc m none::l,vs,us,b,h,r,q=>by
  rw [lA] at h
  cases hl:lA n p l with
  | none=>rw [hl] at h;cases h
  | some b' =>
   rw [hl] at h;cases h
   rw [ag] at r
   obtain ⟨v,vr,rfl,r1,r2⟩:=r
   rw [af] at r1
   obtain ⟨Cm,rfl,hm,hx⟩:=r1
   cases q with
   | cons q1 q2 =>
    cases q1
    have k1:=uB e hn hp hm hx
    have k2:=xO hn hp e hl r2 q2
    show (match W.kitOne K (.ref C) (.ref Cm) with|some true=>some true|some false=>W.kitAny K (.ref C) _|none=>none)=_
    rw [k1]
    cases hd:(decide (m=n) || decide (m=p)) with
    | true=>rfl
    | false=>exact k2
theorem Aq:cX "isinstance" wQ:=by
 refine ⟨by decide +kernel,by decide +kernel,by decide +kernel,rfl,fun X ds z l o hc h hp=>?_⟩
 unfold wQ at h
 split at h
 ·rename_i n p fs c
  split at h
  ·rename_i b hb
   cases h
   refine .inl ⟨"isinstance", by decide +kernel,?_⟩
   have cr:cI X (.builtin "isinstance") (fun xs H Q => ∃v w P,xs=[v,w]/\af X.K H P (.xc n (some (p,fs))) v/\af X.K H P c w/\Q (.bl b) H):=by
    intro pins s σ H xs us Q I r hh
    obtain ⟨v,w,P,rfl,r1,r2,q⟩:=hh
    obtain ⟨u,u2,rfl,ru,ru2⟩:=ky r
    rw [af] at r1
    obtain ⟨x,C,S,od,rfl,h1,h2,h3,h4,_,_⟩:=r1
    cases ru
    have xo:DE x C s.heap:=let ⟨o,_,a,b,_⟩:=(show bB X.prog X.w H s.heap x (io x C od) from I.hok x _ h4).1;⟨o,a,b⟩
    unfold Fm at hb
    split at hb
    ·rename_i m
     cases hb
     rw [af] at r2
     obtain ⟨Cm,rfl,hm,hx⟩:=r2
     cases ru2
     exact W.kia_one (jZ h3) I.kIn xo (uB h3 h1 h2 hm hx) (fun z=>nomatch z) fun tk=>⟨.bl _,H,I.tok tk,rfl,q⟩
    ·rename_i T
     split at hb
     ·rename_i hT
      subst hT
      cases hb
      rw [af] at r2
      subst r2
      cases ru2
      exact W.kia_one (jZ h3) I.kIn xo (B6 h3) (fun z=>nomatch z) fun tk=>⟨.bl _,H,I.tok tk,rfl,q⟩
     ·cases hb
    ·rename_i cs
     rw [af] at r2
     obtain ⟨a,vs,rfl,sq,rl⟩:=r2
     cases ru2
     obtain ⟨its,rv,⟨⟨c0,dd,data,sl⟩,e1,e2,n0,e3⟩,_⟩:=I.tuple sq
     simp only at e2 e3
     subst e2 e3
     exact W.kia_tup (jZ h3) I.kIn xo e1 (xO h1 h2 h3 hb rl rv) (fun z=>nomatch z) fun tk=>⟨.bl _,H,I.tok tk,rfl,q⟩
    ·cases hb
   refine ⟨_,cr,fun ow H0 H2 vs P Q o s rx q=>?_⟩
   rw [ag] at rx
   obtain ⟨v,r,rfl,r1,r2⟩:=rx
   obtain ⟨w,rfl,r3⟩:=r2.only
   exact ⟨v,w,P,rfl,r1,r3,q _ _ (av.refl _) (by rw [af])⟩
  ·cases h
 ·exact Ar.2.2.2.2 X _ z l o hc h hp
theorem dG {mg:Str->Option Value} {K:W.Frag} {x:Str} {C:Addr} (hm:mg x=some (.ref C)) (hn:W.nsIn K mainGlobals x=some (some (.ref C))) (hx:yh K x C):du mg K (x,.xc x none) :=
 ⟨.ref C,.ref C,hm,rfl,fun H P=>by rw [af];exact ⟨C,rfl,hn,hx⟩⟩
def dH (K:W.Frag) (n:Str) (C:Addr):Bool :=
 match K.lookup mainGlobals with
 | some ⟨_,_,.dict es _,_⟩=>es.toList.all fun e => !(e.val == .ref C) || (match e.key with | .str m _=>decide (m=n) | _=>false)
 | _=>false
def ff (K:W.Frag) (C:Addr):Bool :=
 match K.lookup C with
 | some ⟨.type t,_,.cls _,_⟩=>t == "type"
 | _=>false
theorem dC {K:W.Frag} {n:Str} {C:Addr} (h1:dH K n C=true) (h2:ff K C=true):yh K n C:=by
 unfold ff at h2
 split at h2
 ·rename_i t d cd sl e
  have et:t = "type" := by simpa using h2
  subst et
  refine ⟨?_,fun m hm=>?_,⟨_,e,rfl⟩⟩
  ·have c1:W.clsIn K C=some cd:=by unfold W.clsIn;rw [e]
   have c2:W.typeIn K (.ref C)=some (.type "type"):=by
    show Option.map (fun x=>x.cls) (List.lookup C K)=_
    rw [e];rfl
   rw [c1,c2];rfl
  ·unfold dH at h1
   unfold W.nsIn at hm
   split at h1
   ·rename_i a1 a2 es a3 a4 e1
    rw [e1] at hm
    dsimp only at hm
    split at hm
    ·rename_i x hf
     have hv:x.val=.ref C:=Option.some.inj (Option.some.inj hm)
     have hx:=List.mem_of_find?_eq_some hf
     have hk:x.key.isStr m=true:=List.find?_some (p:=fun x:DictEntry=>x.key.isStr m) hf
     have:=List.all_eq_true.mp h1 x hx
     rw [hv,show ((Value.ref C==Value.ref C):Bool)=true by simp,Bool.not_true,Bool.false_or] at this
     cases hkk:x.key with
     | str k t =>
      rw [hkk] at this hk
      have a1:k=n:=of_decide_eq_true this
      have a2:k=m:=by simpa [Value.isStr] using hk
      rw [<- a2,a1]
     | _=>rw [hkk] at this;cases this
    ·split at hm <;> cases hm
   ·cases h1
 ·cases h2
abbrev Fz (K:W.Frag):Str×Str×Option Str->Prop:=fun q => ∃C S,W.nsIn K mainGlobals q.1=some (some (.ref C))/\W.nsIn K mainGlobals q.2.1=some (some (.ref S))/\fc K C S/\W.exmOne K (.ref C) (.ref S)=some true/\∀f,q.2.2=some f->pE K C f
theorem zN {K:W.Frag} {l:List (Str×Str×Option Str)} (h:∀q∈l,Fz K q):xg K (fun c=>l.lookup c):=fun c p o e=>h (c,p,o) (PySem.mem_of_lookup e)
abbrev Fy (P:Program) (w:World) (K:W.Frag) (mg:Str->Option Value) (base:Heap) (k:Nat):Str×Str×Option Str->Prop:=fun q => ∃C,W.nsIn K mainGlobals q.1=some (some (.ref C))/\(q.2.2=none->d9 K C=none) /\
 ∀f,q.2.2=some f->∃j fI oI fd ps,j+1<=k/\d9 K C=some (.ref fI)/\K.lookup fI=some oI/\oI.cls=.type "function" /\ W.keepIn K (.ref C)=true/\bv P w K mg base cU j fI fd ps (nS C f)/\bG K fd ps []
theorem CG {P:Program} {w:World} {K:W.Frag} {mg:Str->Option Value} {base:Heap} {k:Nat} {l:List (Str×Str×Option Str)} (h:∀q∈l,Fy P w K mg base k q):DS P w K mg base k (fun c=>l.lookup c):=fun c C hc =>
 ⟨fun p e=>by
  obtain ⟨C',h1,h2,_⟩:=h (c,p,none) (PySem.mem_of_lookup e)
  rw [hc] at h1;cases h1;exact h2 rfl,fun p f e=>by
  obtain ⟨C',h1,_,h3⟩:=h (c,p,some f) (PySem.mem_of_lookup e)
  rw [hc] at h1;cases h1;exact h3 f rfl⟩
abbrev DQ (P:Program) (w:World) (K:W.Frag) (mg:Str->Option Value) (base:Heap) (k:Nat):Str×(List D->Option Xs)->Prop:=fun q=>jb P w K mg base k q.1 q.2
theorem n8 {P:Program} {w:World} {K:W.Frag} {mg:Str->Option Value} {base:Heap} {k:Nat} {l:List (Str×(List D->Option Xs))} (h:∀q∈l,DQ P w K mg base k q):∀g G,(fun g:Str=>l.lookup g) g=some G->jb P w K mg base k g G:=fun g G e=>h (g,G) (PySem.mem_of_lookup e)
def AH:Stmt->List Stmt
 | .Try b _ _ _ _=>b
 | _=>[]
theorem AG {Φ:Fx} {Ψ:Str->Option (List D->Option Xs)} {Ex:Str->Option (Str×Option Str)} {sc:Scope} {ps:List Str} {pre tb post:List Stmt} {B n y:Str} {ds:List D} {r:D} {ρ1 ρ2:ae} (h1:aa (ay Φ pre sc (b8 ps ds)) (.nx ρ1)) (h2:aa (ay Φ tb sc ρ1) (.nx ρ2)) (h3:aa (ay Φ post sc ρ2) (.rt r)) (hl:ds.length=ps.length:=by rfl):lu Φ Ψ Ex sc ps pre tb post B n y ds r:=⟨hl,ρ1,h1,.inl ⟨ρ2,h2,h3⟩⟩
theorem AF {Φ:Fx} {Ψ:Str->Option (List D->Option Xs)} {Ex:Str->Option (Str×Option Str)} {sc:Scope} {ps:List Str} {pre tb post:List Stmt} {B n y:Str} {ds:List D} {r:D} {ρ1:ae} {c:Str} {fs:List (Str×Int)} {o:Option Str} (h1:aa (ay Φ pre sc (b8 ps ds)) (.nx ρ1)) (h2:Rt Φ Ψ sc tb ρ1 (c,B,fs)) (h3:aa (ay Φ post sc (lS ρ1 n y c B fs)) (.rt r)) (hc:Ex c=some (B,o):=by rfl) (ho:∀f i,fs=[(f,i)]->o=some f:=by (intro f i z;cases z <;> rfl)) (hl:ds.length=ps.length:=by rfl):lu Φ Ψ Ex sc ps pre tb post B n y ds r:=⟨hl,ρ1,h1,.inr ⟨c,o,fs,hc,ho,h2,h3⟩⟩
end Sp
namespace K
open PySem L2 Sp Qm
section
variable {Φ:Fx} {sc:Scope} {ρ ρ1:ae} {ss:List Stmt}
end
end K
namespace Sp
open PySem PySem.Spec PyProof.Rows L2
theorem Cs {K:W.Frag} {f:Addr} {o:Obj} (h:W.isFn K (.ref f)=true) (l:K.lookup f=some o):o.cls=.type "function" := by
 have:Option.map (fun x:Obj=>x.cls) (List.lookup f K)=some (.type "function"):=beq_iff_eq.mp h
 rw [show List.lookup f K=some o from l] at this
 exact Option.some.inj this
theorem vD {P:Program} {w:World} {K:W.Frag} {mg:Str->Option Value} {base:Heap} {g qual:Str} {st:Stmt} {f C S0:Addr} {fd:FuncData} {mc:Value} (Fn:iz K g qual st f fd) {s0 a1 fl b a:Str} {kd:Nat} {p1 p2 p3 p5 p6 p7 p8 p9 p10 q1 q2 q3 q4:Pos}
  (hN:aw (ac st)=[s0,a1]) (S:aQ (aw (ac st)) [s0,a1] (ac st)) (hv:(ac st).names.lookup s0=some .local/\(ac st).names.lookup a1=some .local) (hok:eB s0=true/\eB a1=true)
  (hgb:(ac st).names.lookup b=some .globalImplicit) (hm:mg b=some (.ref S0)) (hga:W.specialIn K (.ref S0) "__getattribute__" = some (some (.builtin "type.__getattribute__"))) (hrd:W.readsIn K S0 mc=true) (hfc:W.findCls K (.ref S0) mc "__init__" = some (.val (.builtin "ValueError.__init__"))) (hex:gZ K C S0=true)
  (hdi:W.hasDictIn K C=true) (hsa:W.findIn K (.ref C) "__setattr__" = some (some (.builtin "object.__setattr__"))) (hff:W.findIn K (.ref C) fl=some none)
  (hb:ak st=[.Expr (.Call (.Attribute (.Name b p1) "__init__" p2) [.Name s0 p3,.JoinedStr [.Constant (.str a) kd p5,.FormattedValue (.Name a1 p6) (-1) none p7] p8] [] p9) p10,.Assign [.Attribute (.Name s0 q1) fl q2] (.Name a1 q3) q4]) (ha:a.length<=200) (hln:(p2.endLine==p9.line)=true) (hdb:(b==("__debug__" : Str))=false) :
  bv P w K mg base cU 1 f fd [s0,a1] (nS C fl):=by
 obtain ⟨cd,h1,h2⟩:=oy hex
 have h3:cd.hasDict=true:=by
  unfold W.hasDictIn at hdi
  rw [h1] at hdi
  exact hdi
 refine vC Fn hN S (fun x hx=>?_) (fun x hx=>?_) hgb hm hga hrd hfc hex h1 h2 h3 hsa hff hb ha hln hdb
 ·simp only [List.mem_cons,List.not_mem_nil,or_false] at hx
  rcases hx with rfl|rfl
  ·exact .inl hv.1
  ·exact .inl hv.2
 ·simp only [List.mem_cons,List.not_mem_nil,or_false] at hx
  rcases hx with rfl|rfl
  ·exact hok.1
  ·exact hok.2
end Sp
namespace K
open PySem L2 Sp Qm
def Fq:List Nat->Nat
 | []=>0
 | x::r=>x*x+Fq r
def Ka (r:List Nat):Nat:=r.getLastD 20
def ext (n:Nat) (r:List Nat):List (List Nat):=((List.range (Ka r+1)).filter fun p=>decide (p*p+Fq r<=n)).map fun p=>r++[p]
theorem CF {Φ:Fx} {sc:Scope} {ρ:ae} {x m:Str} {p ap cp q:Pos} {args:List Expr} {M:List D->List D->Nat->Rs (List D)} {l ds l':List D} {k:Nat} (hp:(ap.endLine==cp.line)=true) (ha:aa (bq Φ args sc ρ) (ds,k)) (hm:Φ.mtt m=some M) (hx:ρ x=some (.lst l,true)) (hM:aa (M l ds k) l') (hn:eB x=true:=by rfl) :
  aa (ef Φ (.Expr (.Call (.Attribute (.Name x p) m ap) args [] cp) q) sc ρ) (.nx (bn ρ x (.lst l',true))):=by
 suffices key:aa (g7 Φ (.Call (.Attribute (.Name x p) m ap) args [] cp) sc ρ) (.nx (bn ρ x (.lst l',true))) from key
 unfold g7
 dsimp only
 rw [if_pos hp]
 refine aa.bnd ha ?_
 rw [hm]
 unfold oj
 rw [hx]
 dsimp only
 rw [if_pos hn]
 exact hM.bnd cD
end K
namespace K
open PySem L2 Sp Qm
end K
namespace K
open PySem L2 Sp
def ai (i:Nat):Stmt:=PySem.Challenge.pw_spaceturns_k04_words_that_write_no_four.main.body.getD i (.Pass ⟨0,0,0,0⟩)
local macro_rules | `(tactic| walk_at "leaf") => `(tactic| first | ((with_reducible apply fw);decide) | ((with_reducible apply qi);decide) | ((with_reducible apply Ae) <;> decide) | ((with_reducible apply mulOk_b) <;> (with_reducible assumption)) | ((with_reducible apply y9) <;> decide) | ((with_reducible refine Eq.trans ?_ rfl);exact rfl) | ((with_reducible apply cel_bits);(with_reducible assumption)) | ((with_reducible apply okT_id);assumption) | exact Nat.le_of_ble_eq_true rfl|exact Or.inl rfl|exact Or.inr rfl|exact Or.inr (Nat.le_refl 1) | exact Or.inr (Nat.zero_le 1) | decide|decide +kernel)
local macro_rules | `(tactic| walk_at "ob") => `(tactic| (repeat' (first|with_reducible exact True.intro|with_reducible exact wX|with_reducible apply sH|with_reducible apply wW|with_reducible apply pP|with_reducible assumption | ((with_reducible apply dz);intro hgd) | walk_at "leaf")))
local macro_rules | `(decl_name%) => `(gD rfl (by walk_at "ob"))
def BL:List (Str×(List D->R1)):=[("len", sE),("tuple", lm),("abs", wU),("all", gq),("isinstance", wQ),("int", fu),("str", wN),("min", j8)]
def IL:List (Str×(List D->Nat->R1)):=[("range", iT),("enumerate", se)]
def ML:List (Str×(D->List D->R1)):=[("join", kK),("split", iO),("startswith", BY),("endswith", B1),("index", kL)]
def TL:List (Str×(List D->List D->Nat->Rs (List D))):=[("append", jv),("extend", lL)]
def EX:Str->Option (Str×Option Str):=fun c=>([("NoText", "SpaceError", some "at")]:List (Str×Str×Option Str)).lookup c
def wZ:Fx:=Tb [] [] BL IL ML TL bx
def xb:List D->Rs D:=ci wZ (ac (ai 26)) ["_law_script", "_law_k"] (ak (ai 26))
def j9:List D->Rs D:=AW dL dI fun l k=>.ok (.int (gO l k)) [Fs l]
theorem pT:∀ds r,aa (j9 ds) r->aa (xb ds) r:=by
 intro ds r h
 obtain ⟨l,k,rfl,h⟩:=yK h
 obtain ⟨rfl,⟨ns,rfl⟩,_⟩:=jp h
 refine bz (dD 1 (gD rfl True.intro) (rh (gD rfl True.intro) (fun ht=>?_) (fun hf=>?_)))
 ·have hl:(ns.map D.int).length=ns.length:=by simp
  have hp:(0:Int) < ((ns.map D.int).length:Nat):=by simpa using ht
  have hi:L2.atI (ns.map D.int) (k.fmod (((ns.map D.int).length:Nat):Int))=some (.int (iX ns k)):=by
   rw [hl] at hp ⊢
   have hne:ns≠[]:=by intro z;subst z;simp at hp
   unfold iX
   rw [if_neg hne]
   exact Av (Int.fmod_nonneg_of_pos _ hp) (Int.fmod_lt_of_pos _ hp)
  refine aS (aP (d:=.int (iX ns k)) (nr (gD rfl True.intro) (gD rfl ⟨Int.ne_of_gt hp,True.intro⟩) rfl hi)) ?_
  refine decl_name%.eq ?_
  unfold gO yc;rw [q8]
 ·have hp:ns=[]:=by
   cases ns with
   | nil=>rfl
   | cons n ns=>simp at hf
  subst hp
  refine decl_name%.eq ?_
  rfl
def dn:Fx:=Tb [] [] BL IL ML TL bx
def dR:List D->Rs D:=ci dn (ac (ai 29)) ["_law_word_here"] (ak (ai 29))
theorem iL {a b:Int} (h:a≠b):(!eD (.int a) (.int b))=true:=by rw [cG,decide_eq_false h];rfl
theorem oH {n:Nat} (h:n < 10 ^ 43):n < 2 ^ 1900:=Nat.lt_trans h (Nat.lt_of_lt_of_le (show 10 ^ 43 < 2 ^ 200 by decide) (Nat.pow_le_pow_right (by decide) (by decide)))
theorem kM {w l:List Nat} {h:Bool} {v:D} (hz:w.length<=45) (hw:Txt.endswith (sN w) (Str.ofString "/2")=h) (hb:cond h (Txt.slice (sN w) none (some (-2))=sN l) (w=l)) (hl:l.length<=45) (asc:∀c∈l,c < 128)
    (k:aa (ay dn ((ak (ai 29)).drop 5) (ac (ai 29)) (bw [("_law_half", .bl h,true),("_law_body", .str (sN l),true),("_law_figures", .str (sN (db l)),true)])) (.rt v)):aa (dR [.str (sN w)]) v:=by
  have hw1:(sN w).length<=1048576:=by rw [aW];omega
  have hl1:(sN l).length<=1048576:=by rw [aW];omega
  have e1:Str.ofString "-" = sN [45]:=by rw [dF];rfl
  have ek:dP (.str (Txt.slice (sN l) none (some 1))) (.str (Str.ofString "-"))=true:=eL (by rw [uZ];exact jq fun c hc=>asc c (List.mem_of_mem_take hc)) (by decide +kernel)
  have eh:eD (.str (Txt.slice (sN l) none (some 1))) (.str (Str.ofString "-"))=decide (l.head?=some 45):=by
    rw [eM,uZ,e1]
    refine decide_eq_decide.mpr ⟨fun z=>?_,fun z=>?_⟩
    . have z:=gA z
      cases l with
      | nil=>cases z
      | cons a l=>
        have:a=45:=by injection z
        rw [this];rfl
    . cases l with
      | nil=>cases z
      | cons a l=>
        have:a=45:=by injection z
        rw [this];rfl
  have body:∃ρ1,aa (ay dn ((ak (ai 29)).take 3) (ac (ai 29)) (b8 ["_law_word_here"] [.str (sN w)])) (.nx ρ1)/\Sub (bw [("_law_half", .bl h,true),("_law_body", .str (sN l),true)]) ρ1:=by
    cases h with
    | true=>exact ⟨_,aS (aP (d:=.bl true) (decl_name%.bl hw)) (aS (aP (d:=.str (sN w)) decl_name%) (bo (t:=true) (k:=0) decl_name% rfl (aS (aP (d:=.str (sN l)) (decl_name%.eq (by rw [show Txt.slice (sN w) none (some (-2))=sN l from hb]))) be))),au rfl (au rfl aT)⟩
    | false =>
      have hb:w=l:=hb
      subst hb
      exact ⟨_,aS (aP (d:=.bl false) (decl_name%.bl hw)) (aS (aP (d:=.str (sN w)) decl_name%) (aD (t:=false) (k:=0) decl_name% rfl be)),au rfl (au rfl aT)⟩
  obtain ⟨ρ1,h1,s1⟩:=body
  refine bz (dD 3 h1 ?_)
  have fig:∃ρ2,aa (ay dn (((ak (ai 29)).drop 3).take 2) (ac (ai 29)) ρ1) (.nx ρ2)/\Sub (bw [("_law_half", .bl h,true),("_law_body", .str (sN l),true),("_law_figures", .str (sN (db l)),true)]) ρ2:=by
    by_cases hh:l.head?=some 45
    . have es:db l=l.tail:=if_pos hh
      rw [es]
      exact bM s1 (aS (aP (d:=.str (sN l)) decl_name%) (bo (t:=true) (k:=0) (decl_name%.bl (eh.trans (decide_eq_true hh))) rfl (aS (aP (d:=.str (sN l.tail)) (decl_name%.eq (by rw [uY hh]))) be))) fun ρ s=>au s.get (au s.get (au s.get aT))
    . have es:db l=l:=if_neg hh
      rw [es]
      exact bM s1 (aS (aP (d:=.str (sN l)) decl_name%) (aD (t:=false) (k:=0) (decl_name%.bl (eh.trans (decide_eq_false hh))) rfl be)) fun ρ s=>au s.get (au s.get (au s.get aT))
  obtain ⟨ρ2,h2,s2⟩:=fig
  exact dD 2 h2 (cC s2 k)
theorem qo {l f:List Nat} {h:Bool} (hf:f.length<=45) (asc:∀c∈f,c < 128):aa (ar dn (Kc ((ak (ai 29)).getD 5 (.Pass ⟨0,0,0,0⟩))) false (ac (ai 29)) (bw [("_law_half", .bl h,true),("_law_body", .str (sN l),true),("_law_figures", .str (sN f),true)])) (.bl (!il f),0):=by
 have hf1:(sN f).length<=1048576:=by rw [aW];omega
 have ek:dP (.str (sN f)) (.str (Str.ofString ""))=true:=eL (jq asc) (by decide +kernel)
 have ee:eD (.str (sN f)) (.str (Str.ofString ""))=decide (f=[]):=by
  rw [eM]
  refine decide_eq_decide.mpr ⟨fun z=>?_,fun z=>by rw [z];rfl⟩
  rw [show Str.ofString "" = sN [] from rfl] at z
  exact gA z
 unfold il
 by_cases h0:f=[]
 ·rw [decide_eq_true h0]
  exact bg (cF (decl_name%.bl (ee.trans (decide_eq_true h0))) (fun z=>by cases z) fun _=>rfl)
 rw [decide_eq_false h0]
 by_cases h4:f.length<=40
 ·rw [decide_eq_true h4]
  refine bg (bS (decl_name%.bl (ee.trans (decide_eq_false h0))) (bS (decl_name%.bl (decide_eq_false (by rw [aW];omega))) (cF (b:=!f.all dh) (uU (b:=f.all dh) (fb (B:=gq) (bC (g9 (l:=f) (g:=fun c=>D.str (sN [c])) (f:=fun c=>D.bl (dh c)) decl_name% (xN asc) (by show _<=40000;omega) (.inr (Nat.zero_le 1)) fun c hc=>?_) bO) (yg dh f))) (fun e=>?_) fun e=>?_)))
  ·exact ⟨_,rfl,decl_name%.bl (xW c (asc c hc))⟩
  ·rw [show (!(!false&&(true&&f.all dh))) = !f.all dh by simp,e];exact eZ
  ·rw [show (!(!false&&(true&&f.all dh))) = !f.all dh by simp,e]
 ·rw [decide_eq_false h4]
  exact bg (bS (decl_name%.bl (ee.trans (decide_eq_false h0))) (cF (decl_name%.bl (decide_eq_true (by rw [aW];omega))) (fun z=>by cases z) fun _=>rfl))
theorem rW {l f:List Nat} {h:Bool} (hf:f.length<=45) (asc:∀c∈f,c < 128) (hb:il f=false):aa (ay dn ((ak (ai 29)).drop 5) (ac (ai 29)) (bw [("_law_half", .bl h,true),("_law_body", .str (sN l),true),("_law_figures", .str (sN f),true)])) (.rt .non) :=
 bo (t:=true) (k:=0) ((qo hf asc).bl (by rw [hb];rfl)) rfl (bf (aX decl_name%))
theorem iP {l f:List Nat} {h:Bool} {i:Int} {v:D} (hl:l.length<=45) (hf:f.length<=45) (asc:∀c∈f,c < 128) (al:∀c∈l,c < 128) (hb:il f=true) (hi:i.natAbs < 10 ^ 43) (ei:intText? (sN l)=some i)
  (k:(br i≠l\/(h=true/\i.fmod 2=0))/\v=.non\/br i=l/\(h=true->i.fmod 2≠0)/\aa (ay dn ((ak (ai 29)).drop 8) (ac (ai 29)) (bw [("_law_half", .bl h,true),("_law_number", .int i,true)])) (.rt v)):aa (ay dn ((ak (ai 29)).drop 5) (ac (ai 29)) (bw [("_law_half", .bl h,true),("_law_body", .str (sN l),true),("_law_figures", .str (sN f),true)])) (.rt v):=by
 have h3:(sN l).length<=640:=by rw [aW];omega
 have hint:aa (fu [.str (sN l)]) (.int i,0):=by
  unfold fu;dsimp only;rw [ei]
  exact ⟨_,rfl,h3,True.intro⟩
 have hi2:=oH hi
 have ek:dP (.str (Str.ofString (toString i))) (.str (sN l))=true:=eL (by rw [gS];exact jq (dZ i)) (jq al)
 have en:(!eD (.str (Str.ofString (toString i))) (.str (sN l))) = !decide (br i=l):=by
  rw [eM,gS]
  congr 1
  exact decide_eq_decide.mpr ⟨gA,fun z=>by rw [z]⟩
 refine aD (t:=false) (k:=0) ((qo hf asc).bl (by rw [hb];rfl)) rfl (aS (aP (d:=.int i) (fb (B:=fu) decl_name% hint)) ?_)
 rcases k with ⟨k,rfl⟩ | ⟨k1,k2,k3⟩
 ·refine bo (t:=true) (k:=0) (bg ?_) rfl (bf (aX decl_name%))
  by_cases hx:br i=l
  ·obtain ⟨rfl,ke⟩:=k.resolve_left (fun z=>z hx)
   exact bS (decl_name%.bl (by rw [en,decide_eq_true hx] <;> rfl)) (cF (b:=true) (bg (fZ decl_name% (fZ (decl_name%.bl ((cG _ _).trans (decide_eq_true ke))) uS))) (fun z=>by cases z) fun _=>rfl)
  ·exact cF (decl_name%.bl (by rw [en,decide_eq_false hx] <;> rfl)) (fun z=>by cases z) fun _=>rfl
 ·refine aD (t:=false) (k:=0) (bg (bS (decl_name%.bl (by rw [en,decide_eq_true k1] <;> rfl)) (bS (bg (b:=false) ?_) eZ))) rfl (cC (au rfl (au rfl aT)) k3)
  cases h with
  | true=>exact fZ decl_name% (cn (decl_name%.bl ((cG _ _).trans (decide_eq_false (k2 rfl)))) (fun z=>by cases z) fun _=>rfl)
  | false=>exact cn decl_name% (fun z=>by cases z) fun _=>rfl
theorem rX {m:Nat} (h:m < 10 ^ 40):il (bt m)=true:=by
 unfold il
 rw [decide_eq_false (nu m),decide_eq_true (eg (by decide) h),show (bt m).all dh=true from List.all_eq_true.mpr fun c hc=>by obtain ⟨h1,h2⟩:=dj m c hc;unfold dh;rw [decide_eq_true h1,decide_eq_true h2];rfl]
 rfl
theorem xH {m:Nat} (h:10 ^ 40<=m):il (bt m)=false:=by
 unfold il
 rw [decide_eq_false (show ¬ (bt m).length<=40 by have:=si h;omega)]
 simp
theorem EG {l:List Nat} (h:il l=true):l≠[]/\∀c∈l,48<=c/\c<=57:=by
 unfold il at h
 rw [Bool.and_eq_true,Bool.and_eq_true] at h
 refine ⟨by simpa using h.1,fun c hc=>?_⟩
 have:=List.all_eq_true.mp h.2.2 c hc
 unfold dh at this
 rw [Bool.and_eq_true] at this
 exact ⟨of_decide_eq_true this.1,of_decide_eq_true this.2⟩
theorem uw {w l:List Nat} {h:Bool} (hz:w.length<=45) (hw:Txt.endswith (sN w) (Str.ofString "/2")=h) (hb:cond h (Txt.slice (sN w) none (some (-2))=sN l) (w=l)) (hm:l∈hZ++i6):aa (dR [.str (sN w)]) .non:=by
 obtain ⟨asc,ln⟩:=fR hm
 have as:∀c∈l,c < 128:=fun c hc=>(asc c hc).2
 refine kM hz hw hb (by omega) as ?_
 have sl:=tM l
 have alt:=Am l hm
 cases hB:il (db l) with
 | false=>exact rW (by omega) (kB as) hB
 | true =>
  obtain ⟨f1,f2⟩:=EG hB
  unfold DB at alt
  rw [hB] at alt
  have vb:∀f:List Nat,f.length<=5->(∀c∈f,48<=c/\c<=57)->NumText.digitsVal f < 10 ^ 43:=fun f h1 h2=>by
   have:=lY f 0 fun c hc=>(h2 c hc).2
   rw [Nat.zero_add,Nat.one_mul] at this
   exact Nat.lt_of_lt_of_le this (Nat.pow_le_pow_right (by decide) (by omega))
  simp only [Bool.not_true,Bool.false_or,Bool.or_eq_true,Bool.and_eq_true,decide_eq_true_eq,Bool.not_eq_true',decide_eq_false_iff_not] at alt
  rcases alt with ⟨e,ne⟩ | ⟨e,ne⟩
  ·rw [e] at f1 f2
   refine iP (i:=((NumText.digitsVal l:Nat):Int)) (by omega) (by omega) (kB as) as hB (by rw [Int.natAbs_natCast];exact vb l ln f2) (by rw [intText_digits (by rw [cB];exact f2) (by rw [cB];exact f1) (by rw [aW];omega),cB]) (.inl ⟨.inl fun z=>ne ?_,rfl⟩)
   unfold br at z
   rw [if_neg (by omega),Int.natAbs_natCast] at z
   exact z
  ·refine iP (i:=-((NumText.digitsVal (db l):Nat):Int)) (by omega) (by omega) (kB as) as hB (by rw [Int.natAbs_neg,Int.natAbs_natCast];exact vb _ (by omega) f2) (by rw [intText_neg (cs:=db l) (by rw [cB];exact e.symm) f2 f1 (by rw [aW];omega)]) (.inl ⟨.inl ne,rfl⟩)
theorem wo {w:List Nat} {v:Option Int} (h:Wc w v):aa (dR [.str (sN w)]) (oI v):=by
 have hz:=qV h
 have e2:Str.ofString "/2" = sN [47,50]:=by rw [dF];rfl
 have nof:∀i:Int,Txt.endswith (sN (br i)) (Str.ofString "/2")=false:=fun i=>by rw [e2];exact wC fun z=>by rcases eG _ 47 z with q|q <;> omega
 have tof:∀l:List Nat,Txt.endswith (sN (l++[47,50])) (Str.ofString "/2")=true:=fun l=>by rw [e2];exact wB l
 have len:∀i:Int,i.natAbs < ir->(br i).length<=45/\(bt i.natAbs).length<=45:=fun i hi=>by
  have:=dS hi
  have:=eg (m:=i.natAbs) (k:=42) (by decide) hi
  omega
 have asd:∀m:Nat,∀c∈bt m,c < 128:=fun m c hc=>by have:=dj m c hc;omega
 have b43:∀n:Nat,n < ir->n < 10 ^ 43:=fun n h=>Nat.lt_trans h (by decide)
 cases h with
 | tx n h =>
  obtain ⟨q1,q2⟩:=len n h
  refine kM hz (nof n) (show br n=br n from rfl) q1 (dZ n) ?_
  rw [kA]
  rcases Nat.lt_or_ge n.natAbs (10 ^ 40) with hn|hn
  ·have m2:dv n 2:=fw (by decide)
   have h2:(if n*2 < 0 then -(n*2) else n*2).natAbs < 2 ^ 1900:=by rw [fz,Int.natAbs_natCast];exact oH (by omega)
   have e:Str.ofString (toString (if n*2 < 0 then -(n*2) else n*2))=sN (bt (n*2).natAbs):=by rw [fz];exact iC _
   have dl:=eg (m:=(n*2).natAbs) (k:=42) (by decide) (by omega)
   have h3:(Str.ofString (toString (if n*2 < 0 then -(n*2) else n*2))).length<=1048576:=by rw [e,aW];omega
   have ed:decide ((40:Int) < ((Str.ofString (toString (if n*2 < 0 then -(n*2) else n*2))).length:Nat))=decide (10 ^ 40<=(n*2).natAbs):=by
    rw [e,aW]
    exact decide_eq_decide.mpr (by rw [<- uX];omega)
   refine iP (i:=n) q1 q2 (asd _) (dZ n) (rX hn) (b43 _ h) (kR (by omega)) (.inr ⟨rfl,(fun z=>by cases z),aD (t:=false) (k:=0) decl_name% rfl ?_⟩)
   by_cases h4:(n*2).natAbs < 10 ^ 40
   ·rw [if_pos h4]
    exact aD (t:=false) (k:=0) (decl_name%.bl (ed.trans (decide_eq_false (by omega)))) rfl (bf (aX decl_name%))
   ·rw [if_neg h4]
    exact bo (t:=true) (k:=0) (decl_name%.bl (ed.trans (decide_eq_true (by omega)))) rfl (bf (aX decl_name%))
  ·rw [if_neg (by omega)]
   exact rW q2 (asd _) (xH hn)
 | hf m h ho =>
  obtain ⟨q1,q2⟩:=len m h
  refine kM hz (tof _) (o7 _) q1 (dZ m) ?_
  rw [kA]
  rcases Nat.lt_or_ge m.natAbs (10 ^ 40) with hn|hn
  ·rw [if_pos hn]
   exact iP (i:=m) q1 q2 (asd _) (dZ m) (rX hn) (b43 _ h) (kR (by omega)) (.inr ⟨rfl,(fun _=>ho),bo (t:=true) (k:=0) decl_name% rfl (bf (aX decl_name%))⟩)
  ·rw [if_neg (by omega)]
   exact rW q2 (asd _) (xH hn)
 | he m h ho =>
  obtain ⟨q1,q2⟩:=len m (yf h)
  refine kM hz (tof _) (o7 _) q1 (dZ m) ?_
  rw [kA]
  exact iP (i:=m) q1 q2 (asd _) (dZ m) (rX h) (b43 _ (yf h)) (kR (by omega)) (.inl ⟨.inr ⟨rfl,ho⟩,rfl⟩)
 | bd _ h=>exact uw (h:=false) hz (by rw [e2];exact vq _ h) (show w=w from rfl) (List.mem_append_left _ h)
 | bh _ h=>exact uw hz (tof _) (o7 _) (List.mem_append_right _ h)
def qS:Fx:=Tb [("_law_part", dR)] [] BL IL ML TL bx
def mj:List D->Rs D:=ci qS (ac (ai 33)) ["_law_words"] (ak (ai 33))
abbrev ba (ws:List (List Nat×Option Int)):List D:=ws.map fun p=>D.str (sN p.1)
theorem eS (ws:List (List Nat×Option Int)):ax (ba ws)=true:=fj (fun _=>rfl) ws
theorem uv {Φ:Fx} {sc scope:Scope} {ρ:ae} {p:Pos} {ws:List (List Nat×Option Int)} {elt tg iter:Expr} {it:Bool} {k:Nat} (hi:aa (ar Φ iter true sc ρ) (.lst (ba ws),k)) (hl:ws.length<=20)
  (h:∀q∈ws,∃ρ',bi scope tg (.str (sN q.1)) (flt scope ρ)=some ρ'/\aa (ar Φ elt false scope ρ') (oI q.2,0)) (hc:iZ sc scope=true) (ht:cO iter tg=true):aa (ar Φ (.ListComp elt [⟨tg,iter,[],0⟩] scope p) it sc ρ) (.lst ((ws.map (·.2)).map oI),0):=by
 rw [List.map_map]
 exact g9 (l:=ws) (g:=fun q=>D.str (sN q.1)) (f:=fun q=>oI q.2) hi rfl (by show _<=40000;omega) (.inl (eS ws)) h hc ht
theorem B5 {ws:List (List Nat×Option Int)} (hw:∀p∈ws,Wc p.1 p.2) (hl:ws.length<=20):aa (mj [.lst (ba ws)]) (oN (c7 (ws.map (·.2)))):=by
 have ll:=eS ws
 have hlen:(((ba ws).length:Nat):Int)=(ws.length:Int):=by rw [List.length_map]
 have hsl:aa (bx (.lst (ba ws)) none (some 4)) (.lst (ba (ws.take 4)),0):=aa.eq ⟨_,rfl,ll,True.intro⟩ (by rw [show fO (ba ws) none (some 4)=ba (ws.take 4) from x9 ws 4])
 have tk:(ws.take 4).map (·.2)=(ws.map (·.2)).take 4:=List.map_take
 have hp:aa (ar qS (Dy ((ak (ai 33)).getD 0 (.Pass ⟨0,0,0,0⟩))) false (ac (ai 33)) (b8 ["_law_words"] [.lst (ba ws)])) (.lst (((ws.map (·.2)).take 4).map oI),0):=by
  rw [<- tk]
  exact uv (g8 decl_name% decl_name% decl_name% hsl) (by rw [List.length_take];omega) (fun q hq=>⟨_,rfl,aV decl_name% (wo (hw q (List.mem_of_mem_take hq)))⟩) rfl rfl
 have l4:((ws.map (·.2)).take 4).length<=4:=by rw [List.length_take];omega
 have lv:(ws.map (·.2)).length=ws.length:=List.length_map ..
 refine bz (aS (aP hp) ?_)
 generalize hV:ws.map (·.2)=vs at *
 unfold c7
 cases e:fN (vs.take 4) with
 | some j =>
  have a:=oS (vs.take 4)
  rw [e] at a
  exact bo (t:=true) (k:=0) (uV decl_name% decl_name% (uI a)) rfl (bf (aX (zO (M:=kL) (r:=(oN (some j),0)) decl_name% decl_name% (by
   show aa (match fJ ((vs.take 4).map oI) with|some j=>Rs.ok (D.int (j:Nat),0) [jI ((vs.take 4).map oI)=true] | none=>Rs.st) _
   rw [uK,e]
   exact ⟨_,rfl,r9 _,True.intro⟩))))
 | none =>
  have a:=oS (vs.take 4)
  rw [e] at a
  refine aD (t:=false) (k:=0) (uV decl_name% decl_name% (uI a)) rfl ?_
  dsimp only
  by_cases h4:4 < vs.length
  ·rw [if_pos h4]
   exact bo (t:=true) (k:=0) (decl_name%.bl (decide_eq_true (by rw [hlen];omega))) rfl (bf (aX decl_name%))
  rw [if_neg h4]
  refine aD (t:=false) (k:=0) (decl_name%.bl (decide_eq_false (by rw [hlen];omega))) rfl ?_
  by_cases h5:vs.length < 4
  ·rw [if_pos h5]
   refine bo (t:=true) (k:=0) (decl_name%.bl (decide_eq_true (by rw [hlen];omega))) rfl (bf (aX (decl_name%.eq ?_)))
   show (D.int (((ba ws).length:Nat):Int),0)=(D.int ((vs.length:Nat):Int),0)
   rw [hlen,lv]
  rw [if_neg h5]
  refine aD (t:=false) (k:=0) (decl_name%.bl (decide_eq_false (by rw [hlen];omega))) rfl ?_
  obtain ⟨x,y,z,w,ev⟩:=lO e (by omega)
  rw [ev]
  show aa _ (Fl.rt (oN (pF x y z w)))
  refine cC (C:=bw [("_law_parts", .lst [.int x,.int y,.int z,.int w],true)]) (au rfl aT) ?_
  refine jg [.int 0,.int 1,.int 2,.int 3] decl_name% ?_
  refine ⟨_,rfl,.inl (bM ((Sub.refl _).put _ _) (aD (decl_name%) (de rfl) be) fun ρ s'=>?_)⟩
  have s:=(show Sub (bw [("_law_parts", .lst [.int x,.int y,.int z,.int w],true)]) ρ from au s'.get aT)
  clear s'
  unfold pF
  by_cases c1:y.fmod 2=x.fmod 2
  ·rw [if_neg (fun q=>q c1)]
   refine ⟨_,rfl,.inl (bM (s.put _ _) (aD decl_name% (de c1) be) fun ρ s'=>?_)⟩
   replace s:=(show Sub (bw [("_law_parts", .lst [.int x,.int y,.int z,.int w],true)]) ρ from au s'.get aT)
   clear s'
   by_cases c2:z.fmod 2=x.fmod 2
   ·rw [if_neg (fun q=>q c2)]
    refine ⟨_,rfl,.inl (bM (s.put _ _) (aD decl_name% (de c2) be) fun ρ s'=>?_)⟩
    replace s:=(show Sub (bw [("_law_parts", .lst [.int x,.int y,.int z,.int w],true)]) ρ from au s'.get aT)
    clear s'
    by_cases c3:w.fmod 2=x.fmod 2
    ·rw [if_neg (fun q=>q c3)]
     refine ⟨_,rfl,.inl (bM (s.put _ _) (aD decl_name% (de c3) be) fun ρ s'=>?_)⟩
     exact cC (C:=bw []) aT (bf (aX decl_name%))
    ·rw [if_pos c3]
     exact ⟨_,rfl,.inr (cC (s.put _ _) (bo decl_name% (iL c3) (bf (aX decl_name%))))⟩
   ·rw [if_pos c2]
    exact ⟨_,rfl,.inr (cC (s.put _ _) (bo decl_name% (iL c2) (bf (aX decl_name%))))⟩
  ·rw [if_pos c1]
   exact ⟨_,rfl,.inr (cC (s.put _ _) (bo decl_name% (iL c1) (bf (aX decl_name%))))⟩
def gr:Fx:=Tb [] [("MOST_FIGURES", .int 40)] BL IL ML TL bx
def b0:List D->Rs D:=ci gr (ac (ai 22)) ["number"] (ak (ai 22))
theorem ER {n:Int} (h:n.natAbs < 10 ^ 40):aa (b0 [.int n]) (.bl false):=by
 have hl:=eg (m:=n.natAbs) (k:=40) (by decide) h
 have e:Str.ofString (toString (if n < 0 then -n else n))=sN (bt n.natAbs):=by rw [fz];exact iC _
 have h1:(if n < 0 then -n else n).natAbs < 2 ^ 1900:=by rw [fz,Int.natAbs_natCast];exact B2 h
 have h2:(Str.ofString (toString (if n < 0 then -n else n))).length<=1048576:=by rw [e,aW];omega
 refine decl_name%.eq ?_
 show D.bl (decide ((40:Int) < ((Str.ofString (toString (if n < 0 then -n else n))).length:Nat)))=_
 rw [e,aW,decide_eq_false (by omega)]
theorem ES {n:Int} (h:n.natAbs < 10 ^ 42):aa (b0 [.int n]) (.bl (decide (10 ^ 40<=n.natAbs))):=by
 have hl:=eg (m:=n.natAbs) (k:=42) (by decide) h
 have e:Str.ofString (toString (if n < 0 then -n else n))=sN (bt n.natAbs):=by rw [fz];exact iC _
 have h1:(if n < 0 then -n else n).natAbs < 2 ^ 1900:=by rw [fz,Int.natAbs_natCast];exact oH (Nat.lt_trans h (by decide))
 have h2:(Str.ofString (toString (if n < 0 then -n else n))).length<=1048576:=by rw [e,aW];omega
 refine decl_name%.eq ?_
 show D.bl (decide ((40:Int) < ((Str.ofString (toString (if n < 0 then -n else n))).length:Nat)))=_
 rw [e,aW]
 congr 1
 exact decide_eq_decide.mpr (by rw [<- uX];omega)
def jF:Fx:=Tb [("has_too_many_figures", b0)] [] BL IL ML TL bx
def bQ:List D->Rs D:=ci jF (ac (ai 21)) ["number"] (ak (ai 21))
theorem C2 {m:Int} (h:(m*2).natAbs < 10 ^ 40):aa (bQ [.int m]) (.int (m*2)) :=
 bz (aD (bg (bS decl_name% (bS (aV decl_name% (ER h)) eZ))) rfl decl_name%)
theorem Iy {m:Int} (h:m.natAbs < 10 ^ 40):aa (bQ [.int m]) (oI (if (m*2).natAbs < 10 ^ 40 then some (m*2) else none)):=by
 by_cases h4:(m*2).natAbs < 10 ^ 40
 ·rw [if_pos h4];exact C2 h4
 ·rw [if_neg h4]
  have hm:=ES (n:=m*2) (by omega)
  rw [decide_eq_true (by omega)] at hm
  have m2:dv m 2:=fw (by decide)
  exact bz (bo (t:=true) (k:=0) (bg (bS decl_name% (cF (b:=true) (aV decl_name% hm) (fun z=>by cases z) fun _=>rfl))) rfl (bf (aX decl_name%)))
theorem C3:aa (bQ [.non]) .non:=bz (bo (t:=true) (k:=0) (bg (cF (b:=true) decl_name% (fun z=>by cases z) fun _=>rfl)) rfl (bf (aX decl_name%)))
def na:Fx:=Tb [] [] BL IL ML TL bx
def cz:List D->Rs D:=ci na (ac (ai 20)) ["number"] (ak (ai 20))
theorem BN {m:Int} (h:m.fmod 2≠0):aa (cz [.int m]) (.int m) :=
 bz (aD (bg (bS decl_name% (bS (decl_name%.bl ((cG _ _).trans (decide_eq_false h))) eZ))) rfl decl_name%)
theorem BO:aa (cz [.non]) .non:=bz (bo (t:=true) (k:=0) (bg (cF (b:=true) decl_name% (fun z=>by cases z) fun _=>rfl)) rfl (bf (aX decl_name%)))
theorem G3 {m:Int} (h:m.fmod 2=0):aa (cz [.int m]) .non :=
 bz (bo (t:=true) (k:=0) (bg (bS decl_name% (cF (b:=true) (decl_name%.bl ((cG _ _).trans (decide_eq_true h))) (fun z=>by cases z) fun _=>rfl))) rfl (bf (aX decl_name%)))
def iu:Fx:=Tb [] [("MOST_FIGURES", .int 40),("FIGURES", .str (Str.ofString "0123456789"))] BL IL ML TL bx
def dJ:List D->Rs D:=ci iu (ac (ai 24)) ["text"] (ak (ai 24))
theorem JI {l:List Nat} (hd:∀c∈l,48<=c/\c<=57) (h0:l≠[]) (h40:l.length<=40) (hh:l=[48]\/∃c r,l=c::r/\c≠48):aa (dJ [.str (sN l)]) (.bl true):=by
 have hz:(sN l).length<=1048576:=by rw [aW];omega
 have hl:(sN l).length=l.length:=aW l
 have h1:1<=l.length:=by
  cases l with
  | nil=>exact absurd rfl h0
  | cons a l=>simp
 have hit:items (.str (sN l))=some (l.map fun c=>D.str (sN [c])):=by
  show (if ((sN l).cps.all fun c=>decide (c < 128))=true then some (Sp.sgs (sN l)) else none)=_
  rw [if_pos (vw fun c hc=>by have:=hd c hc;omega),tY]
 have hs:aa (ar iu (Kh ((ak (ai 24)).getD 1 (.Pass ⟨0,0,0,0⟩))) false (ac (ai 24)) (b8 ["text"] [.str (sN l)])) (.bl (decide (l.head?=some 48)),0):=by
  refine decl_name%.bl ?_
  rw [show Str.ofString "0" = sN [48] by rw [dF];rfl]
  exact xq l 48
 refine bz (aD (bg (bS (decl_name%.bl (decide_eq_false (by rw [hl];omega))) (bS (decl_name%.bl (decide_eq_false (by rw [hl];omega))) eZ))) rfl (aD (t:=false) (k:=0) (bg (cn hs ?_ fun _=>rfl)) rfl ?_))
 ·intro ht
  have ht:=of_decide_eq_true ht
  have e:l=[48]:=by
   rcases hh with e | ⟨c,r,rfl,hc⟩
   ·exact e
   ·exfalso;apply hc;simpa using ht
  subst e
  exact cn (decl_name%.bl (decide_eq_false (by rw [hl];decide))) (fun z=>by cases z) fun _=>rfl
 ·refine bf (aX (fb (B:=gq) (bC (g9 (l:=l) (g:=fun c=>D.str (sN [c])) (f:=fun _=>D.bl true) decl_name% hit (by show _<=40000;omega) (.inr (Kb _)) fun c hc=>?_) bO) (Fi l)))
  have hc:=hd c hc
  exact ⟨_,rfl,decl_name%.bl (Cz hc.1 hc.2)⟩
theorem JJ {l:List Nat} (as:∀c∈l,c < 128) (hn:l.length<=45):aa (dJ [.str (sN l)]) (.bl (lP l)):=by
 have hz:(sN l).length<=1048576:=by rw [aW];omega
 have hl:(sN l).length=l.length:=aW l
 have hs:Txt.startswith (sN l) (Str.ofString "0")=decide (l.head?=some 48):=by
  rw [show Str.ofString "0" = sN [48] by rw [dF];rfl]
  exact xq l 48
 unfold lP
 by_cases h1:1<=l.length
 ·by_cases h2:l.length<=40
  ·rw [decide_eq_true h1,decide_eq_true h2]
   refine bz (aD (t:=false) (k:=0) (bg (bS (decl_name%.bl (decide_eq_false (by rw [hl];omega))) (bS (decl_name%.bl (decide_eq_false (by rw [hl];omega))) eZ))) rfl ?_)
   cases h3:(decide (l.head?=some 48)&&decide (1 < l.length)) with
   | true =>
    rw [Bool.and_eq_true] at h3
    exact bo (t:=true) (k:=0) (bg (fZ (decl_name%.bl (hs.trans h3.1)) (fZ (decl_name%.bl (decide_eq_true (by rw [hl];have:=of_decide_eq_true h3.2;omega))) uS))) rfl (bf (aX decl_name%))
   | false =>
    refine aD (t:=false) (k:=0) (bg ?_) rfl ?_
    ·refine cn (decl_name%.bl hs) (fun z=>cn (b:=false) (decl_name%.bl (decide_eq_false ?_)) (fun z=>by cases z) fun _=>rfl) fun _=>rfl
     rw [z,Bool.true_and] at h3
     have:=of_decide_eq_false h3
     rw [hl];omega
    ·show aa _ (Fl.rt (.bl (l.all dh)))
     refine bf (aX (fb (B:=gq) (bC (g9 (l:=l) (g:=fun c=>D.str (sN [c])) (f:=fun c=>D.bl (dh c)) decl_name% (xN as) (by show _<=40000;omega) (.inr (Nat.zero_le 1)) fun c hc=>?_) bO) (yg dh l)))
     exact ⟨_,rfl,decl_name%.bl (xW c (as c hc))⟩
  ·rw [decide_eq_false h2,Bool.and_false,Bool.false_and]
   exact bz (bo (t:=true) (k:=0) (bg (bS (decl_name%.bl (decide_eq_false (by rw [hl];omega))) (cF (b:=true) (decl_name%.bl (decide_eq_true (by rw [hl];omega))) (fun z=>by cases z) fun _=>rfl))) rfl (bf (aX decl_name%)))
 ·rw [decide_eq_false h1,Bool.false_and,Bool.false_and]
  exact bz (bo (t:=true) (k:=0) (bg (cF (b:=true) (decl_name%.bl (decide_eq_true (by rw [hl];omega))) (fun z=>by cases z) fun _=>rfl)) rfl (bf (aX decl_name%)))
def fS:Fx:=Tb [("are_figures", dJ)] [] BL IL ML TL bx
def cv:List D->Rs D:=ci fS (ac (ai 23)) ["word"] (ak (ai 23))
theorem nD {i:Int} (h:i.natAbs < 10 ^ 40):aa (cv [.str (sN (br i))]) (.int i):=by
 have hl:=nG h
 have h2:(sN (br i)).length<=1048576:=by rw [aW];omega
 have h3:(sN (br i)).length<=640:=by rw [aW];omega
 have ei:=kR (i:=i) (by omega)
 have hd:=eg (m:=i.natAbs) (k:=40) (by decide) h
 have hf:=JI (dj i.natAbs) (nu _) hd (Af _)
 have sk:PyData.strOk (sN (br i))=true:=jq (dZ i)
 have ek:dP (.str (sN (br i))) (.str (Str.ofString "-0"))=true:=eL sk (by decide +kernel)
 have st:Txt.startswith (sN (br i)) (Str.ofString "-")=decide (i < 0):=by
  rw [show Str.ofString "-" = sN [45] by rw [dF];rfl,xq]
  exact decide_eq_decide.mpr (gT i)
 have hfig:aa (ar fS (Dy ((ak (ai 23)).getD 0 (.Pass ⟨0,0,0,0⟩))) false (ac (ai 23)) (b8 ["word"] [.str (sN (br i))])) (.str (sN (bt i.natAbs)),0):=by
  refine xZ (decl_name%.bl st) (fun z=>?_) (fun z=>?_)
  ·have hi:=of_decide_eq_true z
   refine decl_name%.eq ?_
   show (D.str (Txt.slice (sN (br i)) (some 1) none),0)=_
   rw [show br i=45::bt i.natAbs from if_pos hi,x8]
  ·have hi:=of_decide_eq_false z
   refine decl_name%.eq ?_
   show (D.str (sN (br i)),0)=_
   rw [show br i=bt i.natAbs from if_neg hi]
 have hint:aa (fu [.str (sN (br i))]) (.int i,0):=by
  unfold fu;dsimp only;rw [ei]
  exact ⟨_,rfl,h3,True.intro⟩
 exact bz (aS (aP hfig) (aD (bg (bS (decl_name%.bl (by rw [eM];exact decide_eq_false (yB i))) (bS (xY (aV decl_name% hf) rfl) eZ))) rfl (bf (aX (fb (B:=fu) decl_name% hint)))))
theorem vE {l:List Nat} (as:∀c∈l,c < 128) (hn:l.length<=45) (h:(decide (l=[45,48]) || !lP (db l))=true):aa (cv [.str (sN l)]) .non:=by
 have h2:(sN l).length<=1048576:=by rw [aW];omega
 have hf:=JJ (kB as) (by have:=tM l;omega)
 have ek:dP (.str (sN l)) (.str (Str.ofString "-0"))=true:=eL (jq as) (by decide +kernel)
 have ed:eD (.str (sN l)) (.str (Str.ofString "-0"))=decide (l=[45,48]):=by
  rw [eM,show Str.ofString "-0" = sN [45,48] by rw [dF];rfl]
  exact decide_eq_decide.mpr ⟨gA,fun z=>by rw [z]⟩
 have st:Txt.startswith (sN l) (Str.ofString "-")=decide (l.head?=some 45):=by
  rw [show Str.ofString "-" = sN [45] by rw [dF];rfl,xq]
 have hfig:aa (ar fS (Dy ((ak (ai 23)).getD 0 (.Pass ⟨0,0,0,0⟩))) false (ac (ai 23)) (b8 ["word"] [.str (sN l)])) (.str (sN (db l)),0):=by
  refine xZ (decl_name%.bl st) (fun z=>?_) (fun z=>?_)
  ·have hi:=of_decide_eq_true z
   refine decl_name%.eq ?_
   show (D.str (Txt.slice (sN l) (some 1) none),0)=_
   rw [show db l=l.tail from if_pos hi,uY hi]
  ·have hi:=of_decide_eq_false z
   refine decl_name%.eq ?_
   show (D.str (sN l),0)=_
   rw [show db l=l from if_neg hi]
 refine bz (aS (aP hfig) (bo (t:=true) (k:=0) (bg ?_) rfl (bf (aX decl_name%))))
 by_cases h0:l=[45,48]
 ·exact cF (b:=true) (decl_name%.bl (ed.trans (decide_eq_true h0))) (fun z=>by cases z) fun _=>rfl
 ·rw [decide_eq_false h0,Bool.false_or] at h
  have h:lP (db l)=false:=by simpa using h
  rw [h] at hf
  exact bS (decl_name%.bl (ed.trans (decide_eq_false h0))) (cF (b:=true) (xY (aV decl_name% hf) rfl) (fun z=>by cases z) fun _=>rfl)
theorem xi {i:Int} (h:10 ^ 40<=i.natAbs) (h2:i.natAbs < ir):aa (cv [.str (sN (br i))]) .non:=by
 refine vE (dZ i) (by have:=dS h2;omega) ?_
 rw [kA]
 have:=si h
 unfold lP
 rw [decide_eq_false (show ¬ (bt i.natAbs).length<=40 by omega)]
 simp
def pR:Fx:=Tb [("doubled_or_none", bQ),("odd_or_none", cz),("whole_read", cv)] [] BL IL ML TL bx
def cZ:List D->Rs D:=ci pR (ac (ai 19)) ["word"] (ak (ai 19))
theorem rC {p:Int} (h:p.natAbs < 10 ^ 40):aa (cZ [.str (sN (cq p))]) (.int p):=by
 have hl:(sN (cq p)).length<=1048576:=by rw [aW];have:=iB h;omega
 have e2:Str.ofString "/2" = sN [47,50]:=by rw [dF];rfl
 by_cases hp:p.fmod 2=0
 ·have ew:cq p=br (p.fdiv 2):=if_pos hp
  have hh:(p.fdiv 2).natAbs < 10 ^ 40:=Nat.lt_of_le_of_lt (lQ p (by decide)) h
  have e:p.fdiv 2*2=p:=by have:=Int.mul_fdiv_add_fmod p 2;omega
  have hd:=C2 (m:=p.fdiv 2) (by rw [e];exact h)
  rw [e] at hd
  have hw:=nD hh
  rw [<- ew] at hw
  exact bz (aD decl_name% (by rw [e2,ew];exact wC fun z=>by rcases eG _ 47 z with q|q <;> omega) (bf (aX (aV (bC (aV decl_name% hw) bO) hd))))
 ·have ew:cq p=br p++[47,50]:=if_neg hp
  have hw:=nD h
  exact bz (bo decl_name% (by rw [e2,ew];exact wB _) (bf (aX (aV (bC (aV (bC (decl_name%.eq (by show (D.str (Txt.slice (sN (cq p)) none (some (-2))),0)=(D.str (sN (br p)),0);rw [ew,o7])) bO) hw) bO) (BN hp)))))
theorem v4 {w:List Nat} (hz:w.length<=45) (he:Txt.endswith (sN w) (Str.ofString "/2")=false) {x:D} {v:D} (h1:aa (cv [.str (sN w)]) x) (h2:aa (bQ [x]) v):aa (cZ [.str (sN w)]) v:=by
 have hl:(sN w).length<=1048576:=by rw [aW];omega
 exact bz (aD (t:=false) (k:=0) (decl_name%.bl he) rfl (bf (aX (aV (bC (aV decl_name% h1) bO) h2))))
theorem rD {l:List Nat} (hz:l.length<=43) {x:D} {v:D} (h1:aa (cv [.str (sN l)]) x) (h2:aa (cz [x]) v):aa (cZ [.str (sN (l++[47,50]))]) v:=by
 have hl:(sN (l++[47,50])).length<=1048576:=by rw [aW,List.length_append];show _+2<=_;omega
 have e2:Str.ofString "/2" = sN [47,50]:=by rw [dF];rfl
 exact bz (bo (t:=true) (k:=0) (decl_name%.bl (by rw [e2];exact wB _)) rfl (bf (aX (aV (bC (aV (bC (decl_name%.eq (by show (D.str (Txt.slice (sN (l++[47,50])) none (some (-2))),0)=(D.str (sN l),0);rw [o7])) bO) h1) bO) h2))))
theorem Bm {w:List Nat} {v:Option Int} (h:Wc w v):aa (cZ [.str (sN w)]) (oI v):=by
 have hz:=qV h
 have e2:Str.ofString "/2" = sN [47,50]:=by rw [dF];rfl
 have nof:∀i:Int,Txt.endswith (sN (br i)) (Str.ofString "/2")=false:=fun i=>by rw [e2];exact wC fun z=>by rcases eG _ 47 z with q|q <;> omega
 cases h with
 | tx n h =>
  rcases Nat.lt_or_ge n.natAbs (10 ^ 40) with hn|hn
  ·exact v4 hz (nof n) (nD hn) (Iy hn)
  ·rw [if_neg (by omega)]
   exact v4 hz (nof n) (xi hn h) C3
 | hf m h ho =>
  have:=dS h
  rcases Nat.lt_or_ge m.natAbs (10 ^ 40) with hn|hn
  ·rw [if_pos hn]
   exact rD (by omega) (nD hn) (BN ho)
  ·rw [if_neg (by omega)]
   exact rD (by omega) (xi hn h) BO
 | he m h ho =>
  have:=dS (yf h)
  exact rD (by omega) (nD h) (G3 ho)
 | bd _ h =>
  have b:=fR (List.mem_append_left i6 h)
  exact v4 hz (by rw [e2];exact vq _ h) (vE (fun c hc=>(b.1 c hc).2) hz (qN _ (List.mem_append_left _ h))) C3
 | bh l h =>
  have b:=fR (List.mem_append_right hZ h)
  exact rD (by omega) (vE (fun c hc=>(b.1 c hc).2) (by omega) (qN _ (List.mem_append_right _ h))) BO
def dm:Fx:=Tb [("part_read", cZ)] [] BL IL ML TL bx
noncomputable def i9:Str->Option (List D->Option Xs):=fun g=>([]:List (Str×(List D->Option Xs))).lookup g
def dr:List D->Rs D:=ci dm (ac (ai 18)) ["words"] (ak (ai 18))
theorem GH {q:Qd} (h:uh q):aa (dr [.lst ((jG q).map fun w=>D.str (sN w))]) (.lst [.int q.1,.int q.2.1,.int q.2.2.1,.int q.2.2.2]):=by
 obtain ⟨h1,h2,h3,h4⟩:=h
 have p1:=rC h1;have p2:=rC h2;have p3:=rC h3;have p4:=rC h4
 show aa (dr [.lst [.str (sN (cq q.1)),.str (sN (cq q.2.1)),.str (sN (cq q.2.2.1)),.str (sN (cq q.2.2.2))]]) _
 refine bz (dD 1 decl_name% (jg [.tup [.int 0,.str (sN (cq q.1))],.tup [.int 1,.str (sN (cq q.2.1))],.tup [.int 2,.str (sN (cq q.2.2.1))],.tup [.int 3,.str (sN (cq q.2.2.2))]] decl_name% ?_))
 refine qA (C:=bw [("parts", .lst [],true)]) (P:=fun ρ=>qU _ _ _ _ _ _ _ ρ) (au rfl aT) fun ρ s=>?_
 refine ⟨_,rfl,.inl (bM ((s.put _ _).put _ _) (aS (aP (aV decl_name% p1)) (aD decl_name% rfl decl_name%)) fun ρ s'=>?_)⟩
 replace s:=(show Sub (bw [("parts", .lst [.int q.1],true)]) ρ from au s'.get aT)
 clear s'
 refine ⟨_,rfl,.inl (bM ((s.put _ _).put _ _) (aS (aP (aV decl_name% p2)) (aD decl_name% rfl decl_name%)) fun ρ s'=>?_)⟩
 replace s:=(show Sub (bw [("parts", .lst [.int q.1,.int q.2.1],true)]) ρ from au s'.get aT)
 clear s'
 refine ⟨_,rfl,.inl (bM ((s.put _ _).put _ _) (aS (aP (aV decl_name% p3)) (aD decl_name% rfl decl_name%)) fun ρ s'=>?_)⟩
 replace s:=(show Sub (bw [("parts", .lst [.int q.1,.int q.2.1,.int q.2.2.1],true)]) ρ from au s'.get aT)
 clear s'
 refine ⟨_,rfl,.inl (bM ((s.put _ _).put _ _) (aS (aP (aV decl_name% p4)) (aD decl_name% rfl decl_name%)) fun ρ s'=>?_)⟩
 exact cC (show Sub (bw [("parts", .lst [.int q.1,.int q.2.1,.int q.2.2.1,.int q.2.2.2],true)]) ρ from au s'.get aT) decl_name%
abbrev xh (i:Int):Xs:=(Str.ofString "NoText", Str.ofString "SpaceError", [(Str.ofString "at", i)])
def fC (d:D):Option Int:=match dR [d] with
 | .ok (.int i) _=>some i
 | _=>none
theorem DU {w:List Nat} {v:Option Int} (h:Wc w v):fC (.str (sN w))=v:=by
 obtain ⟨l,e,_⟩:=wo h
 unfold fC
 rw [e]
 cases v <;> rfl
theorem ng:∀{ws:List (List Nat×Option Int)},(∀p∈ws,Wc p.1 p.2)->(ba ws).map fC=ws.map (·.2)
 | [],_=>rfl
 | p::ws,h=>by
  show fC (.str (sN p.1))::(ba ws).map fC=p.2::ws.map (·.2)
  rw [DU (h p List.mem_cons_self),ng fun q hq=>h q (List.mem_cons_of_mem _ hq)]
theorem qI:∀(n:Nat) (a b:List D),dg n (a++b)=dg n a++dg (n+a.length) b
 | n,[],b=>rfl
 | n,x::a,b=>by
  show D.tup [.int (n:Nat),x]::dg (n+1) (a++b)=_::(dg (n+1) a++_)
  rw [qI (n+1) a b,List.length_cons,show n+1+a.length=n+(a.length+1) by omega]
theorem Cr {Φ:Fx} {sc:Scope} {tg:Expr} {body ss:List Stmt} {r:D} {ds:List D} {ρ ρ':ae} (h:eF Φ sc tg body ds ρ ρ') (k:aa (ay Φ ss sc ρ') (.rt r)):qU Φ sc tg body ss r ds ρ:=by
 induction h with
 | nil=>exact k
 | cons hb h _ ih=>exact ⟨_,hb,.inl ⟨_,h,ih k⟩⟩
theorem rH:∀(l:List (List Nat×Option Int)) (is acc:List Int) (n:Nat) (ρ:ae),(∀p∈l,Wc p.1 p.2)->l.map (·.2)=is.map some->acc.length+l.length<=30->Sub (bw [("parts", .lst (acc.map D.int),true)]) ρ->∃ρ',eF dm (ac (ai 18)) (EW ((ak (ai 18)).getD 1 (.Pass ⟨0,0,0,0⟩))) (jx ((ak (ai 18)).getD 1 (.Pass ⟨0,0,0,0⟩))) (dg n (ba l)) ρ ρ'/\Sub (bw [("parts", .lst ((acc++is).map D.int),true)]) ρ'
 | [],is,acc,n,ρ,_,e,_,s=>by
  cases is with
  | nil=>rw [List.append_nil];exact ⟨ρ,eF.nil,s⟩
  | cons i is=>cases e
 | p::l,[],acc,n,ρ,_,e,_,s=>by cases e
 | p::l,i::is,acc,n,ρ,hw,e,hl,s=>by
  rw [List.map_cons,List.map_cons] at e
  injection e with e1 e2
  have e1:p.2=some i:=e1
  have hp:=Bm (hw p List.mem_cons_self)
  rw [e1] at hp
  have ll:ax (acc.map D.int)=true:=fj (fun _=>rfl) _
  have la:(acc.map D.int).length < bN:=by rw [List.length_map];show _ < 40000;omega
  obtain ⟨ρ2,h2,s2⟩:∃ρ2,aa (ay dm (jx ((ak (ai 18)).getD 1 (.Pass ⟨0,0,0,0⟩))) (ac (ai 18)) (bn (bn ρ (Str.ofString "place") (.int (n:Nat),false)) (Str.ofString "word") (.str (sN p.1),false))) (.nx ρ2)/\Sub (bw [("parts", .lst ((acc++[i]).map D.int),true)]) ρ2:=bM ((s.put (Str.ofString "place") (.int (n:Nat),false)).put (Str.ofString "word") (.str (sN p.1),false)) (aS (aP (d:=.int i) (aV decl_name% hp)) (aD (t:=false) (k:=0) decl_name% rfl decl_name%)) fun ρ' s'=>(by rw [List.map_append];exact au s'.get aT)
  obtain ⟨ρ3,h3,s3⟩:=rH l is (acc++[i]) (n+1) ρ2 (fun q hq=>hw q (List.mem_cons_of_mem _ hq)) e2 (by rw [List.length_append];rw [List.length_cons] at hl;show _+1+_<=30;omega) s2
  rw [List.append_assoc] at s3
  exact ⟨ρ3,eF.cons rfl h2 h3,s3⟩
theorem wb {ws:List (List Nat×Option Int)} {is:List Int} (hw:∀p∈ws,Wc p.1 p.2) (e:ws.map (·.2)=is.map some) (hl:ws.length<=20):aa (dr [.lst (ba ws)]) (.lst (is.map D.int)):=by
 have ll:=eS ws
 have la:(ba ws).length<=bN:=by rw [List.length_map];show _<=40000;omega
 obtain ⟨ρ',h1,s1⟩:=rH ws is [] 0 (demote (xU ((ak (ai 18)).getD 1 (.Pass ⟨0,0,0,0⟩))) (bn (b8 ["words"] [.lst (ba ws)]) "parts" (.lst [],true))) hw e (by simp;omega) (au rfl aT)
 exact bz (dD 1 decl_name% (jg (dg 0 (ba ws)) decl_name% (Cr h1 (cC s1 decl_name%))))
def Kg:List D->Option Xs:=fun ds=>match ds with
 | [.lst l]=>(fN (l.map fC)).map fun j=>xh (j:Nat)
 | _=>none
noncomputable def dk:List D->Option Xs:=mT Kg fun ds r=>ds.length=1/\r.2.2≠[]/\dA dm i9 EX (ac (ai 18)) (ak (ai 18)) (b8 ["words"] ds) r
theorem lr:∀ds r,dk ds=some r->ds.length=1/\r.2.2≠[]/\dA dm i9 EX (ac (ai 18)) (ak (ai 18)) (b8 ["words"] ds) r:=fun ds r h=>qM h
theorem JL {ws:List (List Nat×Option Int)} {j:Nat} (hw:∀p∈ws,Wc p.1 p.2) (hl:ws.length<=20) (e:fN (ws.map (·.2))=some j):dk [.lst (ba ws)]=some (xh (j:Nat)):=by
 have ll:=eS ws
 have la:(ba ws).length<=bN:=by rw [List.length_map];show _<=40000;omega
 refine u7 (by show (fN ((ba ws).map fC)).map _=_;rw [ng hw,e];rfl) ⟨rfl,(fun z=>by cases z),?_⟩
 obtain ⟨jl,ja,is,jt⟩:=xX e
 rw [List.length_map] at jl
 have hp:ws[j].2=none:=by
  rw [List.getElem?_map,List.getElem?_eq_getElem jl] at ja
  injection ja
 have ew:ws=ws.take j++ws[j]::ws.drop (j+1):=by rw [<- List.drop_eq_getElem_cons jl,List.take_append_drop]
 have lt:(ws.take j).length=j:=by rw [List.length_take];omega
 have hd:items (.lst (dg 0 (ba ws)))=some (dg 0 (ba (ws.take j))++D.tup [.int (j:Nat),.str (sN ws[j].1)]::dg (j+1) (ba (ws.drop (j+1)))):=by
  show some (dg 0 (ba ws))=_
  conv=>lhs;rw [ew]
  rw [show ba (ws.take j++ws[j]::ws.drop (j+1))=ba (ws.take j)++(.str (sN ws[j].1)::ba (ws.drop (j+1))) from List.map_append,qI,List.length_map,lt,Nat.zero_add]
  rfl
 have hpr:=Bm (hw ws[j] (List.getElem_mem jl))
 rw [hp] at hpr
 obtain ⟨ρ',h1,s1⟩:=rH (ws.take j) is [] 0 (demote (xU ((ak (ai 18)).getD 1 (.Pass ⟨0,0,0,0⟩))) (bn (b8 ["words"] [.lst (ba ws)]) "parts" (.lst [],true))) (fun p h=>hw p (List.mem_of_mem_take h)) (by rw [List.map_take];exact jt) (by rw [lt];simp;omega) (au rfl aT)
 have s2:=(s1.put (Str.ofString "place") (.int (j:Nat),false)).put (Str.ofString "word") (.str (sN ws[j].1),false)
 have s3:=s2.put (Str.ofString "part") (.non,true)
 refine iE 1 decl_name% (dA.forR (dg 0 (ba (ws.take j))) decl_name% hd (Nat.le_refl 1) rfl h1 rfl (Rz.step (aP (d:=.non) (aV (js decl_name% s2) hpr)) (Rz.iff (t:=true) (k:=0) (uT s3 decl_name%) (Rz.raiseF (i:=(j:Nat)) (k:=0) (uT s3 decl_name%) ?_ rfl (by decide +kernel) rfl))))
 exact Nat.lt_of_le_of_lt (show (j:Int).natAbs<=20 by omega) (Nat.lt_of_lt_of_le (show 20 < 2 ^ 7 by decide) (Nat.pow_le_pow_right (by decide) (by decide)))
def eQ:Fx:=Tb [("parts_read", dr)] [] BL IL ML TL bx
noncomputable def jM:Str->Option (List D->Option Xs):=fun g=>([("parts_read", dk)]:List (Str×(List D->Option Xs))).lookup g
def ck:List D->Rs D:=ci eQ (ac (ai 17)) ["text"] (ak (ai 17))
def G2 (q:Qd):Prop:=q.2.1.fmod 2=q.1.fmod 2/\q.2.2.1.fmod 2=q.1.fmod 2/\q.2.2.2.fmod 2=q.1.fmod 2
theorem Iw {q:Qd} (h:uh q) (hp:G2 q):aa (ck [.str (gJ q)]) (dq q):=by
 have hs:=GH h
 have hj:=Ce (iB h.1) (iB h.2.1) (iB h.2.2.1) (iB h.2.2.2)
 have hz:(gJ q).length<=1048576:=by rw [sh,aW];exact Nat.le_trans hj (by decide)
 have hb:((Str.ofString " ").length==0)=false:=by decide +kernel
 have hw:aa (iO (.str (gJ q)) [.str (Str.ofString " ")]) (.lst ((jG q).map fun w=>D.str (sN w)),0):=by
  have e:((jG q).map fun w=>D.str (sN w))=(Txt.split (gJ q) (Str.ofString " ")).map D.str:=by rw [wA,List.map_map];rfl
  rw [e]
  exact ⟨_,rfl,hb,hz,True.intro⟩
 obtain ⟨e2,e3,e4⟩:=hp
 have n1:(!eD (.int (q.1.fmod 2)) (.int (q.1.fmod 2)))=false:=de rfl
 refine bz (aS (aP (kY decl_name% decl_name% hw)) (aS (aP (aV (bC (g8 decl_name% decl_name% decl_name% (r:=(.lst ((jG q).map fun w=>D.str (sN w)),0)) decl_name%) bO) hs)) (aD decl_name% rfl (jg [.tup [.int 0,.int q.1],.tup [.int 1,.int q.2.1],.tup [.int 2,.int q.2.2.1],.tup [.int 3,.int q.2.2.2]] decl_name% ?_))))
 refine qA (C:=bw [("parts", .lst [.int q.1,.int q.2.1,.int q.2.2.1,.int q.2.2.2],false)]) (P:=fun ρ=>qU _ _ _ _ _ _ _ ρ) (au rfl aT) fun ρ s=>?_
 refine ⟨_,rfl,.inl (bM ((s.put _ _).put _ _) (aD decl_name% (de rfl) be) fun ρ s'=>?_)⟩
 replace s:=(show Sub (bw [("parts", .lst [.int q.1,.int q.2.1,.int q.2.2.1,.int q.2.2.2],false)]) ρ from au s'.get aT)
 clear s'
 refine ⟨_,rfl,.inl (bM ((s.put _ _).put _ _) (aD decl_name% (de e2) be) fun ρ s'=>?_)⟩
 replace s:=(show Sub (bw [("parts", .lst [.int q.1,.int q.2.1,.int q.2.2.1,.int q.2.2.2],false)]) ρ from au s'.get aT)
 clear s'
 refine ⟨_,rfl,.inl (bM ((s.put _ _).put _ _) (aD decl_name% (de e3) be) fun ρ s'=>?_)⟩
 replace s:=(show Sub (bw [("parts", .lst [.int q.1,.int q.2.1,.int q.2.2.1,.int q.2.2.2],false)]) ρ from au s'.get aT)
 clear s'
 refine ⟨_,rfl,.inl (bM ((s.put _ _).put _ _) (aD decl_name% (de e4) be) fun ρ s'=>?_)⟩
 exact cC (show Sub (bw [("parts", .lst [.int q.1,.int q.2.1,.int q.2.2.1,.int q.2.2.2],false)]) ρ from au s'.get aT) decl_name%
theorem qG:∀l:List (List Nat),(∀w∈l,w.length<=45)->(l.flatMap fun p=>32::p).length<=46*l.length
 | [],_=>by simp
 | w::l,h=>by
  have:=qG l fun v hv=>h v (List.mem_cons_of_mem _ hv)
  have:=h w List.mem_cons_self
  rw [List.flatMap_cons,List.length_append,List.length_cons,List.length_cons]
  omega
theorem EJ:∀{l:List (List Nat)},(∀w∈l,w.length<=45)->(jn l).length<=46*l.length
 | [],_=>by simp [jn]
 | w::l,h=>by
  have:=qG l fun v hv=>h v (List.mem_cons_of_mem _ hv)
  have:=h w List.mem_cons_self
  unfold jn
  rw [List.length_append,List.length_cons]
  omega
abbrev tN (ws:List (List Nat×Option Int)):Str:=sN (jn (ws.map (·.1)))
theorem rj {ws:List (List Nat×Option Int)} (hw:∀p∈ws,Wc p.1 p.2) (h0:ws≠[]):Txt.split (tN ws) (Str.ofString " ")=(ws.map (·.1)).map sN:=by
 rw [show Str.ofString " " = sN [32] by rw [dF];rfl]
 refine nR (by simpa using h0) fun w h=>?_
 obtain ⟨p,hp,rfl⟩:=List.mem_map.mp h
 exact fun z=>(DT (hw p hp) 32 z).1 rfl
theorem rc {ws:List (List Nat×Option Int)} (hw:∀p∈ws,Wc p.1 p.2) (hl:ws.length<=20):(tN ws).length<=920:=by
 rw [aW]
 have:=EJ (l:=ws.map (·.1)) fun w h=>by
  obtain ⟨p,hp,rfl⟩:=List.mem_map.mp h
  exact qV (hw p hp)
 rw [List.length_map] at this
 omega
theorem xt {ws:List (List Nat×Option Int)} (hw:∀p∈ws,Wc p.1 p.2) (h0:ws≠[]) (hl:ws.length<=20):aa (iO (.str (tN ws)) [.str (Str.ofString " ")]) (.lst (ba ws),0):=by
 have e:ba ws=(Txt.split (tN ws) (Str.ofString " ")).map D.str:=by rw [rj hw h0,List.map_map,List.map_map];rfl
 rw [e]
 exact ⟨_,rfl,by decide +kernel,by have:=rc hw hl;omega,True.intro⟩
theorem xw (ws:List (List Nat×Option Int)):aa (bx (.lst (ba ws)) none (some 4)) (.lst (ba (ws.take 4)),0):=aa.eq ⟨_,rfl,eS ws,True.intro⟩ (by rw [show fO (ba ws) none (some 4)=ba (ws.take 4) from x9 ws 4])
theorem Ix {ws:List (List Nat×Option Int)} (hw:∀p∈ws,Wc p.1 p.2) (e:c7 (ws.map (·.2))=none):∃q:Qd,uh q/\ws.map (·.2)=[some q.1,some q.2.1,some q.2.2.1,some q.2.2.2]/\tN ws=gJ q/\aa (ck [.str (tN ws)]) (dq q):=by
 unfold c7 at e
 cases e4:fN ((ws.map (·.2)).take 4) with
 | some j=>rw [e4] at e;cases e
 | none =>
  rw [e4] at e
  dsimp only at e
  by_cases h4:4 < (ws.map (·.2)).length
  ·rw [if_pos h4] at e;cases e
  rw [if_neg h4] at e
  by_cases h5:(ws.map (·.2)).length < 4
  ·rw [if_pos h5] at e;cases e
  rw [if_neg h5] at e
  obtain ⟨a,b,c,d,ev⟩:=lO e4 (by omega)
  rw [ev] at e
  have e:pF a b c d=none:=e
  unfold pF at e
  by_cases c1:b.fmod 2=a.fmod 2
  ·rw [if_neg (fun q=>q c1)] at e
   by_cases c2:c.fmod 2=a.fmod 2
   ·rw [if_neg (fun q=>q c2)] at e
    by_cases c3:d.fmod 2=a.fmod 2
    ·have hws:ws.map (·.1)=jG (a,b,c,d)/\uh (a,b,c,d):=by
      obtain ⟨p1,p2,p3,p4,rfl⟩:=zK ev
      obtain ⟨x1,y1⟩:=nc (hw (p1,some a) (by simp))
      obtain ⟨x2,y2⟩:=nc (hw (p2,some b) (by simp))
      obtain ⟨x3,y3⟩:=nc (hw (p3,some c) (by simp))
      obtain ⟨x4,y4⟩:=nc (hw (p4,some d) (by simp))
      exact ⟨by show [p1,p2,p3,p4]=[_,_,_,_];rw [show p1=cq a from x1,show p2=cq b from x2,show p3=cq c from x3,show p4=cq d from x4],y1,y2,y3,y4⟩
     have et:tN ws=gJ (a,b,c,d):=by rw [sh,<- hws.1]
     exact ⟨(a,b,c,d),hws.2,ev,et,by rw [et];exact Iw hws.2 ⟨c1,c2,c3⟩⟩
    ·rw [if_pos c3] at e;cases e
   ·rw [if_pos c2] at e;cases e
  ·rw [if_pos c1] at e;cases e
def CB:List D->Option Xs:=fun ds=>match ds with
 | [.str t]=>(c7 ((Txt.split t (Str.ofString " ")).map fun w=>fC (.str w))).map fun j=>xh (j:Nat)
 | _=>none
noncomputable def bZ:List D->Option Xs:=mT CB fun ds r=>ds.length=1/\r.2.2≠[]/\dA eQ jM EX (ac (ai 17)) (ak (ai 17)) (b8 ["text"] ds) r
theorem md:∀ds r,bZ ds=some r->ds.length=1/\r.2.2≠[]/\dA eQ jM EX (ac (ai 17)) (ak (ai 17)) (b8 ["text"] ds) r:=fun ds r h=>qM h
theorem uM {j:Int} (h:j.natAbs<=20):j.natAbs < 2 ^ 1900:=Nat.lt_of_le_of_lt h (Nat.lt_of_lt_of_le (show 20 < 2 ^ 7 by decide) (Nat.pow_le_pow_right (by decide) (by decide)))
theorem JM {ws:List (List Nat×Option Int)} {j:Nat} (hw:∀p∈ws,Wc p.1 p.2) (h0:ws≠[]) (hl:ws.length<=20) (e:c7 (ws.map (·.2))=some j):bZ [.str (tN ws)]=some (xh (j:Nat)):=by
 refine u7 (by
  show (c7 ((Txt.split (tN ws) (Str.ofString " ")).map fun w=>fC (.str w))).map _=_
  rw [rj hw h0,show ((ws.map (·.1)).map sN).map (fun w=>fC (.str w))=(ba ws).map fC by rw [List.map_map,List.map_map,List.map_map];rfl,ng hw,e];rfl) ⟨rfl,(fun z=>by cases z),?_⟩
 have hs:=xt hw h0 hl
 have ll:=eS ws
 have hlen:(((ba ws).length:Nat):Int)=(ws.length:Int):=by rw [List.length_map]
 have lv:(ws.map (·.2)).length=ws.length:=List.length_map ..
 refine dA.step (aP (d:=.lst (ba ws)) (kY decl_name% decl_name% hs)) ?_
 unfold c7 at e
 cases e4:fN ((ws.map (·.2)).take 4) with
 | some i =>
  rw [e4] at e
  cases e
  exact dA.rz (Rz.asn (G:=dk) (ds:=[.lst (ba (ws.take 4))]) (bC (g8 decl_name% decl_name% decl_name% (xw ws)) bO) rfl rfl (JL (fun p h=>hw p (List.mem_of_mem_take h)) (by rw [List.length_take];omega) (by rw [List.map_take];exact e4)))
 | none =>
  rw [e4] at e
  dsimp only at e
  obtain ⟨is,ei⟩:=oV e4
  have hp:=wb (ws:=ws.take 4) (is:=is) (fun p h=>hw p (List.mem_of_mem_take h)) (by rw [List.map_take];exact ei) (by rw [List.length_take];omega)
  refine dA.step (aP (d:=.lst (is.map D.int)) (aV (bC (g8 decl_name% decl_name% decl_name% (xw ws)) bO) hp)) ?_
  by_cases h4:4 < (ws.map (·.2)).length
  ·rw [if_pos h4] at e
   cases e
   exact dA.rz (Rz.iff (t:=true) (k:=0) (decl_name%.bl (iL (by rw [hlen];omega))) (Rz.raiseF (i:=4) (k:=0) (fb (B:=j8) decl_name% (EA (by rw [hlen];omega))) (uM (by decide)) rfl (by decide +kernel) rfl))
  rw [if_neg h4] at e
  by_cases h5:(ws.map (·.2)).length < 4
  ·rw [if_pos h5] at e
   cases e
   exact dA.rz (Rz.iff (t:=true) (k:=0) (decl_name%.bl (iL (by rw [hlen];omega))) (Rz.raiseF (i:=(((ws.map (·.2)).length:Nat):Int)) (k:=0) (fb (B:=j8) decl_name% (EB (by rw [hlen,lv]) (by rw [hlen];omega))) (uM (by omega)) rfl (by decide +kernel) rfl))
  rw [if_neg h5] at e
  obtain ⟨a,b,c,d,ev⟩:=lO e4 (by omega)
  rw [ev] at e ei
  have e:pF a b c d=some j:=e
  have es:is=[a,b,c,d]:=zC ei
  subst es
  have nof:aa (ay eQ (((ak (ai 17)).drop 2).take 1) (ac (ai 17)) (bn (bn (b8 ["text"] [.str (tN ws)]) "words" (.lst (ba ws),true)) "parts" (.lst [.int a,.int b,.int c,.int d],true))) (.nx _):=aD (t:=false) (k:=0) (decl_name%.bl (de (by rw [hlen];omega))) rfl be
  unfold pF at e
  by_cases c1:b.fmod 2=a.fmod 2
  ·rw [if_neg (fun q=>q c1)] at e
   by_cases c2:c.fmod 2=a.fmod 2
   ·rw [if_neg (fun q=>q c2)] at e
    by_cases c3:d.fmod 2=a.fmod 2
    ·rw [if_neg (fun q=>q c3)] at e;cases e
    ·rw [if_pos c3] at e
     cases e
     exact iE 1 nof (dA.forR [.tup [.int 0,.int a],.tup [.int 1,.int b],.tup [.int 2,.int c]] decl_name% rfl (Nat.le_refl 1) rfl (eF.cons rfl (aD (t:=false) (k:=0) (decl_name%.bl (de rfl)) rfl be) (eF.cons rfl (aD (t:=false) (k:=0) (decl_name%.bl (de c1)) rfl be) (eF.cons rfl (aD (t:=false) (k:=0) (decl_name%.bl (de c2)) rfl be) (eF.nil)))) rfl (Rz.iff (t:=true) (k:=0) (decl_name%.bl (iL c3)) (Rz.raiseF (i:=3) (k:=0) decl_name% (uM (by decide)) rfl (by decide +kernel) rfl)))
   ·rw [if_pos c2] at e
    cases e
    exact iE 1 nof (dA.forR [.tup [.int 0,.int a],.tup [.int 1,.int b]] decl_name% rfl (Nat.le_refl 1) rfl (eF.cons rfl (aD (t:=false) (k:=0) (decl_name%.bl (de rfl)) rfl be) (eF.cons rfl (aD (t:=false) (k:=0) (decl_name%.bl (de c1)) rfl be) (eF.nil))) rfl (Rz.iff (t:=true) (k:=0) (decl_name%.bl (iL c2)) (Rz.raiseF (i:=2) (k:=0) decl_name% (uM (by decide)) rfl (by decide +kernel) rfl)))
  ·rw [if_pos c1] at e
   cases e
   exact iE 1 nof (dA.forR [.tup [.int 0,.int a]] decl_name% rfl (Nat.le_refl 1) rfl (eF.cons rfl (aD (t:=false) (k:=0) (decl_name%.bl (de rfl)) rfl be) (eF.nil)) rfl (Rz.iff (t:=true) (k:=0) (decl_name%.bl (iL c1)) (Rz.raiseF (i:=1) (k:=0) decl_name% (uM (by decide)) rfl (by decide +kernel) rfl)))
def vz:Fx:=Tb [] [] BL IL ML TL bx
def gh:List D->Rs D:=ci vz (ac (ai 27)) ["_law_found"] (ak (ai 27))
def Ay:Fx:=Tb [("four_read", ck),("_law_whole", gh)] [("Divided", .xc "Divided" none),("NoLine", .xc "NoLine" none),("NoName", .xc "NoName" none),("NoOrder", .xc "NoOrder" none),("NoPrime", .xc "NoPrime" none),("NoSide", .xc "NoSide" none),("NoTurn", .xc "NoTurn" none),("Nought", .xc "Nought" none),("TooGreat", .xc "TooGreat" none),("NoText", .xc "NoText" none)] BL IL ML TL bx
noncomputable def qR:Str->Option (List D->Option Xs):=fun g=>([("four_read", bZ)]:List (Str×(List D->Option Xs))).lookup g
theorem yb {f:List D->Option Xs} {P:List D->Xs->Prop} {ds:List D} {r:Xs} (h:mT f P ds=some r):f ds=some r:=by
 unfold mT at h
 split at h
 ·exact h
 ·cases h
noncomputable def fA:List D->Rs D:=fun ds=>match ds with
 | [.str t]=>(match bZ [.str t] with|some (_,_,[(_,i)])=>.ok (.int i) [] | some _=>.st|none=>ck [.str t])
 | _=>.st
theorem sK:∀ds r,aa (fA ds) r->lu Ay qR EX (ac (ai 34)) ["_law_text"] ((ak (ai 34)).take 2) (AH ((ak (ai 34)).getD 2 (.Pass ⟨0,0,0,0⟩))) ((ak (ai 34)).drop 3) "SpaceError" "e" "_law_error" ds r:=by
 intro ds r h
 unfold fA at h
 split at h
 ·rename_i t
  split at h
  ·rename_i hz
   cases aB h
   have hf:=yb hz
   unfold CB at hf
   dsimp only at hf
   cases ed:c7 ((Txt.split t (Str.ofString " ")).map fun w=>fC (.str w)) with
   | none=>rw [ed] at hf;cases hf
   | some j =>
    rw [ed] at hf
    cases hf
    exact AF (o:=some "at") decl_name% (Rt.asn decl_name% rfl rfl hz) decl_name%
  ·exact (am h).elim
  ·exact AG decl_name% (aS (aP (d:=r) (aV decl_name% h)) be) (bo (t:=true) (k:=0) decl_name% rfl (bf (aX decl_name% xJ)))
 ·exact (am h).elim
theorem EC {ws:List (List Nat×Option Int)} {j:Nat} (hw:∀p∈ws,Wc p.1 p.2) (h0:ws≠[]) (hl:ws.length<=20) (e:c7 (ws.map (·.2))=some j):aa (fA [.str (tN ws)]) (.int (j:Nat)):=by
 refine ⟨[],?_,True.intro⟩
 show (match bZ [.str (tN ws)] with|some (_,_,[(_,i)])=>Rs.ok (D.int i) [] | some _=>Rs.st|none=>ck [.str (tN ws)])=_
 rw [JM hw h0 hl e]
theorem EE {ws:List (List Nat×Option Int)} {q:Qd} (hw:∀p∈ws,Wc p.1 p.2) (h0:ws≠[]) (e:c7 (ws.map (·.2))=none) (h:aa (ck [.str (tN ws)]) (dq q)):aa (fA [.str (tN ws)]) (dq q):=by
 have hz:bZ [.str (tN ws)]=none:=by
  cases ez:bZ [.str (tN ws)] with
  | none=>rfl
  | some r =>
   have hf:=yb ez
   have:CB [.str (tN ws)]=none:=by
    show (c7 ((Txt.split (tN ws) (Str.ofString " ")).map fun w=>fC (.str w))).map _=_
    rw [rj hw h0,show ((ws.map (·.1)).map sN).map (fun w=>fC (.str w))=(ba ws).map fC by rw [List.map_map,List.map_map,List.map_map];rfl,ng hw,e];rfl
   rw [this] at hf
   cases hf
 obtain ⟨l,h1,h2⟩:=h
 refine ⟨l,?_,h2⟩
 show (match bZ [.str (tN ws)] with|some (_,_,[(_,i)])=>Rs.ok (D.int i) [] | some _=>Rs.st|none=>ck [.str (tN ws)])=_
 rw [hz]
 exact h1
def wY:Fx:=Tb [] [] BL IL ML TL bx
def kg:List D->Rs D:=ci wY (ac (ai 31)) ["_law_cell_here"] (ak (ai 31))
theorem B3 (c:Int):∃n:Int,n.natAbs < 10 ^ 41/\aa (kg [.int c]) (.int n):=by
 obtain ⟨m,hm,hat⟩:=sF (f:=D.int) (l:=[10 ^ 38,10 ^ 39,10 ^ 40]) (i:=c.fmod 3) (Int.fmod_nonneg_of_pos _ (by decide)) (Int.fmod_lt_of_pos _ (by decide))
 have m0:0 < m/\m<=10 ^ 40:=by
  simp only [List.mem_cons,List.not_mem_nil,or_false] at hm
  rcases hm with rfl|rfl|rfl <;> decide
 have q0:=Int.fmod_nonneg_of_pos (c.fdiv 3) (show (0:Int) < 9 by decide)
 have q1:=Int.fmod_lt_of_pos (c.fdiv 3) (show (0:Int) < 9 by decide)
 have r0:=Int.fmod_nonneg_of_pos (c.fdiv 27*48271) m0.1
 have r1:=Int.fmod_lt_of_pos (c.fdiv 27*48271) m0.1
 have s0:=Int.fmod_nonneg_of_pos (c.fdiv 5) (show (0:Int) < 2 by decide)
 have s1:=Int.fmod_lt_of_pos (c.fdiv 5) (show (0:Int) < 2 by decide)
 have mn:m≠0:=by omega
 have o1:dv m (1+(c.fdiv 3).fmod 9):=fw (by omega)
 have o2:dv (c.fdiv 27) 48271:=fw (by decide)
 have o3:dv (m*(1+(c.fdiv 3).fmod 9)+(c.fdiv 27*48271).fmod m) (1 - 2*(c.fdiv 5).fmod 2):=fw (by omega)
 have o4:dv 2 ((c.fdiv 5).fmod 2):=qi (by decide)
 have b1:0<=m*(1+(c.fdiv 3).fmod 9):=Int.mul_nonneg (by omega) (by omega)
 have b2:m*(1+(c.fdiv 3).fmod 9)<=m*9:=Int.mul_le_mul_of_nonneg_left (by omega) (by omega)
 refine ⟨(m*(1+(c.fdiv 3).fmod 9)+(c.fdiv 27*48271).fmod m)*(1 - 2*(c.fdiv 5).fmod 2),?_,bz (aS (aP (d:=.int m) (nr (x:=.lst ([10 ^ 38,10 ^ 39,10 ^ 40].map D.int)) decl_name% decl_name% rfl hat)) decl_name%)⟩
 generalize m*(1+(c.fdiv 3).fmod 9)=t at *
 generalize (c.fdiv 27*48271).fmod m=u at *
 have e:(c.fdiv 5).fmod 2=0\/(c.fdiv 5).fmod 2=1:=by omega
 have k:(t+u).natAbs < 10 ^ 41:=by omega
 rcases e with e|e
 ·rw [e,show (1:Int) - 2*0=1 by decide,Int.mul_one];exact k
 ·rw [e,show (1:Int) - 2*1 = -1 by decide,Int.mul_neg_one,Int.natAbs_neg];exact k
def Ax:Fx:=Tb [] [] BL IL ML TL bx
def mh:List D->Rs D:=ci Ax (ac (ai 30)) ["_law_cell_here"] (ak (ai 30))
def oA:List String:=["", "-", "-0", "00", "01", "+1", "1.0", "1/1", "2/2", "0/2", "-4/2", "1/2/2", "/2", "1/", "a", "1/3"]
def oB:List String:=["--1", "1-", "03/2", "-01/2", "1/02", "- 1", "-/2", "--1/2", "1e3", "1_0", "0", "-1/2", "1/2", "7"]
abbrev sD (s:String):D:=.str (Str.ofString s)
def Wg (t:Str):Prop:=∃ws:List (List Nat×Option Int),ws≠[]/\ws.length<=2/\(∀p∈ws,Wc p.1 p.2)/\t=tN ws
theorem rO {w:List Nat} {v:Option Int} (h:Wc w v):Wg (sN w):=⟨[(w,v)],by simp,by simp,(fun p hp=>by rw [List.mem_singleton.mp hp];exact h),by show sN w=sN (w++[]);rw [List.append_nil]⟩
theorem bA {w:List Nat} {v:Option Int} {s:String} (h:Wc w v) (e:bE s=w):Wg (Str.ofString s):=by rw [uj,e];exact rO h
theorem Er:∀s∈oA++oB,Wg (Str.ofString s):=by
 intro s hs
 simp only [oA,oB,List.cons_append,List.nil_append,List.mem_cons,List.not_mem_nil,or_false] at hs
 rcases hs with rfl|rfl|rfl|rfl|rfl|rfl|rfl|rfl|rfl|rfl|rfl|rfl|rfl|rfl|rfl|rfl|rfl|rfl|rfl|rfl|rfl|rfl|rfl|rfl|rfl|rfl|rfl|rfl|rfl|rfl
 ·exact bA (Wc.bd (bE "") (by decide +kernel)) (by decide +kernel)
 ·exact bA (Wc.bd (bE "-") (by decide +kernel)) (by decide +kernel)
 ·exact bA (Wc.bd (bE "-0") (by decide +kernel)) (by decide +kernel)
 ·exact bA (Wc.bd (bE "00") (by decide +kernel)) (by decide +kernel)
 ·exact bA (Wc.bd (bE "01") (by decide +kernel)) (by decide +kernel)
 ·exact bA (Wc.bd (bE "+1") (by decide +kernel)) (by decide +kernel)
 ·exact bA (Wc.bd (bE "1.0") (by decide +kernel)) (by decide +kernel)
 ·exact bA (Wc.bd (bE "1/1") (by decide +kernel)) (by decide +kernel)
 ·exact bA (Wc.he (2) (by decide +kernel) (by decide +kernel)) (by decide +kernel)
 ·exact bA (Wc.he (0) (by decide +kernel) (by decide +kernel)) (by decide +kernel)
 ·exact bA (Wc.he (-4) (by decide +kernel) (by decide +kernel)) (by decide +kernel)
 ·exact bA (Wc.bh (bE "1/2") (by decide +kernel)) (by decide +kernel)
 ·exact bA (Wc.bh (bE "") (by decide +kernel)) (by decide +kernel)
 ·exact bA (Wc.bd (bE "1/") (by decide +kernel)) (by decide +kernel)
 ·exact bA (Wc.bd (bE "a") (by decide +kernel)) (by decide +kernel)
 ·exact bA (Wc.bd (bE "1/3") (by decide +kernel)) (by decide +kernel)
 ·exact bA (Wc.bd (bE "--1") (by decide +kernel)) (by decide +kernel)
 ·exact bA (Wc.bd (bE "1-") (by decide +kernel)) (by decide +kernel)
 ·exact bA (Wc.bh (bE "03") (by decide +kernel)) (by decide +kernel)
 ·exact bA (Wc.bh (bE "-01") (by decide +kernel)) (by decide +kernel)
 ·exact bA (Wc.bd (bE "1/02") (by decide +kernel)) (by decide +kernel)
 ·exact ⟨[(bE "-", none),(br 1,_)],by simp,by simp,(by intro p hp;rcases List.mem_cons.mp hp with rfl|hp;exact Wc.bd _ (by decide +kernel);rw [List.mem_singleton.mp hp];exact Wc.tx 1 (by decide +kernel)),by rw [uj];exact congrArg sN (by decide +kernel)⟩
 ·exact bA (Wc.bh (bE "-") (by decide +kernel)) (by decide +kernel)
 ·exact bA (Wc.bh (bE "--1") (by decide +kernel)) (by decide +kernel)
 ·exact bA (Wc.bd (bE "1e3") (by decide +kernel)) (by decide +kernel)
 ·exact bA (Wc.bd (bE "1_0") (by decide +kernel)) (by decide +kernel)
 ·exact bA (Wc.tx 0 (by decide +kernel)) (by decide +kernel)
 ·exact bA (Wc.hf (-1) (by decide +kernel) (by decide +kernel)) (by decide +kernel)
 ·exact bA (Wc.hf (1) (by decide +kernel) (by decide +kernel)) (by decide +kernel)
 ·exact bA (Wc.tx 7 (by decide +kernel)) (by decide +kernel)
theorem B4 (c:Int):∃t:Str,Wg t/\aa (mh [.int c]) (.str t):=by
 obtain ⟨s,hs,hat⟩:=sF (f:=sD) (l:=oA++oB) (i:=c.fmod 30) (Int.fmod_nonneg_of_pos _ (by decide)) (Int.fmod_lt_of_pos _ (by decide))
 refine ⟨Str.ofString s,Er s hs,bz (aS (aP (d:=.lst (oA.map sD)) decl_name%) (aS decl_name% (bf (aX (nr (x:=.lst ((oA++oB).map sD)) decl_name% decl_name% rfl hat)))))⟩
def pw:Fx:=Tb [("_law_long", kg),("_law_odd", mh)] [] BL IL ML TL bx
def ka:List D->Rs D:=ci pw (ac (ai 32)) ["_law_cell_here", "_law_half"] (ak (ai 32))
theorem Az (c:Int) (h:Bool):∃t:Str,Wg t/\aa (ka [.int c,.bl h]) (.str t):=by
 have q0:=Int.fmod_nonneg_of_pos (c.fdiv 16) (show (0:Int) < 41 by decide)
 have q1:=Int.fmod_lt_of_pos (c.fdiv 16) (show (0:Int) < 41 by decide)
 obtain ⟨n,ρ1,hn,h1,s1⟩:∃(n:Int) (ρ1:ae),n.natAbs < 10 ^ 41/\aa (ay pw ((ak (ai 32)).take 2) (ac (ai 32)) (b8 ["_law_cell_here", "_law_half"] [.int c,.bl h])) (.nx ρ1)/\Sub (bw [("_law_cell_here", .int c,false),("_law_half", .bl h,false),("_law_number", .int n,true)]) ρ1:=by
  by_cases h8:c.fmod 8=1
  ·obtain ⟨n,hn,hL⟩:=B3 (c.fdiv 16)
   exact ⟨n,_,hn,aS (aP (d:=.int ((c.fdiv 16).fmod 41 - 20)) decl_name%) (bo (t:=true) (k:=0) (decl_name%.bl ((cG _ _).trans (decide_eq_true h8))) rfl (aS (aP (d:=.int n) (aV decl_name% hL)) be)),au rfl (au rfl (au rfl aT))⟩
  ·exact ⟨(c.fdiv 16).fmod 41 - 20,_,Nat.lt_of_le_of_lt (show _<=20 by omega) (by decide),aS (aP (d:=.int ((c.fdiv 16).fmod 41 - 20)) decl_name%) (aD (t:=false) (k:=0) (decl_name%.bl ((cG _ _).trans (decide_eq_false h8))) rfl be),au rfl (au rfl (au rfl aT))⟩
 by_cases h2:c.fmod 16=2
 ·obtain ⟨t,ht,hO⟩:=B4 (c.fdiv 16)
  exact ⟨t,ht,bz (dD 2 h1 (cC s1 (bo (t:=true) (k:=0) (decl_name%.bl ((cG _ _).trans (decide_eq_true h2))) rfl (bf (aX (aV decl_name% hO))))))⟩
 have f0:=Int.mul_fdiv_add_fmod n 2
 have f1:=Int.fmod_nonneg_of_pos n (show (0:Int) < 2 by decide)
 have f2:=Int.fmod_lt_of_pos n (show (0:Int) < 2 by decide)
 have b41:10 ^ 41 < ir:=by decide
 cases h with
 | true =>
  have hm:(n.fdiv 2*2+1).natAbs < ir:=Nat.lt_of_le_of_lt (show _<=n.natAbs+1 by omega) (by omega)
  have ho:(n.fdiv 2*2+1).fmod 2≠0:=by rw [Int.add_comm,Int.add_mul_fmod_self_right];decide
  have m1:=oH (Nat.lt_trans hm (show ir < 10 ^ 43 by decide))
  have hl:(Str.ofString (toString (n.fdiv 2*2+1))).length+(Str.ofString "/2").length<=bN:=by
   rw [gS,aW,show Str.ofString "/2" = sN [47,50] by rw [dF];rfl,aW]
   have:=dS hm
   show _+2<=40000
   omega
  refine ⟨_,rO (Wc.hf _ hm ho),bz (dD 2 h1 (cC s1 (aD (t:=false) (k:=0) (decl_name%.bl ((cG _ _).trans (decide_eq_false h2))) rfl (bo (t:=true) (k:=0) decl_name% rfl (bf (aX (decl_name%.eq ?_)))))))⟩
  show (D.str (Str.ofString (toString (n.fdiv 2*2+1))++Str.ofString "/2"),0)=_
  rw [gS,show Str.ofString "/2" = sN [47,50] by rw [dF];rfl,fE]
 | false =>
  have hm:n.natAbs < ir:=by omega
  have m1:=oH (Nat.lt_trans hm (show ir < 10 ^ 43 by decide))
  refine ⟨_,rO (Wc.tx n hm),bz (dD 2 h1 (cC s1 (aD (t:=false) (k:=0) (decl_name%.bl ((cG _ _).trans (decide_eq_false h2))) rfl (aD (t:=false) (k:=0) decl_name% rfl (bf (aX (decl_name%.eq ?_)))))))⟩
  show (D.str (Str.ofString (toString n)),0)=_
  rw [gS]
def DD:Fx:=Tb [("_law_whole", gh)] [] BL IL ML TL bx
def pz:List D->Rs D:=ci DD (ac (ai 28)) ["_law_found", "_law_due_here"] (ak (ai 28))
theorem EF (p:Qd):aa (pz [dq p,dq p]) (.bl true):=by
 refine bz (aD (t:=false) (k:=0) decl_name% rfl (bf (aX (decl_name%.bl ?_))))
 show (true&&(eD (dq p) (dq p)&&true))=true
 simp
def pQ:Fx:=Tb [] [] BL IL ML TL bx
def pU:List D->Rs D:=iF pQ (ac (ai 16)) ["part"] ((ak (ai 16)).take 1) (Kf ((ak (ai 16)).getD 1 (.Pass ⟨0,0,0,0⟩))) (Ke ((ak (ai 16)).getD 1 (.Pass ⟨0,0,0,0⟩)))
def gu:List D->Rs D:=xu dI fun p=>.ok (.str (dU p)) [p.natAbs < 2 ^ 1900]
theorem me:∀ds r,aa (gu ds) r->aa (pU ds) r:=by
 intro ds r h
 obtain ⟨p,rfl,h'⟩:=qc h
 obtain ⟨rfl,hp,_⟩:=jp h'
 clear h h'
 have hh:=qz hp
 unfold dU
 by_cases h0:p.fmod 2=0
 ·rw [if_pos h0]
  exact Bc (bo decl_name% ((cG _ _).trans (decide_eq_true h0)) decl_name%)
 ·rw [if_neg h0]
  exact Bd (aD decl_name% ((cG _ _).trans (decide_eq_false h0)) be) decl_name% hp (by decide)
def pS:Fx:=Tb [("part_text", gu)] [] BL IL ML TL bx
def pV:List D->Rs D:=ci pS (ac (ai 15)) ["four"] (ak (ai 15))
def gv:List D->Rs D:=xu dQ fun p=>.ok (.str (gJ p)) [BP p]
theorem mf:∀ds r,aa (gv ds) r->aa (pV ds) r:=by
 intro ds r h
 obtain ⟨p,rfl,h'⟩:=qc h
 obtain ⟨rfl,hp,_⟩:=jp h'
 clear h h'
 have hs:=EV hp
 have h16:(Str.ofString " ").length<=16:=by decide
 obtain ⟨h1,h2,h3,h4⟩:=hp
 exact decl_name%
noncomputable def gc:Fx:=Tb [("_law_cell", j9),("_law_due", mj),("_law_met", fA),("_law_word", ka),("_law_is", pz),("four_text", gv),("_law_whole", gh),("_law_part", dR)] [] BL IL ML TL bx
noncomputable def ny:List D->Rs D:=ci gc (ac (ai 35)) ["_law_script"] (ak (ai 35))
abbrev Gs:=List (List (List Nat×Option Int))
def wf (gs:Gs):Prop:=∀g∈gs,g≠[]/\g.length<=2/\∀p∈g,Wc p.1 p.2
theorem DP:∀(gs:Gs),(∀g∈gs,g≠[])->(gs.map fun g=>jn (g.map (·.1))).flatMap (fun p=>32::p)=(gs.flatten.map (·.1)).flatMap fun p=>32::p
 | [],_=>rfl
 | []::gs,h=>absurd rfl (h [] List.mem_cons_self)
 | (w::t)::gs,h=>by
  rw [List.map_cons,List.flatMap_cons,DP gs fun g hg=>h g (List.mem_cons_of_mem _ hg),List.flatten_cons,List.map_append,List.flatMap_append]
  rfl
theorem zz:∀(gs:Gs),(∀g∈gs,g≠[])->jn (gs.map fun g=>jn (g.map (·.1)))=jn (gs.flatten.map (·.1))
 | [],_=>rfl
 | []::gs,h=>absurd rfl (h [] List.mem_cons_self)
 | (w::t)::gs,h=>by
  rw [List.flatten_cons,List.map_cons]
  show jn ((w::t).map (·.1))++(gs.map fun g=>jn (g.map (·.1))).flatMap (fun p=>32::p)=_
  rw [DP gs fun g hg=>h g (List.mem_cons_of_mem _ hg)]
  show (w.1++(t.map (·.1)).flatMap fun p=>32::p)++_=w.1++((t++gs.flatten).map (·.1)).flatMap fun p=>32::p
  rw [List.map_append,List.flatMap_append,List.append_assoc]
theorem tL:∀gs:Gs,d5 (gs.map fun g=>D.str (tN g))=some (gs.map tN)
 | []=>rfl
 | g::gs=>by rw [List.map_cons,d5,tL gs];rfl
theorem Cv:∀{gs:Gs},wf gs->gs.flatten.length<=2*gs.length
 | [],_=>by simp
 | g::gs,h=>by
  have:=Cv (gs:=gs) fun x hx=>h x (List.mem_cons_of_mem _ hx)
  have:=(h g List.mem_cons_self).2.1
  rw [List.flatten_cons,List.length_append,List.length_cons]
  omega
theorem tK:∀{ns:List Nat},(∀n∈ns,n<=920)->ns.sum<=920*ns.length
 | [],_=>by simp
 | n::ns,h=>by
  have:=tK (ns:=ns) fun x hx=>h x (List.mem_cons_of_mem _ hx)
  have:=h n List.mem_cons_self
  rw [List.sum_cons,List.length_cons]
  omega
theorem Cd {gs:Gs} (h:wf gs) (hl:gs.length<=6):aa (kK (.str (Str.ofString " ")) [.lst (gs.map fun g=>D.str (tN g))]) (.str (tN gs.flatten),0):=by
 have e:Txt.join (Str.ofString " ") (gs.map tN)=tN gs.flatten:=by
  rw [show Str.ofString " " = sN [32] by rw [dF];rfl,show gs.map tN=(gs.map fun g=>jn (g.map (·.1))).map sN by rw [List.map_map];rfl,qB,zz gs fun g hg=>(h g hg).1]
 have s:=tK (ns:=(gs.map tN).map fun y=>y.length) fun n hn=>by
  obtain ⟨y,hy,rfl⟩:=List.mem_map.mp hn
  obtain ⟨g,hg,rfl⟩:=List.mem_map.mp hy
  exact rc (h g hg).2.2 (by have:=(h g hg).2.1;omega)
 rw [List.length_map,List.length_map] at s
 unfold kK
 dsimp only
 rw [tL]
 dsimp only
 rw [<- e]
 exact ⟨_,rfl,by decide,by rw [List.length_map];omega,True.intro⟩
theorem AE {ws:List (List Nat×Option Int)} (hw:∀p∈ws,Wc p.1 p.2) (h0:ws≠[]) (hl:ws.length<=20) (k:Int) (ρ:ae) (s:Sub (bw [("_law_text", .str (tN ws),true),("_law_words", .lst (ba ws),true),("_law_due_here", oN (c7 (ws.map (·.2))),true)]) ρ):∃ρ',aa (ay gc (jx ((ak (ai 35)).getD 6 (.Pass ⟨0,0,0,0⟩))) (ac (ai 35)) (bn ρ "_law_turn" (.int k,false))) (.nx ρ')/\Sub (bw [("_law_text", .str (tN ws),true),("_law_words", .lst (ba ws),true),("_law_due_here", oN (c7 (ws.map (·.2))),true)]) ρ':=by
 have s1:=s.put "_law_turn" (.int k,false)
 cases e:c7 (ws.map (·.2)) with
 | some j =>
  rw [e] at s s1
  have hm:=EC hw h0 hl e
  have e1:(!eD (.int (j:Nat)) (.int (j:Nat)))=false:=de rfl
  refine bM s1 (aS (aP (d:=.int (j:Nat)) (aV decl_name% hm)) (aD (t:=false) (k:=0) (bg (fZ decl_name% (cn (b:=false) (bg (bS decl_name% (bS (decl_name%.bl e1) eZ))) (fun z=>by cases z) fun _=>rfl))) rfl (aD (t:=false) (k:=0) (bg (cn (b:=false) decl_name% (fun z=>by cases z) fun _=>rfl)) rfl (aD (t:=false) (k:=0) (bg (cn (b:=false) decl_name% (fun z=>by cases z) fun _=>rfl)) rfl be)))) fun ρ' s'=>au s'.get (au s'.get (au s'.get aT))
 | none =>
  rw [e] at s s1
  obtain ⟨q,ok,ev,et,hr⟩:=Ix hw e
  have hm:=EE hw h0 e hr
  have ox:=Ep ok
  have ll:=eS ws
  have ek:dP (.str (gJ q)) (.str (tN ws))=true:=by rw [et];exact eL (tR q) (tR q)
  have en:(!eD (.str (gJ q)) (.str (tN ws)))=false:=by rw [eM,et,decide_eq_true rfl];rfl
  have lp:∀{sc scope:Scope} {ρ:ae} {p:Pos} {elt tg iter:Expr} {it:Bool} {k:Nat} (hi:aa (ar gc iter true sc ρ) (.lst (ba ws),k)) (h:∀q∈ws,∃ρ',bi scope tg (.str (sN q.1)) (flt scope ρ)=some ρ'/\aa (ar gc elt false scope ρ') (oI q.2,0)) (hc:iZ sc scope=true) (ht:cO iter tg=true),aa (ar gc (.ListComp elt [⟨tg,iter,[],0⟩] scope p) it sc ρ) (.lst [.int q.1,.int q.2.1,.int q.2.2.1,.int q.2.2.2],0):=fun {sc scope ρ p elt tg iter it k} hi h hc ht=>by
   have:=uv (Φ:=gc) (ws:=ws) (p:=p) (it:=it) hi hl h hc ht
   rw [ev] at this
   exact this
  refine bM s1 (aS (aP (d:=dq q) (aV decl_name% hm)) (aD (t:=false) (k:=0) (bg (cn (b:=false) decl_name% (fun z=>by cases z) fun _=>rfl)) rfl (aD (t:=false) (k:=0) (bg (fZ decl_name% (cn (b:=false) (uU (b:=true) (aV (bC decl_name% (bC (fb (B:=lm) (bC (lp decl_name% (fun p hp=>⟨_,rfl,aV decl_name% (wo (hw p hp))⟩) rfl rfl) bO) decl_name%) bO)) (EF q))) (fun z=>by cases z) fun _=>rfl))) rfl (aD (t:=false) (k:=0) (bg (fZ decl_name% (cn (b:=false) (decl_name%.bl en) (fun z=>by cases z) fun _=>rfl))) rfl be)))) fun ρ' s'=>au s'.get (au s'.get (au s'.get aT))
theorem wq (ns:List Int) (_:ns.length<=63):aa (ny [.lst (ns.map D.int)]) (.bl true):=by
 have hl:Fs (ns.map D.int):=⟨ns,rfl⟩
 generalize ns.map D.int=L at *
 obtain ⟨m',hm',hat⟩:=sF (f:=D.int) (l:=[4,4,4,4,4,3,5,6]) (i:=(gO L 0).fmod 8) (Int.fmod_nonneg_of_pos _ (by decide)) (Int.fmod_lt_of_pos _ (by decide))
 obtain ⟨m,rfl,m3,m6⟩:∃m:Nat,m'=((m:Nat):Int)/\3<=m/\m<=6:=by
  simp only [List.mem_cons,List.not_mem_nil,or_false] at hm'
  rcases hm' with rfl|rfl|rfl|rfl|rfl|rfl|rfl|rfl
  ·exact ⟨4,rfl,by decide,by decide⟩
  ·exact ⟨4,rfl,by decide,by decide⟩
  ·exact ⟨4,rfl,by decide,by decide⟩
  ·exact ⟨4,rfl,by decide,by decide⟩
  ·exact ⟨4,rfl,by decide,by decide⟩
  ·exact ⟨3,rfl,by decide,by decide⟩
  ·exact ⟨5,rfl,by decide,by decide⟩
  ·exact ⟨6,rfl,by decide,by decide⟩
 refine bz (aS (aP (d:=.int (gO L 0)) decl_name%) (aS (aP (d:=.lst []) decl_name%) (pZ (n:=m) (fun i ρ => ∃gs:Gs,gs.length=i/\wf gs/\Sub (bw [("_law_script", .lst L,false),("_law_cell_here", .int (gO L 0),true),("_law_words", .lst (gs.map fun g=>D.str (tN g)),true)]) ρ) (Fa (B:=iT) (bC (nr (x:=.lst ([4,4,4,4,4,3,5,6].map D.int)) decl_name% decl_name% rfl hat) bO) (Be (by omega))) ⟨[],rfl,(fun g h=>by cases h),au rfl (au rfl (au rfl aT))⟩ ?_ ?_)))
 ·rintro i ρ hi ⟨gs,hg,ok,s⟩
  have s1:=s.put "_law_k" (.int (i:Nat),false)
  obtain ⟨h,ρ1,h1,s2⟩:∃(h:Bool) (ρ1:ae),aa (ay gc ((jx ((ak (ai 35)).getD 2 (.Pass ⟨0,0,0,0⟩))).take 2) (ac (ai 35)) (bn ρ "_law_k" (.int (i:Nat),false))) (.nx ρ1)/\Sub (bw [("_law_script", .lst L,false),("_law_cell_here", .int (gO L 0),true),("_law_words", .lst (gs.map fun g=>D.str (tN g)),true),("_law_k", .int (i:Nat),false),("_law_half", .bl h,true)]) ρ1:=by
   have d0:k8 (64+((i:Nat):Int)):=⟨by omega,vo (by omega)⟩
   by_cases hc:((gO L 0).fdiv 16).fmod 4=0
   ·exact ⟨decide (((gO L 0).fdiv (64+((i:Nat):Int))).fmod 2=1),bM s1 (aS (aP (d:=.bl (decide (((gO L 0).fdiv 8).fmod 2=1))) (decl_name%.bl (cG _ _))) (bo (t:=true) (k:=0) (decl_name%.bl ((cG _ _).trans (decide_eq_true hc))) rfl (aS (aP (d:=.bl (decide (((gO L 0).fdiv (64+((i:Nat):Int))).fmod 2=1))) (decl_name%.bl (cG _ _))) be))) fun ρ' s'=>au s'.get (au s'.get (au s'.get (au s'.get (au s'.get aT))))⟩
   ·exact ⟨decide (((gO L 0).fdiv 8).fmod 2=1),bM s1 (aS (aP (d:=.bl (decide (((gO L 0).fdiv 8).fmod 2=1))) (decl_name%.bl (cG _ _))) (aD (t:=false) (k:=0) (decl_name%.bl ((cG _ _).trans (decide_eq_false hc))) rfl be)) fun ρ' s'=>au s'.get (au s'.get (au s'.get (au s'.get (au s'.get aT))))⟩
  obtain ⟨t,⟨g,g1,g2,g3,rfl⟩,hW⟩:=Az (gO L (1+((i:Nat):Int))) h
  have s3:=s2.put "_law_words" (.lst ((gs.map fun g=>D.str (tN g))++[.str (tN g)]),true)
  refine ⟨_,rfl,_,dD 2 h1 (aS (CF (l:=gs.map fun g=>D.str (tN g)) (ds:=[.str (tN g)]) (l':=(gs.map fun g=>D.str (tN g))++[.str (tN g)]) (k:=0) rfl (bC (aV (js decl_name% s2) hW) bO) rfl s2.get (Dz (by rw [List.length_map];show _ < 40000;omega))) be),gs++[g],by rw [List.length_append];show _+1=_;omega,?_,?_⟩
  ·intro x hx
   rcases List.mem_append.mp hx with hx|hx
   ·exact ok x hx
   ·rw [List.mem_singleton.mp hx];exact ⟨g1,g2,g3⟩
  ·rw [List.map_append]
   exact au s3.get (au s3.get (au s3.get aT))
 ·rintro ρ ⟨gs,hg,ok,s⟩
  have hj:=Cd ok (by omega)
  have fl:=Cv ok
  have hw:∀p∈gs.flatten,Wc p.1 p.2:=fun p hp=>by
   obtain ⟨g,hg',hp⟩:=List.mem_flatten.mp hp
   exact (ok g hg').2.2 p hp
  have h0:gs.flatten≠[]:=fun z=>by
   cases gs with
   | nil=>simp at hg;omega
   | cons g gs =>
    rw [List.flatten_cons] at z
    exact (ok g List.mem_cons_self).1 (List.append_eq_nil_iff.mp z).1
  have hl':gs.flatten.length<=20:=by omega
  generalize hW:gs.flatten=ws at *
  have hs:=xt hw h0 hl'
  have hd:=B5 hw hl'
  have lt:=rc hw hl'
  have ll:ax (gs.map fun g=>D.str (tN g))=true:=fj (fun _=>rfl) _
  have l2:=eS ws
  have l3:(ba ws).length<=bN:=by rw [List.length_map];show _<=40000;omega
  obtain ⟨ρ1,h1,s1⟩:∃ρ1,aa (ay gc (((ak (ai 35)).drop 3).take 3) (ac (ai 35)) ρ) (.nx ρ1)/\Sub (bw [("_law_text", .str (tN ws),true),("_law_words", .lst (ba ws),true),("_law_due_here", oN (c7 (ws.map (·.2))),true)]) ρ1:=bM s (aS (aP (d:=.str (tN ws)) (kY decl_name% decl_name% hj)) (aS (aP (d:=.lst (ba ws)) (kY decl_name% decl_name% hs)) (aS (aP (d:=oN (c7 (ws.map (·.2)))) (aV decl_name% hd)) be))) fun ρ' s'=>au s'.get (au s'.get (au s'.get aT))
  exact dD 3 h1 (pZ (n:=2) (fun _ ρ=>Sub (bw [("_law_text", .str (tN ws),true),("_law_words", .lst (ba ws),true),("_law_due_here", oN (c7 (ws.map (·.2))),true)]) ρ) decl_name% s1 (fun i ρ _ s=>⟨bn ρ "_law_turn" (.int (i:Nat),false),rfl,(by exact AE hw h0 hl' (i:Nat) ρ s)⟩) fun ρ s=>cC s (bf (aX decl_name%)))
theorem Gr:aQ (aw (ac (ai 26))) ["_law_script", "_law_k"] (ac (ai 26)):=⟨rfl,rfl,rfl,by decide +kernel,by decide +kernel,by decide +kernel,by decide +kernel⟩
theorem Go:aQ (aw (ac (ai 29))) ["_law_word_here"] (ac (ai 29)):=⟨rfl,rfl,rfl,by decide +kernel,by decide +kernel,by decide +kernel,by decide +kernel⟩
theorem Gj:aQ (aw (ac (ai 33))) ["_law_words"] (ac (ai 33)):=⟨rfl,rfl,rfl,by decide +kernel,by decide +kernel,by decide +kernel,by decide +kernel⟩
theorem Gw:aQ (aw (ac (ai 22))) ["number"] (ac (ai 22)):=⟨rfl,rfl,rfl,by decide +kernel,by decide +kernel,by decide +kernel,by decide +kernel⟩
theorem Gx:aQ (aw (ac (ai 21))) ["number"] (ac (ai 21)):=⟨rfl,rfl,rfl,by decide +kernel,by decide +kernel,by decide +kernel,by decide +kernel⟩
theorem Gy:aQ (aw (ac (ai 20))) ["number"] (ac (ai 20)):=⟨rfl,rfl,rfl,by decide +kernel,by decide +kernel,by decide +kernel,by decide +kernel⟩
theorem Gu:aQ (aw (ac (ai 24))) ["text"] (ac (ai 24)):=⟨rfl,rfl,rfl,by decide +kernel,by decide +kernel,by decide +kernel,by decide +kernel⟩
theorem Gv:aQ (aw (ac (ai 23))) ["word"] (ac (ai 23)):=⟨rfl,rfl,rfl,by decide +kernel,by decide +kernel,by decide +kernel,by decide +kernel⟩
theorem Gz:aQ (aw (ac (ai 19))) ["word"] (ac (ai 19)):=⟨rfl,rfl,rfl,by decide +kernel,by decide +kernel,by decide +kernel,by decide +kernel⟩
theorem A8:aQ (aw (ac (ai 18))) ["words"] (ac (ai 18)):=⟨rfl,rfl,rfl,by decide +kernel,by decide +kernel,by decide +kernel,by decide +kernel⟩
theorem A9:aQ (aw (ac (ai 17))) ["text"] (ac (ai 17)):=⟨rfl,rfl,rfl,by decide +kernel,by decide +kernel,by decide +kernel,by decide +kernel⟩
theorem Gq:aQ (aw (ac (ai 27))) ["_law_found"] (ac (ai 27)):=⟨rfl,rfl,rfl,by decide +kernel,by decide +kernel,by decide +kernel,by decide +kernel⟩
theorem Gi:aQ (aw (ac (ai 34))) ["_law_text"] (ac (ai 34)):=⟨rfl,rfl,rfl,by decide +kernel,by decide +kernel,by decide +kernel,by decide +kernel⟩
theorem Gm:aQ (aw (ac (ai 31))) ["_law_cell_here"] (ac (ai 31)):=⟨rfl,rfl,rfl,by decide +kernel,by decide +kernel,by decide +kernel,by decide +kernel⟩
theorem Gn:aQ (aw (ac (ai 30))) ["_law_cell_here"] (ac (ai 30)):=⟨rfl,rfl,rfl,by decide +kernel,by decide +kernel,by decide +kernel,by decide +kernel⟩
theorem Gk:aQ (aw (ac (ai 32))) ["_law_cell_here", "_law_half"] (ac (ai 32)):=⟨rfl,rfl,rfl,by decide +kernel,by decide +kernel,by decide +kernel,by decide +kernel⟩
theorem Gp:aQ (aw (ac (ai 28))) ["_law_found", "_law_due_here"] (ac (ai 28)):=⟨rfl,rfl,rfl,by decide +kernel,by decide +kernel,by decide +kernel,by decide +kernel⟩
theorem GA:aQ (aw (ac (ai 16))) ["part"] (ac (ai 16)):=⟨rfl,rfl,rfl,by decide +kernel,by decide +kernel,by decide +kernel,by decide +kernel⟩
theorem GB:aQ (aw (ac (ai 15))) ["four"] (ac (ai 15)):=⟨rfl,rfl,rfl,by decide +kernel,by decide +kernel,by decide +kernel,by decide +kernel⟩
theorem Gh:aQ (aw (ac (ai 35))) ["_law_script"] (ac (ai 35)):=⟨rfl,rfl,rfl,by decide +kernel,by decide +kernel,by decide +kernel,by decide +kernel⟩
theorem Eb:aQ (aw (ac (jz (ai 7) 0))) ["self", "at"] (ac (jz (ai 7) 0)):=⟨rfl,rfl,rfl,by decide +kernel,by decide +kernel,by decide +kernel,by decide +kernel⟩
theorem bW:∀p∈BL,gz p:=aj (Pr:=gz) (wO) (aj (Pr:=gz) (vt) (aj (Pr:=gz) (Au) (aj (Pr:=gz) (At) (aj (Pr:=gz) (Aq) (aj (Pr:=gz) (wS) (aj (Pr:=gz) (An) (aj (Pr:=gz) (Ao) (aC))))))))
theorem bV:∀p∈IL,sQ p:=aj (Pr:=sQ) (uL) (aj (Pr:=sQ) (wy) (aC))
theorem bU:∀p∈ML,kh p:=aj (Pr:=kh) (wm) (aj (Pr:=kh) (ut) (aj (Pr:=kh) (BX) (aj (Pr:=kh) (BZ) (aj (Pr:=kh) (uu) (aC)))))
theorem bT:∀p∈TL,sP p:=aj (Pr:=sP) (rV) (aj (Pr:=sP) (rT) (aC))
theorem cL {P:Program} {w:World} {k0:W.Frag} {mg:Str->Option Value} {base:Heap} {j k:Nat} {g:Str} {F:List D->Rs D} {l:List (Str×(List D->Rs D))} (h:cV P w k0 mg base j g F) (t:∀p∈l,yt P w k0 mg base k p) (hj:j<=k:=by decide):∀p∈(g,F)::l,yt P w k0 mg base k p:=aj (Pr:=yt P w k0 mg base k) (Or.inl (h.mono hj)) t
theorem all_mk {l:W.OpenLaw} {w:World} {K:W.Frag} {h:Heap} {mg:Str->Option Value} {fa f26 f29 f33 f22 f21 f20 f24 f23 f19 f18 f17 f27 f34 f31 f30 f32 f28 f16 f15 f35 lR:Addr} (X:K.In h) (G:h.Ns mainGlobals mg) (hfa:mg "law" = some (.ref fa))
  {Hd Jx Ha Ju G6 Jq Hg JA Hh JB Hi JC He Jy Hf Jz Hj JD Hk JE Hl JF Hc Jw G5 Jp G8 Js G9 Jt G7 Jr Hb Jv Hm JG Hn JH G4 DA Es Fh:Option Addr} {F5 F2 FY F8 F9 Ga F6 F7 Gb Gc Ge F4 FX F0 F1 FZ F3 Gf Gg FW D8:Array (Option Value)} {Hy HZ II GQ Di Jc Hv HW IF GN Df I0 Hr HR IA GJ Da IV HB Ic IM GU Dl Jf HC Id IN GV Dm Jg HD Ie IO GW Dn Jh Hz Ia IJ GS Dj Jd HA Ib IK GT Dk Je HE Ig IP GX Do Ji HF Ii IQ GY Dp Jj HG Ij IR GZ Dq Jk Hx HY IH GP Dh Jb Hq HQ Iz GI C9 IU Ht HU IC GL Dd IY Hu HV ID GM De IZ Hs HS IB GK Db IW Hw HX IG GO Dg Ja HH Ik IS G0 Dr Jl HI Il IT G1 Ds Jm Ho Cb C4 Bn wK C6 Et EI Fe Eg yd Ff:Value}
  {bF:Addr} (gb:W.nsIn K mainGlobals "NoText" = some (some (.ref bF))) (xi_NoText:W.findIn K (.ref bF) "__init__" = some (some (.ref lR)))
  (a26:W.nsIn K mainGlobals "_law_cell" = some (some (.ref f26)))    (l26:K.lookup f26=some ⟨Hy,Hd,.func (W.fnOf "_law_cell" "_law_cell" (bc (ai 26)) (ak (ai 26)) (ac (ai 26)) .none HZ II GQ Jx Di Jc),F5⟩) (c26:W.codeIn K Di "_law_cell" = true) (k26:W.keepIn K (.ref f26)=true)
  (a29:W.nsIn K mainGlobals "_law_part" = some (some (.ref f29)))    (l29:K.lookup f29=some ⟨Hv,Ha,.func (W.fnOf "_law_part" "_law_part" (bc (ai 29)) (ak (ai 29)) (ac (ai 29)) .none HW IF GN Ju Df I0),F2⟩) (c29:W.codeIn K Df "_law_part" = true) (k29:W.keepIn K (.ref f29)=true)
  (a33:W.nsIn K mainGlobals "_law_due" = some (some (.ref f33)))    (l33:K.lookup f33=some ⟨Hr,G6,.func (W.fnOf "_law_due" "_law_due" (bc (ai 33)) (ak (ai 33)) (ac (ai 33)) .none HR IA GJ Jq Da IV),FY⟩) (c33:W.codeIn K Da "_law_due" = true) (k33:W.keepIn K (.ref f33)=true)
  (a22:W.nsIn K mainGlobals "has_too_many_figures" = some (some (.ref f22)))    (l22:K.lookup f22=some ⟨HB,Hg,.func (W.fnOf "has_too_many_figures" "has_too_many_figures" (bc (ai 22)) (ak (ai 22)) (ac (ai 22)) .none Ic IM GU JA Dl Jf),F8⟩) (c22:W.codeIn K Dl "has_too_many_figures" = true) (k22:W.keepIn K (.ref f22)=true)
  (a21:W.nsIn K mainGlobals "doubled_or_none" = some (some (.ref f21)))    (Fv:K.lookup f21=some ⟨HC,Hh,.func (W.fnOf "doubled_or_none" "doubled_or_none" (bc (ai 21)) (ak (ai 21)) (ac (ai 21)) .none Id IN GV JB Dm Jg),F9⟩) (c21:W.codeIn K Dm "doubled_or_none" = true) (k21:W.keepIn K (.ref f21)=true)
  (a20:W.nsIn K mainGlobals "odd_or_none" = some (some (.ref f20)))    (l20:K.lookup f20=some ⟨HD,Hi,.func (W.fnOf "odd_or_none" "odd_or_none" (bc (ai 20)) (ak (ai 20)) (ac (ai 20)) .none Ie IO GW JC Dn Jh),Ga⟩) (c20:W.codeIn K Dn "odd_or_none" = true) (k20:W.keepIn K (.ref f20)=true)
  (a24:W.nsIn K mainGlobals "are_figures" = some (some (.ref f24)))    (l24:K.lookup f24=some ⟨Hz,He,.func (W.fnOf "are_figures" "are_figures" (bc (ai 24)) (ak (ai 24)) (ac (ai 24)) .none Ia IJ GS Jy Dj Jd),F6⟩) (c24:W.codeIn K Dj "are_figures" = true) (k24:W.keepIn K (.ref f24)=true)
  (a23:W.nsIn K mainGlobals "whole_read" = some (some (.ref f23)))    (l23:K.lookup f23=some ⟨HA,Hf,.func (W.fnOf "whole_read" "whole_read" (bc (ai 23)) (ak (ai 23)) (ac (ai 23)) .none Ib IK GT Jz Dk Je),F7⟩) (c23:W.codeIn K Dk "whole_read" = true) (k23:W.keepIn K (.ref f23)=true)
  (a19:W.nsIn K mainGlobals "part_read" = some (some (.ref f19)))    (l19:K.lookup f19=some ⟨HE,Hj,.func (W.fnOf "part_read" "part_read" (bc (ai 19)) (ak (ai 19)) (ac (ai 19)) .none Ig IP GX JD Do Ji),Gb⟩) (c19:W.codeIn K Do "part_read" = true) (k19:W.keepIn K (.ref f19)=true)
  (a18:W.nsIn K mainGlobals "parts_read" = some (some (.ref f18)))    (l18:K.lookup f18=some ⟨HF,Hk,.func (W.fnOf "parts_read" "parts_read" (bc (ai 18)) (ak (ai 18)) (ac (ai 18)) .none Ii IQ GY JE Dp Jj),Gc⟩) (c18:W.codeIn K Dp "parts_read" = true) (k18:W.keepIn K (.ref f18)=true)
  (a17:W.nsIn K mainGlobals "four_read" = some (some (.ref f17)))    (l17:K.lookup f17=some ⟨HG,Hl,.func (W.fnOf "four_read" "four_read" (bc (ai 17)) (ak (ai 17)) (ac (ai 17)) .none Ij IR GZ JF Dq Jk),Ge⟩) (c17:W.codeIn K Dq "four_read" = true) (k17:W.keepIn K (.ref f17)=true)
  (a27:W.nsIn K mainGlobals "_law_whole" = some (some (.ref f27)))    (l27:K.lookup f27=some ⟨Hx,Hc,.func (W.fnOf "_law_whole" "_law_whole" (bc (ai 27)) (ak (ai 27)) (ac (ai 27)) .none HY IH GP Jw Dh Jb),F4⟩) (c27:W.codeIn K Dh "_law_whole" = true) (k27:W.keepIn K (.ref f27)=true)
  (a34:W.nsIn K mainGlobals "_law_met" = some (some (.ref f34)))    (l34:K.lookup f34=some ⟨Hq,G5,.func (W.fnOf "_law_met" "_law_met" (bc (ai 34)) (ak (ai 34)) (ac (ai 34)) .none HQ Iz GI Jp C9 IU),FX⟩) (c34:W.codeIn K C9 "_law_met" = true) (k34:W.keepIn K (.ref f34)=true)
  (a31:W.nsIn K mainGlobals "_law_long" = some (some (.ref f31)))    (l31:K.lookup f31=some ⟨Ht,G8,.func (W.fnOf "_law_long" "_law_long" (bc (ai 31)) (ak (ai 31)) (ac (ai 31)) .none HU IC GL Js Dd IY),F0⟩) (c31:W.codeIn K Dd "_law_long" = true) (k31:W.keepIn K (.ref f31)=true)
  (a30:W.nsIn K mainGlobals "_law_odd" = some (some (.ref f30)))    (l30:K.lookup f30=some ⟨Hu,G9,.func (W.fnOf "_law_odd" "_law_odd" (bc (ai 30)) (ak (ai 30)) (ac (ai 30)) .none HV ID GM Jt De IZ),F1⟩) (c30:W.codeIn K De "_law_odd" = true) (k30:W.keepIn K (.ref f30)=true)
  (a32:W.nsIn K mainGlobals "_law_word" = some (some (.ref f32)))    (l32:K.lookup f32=some ⟨Hs,G7,.func (W.fnOf "_law_word" "_law_word" (bc (ai 32)) (ak (ai 32)) (ac (ai 32)) .none HS IB GK Jr Db IW),FZ⟩) (c32:W.codeIn K Db "_law_word" = true) (k32:W.keepIn K (.ref f32)=true)
  (a28:W.nsIn K mainGlobals "_law_is" = some (some (.ref f28)))    (l28:K.lookup f28=some ⟨Hw,Hb,.func (W.fnOf "_law_is" "_law_is" (bc (ai 28)) (ak (ai 28)) (ac (ai 28)) .none HX IG GO Jv Dg Ja),F3⟩) (c28:W.codeIn K Dg "_law_is" = true) (k28:W.keepIn K (.ref f28)=true)
  (a16:W.nsIn K mainGlobals "part_text" = some (some (.ref f16)))    (l16:K.lookup f16=some ⟨HH,Hm,.func (W.fnOf "part_text" "part_text" (bc (ai 16)) (ak (ai 16)) (ac (ai 16)) .none Ik IS G0 JG Dr Jl),Gf⟩) (c16:W.codeIn K Dr "part_text" = true) (k16:W.keepIn K (.ref f16)=true)
  (a15:W.nsIn K mainGlobals "four_text" = some (some (.ref f15)))    (l15:K.lookup f15=some ⟨HI,Hn,.func (W.fnOf "four_text" "four_text" (bc (ai 15)) (ak (ai 15)) (ac (ai 15)) .none Il IT G1 JH Ds Jm),Gg⟩) (c15:W.codeIn K Ds "four_text" = true) (k15:W.keepIn K (.ref f15)=true)
  (a35:W.nsIn K mainGlobals "law" = some (some (.ref f35)))    (l35:K.lookup f35=some ⟨Ho,G4,.func (W.fnOf "law" "law" (bc (ai 35)) (ak (ai 35)) (ac (ai 35)) .none Cb C4 Bn DA wK C6),FW⟩) (c35:W.codeIn K wK "law" = true) (k35:W.keepIn K (.ref f35)=true)
  (wt:K.lookup lR=some ⟨Et,Es,.func (W.fnOf "__init__" "NoText.__init__" (bc (jz (ai 7) 0)) (ak (jz (ai 7) 0)) (ac (jz (ai 7) 0)) .none EI Fe Eg Fh yd Ff),D8⟩) (Jn:W.codeIn K yd "NoText.__init__" = true) (Im:W.keepIn K (.ref lR)=true)
  {je:Addr} (lg:W.nsIn K mainGlobals "Divided" = some (some (.ref je)))
  {ku:Addr} (mR:W.nsIn K mainGlobals "NoLine" = some (some (.ref ku)))
  {kr:Addr} (mQ:W.nsIn K mainGlobals "NoName" = some (some (.ref kr)))
  {jd:Addr} (le:W.nsIn K mainGlobals "NoOrder" = some (some (.ref jd)))
  {jc:Addr} (ld:W.nsIn K mainGlobals "NoPrime" = some (some (.ref jc)))
  {kq:Addr} (mP:W.nsIn K mainGlobals "NoSide" = some (some (.ref kq)))
  {km:Addr} (mO:W.nsIn K mainGlobals "NoTurn" = some (some (.ref km)))
  {kl:Addr} (mM:W.nsIn K mainGlobals "Nought" = some (some (.ref kl)))
  {cw:Addr} (ip:W.nsIn K mainGlobals "SpaceError" = some (some (.ref cw)))
  {ig:Addr} (jL:W.nsIn K mainGlobals "TooGreat" = some (some (.ref ig)))
  (rn:dH K "Divided" je=true) (sv:ff K je=true)
  (tX:dH K "NoLine" ku=true) (vf:ff K ku=true)
  (tW:dH K "NoName" kr=true) (ve:ff K kr=true)
  (rm:dH K "NoOrder" jd=true) (su:ff K jd=true)
  (rk:dH K "NoPrime" jc=true) (sr:ff K jc=true)
  (tV:dH K "NoSide" kq=true) (vd:ff K kq=true)
  (tU:dH K "NoText" bF=true) (vc:ff K bF=true)
  (tT:dH K "NoTurn" km=true) (u9:ff K km=true)
  (tS:dH K "Nought" kl=true) (u8:ff K kl=true)
  (pH:dH K "TooGreat" ig=true) (pM:ff K ig=true)
  (xs0:W.specialIn K (.builtin "object.__class__") "__get__" = some (some (.builtin "getset_descriptor.__get__"))) (xt0:W.takesIn K (.builtin "object.__class__")=some true)
  (mr:gZ K bF cw=true) (sZ:W.findIn K (.ref bF) "__getattribute__" = some (some (.builtin "BaseException.__getattribute__"))) (sY:W.findIn K (.ref bF) "__getattr__" = some none) (sX:W.findIn K (.ref bF) "__class__" = some (some (.builtin "object.__class__"))) (sW:W.mroIn K bF (.type "object")=some true) (sV:W.exmOne K (.ref bF) (.ref cw)=some true) (sU:d9 K bF=some (.ref lR))
  (sT:W.keepIn K (.ref bF)=true) (mq:W.hasDictIn K bF=true) (sS:W.findIn K (.ref bF) "__setattr__" = some (some (.builtin "object.__setattr__"))) (mm:W.findIn K (.ref bF) "at" = some none) (sR:W.isFn K (.ref lR)=true)
  (m7:W.specialIn K (.ref cw) "__getattribute__" = some (some (.builtin "type.__getattribute__"))) (m5:W.readsIn K cw (.type "type")=true) (m8:W.findCls K (.ref cw) (.type "type") "__init__" = some (.val (.builtin "ValueError.__init__")))
  {tk1:Tok} (g1:W.nsIn K mainGlobals "FIGURES" = some (some (.str "0123456789" tk1)))
  {tk2:Tok} (g2:W.nsIn K mainGlobals "MOST_FIGURES" = some (some (.int (40) tk2)))
  (z0:W.nsIn K mainGlobals "len" = some none)    (z1:W.nsIn K mainGlobals "tuple" = some none)    (z2:W.nsIn K mainGlobals "list" = some none)    (z3:W.nsIn K mainGlobals "abs" = some none)    (z4:W.nsIn K mainGlobals "all" = some none)    (z5:W.nsIn K mainGlobals "sum" = some none)    (z6:W.nsIn K mainGlobals "isinstance" = some none)    (z7:W.nsIn K mainGlobals "set" = some none)    (z8:W.nsIn K mainGlobals "int" = some none)    (z9:W.nsIn K mainGlobals "bool" = some none)    (z10:W.nsIn K mainGlobals "str" = some none)    (z11:W.nsIn K mainGlobals "range" = some none)    (z12:W.nsIn K mainGlobals "zip" = some none)    (z13:W.nsIn K mainGlobals "enumerate" = some none)    (z14:W.nsIn K mainGlobals "any" = some none)    (z15:W.nsIn K mainGlobals "sorted" = some none)    (z16:W.nsIn K mainGlobals "min" = some none)    (z17:W.nsIn K mainGlobals "max" = some none)    (z18:W.nsIn K mainGlobals "reversed" = some none)    (z19:W.nsIn K mainGlobals "ValueError" = some none) :
  ∃fd:FuncData,(∀(s:Shared) (v:Value),BindsTo s fd ⟨[v],[]⟩ [("_law_script", v)])/\∀base:Heap,K.In base->base.Ns mainGlobals mg->bv l.prog w K mg base cU 9 fa fd ["_law_script"] (ii K ny):=by
 have e:=hfa.symm.trans (W.mg_of X G a35)
 cases e
 have hbl:∀n∈fQ,mg n=none:=aj (Pr:=fun n=>mg n=none) (W.mg_none_of X G z0) (aj (Pr:=fun n=>mg n=none) (W.mg_none_of X G z1) (aj (Pr:=fun n=>mg n=none) (W.mg_none_of X G z2) (aj (Pr:=fun n=>mg n=none) (W.mg_none_of X G z3) (aj (Pr:=fun n=>mg n=none) (W.mg_none_of X G z4) (aj (Pr:=fun n=>mg n=none) (W.mg_none_of X G z5) (aj (Pr:=fun n=>mg n=none) (W.mg_none_of X G z6) (aj (Pr:=fun n=>mg n=none) (W.mg_none_of X G z7) (aj (Pr:=fun n=>mg n=none) (W.mg_none_of X G z8) (aj (Pr:=fun n=>mg n=none) (W.mg_none_of X G z9) (aj (Pr:=fun n=>mg n=none) (W.mg_none_of X G z10) (aj (Pr:=fun n=>mg n=none) (W.mg_none_of X G z11) (aj (Pr:=fun n=>mg n=none) (W.mg_none_of X G z12) (aj (Pr:=fun n=>mg n=none) (W.mg_none_of X G z13) (aj (Pr:=fun n=>mg n=none) (W.mg_none_of X G z14) (aj (Pr:=fun n=>mg n=none) (W.mg_none_of X G z15) (aj (Pr:=fun n=>mg n=none) (W.mg_none_of X G z16) (aj (Pr:=fun n=>mg n=none) (W.mg_none_of X G z17) (aj (Pr:=fun n=>mg n=none) (W.mg_none_of X G z18) (aj (Pr:=fun n=>mg n=none) (W.mg_none_of X G z19) (aC))))))))))))))))))))
 have hmg:∀n C,W.nsIn K mainGlobals n=some (some (.ref C))->mg n=some (.ref C):=fun n C h=>W.mg_of X G h
 have hEx:xg K EX:=zN (aj (Pr:=Fz K) (⟨bF,cw,gb,ip,⟨mr,sZ,sY,sX,xs0,xt0,sW⟩,sV,fun _ z=>by cases z;exact ⟨mm,mq⟩⟩) (aC))
 have F26:=bK (st:=(ai 26)) l26 c26 k26
 have b26:=F26.binds (ps:=["_law_script", "_law_k"]) fun _ _ _ _ _ _ us hl=>by obtain ⟨x0,x1,rfl⟩:=rY hl;rfl
 have F29:=bK (st:=(ai 29)) l29 c29 k29
 have b29:=F29.binds (ps:=["_law_word_here"]) fun _ _ _ _ _ _ us hl=>by obtain ⟨x0,rfl⟩:=df hl;rfl
 have F33:=bK (st:=(ai 33)) l33 c33 k33
 have b33:=F33.binds (ps:=["_law_words"]) fun _ _ _ _ _ _ us hl=>by obtain ⟨x0,rfl⟩:=df hl;rfl
 have F22:=bK (st:=(ai 22)) l22 c22 k22
 have b22:=F22.binds (ps:=["number"]) fun _ _ _ _ _ _ us hl=>by obtain ⟨x0,rfl⟩:=df hl;rfl
 have F21:=bK (st:=(ai 21)) Fv c21 k21
 have b21:=F21.binds (ps:=["number"]) fun _ _ _ _ _ _ us hl=>by obtain ⟨x0,rfl⟩:=df hl;rfl
 have F20:=bK (st:=(ai 20)) l20 c20 k20
 have b20:=F20.binds (ps:=["number"]) fun _ _ _ _ _ _ us hl=>by obtain ⟨x0,rfl⟩:=df hl;rfl
 have F24:=bK (st:=(ai 24)) l24 c24 k24
 have b24:=F24.binds (ps:=["text"]) fun _ _ _ _ _ _ us hl=>by obtain ⟨x0,rfl⟩:=df hl;rfl
 have F23:=bK (st:=(ai 23)) l23 c23 k23
 have b23:=F23.binds (ps:=["word"]) fun _ _ _ _ _ _ us hl=>by obtain ⟨x0,rfl⟩:=df hl;rfl
 have F19:=bK (st:=(ai 19)) l19 c19 k19
 have b19:=F19.binds (ps:=["word"]) fun _ _ _ _ _ _ us hl=>by obtain ⟨x0,rfl⟩:=df hl;rfl
 have F18:=bK (st:=(ai 18)) l18 c18 k18
 have b18:=F18.binds (ps:=["words"]) fun _ _ _ _ _ _ us hl=>by obtain ⟨x0,rfl⟩:=df hl;rfl
 have F17:=bK (st:=(ai 17)) l17 c17 k17
 have b17:=F17.binds (ps:=["text"]) fun _ _ _ _ _ _ us hl=>by obtain ⟨x0,rfl⟩:=df hl;rfl
 have F27:=bK (st:=(ai 27)) l27 c27 k27
 have b27:=F27.binds (ps:=["_law_found"]) fun _ _ _ _ _ _ us hl=>by obtain ⟨x0,rfl⟩:=df hl;rfl
 have F34:=bK (st:=(ai 34)) l34 c34 k34
 have b34:=F34.binds (ps:=["_law_text"]) fun _ _ _ _ _ _ us hl=>by obtain ⟨x0,rfl⟩:=df hl;rfl
 have F31:=bK (st:=(ai 31)) l31 c31 k31
 have b31:=F31.binds (ps:=["_law_cell_here"]) fun _ _ _ _ _ _ us hl=>by obtain ⟨x0,rfl⟩:=df hl;rfl
 have F30:=bK (st:=(ai 30)) l30 c30 k30
 have b30:=F30.binds (ps:=["_law_cell_here"]) fun _ _ _ _ _ _ us hl=>by obtain ⟨x0,rfl⟩:=df hl;rfl
 have F32:=bK (st:=(ai 32)) l32 c32 k32
 have b32:=F32.binds (ps:=["_law_cell_here", "_law_half"]) fun _ _ _ _ _ _ us hl=>by obtain ⟨x0,x1,rfl⟩:=rY hl;rfl
 have F28:=bK (st:=(ai 28)) l28 c28 k28
 have b28:=F28.binds (ps:=["_law_found", "_law_due_here"]) fun _ _ _ _ _ _ us hl=>by obtain ⟨x0,x1,rfl⟩:=rY hl;rfl
 have F16:=bK (st:=(ai 16)) l16 c16 k16
 have b16:=F16.binds (ps:=["part"]) fun _ _ _ _ _ _ us hl=>by obtain ⟨x0,rfl⟩:=df hl;rfl
 have F15:=bK (st:=(ai 15)) l15 c15 k15
 have b15:=F15.binds (ps:=["four"]) fun _ _ _ _ _ _ us hl=>by obtain ⟨x0,rfl⟩:=df hl;rfl
 have F35:=bK (st:=(ai 35)) l35 c35 k35
 have DR:=bK (st:=(jz (ai 7) 0)) wt Jn Im
 have Jo:=DR.binds (ps:=["self", "at"]) fun _ _ _ _ _ _ us hl=>by obtain ⟨x0,x1,rfl⟩:=rY hl;rfl
 have hEI:∀base k,2<=k->DS l.prog w K mg base k EX:=fun base k hk=>CG (aj (Pr:=Fy l.prog w K mg base k) (⟨bF,gb,(fun z=>by cases z),fun _ z=>by cases z;exact ⟨1,lR,_,_,["self", "at"],hk,sU,wt,Cs sR wt,sT,vD DR rfl Eb ⟨rfl,rfl⟩ ⟨by decide +kernel,by decide +kernel⟩ rfl (W.mg_of X G ip) m7 m5 m8 mr mq sS mm rfl (by decide +kernel) rfl (by decide +kernel),Jo⟩⟩) (aC))
 refine ⟨W.fnOf "law" "law" (bc (ai 35)) (ak (ai 35)) (ac (ai 35)) .none Cb C4 Bn DA wK C6,fun s v=>.of_eq rfl,fun base _ _=>?_⟩
 have D26:cV l.prog w K mg base 3 "_law_cell" j9:=b4 F26 Gr (W.mg_of X G a26) b26 (by decide +kernel) (bH (aC) (aC) bW bV bU bT aY hbl) pT
 have D29:cV l.prog w K mg base 3 "_law_part" dR:=b4 F29 Go (W.mg_of X G a29) b29 (by decide +kernel) (bH (aC) (aC) bW bV bU bT aY hbl) cS.self
 have D33:cV l.prog w K mg base 4 "_law_due" mj:=b4 F33 Gj (W.mg_of X G a33) b33 (by decide +kernel) (bH (cL D29 (aC)) (aC) bW bV bU bT aY hbl) cS.self
 have D22:cV l.prog w K mg base 3 "has_too_many_figures" b0:=b4 F22 Gw (W.mg_of X G a22) b22 (by decide +kernel) (bH (aC) (aj (Pr:=du mg K) (qK (W.mg_of X G g2)) (aC)) bW bV bU bT aY hbl) cS.self
 have D21:cV l.prog w K mg base 4 "doubled_or_none" bQ:=b4 F21 Gx (W.mg_of X G a21) b21 (by decide +kernel) (bH (cL D22 (aC)) (aC) bW bV bU bT aY hbl) cS.self
 have D20:cV l.prog w K mg base 3 "odd_or_none" cz:=b4 F20 Gy (W.mg_of X G a20) b20 (by decide +kernel) (bH (aC) (aC) bW bV bU bT aY hbl) cS.self
 have D24:cV l.prog w K mg base 3 "are_figures" dJ:=b4 F24 Gu (W.mg_of X G a24) b24 (by decide +kernel) (bH (aC) (aj (Pr:=du mg K) (qK (W.mg_of X G g2)) (aj (Pr:=du mg K) (Ah (W.mg_of X G g1)) (aC))) bW bV bU bT aY hbl) cS.self
 have D23:cV l.prog w K mg base 4 "whole_read" cv:=b4 F23 Gv (W.mg_of X G a23) b23 (by decide +kernel) (bH (cL D24 (aC)) (aC) bW bV bU bT aY hbl) cS.self
 have D19:cV l.prog w K mg base 5 "part_read" cZ:=b4 F19 Gz (W.mg_of X G a19) b19 (by decide +kernel) (bH (cL D21 (cL D20 (cL D23 (aC)))) (aC) bW bV bU bT aY hbl) cS.self
 have Q18:jb l.prog w K mg base 6 "parts_read" dk:=.inl ⟨_,_,["words"],qF (Ex:=EX) F18 A8 (bH (cL D19 (aC)) (aC) bW bV bU bT aY hbl) (n8 (aC)) hmg (hEI _ _ (by decide)) lr,W.mg_of X G a18,k18,b18,by decide +kernel⟩
 have D18:cV l.prog w K mg base 6 "parts_read" dr:=b4 F18 A8 (W.mg_of X G a18) b18 (by decide +kernel) (bH (cL D19 (aC)) (aC) bW bV bU bT aY hbl) cS.self
 have Q17:jb l.prog w K mg base 7 "four_read" bZ:=.inl ⟨_,_,["text"],qF (Ex:=EX) F17 A9 (bH (cL D18 (aC)) (aC) bW bV bU bT aY hbl) (n8 (aj (Pr:=DQ l.prog w K mg base 6) (Q18.mono (by decide)) (aC))) hmg (hEI _ _ (by decide)) md,W.mg_of X G a17,k17,b17,by decide +kernel⟩
 have D17:cV l.prog w K mg base 7 "four_read" ck:=b4 F17 A9 (W.mg_of X G a17) b17 (by decide +kernel) (bH (cL D18 (aC)) (aC) bW bV bU bT aY hbl) cS.self
 have D27:cV l.prog w K mg base 3 "_law_whole" gh:=b4 F27 Gq (W.mg_of X G a27) b27 (by decide +kernel) (bH (aC) (aC) bW bV bU bT aY hbl) cS.self
 have D34:cV l.prog w K mg base 8 "_law_met" fA:=uO (Ct (pre:=(ak (ai 34)).take 2) (tb:=AH ((ak (ai 34)).getD 2 (.Pass ⟨0,0,0,0⟩))) (post:=(ak (ai 34)).drop 3) (Ψ:=qR) (Ex:=EX) F34 Gi (bH (cL D17 (cL D27 (aC))) (aj (Pr:=du mg K) (dG (W.mg_of X G lg) lg (dC rn sv)) (aj (Pr:=du mg K) (dG (W.mg_of X G mR) mR (dC tX vf)) (aj (Pr:=du mg K) (dG (W.mg_of X G mQ) mQ (dC tW ve)) (aj (Pr:=du mg K) (dG (W.mg_of X G le) le (dC rm su)) (aj (Pr:=du mg K) (dG (W.mg_of X G ld) ld (dC rk sr)) (aj (Pr:=du mg K) (dG (W.mg_of X G mP) mP (dC tV vd)) (aj (Pr:=du mg K) (dG (W.mg_of X G mO) mO (dC tT u9)) (aj (Pr:=du mg K) (dG (W.mg_of X G mM) mM (dC tS u8)) (aj (Pr:=du mg K) (dG (W.mg_of X G jL) jL (dC pH pM)) (aj (Pr:=du mg K) (dG (W.mg_of X G gb) gb (dC tU vc)) (aC))))))))))) bW bV bU bT aY hbl) (n8 (aj (Pr:=DQ l.prog w K mg base 7) (Q17.mono (by decide)) (aC))) hmg hEx rfl rfl (by decide +kernel) rfl rfl (by decide +kernel) (by decide +kernel) (by decide +kernel) sK) (W.mg_of X G a34) k34 b34 (by decide +kernel)
 have D31:cV l.prog w K mg base 3 "_law_long" kg:=b4 F31 Gm (W.mg_of X G a31) b31 (by decide +kernel) (bH (aC) (aC) bW bV bU bT aY hbl) cS.self
 have D30:cV l.prog w K mg base 3 "_law_odd" mh:=b4 F30 Gn (W.mg_of X G a30) b30 (by decide +kernel) (bH (aC) (aC) bW bV bU bT aY hbl) cS.self
 have D32:cV l.prog w K mg base 4 "_law_word" ka:=b4 F32 Gk (W.mg_of X G a32) b32 (by decide +kernel) (bH (cL D31 (cL D30 (aC))) (aC) bW bV bU bT aY hbl) cS.self
 have D28:cV l.prog w K mg base 4 "_law_is" pz:=b4 F28 Gp (W.mg_of X G a28) b28 (by decide +kernel) (bH (cL D27 (aC)) (aC) bW bV bU bT aY hbl) cS.self
 have D16:cV l.prog w K mg base 3 "part_text" gu:=uO (Cu (pre:=(ak (ai 16)).take 1) F16 GA (bH (aC) (aC) bW bV bU bT aY hbl) rfl (me)) (W.mg_of X G a16) k16 b16 (by decide +kernel)
 have D15:cV l.prog w K mg base 4 "four_text" gv:=b4 F15 GB (W.mg_of X G a15) b15 (by decide +kernel) (bH (cL D16 (aC)) (aC) bW bV bU bT aY hbl) mf
 exact qE F35 Gh (bH (cL D26 (cL D33 (cL D34 (cL D32 (cL D28 (cL D15 (cL D27 (cL D29 (aC))))))))) (aC) bW bV bU bT aY hbl) cS.self
theorem walkX {q:Program} {loose:List Str} {XP:(Str->Option Value)->Heap->Prop} {r:W.RowW} {d:DefRec} {kwd:List (Str×Expr)} {run:Value->List Value->Sem Value} {K:Params->W.Frag} {as:List Addr} {n t:Nat}
  (e:∀P,as=(K P).map (·.1)) (h:W.WalkO q loose XP (W.InK K) r d kwd run):W.WalkX q loose XP (W.X.obsZ as) (W.X.valZ K n t) r d kwd run :=
 fun w _ _ mg mb G y a o pm cd doc dV kV h1 h2 h3 h4 h5 h6 args vals as' L =>
  h w _ _ mg mb G (W.InK.keeps w _ _ (W.X.z_facts e y).2.1 L.keeps) a o pm cd doc dV kV h1 h2 h3 h4 h5 h6 args vals as'
theorem walk {l:W.OpenLaw} {q:Program} {loose:List Str} {XP:(Str->Option Value)->Heap->Prop} {YP:World->Heap->Prop} {d:DefRec} {K:Params->W.Frag} (hn:l.most=some 63) (hdf:d.params.defaults=[])
  (hY:∀(w:World) (h:Heap),YP w h->(K w.params).In h)
  (F:∀(w:World) (mg:Str->Option Value) (fa:Addr) (h:Heap),(K w.params).In h->h.Ns mainGlobals mg->mg d.name=some (.ref fa) ->
   ∃fd:FuncData,(∀(s:Shared) (u:Value),BindsTo s fd ⟨[u],[]⟩ [("_law_script", u)])/\∀base:Heap,(K w.params).In base->base.Ns mainGlobals mg->bv l.prog w (K w.params) mg base cU 9 fa fd ["_law_script"] (ii (K w.params) ny)) :
  W.WalkO q loose XP YP l.row.toRowW d [] (fun f vs=>PySem.call f vs) :=
 L2.walk_of (n:=63) (k:=9) (x := "_law_script") (CX:=fun _=>cU) (sp:=fun w=>ii (K w.params) ny) hn (by decide) hdf ⟨rfl,by decide,by decide⟩ hY F (fun _ _ a ns hl hO hS=>Cp hO hS (wq ns hl)) fun _ _ _ _ _ z=>z
end K
namespace PySem.W.Fast
theorem tw15785351301378732522:True:=.intro
theorem tw13523193949298683601:True:=.intro
theorem tw15462440984645900627:True:=.intro
theorem tw17927720990221841260:True:=.intro
theorem tw8859672853822753640:True:=.intro
theorem tw7912027919839012463:True:=.intro
theorem tw13399669219839346038:True:=.intro
theorem tw9836774800490333033:True:=.intro
theorem tw4802599931041265604:True:=.intro
theorem tw5043839096658113881:True:=.intro
theorem tw4977202949089930741:True:=.intro
theorem tw11431944705816630541:True:=.intro
theorem tw15165846162515884550:True:=.intro
theorem tw15128346311342497510:True:=.intro
theorem tw6330056744151660803:True:=.intro
theorem tw17354131548288584327:True:=.intro
theorem tw4861050824440790497:True:=.intro
theorem tw7219129068767953348:True:=.intro
theorem tw16530939676010121031:True:=.intro
theorem tw924326127223450082:True:=.intro
theorem tw682024909144172000:True:=.intro
theorem tw2018073227584512351:True:=.intro
theorem tw12911800757404776242:True:=.intro
theorem tw8494381949986751607:True:=.intro
theorem tw7119792488240736168:True:=.intro
theorem tw13271832969690054104:True:=.intro
theorem tw6260729645658342213:True:=.intro
theorem tw13617697077121148446:True:=.intro
theorem tw988692255722565227:True:=.intro
theorem tw3107284204634838618:True:=.intro
theorem tw12135807872837944979:True:=.intro
theorem tw13522529573577647736:True:=.intro
theorem tw6313251486195619145:True:=.intro
theorem tw3183961129555184903:True:=.intro
theorem tw12584089445001090700:True:=.intro
theorem tw1689955405214183613:True:=.intro
theorem tw13514948716021714453:True:=.intro
theorem tw49162473526546927:True:=.intro
theorem tw17571933510147809275:True:=.intro
theorem tw5895450992008737778:True:=.intro
theorem tw197822449152122031:True:=.intro
theorem tw13470912006769498475:True:=.intro
theorem tw2783535348900531868:True:=.intro
theorem tw7777184736778609109:True:=.intro
theorem tw533460159703548735:True:=.intro
theorem tw13729854978348158646:True:=.intro
theorem tw749020609105977704:True:=.intro
theorem tw4574427595226331701:True:=.intro
theorem tw8881147899630083051:True:=.intro
theorem tw1108069958941760237:True:=.intro
theorem tw14057607269458558214:True:=.intro
theorem tw17126979431491246262:True:=.intro
theorem tw2923643144209583673:True:=.intro
theorem tw5128741040931632924:True:=.intro
theorem tw15596476476350428019:True:=.intro
theorem tw5286826073526834503:True:=.intro
theorem tw10229738862472013287:True:=.intro
theorem tw3288713198514745780:True:=.intro
theorem tw13436163552013480157:True:=.intro
theorem tw11105216680203729928:True:=.intro
theorem tw16708312328981375698:True:=.intro
theorem tw3660869164118550021:True:=.intro
theorem tw8734087831905963920:True:=.intro
theorem tw1537017784357265398:True:=.intro
theorem tw637929051808001371:True:=.intro
theorem tw13081548108309634471:True:=.intro
theorem tw4774275014122100609:True:=.intro
theorem tw15236164250135843537:True:=.intro
theorem tw1960586333336776000:True:=.intro
theorem tw12208803250664542379:True:=.intro
theorem tw2146395270110935445:True:=.intro
theorem tw4313009754571987930:True:=.intro
theorem tw11422859292317075460:True:=.intro
theorem tw16134503572480369981:True:=.intro
theorem tw15224701542475448767:True:=.intro
theorem tw2274843454901337815:True:=.intro
theorem tw7461440845248105963:True:=.intro
theorem tw15161414002786513678:True:=.intro
theorem tw342035417638064318:True:=.intro
theorem tw1064563803052362110:True:=.intro
theorem tw1721701624667511662:True:=.intro
theorem tw3524758523370750884:True:=.intro
theorem tw5129784825114767752:True:=.intro
theorem tw8587528686864793390:True:=.intro
theorem tw7253105435786152213:True:=.intro
theorem tw14016541625344708038:True:=.intro
theorem tw40479353200491527:True:=.intro
theorem tw5852263720341114628:True:=.intro
theorem tw4668195009591820980:True:=.intro
theorem tw15625163403911232756:True:=.intro
theorem tw14330420798089516581:True:=.intro
theorem tw8092596988631826035:True:=.intro
theorem tw2360043278162613555:True:=.intro
theorem tw8931889314287819168:True:=.intro
theorem tw14024746636789143474:True:=.intro
theorem tw4785449934168302066:True:=.intro
theorem tw2239620899845675935:True:=.intro
theorem tw15750565903765487674:True:=.intro
theorem tw10283797303608759061:True:=.intro
theorem tw823685183456843714:True:=.intro
theorem tw6123469021210892476:True:=.intro
theorem tw6108596045449966728:True:=.intro
theorem tw2637364444394843033:True:=.intro
theorem tw16194311274068376032:True:=.intro
theorem tw9845158255076185206:True:=.intro
theorem tw6407470623832888219:True:=.intro
theorem tw11855756659954840614:True:=.intro
theorem tw3610058598588283734:True:=.intro
theorem tw16354112129646053214:True:=.intro
theorem tw300224683269765225:True:=.intro
theorem tw8668518193229776664:True:=.intro
theorem tw11848919905417429010:True:=.intro
theorem tw10137500069878530448:True:=.intro
theorem tw3897601156012034539:True:=.intro
theorem tw7630357534114925765:True:=.intro
theorem tw10923588987069544220:True:=.intro
theorem tw14710294215584267612:True:=.intro
theorem tw142486784520009255:True:=.intro
theorem tw4076598488682382587:True:=.intro
theorem tw15580924566582307521:True:=.intro
theorem tw6299204819616703677:True:=.intro
theorem tw2836760784795679095:True:=.intro
theorem tw2648316776542805559:True:=.intro
theorem tw6689164069472542271:True:=.intro
theorem tw423085998225144543:True:=.intro
theorem tw11288176367346540280:True:=.intro
theorem tw6672742553143118705:True:=.intro
theorem tw5268846042386639441:True:=.intro
theorem tw8265666535649121876:True:=.intro
theorem tw1667175911270417235:True:=.intro
theorem tw6576375796761568611:True:=.intro
theorem tw1236804632589645215:True:=.intro
theorem tw8893034072896489896:True:=.intro
theorem tw11415618025371895193:True:=.intro
theorem tw4572452101418154274:True:=.intro
theorem tw12964009041004556449:True:=.intro
theorem tw1504460311391806817:True:=.intro
theorem tw5993920952672473696:True:=.intro
theorem tw15823826883601670935:True:=.intro
theorem tw15975386020629908310:True:=.intro
theorem tw17412711615685548998:True:=.intro
theorem tw4825038085484525945:True:=.intro
theorem tw3944309893804341016:True:=.intro
theorem tw11674857143768595372:True:=.intro
theorem tw8568245925317820741:True:=.intro
theorem tw2312328855380111931:True:=.intro
theorem tw3522329617615565608:True:=.intro
theorem tw3699700172232554481:True:=.intro
theorem tw3295791575851624212:True:=.intro
theorem tw3924494922714941257:True:=.intro
theorem tw13900978689442762244:True:=.intro
theorem tw3719417841951206832:True:=.intro
theorem tw915183269055078829:True:=.intro
theorem tw6082488045573368322:True:=.intro
theorem tw12325545957641762975:True:=.intro
theorem tw7895894485308006305:True:=.intro
theorem tw7059466536958981410:True:=.intro
theorem tw14161512160027205833:True:=.intro
theorem tw11175496295446879649:True:=.intro
theorem tw12278844169272786745:True:=.intro
theorem tw17172918980852994799:True:=.intro
theorem tw12615267386525443149:True:=.intro
theorem tw17229517336550871554:True:=.intro
theorem tw2317523005824517141:True:=.intro
theorem tw18020265843105449644:True:=.intro
theorem tw4597967967947942274:True:=.intro
theorem tw12430327574451101701:True:=.intro
theorem tw3456353571862174551:True:=.intro
theorem tw164928032001899931:True:=.intro
theorem tw2057522376041671112:True:=.intro
theorem tw14771542315325332056:True:=.intro
theorem tw15587163999280547206:True:=.intro
theorem tw15335516120287049739:True:=.intro
theorem tw6034671414715029606:True:=.intro
theorem tw3519153074178505121:True:=.intro
theorem tw7772323297232360587:True:=.intro
theorem tw859016053191837288:True:=.intro
theorem tw15213616397830445070:True:=.intro
theorem tw3135349354157090257:True:=.intro
theorem tw8822688140077715289:True:=.intro
theorem tw8654267764959746381:True:=.intro
theorem tw6078780840666797454:True:=.intro
theorem tw18043891798739648759:True:=.intro
theorem tw9892814853044158418:True:=.intro
theorem tw4012739486528150994:True:=.intro
theorem tw7056973606048973052:True:=.intro
theorem tw7433293663917957913:True:=.intro
theorem tw17189241947909473465:True:=.intro
theorem tw16351920445646692141:True:=.intro
theorem tw10136605287302764042:True:=.intro
theorem tw509913172442272009:True:=.intro
theorem tw4837841963453342324:True:=.intro
theorem tw11232513354632773954:True:=.intro
theorem tw8911090026878662908:True:=.intro
theorem tw10155374554070473835:True:=.intro
end PySem.W.Fast
namespace PySem.W.Fast
end PySem.W.Fast
open PySem PySem.W PyProof.Rows
set_option maxRecDepth 100000 in
set_option maxHeartbeats 0 in
theorem PySem.Challenge.cw_spaceturns_k04_words_that_write_no_four_holds : PySem.Challenge.rw_spaceturns_k04_words_that_write_no_four.Holds := by
 w_on;o_law;z_head;(case hw=>w_witness2)
 k_fill
 refine K.walkX (fun _=>rfl) (K.walk (l:=PySem.Challenge.rw_spaceturns_k04_words_that_write_no_four) rfl rfl (fun w h Y=>Y) ?F)
 case F =>
  intro w mg fa h KX G hmg
  refine' K.all_mk KX G hmg ?_ ?_ ?_ ?_ ?_ ?_ ?_ ?_ ?_ ?_ ?_ ?_ ?_ ?_ ?_ ?_ ?_ ?_ ?_ ?_ ?_ ?_ ?_ ?_ ?_ ?_ ?_ ?_ ?_ ?_ ?_ ?_ ?_ ?_ ?_ ?_ ?_ ?_ ?_ ?_ ?_ ?_ ?_ ?_ ?_ ?_ ?_ ?_ ?_ ?_ ?_ ?_ ?_ ?_ ?_ ?_ ?_ ?_ ?_ ?_ ?_ ?_ ?_ ?_ ?_ ?_ ?_ ?_ ?_ ?_ ?_ ?_ ?_ ?_ ?_ ?_ ?_ ?_ ?_ ?_ ?_ ?_ ?_ ?_ ?_ ?_ ?_ ?_ ?_ ?_ ?_ ?_ ?_ ?_ ?_ ?_ ?_ ?_ ?_ ?_ ?_ ?_ ?_ ?_ ?_ ?_ ?_ ?_ ?_ ?_ ?_ ?_ ?_ ?_ ?_ ?_ ?_ ?_ ?_ ?_ ?_ ?_ ?_ ?_ ?_ ?_ ?_ ?_ ?_ ?_ ?_ ?_ ?_ ?_ ?_ ?_ ?_ ?_ ?_ ?_ ?_ ?_ ?_ ?_ ?_ ?_ ?_ ?_ ?_ ?_ ?_ ?_ ?_ ?_
  all_goals try first|k_is|kernel_rfl
