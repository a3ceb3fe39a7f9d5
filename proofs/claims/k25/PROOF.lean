import PyProof.Rows.All
import Wide.All
import OpenK.AllK
import Wide.FinOn
import Lean
import PyProof.EqAt
import PyProof.EqKinds
import PyProof.TupleCall
import PySem.Challenge.RW_spaceturns_k25_many_primes
set_option Elab.async false
set_option linter.all false
set_option maxRecDepth 100000
namespace L2
open PySem PySem.Spec PyProof.Rows
abbrev bI := Sum Int Str
def kz : bI -> Value -> Bool
  | .inl k, v => Value.isInt k v
  | .inr x, v => Value.isStrOf x v
def Ks (w : World) : bI -> Int
  | .inl k => hashInt k
  | .inr x => hashStr w x
theorem cq : ∀ {k : bI} {v : Value}, kz k v = true -> (∃ i t, k = Sum.inl i /\ v = Value.int i t) \/ (∃ x t, k = Sum.inr x /\ v = Value.str x t)
  | .inl i, v, h => by
    obtain ⟨t, e⟩ := Value.isInt_shape (k := i) (v := v) h
    exact .inl ⟨i, t, rfl, e⟩
  | .inr x, v, h => by
    obtain ⟨t, e⟩ := Value.isStrOf_shape (x := x) (v := v) h
    exact .inr ⟨x, t, rfl, e⟩
theorem vV (i : Int) (t : Tok) : kz (.inl i) (.int i t) = true := by simp [kz, Value.isInt]
theorem vU (x : Str) (t : Tok) : kz (.inr x) (.str x t) = true := by simp [kz, Value.isStrOf]
theorem Dw (a b : Int) : decide ((Sum.inl a : bI) = Sum.inl b) = (a == b) := by
  by_cases e : a = b
  . subst e; simp
  . have h : ¬ (Sum.inl a : bI) = Sum.inl b := fun q => e (Sum.inl.inj q)
    rw [decide_eq_false h]
    exact (beq_eq_false_iff_ne.mpr e).symm
theorem Ds (a b : Str) : decide ((Sum.inr a : bI) = Sum.inr b) = decide (a = b) := by
  by_cases e : a = b
  . subst e; simp
  . have h : ¬ (Sum.inr a : bI) = Sum.inr b := fun q => e (Sum.inr.inj q)
    rw [decide_eq_false h, decide_eq_false e]
theorem Du (a : Int) (b : Str) : decide ((Sum.inl a : bI) = Sum.inr b) = false := decide_eq_false (fun q => nomatch q)
theorem Dt (a : Str) (b : Int) : decide ((Sum.inr a : bI) = Sum.inl b) = false := decide_eq_false (fun q => nomatch q)
def e9 (prog : Program) (w : World) : PySem.KeyKind prog w bI where
  is := kz
  hash := Ks w
  inj := fun v a b ha hb => by
    rcases cq ha with ⟨i, t, rfl, rfl⟩ | ⟨x, t, rfl, rfl⟩
    . rcases cq hb with ⟨j, u, rfl, e⟩ | ⟨y, u, rfl, e⟩
      . injection e with e1 _; rw [e1]
      . exact nomatch e
    . rcases cq hb with ⟨j, u, rfl, e⟩ | ⟨y, u, rfl, e⟩
      . exact nomatch e
      . injection e with e1 _; rw [e1]
  byValue := fun k v h => by
    rcases cq h with ⟨i, t, rfl, rfl⟩ | ⟨x, t, rfl, rfl⟩ <;> rfl
  pyHash := fun hv h => by
    rcases cq hv with ⟨i, t, rfl, rfl⟩ | ⟨x, t, rfl, rfl⟩
    . exact wpAny_pyHash_int h
    . exact wpAny_pyHash_str h
  eqBool := fun hu hv h => by
    rcases cq hu with ⟨i, t, rfl, rfl⟩ | ⟨x, t, rfl, rfl⟩
    . rcases cq hv with ⟨j, u, rfl, rfl⟩ | ⟨y, u, rfl, rfl⟩
      . rw [Dw] at h; exact wpAny_eqBool_int h
      . rw [Du] at h; exact SeqAt.EqAt.int_str i t y u _ _ _ _ h
    . rcases cq hv with ⟨j, u, rfl, rfl⟩ | ⟨y, u, rfl, rfl⟩
      . rw [Dt] at h; exact SeqAt.EqAt.str_int x t j u _ _ _ _ h
      . rw [Ds] at h; exact wpAny_eqBool_str h
  «strs» := fun k x t v h => by
    rcases cq h with ⟨i, u, rfl, e⟩ | ⟨y, u, rfl, e⟩
    . exact nomatch e
    . injection e with e1 _
      subst e1
      cases v <;> rfl
theorem sg (prog : Program) (w : World) (i : Int) (t : Tok) : (e9 prog w).is (.inl i) (.int i t) = true := vV i t
theorem se (prog : Program) (w : World) (x : Str) (t : Tok) : (e9 prog w).is (.inr x) (.str x t) = true := vU x t
end L2
namespace L2
open PySem PySem.Spec PyProof.Rows
inductive V where
  | non | bl (b : Bool) | int (i : Int) | str (x : Str) | byt (b : Array UInt8) | flt (b : UInt64) | ref (a : Addr) | ty (n : String)
  deriving DecidableEq
def aP : V -> Value -> Prop
  | .non, u => u = Value.none
  | .bl b, u => u = Value.bool b
  | .int i, u => ∃ t, u = Value.int i t
  | .str x, u => ∃ t, u = Value.str x t
  | .byt b, u => ∃ t, u = Value.bytes b t
  | .flt b, u => ∃ t, u = Value.float b t
  | .ref a, u => u = Value.ref a
  | .ty n, u => u = Value.type n
abbrev aF : List V -> List Value -> Prop := Paired aP
theorem aF.length {xs : List V} {us : List Value} (r : aF xs us) : xs.length = us.length := Paired.length r
theorem aF.get : ∀ {xs : List V} {us : List Value} {i : Nat} {x : V}, aF xs us -> xs[i]? = some x -> ∃ u, us[i]? = some u /\ aP x u
  | _, _, _, _, .nil, e => by simp at e
  | _, _, 0, _, .cons r _, e => by simp at e; subst e; exact ⟨_, rfl, r⟩
  | _, _, i + 1, x, .cons _ t, e => by
    obtain ⟨u, h1, h2⟩ := aF.get (i := i) (x := x) t (by simpa using e)
    exact ⟨u, by simpa using h1, h2⟩
theorem aF.set {x : V} {u : Value} (r : aP x u) : ∀ {xs : List V} {us : List Value} (i : Nat), aF xs us -> aF (xs.set i x) (us.set i u)
  | _, _, _, .nil => .nil
  | _, _, 0, .cons _ t => .cons r t
  | _, _, i + 1, .cons q t => .cons q (aF.set r i t)
theorem aF.append : ∀ {xs ys : List V} {us ws : List Value}, aF xs us -> aF ys ws -> aF (xs ++ ys) (us ++ ws)
  | _, _, _, _, .nil, s => s
  | _, _, _, _, .cons r t, s => .cons r (aF.append t s)
theorem aF.take : ∀ {xs : List V} {us : List Value} (n : Nat), aF xs us -> aF (xs.take n) (us.take n)
  | _, _, 0, _ => .nil
  | _, _, _ + 1, .nil => .nil
  | _, _, n + 1, .cons r t => .cons r (aF.take n t)
theorem aF.drop : ∀ {xs : List V} {us : List Value} (n : Nat), aF xs us -> aF (xs.drop n) (us.drop n)
  | _, _, 0, r => r
  | _, _, _ + 1, .nil => .nil
  | _, _, n + 1, .cons _ t => aF.drop n t
theorem aF.none_of : ∀ {xs : List V} {us : List Value} {i : Nat}, aF xs us -> xs[i]? = none -> us[i]? = none := fun {xs us i} r e => by
  have h1 := r.length
  have h2 : xs.length <= i := List.getElem?_eq_none_iff.mp e
  exact List.getElem?_eq_none_iff.mpr (by omega)
def eB : Option V -> Option Value -> Prop
  | some v, some u => aP v u
  | none, none => True
  | _, _ => False
def KV {κ : Type} : List (κ × V) -> List (κ × Value) -> Prop := Paired fun (p : κ × V) (q : κ × Value) => p.1 = q.1 /\ aP p.2 q.2
def kV : bI -> V
  | .inl i => .int i
  | .inr x => .str x
inductive HO where
    | lst (xs : List V)
    | tup (xs : List V)
    | dK (kvs : List (bI × V)) | dT (kvs : List (List bI × V))
    | set (S : Int -> Bool) (n : Nat)
    | ins (C dx : Addr) (fs : List (Str × V))
    | own (x : Addr)
    | xd (fs : List (Str × V))
    | met (f x : Addr)
    | rng (lo hi : Int)
    | frz (o : Obj) (u : HO)
    | tbl (ps : Array Value)
    | ext (φ : Heap -> Prop)
abbrev Hp := Addr -> Option HO
def aU (H : Hp) (a : Addr) (o : HO) : Hp := fun b => if b = a then some o else H b
theorem aL {H : Hp} {a : Addr} {o : HO} : aU H a o a = some o := by unfold aU; rw [if_pos rfl]
theorem aC {H : Hp} {a b : Addr} {o : HO} (h : b ≠ a) : aU H a o b = H b := by unfold aU; rw [if_neg h]
theorem kl {H : Hp} {a b : Addr} {o u : HO} (h : H a = some o) (h' : H b = some u) (d : o ≠ u) : a ≠ b := by
  intro e; subst e; rw [h] at h'; exact d (Option.some.inj h')
theorem aX {H : Hp} {a b : Addr} {o : HO} (h : H a = some o) (h' : H b = none) : a ≠ b := by
  intro e; subst e; rw [h] at h'; cases h'
section
variable (P : Program) (w : World)
def bA (H : Hp) (h : Heap) (a : Addr) : HO -> Prop
  | .lst xs => xs.length <= sizeLine /\ ∃ (its : List Value) (n : Nat), aF xs its /\ h.get? a = some { cls := .type "list", data := .seq its.toArray n }
  | .tup xs => xs.length <= sizeLine /\ ∃ its : List Value, aF xs its /\ IsTup h a its.toArray
  | .dK kvs => kvs.length <= sizeLine /\ (a == sysModules) = false /\ ∃ vs, KV kvs vs /\ h.DictOf (e9 P w) a vs
  | .dT kvs => kvs.length <= sizeLine /\ (a == sysModules) = false /\ ∃ xs : List (List bI × Addr × Value),
      Paired (fun (p : List bI × V) (q : List bI × Addr × Value) => p.1 = q.1 /\ H q.2.1 = some (.tup (p.1.map kV)) /\ aP p.2 q.2.2) kvs xs /\
      ∃ o es ep, h.get? a = some o /\ o.ExactDict /\ o.data = .dict es ep /\ es.toList = xs.map (entryOfKey (tupleKind (e9 P w))) /\ (xs.map (·.1)).Nodup
  | .set S n => h.SetOf (intKind P w) a S n
  | .ins C dx fs => H dx = some (.own a) /\ fs.length <= 1000 /\ dx ≠ a /\ h.get? a = some (W.instObj C dx) /\
      ∃ mA, h.Ns1 dx mA /\ (∀ f, eB (fs.lookup f) (mA f)) /\ PySem.Within mA (fs.map (·.1))
  | .own _ => ∃ o, h.get? a = some o
  | .xd fs => ∃ mA, h.Ns1 a mA /\ ∀ f, eB (fs.lookup f) (mA f)
  | .rng lo hi => ∃ t u v, h.get? a = some { cls := .type "range", data := .fields #[.int lo t, .int hi u, .int 1 v] }
  | .frz o u => h.get? a = some o /\ bA H h a u
  | .tbl ps => h.get? a = some { cls := .none, data := .fields ps }
  | .met f x => h.get? a = some (W.methodObj (.ref f) (.ref x))
  | .ext φ => φ h /\ (∃ o, h.get? a = some o) /\ ∀ h1 h2 : Heap, φ h1 -> (∀ o, h1.get? a = some o -> h2.get? a = some o) -> φ h2
def cZ (H : Hp) (h : Heap) : Prop := ∀ a o, H a = some o -> bA P w H h a o
end
section
variable {P : Program} {w : World} {H H' : Hp} {h h' : Heap} {a : Addr} {o : HO}
theorem bA.lt (x : bA P w H h a o) : a < h.objs.size := by
  cases o with
  | lst xs => obtain ⟨_, _, _, _, e⟩ := x; exact Heap.lt_size e
  | tup xs => obtain ⟨_, _, _, p⟩ := x; exact p.lt
  | dK kvs => obtain ⟨_, _, _, _, o, _, _, e, _⟩ := x; exact Heap.lt_size e
  | dT kvs => obtain ⟨_, _, _, _, o, _, _, e, _⟩ := x; exact Heap.lt_size e
  | set S n => obtain ⟨o, _, _, _, e, _⟩ := x; exact Heap.lt_size e
  | ins C dx fs => obtain ⟨_, _, _, e, _⟩ := x; exact Heap.lt_size e
  | own y => obtain ⟨_, e⟩ := x; exact Heap.lt_size e
  | xd fs => obtain ⟨_, ⟨_, _, _, e, _⟩, _⟩ := x; exact Heap.lt_size e
  | rng lo hi => obtain ⟨_, _, _, e⟩ := x; exact Heap.lt_size e
  | frz ob u => obtain ⟨e, _⟩ := x; exact Heap.lt_size e
  | tbl ps => exact Heap.lt_size (show h.get? a = some _ from x)
  | met f y => exact Heap.lt_size (show h.get? a = some _ from x)
  | ext φ => obtain ⟨_, ⟨_, e⟩, _⟩ := x; exact Heap.lt_size e
theorem Paired.mapP {α β : Type} {F G : α -> β -> Prop} : ∀ {l₁ : List α} {l₂ : List β}, Paired F l₁ l₂ -> (∀ a b, F a b -> G a b) -> Paired G l₁ l₂
  | _, _, .nil, _ => .nil
  | _, _, .cons r t, f => .cons (f _ _ r) (Paired.mapP t f)
theorem bA.stay (x : bA P w H h a o) (k : ∀ b u, (b = a \/ H b = some (.own a)) -> h.get? b = some u -> h'.get? b = some u)
    (ho : ∀ b, H b = some (.own a) -> H' b = some (.own a)) (ht : ∀ b xs, H b = some (.tup xs) -> H' b = some (.tup xs)) : bA P w H' h' a o := by
  induction o with
  | lst xs => obtain ⟨z, its, n, r, e⟩ := x; exact ⟨z, its, n, r, k _ _ (.inl rfl) e⟩
  | tup xs => obtain ⟨z, its, r, ob, e, c⟩ := x; exact ⟨z, its, r, ob, k _ _ (.inl rfl) e, c⟩
  | dK kvs => obtain ⟨z, y, vs, r, ob, es, ep, e, c⟩ := x; exact ⟨z, y, vs, r, ob, es, ep, k _ _ (.inl rfl) e, c⟩
  | dT kvs =>
    obtain ⟨z, y, xs, r, ob, es, ep, e, c⟩ := x
    exact ⟨z, y, xs, Paired.mapP r fun p q z => ⟨z.1, ht _ _ z.2.1, z.2.2⟩, ob, es, ep, k _ _ (.inl rfl) e, c⟩
  | set S n => obtain ⟨ob, es, ep, t, e, c⟩ := x; exact ⟨ob, es, ep, t, k _ _ (.inl rfl) e, c⟩
  | ins C dx fs =>
    obtain ⟨d, z, ne, e, mA, ⟨od, es, ep, e2, c⟩, r⟩ := x
    exact ⟨ho _ d, z, ne, k _ _ (.inl rfl) e, mA, ⟨od, es, ep, k _ _ (.inr d) e2, c⟩, r⟩
  | own y => obtain ⟨ob, e⟩ := x; exact ⟨ob, k _ _ (.inl rfl) e⟩
  | xd fs => obtain ⟨mA, ⟨od, es, ep, e, c⟩, r⟩ := x; exact ⟨mA, ⟨od, es, ep, k _ _ (.inl rfl) e, c⟩, r⟩
  | rng lo hi => obtain ⟨t, u, v, e⟩ := x; exact ⟨t, u, v, k _ _ (.inl rfl) e⟩
  | frz ob u ih => obtain ⟨e, q⟩ := x; exact ⟨k _ _ (.inl rfl) e, ih q⟩
  | tbl ps =>
    have e : h.get? a = some { cls := .none, data := .fields ps } := x
    show h'.get? a = some { cls := .none, data := .fields ps }
    exact k a _ (.inl rfl) e
  | met f y =>
    have e : h.get? a = some (W.methodObj (.ref f) (.ref y)) := x
    show h'.get? a = some (W.methodObj (.ref f) (.ref y))
    exact k a _ (.inl rfl) e
  | ext φ => obtain ⟨p, ⟨o, e⟩, st⟩ := x; exact ⟨st _ _ p fun o q => k _ _ (.inl rfl) q, ⟨o, k _ _ (.inl rfl) e⟩, st⟩
theorem cZ.lt (x : cZ P w H h) (e : H a = some o) : a < h.objs.size := (x a o e).lt
theorem cZ.fresh (x : cZ P w H h) (e : h.objs.size <= a) : H a = none := by
  cases q : H a with
  | none => rfl
  | some u => exact absurd (Nat.lt_of_lt_of_le (x.lt q) e) (Nat.lt_irrefl _)
theorem cZ.kept (x : cZ P w H h) (k : ∀ b u, h.get? b = some u -> h'.get? b = some u) : cZ P w H h' := fun a o e =>
  (x a o e).stay (fun b u _ q => k b u q) (fun _ q => q) fun _ _ q => q
theorem cZ.laid (x : cZ P w H h) (k : ∀ b u, h.get? b = some u -> h'.get? b = some u) (hp : h.objs.size <= a) (new : bA P w (aU H a o) h' a o) : cZ P w (aU H a o) h' := fun b u e => by
  have hn := x.fresh hp
  by_cases hb : b = a
  . subst hb; rw [aL] at e; cases e; exact new
  . rw [aC hb] at e
    exact (x b u e).stay (fun c v _ q => k c v q) (fun c q => by rw [aC (aX q hn)]; exact q) fun c xs q => by rw [aC (aX q hn)]; exact q
end
def Rd (H : Hp) (a : Addr) (u : HO) : Prop := H a = some u \/ ∃ o, H a = some (.frz o u)
theorem Rd.ok {P : Program} {w : World} {H : Hp} {h : Heap} {a : Addr} {u : HO} (r : Rd H a u) (x : cZ P w H h) : bA P w H h a u := by
  rcases r with r | ⟨o, r⟩
  . exact x a u r
  . obtain ⟨_, q⟩ := x a _ r
    exact q
def zG : Option HO -> Prop
  | some (.lst _) => True
  | some (.dK _) => True
  | some (.dT _) => True
  | some (.set _ _) => True
  | some (.ins _ _ _) => True
  | some (.ext _) => True
  | _ => False
section
variable {P : Program} {w : World} {H : Hp} {h h' : Heap} {x e : Addr} {o' : HO}
theorem cZ.write (ok : cZ P w H h) (mu : zG (H x)) (he : e = x \/ H e = some (.own x)) (k : ∀ b u, b ≠ e -> h.get? b = some u -> h'.get? b = some u) (heo : ∃ u, h'.get? e = some u)
    (new : bA P w (aU H x o') h' x o') : cZ P w (aU H x o') h' := fun b u q => by
  have nown : ∀ c y, H c = some (.own y) -> c ≠ x := fun c y r z => by subst z; rw [r] at mu; exact mu
  have ntup : ∀ c xs, H c = some (.tup xs) -> c ≠ x := fun c xs r z => by subst z; rw [r] at mu; exact mu
  by_cases hb : b = x
  . subst hb; rw [aL] at q; cases q; exact new
  . rw [aC hb] at q
    by_cases hbe : b = e
    . have q' : H b = some (.own x) := by
        rcases he with z | z
        . exact absurd (hbe.trans z) hb
        . rw [hbe]; exact z
      rw [q] at q'; cases q'
      obtain ⟨v, hv⟩ := heo
      exact ⟨v, by rw [hbe]; exact hv⟩
    . refine (ok b u q).stay (fun c v hc r => k c v ?_ r) (fun c r => by rw [aC (nown c b r)]; exact r) fun c xs r => by rw [aC (ntup c xs r)]; exact r
      rcases hc with rfl | hc
      . exact hbe
      . rintro rfl
        rcases he with z | z
        . exact nown c b hc z
        . rw [hc] at z; cases z; exact hb rfl
end
structure Un (fs ex : List Addr) (H H' : Hp) (h h' : Heap) : Prop where
  keep : ∀ b o, h.get? b = some o -> H b = none -> b ∉ fs -> b ∉ ex -> h'.get? b = some o
  slot : ∀ b o, h.get? b = some o -> H b = none -> b ∈ fs -> b ∉ ex -> ∃ sl, h'.get? b = some { o with slots := sl }
  free : ∀ b o, h.get? b = some o -> H b = none -> b ∉ ex -> H' b = none
  there : ∀ b o, h.get? b = some o -> b ∉ ex -> ∃ o', h'.get? b = some o'
  tups : ∀ b xs, H b = some (.tup xs) -> H' b = some (.tup xs)
  frzs : ∀ b o u, H b = some (.frz o u) -> H' b = some (.frz o u)
  tbls : ∀ b ps, H b = some (.tbl ps) -> ∃ more, H' b = some (.tbl (ps ++ more))
section
variable {fs fs' ex ex' : List Addr} {H H1 H2 : Hp} {h h1 h2 h' : Heap} {a x e : Addr} {o : HO}
theorem Un.any (u : Un fs ex H H1 h h1) {b : Addr} {ob : Obj} (q : h.get? b = some ob) (n : H b = none) (hx : b ∉ ex) : ∃ sl, h1.get? b = some { ob with slots := sl } := by
  by_cases hb : b ∈ fs
  . exact u.slot b ob q n hb hx
  . exact ⟨ob.slots, u.keep b ob q n hb hx⟩
theorem Un.kept (k : ∀ b u, h.get? b = some u -> h'.get? b = some u) : Un fs ex H H h h' :=
  ⟨fun b ob q _ _ _ => k b ob q, fun b ob q _ _ _ => ⟨ob.slots, k b ob q⟩, fun _ _ _ n _ => n, fun b ob q _ => ⟨ob, k b ob q⟩, fun _ _ q => q, fun _ _ _ q => q, fun _ ps q => ⟨#[], by rw [q]; simp⟩⟩
theorem Un.refl : Un fs ex H H h h := Un.kept fun _ _ q => q
theorem Un.laid (k : ∀ b u, h.get? b = some u -> h'.get? b = some u) (hp : h.objs.size <= a) (hn : H a = none) : Un fs ex H (aU H a o) h h' where
  keep := fun b u q _ _ _ => k b u q
  slot := fun b u q _ _ _ => ⟨u.slots, k b u q⟩
  free := fun b u q n _ => by rw [aC (Nat.ne_of_lt (Nat.lt_of_lt_of_le (Heap.lt_size q) hp))]; exact n
  there := fun b u q _ => ⟨u, k b u q⟩
  tups := fun b xs q => by rw [aC (aX q hn)]; exact q
  frzs := fun b u xs q => by rw [aC (aX q hn)]; exact q
  tbls := fun b ps q => ⟨#[], by rw [aC (aX q hn), q]; simp⟩
theorem Un.write (mu : zG (H x)) (he : e = x \/ H e = some (.own x)) (k : ∀ b u, b ≠ e -> h.get? b = some u -> h'.get? b = some u) (heo : ∃ u, h'.get? e = some u) : Un fs ex H (aU H x o) h h' := by
  have hx : ∀ b, H b = none -> b ≠ x := fun b n z => by subst z; rw [n] at mu; exact mu
  have hb : ∀ b, H b = none -> b ≠ e := fun b n z => by
    subst z
    rcases he with r | r
    . exact hx b n r
    . rw [n] at r; cases r
  have hm : ∀ b u, H b = some u -> ¬ zG (some u) -> b ≠ x := fun b u q nm z => by subst z; rw [q] at mu; exact nm mu
  refine ⟨fun b u q n _ _ => k b u (hb b n) q, fun b u q n _ _ => ⟨u.slots, k b u (hb b n) q⟩, fun b u q n _ => by rw [aC (hx b n)]; exact n, fun b u q _ => ?_,
    fun b xs q => by rw [aC (hm b _ q fun z => z)]; exact q, fun b u xs q => by rw [aC (hm b _ q fun z => z)]; exact q, fun b ps q => ⟨#[], by rw [aC (hm b _ q fun z => z), q]; simp⟩⟩
  by_cases hbe : b = e
  . subst hbe; exact heo
  . exact ⟨u, k b u hbe q⟩
end
def yM (h : Heap) (H : Hp) : List Addr := (List.range h.objs.size).filter fun a => (H a).isSome
def iG (h : Heap) (H : Hp) : Heap := W.hideAll h (yM h H)
theorem v6 (h : Heap) (H : Hp) : (iG h H).objs.size = h.objs.size := W.hideAll_size _ _
theorem xP {h : Heap} {H : Hp} {b : Addr} {o : Obj} (e : h.get? b = some o) (n : H b = none) : (iG h H).get? b = some o :=
  W.hideAll_get _ e fun hm => by
    have q : (H b).isSome = true := (List.mem_filter.mp hm).2
    rw [n] at q; simp at q
theorem AF {h : Heap} {H : Hp} {b : Addr} {o : Obj} (e : (iG h H).get? b = some o) : h.get? b = some o /\ H b = none := by
  have e' : h.get? b = some o := W.of_hideAll (yM h H) e
  refine ⟨e', ?_⟩
  cases q : H b with
  | none => rfl
  | some x =>
    have hm : b ∈ yM h H := List.mem_filter.mpr ⟨List.mem_range.mpr (Heap.lt_size e'), by simp [q]⟩
    have z : (iG h H).get? b = none := W.hideAll_none (yM h H) hm
    rw [z] at e; cases e
def BR (g h : Heap) (L : Addr) : List (Addr × Obj) := (List.range h.objs.size).filterMap fun a => if a = L \/ (g.get? a).isSome = true then none else (h.get? a).map fun o => (a, o)
def rest (g h : Heap) (L d : Addr) : List (Addr × Obj) := (BR g h L).filter fun p => decide (p.1 ≠ d)
end L2
namespace L2
open PySem PySem.Spec PyProof.Rows
structure Mod (K : W.Frag) (mg : Str -> Option Value) (base : Heap) : Prop where
  kin : K.In base
  glob : base.Ns mainGlobals mg
  blt : ∃ mb, base.Ns builtinsNs mb /\ ∀ x : Str, x ≠ "__name__" -> mb x = bootBuiltins x
  nolimit : base.NoLimit
structure Cx where
  prog : Program
  w : World
  K : W.Frag
  mg : Str -> Option Value
  base : Heap
  A : Around
  N : List Str
  s₀ : Shared
  H₀ : Hp
  env : Env
  outer : List Env
  stack : List Env
  ex : List Addr
  fn : Str -> Bool
  calm : Bool
  pn : List (Addr × Obj)
  xe : Value -> Shared -> Prop
def ic (l : List Env) : List Addr := l.filterMap (·.frame)
abbrev Cx.fs (X : Cx) : List Addr := ic X.outer
def i5 (sc : Scope) (x : Str) : Prop := sc.names.lookup x = some .local \/ sc.names.lookup x = some .cell \/ sc.names.lookup x = some .free
def rZ (sc : Scope) (x : Str) : Prop := sc.names.lookup x = some .local \/ sc.names.lookup x = some .cell
def MB (env : Env) (h : Heap) (m : Str -> Option Value) (x : Str) (u : Value) : Prop :=
  (env.kindOf x = some .local /\ m x = some u) \/ ((env.kindOf x = some .cell \/ env.kindOf x = some .free) /\ ∃ c, env.cells.lookup x = some c /\ h.IsCell c (some u))
structure Cx.Ok (X : Cx) : Prop where
  mod : Mod X.K X.mg X.base
  kind : X.env.scope.kind = .function
  glob : X.env.globals = mainGlobals
  blt : X.env.builtins = builtinsNs
  above : X.s₀.heap.objs.size <= X.env.locals
  inj : ∀ x y c, X.env.cells.lookup x = some c -> X.env.cells.lookup y = some c -> x = y
  has : ∀ x, (X.env.kindOf x = some .cell \/ X.env.kindOf x = some .free) -> ∃ c, X.env.cells.lookup x = some c
  cab : ∀ x c, X.fn x = true -> X.env.cells.lookup x = some c -> X.s₀.heap.objs.size <= c
  hd : X.calm = true -> X.A.handled = none
  frames : X.A.frames = some X.stack
  stk : X.stack = X.outer \/ (X.stack = X.env :: X.outer /\ X.env.frame = some X.env.locals)
  exf : ∀ b ∈ X.ex, b ≠ X.env.locals /\ ∀ x c, X.env.cells.lookup x = some c -> c ≠ b
  bs : ∀ b o, X.base.get? b = some o -> X.s₀.heap.get? b = some o /\ X.H₀ b = none
  bsz : X.base.objs.size <= X.s₀.heap.objs.size
  noex : ∀ b o, X.base.get? b = some o -> b ∉ X.ex
  exfs : ∀ b ∈ X.ex, b ∉ X.fs
  funs : X.s₀.heap.FunFrames X.base X.outer
  frf : ∀ b ∈ X.fs, X.H₀ b = none
structure aj (X : Cx) (pins : List (Addr × Obj)) (σ : List (Option V)) (H : Hp) (s : Shared) : Prop where
  ok : X.Ok
  os : s.os = X.s₀.os
  bare : AllBare s.gens
  base : Un X.fs X.ex X.H₀ H X.s₀.heap s.heap
  loc : ∃ m, s.heap.Ns X.env.locals m /\ ∀ (i : Nat) (x : Str) (v : V), X.N[i]? = some x -> σ[i]? = some (some v) -> i5 X.env.scope x -> ∃ u, aP v u /\ MB X.env s.heap m x u
  cell : ∀ x c, X.env.cells.lookup x = some c -> ∃ v, s.heap.IsCell c v
  free : H X.env.locals = none
  freeC : ∀ x c, X.env.cells.lookup x = some c -> H c = none
  pin : ∀ p ∈ X.pn ++ pins, s.heap.get? p.1 = some p.2 /\ H p.1 = none /\ p.1 ≠ X.env.locals /\ p.1 ∉ X.fs /\ ∀ v, p.2.data ≠ .cell v
  hok : cZ X.prog X.w H s.heap
  len : σ.length = X.N.length
section
variable {X : Cx} {pins : List (Addr × Obj)} {σ : List (Option V)} {H H' : Hp} {s : Shared} {h' : Heap}
theorem Cx.Ok.nofr (ok : X.Ok) {b : Addr} {o : Obj} (e : X.base.get? b = some o) : b ∉ X.fs := fun hb => by
  have := (ok.funs.mem hb).1
  rw [e] at this; cases this
theorem aj.bs (I : aj X pins σ H s) : ∀ b o, X.base.get? b = some o -> s.heap.get? b = some o /\ H b = none := fun b o e =>
  ⟨I.base.keep b o (I.ok.bs b o e).1 (I.ok.bs b o e).2 (I.ok.nofr e) (I.ok.noex b o e), I.base.free b o (I.ok.bs b o e).1 (I.ok.bs b o e).2 (I.ok.noex b o e)⟩
theorem aj.bk (I : aj X pins σ H s) : ∀ b o, X.base.get? b = some o -> s.heap.get? b = some o := fun b o e => (I.bs b o e).1
theorem aj.mod (I : aj X pins σ H s) : Mod X.K X.mg X.base := I.ok.mod
theorem aj.kIn (I : aj X pins σ H s) : X.K.In s.heap := I.ok.mod.kin.keeps I.bk
theorem aj.nolimit (I : aj X pins σ H s) : s.heap.NoLimit := I.ok.mod.nolimit.keeps I.bk
theorem aj.lt (I : aj X pins σ H s) : X.env.locals < s.heap.objs.size := let ⟨_, hn, _⟩ := I.loc; hn.lt
theorem aj.sz (I : aj X pins σ H s) : X.s₀.heap.objs.size <= s.heap.objs.size := Nat.le_trans I.ok.above (Nat.le_of_lt I.lt)
theorem aj.nofs (I : aj X pins σ H s) {a : Addr} (h : s.heap.objs.size <= a) : a ∉ X.fs := fun hb => by
  obtain ⟨_, o, ho, _⟩ := I.ok.funs.mem hb
  exact absurd (Nat.lt_of_lt_of_le (Heap.lt_size ho) (Nat.le_trans I.sz h)) (Nat.lt_irrefl _)
theorem aj.cne (I : aj X pins σ H s) : ∀ x c, X.env.cells.lookup x = some c -> c ≠ X.env.locals := fun x c e z => by
  obtain ⟨v, o, ho, hd⟩ := I.cell x c e
  obtain ⟨m, ⟨o', es, ep, ho', hd', _⟩, _⟩ := I.loc
  rw [z, ho'] at ho; cases ho; rw [hd'] at hd; cases hd
theorem aj.funs (I : aj X pins σ H s) : s.heap.FunFrames X.base X.outer := by
  have all : ∀ (l : List Env), (∀ b ∈ ic l, b ∈ X.fs) -> X.s₀.heap.FunFrames X.base l -> s.heap.FunFrames X.base l := by
    intro l
    induction l with
    | nil => intro _ _; trivial
    | cons env r ih =>
      intro hs hl
      obtain ⟨hk, ⟨L, o, hf, hn, ho, hd⟩, hr⟩ := hl
      have hL : L ∈ X.fs := hs L (by unfold ic; rw [List.filterMap_cons, hf]; exact List.mem_cons_self)
      obtain ⟨sl, e⟩ := I.base.slot L o ho (I.ok.frf L hL) hL fun z => I.ok.exfs L z hL
      exact ⟨hk, ⟨L, _, hf, hn, e, hd⟩, ih (fun b hb => hs b (by unfold ic; rw [List.filterMap_cons, hf]; exact List.mem_cons_of_mem _ hb)) hr⟩
  exact all X.outer (fun _ hb => hb) I.ok.funs
theorem aj.stack (I : aj X pins σ H s) : s.heap.FunFrames X.base X.stack := by
  rcases I.ok.stk with e | ⟨e, hf⟩
  . rw [e]; exact I.funs
  . rw [e]
    obtain ⟨m, hn, _⟩ := I.loc
    refine .cons (by rw [I.ok.kind]; decide) hf hn ?_ I.funs
    exact Heap.get?_none_of_le (Nat.le_trans I.ok.bsz I.ok.above)
theorem aj.stkSub (I : aj X pins σ H s) : ∀ b ∈ ic X.stack, b ∈ X.env.locals :: X.fs := fun b hb => by
  rcases I.ok.stk with e | ⟨e, hf⟩
  . rw [e] at hb; exact List.mem_cons_of_mem _ hb
  . rw [e] at hb
    unfold ic at hb
    rw [List.filterMap_cons, hf] at hb
    exact hb
theorem aj.stkFree (I : aj X pins σ H s) : ∀ b ∈ ic X.stack, H b = none := fun b hb => by
  rcases List.mem_cons.mp (I.stkSub b hb) with e | hb
  . rw [e]; exact I.free
  . obtain ⟨_, o, ho, _⟩ := I.ok.funs.mem hb
    exact I.base.free b o ho (I.ok.frf b hb) fun z => I.ok.exfs b z hb
theorem aj.step {g' : Array GenState} {t' : Nat} {d' : Drawn} {ch : List Addr} (I : aj X pins σ H s)
    (hch : ∀ b ∈ ch, (b ∈ X.ex \/ X.s₀.heap.objs.size <= b) /\ b ≠ X.env.locals /\ (∀ x c, X.env.cells.lookup x = some c -> c ≠ b) /\ ∀ p ∈ X.pn ++ pins, p.1 ≠ b)
    (keep : ∀ b o, b ≠ X.env.locals -> b ∉ X.fs -> b ∉ ch -> s.heap.get? b = some o -> H b = none -> h'.get? b = some o)
    (slot : ∀ b o, b ≠ X.env.locals -> b ∈ X.fs -> b ∉ ch -> s.heap.get? b = some o -> H b = none -> ∃ sl, h'.get? b = some { o with slots := sl }) (free : ∀ b o, b ∉ ch -> s.heap.get? b = some o -> H b = none -> H' b = none)
    (there : ∀ b o, b ∉ ch -> s.heap.get? b = some o -> ∃ o', h'.get? b = some o')
    (tups : ∀ b xs, H b = some (.tup xs) -> H' b = some (.tup xs)) (frzs : ∀ b o u, H b = some (.frz o u) -> H' b = some (.frz o u)) (tbls : ∀ b ps, H b = some (.tbl ps) -> ∃ more, H' b = some (.tbl (ps ++ more)))
    (ns : ∀ m, s.heap.Ns X.env.locals m -> h'.Ns X.env.locals m) (hok : cZ X.prog X.w H' h') (hg : AllBare g') :
    aj X pins σ H' { s with heap := h', gens := g', drawn := d', toks := t' } := by
  have neL : ∀ b o, X.s₀.heap.get? b = some o -> b ≠ X.env.locals := fun b o e => Nat.ne_of_lt (Nat.lt_of_lt_of_le (Heap.lt_size e) I.ok.above)
  have neC : ∀ b o, X.s₀.heap.get? b = some o -> b ∉ X.ex -> b ∉ ch := fun b o e hx hb => by
    rcases (hch b hb).1 with z | z
    . exact hx z
    . exact absurd (Nat.lt_of_lt_of_le (Heap.lt_size e) z) (Nat.lt_irrefl _)
  have cellK : ∀ x c, X.env.cells.lookup x = some c -> ∀ v, s.heap.IsCell c v -> h'.IsCell c v := fun x c e v ⟨o, ho, hd⟩ => by
    have nch : c ∉ ch := fun z => (hch c z).2.2.1 x c e rfl
    by_cases hc : c ∈ X.fs
    . obtain ⟨sl, q⟩ := slot c o (I.cne x c e) hc nch ho (I.freeC x c e)
      exact ⟨_, q, hd⟩
    . exact ⟨o, keep c o (I.cne x c e) hc nch ho (I.freeC x c e), hd⟩
  refine ⟨I.ok, I.os, hg, ⟨fun b o e n hb hx => ?_, fun b o e n hb hx => ?_, fun b o e n hx => ?_, fun b o e hx => ?_, fun b xs e => tups b xs (I.base.tups b xs e), fun b o xs e => frzs b o xs (I.base.frzs b o xs e), fun b ps e => ?_⟩, ?_, fun x c e => ?_, ?_, fun x c e => ?_, fun p hp => ?_, hok, I.len⟩
  . exact keep b o (neL b o e) hb (neC b o e hx) (I.base.keep b o e n hb hx) (I.base.free b o e n hx)
  . obtain ⟨sl, e1⟩ := I.base.slot b o e n hb hx
    obtain ⟨sl', e2⟩ := slot b _ (neL b o e) hb (neC b o e hx) e1 (I.base.free b o e n hx)
    exact ⟨sl', e2⟩
  . obtain ⟨o', e1⟩ := I.base.there b o e hx
    exact free b o' (neC b o e hx) e1 (I.base.free b o e n hx)
  . obtain ⟨o', e1⟩ := I.base.there b o e hx
    exact there b o' (neC b o e hx) e1
  . obtain ⟨m1, e1⟩ := I.base.tbls b ps e
    obtain ⟨m2, e2⟩ := tbls b _ e1
    exact ⟨m1 ++ m2, by rw [e2, Array.append_assoc]⟩
  . obtain ⟨m, hn, hl⟩ := I.loc
    refine ⟨m, ns m hn, fun i x v e1 e2 e3 => ?_⟩
    obtain ⟨u, r, l⟩ := hl i x v e1 e2 e3
    refine ⟨u, r, ?_⟩
    rcases l with l | ⟨k, c, e, z⟩
    . exact .inl l
    . exact .inr ⟨k, c, e, cellK x c e _ z⟩
  . obtain ⟨v, z⟩ := I.cell x c e
    exact ⟨v, cellK x c e v z⟩
  . obtain ⟨m, ⟨o, _, _, ho, _⟩, _⟩ := I.loc
    exact free _ o (fun z => (hch _ z).2.1 rfl) ho I.free
  . obtain ⟨v, o, ho, hd⟩ := I.cell x c e
    exact free c o (fun z => (hch c z).2.2.1 x c e rfl) ho (I.freeC x c e)
  . obtain ⟨e, n, ne, nf, d⟩ := I.pin p hp
    have nch : p.1 ∉ ch := fun z => (hch p.1 z).2.2.2 p hp rfl
    exact ⟨keep p.1 p.2 ne nf nch e n, free p.1 p.2 nch e n, ne, nf, d⟩
theorem aj.un {t' : Nat} (I : aj X pins σ H s) (u : Un X.fs [] H H' s.heap h') (hok : cZ X.prog X.w H' h') : aj X pins σ H' { s with heap := h', toks := t' } := by
  obtain ⟨m, ⟨o, es, ep, ho, r⟩, _⟩ := id I.loc
  obtain ⟨sl, hL⟩ := u.any ho I.free (by simp)
  exact I.step (g' := s.gens) (d' := s.drawn) (ch := []) (fun _ z => nomatch z) (fun b o _ hb _ e n => u.keep b o e n hb (by simp)) (fun b o _ hb _ e n => u.slot b o e n hb (by simp)) (fun b o _ e n => u.free b o e n (by simp)) (fun b o _ e => u.there b o e (by simp)) u.tups u.frzs u.tbls (fun m' hm => by
    obtain ⟨o', es', ep', ho', r'⟩ := hm
    rw [ho] at ho'; cases ho'
    exact ⟨_, es', ep', hL, r'⟩) hok I.bare
theorem aj.call {g' : Array GenState} {t' : Nat} {d' : Drawn} {ch : List Addr} (I : aj X pins σ H s) (u : Un (ic X.stack) ch H H' s.heap h') (hok : cZ X.prog X.w H' h') (hg : AllBare g')
    (hch : ∀ b ∈ ch, (b ∈ X.ex \/ X.s₀.heap.objs.size <= b) /\ b ≠ X.env.locals /\ (∀ x c, X.env.cells.lookup x = some c -> c ≠ b) /\ ∀ p ∈ X.pn ++ pins, p.1 ≠ b) :
    aj X pins σ H' { s with heap := h', gens := g', drawn := d', toks := t' } := by
  obtain ⟨m, ⟨o, es, ep, ho, r⟩, _⟩ := id I.loc
  obtain ⟨sl, hL⟩ := u.any ho I.free fun z => (hch _ z).2.1 rfl
  exact I.step (ch := ch) hch (fun b o hL hb hc e n => u.keep b o e n (fun z => (List.mem_cons.mp (I.stkSub b z)).elim hL hb) hc) (fun b o _ _ hc e n => u.any e n hc) (fun b o hc e n => u.free b o e n hc) (fun b o hc e => u.there b o e hc) u.tups u.frzs u.tbls (fun m' hm => by
    obtain ⟨o', es', ep', ho', r'⟩ := hm
    rw [ho] at ho'; cases ho'
    exact ⟨_, es', ep', hL, r'⟩) hok hg
theorem aj.turned {t' : Nat} {it : Addr} (I : aj X pins σ H s) (k : ∀ b o, b ≠ it -> s.heap.get? b = some o -> h'.get? b = some o) (hn : H it = none) (hL : it ≠ X.env.locals)
    (h1 : it ∈ X.ex \/ X.s₀.heap.objs.size <= it) (h2 : ∀ x c, X.env.cells.lookup x = some c -> c ≠ it) (h3 : ∀ p ∈ X.pn ++ pins, p.1 ≠ it) : aj X pins σ H { s with heap := h', toks := t' } := by
  have nit : ∀ b u, H b = some u -> b ≠ it := fun b u e z => by rw [z, hn] at e; cases e
  refine I.step (g' := s.gens) (d' := s.drawn) (ch := [it]) (fun b hb => ?_) (fun b o _ _ hc e _ => k b o (fun z => hc (by simp [z])) e) (fun b o _ _ hc e _ => ⟨o.slots, k b o (fun z => hc (by simp [z])) e⟩) (fun _ _ _ _ n => n)
    (fun b o hc e => ⟨o, k b o (fun z => hc (by simp [z])) e⟩) (fun _ _ e => e) (fun _ _ _ e => e) (fun b ps e => ⟨#[], by rw [e]; simp⟩) (fun m hm => ?_) (fun b u e => ?_) I.bare
  . have e : b = it := by simpa using hb
    subst e
    exact ⟨h1, hL, h2, h3⟩
  . obtain ⟨o, es, ep, ho, r⟩ := hm
    exact ⟨o, es, ep, k _ o (Ne.symm hL) ho, r⟩
  . refine (I.hok b u e).stay (fun c v hc q => k c v ?_ q) (fun _ q => q) fun _ _ q => q
    rcases hc with z | z
    . rw [z]; exact nit b u e
    . exact nit c _ z
theorem aj.tok (I : aj X pins σ H s) (t : Nat) : aj X pins σ H { s with toks := t } := I.un (h' := s.heap) (t' := t) Un.refl I.hok
theorem aj.kept {t' : Nat} (I : aj X pins σ H s) (k : ∀ b u, s.heap.get? b = some u -> h'.get? b = some u) : aj X pins σ H { s with heap := h', toks := t' } := I.un (Un.kept k) (I.hok.kept k)
theorem aj.laid {a : Addr} {o : HO} {t' : Nat} (I : aj X pins σ H s) (k : ∀ b u, s.heap.get? b = some u -> h'.get? b = some u) (hp : s.heap.objs.size <= a) (new : bA X.prog X.w (aU H a o) h' a o) :
    aj X pins σ (aU H a o) { s with heap := h', toks := t' } := I.un (Un.laid k hp (I.hok.fresh hp)) (I.hok.laid k hp new)
theorem aj.write {x e : Addr} {o : HO} {t' : Nat} (I : aj X pins σ H s) (mu : zG (H x)) (he : e = x \/ H e = some (.own x)) (k : ∀ b u, b ≠ e -> s.heap.get? b = some u -> h'.get? b = some u) (heo : ∃ u, h'.get? e = some u)
    (new : bA X.prog X.w (aU H x o) h' x o) : aj X pins σ (aU H x o) { s with heap := h', toks := t' } := I.un (Un.write mu he k heo) (I.hok.write mu he k heo new)
theorem aj.pins_of {pins' : List (Addr × Obj)} (I : aj X pins σ H s) (h : ∀ p ∈ pins', s.heap.get? p.1 = some p.2 /\ H p.1 = none /\ p.1 ≠ X.env.locals /\ p.1 ∉ X.fs /\ ∀ v, p.2.data ≠ .cell v) : aj X pins' σ H s :=
  ⟨I.ok, I.os, I.bare, I.base, I.loc, I.cell, I.free, I.freeC, fun p hp => (List.mem_append.mp hp).elim (fun z => I.pin p (List.mem_append_left _ z)) (h p), I.hok, I.len⟩
theorem iD {N : List Str} (hN : N.Nodup) {i j : Nat} {x : Str} (a : N[i]? = some x) (b : N[j]? = some x) : i = j := by
  obtain ⟨h1, e1⟩ := List.getElem?_eq_some_iff.mp a
  obtain ⟨h2, e2⟩ := List.getElem?_eq_some_iff.mp b
  exact (List.getElem_inj hN).mp (e1.trans e2.symm)
theorem vn {M : Model} {A : Around} {E : Value -> Shared -> Prop} {i : Nat} {x : Str} {v : V} {u : Value} {Q : Unit -> Shared -> Prop} (I : aj X pins σ H s) (hN : X.N.Nodup) (hi : X.N[i]? = some x) (hx : rZ X.env.scope x) (r : aP v u)
    (h : ∀ s', aj X pins (σ.set i (some v)) H s' -> (∃ a, Heap.SameBut a s.heap s'.heap /\ (a = X.env.locals \/ X.env.cells.lookup x = some a)) -> Q () s') (hf : X.fn x = true \/ X.env.scope.names.lookup x = some .local := by first | exact .inl rfl | exact .inr rfl | assumption) : wpAny M A (storeName X.env x u) Q E s := by
  obtain ⟨m, hn, hl⟩ := id I.loc
  have hcls : (X.env.scope.kind == .class || (X.env.scope.kind == .module && X.env.locals != X.env.globals)) = false := by rw [I.ok.kind]; rfl
  have hiσ : i < σ.length := by rw [I.len]; exact (List.getElem?_eq_some_iff.mp hi).1
  have cne := I.cne
  have tracked : ∀ {a : Addr} {h' : Heap}, (∃ o, s.heap.get? a = some o /\ H a = none) -> Heap.SameBut a s.heap h' -> cZ X.prog X.w H h' := fun {a h'} ha hs b ob e => by
    obtain ⟨_, _, hfree⟩ := ha
    refine (I.hok b ob e).stay (fun c w' hc q => (hs.2 c ?_).trans q) (fun _ q => q) fun _ _ q => q
    rintro rfl
    rcases hc with rfl | hc
    . rw [hfree] at e; cases e
    . rw [hfree] at hc; cases hc
  rcases hx with hk | hk
  . refine wpAny_storeName_local hk hn (fun h' hn' hs => ?_) hcls
    obtain ⟨oL, _, _, hoL, _⟩ := id hn
    refine h _ ⟨I.ok, I.os, I.bare, ⟨fun b o e n hb hx => ?_, fun b o e n hb hx => ?_, I.base.free, fun b o e hx => ?_, I.base.tups, I.base.frzs, I.base.tbls⟩, ⟨_, hn', fun j y v' e1 e2 e3 => ?_⟩, fun y c e => ?_, I.free, I.freeC, fun p hp => ?_, tracked ⟨oL, hoL, I.free⟩ hs, by simpa using I.len⟩ ⟨_, hs, .inl rfl⟩
    . exact (hs.2 b (Nat.ne_of_lt (Nat.lt_of_lt_of_le (Heap.lt_size e) I.ok.above))).trans (I.base.keep b o e n hb hx)
    . obtain ⟨sl, e1⟩ := I.base.slot b o e n hb hx
      exact ⟨sl, (hs.2 b (Nat.ne_of_lt (Nat.lt_of_lt_of_le (Heap.lt_size e) I.ok.above))).trans e1⟩
    . obtain ⟨o', e1⟩ := I.base.there b o e hx
      exact ⟨o', (hs.2 b (Nat.ne_of_lt (Nat.lt_of_lt_of_le (Heap.lt_size e) I.ok.above))).trans e1⟩
    . by_cases hj : j = i
      . subst hj
        rw [hi] at e1; cases e1
        rw [List.getElem?_set_self hiσ] at e2
        cases e2
        exact ⟨u, r, .inl ⟨hk, by simp⟩⟩
      . rw [List.getElem?_set_ne (Ne.symm hj)] at e2
        obtain ⟨u', r', q⟩ := hl j y v' e1 e2 e3
        refine ⟨u', r', ?_⟩
        rcases q with ⟨k, e⟩ | ⟨k, c, e, z⟩
        . refine .inl ⟨k, ?_⟩
          have : y ≠ x := fun e => hj (iD hN e1 (e ▸ hi))
          simp [this, e]
        . exact .inr ⟨k, c, e, z.sameBut hs (cne y c e)⟩
    . obtain ⟨w', z⟩ := I.cell y c e
      exact ⟨w', z.sameBut hs (cne y c e)⟩
    . obtain ⟨e, n, ne, nf, d⟩ := I.pin p hp
      exact ⟨(hs.2 p.1 ne).trans e, n, ne, nf, d⟩
  . have hfn : X.fn x = true := by
      rcases hf with z | z
      . exact z
      . rw [z] at hk; cases hk
    obtain ⟨c, hc⟩ := I.ok.has x (.inl hk)
    obtain ⟨w', z⟩ := I.cell x c hc
    refine wpAny_storeName_cell I.ok.kind hk hc z (fun h' hc' hs => ?_)
    obtain ⟨oc, hoc, hocd⟩ := id z
    refine h { s with heap := h' } ⟨I.ok, I.os, I.bare, ⟨fun b o e n hb hx => ?_, fun b o e n hb hx => ?_, I.base.free, fun b o e hx => ?_, I.base.tups, I.base.frzs, I.base.tbls⟩, ⟨m, hn.sameBut hs (Ne.symm (cne x c hc)), fun j y v' e1 e2 e3 => ?_⟩, fun y c' e => ?_, I.free, I.freeC, fun p hp => ?_, tracked ⟨oc, hoc, I.freeC x c hc⟩ hs, by simpa using I.len⟩ ⟨c, hs, .inr hc⟩
    . exact (hs.2 b (Nat.ne_of_lt (Nat.lt_of_lt_of_le (Heap.lt_size e) (I.ok.cab x c hfn hc)))).trans (I.base.keep b o e n hb hx)
    . obtain ⟨sl, e1⟩ := I.base.slot b o e n hb hx
      exact ⟨sl, (hs.2 b (Nat.ne_of_lt (Nat.lt_of_lt_of_le (Heap.lt_size e) (I.ok.cab x c hfn hc)))).trans e1⟩
    . obtain ⟨o', e1⟩ := I.base.there b o e hx
      exact ⟨o', (hs.2 b (Nat.ne_of_lt (Nat.lt_of_lt_of_le (Heap.lt_size e) (I.ok.cab x c hfn hc)))).trans e1⟩
    . by_cases hj : j = i
      . subst hj
        rw [hi] at e1; cases e1
        rw [List.getElem?_set_self hiσ] at e2
        cases e2
        exact ⟨u, r, .inr ⟨.inl hk, c, hc, hc'⟩⟩
      . rw [List.getElem?_set_ne (Ne.symm hj)] at e2
        obtain ⟨u', r', q⟩ := hl j y v' e1 e2 e3
        refine ⟨u', r', ?_⟩
        rcases q with q | ⟨k, c', e, z'⟩
        . exact .inl q
        . refine .inr ⟨k, c', e, z'.sameBut hs ?_⟩
          rintro rfl
          exact hj (iD hN e1 (I.ok.inj _ _ _ e hc ▸ hi))
    . by_cases hcc : c' = c
      . subst hcc; exact ⟨_, hc'⟩
      . obtain ⟨w2, z2⟩ := I.cell y c' e
        exact ⟨w2, z2.sameBut hs hcc⟩
    . obtain ⟨e, n, ne, nf, d⟩ := I.pin p hp
      refine ⟨(hs.2 p.1 ?_).trans e, n, ne, nf, d⟩
      intro q
      rw [q, hoc] at e
      have q' : oc = p.2 := Option.some.inj e
      exact d w' (by rw [<- q']; exact hocd)
theorem fW {M : Model} {A : Around} {E : Value -> Shared -> Prop} {i : Nat} {x : Str} {v : V} {u : Value} {Q : Unit -> Shared -> Prop} (I : aj X pins σ H s) (hN : X.N.Nodup) (hi : X.N[i]? = some x) (hx : rZ X.env.scope x) (r : aP v u)
    (h : ∀ s', aj X pins (σ.set i (some v)) H s' -> Q () s') (hf : X.fn x = true \/ X.env.scope.names.lookup x = some .local := by first | exact .inl rfl | exact .inr rfl | assumption) : wpAny M A (storeName X.env x u) Q E s :=
  vn I hN hi hx r (fun s' I' _ => h s' I') hf
theorem aj.call' {s' : Shared} {ch : List Addr} (I : aj X pins σ H s) (ho : s'.os = s.os) (u : Un (ic X.stack) ch H H' s.heap s'.heap) (hok : cZ X.prog X.w H' s'.heap) (hg : AllBare s'.gens)
    (hch : ∀ b ∈ ch, (b ∈ X.ex \/ X.s₀.heap.objs.size <= b) /\ b ≠ X.env.locals /\ (∀ x c, X.env.cells.lookup x = some c -> c ≠ b) /\ ∀ p ∈ X.pn ++ pins, p.1 ≠ b) : aj X pins σ H' s' := by
  obtain ⟨h', g', d', t', o'⟩ := s'
  have e : o' = s.os := ho
  subst e
  exact I.call (g' := g') (t' := t') (d' := d') u hok hg hch
end
abbrev XK := Value -> Option Addr -> Hp -> Prop
abbrev St := List (Option V)
abbrev VK := V -> Hp -> Prop
abbrev TE := St -> Hp -> VK -> Prop
abbrev TT := St -> Hp -> (Bool -> Hp -> Prop) -> Prop
abbrev TA := St -> Hp -> (List V -> Hp -> Prop) -> Prop
structure jY where
  nx : St -> Hp -> Prop
  rt : VK
  bk : St -> Hp -> Prop := fun _ _ => False
  ct : St -> Hp -> Prop := fun _ _ => False
abbrev TS := jY -> St -> Hp -> Prop
def EP (X : Cx) (pins : List (Addr × Obj)) (σ : St) (Q : VK) (u : Value) (s' : Shared) : Prop := ∃ v H', aj X pins σ H' s' /\ aP v u /\ Q v H'
def TP (X : Cx) (pins : List (Addr × Obj)) (σ : St) (Q : Bool -> Hp -> Prop) (b : Bool) (s' : Shared) : Prop := ∃ H', aj X pins σ H' s' /\ Q b H'
def AP (X : Cx) (pins : List (Addr × Obj)) (σ : St) (Q : List V -> Hp -> Prop) (us : List Value) (s' : Shared) : Prop := ∃ vs H', aj X pins σ H' s' /\ aF vs us /\ Q vs H'
def SP (X : Cx) (pins : List (Addr × Obj)) (D : jY) (f : Flow) (s' : Shared) : Prop :=
  match f with
  | .next => ∃ σ' H', aj X pins σ' H' s' /\ D.nx σ' H'
  | .brk => ∃ σ' H', aj X pins σ' H' s' /\ D.bk σ' H'
  | .cont => ∃ σ' H', aj X pins σ' H' s' /\ D.ct σ' H'
  | .ret u => ∃ v σ' H', aj X pins σ' H' s' /\ aP v u /\ D.rt v H'
def PE (X : Cx) (e : Expr) (t : TE) : Prop :=
  ∀ (pins : List (Addr × Obj)) (s : Shared) (σ : St) (H : Hp) (Q : VK), aj X pins σ H s -> t σ H Q -> wpAny (model X.prog X.w) X.A (eval e X.env) (EP X pins σ Q) X.xe s
def PT (X : Cx) (e : Expr) (t : TT) : Prop :=
  ∀ (pins : List (Addr × Obj)) (s : Shared) (σ : St) (H : Hp) (Q : Bool -> Hp -> Prop), aj X pins σ H s -> t σ H Q -> wpAny (model X.prog X.w) X.A (isTrue e X.env (eval e X.env)) (TP X pins σ Q) X.xe s
def PW (X : Cx) (e : Expr) (t : TT) : Prop :=
  ∀ (whole : Sem Value) (pins : List (Addr × Obj)) (s : Shared) (σ : St) (H : Hp) (Q : Bool -> Hp -> Prop), aj X pins σ H s -> t σ H Q -> wpAny (model X.prog X.w) X.A (isTrue e X.env whole) (TP X pins σ Q) X.xe s
theorem PW.pt {X : Cx} {e : Expr} {t : TT} (h : PW X e t) : PT X e t := h _
def PA (X : Cx) (es : List Expr) (t : TA) : Prop :=
  ∀ (pos : Pos) (pins : List (Addr × Obj)) (s : Shared) (σ : St) (H : Hp) (Q : List V -> Hp -> Prop), aj X pins σ H s -> t σ H Q -> wpAny (model X.prog X.w) X.A (spliced (backTo pos (starEach es X.env))) (AP X pins σ Q) X.xe s
def PS (X : Cx) (st : Stmt) (t : TS) : Prop :=
  ∀ (pins : List (Addr × Obj)) (s : Shared) (σ : St) (H : Hp) (D : jY), aj X pins σ H s -> t D σ H -> wpAny (model X.prog X.w) X.A (exec st X.env) (SP X pins D) X.xe s
def fK (X : Cx) (st : List Stmt) (t : TS) : Prop :=
  ∀ (pins : List (Addr × Obj)) (s : Shared) (σ : St) (H : Hp) (D : jY), aj X pins σ H s -> t D σ H -> wpAny (model X.prog X.w) X.A (execs st X.env) (SP X pins D) X.xe s
theorem aM {α : Type} {t : Sem α} {Q Q' : α -> Shared -> Prop} {M : Model} {A : Around} {E : Value -> Shared -> Prop} {s : Shared} (h : wpAny M A t Q E s) (hQ : ∀ a s, Q a s -> Q' a s) : wpAny M A t Q' E s := wpAny_mono h hQ fun _ _ x => x
end L2
namespace L2
open PySem PySem.Spec PyProof.Rows
section
variable {X : Cx}
theorem GV {a b : Expr} {ta tb : TE} (ha : PE X a ta) (hb : PE X b tb) {pins : List (Addr × Obj)} {s : Shared} {σ : St} {H : Hp} {R : V -> V -> Hp -> Prop} (I : aj X pins σ H s) (h : ta σ H fun x H1 => tb σ H1 fun y H2 => R x y H2)
    {α : Type} {Q : α -> Shared -> Prop} {f : Value -> Value -> Sem α}
    (hf : ∀ v u s2 x y H2, aj X pins σ H2 s2 -> aP x v -> aP y u -> R x y H2 -> wpAny (model X.prog X.w) X.A (f v u) Q X.xe s2) :
    wpAny (model X.prog X.w) X.A (eval a X.env) (fun v s₁ => wpAny (model X.prog X.w) X.A (eval b X.env) (fun u s₂ => wpAny (model X.prog X.w) X.A (f v u) Q X.xe s₂) X.xe s₁) X.xe s := by
  refine aM (ha pins s σ H _ I h) fun v s1 ⟨x, H1, I1, r1, q1⟩ => ?_
  refine aM (hb pins s1 σ H1 _ I1 q1) fun u s2 ⟨y, H2, I2, r2, q2⟩ => ?_
  exact hf v u s2 x y H2 I2 r1 r2 q2
def t5 (i : Nat) : TE := fun σ H Q => ∃ v, σ[i]? = some (some v) /\ Q v H
def tC (v : V) : TE := fun _ H Q => Q v H
theorem mr {i : Nat} {x : Str} {pos : Pos} (hN : X.N[i]? = some x) (hv : i5 X.env.scope x) (hd : (x == ("__debug__" : Str)) = false := by decide) (hcd : (x == ("__classdict__" : Str)) = false := by decide) : PE X (.Name x pos) (t5 i) := by
  intro pins s σ H Q I h
  obtain ⟨v, e, h⟩ := h
  obtain ⟨m, hn, hl⟩ := I.loc
  obtain ⟨u, r, l⟩ := hl i x v hN e hv
  have fin : EP X pins σ Q u s := ⟨v, H, I, r, h⟩
  rcases l with ⟨hk, hm⟩ | ⟨hk, c, hc, hcell⟩
  . exact wpAny_Name (wpAny_loadName_local I.ok.kind hk hn hm fin) hd
  . rcases hk with hk | hk
    . exact wpAny_Name (wpAny_loadName_cell I.ok.kind hk hc hcell fin) hd
    . exact wpAny_Name (wpAny_loadName_free I.ok.kind hk hc hcell fin hcd) hd
theorem CY {i j pos} : PE X (.Constant (.int i) j pos) (tC (.int i)) := fun _ _ _ H _ I h => wpAny_Constant_int ⟨.int i, H, I.tok _, ⟨_, rfl⟩, h⟩
theorem Ge {b j pos} : PE X (.Constant (.bool b) j pos) (tC (.bl b)) := fun _ _ _ H _ I h => Constant_bool ⟨.bl b, H, I, rfl, h⟩
theorem CV {j pos} : PE X (.Constant .none j pos) (tC .non) := fun _ _ _ H _ I h => Constant_none ⟨.non, H, I, rfl, h⟩
theorem CS {x j pos} : PE X (.Constant (.str x) j pos) (tC (.str x)) := fun _ _ _ H _ I h => Calls.Constant_str ⟨.str x, H, I.tok _, ⟨_, rfl⟩, h⟩
def Gl (X : Cx) (x : Str) : Prop := X.env.kindOf x = some .globalImplicit
theorem ib {E : Value -> Shared -> Prop} {pins : List (Addr × Obj)} {s : Shared} {σ : St} {H : Hp} {x : Str} {u : Value} {pos : Pos} {Q : Value -> Shared -> Prop} (I : aj X pins σ H s) (hg : Gl X x) (hm : X.mg x = some u) (h : Q u s)
    (hd : (x == ("__debug__" : Str)) = false := by decide) : wpAny (model X.prog X.w) X.A (eval (.Name x pos) X.env) Q E s :=
  Calls.Name_function_global I.ok.kind hg (Calls.loadGlobal_global (by rw [I.ok.glob]; exact I.mod.glob.keeps I.bk) hm h) hd
theorem db {E : Value -> Shared -> Prop} {pins : List (Addr × Obj)} {s : Shared} {σ : St} {H : Hp} {x : Str} {u : Value} {pos : Pos} {Q : Value -> Shared -> Prop} (I : aj X pins σ H s) (hg : Gl X x) (hm : X.mg x = none) (hv : bootBuiltins x = some u) (h : Q u s)
    (hn : x ≠ "__name__" := by decide) (hd : (x == ("__debug__" : Str)) = false := by decide) : wpAny (model X.prog X.w) X.A (eval (.Name x pos) X.env) Q E s := by
  obtain ⟨mb, h1, h2⟩ := I.mod.blt
  exact Calls.Name_function_global I.ok.kind hg (Calls.loadGlobal_builtin (by rw [I.ok.glob]; exact I.mod.glob.keeps I.bk) hm (by rw [I.ok.blt]; exact h1.keeps I.bk) ((h2 x hn).trans hv) h) hd
theorem At {x : Str} {v : V} {u : Value} {pos : Pos} (hg : Gl X x) (hm : X.mg x = some u) (r : aP v u) (hd : (x == ("__debug__" : Str)) = false := by decide) : PE X (.Name x pos) (tC v) :=
  fun _ _ _ H _ I h => ib I hg hm ⟨v, H, I, r, h⟩ hd
theorem Av {x : Str} {v : V} {u : Value} {pos : Pos} (hg : Gl X x) (hm : X.mg x = none) (hv : bootBuiltins x = some u) (r : aP v u) (hn : x ≠ "__name__" := by decide) (hd : (x == ("__debug__" : Str)) = false := by decide) : PE X (.Name x pos) (tC v) :=
  fun _ _ _ H _ I h => db I hg hm hv ⟨v, H, I, r, h⟩ hn hd
variable {a b : Expr} {ta tb : TE} {pos : Pos}
def tB (t : TE) : TT := fun σ H Q => t σ H fun x H1 => ∃ c, x = .bl c /\ Q c H1
theorem CC {e : Expr} {t : TE} (h : PE X e t) (he : ∀ whole, isTrue e X.env whole = (do let v <- whole; standAt e.pos; holding [v] (truthy v)) := by intro _; rfl) : PT X e (tB t) := by
  intro pins s σ H Q I hw
  refine isTrue_plain (aM (h pins s σ H _ I hw) fun v s1 ⟨x, H1, I1, r1, q1⟩ => ?_) (he _)
  obtain ⟨d, rfl, q⟩ := q1
  cases r1
  exact wpAny_truthy_bool ⟨H1, I1, q⟩
variable {tA tB' : TT} {rest : List Expr}
def Hg (t u : TT) : TT := fun σ H Q => t σ H fun c H1 => if c = true then u σ H1 Q else Q false H1
def MJ (t u : TT) : TT := fun σ H Q => t σ H fun c H1 => if c = true then Q true H1 else u σ H1 Q
def G9 (t : TT) : TT := fun σ H Q => t σ H fun c H1 => Q (!c) H1
theorem Ag (ha : PT X a tA) : PW X (.BoolOp .And [a] pos) tA := by
  intro wh pins s σ H Q I h
  refine isTrue_and (aM (ha pins s σ H Q I h) fun c s1 e => ?_)
  cases c with
  | true => exact isTrue_and_nil e
  | false => exact e
theorem CB (ha : PT X a tA) : PW X (.BoolOp .Or [a] pos) tA := by
  intro wh pins s σ H Q I h
  refine isTrue_or (aM (ha pins s σ H Q I h) fun c s1 e => ?_)
  cases c with
  | false => exact isTrue_or_nil e
  | true => exact e
theorem vq (ha : PT X a tA) (hb : PW X (.BoolOp .And (b :: rest) pos) tB') : PW X (.BoolOp .And (a :: b :: rest) pos) (Hg tA tB') := by
  intro wh pins s σ H Q I h
  refine isTrue_and (aM (ha pins s σ H _ I h) fun c s1 ⟨H1, I1, q1⟩ => ?_)
  cases c with
  | true => exact hb wh pins s1 σ H1 Q I1 q1
  | false => exact ⟨H1, I1, q1⟩
theorem yW (ha : PT X a tA) (hb : PW X (.BoolOp .Or (b :: rest) pos) tB') : PW X (.BoolOp .Or (a :: b :: rest) pos) (MJ tA tB') := by
  intro wh pins s σ H Q I h
  refine isTrue_or (aM (ha pins s σ H _ I h) fun c s1 ⟨H1, I1, q1⟩ => ?_)
  cases c with
  | true => exact ⟨H1, I1, q1⟩
  | false => exact hb wh pins s1 σ H1 Q I1 q1
theorem CD (ha : PT X a tA) : PT X (.UnaryOp .Not a pos) (G9 tA) := by
  intro pins s σ H Q I h
  exact isTrue_not (ha pins s σ H (fun c H1 => Q (!c) H1) I h)
def FX (ta tb : TE) : TE := fun σ H Q => ta σ H fun x H1 => ∃ c, x = .bl c /\ if c = true then tb σ H1 Q else Q (.bl false) H1
def G8 (ta tb : TE) : TE := fun σ H Q => ta σ H fun x H1 => ∃ c, x = .bl c /\ if c = true then Q (.bl true) H1 else tb σ H1 Q
def FT (ta : TE) : TE := fun σ H Q => ta σ H fun x H1 => ∃ c, x = .bl c /\ Q (.bl (!c)) H1
theorem CT {op} {t : TE} (h : PE X a t) : PE X (.BoolOp op [a] pos) t := fun pins s σ H Q I hw => BoolOp_one (h pins s σ H Q I hw)
theorem vy (ha : PE X a ta) (hb : PE X (.BoolOp .And (b :: rest) pos) tb) : PE X (.BoolOp .And (a :: b :: rest) pos) (FX ta tb) := by
  intro pins s σ H Q I h
  refine BoolOp_and (aM (ha pins s σ H _ I h) fun v s1 ⟨x, H1, I1, r1, q1⟩ => ?_)
  obtain ⟨c, rfl, q1⟩ := q1
  cases r1
  refine wpAny_truthy_bool ?_
  cases c with
  | true => exact hb pins s1 σ H1 Q I1 q1
  | false => exact ⟨.bl false, H1, I1, rfl, q1⟩
theorem y6 (ha : PE X a ta) (hb : PE X (.BoolOp .Or (b :: rest) pos) tb) : PE X (.BoolOp .Or (a :: b :: rest) pos) (G8 ta tb) := by
  intro pins s σ H Q I h
  refine BoolOp_or (aM (ha pins s σ H _ I h) fun v s1 ⟨x, H1, I1, r1, q1⟩ => ?_)
  obtain ⟨c, rfl, q1⟩ := q1
  cases r1
  refine wpAny_truthy_bool ?_
  cases c with
  | false => exact hb pins s1 σ H1 Q I1 q1
  | true => exact ⟨.bl true, H1, I1, rfl, q1⟩
theorem CU (ha : PE X a ta) : PE X (.UnaryOp .Not a pos) (FT ta) := by
  intro pins s σ H Q I h
  refine UnaryOp_ (aM (ha pins s σ H _ I h) fun v s1 ⟨x, H1, I1, r1, q1⟩ => ?_)
  obtain ⟨c, rfl, q1⟩ := q1
  cases r1
  exact not_of (wpAny_truthy_bool ⟨.bl (!c), H1, I1, rfl, q1⟩)
end
end L2
namespace L2
open PySem PySem.Spec PyProof.Rows
def bS (K : W.Frag) (H : Hp) (a : Addr) (xs : List V) : Prop :=
  Rd H a (.lst xs) \/
    ∃ (o : Obj) (its : Array Value) (n : Nat), K.lookup a = some o /\ o.cls = .type "list" /\ o.dict = none /\ o.data = .seq its n /\ its.size <= sizeLine /\ aF xs its.toList
def bW (K : W.Frag) (H : Hp) (a : Addr) (xs : List V) : Prop :=
  Rd H a (.tup xs) \/
    ∃ (o : Obj) (its : Array Value) (n : Nat), K.lookup a = some o /\ o.cls = .type "tuple" /\ o.data = .seq its n /\ its.size <= sizeLine /\ aF xs its.toList
def MA : Value -> Option V
  | .none => some .non
  | .bool b => some (.bl b)
  | .int i _ => some (.int i)
  | .str x _ => some (.str x)
  | .bytes b _ => some (.byt b)
  | .float b _ => some (.flt b)
  | .ref a => some (.ref a)
  | .type n => some (.ty n)
  | _ => none
theorem aP.abs {x : V} {u : Value} (r : aP x u) : MA u = some x := by
  cases x with
  | non => cases r; rfl
  | bl _ => cases r; rfl
  | int _ => obtain ⟨t, rfl⟩ := r; rfl
  | str _ => obtain ⟨t, rfl⟩ := r; rfl
  | byt _ => obtain ⟨t, rfl⟩ := r; rfl
  | flt _ => obtain ⟨t, rfl⟩ := r; rfl
  | ref _ => cases r; rfl
  | ty _ => cases r; rfl
theorem aP.inj {x y : V} {u : Value} (r : aP x u) (q : aP y u) : x = y := Option.some.inj (r.abs.symm.trans q.abs)
theorem aF.inj : ∀ {xs ys : List V} {us : List Value}, aF xs us -> aF ys us -> xs = ys
  | _, _, _, .nil, .nil => rfl
  | _, _, _, .cons r t, .cons r' t' => by rw [r.inj r', aF.inj t t']
section
variable {X : Cx} {pins : List (Addr × Obj)} {σ : St} {H : Hp} {s : Shared} {a : Addr} {xs ys : List V}
theorem bS.of {K : W.Frag} (h : H a = some (.lst xs)) : bS K H a xs := .inl (.inl h)
theorem bW.of {K : W.Frag} (h : H a = some (.tup xs)) : bW K H a xs := .inl (.inl h)
theorem aj.list (I : aj X pins σ H s) (h : bS X.K H a xs) : ∃ its : List Value, aF xs its /\ PlainL s.heap a its.toArray /\ xs.length <= sizeLine := by
  rcases h with h | ⟨o, its, n, hk, hc, hd, hs, hz, r⟩
  . obtain ⟨z, its, n, r, e⟩ := h.ok I.hok
    exact ⟨its, r, ⟨_, n, e, rfl, rfl, rfl⟩, z⟩
  . refine ⟨its.toList, r, ⟨o, n, I.kIn a o hk, hc, hd, by simpa using hs⟩, ?_⟩
    have e := r.length
    simp only [Array.length_toList] at e
    omega
theorem aj.tuple (I : aj X pins σ H s) (h : bW X.K H a xs) : ∃ its : List Value, aF xs its /\ IsTup s.heap a its.toArray /\ xs.length <= sizeLine := by
  rcases h with h | ⟨o, its, n, hk, hc, hs, hz, r⟩
  . obtain ⟨z, its, r, p⟩ := h.ok I.hok
    exact ⟨its, r, p, z⟩
  . refine ⟨its.toList, r, ⟨o, I.kIn a o hk, hc, n, by simpa using hs⟩, ?_⟩
    have e := r.length
    simp only [Array.length_toList] at e
    omega
theorem aj.list_inj (I : aj X pins σ H s) (h : bS X.K H a xs) (h' : bS X.K H a ys) : xs = ys := by
  obtain ⟨its, r, ⟨o, n, e, _, _, d⟩, _⟩ := I.list h
  obtain ⟨its', r', ⟨o', n', e', _, _, d'⟩, _⟩ := I.list h'
  rw [e] at e'; cases e'
  rw [d] at d'
  injection d' with d1 _
  have : its = its' := by simpa using congrArg Array.toList d1
  subst this
  exact r.inj r'
theorem aj.tuple_inj (I : aj X pins σ H s) (h : bW X.K H a xs) (h' : bW X.K H a ys) : xs = ys := by
  obtain ⟨its, r, ⟨o, e, _, n, d⟩, _⟩ := I.tuple h
  obtain ⟨its', r', ⟨o', e', _, n', d'⟩, _⟩ := I.tuple h'
  rw [e] at e'; cases e'
  rw [d] at d'
  injection d' with d1 _
  have : its = its' := by simpa using congrArg Array.toList d1
  subst this
  exact r.inj r'
end
abbrev Cx.wish (X : Cx) (E : Value -> Shared -> Prop) : Cx := { X with xe := E }
abbrev Cx.nox (X : Cx) : Cx := X.wish fun _ _ => False
theorem Cx.Ok.wish {X : Cx} (ok : X.Ok) (E : Value -> Shared -> Prop) : (X.wish E).Ok :=
  ⟨ok.mod, ok.kind, ok.glob, ok.blt, ok.above, ok.inj, ok.has, ok.cab, ok.hd, ok.frames, ok.stk, ok.exf, ok.bs, ok.bsz, ok.noex, ok.exfs, ok.funs, ok.frf⟩
theorem Cx.Ok.unwish {X : Cx} {E : Value -> Shared -> Prop} (ok : (X.wish E).Ok) : X.Ok :=
  ⟨ok.mod, ok.kind, ok.glob, ok.blt, ok.above, ok.inj, ok.has, ok.cab, ok.hd, ok.frames, ok.stk, ok.exf, ok.bs, ok.bsz, ok.noex, ok.exfs, ok.funs, ok.frf⟩
section
variable {X : Cx} {pins : List (Addr × Obj)} {σ : St} {H : Hp} {s : Shared} {E : Value -> Shared -> Prop}
theorem aj.wish (I : aj X pins σ H s) (E : Value -> Shared -> Prop) : aj (X.wish E) pins σ H s := ⟨I.ok.wish E, I.os, I.bare, I.base, I.loc, I.cell, I.free, I.freeC, I.pin, I.hok, I.len⟩
theorem aj.unwish (I : aj (X.wish E) pins σ H s) : aj X pins σ H s := ⟨I.ok.unwish, I.os, I.bare, I.base, I.loc, I.cell, I.free, I.freeC, I.pin, I.hok, I.len⟩
theorem SP.unwish {D : jY} {f : Flow} {s' : Shared} (h : SP (X.wish E) pins D f s') : SP X pins D f s' := by
  cases f with
  | next => obtain ⟨σ', H', I, q⟩ := h; exact ⟨σ', H', I.unwish, q⟩
  | brk => obtain ⟨σ', H', I, q⟩ := h; exact ⟨σ', H', I.unwish, q⟩
  | cont => obtain ⟨σ', H', I, q⟩ := h; exact ⟨σ', H', I.unwish, q⟩
  | ret u => obtain ⟨v, σ', H', I, r, q⟩ := h; exact ⟨v, σ', H', I.unwish, r, q⟩
theorem PE.nox {e : Expr} {t : TE} (h : PE X.nox e t) : PE X e t := fun pins s σ H Q I hw =>
  wpAny_mono (h pins s σ H Q (I.wish _) hw) (fun _ _ ⟨v, H', I', r, q⟩ => ⟨v, H', I'.unwish, r, q⟩) fun _ _ z => False.elim z
theorem PT.nox {e : Expr} {t : TT} (h : PT X.nox e t) : PT X e t := fun pins s σ H Q I hw =>
  wpAny_mono (h pins s σ H Q (I.wish _) hw) (fun _ _ ⟨H', I', q⟩ => ⟨H', I'.unwish, q⟩) fun _ _ z => False.elim z
theorem fK.nox {st : List Stmt} {t : TS} (h : fK X.nox st t) : fK X st t := fun pins s σ H D I hw =>
  wpAny_mono (h pins s σ H D (I.wish _) hw) (fun _ _ q => q.unwish) fun _ _ z => False.elim z
end
section
variable {X : Cx} {st : Stmt} {rest : List Stmt} {t u : TS} {e : Expr} {te : TE} {pos : Pos}
def yP : TS := fun D σ H => D.nx σ H
def G5 (t u : TS) : TS := fun D σ H => t { D with nx := u D } σ H
theorem Aj : fK X [] yP := fun _ _ σ H _ I h => wpAny_execs_nil ⟨σ, H, I, h⟩
theorem ql (h1 : PS X st t) (h2 : fK X rest u) : fK X (st :: rest) (G5 t u) := by
  intro pins s σ H D I h
  refine wpAny_execs_cons (aM (h1 pins s σ H { D with nx := u D } I h) fun f s1 q => ?_)
  cases f with
  | next =>
    obtain ⟨σ', H', I', q⟩ := q
    exact h2 pins s1 σ' H' D I' q
  | ret v => exact q
  | brk => exact q
  | cont => exact q
def Cn : TS := fun D σ H => D.bk σ H
def FV : TS := fun D σ H => D.ct σ H
theorem Al : PS X (.Pass pos) yP := fun _ _ σ H _ I h => wpAny_Pass ⟨σ, H, I, h⟩
theorem xc : PS X (.Break pos) Cn := fun _ _ σ H _ I h => wpAny_Break ⟨σ, H, I, h⟩
theorem r9 : PS X (.Continue pos) FV := fun _ _ σ H _ I h => wpAny_Continue ⟨σ, H, I, h⟩
theorem aj.quiet {pins : List (Addr × Obj)} {σ : St} {H : Hp} {s : Shared} (I : aj X pins σ H s) : interactive X.env = false := by simp [interactive, I.ok.kind]
def FU (te : TE) : TS := fun D σ H => te σ H fun _ H1 => D.nx σ H1
theorem nJ (he : PE X e te) (hs : swapsWith e none pos.line X.env = pure false := by rfl) : PS X (.Expr e pos) (FU te) := by
  intro pins s σ H D I h
  exact wpAny_Expr_any (aM (he pins s σ H _ I h) fun v s1 ⟨x, H1, I1, r1, q1⟩ => ⟨σ, H1, I1, q1⟩) I.quiet hs
def G6 (te : TE) : TS := fun D σ H => te σ H D.rt
theorem CG (he : PE X e te) : PS X (.Return (some e) pos) (G6 te) := by
  intro pins s σ H D I h
  exact wpAny_Return_some (aM (he pins s σ H _ I h) fun v s1 ⟨x, H1, I1, r1, q1⟩ => ⟨x, σ, H1, I1, r1, q1⟩)
def FR : TS := fun D _ H => D.rt .non H
theorem Ak : PS X (.Return none pos) FR := fun _ _ σ H _ I h => wpAny_Return_none ⟨.non, σ, H, I, rfl, h⟩
def Hb (c : TT) (t u : TS) : TS := fun D σ H => c σ H fun b H1 => if b = true then t D σ H1 else u D σ H1
theorem yX {c : Expr} {a b : List Stmt} {tc : TT} (hc : PT X c tc) (ha : fK X a t) (hb : fK X b u) : PS X (.If c a b pos) (Hb tc t u) := by
  intro pins s σ H D I h
  refine wpAny_If (aM (hc pins s σ H _ I h) fun d s1 ⟨H1, I1, q1⟩ => ?_)
  cases d with
  | true => exact ha pins s1 σ H1 D I1 q1
  | false => exact hb pins s1 σ H1 D I1 q1
def Cl : TS := fun _ _ _ => False
theorem jm {sts : List Stmt} : fK X sts Cl := fun _ _ _ _ _ _ h => h.elim
end
abbrev TG := V -> St -> Hp -> (St -> Hp -> Prop) -> Prop
abbrev nk := List V -> St -> Hp -> (St -> Hp -> Prop) -> Prop
def PG (X : Cx) (target : Expr) (t : TG) : Prop :=
  ∀ (pins : List (Addr × Obj)) (s : Shared) (σ : St) (H : Hp) (v : V) (u : Value) (Q : St -> Hp -> Prop), aj X pins σ H s -> aP v u -> t v σ H Q ->
    wpAny (model X.prog X.w) X.A (assign target X.env u) (fun _ s' => ∃ σ' H', aj X pins σ' H' s' /\ Q σ' H') X.xe s
def tS (X : Cx) (ts : List Expr) (t : nk) : Prop :=
  ∀ (pins : List (Addr × Obj)) (s : Shared) (σ : St) (H : Hp) (vs : List V) (us : List Value) (Q : St -> Hp -> Prop), aj X pins σ H s -> aF vs us -> t vs σ H Q ->
    wpAny (model X.prog X.w) X.A (assignInOrder ((assignEach ts X.env).map (·.2)) us) (fun _ s' => ∃ σ' H', aj X pins σ' H' s' /\ Q σ' H') X.xe s
abbrev uX := V -> V -> V -> Hp -> (Hp -> Prop) -> Prop
def yD (X : Cx) (t : uX) : Prop :=
  ∀ (pins : List (Addr × Obj)) (s : Shared) (σ : St) (H : Hp) (o i v : V) (ov iv u : Value) (Q : Hp -> Prop), aj X pins σ H s -> aP o ov -> aP i iv -> aP v u -> t o i v H Q ->
    wpAny (model X.prog X.w) X.A (setItem ov iv u) (fun _ s' => ∃ H', aj X pins σ H' s' /\ Q H') X.xe s
abbrev Fg := V -> V -> Hp -> VK -> Prop
def GW (X : Cx) (op : Operator) (t : Fg) : Prop :=
  ∀ (pins : List (Addr × Obj)) (s : Shared) (σ : St) (H : Hp) (x y : V) (v u : Value) (Q : VK), aj X pins σ H s -> aP x v -> aP y u -> t x y H Q ->
    wpAny (model X.prog X.w) X.A (inplaceOp op v u) (EP X pins σ Q) X.xe s
section
variable {X : Cx} {pos : Pos}
def zn (i : Nat) : TG := fun v σ H Q => Q (σ.set i (some v)) H
theorem g9 {i : Nat} {x : Str} (hN : X.N.Nodup) (hi : X.N[i]? = some x) (hx : rZ X.env.scope x) (hf : X.fn x = true \/ X.env.scope.names.lookup x = some .local := by first | exact .inl rfl | exact .inr rfl | assumption) : PG X (.Name x pos) (zn i) := by
  intro pins s σ H v u Q I r h
  exact wpAny_assign_Name (fW I hN hi hx r (fun s' I' => ⟨_, H, I', h⟩) hf)
def K2 : nk := fun vs σ H Q => vs = [] /\ Q σ H
def GE (t : TG) (u : nk) : nk := fun vs σ H Q => ∃ v r, vs = v :: r /\ t v σ H fun σ' H' => u r σ' H' Q
theorem sS : tS X [] K2 := by
  intro pins s σ H vs us Q I r h
  obtain ⟨e, h⟩ := h
  subst e
  cases r
  exact assignInOrder_nil ⟨σ, H, I, h⟩
theorem lI {e : Expr} {es : List Expr} {t : TG} {u : nk} (h1 : PG X e t) (h2 : tS X es u)
    (hs : (assignEach (e :: es) X.env).map (·.2) = assign e X.env :: (assignEach es X.env).map (·.2) := by rfl) : tS X (e :: es) (GE t u) := by
  intro pins s σ H vs us Q I r h
  obtain ⟨v, vr, e1, h⟩ := h
  subst e1
  cases r with
  | cons r rr =>
    rw [hs]
    refine assignInOrder_cons (aM (h1 pins s σ H _ _ _ I r h) fun _ s1 ⟨σ1, H1, I1, q1⟩ => ?_)
    exact h2 pins s1 σ1 H1 _ _ Q I1 rr q1
def K0 (K : W.Frag) (n : Nat) (t : nk) : TG := fun v σ H Q => ∃ a xs, v = .ref a /\ bW K H a xs /\ xs.length = n /\ t xs σ H Q
theorem qo {es : List Expr} {k : Nat} {t : nk} {n : Nat} (hc : X.calm = true) (h : tS X es t)
    (hn : (assignEach es X.env).length = n := by rfl) (hst : (assignEach es X.env).findIdx? (·.1) = none := by rfl) : PG X (.Tuple es k pos) (K0 X.K n t) := by
  intro pins s σ H v u Q I r hw
  obtain ⟨a, xs, e1, hq, hl, hw⟩ := hw
  subst e1
  cases r
  obtain ⟨its, rv, ht, hz⟩ := I.tuple hq
  refine assign_Tuple_tuple (I.ok.hd hc) ht (by simp [hn, <- hl, rv.length]) hst fun h' hx => ?_
  have I1 : aj X pins σ H { s with heap := h' } := I.kept (t' := s.toks) fun b o e => hx b o (Nat.ne_of_lt (Heap.lt_size e)) e
  exact h pins _ σ H xs _ Q I1 (by simpa using rv) hw
def K1 (to ti : TE) (t : uX) : TG := fun v σ H Q => to σ H fun o H1 => ti σ H1 fun i H2 => t o i v H2 fun H3 => Q σ H3
theorem vw {o i : Expr} {to ti : TE} {t : uX} (ho : PE X o to) (hi : PE X i ti) (hs : yD X t)
    (ha : ∀ v, assign (.Subscript o i pos) X.env v = (do
      let ov <- holding [v] (eval o X.env)
      let iv <- holding [v, ov] (eval i X.env)
      standAt pos
      holding [v, ov, iv] (setItem ov iv v)
      release [v, ov, iv] []) := by intro _; rfl) : PG X (.Subscript o i pos) (K1 to ti t) := by
  intro pins s σ H v u Q I r h
  rw [ha]
  refine wpAny_bind (wpAny_holding (aM (ho pins s σ H _ I h) fun ov s1 ⟨x, H1, I1, r1, q1⟩ => ?_))
  refine wpAny_bind (wpAny_holding (aM (hi pins s1 σ H1 _ I1 q1) fun iv s2 ⟨y, H2, I2, r2, q2⟩ => ?_))
  refine wpAny_bind (wpAny_standAt (wpAny_bind (wpAny_holding (aM (hs pins s2 σ H2 x y v ov iv u _ I2 r1 r2 r q2) fun _ s3 ⟨H3, I3, q3⟩ => ?_))))
  exact wpAny_release ⟨σ, H3, I3, q3⟩
def Co (te : TE) (g : TG) : TS := fun D σ H => te σ H fun x H1 => g x σ H1 D.nx
theorem jn {tg e : Expr} {te : TE} {g : TG} (he : PE X e te) (hg : PG X tg g) (hs : swapsWithSole [tg] e pos.line X.env = pure false := by rfl) (hw : swappedStores [tg] e X.env = pure none := by rfl)
    (h1 : (assignEach [tg] X.env).map (·.2) = [assign tg X.env] := by rfl) : PS X (.Assign [tg] e pos) (Co te g) := by
  intro pins s σ H D I h
  refine wpAny_Assign_stores (aM (he pins s σ H _ I h) fun v s1 ⟨x, H1, I1, r1, q1⟩ => ?_) hs hw
  rw [h1]
  exact aM (hg pins s1 σ H1 x v _ I1 r1 q1) fun _ s2 q => q
theorem CF {i : Nat} {x : Str} {e : Expr} {te : TE} {pos' : Pos} (hN : X.N.Nodup) (hi : X.N[i]? = some x) (hx : rZ X.env.scope x) (he : PE X e te) (hs : swapsWith e (some (.Name x pos')) pos.line X.env = pure false := by rfl) (hf : X.fn x = true \/ X.env.scope.names.lookup x = some .local := by first | exact .inl rfl | exact .inr rfl | assumption) :
    PS X (.Assign [.Name x pos'] e pos) (Co te (zn i)) := by
  intro pins s σ H D I h
  refine wpAny_Assign_Name (aM (he pins s σ H _ I h) fun v s1 ⟨y, H1, I1, r1, q1⟩ => ?_) hs
  exact fW I1 hN hi hx r1 (fun s2 I2 => ⟨_, H1, I2, q1⟩) hf
def G7 (i j : Nat) (ta : TA) : TS := fun D σ H => ta σ H fun vs H1 => ∃ v w, vs = [v, w] /\ D.nx ((σ.set i (some v)).set j (some w)) H1
theorem CH {i j : Nat} {x y : Str} {a b : Expr} {ta : TA} {px py pt : Pos} {kt k2 pt2} (hc : X.calm = true) (hN : X.N.Nodup) (hi : X.N[i]? = some x) (hj : X.N[j]? = some y) (hij : i ≠ j)
    (hx : X.env.scope.names.lookup x = some .local) (hy : X.env.scope.names.lookup y = some .local) (ha : PA X [a, b] ta)
    (hw : swappedStores [.Tuple [.Name x px, .Name y py] kt pt] (.Tuple [a, b] k2 pt2) X.env = pure (some [x, y]))
    (hs : swapsWithSole [.Tuple [.Name x px, .Name y py] kt pt] (.Tuple [a, b] k2 pt2) pos.line X.env = pure false := by rfl) :
    PS X (.Assign [.Tuple [.Name x px, .Name y py] kt pt] (.Tuple [a, b] k2 pt2) pos) (G7 i j ta) := by
  intro pins s σ H D I h
  rw [exec_Assign_arm]
  refine wpAny_bind (wpAny_standAt ?_)
  rw [hs]
  refine wpAny_bind (wpAny_pure ?_)
  rw [if_neg (by decide)]
  refine wpAny_bind (Tuple_ (aM (ha _ pins s σ H _ I h) fun us s1 ⟨vs, H1, I1, r1, q1⟩ => ?_))
  obtain ⟨v, w, e1, q1⟩ := q1
  subst e1
  obtain ⟨u1, u2, rfl, rv, rw'⟩ : ∃ u1 u2, us = [u1, u2] /\ aP v u1 /\ aP w u2 := by
    cases r1 with
    | cons p q =>
      cases q with
      | cons p' q' =>
        cases q'
        exact ⟨_, _, rfl, p, p'⟩
  refine wpAny_newObj_type ?_ (by show 2 <= sizeLine; decide)
  have I2 : aj X pins σ H1 { s1 with heap := s1.heap.push { cls := .type "tuple", data := .seq [u1, u2].toArray } } := I1.kept (t' := s1.toks) fun b o e => Heap.get?_push_of_some _ e
  rw [hw]
  refine wpAny_bind (wpAny_pure ?_)
  show wpAny (model X.prog X.w) X.A (do rule "assign.swapped-stores"; let items <- unpackItems (.ref s1.heap.objs.size) 2 none; assignInOrder [fun v => bindName X.env y v, fun v => bindName X.env x v] items.reverse; pure Flow.next) _ _ _
  refine wpAny_bind (wpAny_rule (wpAny_bind (unpackItems_tuple (items := #[u1, u2]) (I.ok.hd hc) (IsTup.new s1.heap _) fun h' hx' => ?_)))
  have I3 := I2.kept (h' := h') (t' := s1.toks) fun b o e => hx' b o (Nat.ne_of_lt (Heap.lt_size e)) e
  show wpAny _ _ (assignInOrder [fun v => bindName X.env y v, fun v => bindName X.env x v] [u2, u1] >>= fun _ => pure Flow.next) _ _ _
  refine wpAny_bind (assignInOrder_cons (wpAny_bindName (fW I3 hN hj (.inl hy) rw' (fun s2 I4 => ?_) (.inr hy))))
  refine assignInOrder_cons (wpAny_bindName (fW I4 hN hi (.inl hx) rv (fun s3 I5 => assignInOrder_nil (wpAny_pure ?_)) (.inr hx)))
  rw [List.set_comm _ _ (Ne.symm hij)] at I5
  exact ⟨_, H1, I5, q1⟩
def Hf (i : Nat) (te : TE) (ti : Fg) : TS := fun D σ H => ∃ x, σ[i]? = some (some x) /\ te σ H fun y H1 => ti x y H1 fun z H2 => D.nx (σ.set i (some z)) H2
theorem CJ {i : Nat} {x : Str} {e : Expr} {te : TE} {op : Operator} {ti : Fg} {pos' : Pos} (hN : X.N.Nodup) (hi : X.N[i]? = some x) (hx : rZ X.env.scope x) (he : PE X e te) (ho : GW X op ti) (hf : X.fn x = true \/ X.env.scope.names.lookup x = some .local := by first | exact .inl rfl | exact .inr rfl | assumption) :
    PS X (.AugAssign (.Name x pos') op e pos) (Hf i te ti) := by
  intro pins s σ H D I h
  obtain ⟨v, e1, h⟩ := h
  obtain ⟨m, hn, hl⟩ := I.loc
  have vis : i5 X.env.scope x := by rcases hx with k | k; exact .inl k; exact .inr (.inl k)
  obtain ⟨u, r, l⟩ := hl i x v hi e1 vis
  refine wpAny_AugAssign_Name ?_
  have go : wpAny (model X.prog X.w) X.A (eval e X.env) (fun w s₂ => wpAny (model X.prog X.w) X.A (inplaceOp op u w) (fun r s₃ => wpAny (model X.prog X.w) X.A (storeName X.env x r) (fun _ => SP X pins D .next) X.xe s₃) X.xe s₂) X.xe s := by
    refine aM (he pins s σ H _ I h) fun w s1 ⟨y, H1, I1, r1, q1⟩ => ?_
    refine aM (ho pins s1 σ H1 v y u w _ I1 r r1 q1) fun z s2 ⟨zv, H2, I2, r2, q2⟩ => ?_
    exact fW I2 hN hi hx r2 (fun s3 I3 => ⟨_, H2, I3, q2⟩) hf
  rcases l with ⟨hk, hm⟩ | ⟨hk, c, hc, hcell⟩
  . exact wpAny_loadName_local I.ok.kind hk hn hm go
  . rcases hk with hk | hk
    . exact wpAny_loadName_cell I.ok.kind hk hc hcell go
    . rcases hx with k | k
      . have : X.env.scope.names.lookup x = some .free := hk
        rw [k] at this; cases this
      . have : X.env.scope.names.lookup x = some .free := hk
        rw [k] at this; cases this
end
section
variable {X : Cx} {pos : Pos}
def Ck (c : TT) (tb : TS) : TS := fun D σ H => ∃ W : Nat -> St -> Hp -> Prop, (∃ m, W m σ H) /\ ∀ m σ H, W m σ H ->
  c σ H fun b H1 => if b = true then ∃ N : St -> Hp -> Prop, (∀ σ' H', N σ' H' -> ∃ m', m' < m /\ W m' σ' H') /\ tb { D with nx := N, ct := N, bk := D.nx } σ H1 else D.nx σ H1
theorem xb {c : Expr} {body : List Stmt} {tc : TT} {tb : TS} (hp : PassesOwn (model X.prog X.w) X.A X.env X.xe) (hc : PT X c tc) (hb : fK X body tb) : PS X (.While c body [] pos) (Ck tc tb) := by
  intro pins s σ H D I h
  obtain ⟨W, ⟨m0, w0⟩, turn⟩ := h
  refine wpAny_While (codeAny_whileLoop (fun n s' => ∃ σ' H', aj X pins σ' H' s' /\ W n σ' H') ?_ m0 ⟨σ, H, I, w0⟩)
  rintro n s1 ⟨σ1, H1, I1, w1⟩
  refine wpAny_passesOwn hp (aM (hc pins s1 σ1 H1 _ I1 (turn n σ1 H1 w1)) fun b s2 ⟨H2, I2, q2⟩ => ?_)
  cases b with
  | true =>
    obtain ⟨N, hN, q2⟩ := q2
    rw [if_pos rfl]
    refine wpAny_passesOwn hp (aM (hb pins s2 σ1 H2 _ I2 q2) fun f s3 q3 => ?_)
    cases f with
    | next =>
      obtain ⟨σ3, H3, I3, n3⟩ := q3
      obtain ⟨m', hm, w3⟩ := hN σ3 H3 n3
      exact ⟨m', hm, σ3, H3, I3, w3⟩
    | cont =>
      obtain ⟨σ3, H3, I3, n3⟩ := q3
      obtain ⟨m', hm, w3⟩ := hN σ3 H3 n3
      exact ⟨m', hm, σ3, H3, I3, w3⟩
    | brk => exact q3
    | ret v => exact q3
  | false =>
    rw [if_neg Bool.false_ne_true]
    exact wpAny_execs_nil ⟨σ1, H2, I2, q2⟩
end
structure It where
  go : Nat -> Hp -> Prop
  yld : Nat -> Hp -> V -> Hp -> Prop
  stop : Nat -> Hp -> Prop
def eS (X : Cx) (pins : List (Addr × Obj)) (H : Hp) (b : Addr) : Prop :=
  H b = none /\ b ≠ X.env.locals /\ b ∉ X.fs /\ (b ∈ X.ex \/ X.s₀.heap.objs.size <= b) /\ (∀ x c, X.env.cells.lookup x = some c -> c ≠ b) /\ ∀ p ∈ X.pn ++ pins, p.1 ≠ b
theorem aj.fpOk {X : Cx} {pins : List (Addr × Obj)} {σ : St} {H H' : Hp} {s : Shared} {b : Addr} (I : aj X pins σ H s) (hb : s.heap.objs.size <= b) (hn : H' b = none) : eS X pins H' b := by
  refine ⟨hn, Nat.ne_of_gt (Nat.lt_of_lt_of_le I.lt hb), I.nofs hb, .inr (Nat.le_trans I.sz hb), fun x c e z => ?_, fun p hp z => ?_⟩
  . obtain ⟨v, q⟩ := I.cell x c e
    exact absurd (Nat.lt_of_lt_of_le q.lt (by rw [z]; exact hb)) (Nat.lt_irrefl _)
  . exact absurd (Nat.lt_of_lt_of_le (Heap.lt_size (I.pin p hp).1) (by rw [z]; exact hb)) (Nat.lt_irrefl _)
structure Turn (P : Program) (w : World) (K : W.Frag) (tg : Expr) (J : It) (fp : List Addr) (it : Addr) (tn : Nat -> Heap -> Prop) : Prop where
  mem : it ∈ fp
  obj : ∀ i h, tn i h -> ∀ b ∈ fp, ∃ o, h.get? b = some o /\ ∀ v, o.data ≠ .cell v
  keep : ∀ i h h', tn i h -> (∀ b ∈ fp, ∀ o, h.get? b = some o -> h'.get? b = some o) -> tn i h'
  item : ∀ (X : Cx), X.prog = P -> X.w = w -> X.K = K -> X.calm = true -> ∀ (i : Nat) (pins : List (Addr × Obj)) (s : Shared) (σ : St) (H : Hp) (E : Value -> Shared -> Prop), aj X pins σ H s -> (∀ b ∈ fp, eS X pins H b) -> tn i s.heap -> J.go i H ->
    wpAny (model P w) X.A (pyNext (.ref it)) (fun r s1 => ∃ u, r = some u /\
      wpAny (model P w) X.A (letOwnedTupleGo tg (.ref it) u) (fun _ s2 => ∃ x H', aj X pins σ H' s2 /\ aP x u /\ J.yld i H x H' /\ tn (i + 1) s2.heap /\ ∀ b ∈ fp, H' b = none) E s1) E s
  done : ∀ (X : Cx), X.prog = P -> X.w = w -> X.K = K -> X.calm = true -> ∀ (i : Nat) (pins : List (Addr × Obj)) (s : Shared) (σ : St) (H : Hp) (E : Value -> Shared -> Prop), aj X pins σ H s -> (∀ b ∈ fp, eS X pins H b) -> tn i s.heap -> J.stop i H ->
    wpAny (model P w) X.A (pyNext (.ref it)) (fun r s1 => r = none /\ aj X pins σ H s1) E s
  self : ∀ (A : Around) (i : Nat) (s : Shared) (Q : Value -> Shared -> Prop) (E : Value -> Shared -> Prop), tn i s.heap -> Q (.ref it) s -> wpAny (model P w) A (pyIter (.ref it)) Q E s
abbrev TI := St -> Hp -> (It -> Hp -> Prop) -> Prop
def GX (X : Cx) (pins : List (Addr × Obj)) (σ : St) (tg : Expr) (R : It -> Hp -> Prop) (itv : Value) (s2 : Shared) : Prop :=
  ∃ (it : Addr) (fp : List Addr) (tn : Nat -> Heap -> Prop) (J : It) (H' : Hp), itv = .ref it /\ aj X pins σ H' s2 /\ Turn X.prog X.w X.K tg J fp it tn /\ tn 0 s2.heap /\ (∀ b ∈ fp, eS X pins H' b) /\ R J H'
def PI (X : Cx) (tg iter : Expr) (wi : TI) : Prop :=
  ∀ (pins : List (Addr × Obj)) (s : Shared) (σ : St) (H : Hp) (R : It -> Hp -> Prop), aj X pins σ H s -> wi σ H R ->
    wpAny (model X.prog X.w) X.A (eval iter X.env) (fun v s1 => wpAny (model X.prog X.w) X.A (pyIter v) (GX X pins σ tg R) X.xe s1) X.xe s
theorem pv {M : Model} {A : Around} {E : Value -> Shared -> Prop} {s : Shared} {tg : Expr} {it : Addr} {u : Value} {o : Obj} {n : String} {vs : Array Value} {Q : Unit -> Shared -> Prop} (ho : s.heap.get? it = some o) (hc : o.cls = .type n) (hd : o.data = .fields vs)
    (hn : ["enumerate", "zip", "dict_itemiterator", "dict_reverseitemiterator", "odict_iterator", "itertools.zip_longest", "itertools.pairwise"].contains n = false) (hQ : Q () s) : wpAny M A (letOwnedTupleGo tg (.ref it) u) Q E s := by
  unfold letOwnedTupleGo
  cases tg <;> first
    | exact wpAny_pure hQ
    | (cases u <;> first
        | exact wpAny_pure hQ
        | (refine wpAny_bind (wpAny_load ho ?_)
           rw [hc, hd]
           show wpAny M A (if (["enumerate", "zip", "dict_itemiterator", "dict_reverseitemiterator", "odict_iterator", "itertools.zip_longest", "itertools.pairwise"].contains n && vs[0]? == some (rawInt _)) = true then _ else _) Q E s
           rw [if_neg (by intro h; rw [hn, Bool.false_and] at h; cases h)]
           exact wpAny_pure hQ))
def G0 (K : W.Frag) (a : Addr) : It :=
  ⟨fun i H => ∃ xs x, bS K H a xs /\ xs[i]? = some x, fun i H x H' => H' = H /\ ∀ xs, bS K H a xs -> xs[i]? = some x, fun i H => ∃ xs, bS K H a xs /\ xs.length <= i⟩
def GZ (K : W.Frag) (a : Addr) : It :=
  ⟨fun i H => ∃ xs x, bW K H a xs /\ xs[i]? = some x, fun i H x H' => H' = H /\ ∀ xs, bW K H a xs -> xs[i]? = some x, fun i H => ∃ xs, bW K H a xs /\ xs.length <= i⟩
def zJ (lo : Int) (n : Nat) : It := ⟨fun i _ => i < n, fun i H x H' => H' = H /\ x = .int (lo + i), fun i _ => n <= i⟩
theorem vg {P : Program} {w : World} {K : W.Frag} {tg : Expr} (a it : Addr) : Turn P w K tg (G0 K a) [it] it (fun i h => h.IsListIter it a i) where
  mem := by simp
  obj := fun i h st b hb => by
    have e : b = it := by simpa using hb
    subst e
    obtain ⟨o, e, c, d⟩ := st
    exact ⟨o, e, fun v z => by rw [d] at z; cases z⟩
  keep := fun i h h' st k => st.at fun o e => k it (by simp) o e
  item := by
    intro X hP hw hK hc i pins s σ H E I hf st hg
    subst hP hw hK
    obtain ⟨xs, x, hq, hx⟩ := hg
    obtain ⟨its, rv, p, hz⟩ := I.list hq
    obtain ⟨u, hu, ru⟩ := rv.get hx
    obtain ⟨f0, f1, f2, f3, f4, f5⟩ := hf it (by simp)
    refine wpAny_pyNext_list_item st p.isList (x := u) (by simpa using hu) fun h' st' sb => ?_
    have I1 : aj X pins σ H { s with heap := h' } := I.turned (t' := s.toks) (fun b o hb e => (sb.2 b hb).trans e) f0 f1 f3 f4 f5
    obtain ⟨o, e, c, d⟩ := id st'
    exact ⟨u, rfl, pv (s := { s with heap := h' }) e c d (by decide) ⟨x, H, I1, ru, ⟨rfl, fun ys hy => by rw [I.list_inj hy hq]; exact hx⟩, st', fun b hb => (hf b hb).1⟩⟩
  done := by
    intro X hP hw hK hc i pins s σ H E I hf st hg
    subst hP hw hK
    obtain ⟨xs, hq, hx⟩ := hg
    obtain ⟨its, rv, p, hz⟩ := I.list hq
    obtain ⟨f0, f1, f2, f3, f4, f5⟩ := hf it (by simp)
    have hl := rv.length
    exact wpAny_pyNext_list_end (I.ok.hd hc) st p.isList (by simp; omega) fun h' eb => ⟨rfl, I.turned (t' := s.toks) (fun b o hb e => eb b o hb e) f0 f1 f3 f4 f5⟩
  self := fun _ _ _ _ _ st h => wpAny_pyIter_listiter st h
theorem tW {P : Program} {w : World} {K : W.Frag} {tg : Expr} (a it : Addr) : Turn P w K tg (GZ K a) [it] it (fun i h => h.IsTupleIter it a i) where
  mem := by simp
  obj := fun i h st b hb => by
    have e : b = it := by simpa using hb
    subst e
    obtain ⟨o, e, c, d⟩ := st
    exact ⟨o, e, fun v z => by rw [d] at z; cases z⟩
  keep := fun i h h' st k => st.at fun o e => k it (by simp) o e
  item := by
    intro X hP hw hK hc i pins s σ H E I hf st hg
    subst hP hw hK
    obtain ⟨xs, x, hq, hx⟩ := hg
    obtain ⟨its, rv, p, hz⟩ := I.tuple hq
    obtain ⟨u, hu, ru⟩ := rv.get hx
    obtain ⟨f0, f1, f2, f3, f4, f5⟩ := hf it (by simp)
    refine wpAny_pyNext_tuple_item st (show s.heap.IsTuple a its.toArray from p) (x := u) (by simpa using hu) fun h' st' sb => ?_
    have I1 : aj X pins σ H { s with heap := h' } := I.turned (t' := s.toks) (fun b o hb e => (sb.2 b hb).trans e) f0 f1 f3 f4 f5
    obtain ⟨o, e, c, d⟩ := id st'
    exact ⟨u, rfl, pv (s := { s with heap := h' }) e c d (by decide) ⟨x, H, I1, ru, ⟨rfl, fun ys hy => by rw [I.tuple_inj hy hq]; exact hx⟩, st', fun b hb => (hf b hb).1⟩⟩
  done := by
    intro X hP hw hK hc i pins s σ H E I hf st hg
    subst hP hw hK
    obtain ⟨xs, hq, hx⟩ := hg
    obtain ⟨its, rv, p, hz⟩ := I.tuple hq
    obtain ⟨f0, f1, f2, f3, f4, f5⟩ := hf it (by simp)
    have hl := rv.length
    exact wpAny_pyNext_tuple_end (I.ok.hd hc) st (show s.heap.IsTuple a its.toArray from p) (by simp; omega) fun h' eb => ⟨rfl, I.turned (t' := s.toks) (fun b o hb e => eb b o hb e) f0 f1 f3 f4 f5⟩
  self := fun _ _ _ _ _ st h => wpAny_pyIter_tupleiter st h
theorem tX {P : Program} {w : World} {K : W.Frag} {tg : Expr} (it : Addr) (lo : Int) (n : Nat) : Turn P w K tg (zJ lo n) [it] it (fun i h => IsRangeIter h it (lo + (i : Nat) * 1) ((n : Int) - (i : Nat)) 1) where
  mem := by simp
  obj := fun i h st b hb => by
    have e : b = it := by simpa using hb
    subst e
    exact ⟨_, st, fun v z => by
      have z' : Data.fields _ = Data.cell v := z
      cases z'⟩
  keep := fun i h h' st k => k it (by simp) _ st
  item := by
    intro X hP hw hK hc i pins s σ H E I hf st hg
    subst hP hw hK
    obtain ⟨f0, f1, f2, f3, f4, f5⟩ := hf it (by simp)
    have W := Walks.range (prog := X.prog) (w := X.w) (I.ok.hd hc) it lo 1 n
    refine W.item i s _ _ hg st fun v h' tk hv st' kk => ?_
    obtain ⟨t, rfl⟩ := hv
    have I1 : aj X pins σ H { s with heap := h', toks := tk } := I.turned (fun b o hb e => kk b o (by simpa using hb) e) f0 f1 f3 f4 f5
    refine ⟨_, rfl, pv (s := { s with heap := h', toks := tk }) (n := "range_iterator") st' rfl rfl (by decide) ⟨.int (lo + i), H, I1, ⟨t, ?_⟩, ⟨rfl, rfl⟩, st', fun b hb => (hf b hb).1⟩⟩
    rw [Int.mul_one]
  done := by
    intro X hP hw hK hc i pins s σ H E I hf st hg
    subst hP hw hK
    obtain ⟨f0, f1, f2, f3, f4, f5⟩ := hf it (by simp)
    exact wpAny_pyNext_range_end (I.ok.hd hc) st (by have : n <= i := hg; omega) fun h' eb => ⟨rfl, I.turned (t' := s.toks) (fun b o hb e => eb b o hb e) f0 f1 f3 f4 f5⟩
  self := fun _ _ _ _ _ st h => wpAny_pyIter_rangeiter st h
end L2
namespace L2
open PySem PySem.Spec PyProof.Rows
section
variable {X : Cx} {tg : Expr}
def GA (K : W.Frag) (tl : TE) : TI := fun σ H R => tl σ H fun x H1 => ∃ a, x = .ref a /\ (∃ xs, bS K H1 a xs) /\ R (G0 K a) H1
def KZ (K : W.Frag) (tl : TE) : TI := fun σ H R => tl σ H fun x H1 => ∃ a, x = .ref a /\ (∃ xs, bW K H1 a xs) /\ R (GZ K a) H1
theorem Aq {l : Expr} {tl : TE} (hl : PE X l tl) : PI X tg l (GA X.K tl) := by
  intro pins s σ H R I h
  refine aM (hl pins s σ H _ I h) fun v s1 ⟨x, H1, I1, r1, q1⟩ => ?_
  obtain ⟨a, e, ⟨xs, hq⟩, q⟩ := q1
  subst e
  cases r1
  obtain ⟨its, rv, p, hz⟩ := I1.list hq
  refine wpAny_pyIter_list p.isList ?_
  refine ⟨s1.heap.objs.size, [s1.heap.objs.size], _, _, H1, rfl, I1.kept (t' := s1.toks) fun b o e => Heap.get?_push_of_some _ e, vg a _, ⟨_, Heap.get?_push_size _ rfl, rfl, rfl⟩, fun b hb => ?_, q⟩
  have e : b = s1.heap.objs.size := by simpa using hb
  subst e
  exact I1.fpOk (Nat.le_refl _) (I1.hok.fresh (Nat.le_refl _))
theorem CO {l : Expr} {tl : TE} (hl : PE X l tl) : PI X tg l (KZ X.K tl) := by
  intro pins s σ H R I h
  refine aM (hl pins s σ H _ I h) fun v s1 ⟨x, H1, I1, r1, q1⟩ => ?_
  obtain ⟨a, e, ⟨xs, hq⟩, q⟩ := q1
  subst e
  cases r1
  obtain ⟨its, rv, p, hz⟩ := I1.tuple hq
  refine wpAny_pyIter_tuple (show s1.heap.IsTuple a its.toArray from p) ?_
  refine ⟨s1.heap.objs.size, [s1.heap.objs.size], _, _, H1, rfl, I1.kept (t' := s1.toks) fun b o e => Heap.get?_push_of_some _ e, tW a _, ⟨_, Heap.get?_push_size _ rfl, rfl, rfl⟩, fun b hb => ?_, q⟩
  have e : b = s1.heap.objs.size := by simpa using hb
  subst e
  exact I1.fpOk (Nat.le_refl _) (I1.hok.fresh (Nat.le_refl _))
theorem qi {pins : List (Addr × Obj)} {σ : St} {H : Hp} {s : Shared} {R : It -> Hp -> Prop} {E : Value -> Shared -> Prop} {lo hi : Int} {t u v : Tok} {tk : Nat} (I : aj X pins σ H s) (h1 : -(2 ^ 62) <= lo) (h2 : lo < 2 ^ 62) (h3 : -(2 ^ 62) <= hi) (h4 : hi < 2 ^ 62)
    (q : R (zJ lo (hi - lo).toNat) H) : wpAny (model X.prog X.w) X.A (pyIter (.ref s.heap.objs.size)) (GX X pins σ tg R) E { s with heap := s.heap.push { cls := .type "range", data := .fields #[.int lo t, .int hi u, .int 1 v] }, toks := tk } := by
  refine wpAny_pyIter_range (IsRange.new ..) (small_one h1 h2 h3 h4) ?_
  have I1 : aj X pins σ H { s with heap := s.heap.push { cls := .type "range", data := .fields #[.int lo t, .int hi u, .int 1 v] }, toks := tk } := I.kept fun b o e => Heap.get?_push_of_some _ e
  refine ⟨(s.heap.push { cls := .type "range", data := .fields #[.int lo t, .int hi u, .int 1 v] }).objs.size, [(s.heap.push { cls := .type "range", data := .fields #[.int lo t, .int hi u, .int 1 v] }).objs.size], _, _, H, rfl,
    I1.kept (t' := tk) fun b o e => Heap.get?_push_of_some _ e, tX _ lo (hi - lo).toNat, ?_, fun b hb => ?_, q⟩
  . have e1 : lo + ((0 : Nat) : Int) * 1 = lo := by simp
    have e2 : (((hi - lo).toNat : Nat) : Int) - ((0 : Nat) : Int) = Builtin.Range.rangeSize lo hi 1 := by rw [rangeSize_one]; split <;> omega
    show IsRangeIter _ _ (lo + ((0 : Nat) : Int) * 1) ((((hi - lo).toNat : Nat) : Int) - ((0 : Nat) : Int)) 1
    rw [e1, e2]
    exact Heap.get?_push_size _ rfl
  . have e : b = (s.heap.push { cls := .type "range", data := .fields #[.int lo t, .int hi u, .int 1 v] }).objs.size := by simpa using hb
    subst e
    exact I1.fpOk (Nat.le_refl _) (I1.hok.fresh (Nat.le_refl _))
def Gz (ta : TA) : TI := fun σ H R => ta σ H fun vs H1 => ∃ j : Int, vs = [.int j] /\ -(2 ^ 62) <= j /\ j < 2 ^ 62 /\ R (zJ 0 j.toNat) H1
def Gy (ta : TA) : TI := fun σ H R => ta σ H fun vs H1 => ∃ i j : Int, vs = [.int i, .int j] /\ (-(2 ^ 62) <= i /\ i < 2 ^ 62 /\ -(2 ^ 62) <= j /\ j < 2 ^ 62) /\ R (zJ i (j - i).toNat) H1
theorem vv {a : Expr} {ta : TA} {p pos : Pos} (hg : Gl X "range") (hm : X.mg "range" = none) (ha : PA X [a] ta) (hs : starEach [a] X.env = [(false, eval a X.env)] := by rfl) : PI X tg (.Call (.Name "range" p) [a] [] pos) (Gz ta) := by
  intro pins s σ H R I h
  refine Call_ (db I hg hm boot_range (PyProof.Rows.callWith_type1 (aM (ha pos pins s σ H _ I h) fun us s1 ⟨vs, H1, I1, r1, q1⟩ => ?_) hs rfl))
  obtain ⟨j, e, q1, q2, q⟩ := q1
  subst e
  cases r1 with
  | cons r rr =>
    cases rr
    obtain ⟨t, rfl⟩ := r
    exact call_range_1 (qi I1 (by omega) (by omega) q1 q2 (by simpa using q))
theorem vu {a b : Expr} {ta : TA} {p pos : Pos} (hg : Gl X "range") (hm : X.mg "range" = none) (ha : PA X [a, b] ta) (hs : starEach [a, b] X.env = [(false, eval a X.env), (false, eval b X.env)] := by rfl) (hs2 : starEach [b] X.env = [(false, eval b X.env)] := by rfl) :
    PI X tg (.Call (.Name "range" p) [a, b] [] pos) (Gy ta) := by
  intro pins s σ H R I h
  refine Call_ (db I hg hm boot_range (PyProof.Rows.callWith_type1 (aM (ha pos pins s σ H _ I h) fun us s1 ⟨vs, H1, I1, r1, q1⟩ => ?_) (by rw [hs, hs2]) (by rw [hs2]; rfl)))
  obtain ⟨i, j, e, ⟨q1, q2, q3, q4⟩, q⟩ := q1
  subst e
  cases r1 with
  | cons r rr =>
    cases rr with
    | cons r' rr =>
      cases rr
      obtain ⟨t, rfl⟩ := r
      obtain ⟨t', rfl⟩ := r'
      exact call_range_2 (qi I1 q1 q2 q3 q4 q)
def Hc (wi : TI) (g : TG) (tb : TS) : TS := fun D σ H => wi σ H fun J H1 => ∃ W : Nat -> Nat -> St -> Hp -> Prop, (∃ m, W 0 m σ H1) /\ ∀ i m σ H, W i m σ H ->
  (J.stop i H /\ D.nx σ H) \/ (J.go i H /\ ∃ N : St -> Hp -> Prop, (∀ σ' H', N σ' H' -> ∃ m', m' < m /\ W (i + 1) m' σ' H') /\ ∀ x H', J.yld i H x H' -> g x σ H' fun σ2 H2 => tb { D with nx := N, ct := N, bk := D.nx } σ2 H2)
def jo (fp : List Addr) (h : Heap) : List (Addr × Obj) := fp.filterMap fun b => (h.get? b).map fun o => (b, o)
theorem fM {fp : List Addr} {h : Heap} {b : Addr} {o : Obj} (hb : b ∈ fp) (e : h.get? b = some o) : (b, o) ∈ jo fp h := List.mem_filterMap.mpr ⟨b, hb, by rw [e]; rfl⟩
theorem vC {fp : List Addr} {h : Heap} {p : Addr × Obj} (hp : p ∈ jo fp h) : p.1 ∈ fp /\ h.get? p.1 = some p.2 := by
  obtain ⟨b, hb, e⟩ := List.mem_filterMap.mp hp
  cases q : h.get? b with
  | none => rw [q] at e; cases e
  | some o =>
    rw [q] at e
    have e' : (b, o) = p := Option.some.inj e
    subst e'
    exact ⟨hb, q⟩
theorem aj.pinned {pins : List (Addr × Obj)} {σ : St} {H : Hp} {s : Shared} {fp : List Addr} (I : aj X pins σ H s) (hf : ∀ b ∈ fp, eS X pins H b) (ho : ∀ b ∈ fp, ∃ o, s.heap.get? b = some o /\ ∀ v, o.data ≠ .cell v) : aj X (pins ++ jo fp s.heap) σ H s :=
  I.pins_of fun p hp => (List.mem_append.mp hp).elim (fun z => I.pin p (List.mem_append_right _ z)) fun z => by
    obtain ⟨hb, e⟩ := vC z
    obtain ⟨f0, f1, f2, _⟩ := hf p.1 hb
    obtain ⟨o, e', d⟩ := ho p.1 hb
    rw [e] at e'; cases e'
    exact ⟨e, f0, f1, f2, d⟩
theorem aj.unpinned {pins pl : List (Addr × Obj)} {σ : St} {H : Hp} {s : Shared} (I : aj X (pins ++ pl) σ H s) : aj X pins σ H s := I.pins_of fun p hp => I.pin p (List.mem_append_right _ (List.mem_append_left _ hp))
theorem CI {iter : Expr} {body : List Stmt} {wi : TI} {g : TG} {tb : TS} {pos : Pos} (hp : PassesOwn (model X.prog X.w) X.A X.env X.xe) (hc : X.calm = true) (hi : PI X tg iter wi) (hg : PG X tg g) (hb : fK X body tb)
    (hs : ∀ x, foldedSetIterable iter X.env x = pure x := by intro _; rfl) : PS X (.For tg iter body [] pos) (Hc wi g tb) := by
  intro pins s σ H D I h
  refine wpAny_For (aM (hi pins s σ H _ I h) fun v s1 h1 => aM h1 fun itv s2 h2 => ?_) hs
  obtain ⟨it, fp, tn, J, H2, e, I2, T, st2, f2, W, ⟨m0, w0⟩, turn⟩ := h2
  subst e
  have stat : ∀ {H' : Hp}, (∀ b ∈ fp, H' b = none) -> ∀ b ∈ fp, eS X pins H' b := fun hn b hb => ⟨hn b hb, (f2 b hb).2⟩
  refine codeAny_forLoop_any (fun n s' => ∃ i σ' H', aj X pins σ' H' s' /\ tn i s'.heap /\ (∀ b ∈ fp, H' b = none) /\ W i n σ' H') ?_ m0 ⟨0, σ, H2, I2, st2, fun b hb => (f2 b hb).1, w0⟩
  rintro n s3 ⟨i, σ3, H3, I3, st3, fr3, w3⟩
  rcases turn i n σ3 H3 w3 with ⟨stop, qn⟩ | ⟨go, N, hN, step⟩
  . refine wpAny_passesOwn hp (aM (T.done X rfl rfl rfl hc i pins s3 σ3 H3 X.xe I3 (stat fr3) st3 stop) fun r s4 ⟨hr, I4⟩ => ?_)
    subst hr
    exact wpAny_execs_nil ⟨σ3, H3, I4, qn⟩
  . refine wpAny_passesOwn hp (aM (T.item X rfl rfl rfl hc i pins s3 σ3 H3 X.xe I3 (stat fr3) st3 go) fun r s4 ⟨u, hr, h4⟩ => ?_)
    subst hr
    refine wpAny_passesOwn hp (aM h4 fun _ s5 ⟨x, H5, I5, r5, y5, st5, fr5⟩ => ?_)
    have I5' := I5.pinned (stat fr5) (T.obj _ _ st5)
    refine wpAny_passesOwn hp (aM (hg _ s5 σ3 H5 x u _ I5' r5 (step x H5 y5)) fun _ s6 ⟨σ6, H6, I6, q6⟩ => ?_)
    refine wpAny_passesOwn hp (aM (hb _ s6 σ6 H6 _ I6 q6) fun f s7 q7 => ?_)
    have again : ∀ {σ7 : St} {H7 : Hp}, aj X (pins ++ jo fp s5.heap) σ7 H7 s7 -> N σ7 H7 -> ∃ m, m < n /\ ∃ i σ' H', aj X pins σ' H' s7 /\ tn i s7.heap /\ (∀ b ∈ fp, H' b = none) /\ W i m σ' H' := fun {σ7 H7} I7 n7 => by
      obtain ⟨m', hm, w7⟩ := hN σ7 H7 n7
      refine ⟨m', hm, i + 1, σ7, H7, I7.unpinned, T.keep _ _ _ st5 fun b hb o e => (I7.pin (b, o) (List.mem_append_right _ (List.mem_append_right _ (fM hb e)))).1, fun b hb => ?_, w7⟩
      obtain ⟨o, e, d⟩ := T.obj _ _ st5 b hb
      exact (I7.pin (b, o) (List.mem_append_right _ (List.mem_append_right _ (fM hb e)))).2.1
    cases f with
    | next => obtain ⟨σ7, H7, I7, n7⟩ := q7; exact again I7 n7
    | cont => obtain ⟨σ7, H7, I7, n7⟩ := q7; exact again I7 n7
    | brk => obtain ⟨σ7, H7, I7, q7⟩ := q7; exact ⟨σ7, H7, I7.unpinned, q7⟩
    | ret v => obtain ⟨x7, σ7, H7, I7, r7, q7⟩ := q7; exact ⟨x7, σ7, H7, I7.unpinned, r7, q7⟩
end
end L2
namespace L2
open PySem PySem.Spec PyProof.Rows
abbrev R2 := V -> V -> Hp -> VK -> Prop
def cx (X : Cx) (f : Value -> Value -> Sem Value) (r : R2) : Prop :=
  ∀ (pins : List (Addr × Obj)) (s : Shared) (σ : St) (H : Hp) (x y : V) (v u : Value) (Q : VK), aj X pins σ H s -> aP x v -> aP y u -> r x y H Q ->
    wpAny (model X.prog X.w) X.A (f v u) (EP X pins σ Q) X.xe s
def Ff (X : Cx) (f : Value -> Sem Value) (r : V -> Hp -> VK -> Prop) : Prop :=
  ∀ (pins : List (Addr × Obj)) (s : Shared) (σ : St) (H : Hp) (x : V) (v : Value) (Q : VK), aj X pins σ H s -> aP x v -> r x H Q ->
    wpAny (model X.prog X.w) X.A (f v) (EP X pins σ Q) X.xe s
def dy (X : Cx) (f : Value) (r : List V -> Hp -> VK -> Prop) : Prop :=
  ∀ (pins : List (Addr × Obj)) (s : Shared) (σ : St) (H : Hp) (xs : List V) (us : List Value) (Q : VK), aj X pins σ H s -> aF xs us -> r xs H Q ->
    wpAny (model X.prog X.w) X.A (call f us) (EP X pins σ Q) X.xe s
def GS (r : R2) (ta tb : TE) : TE := fun σ H Q => ta σ H fun x H1 => tb σ H1 fun y H2 => r x y H2 Q
def MI (r : V -> Hp -> VK -> Prop) (ta : TE) : TE := fun σ H Q => ta σ H fun x H1 => r x H1 Q
def rI (C : Int -> Int -> Prop) (g : Int -> Int -> V) : R2 := fun x y H Q => ∃ i j, x = .int i /\ y = .int j /\ C i j /\ Q (g i j) H
def iX (g : Int -> Int -> V) : R2 := fun x y H Q => ∃ i j, x = .int i /\ y = .int j /\ Q (g i j) H
def rU (g : Int -> V) : V -> Hp -> VK -> Prop := fun x H Q => ∃ i, x = .int i /\ Q (g i) H
section
variable {X : Cx} {a b c : Expr} {ta tb tc : TE} {pos : Pos}
theorem EV (ha : PE X a ta) (hb : PE X b tb) {pins : List (Addr × Obj)} {s : Shared} {σ : St} {H : Hp} {R : V -> V -> Hp -> Prop} (I : aj X pins σ H s)
    (h : ta σ H fun x H1 => tb σ H1 fun y H2 => R x y H2) {Q : Value -> Shared -> Prop} {f : Value -> Value -> Sem Value}
    (hf : ∀ v u s2 x y H2, aj X pins σ H2 s2 -> aP x v -> aP y u -> R x y H2 -> wpAny (model X.prog X.w) X.A (f v u) Q X.xe s2) :
    wpAny (model X.prog X.w) X.A (eval a X.env) (fun v s₁ => wpAny (model X.prog X.w) X.A (eval b X.env) (fun u s₂ => wpAny (model X.prog X.w) X.A (f v u) Q X.xe s₂) X.xe s₁) X.xe s := by
  refine aM (ha pins s σ H _ I h) fun v s1 ⟨x, H1, I1, r1, q1⟩ => ?_
  refine aM (hb pins s1 σ H1 _ I1 q1) fun u s2 ⟨y, H2, I2, r2, q2⟩ => ?_
  exact hf v u s2 x y H2 I2 r1 r2 q2
theorem Gc {op : Operator} {r : R2} (ho : cx X (binaryOp op) r) (ha : PE X a ta) (hb : PE X b tb) : PE X (.BinOp a op b pos) (GS r ta tb) := by
  intro pins s σ H Q I h
  exact wpAny_BinOp (EV ha hb I h fun v u s2 x y H2 I2 rx ry q => ho pins s2 σ H2 x y v u Q I2 rx ry q)
theorem Gb {op : UnaryOp} {r : V -> Hp -> VK -> Prop} (ho : Ff X (unaryOp op) r) (ha : PE X a ta) : PE X (.UnaryOp op a pos) (MI r ta) := by
  intro pins s σ H Q I h
  exact UnaryOp_ (aM (ha pins s σ H _ I h) fun v s1 ⟨x, H1, I1, r1, q1⟩ => ho pins s1 σ H1 x v Q I1 r1 q1)
theorem sU {f : Value -> Value -> Sem Value} {C : Int -> Int -> Prop} {g : Int -> Int -> Int}
    (rule : ∀ (i j : Int) (t u : Tok) (s : Shared) (Q : Value -> Shared -> Prop) (E : Value -> Shared -> Prop), C i j -> Q (.int (g i j) s.toks) { s with toks := s.toks + 1 } -> wpAny (model X.prog X.w) X.A (f (.int i t) (.int j u)) Q E s) :
    cx X f (rI C fun i j => .int (g i j)) := by
  intro pins s σ H x y v u Q I rx ry h
  obtain ⟨i, j, rfl, rfl, hc, q⟩ := h
  obtain ⟨t, rfl⟩ := rx
  obtain ⟨t', rfl⟩ := ry
  exact rule i j t t' s _ _ hc ⟨.int (g i j), H, I.tok _, ⟨_, rfl⟩, q⟩
theorem uk {f : Value -> Value -> Sem Value} {g : Int -> Int -> Int}
    (rule : ∀ (i j : Int) (t u : Tok) (s : Shared) (Q : Value -> Shared -> Prop) (E : Value -> Shared -> Prop), Q (.int (g i j) s.toks) { s with toks := s.toks + 1 } -> wpAny (model X.prog X.w) X.A (f (.int i t) (.int j u)) Q E s) :
    cx X f (iX fun i j => .int (g i j)) := by
  intro pins s σ H x y v u Q I rx ry h
  obtain ⟨i, j, rfl, rfl, q⟩ := h
  obtain ⟨t, rfl⟩ := rx
  obtain ⟨t', rfl⟩ := ry
  exact rule i j t t' s _ _ ⟨.int (g i j), H, I.tok _, ⟨_, rfl⟩, q⟩
theorem ul {f : Value -> Value -> Sem Value} {g : Int -> Int -> Bool}
    (rule : ∀ (i j : Int) (t u : Tok) (s : Shared) (Q : Value -> Shared -> Prop) (E : Value -> Shared -> Prop), Q (.bool (g i j)) s -> wpAny (model X.prog X.w) X.A (f (.int i t) (.int j u)) Q E s) :
    cx X f (iX fun i j => .bl (g i j)) := by
  intro pins s σ H x y v u Q I rx ry h
  obtain ⟨i, j, rfl, rfl, q⟩ := h
  obtain ⟨t, rfl⟩ := rx
  obtain ⟨t', rfl⟩ := ry
  exact rule i j t t' s _ _ ⟨.bl (g i j), H, I, rfl, q⟩
def MF (i j : Int) : Prop := 0 <= j /\ j <= 1000000 /\ i.natAbs < 2 ^ 64
theorem Db : cx X (binaryOp .Add) (iX fun i j => .int (i + j)) := uk fun _ _ _ _ _ _ _ q => add_int q
theorem C8 : cx X (binaryOp .Sub) (iX fun i j => .int (i - j)) := uk fun _ _ _ _ _ _ _ q => sub_int q
theorem AB : cx X (binaryOp .Mod) (rI (fun _ j => j ≠ 0) fun i j => .int (i.fmod j)) := sU fun _ _ _ _ _ _ _ hc q => mod_int' hc q
theorem C9 : cx X (binaryOp .Pow) (rI MF fun i j => .int (i ^ j.toNat)) := sU fun _ _ _ _ _ _ _ hc q => pow_int_small hc.1 hc.2.1 hc.2.2 q
theorem A5 : cx X (inplaceOp .Add) (iX fun i j => .int (i + j)) := uk fun _ _ _ _ _ _ _ q => iadd_int q
theorem A0 : cx X (inplaceOp .Sub) (iX fun i j => .int (i - j)) := uk fun _ _ _ _ _ _ _ q => isub_int q
theorem MG {f : Value -> Sem Value} {g : Int -> Int}
    (rule : ∀ (i : Int) (t : Tok) (s : Shared) (Q : Value -> Shared -> Prop) (E : Value -> Shared -> Prop), Q (.int (g i) s.toks) { s with toks := s.toks + 1 } -> wpAny (model X.prog X.w) X.A (f (.int i t)) Q E s) :
    Ff X f (rU fun i => .int (g i)) := by
  intro pins s σ H x v Q I rx h
  obtain ⟨i, rfl, q⟩ := h
  obtain ⟨t, rfl⟩ := rx
  exact rule i t s _ _ ⟨.int (g i), H, I.tok _, ⟨_, rfl⟩, q⟩
theorem BZ : Ff X (unaryOp .USub) (rU fun i => .int (-i)) := MG fun _ _ _ _ _ q => neg_int q
end
section
variable {X : Cx} {a b c : Expr} {ta tb tc : TE} {pos : Pos}
theorem we {pins : List (Addr × Obj)} {σ : St} {H : Hp} {s : Shared} {Q : VK} {k k' : Bool} (I : aj X pins σ H s) (q : Q (.bl k) H) (e : k = k') : EP X pins σ Q (.bool k') s := by
  subst e
  exact ⟨.bl k, H, I, rfl, q⟩
theorem Gf : cx X (compareOp .Lt) (iX fun i j => .bl (decide (i < j))) := ul fun _ _ _ _ _ _ _ q => lt_int q
theorem Gg : cx X (compareOp .LtE) (iX fun i j => .bl (decide (i <= j))) := ul fun _ _ _ _ _ _ _ q => le_int q
theorem Gh : cx X (compareOp .Gt) (iX fun i j => .bl (decide (j < i))) := ul fun _ _ _ _ _ _ _ q => gt_int q
theorem Gi : cx X (compareOp .GtE) (iX fun i j => .bl (decide (j <= i))) := ul fun _ _ _ _ _ _ _ q => ge_int q
theorem Da : cx X (compareOp .Is) (fun x y H Q => y = .non /\ Q (.bl (decide (x = .non))) H) := by
  intro pins s σ H x y v u Q I rx ry h
  obtain ⟨rfl, q⟩ := h
  cases ry
  refine is_none_gen (we I q ?_)
  cases x <;> first
    | (cases rx; rfl)
    | (obtain ⟨t, rfl⟩ := rx; rfl)
theorem Ay : cx X (compareOp .IsNot) (fun x y H Q => y = .non /\ Q (.bl (!decide (x = .non))) H) := by
  intro pins s σ H x y v u Q I rx ry h
  obtain ⟨rfl, q⟩ := h
  cases ry
  refine isnot_none_gen (we I q ?_)
  cases x <;> first
    | (cases rx; rfl)
    | (obtain ⟨t, rfl⟩ := rx; rfl)
def FQ (t : TE) : TT := fun σ H Q => t σ H fun x H' => ∃ k, x = .bl k /\ Q k H'
def vk (r r' : R2) (ta tb tc : TE) : TE := fun σ H Q => ta σ H fun x H1 => tb σ H1 fun y H2 => r x y H2 fun z H3 => ∃ k, z = .bl k /\
  (if k = true then tc σ H3 fun w' H4 => r' y w' H4 Q else Q (.bl false) H3)
theorem xi {op op' : CmpOp} {r r' : R2} (ho : cx X (compareOp op) r) (ho' : cx X (compareOp op') r') (ha : PE X a ta) (hb : PE X b tb) (hc : PE X c tc)
    (hm : lastMarks [op, op'] [b, c] = false := by with_unfolding_all rfl) : PE X (.Compare a [op, op'] [b, c] pos) (vk r r' ta tb tc) := by
  intro pins s σ H Q I h
  refine Compare_chain (aM (ha pins s σ H _ I h) fun v s1 ⟨x, H1, I1, r1, q1⟩ => chain_link (aM (hb pins s1 σ H1 _ I1 q1) fun u s2 ⟨y, H2, I2, r2, q2⟩ =>
    aM (ho pins s2 σ H2 x y v u _ I2 r1 r2 q2) fun d s3 ⟨z, H3, I3, r3, k, e, q3⟩ => ?_)) hm
  subst e
  cases r3
  refine wpAny_truthy_bool ?_
  cases k with
  | false => exact ite_ff ⟨.bl false, H3, I3, rfl, q3⟩
  | true => exact ite_tt (chain_last (aM (hc pins s3 σ H3 _ I3 q3) fun w' s4 ⟨z', H4, I4, r4, q4⟩ => ho' pins s4 σ H4 y z' u w' Q I4 r2 r4 q4))
theorem xa {op op' : CmpOp} {r r' : R2} (ho : cx X (compareOp op) r) (ho' : cx X (compareOp op') r') (ha : PE X a ta) (hb : PE X b tb) (hc : PE X c tc)
    (hm : lastMarks [op, op'] [b, c] = false := by with_unfolding_all rfl) : PT X (.Compare a [op, op'] [b, c] pos) (FQ (vk r r' ta tb tc)) := by
  intro pins s σ H Q I h
  refine isTrue_chain (aM (ha pins s σ H _ I h) fun v s1 ⟨x, H1, I1, r1, q1⟩ => test_link (aM (hb pins s1 σ H1 _ I1 q1) fun u s2 ⟨y, H2, I2, r2, q2⟩ =>
    aM (ho pins s2 σ H2 x y v u _ I2 r1 r2 q2) fun d s3 ⟨z, H3, I3, r3, k, e, q3⟩ => ?_)) hm
  subst e
  cases r3
  refine wpAny_truthy_bool ?_
  cases k with
  | false =>
    obtain ⟨k', e', q'⟩ := q3
    cases e'
    exact ite_ff ⟨H3, I3, q'⟩
  | true =>
    refine ite_tt (test_last (aM (hc pins s3 σ H3 _ I3 q3) fun w' s4 ⟨z', H4, I4, r4, q4⟩ => aM (ho' pins s4 σ H4 y z' u w' _ I4 r2 r4 q4) fun d' s5 ⟨z2, H5, I5, r5, k2, e2, q5⟩ => ?_))
    subst e2
    cases r5
    exact wpAny_truthy_bool ⟨H5, I5, q5⟩
theorem mF : (sizeLine : Nat) < 2 ^ 63 := by rw [sizeLine_eq]; decide
theorem dl {x : V} {us : List Value} (r : aF [x] us) : ∃ u, us = [u] /\ aP x u := by
  cases r with
  | cons r1 r2 => cases r2; exact ⟨_, rfl, r1⟩
theorem lX {x y : V} {us : List Value} (r : aF [x, y] us) : ∃ u w', us = [u, w'] /\ aP x u /\ aP y w' := by
  cases r with
  | cons r1 r2 =>
    cases r2 with
    | cons r3 r4 => cases r4; exact ⟨_, _, rfl, r1, r3⟩
theorem yd : dy X (.builtin "abs") (fun xs H Q => ∃ i, xs = [.int i] /\ Q (.int (if i < 0 then -i else i)) H) := by
  intro pins s σ H xs us Q I r h
  obtain ⟨i, rfl, q⟩ := h
  obtain ⟨u, rfl, t, rfl⟩ := dl r
  exact call_abs_int fun u tk => ⟨.int (if i < 0 then -i else i), H, I.tok _, ⟨_, rfl⟩, q⟩
theorem oW : dy X (.type "int") (fun xs H Q => (∃ i, xs = [.int i] /\ Q (.int i) H) \/ ∃ k, xs = [.bl k] /\ Q (.int (if k then 1 else 0)) H) := by
  intro pins s σ H xs us Q I r h
  rcases h with ⟨i, rfl, q⟩ | ⟨k, rfl, q⟩
  . obtain ⟨u, rfl, t, rfl⟩ := dl r
    exact call_int_int ⟨.int i, H, I, ⟨_, rfl⟩, q⟩
  . obtain ⟨u, rfl, r1⟩ := dl r
    cases r1
    exact call_int_bool ⟨.int (if k then 1 else 0), H, I.tok _, ⟨_, rfl⟩, q⟩
end
end L2
namespace L2
open PySem PySem.Spec PyProof.Rows
structure rW (h : Heap) (x dx C : Addr) (mA : Str -> Option Value) : Prop where
  obj : h.get? x = some (W.instObj C dx)
  ns : h.Ns1 dx mA
  ne : dx ≠ x
theorem vO {h : Heap} {dx : Addr} {mA : Str -> Option Value} (n : h.Ns1 dx mA) : ∃ od, h.get? dx = some od /\ ∀ name, W.lookIn name od = some (mA name) := by
  obtain ⟨o, es, ep, ho, hd, hk, _, hm⟩ := n
  refine ⟨o, ho, fun name => ?_⟩
  have e := hm name
  unfold nsFind findBy at e
  rw [<- Array.find?_toList] at e
  unfold W.lookIn
  rw [hd]
  dsimp only
  split
  . rename_i y q
    rw [q] at e
    exact congrArg some e
  . rename_i q
    rw [q] at e
    have a : es.toList.any (·.refKey) = false := by
      rw [List.any_eq_false]
      intro y hy
      obtain ⟨z, t, hkey⟩ := hk y (Array.mem_toList_iff.mp hy)
      simp [DictEntry.refKey, hkey]
    have a' : ¬ es.toList.any (·.refKey) = true := by rw [a]; exact Bool.false_ne_true
    rw [if_neg a']
    exact congrArg some e
theorem rW.look {h : Heap} {x dx C : Addr} {mA : Str -> Option Value} (I : rW h x dx C mA) : ∃ od, W.InstAt h x (W.instObj C dx) C (some od) /\ ∀ name, W.lookIn name od = some (mA name) :=
  let ⟨od, ho, hl⟩ := vO I.ns
  ⟨od, ⟨I.obj, rfl, rfl, ho⟩, hl⟩
section
variable {prog : Program} {w : World} {A : Around} {E : Value -> Shared -> Prop} {s : Shared} {K : W.Frag} {x dx C f : Addr} {mA : Str -> Option Value} {name : Str} {v : Value}
theorem Bc {expr : Bool} {Q : Value -> Shared -> Prop} (X : K.In s.heap) (I : rW s.heap x dx C mA) (hg : W.plainGet K C name = true) (hh : W.hasDictIn K C = true)
    (ha : W.findIn K (.ref C) name = some none) (hv : mA name = some v) (hv' : W.handedIn v = true) (h : Q v { s with toks := s.toks + 1 }) :
    wpAny (model prog w) A (getAttr (.ref x) name expr) Q E s := by
  obtain ⟨od, J, hl⟩ := I.look
  exact W.get_value X J (W.plainGet_of hg).1 (W.findObj_own hh ha rfl (by rw [hl, hv])) hv' h
theorem xR {pl : Sem Bool} {Q : Value × List Value -> Shared -> Prop} (X : K.In s.heap) (I : rW s.heap x dx C mA) (hg : W.plainGet K C name = true)
    (hf : W.findIn K (.ref C) name = some (some (.ref f))) (ht : W.isFn K (.ref f) = true) (hv : mA name = none) (h : Q (.ref f, [.ref x]) s) :
    wpAny (model prog w) A (getMethod (.ref x) name pl) Q E s := by
  obtain ⟨od, J, hl⟩ := I.look
  exact W.method_fn X J (W.plainGet_of hg).1 (W.plainGet_of hg).2 hf (beq_iff_eq.mp ht) (by show (W.lookIn name od).map (·.isSome) = some false; rw [hl, hv]; rfl) h
theorem xu {R : Result -> Shared -> Prop} {vs : List Value} {kw : List (Str × Value)} (X : K.In s.heap) (hm : W.makesIn K C = true)
    (hi : W.findIn K (.ref C) "__init__" = some (some (.ref f))) (hf : W.typeIn K (.ref f) = some (.type "function"))
    (h : codeAny (model prog w) (A.under (.builtin "type.__call__" ⟨.ref C :: vs, kw⟩)) (.call (.ref f) ⟨.ref (s.heap.objs.size + 1) :: vs, kw⟩) (W.InitBack (s.heap.objs.size + 1) R)
      { s with heap := (s.heap.push W.emptyDict).push (W.instObj C s.heap.objs.size) }) :
    codeAny (model prog w) A (.call (.ref C) ⟨vs, kw⟩) R s := by
  obtain ⟨hh, g, d, t, os⟩ := s
  exact W.make_core (W.makes_of X hm) (W.looks_findIn X hi) (fun self => W.bind_fn X self hf) (.inl rfl) h
end
theorem eB.some_of {v : V} {o : Option Value} (r : eB (some v) o) : ∃ u, o = some u /\ aP v u := by
  cases o with
  | none => exact (show False from r).elim
  | some u => exact ⟨u, rfl, r⟩
theorem eB.none_of {o : Option Value} (r : eB none o) : o = none := by
  cases o with
  | none => rfl
  | some u => exact (show False from r).elim
theorem v7 {v : V} {u : Value} (r : aP v u) : W.handedIn u = true := by
  cases v with
  | non => cases (show u = Value.none from r); rfl
  | bl b => cases (show u = Value.bool b from r); rfl
  | int i => obtain ⟨t, e⟩ := (show ∃ t, u = Value.int i t from r); cases e; rfl
  | str x => obtain ⟨t, e⟩ := (show ∃ t, u = Value.str x t from r); cases e; rfl
  | byt b => obtain ⟨t, e⟩ := (show ∃ t, u = Value.bytes b t from r); cases e; rfl
  | flt b => obtain ⟨t, e⟩ := (show ∃ t, u = Value.float b t from r); cases e; rfl
  | ref a => cases (show u = Value.ref a from r); rfl
  | ty n => cases (show u = Value.type n from r); rfl
section
variable {P : Program} {w : World} {H H' : Hp} {h h' : Heap} {a C dx : Addr} {fs fs' : List (Str × V)}
theorem nV (hok : cZ P w H h) (e : H a = some (.ins C dx fs)) : ∃ mA, rW h a dx C mA /\ (∀ f, eB (fs.lookup f) (mA f)) /\ PySem.Within mA (fs.map (·.1)) /\ fs.length <= 1000 /\ H dx = some (.own a) := by
  obtain ⟨d, z, ne, ob, mA, n, r, q⟩ := (show bA P w H h a (.ins C dx fs) from hok a _ e)
  exact ⟨mA, ⟨ob, n, ne⟩, r, q, z, d⟩
end
structure fL (K : W.Frag) (C : Addr) : Prop where
  pg : W.plainGet K C Str.empty = true
  hd : W.hasDictIn K C = true
  po : W.plainOver K C = true
  sa : W.findIn K (.ref C) "__setattr__" = some (some (.builtin "object.__setattr__"))
theorem fL.get {K : W.Frag} {C : Addr} (c : fL K C) (f : Str) : W.plainGet K C f = true := c.pg
def nD (K : W.Frag) (C : Addr) (f : Str) : Prop := W.findIn K (.ref C) f = some none
structure rX (K : W.Frag) (C : Addr) (m : Str) (f : Addr) : Prop where
  at_ : W.findIn K (.ref C) m = some (some (.ref f))
  fn : W.isFn K (.ref f) = true
  kp : W.keepIn K (.ref f) = true
section
variable {X : Cx} {pins : List (Addr × Obj)} {σ : St} {H : Hp} {s : Shared} {a C dx : Addr} {fs : List (Str × V)} {f : Str} {v : V} {A : Around} {E : Value -> Shared -> Prop}
theorem uE {b : Bool} {Q : Value -> Shared -> Prop} (I : aj X pins σ H s) (e : H a = some (.ins C dx fs)) (c : fL X.K C) (n : nD X.K C f) (l : fs.lookup f = some v)
    (h : ∀ u s', aj X pins σ H s' -> aP v u -> Q u s') : wpAny (model X.prog X.w) A (getAttr (.ref a) f b) Q E s := by
  obtain ⟨mA, O, r, _, _, _⟩ := nV I.hok e
  obtain ⟨u, hu, ru⟩ := eB.some_of (v := v) (o := mA f) (by rw [<- l]; exact r f)
  exact Bc I.kIn O (c.get f) c.hd n hu (v7 ru) (h u _ (I.tok _) ru)
theorem mK {m : Str} {g : Addr} {pl : Sem Bool} {Q : Value × List Value -> Shared -> Prop} (I : aj X pins σ H s) (e : H a = some (.ins C dx fs)) (c : fL X.K C) (k : rX X.K C m g) (l : fs.lookup m = none)
    (h : Q (.ref g, [.ref a]) s) : wpAny (model X.prog X.w) A (getMethod (.ref a) m pl) Q E s := by
  obtain ⟨mA, O, r, _, _, _⟩ := nV I.hok e
  have hn : mA m = none := eB.none_of (by rw [<- l]; exact r m)
  exact xR I.kIn O (c.get m) k.at_ k.fn hn h
theorem aj.made (I : aj X pins σ H s) : aj X pins σ (aU (aU H s.heap.objs.size (.own (s.heap.objs.size + 1))) (s.heap.objs.size + 1) (.ins C s.heap.objs.size []))
    { s with heap := (s.heap.push W.emptyDict).push (W.instObj C s.heap.objs.size) } := by
  have e1 : (s.heap.push W.emptyDict).get? s.heap.objs.size = some W.emptyDict := Heap.get?_push_size s.heap rfl
  have e2 : ((s.heap.push W.emptyDict).push (W.instObj C s.heap.objs.size)).get? (s.heap.objs.size + 1) = some (W.instObj C s.heap.objs.size) := by
    have := Heap.get?_push_size (s.heap.push W.emptyDict) (o := W.instObj C s.heap.objs.size) rfl
    rwa [Heap.size_push] at this
  have e3 : (s.heap.push W.emptyDict).Ns s.heap.objs.size (fun _ => none) := ⟨W.emptyDict, #[], _, e1, rfl, (fun e he => absurd he (by simp)), fun _ => rfl⟩
  have I1 := I.laid (a := s.heap.objs.size) (o := .own (s.heap.objs.size + 1)) (h' := s.heap.push W.emptyDict) (t' := s.toks) (fun b u q => Heap.get?_push_of_some _ q) (Nat.le_refl _) ⟨_, e1⟩
  refine I1.laid (a := s.heap.objs.size + 1) (o := .ins C s.heap.objs.size []) (t' := s.toks) (fun b u q => Heap.get?_push_of_some _ q) (Nat.le_of_eq (Heap.size_push _ _)) ?_
  have ne : s.heap.objs.size ≠ s.heap.objs.size + 1 := Nat.ne_of_lt (Nat.lt_succ_self _)
  refine ⟨by rw [aC ne, aL], Nat.zero_le _, ne, e2, fun _ => none, (Heap.Ns1.of_empty e3).at fun o q => Heap.get?_push_of_some _ q, fun _ => True.intro, fun y hy => absurd rfl hy⟩
theorem BP {prog : Program} {w : World} {env : Env} {e : Expr} {f : Str} {pos : Pos} {s : Shared} {Q : Value -> Shared -> Prop} (hb : attributeBase e f env (eval e env) = eval e env)
    (h : wpAny (model prog w) A (eval e env) (fun o s₁ => wpAny (model prog w) A (getAttr o f true) Q E s₁) E s) : wpAny (model prog w) A (eval (.Attribute e f pos) env) Q E s :=
  Attribute_any_ h (by rw [arm_eval_Attribute, hb])
end
def Hd (K : W.Frag) (ta : TE) (f : Str) : TE := fun σ H Q => ta σ H fun x H1 => ∃ a C dx fs v, x = .ref a /\ H1 a = some (.ins C dx fs) /\ fL K C /\ nD K C f /\ fs.lookup f = some v /\ Q v H1
section
variable {X : Cx} {o e value : Expr} {f : Str} {pos pos' tpos : Pos} {ta tv : TE}
theorem CZ (he : PE X e ta) (hb : attributeBase e f X.env (eval e X.env) = eval e X.env) : PE X (.Attribute e f pos) (Hd X.K ta f) := by
  intro pins s σ H Q I h
  refine BP hb (aM (he pins s σ H _ I h) fun u s1 ⟨x, H1, I1, rx, a, C, dx, fs, v, ex, ea, c, n, l, q⟩ => ?_)
  subst ex
  obtain rfl : u = Value.ref a := rx
  exact uE I1 ea c n l fun u' s2 I2 ru => ⟨v, H1, I2, ru, q⟩
end
section
variable {X : Cx} {pins : List (Addr × Obj)} {σ : St} {H : Hp} {s : Shared} {A : Around} {E : Value -> Shared -> Prop} {Q : Value -> Shared -> Prop} {c : Value} {b : Bool}
inductive fF (K : W.Frag) (H : Hp) : V -> Value -> Prop where
  | non : fF K H .non (.type "NoneType")
  | bl (x : Bool) : fF K H (.bl x) (.type "bool")
  | int (i : Int) : fF K H (.int i) (.type "int")
  | str (x : Str) : fF K H (.str x) (.type "str")
  | flt (x : UInt64) : fF K H (.flt x) (.type "float")
  | lst {a : Addr} {xs : List V} (e : H a = some (.lst xs)) : fF K H (.ref a) (.type "list")
  | frz {a : Addr} {o : Obj} {xs : List V} (e : H a = some (.frz o (.lst xs))) : fF K H (.ref a) (.type "list")
  | tup {a : Addr} {xs : List V} (e : H a = some (.tup xs)) : fF K H (.ref a) (.type "tuple")
  | dK {a : Addr} {kvs : List (bI × V)} (e : H a = some (.dK kvs)) : fF K H (.ref a) (.type "dict")
  | dT {a : Addr} {kvs : List (List bI × V)} (e : H a = some (.dT kvs)) : fF K H (.ref a) (.type "dict")
  | ins {a C dx : Addr} {fs : List (Str × V)} (e : H a = some (.ins C dx fs)) (cl : fL K C) (ha : W.findIn K (.ref C) "__class__" = some (some (.builtin "object.__class__")))
      (hn : W.specialIn K (.builtin "object.__class__") "__get__" = some (some (.builtin "getset_descriptor.__get__"))) (htk : W.takesIn K (.builtin "object.__class__") = some true)
      (hm : W.mroIn K C (.type "object") = some true) : fF K H (.ref a) (.ref C)
theorem oN {x : V} {u t : Value} (I : aj X pins σ H s) (rx : aP x u) (ty : fF X.K H x t) (e : W.kitOne X.K t c = some b) (h : ∀ tk, Q (.bool b) { s with toks := tk }) :
    wpAny (model X.prog X.w) A (call (.builtin "isinstance") [u, c]) Q E s := by
  cases ty with
  | non => cases (show u = Value.none from rx); exact W.kia_one W.kitx_none I.kIn True.intro e (fun z => nomatch z) h
  | bl y => cases (show u = Value.bool y from rx); exact W.kia_one W.kitx_bool I.kIn True.intro e (fun z => nomatch z) h
  | int i => obtain ⟨t, q⟩ := (show ∃ t, u = Value.int i t from rx); cases q; exact W.kia_one W.kitx_int I.kIn True.intro e (fun z => nomatch z) h
  | str y => obtain ⟨t, q⟩ := (show ∃ t, u = Value.str y t from rx); cases q; exact W.kia_one W.kitx_str I.kIn True.intro e (fun z => nomatch z) h
  | flt y => obtain ⟨t, q⟩ := (show ∃ t, u = Value.float y t from rx); cases q; exact W.kia_one W.kitx_float I.kIn True.intro e (fun z => nomatch z) h
  | @lst a xs ea =>
    cases (show u = Value.ref a from rx)
    obtain ⟨_, _, n, _, h1⟩ := (show bA X.prog X.w H s.heap a (.lst xs) from I.hok a _ ea)
    exact W.kia_one W.kitx_list I.kIn ⟨_, h1, rfl⟩ e (fun z => nomatch z) h
  | @frz a ob xs ea =>
    cases (show u = Value.ref a from rx)
    obtain ⟨_, _, _, n, _, h1⟩ := (show bA X.prog X.w H s.heap a (.frz ob (.lst xs)) from I.hok a _ ea)
    exact W.kia_one W.kitx_list I.kIn ⟨_, h1, rfl⟩ e (fun z => nomatch z) h
  | @tup a xs ea =>
    cases (show u = Value.ref a from rx)
    obtain ⟨_, _, _, p⟩ := (show bA X.prog X.w H s.heap a (.tup xs) from I.hok a _ ea)
    obtain ⟨o, h1, h2, _⟩ := p
    exact W.kia_one W.kitx_tuple I.kIn ⟨o, h1, h2⟩ e (fun z => nomatch z) h
  | @dK a kvs ea =>
    cases (show u = Value.ref a from rx)
    obtain ⟨_, _, vs, _, p⟩ := (show bA X.prog X.w H s.heap a (.dK kvs) from I.hok a _ ea)
    obtain ⟨o, es, ep, h1, h2, _⟩ := p
    exact W.kia_one W.kitx_dict I.kIn ⟨o, h1, h2.1⟩ e (fun z => nomatch z) h
  | @dT a kvs ea =>
    cases (show u = Value.ref a from rx)
    obtain ⟨_, _, xs, _, o, es, ep, h1, h2, _⟩ := (show bA X.prog X.w H s.heap a (.dT kvs) from I.hok a _ ea)
    exact W.kia_one W.kitx_dict I.kIn ⟨o, h1, h2.1⟩ e (fun z => nomatch z) h
  | @ins a C dx fs ea cl ha hn htk hm =>
    cases (show u = Value.ref a from rx)
    obtain ⟨mA, O, _⟩ := nV I.hok ea
    obtain ⟨od, J, _⟩ := O.look
    exact W.kia_one (W.kitx_own (cl.get _) cl.hd ha hn htk hm) I.kIn J e (fun z => nomatch z) h
end
end L2
namespace L2
open PySem PySem.Spec PyProof.Rows
structure bV (k : Nat) (A : Around) : Prop where
  hd : A.handled = none
  dp : A.depth + 3 * k + 5 < recursionLimit
  un : A.units + 16 * k + 200 < cLine
theorem bV.mono {j k : Nat} {A : Around} (r : bV k A) (h : j <= k) : bV j A := ⟨r.hd, by have := r.dp; omega, by have := r.un; omega⟩
theorem bV.deeper {k : Nat} {A : Around} (r : bV (k + 1) A) (env : Env) : bV k (A.deeper env) :=
  ⟨r.hd, by have := r.dp; show A.depth + 1 + 3 * k + 5 < _; omega, by have := r.un; show A.units + 3 + 16 * k + 200 < _; omega⟩
theorem bV.in1 {k : Nat} {A : Around} (r : bV (k + 1) A) : bV k A.in1 :=
  ⟨r.hd, by have := r.dp; show A.depth + 3 * k + 5 < _; omega, by have := r.un; show A.units + 1 + 16 * k + 200 < _; omega⟩
theorem ux {A : Around} {C : Addr} {us : List Value} {kw : List (Str × Value)} : (A.under (.builtin "type.__call__" ⟨.ref C :: us, kw⟩)).depth = A.depth + 1 := by
  first | rfl | simp [Around.under, Code.weight, Code.isCreation, Code.isGuard, Code.isCaller, Code.frames, Code.isFrame, guardIds]
theorem uw {A : Around} {C : Addr} {us : List Value} {kw : List (Str × Value)} : (A.under (.builtin "type.__call__" ⟨.ref C :: us, kw⟩)).units = A.units + 1 := by
  first | rfl | simp [Around.under, Code.cUnits, Code.frames, Code.isFrame]
theorem bV.make {k : Nat} {A : Around} (r : bV (k + 1) A) (C : Addr) (us : List Value) (kw : List (Str × Value)) : bV k (A.under (.builtin "type.__call__" ⟨.ref C :: us, kw⟩)) :=
  ⟨r.hd, by have := r.dp; rw [ux]; omega, by have := r.un; rw [uw]; omega⟩
theorem bV.depth {k : Nat} {A : Around} (r : bV k A) : A.depth < recursionLimit := by have := r.dp; omega
theorem bV.units {k : Nat} {A : Around} (r : bV k A) : A.units + 64 < cLine := by have := r.un; omega
def t6 : TA := fun _ H Q => Q [] H
def FW (ta : TE) (tr : TA) : TA := fun σ H Q => ta σ H fun x H1 => tr σ H1 fun xs H2 => Q (x :: xs) H2
section
variable {X : Cx} {e : Expr} {es : List Expr} {te : TE} {t : TA} {pos : Pos}
theorem C4 : PA X [] t6 := fun _ _ _ _ H Q I h => Calls.spliced_nil ⟨[], H, I, .nil, h⟩
theorem Ax (ha : PE X e te) (hr : PA X es t) (hs : starEach (e :: es) X.env = (false, eval e X.env) :: starEach es X.env := by rfl) : PA X (e :: es) (FW te t) := by
  intro pos pins s σ H Q I h
  rw [hs]
  show wpAny _ _ (spliced ((false, eval e X.env) :: backTo pos (starEach es X.env))) _ _ s
  refine Calls.spliced_cons (aM (ha pins s σ H _ I h) fun u s1 ⟨x, H1, I1, r1, q1⟩ => ?_)
  exact aM (hr pos pins s1 σ H1 _ I1 q1) fun us s2 ⟨xs, H2, I2, r2, q2⟩ => ⟨x :: xs, H2, I2, .cons r1 r2, q2⟩
def G4 (t : TA) : TE := fun σ H Q => t σ H fun xs H1 => xs.length <= sizeLine /\ ∀ p, H1 p = none -> Q (.ref p) (aU H1 p (.tup xs))
def Ha (t : TA) : TE := fun σ H Q => t σ H fun xs H1 => xs.length <= sizeLine /\ ∀ p, H1 p = none -> Q (.ref p) (aU H1 p (.lst xs))
theorem CQ {x1} (h : PA X es t) : PE X (.Tuple es x1 pos) (G4 t) := by
  intro pins s σ H Q I hq
  refine wpAny_Tuple_spliced (aM (h pos pins s σ H _ I hq) fun us s1 ⟨xs, H1, I1, r, z, q⟩ => ⟨by rw [<- r.length]; exact z, ?_⟩)
  have hf : H1 s1.heap.objs.size = none := I1.hok.fresh (Nat.le_refl _)
  refine ⟨.ref s1.heap.objs.size, aU H1 s1.heap.objs.size (.tup xs), I1.laid (t' := s1.toks) (fun b u e => Heap.get?_push_of_some _ e) (Nat.le_refl _) ?_, rfl, q _ hf⟩
  exact ⟨z, us, r, ⟨_, Heap.get?_push_size _ rfl, rfl, _, rfl⟩⟩
theorem CW (h : PA X es t) : PE X (.List es pos) (Ha t) := by
  intro pins s σ H Q I hq
  refine wpAny_List_spliced (aM (h pos pins s σ H _ I hq) fun us s1 ⟨xs, H1, I1, r, z, q⟩ => ⟨by rw [<- r.length]; exact z, ?_⟩)
  have hf : H1 s1.heap.objs.size = none := I1.hok.fresh (Nat.le_refl _)
  refine ⟨.ref s1.heap.objs.size, aU H1 s1.heap.objs.size (.lst xs), I1.laid (t' := s1.toks) (fun b u e => Heap.get?_push_of_some _ e) (Nat.le_refl _) ?_, rfl, q _ hf⟩
  exact ⟨z, us, 0, r, Heap.get?_push_size _ rfl⟩
end
abbrev Sp := List V -> Hp -> VK -> XK -> Prop
abbrev i7 := List Env -> Hp -> Shared -> XK -> Value -> Shared -> Prop
structure gS (P : Program) (w : World) (K : W.Frag) (mg : Str -> Option Value) (base : Heap) (A : Around) (outer : List Env) (s : Shared) (H : Hp) : Prop where
  frames : A.frames = some outer
  mod : Mod K mg base
  bs : ∀ b o, base.get? b = some o -> s.heap.get? b = some o /\ H b = none
  bsz : base.objs.size <= s.heap.objs.size
  funs : s.heap.FunFrames base outer
  frf : ∀ b ∈ ic outer, H b = none
  hok : cZ P w H s.heap
  bare : AllBare s.gens
def CE (outer : List Env) (P : Program) (w : World) (H : Hp) (s : Shared) (Q : VK) (u : Value) (s' : Shared) : Prop :=
  ∃ v H', s'.os = s.os /\ AllBare s'.gens /\ Un (ic outer) [] H H' s.heap s'.heap /\ cZ P w H' s'.heap /\ aP v u /\ Q v H'
def CR (CX : i7) (outer : List Env) (P : Program) (w : World) (H : Hp) (s : Shared) (Q : VK) (E : XK) (r : Result) (s' : Shared) : Prop :=
  match r with
  | .ok (.ret u) => CE outer P w H s Q u s'
  | .ok _ => False
  | .error e => CX outer H s E e s'
structure ci (P : Program) (w : World) (K : W.Frag) (mg : Str -> Option Value) (base : Heap) (CX : i7) (k : Nat) (f : Addr) (fd : FuncData) (ps : List Str) (sp : Sp) : Prop where
  len : ∀ vs H Q E, sp vs H Q E -> vs.length = ps.length
  run : ∀ (A : Around) (outer : List Env) (s : Shared) (H : Hp) (args : Args) (us : List Value) (vs : List V) (Q : VK) (E : XK), bV k A -> gS P w K mg base A outer s H -> BindsTo s fd args (ps.zip us) -> aF vs us -> sp vs H Q E ->
    codeAny (model P w) A (.call (.ref f) args) (CR CX outer P w H s Q E) s
theorem ci.mono {P : Program} {w : World} {K : W.Frag} {mg : Str -> Option Value} {base : Heap} {CX : i7} {j k : Nat} {f : Addr} {fd : FuncData} {ps : List Str} {sp : Sp} (F : ci P w K mg base CX j f fd ps sp) (h : j <= k) :
    ci P w K mg base CX k f fd ps sp := ⟨F.len, fun A outer s H args us vs Q E hr => F.run A outer s H args us vs Q E (hr.mono h)⟩
theorem gS.make {P : Program} {w : World} {K : W.Frag} {mg : Str -> Option Value} {base : Heap} {A : Around} {outer : List Env} {s : Shared} {H : Hp} (e : gS P w K mg base A outer s H) (C : Addr) (us : List Value) (kw : List (Str × Value)) :
    gS P w K mg base (A.under (.builtin "type.__call__" ⟨.ref C :: us, kw⟩)) outer s H := ⟨by first | exact e.frames | (simpa [Around.under, Code.envs, Code.isFrame, pushEnvs] using e.frames), e.mod, e.bs, e.bsz, e.funs, e.frf, e.hok, e.bare⟩
theorem gS.in1 {P : Program} {w : World} {K : W.Frag} {mg : Str -> Option Value} {base : Heap} {A : Around} {outer : List Env} {s : Shared} {H : Hp} (e : gS P w K mg base A outer s H) :
    gS P w K mg base A.in1 outer s H := ⟨e.frames, e.mod, e.bs, e.bsz, e.funs, e.frf, e.hok, e.bare⟩
section
variable {X : Cx} {pins : List (Addr × Obj)} {σ : St} {H : Hp} {s s' : Shared}
theorem aj.env0 (I : aj X pins σ H s) : gS X.prog X.w X.K X.mg X.base X.A X.stack s H :=
  ⟨I.ok.frames, I.ok.mod, I.bs, Nat.le_trans I.ok.bsz I.sz, I.stack, I.stkFree, I.hok, I.bare⟩
theorem aj.after {Q : VK} {u : Value} (I : aj X pins σ H s) (h : CE X.stack X.prog X.w H s Q u s') : EP X pins σ Q u s' := by
  obtain ⟨v, H', os, bare, un, hok, r, q⟩ := h
  obtain ⟨hh, g, d, t, os'⟩ := s'
  obtain rfl : os' = s.os := os
  exact ⟨v, H', I.call (h' := hh) (g' := g) (d' := d) (t' := t) (ch := []) un hok bare (fun b z => absurd z (by simp)), r, q⟩
end
def yS (sp : Sp) (dvs : List V) (E : XK) (t : TA) : TE := fun σ H Q => t σ H fun vs H1 => sp (vs ++ dvs) H1 Q E
def yQ (C : Addr) (m : Str) (sp : Sp) (dvs : List V) (E : XK) (ta : TE) (t : TA) : TE := fun σ H Q => ta σ H fun x H1 => ∃ a dx fs, x = .ref a /\ H1 a = some (.ins C dx fs) /\ fs.lookup m = none /\
  t σ H1 fun vs H2 => sp (x :: (vs ++ dvs)) H2 Q E
def yR (C : Addr) (sp : Sp) (dvs : List V) (E : XK) (t : TA) : TE := fun σ H Q => t σ H fun vs H1 => ∀ x dx, H1 x = none -> H1 dx = none -> dx ≠ x ->
  sp (.ref x :: (vs ++ dvs)) (aU (aU H1 dx (.own x)) x (.ins C dx [])) (fun v H2 => v = .non /\ Q (.ref x) H2) E
def cE (K : W.Frag) (fd : FuncData) (ps : List Str) (ds : List Value) : Prop :=
  ∀ (s : Shared) (us : List Value), K.In s.heap -> (us ++ ds).length = ps.length -> BindsTo s fd ⟨us, []⟩ (ps.zip (us ++ ds))
theorem cE.all {K : W.Frag} {fd : FuncData} {ps : List Str} (h : ∀ us : List Value, us.length = ps.length -> bindArgs fd ⟨us, []⟩ = pure (ps.zip us)) : cE K fd ps [] := fun s us _ hl => by
  rw [List.append_nil] at hl ⊢
  exact .of_eq (h us hl)
def eO (CX : i7) (X : Cx) (E : XK) : Prop := ∀ (pins : List (Addr × Obj)) (σ : St) (H : Hp) (s : Shared) (e : Value) (s' : Shared), aj X pins σ H s -> CX X.stack H s E e s' -> X.xe e s'
section
variable {X : Cx} {CX : i7} {k : Nat} {f C : Addr} {fd : FuncData} {ps : List Str} {sp : Sp} {dvs : List V} {ds : List Value} {E : XK} {x m : Str} {p pos apos : Pos} {e o : Expr} {es : List Expr} {ta : TE} {t : TA}
theorem mj {pins : List (Addr × Obj)} {σ : St} {H : Hp} {s : Shared} {Q : VK} {us : List Value} {vs : List V} (F : ci X.prog X.w X.K X.mg X.base CX k f fd ps sp) (hr : bV k X.A) (hb : cE X.K fd ps ds) (hd : aF dvs ds) (hx : eO CX X E)
    (I : aj X pins σ H s) (r : aF vs us) (h : sp (vs ++ dvs) H Q E) : wpAny (model X.prog X.w) X.A (call (.ref f) us) (EP X pins σ Q) X.xe s := by
  have r2 : aF (vs ++ dvs) (us ++ ds) := r.append hd
  have hl : (us ++ ds).length = ps.length := by rw [<- r2.length]; exact F.len _ _ _ _ h
  refine wpAny_call (codeAny_mono (F.run X.A X.stack s H ⟨us, []⟩ (us ++ ds) (vs ++ dvs) Q E hr I.env0 (hb s us I.kIn hl) r2 h) fun r s' hq => ?_)
  cases r with
  | error e => exact hx pins σ H s e s' I hq
  | ok fl =>
    cases fl with
    | ret u => exact I.after hq
    | next => exact False.elim hq
    | brk => exact False.elim hq
    | cont => exact False.elim hq
theorem Au (F : ci X.prog X.w X.K X.mg X.base CX k f fd ps sp) (hr : bV k X.A) (hg : Gl X x) (hm : X.mg x = some (.ref f)) (hk : W.keepIn X.K (.ref f) = true) (hb : cE X.K fd ps ds) (hd : aF dvs ds) (hx : eO CX X E)
    (ha : PA X (e :: es) t) (hdb : (x == ("__debug__" : Str)) = false := by decide) (he : starEach (e :: es) X.env = (false, eval e X.env) :: starEach es X.env := by rfl) (hpl : (backTo pos (starEach es X.env)).any (·.1) = false := by rfl) :
    PE X (.Call (.Name x p) (e :: es) [] pos) (yS sp dvs E t) := by
  intro pins s σ H Q I h
  refine wpAny_Call_Name_kw (ib I hg hm ?_ hdb)
  refine W.callWith_K (h₀ := X.base) I.ok.mod.kin hk (aM (ha pos pins s σ H _ I h) fun us s1 ⟨vs, H1, I1, r, q⟩ => ⟨I1.kIn, ?_⟩) he hpl
  exact mj F hr hb hd hx I1 r q
theorem xk (F : ci X.prog X.w X.K X.mg X.base CX k f fd ps sp) (hr : bV k X.A) (hg : Gl X x) (hm : X.mg x = some (.ref f)) (hk : W.keepIn X.K (.ref f) = true) (hb : cE X.K fd ps ds) (hd : aF dvs ds) (hx : eO CX X E)
    (hdb : (x == ("__debug__" : Str)) = false := by decide) : PE X (.Call (.Name x p) [] [] pos) (yS sp dvs E t6) := by
  intro pins s σ H Q I h
  refine wpAny_Call_Name_kw (ib I hg hm ?_ hdb)
  exact W.callWith_K0 I.kIn hk (mj (us := []) F hr hb hd hx I .nil h)
theorem Ar {pl : Sem Bool} (he : PE X o ta) (c : fL X.K C) (hm : rX X.K C m f) (F : ci X.prog X.w X.K X.mg X.base CX k f fd ps sp) (hr : bV k X.A) (hb : cE X.K fd ps ds) (hd : aF dvs ds) (hx : eO CX X E) (ha : PA X (e :: es) t)
    (hst : starEach (e :: es) X.env = (false, eval e X.env) :: starEach es X.env := by rfl) (hpl : (backTo pos (starEach es X.env)).any (·.1) = false := by rfl)
    (ht : eval (.Call (.Attribute o m apos) (e :: es) [] pos) X.env = (do
      let ov <- eval o X.env
      standAt apos.atName
      let (f, first) <- holding [ov] (getMethod ov m pl)
      callWith pos f first (backTo pos (starEach (e :: es) X.env)) (backToKw pos (keywordEach [] X.env))) := by rfl) :
    PE X (.Call (.Attribute o m apos) (e :: es) [] pos) (yQ C m sp dvs E ta t) := by
  intro pins s σ H Q I h
  refine W.methodCall_KW (pl := pl) (aM (he pins s σ H _ I h) fun u s1 ⟨x, H1, I1, rx, a, dx, fs, ex, ea, l, q⟩ => ?_) ht
  subst ex
  obtain rfl : u = Value.ref a := rx
  refine mK I1 ea c hm l ?_
  refine W.callWith_K (first := [.ref a]) (h₀ := X.base) I.ok.mod.kin hm.kp (aM (ha pos pins s1 σ H1 _ I1 q) fun us s2 ⟨vs, H2, I2, r, q2⟩ => ⟨I2.kIn, ?_⟩) hst hpl
  exact mj (us := .ref a :: us) (vs := .ref a :: vs) F hr hb hd hx I2 (.cons rfl r) q2
theorem xg {pl : Sem Bool} (he : PE X o ta) (c : fL X.K C) (hm : rX X.K C m f) (F : ci X.prog X.w X.K X.mg X.base CX k f fd ps sp) (hr : bV k X.A) (hb : cE X.K fd ps ds) (hd : aF dvs ds) (hx : eO CX X E)
    (ht : eval (.Call (.Attribute o m apos) [] [] pos) X.env = (do
      let ov <- eval o X.env
      standAt apos.atName
      let (f, first) <- holding [ov] (getMethod ov m pl)
      callWith pos f first (backTo pos (starEach [] X.env)) (backToKw pos (keywordEach [] X.env))) := by rfl) :
    PE X (.Call (.Attribute o m apos) [] [] pos) (yQ C m sp dvs E ta t6) := by
  intro pins s σ H Q I h
  refine W.methodCall_KW (pl := pl) (aM (he pins s σ H _ I h) fun u s1 ⟨x, H1, I1, rx, a, dx, fs, ex, ea, l, q⟩ => ?_) ht
  subst ex
  obtain rfl : u = Value.ref a := rx
  refine mK I1 ea c hm l ?_
  exact W.callWith_K0 (first := [.ref a]) I1.kIn hm.kp (mj (us := [.ref a]) (vs := [.ref a]) F hr hb hd hx I1 (.cons rfl .nil) q)
structure Mk (K : W.Frag) (C f : Addr) : Prop where
  makes : W.makesIn K C = true
  init : W.findIn K (.ref C) "__init__" = some (some (.ref f))
  fn : W.isFn K (.ref f) = true
  kp : W.keepIn K (.ref C) = true
theorem qf {pins : List (Addr × Obj)} {σ : St} {H : Hp} {s : Shared} {Q : VK} {us : List Value} {vs : List V} (M : Mk X.K C f) (F : ci X.prog X.w X.K X.mg X.base CX k f fd ps sp) (hr : bV (k + 1) X.A) (hb : cE X.K fd ps ds) (hd : aF dvs ds)
    (hx : eO CX X E) (I : aj X pins σ H s) (r : aF vs us)
    (h : ∀ x dx, H x = none -> H dx = none -> dx ≠ x -> sp (.ref x :: (vs ++ dvs)) (aU (aU H dx (.own x)) x (.ins C dx [])) (fun v H2 => v = .non /\ Q (.ref x) H2) E) :
    wpAny (model X.prog X.w) X.A (call (.ref C) us) (EP X pins σ Q) X.xe s := by
  have hq := h (s.heap.objs.size + 1) s.heap.objs.size (I.hok.fresh (Nat.le_succ _)) (I.hok.fresh (Nat.le_refl _)) (Nat.ne_of_lt (Nat.lt_succ_self _))
  have I2 := aj.made (C := C) I
  have r2 : aF (V.ref (s.heap.objs.size + 1) :: (vs ++ dvs)) (Value.ref (s.heap.objs.size + 1) :: (us ++ ds)) := .cons rfl (r.append hd)
  have hl : (Value.ref (s.heap.objs.size + 1) :: us ++ ds).length = ps.length := by
    have e := r2.length
    rw [F.len _ _ _ _ hq] at e
    exact e.symm
  refine wpAny_call (xu (f := f) I.kIn M.makes M.init (beq_iff_eq.mp M.fn) (codeAny_mono (F.run _ X.stack _ _ ⟨Value.ref (s.heap.objs.size + 1) :: us, []⟩ (Value.ref (s.heap.objs.size + 1) :: (us ++ ds)) _ _ E (hr.make C us [])
    (I2.env0.make C us []) (hb _ (Value.ref (s.heap.objs.size + 1) :: us) I2.kIn hl) r2 hq) fun r s' hq' => ?_))
  cases r with
  | error e => exact hx pins σ _ _ e s' I2 hq'
  | ok fl =>
    cases fl with
    | ret u =>
      obtain ⟨v, H', I3, rv, ev, q3⟩ := I2.after hq'
      subst ev
      exact ⟨rv, ⟨V.ref (s.heap.objs.size + 1), H', I3, rfl, q3⟩⟩
    | next => exact False.elim hq'
    | brk => exact False.elim hq'
    | cont => exact False.elim hq'
theorem As (M : Mk X.K C f) (F : ci X.prog X.w X.K X.mg X.base CX k f fd ps sp) (hr : bV (k + 1) X.A) (hg : Gl X x) (hm : X.mg x = some (.ref C)) (hb : cE X.K fd ps ds) (hd : aF dvs ds) (hx : eO CX X E)
    (ha : PA X (e :: es) t) (hdb : (x == ("__debug__" : Str)) = false := by decide) (he : starEach (e :: es) X.env = (false, eval e X.env) :: starEach es X.env := by rfl) (hpl : (backTo pos (starEach es X.env)).any (·.1) = false := by rfl) :
    PE X (.Call (.Name x p) (e :: es) [] pos) (yR C sp dvs E t) := by
  intro pins s σ H Q I h
  refine wpAny_Call_Name_kw (ib I hg hm ?_ hdb)
  refine W.callWith_K (h₀ := X.base) I.ok.mod.kin M.kp (aM (ha pos pins s σ H _ I h) fun us s1 ⟨vs, H1, I1, r, q⟩ => ⟨I1.kIn, ?_⟩) he hpl
  exact qf M F hr hb hd hx I1 r q
theorem xh (M : Mk X.K C f) (F : ci X.prog X.w X.K X.mg X.base CX k f fd ps sp) (hr : bV (k + 1) X.A) (hg : Gl X x) (hm : X.mg x = some (.ref C)) (hb : cE X.K fd ps ds) (hd : aF dvs ds) (hx : eO CX X E)
    (hdb : (x == ("__debug__" : Str)) = false := by decide) : PE X (.Call (.Name x p) [] [] pos) (yR C sp dvs E t6) := by
  intro pins s σ H Q I h
  refine wpAny_Call_Name_kw (ib I hg hm ?_ hdb)
  exact W.callWith_K0 I.kIn M.kp (qf (us := []) M F hr hb hd hx I .nil h)
end
section
variable {X : Cx} {CX : i7} {k : Nat} {f C : Addr} {fd : FuncData} {ps ks : List Str} {sp : Sp} {E : XK} {x m : Str} {p pos apos kpos : Pos} {e o : Expr} {es : List Expr} {kws : List Keyword} {te ta : TE} {t tk : TA} {nm : Option Str}
variable {g : List Value -> List Value -> List Value} {gV : List V -> List V -> List V}
end
structure aJ (N P : List Str) (sc : Scope) : Prop where
  kind : sc.kind = .function
  co : sc.isCoroutine = false
  gen : sc.isGenerator = false
  nd : N.Nodup
  pre : N.take P.length = P
  par : ∀ x ∈ P, sc.names.lookup x = some .local \/ sc.names.lookup x = some .cell
  nofree : ∀ y ∈ sc.names, y.2 ≠ .free
theorem oX {kindOf : Str -> Option NameKind} {x : Str} : ∀ {binds : List (Str × Value)} {m : Str -> Option Value}, (∀ v, (x, v) ∉ binds) -> bindL kindOf binds m x = m x
  | [], _, _ => rfl
  | (n, v) :: r, m, h => by
    unfold bindL
    rw [oX fun w hw => h w (List.mem_cons_of_mem _ hw)]
    split
    . have : x ≠ n := by rintro rfl; exact h v List.mem_cons_self
      simp [this]
    . rfl
theorem oZ {kindOf : Str -> Option NameKind} {x : Str} : ∀ {binds : List (Str × Value)} {m : Str -> Option Value}, (∀ v, (x, v) ∉ binds) -> bindC kindOf binds m x = m x
  | [], _, _ => rfl
  | (n, v) :: r, m, h => by
    unfold bindC
    rw [oZ fun w hw => h w (List.mem_cons_of_mem _ hw)]
    split
    . rfl
    . have : x ≠ n := by rintro rfl; exact h v List.mem_cons_self
      simp [this]
theorem oY {kindOf : Str -> Option NameKind} {x : Str} {v : Value} : ∀ {P : List Str} {vs : List Value} {i : Nat} {m : Str -> Option Value}, P.Nodup -> P[i]? = some x -> vs[i]? = some v -> kindOf x = some .local ->
    bindL kindOf (P.zip vs) m x = some v
  | [], _, _, _, _, h, _, _ => by simp at h
  | _ :: _, [], _, _, _, _, h, _ => by simp at h
  | p :: P, w :: vs, 0, m, nd, h1, h2, hk => by
    simp at h1 h2; subst h1; subst h2
    show bindL kindOf ((p, w) :: P.zip vs) m p = _
    unfold bindL
    rw [oX fun v hv => (List.nodup_cons.mp nd).1 (List.of_mem_zip hv).1, if_pos hk]
    simp
  | p :: P, w :: vs, i + 1, m, nd, h1, h2, hk => by
    show bindL kindOf ((p, w) :: P.zip vs) m x = _
    unfold bindL
    exact oY (i := i) (List.nodup_cons.mp nd).2 (by simpa using h1) (by simpa using h2) hk
theorem o0 {kindOf : Str -> Option NameKind} {x : Str} {v : Value} : ∀ {P : List Str} {vs : List Value} {i : Nat} {m : Str -> Option Value}, P.Nodup -> P[i]? = some x -> vs[i]? = some v -> kindOf x ≠ some .local ->
    bindC kindOf (P.zip vs) m x = some v
  | [], _, _, _, _, h, _, _ => by simp at h
  | _ :: _, [], _, _, _, _, h, _ => by simp at h
  | p :: P, w :: vs, 0, m, nd, h1, h2, hk => by
    simp at h1 h2; subst h1; subst h2
    show bindC kindOf ((p, w) :: P.zip vs) m p = _
    unfold bindC
    rw [oZ fun v hv => (List.nodup_cons.mp nd).1 (List.of_mem_zip hv).1, if_neg hk]
    simp
  | p :: P, w :: vs, i + 1, m, nd, h1, h2, hk => by
    show bindC kindOf ((p, w) :: P.zip vs) m x = _
    unfold bindC
    exact o0 (i := i) (List.nodup_cons.mp nd).2 (by simpa using h1) (by simpa using h2) hk
def start (N : List Str) (vs : List V) : St := vs.map some ++ List.replicate (N.length - vs.length) none
def jH (CX : i7) (P : Program) (w : World) (K : W.Frag) (mg : Str -> Option Value) (base : Heap) (N : List Str) (qual : Str) (scope : Scope) (f : Addr) (cd : Value) (A : Around) (outer : List Env) (s : Shared) (H : Hp) (E : XK) : Cx where
  prog := P
  w := w
  K := K
  mg := mg
  base := base
  A := A.deeper (envOfC qual scope s.heap.objs.size f cd)
  N := N
  s₀ := s
  H₀ := H
  env := envOfC qual scope s.heap.objs.size f cd
  outer := outer
  stack := envOfC qual scope s.heap.objs.size f cd :: outer
  ex := []
  calm := true
  fn := fun _ => true
  pn := []
  xe := fun e s' => wpAny (model P w) (A.deeper (envOfC qual scope s.heap.objs.size f cd)) (leaving (envOfC qual scope s.heap.objs.size f cd) e) (fun _ s'' => CX outer H s E e s'') (fun e' s'' => CX outer H s E e' s'') s'
theorem rq {sc : Scope} {n : Nat} {x : Str} (h : sc.names.lookup x = some .cell) : ∃ c, (cellsFrom n sc.names []).lookup x = some c := by
  have q := W.cellsFrom_some sc.names n [] (.inl h)
  exact Option.isSome_iff_exists.mp q
theorem v3 {CX : i7} {P : Program} {w : World} {K : W.Frag} {mg : Str -> Option Value} {base : Heap} {N ps : List Str} {qual : Str} {scope : Scope} {f : Addr} {cd : Value} {A : Around} {outer : List Env} {s s1 : Shared} {H : Hp} {E : XK} {us : List Value} {vs : List V}
    (S : aJ N ps scope) (hd : A.handled = none) (e0 : gS P w K mg base A outer s H) (hl : vs.length = ps.length) (r : aF vs us)
    (x : InCallC s s.heap.objs.size (bindL (envOfC qual scope s.heap.objs.size f cd).kindOf (ps.zip us) fun _ => none) (cellsFrom (s.heap.objs.size + 1) scope.names []) (bindC (envOfC qual scope s.heap.objs.size f cd).kindOf (ps.zip us) fun _ => none) s1) :
    aj (jH CX P w K mg base N qual scope f cd A outer s H E) [] (start N vs) H s1 := by
  have hpl : ps.length <= N.length := by have := congrArg List.length S.pre; rw [List.length_take] at this; omega
  obtain ⟨h1, tk, rfl, hk⟩ := x.done
  have noA : ∀ b : Addr, b ∉ (jH CX P w K mg base N qual scope f cd A outer s H E).ex := fun b z => absurd (show b ∈ ([] : List Addr) from z) (by simp)
  refine ⟨⟨e0.mod, S.kind, rfl, rfl, Nat.le_refl _, fun y z c h1 h2 => ?_, fun y hy => ?_, fun y c _ h => ?_, fun _ => hd, Around.frames_deeper e0.frames, .inr ⟨rfl, rfl⟩, fun b z => absurd z (noA b), e0.bs, e0.bsz, fun b _ _ => noA b, fun b z => absurd z (noA b), e0.funs, e0.frf⟩,
    rfl, e0.bare, Un.kept hk, ⟨_, x.toInCall.ns, fun i y v h1 h2 h3 => ?_⟩, fun y c h => ⟨_, x.cell y c h⟩, e0.hok.fresh (Nat.le_refl _), fun y c h => ?_, fun p hp => absurd (show p ∈ ([] : List (Addr × Obj)) from hp) (by simp), e0.hok.kept hk, ?_⟩
  . exact name_of_addr x.apart (PySem.mem_of_lookup h1) (PySem.mem_of_lookup h2)
  . have hy : scope.names.lookup y = some .cell \/ scope.names.lookup y = some .free := hy
    rcases hy with hy | hy
    . exact rq hy
    . exact absurd rfl (S.nofree _ (PySem.mem_of_lookup hy))
  . exact Nat.le_of_lt (x.above y c (PySem.mem_of_lookup h))
  . have hi : i < vs.length := by
      unfold start at h2
      by_cases hi : i < vs.length
      . exact hi
      . rw [List.getElem?_append_right (by simpa using hi)] at h2
        rw [List.getElem?_replicate] at h2
        split at h2 <;> cases h2
    have ha : vs[i]? = some v := by
      unfold start at h2
      rw [List.getElem?_append_left (by simpa using hi), List.getElem?_map] at h2
      cases e : vs[i]? with
      | none => rw [e] at h2; cases h2
      | some a => rw [e] at h2; cases h2; rfl
    obtain ⟨u, hu, rv⟩ := r.get ha
    have hp : ps[i]? = some y := by
      rw [<- S.pre, List.getElem?_take_of_lt (by omega)]; exact h1
    have ndP : ps.Nodup := by rw [<- S.pre]; exact S.nd.sublist (List.take_sublist _ _)
    refine ⟨u, rv, ?_⟩
    rcases S.par y (List.mem_of_getElem? hp) with k | k
    . exact .inl ⟨k, oY ndP hp hu k⟩
    . obtain ⟨c, e⟩ := rq (n := s.heap.objs.size + 1) k
      refine .inr ⟨.inl k, c, e, ?_⟩
      have q := x.cell y c e
      rw [o0 ndP hp hu (by show scope.names.lookup y ≠ _; rw [k]; decide)] at q
      exact q
  . exact e0.hok.fresh (Nat.le_of_lt (x.above y c (PySem.mem_of_lookup h)))
  . unfold start
    show _ = N.length
    rw [List.length_append, List.length_map, List.length_replicate]
    omega
theorem GF {CX : i7} {P : Program} {w : World} {K : W.Frag} {mg : Str -> Option Value} {base : Heap} {k : Nat} {f : Addr} {name qual : Str} {params : Arguments} {body : List Stmt} {scope : Scope} {dV kV doc pm cdv ct oc : Value} {an od : Option Addr}
    {osl : Array (Option Value)} {N ps : List Str} {sp : Sp} (lk : K.lookup f = some ⟨oc, od, .func (W.fnOf name qual params body scope dV kV doc pm an cdv ct), osl⟩) (hcd : W.codeIn K cdv qual = true) (S : aJ N ps scope)
    (len : ∀ vs H Q E, sp vs H Q E -> vs.length = ps.length)
    (hbody : ∀ (A : Around) (outer : List Env) (s : Shared) (H : Hp) (vs : List V) (Q : VK) (E : XK), bV k (A.deeper (envOfC qual scope s.heap.objs.size f cdv)) -> sp vs H Q E ->
      ∃ t, fK (jH CX P w K mg base N qual scope f cdv A outer s H E) body t /\ t { nx := fun _ H' => Q .non H', rt := Q } (start N vs) H) :
    ci P w K mg base CX (k + 1) f (W.fnOf name qual params body scope dV kV doc pm an cdv ct) ps sp := by
  refine ⟨len, fun A outer s H args us vs Q E hr e0 hb r hsp => ?_⟩
  have hl := len _ _ _ _ hsp
  have KX : K.In s.heap := e0.mod.kin.keeps fun b o e => (e0.bs b o e).1
  have lim : s.heap.NoLimit := e0.mod.nolimit.keeps fun b o e => (e0.bs b o e).1
  have hkind : ∀ y ∈ ps.zip us, scope.names.lookup y.1 = some .local \/ (scope.names.lookup y.1 = some .cell /\ ((cellsFrom (s.heap.objs.size + 1) scope.names []).lookup y.1).isSome = true) := fun ⟨n, v⟩ hy => by
    rcases S.par n (List.of_mem_zip hy).1 with q | q
    . exact .inl q
    . exact .inr ⟨q, W.cellsFrom_some _ _ _ (.inl q)⟩
  refine codeAny_call_function hr.depth (KX _ _ lk) rfl S.co S.gen rfl (W.codeRec_of KX hcd) (hb _ _ _ _ ?_)
  refine wpAny_newFunctionEnv_cells S.kind hkind fun env he s1 x => ?_
  subst he
  refine ⟨lim.keeps x.toInCall.keep, codeAny_func ?_⟩
  obtain ⟨t, ht, hq⟩ := hbody A outer s H vs Q E (hr.deeper _) hsp
  have I : aj (jH CX P w K mg base N qual scope f cdv A outer s H E) [] (start N vs) H s1 := v3 S hr.hd e0 hl r x
  refine wpAny_mono (ht [] s1 (start N vs) H _ I hq) (fun fl s' hs => ?_) fun e s' hs => hs
  have fin : ∀ {σ' : St} {H' : Hp} {v : V} {u : Value}, aj (jH CX P w K mg base N qual scope f cdv A outer s H E) [] σ' H' s' -> aP v u -> Q v H' -> CE outer P w H s Q u s' :=
    fun {σ' H' v u} J rv q => ⟨v, H', J.os, J.bare, J.base, J.hok, rv, q⟩
  cases fl with
  | ret u =>
    obtain ⟨v, σ', H', J, rv, q⟩ := hs
    exact fin J rv q
  | next =>
    obtain ⟨σ', H', J, q⟩ := hs
    exact fin (v := V.non) (u := Value.none) J rfl q
  | brk =>
    obtain ⟨_, _, _, q⟩ := hs
    exact False.elim q
  | cont =>
    obtain ⟨_, _, _, q⟩ := hs
    exact False.elim q
end L2
namespace L2
open PySem PySem.Spec PyProof.Rows
section
variable {X : Cx} {x : Str} {p pos : Pos} {e : Expr} {es : List Expr} {t : TA} {id T : String} {r : List V -> Hp -> VK -> Prop}
def GT (r : List V -> Hp -> VK -> Prop) (t : TA) : TE := fun σ H Q => t σ H fun vs H1 => r vs H1 Q
theorem xj (hc : dy X (.builtin id) r) (hg : Gl X x) (hm : X.mg x = none) (hv : bootBuiltins x = some (.builtin id)) (ha : PA X (e :: es) t) (hn : x ≠ "__name__" := by decide) (hdb : (x == ("__debug__" : Str)) = false := by decide)
    (he : starEach (e :: es) X.env = (false, eval e X.env) :: starEach es X.env := by rfl) (hpl : (backTo pos (starEach es X.env)).any (·.1) = false := by rfl) : PE X (.Call (.Name x p) (e :: es) [] pos) (GT r t) := by
  intro pins s σ H Q I h
  refine wpAny_Call_Name_kw (db I hg hm hv ?_ hn hdb)
  exact PyProof.Rows.callWith_builtin1 (aM (ha pos pins s σ H _ I h) fun us s1 ⟨vs, H1, I1, r1, q1⟩ => hc pins s1 σ H1 vs us Q I1 r1 q1) he hpl
theorem vx (hc : dy X (.type T) r) (hg : Gl X x) (hm : X.mg x = none) (hv : bootBuiltins x = some (.type T)) (ha : PA X (e :: es) t) (hn : x ≠ "__name__" := by decide) (hdb : (x == ("__debug__" : Str)) = false := by decide)
    (he : starEach (e :: es) X.env = (false, eval e X.env) :: starEach es X.env := by rfl) (hpl : (backTo pos (starEach es X.env)).any (·.1) = false := by rfl) : PE X (.Call (.Name x p) (e :: es) [] pos) (GT r t) := by
  intro pins s σ H Q I h
  refine wpAny_Call_Name_kw (db I hg hm hv ?_ hn hdb)
  exact PyProof.Rows.callWith_type1 (aM (ha pos pins s σ H _ I h) fun us s1 ⟨vs, H1, I1, r1, q1⟩ => hc pins s1 σ H1 vs us Q I1 r1 q1) he hpl
end
end L2
namespace HT
open PySem PyProof.Rows
def lexLt : List Int -> List Int -> Bool
  | [], [] => false
  | [], _ :: _ => true
  | _ :: _, [] => false
  | x :: xs, y :: ys => if x = y then lexLt xs ys else decide (x < y)
theorem lexLt_cons (x y : Int) (xs ys : List Int) : lexLt (x :: xs) (y :: ys) = if x = y then lexLt xs ys else decide (x < y) := rfl
section
open PySem.SeqAt
open PySem.AutoSeq1 (wpAny_loadPart')
open PySem.MeetsSeq PySem.MeetsSeq2 PySem.MeetsSeq3
end
section
variable {prog : Program} {w : World} {A : Around} {E : Value -> Shared -> Prop} {s : Shared}
theorem cat_tup {t b : Addr} {vs ws : List Value} {Q : Value -> Shared -> Prop} (ht : IsTup s.heap t vs.toArray) (hb : IsTup s.heap b ws.toArray) (hv : vs ≠ [])
    (h1 : ws = [] -> Q (.ref t) s) (h2 : ws ≠ [] -> Q (.ref s.heap.objs.size) { s with heap := s.heap.push { cls := .type "tuple", data := .seq (vs ++ ws).toArray } })
    (hsz : vs.length + ws.length <= sizeLine) : wpAny (model prog w) A (binaryOp .Add (.ref t) (.ref b)) Q E s := by
  obtain ⟨⟨cls, dd, data, sl⟩, ho, hc, n, hd⟩ := id ht
  obtain ⟨⟨cls2, dd2, data2, sl2⟩, ho2, hc2, n2, hd2⟩ := id hb
  simp only at hc hd hc2 hd2
  subst hc hd hc2 hd2
  have e : vs.toArray ++ ws.toArray = (vs ++ ws).toArray := by simp
  by_cases hw : ws = []
  . exact concat_meets ⟨_, ho, rfl⟩ ⟨_, ho2, rfl⟩ noFill_tuple_add seq_tuple_add PySem.F.slot_tuple_add PySem.F.entry_tuple_add (PySem.F.args_tuple_add_2 _ _)
      (tuple_addW1 t b vs.toArray ws.toArray n n2 dd dd2 sl sl2 (by simpa using hv) (by simp [hw])) ⟨ho, ho2, h1 hw⟩
  . refine concat_meets ⟨_, ho, rfl⟩ ⟨_, ho2, rfl⟩ noFill_tuple_add seq_tuple_add PySem.F.slot_tuple_add PySem.F.entry_tuple_add (PySem.F.args_tuple_add_2 _ _)
      (tuple_addW2 t b vs.toArray ws.toArray n n2 dd dd2 sl sl2 (by simpa using hv) (by simpa using hw) (by rw [List.size_toArray, List.size_toArray]; exact hsz)) ⟨ho, ho2, ?_⟩
    rw [e]
    exact h2 hw
def sIx (n d : Nat) : Option Int -> Nat
  | none => d
  | some v => if v < 0 then (v + (n : Int)).toNat else min v.toNat n
end
end HT
namespace L2
open PySem PySem.Spec PyProof.Rows
abbrev TO := St -> Hp -> (Option Int -> Hp -> Prop) -> Prop
def PO (X : Cx) (e : Option Expr) (t : TO) : Prop :=
  ∀ (pins : List (Addr × Obj)) (s : Shared) (σ : St) (H : Hp) (Q : Option Int -> Hp -> Prop), aj X pins σ H s -> t σ H Q ->
    wpAny (model X.prog X.w) X.A (evalPart e X.env) (fun u s' => ∃ o H', aj X pins σ H' s' /\ IsPart u o /\ Q o H') X.xe s
def zV : TO := fun _ H Q => Q none H
def FS (t : TE) : TO := fun σ H Q => t σ H fun x H1 => ∃ i, x = .int i /\ Q (some i) H1
section
variable {X : Cx} {e : Expr} {te : TE} {lo hi : Option Expr} {tl th : TO} {pos p2 : Pos}
theorem Ap : PO X none zV := by
  intro pins s σ H Q I h
  rw [evalPart_none]
  exact wpAny_pure ⟨none, H, I, .none, h⟩
theorem Ao (h : PE X e te) : PO X (some e) (FS te) := by
  intro pins s σ H Q I hw
  rw [evalPart_some]
  refine aM (h pins s σ H _ I hw) fun u s1 ⟨x, H1, I1, r1, q1⟩ => ?_
  obtain ⟨i, rfl, q⟩ := q1
  obtain ⟨t, rfl⟩ := r1
  exact ⟨some i, H1, I1, .int i t, q⟩
def Ei (xs : List V) (lo hi : Option Int) : List V := (xs.drop (HT.sIx xs.length 0 lo)).take (HT.sIx xs.length xs.length hi - HT.sIx xs.length 0 lo)
def rLtT (K : W.Frag) : R2 := fun x y H Q => ∃ a b ns ms, x = .ref a /\ y = .ref b /\ bW K H a (ns.map V.int) /\ bW K H b (ms.map V.int) /\ Q (.bl (HT.lexLt ns ms)) H
def F7 (K : W.Frag) : R2 := fun x y H Q => ∃ a b xs ys, x = .ref a /\ y = .ref b /\ bW K H a xs /\ bW K H b ys /\ xs ≠ [] /\ xs.length + ys.length <= sizeLine /\
  (ys = [] -> Q (.ref a) H) /\ (ys ≠ [] -> ∀ p, H p = none -> Q (.ref p) (aU H p (.tup (xs ++ ys))))
theorem aF.nil_iff {xs : List V} {us : List Value} (r : aF xs us) : us = [] ↔ xs = [] := by
  cases r with
  | nil => simp
  | cons _ _ => simp
theorem AC : cx X (binaryOp .Add) (F7 X.K) := by
  intro pins s σ H x y v u Q I rx ry h
  obtain ⟨a, b, xs, ys, rfl, rfl, ha, hb, hx, hz, q1, q2⟩ := h
  cases rx
  cases ry
  obtain ⟨its, r1, p1, _⟩ := I.tuple ha
  obtain ⟨its2, r2, p2, _⟩ := I.tuple hb
  refine HT.cat_tup p1 p2 (fun z => hx (r1.nil_iff.mp z)) (fun z => ⟨.ref a, H, I, rfl, q1 (r2.nil_iff.mp z)⟩) (fun z => ?_) (by rw [<- r1.length, <- r2.length]; exact hz)
  refine ⟨.ref s.heap.objs.size, _, I.laid (t' := s.toks) (o := .tup (xs ++ ys)) (fun b ob q => Heap.get?_push_of_some _ q) (Nat.le_refl _) ?_, rfl, q2 (fun w => z (r2.nil_iff.mpr w)) _ (I.hok.fresh (Nat.le_refl _))⟩
  exact ⟨by rw [List.length_append]; exact hz, _, r1.append r2, IsTup.new _ _⟩
end
end L2
namespace L2
open PySem PySem.Spec PyProof.Rows
def ln (n : Nat) (i : Int) : Option Nat := if 0 <= i then (if i < n then some i.toNat else none) else if -(n : Int) <= i then some (i + n).toNat else none
def atI {α : Type} (xs : List α) (i : Int) : Option α := (ln xs.length i).bind fun j => xs[j]?
theorem tF {n : Nat} {i : Int} {j : Nat} (h : ln n i = some j) : seqIndex? i n = some j /\ j < n /\ -(n : Int) <= i /\ i < n := by
  unfold ln at h
  by_cases h0 : 0 <= i
  . rw [if_pos h0] at h
    by_cases h1 : i < n
    . rw [if_pos h1] at h
      have e : i.toNat = j := Option.some.inj h
      exact ⟨by rw [seqIndex_of h0 h1, e], by omega, by omega, h1⟩
    . rw [if_neg h1] at h; cases h
  . rw [if_neg h0] at h
    by_cases h1 : -(n : Int) <= i
    . rw [if_pos h1] at h
      have e : (i + n).toNat = j := Option.some.inj h
      exact ⟨by rw [seqIndex_neg (by omega) h1, e], by omega, h1, by omega⟩
    . rw [if_neg h1] at h; cases h
theorem tQ {α : Type} {xs : List α} {i : Int} {v : α} (h : atI xs i = some v) : ∃ j, seqIndex? i xs.length = some j /\ xs[j]? = some v /\ j < xs.length /\ -(xs.length : Int) <= i /\ i < xs.length := by
  unfold atI at h
  cases e : ln xs.length i with
  | none => rw [e] at h; cases h
  | some j =>
    rw [e] at h
    obtain ⟨h1, h2, h3, h4⟩ := tF e
    exact ⟨j, h1, h, h2, h3, h4⟩
theorem kK {α : Type} {xs : List α} {j : Nat} {v : α} (h : xs[j]? = some v) : atI xs (j : Int) = some v := by
  have hj : j < xs.length := (List.getElem?_eq_some_iff.mp h).1
  have e : ln xs.length (j : Int) = some j := by
    unfold ln
    rw [if_pos (by omega), if_pos (by omega)]; simp
  unfold atI; rw [e]; exact h
def kO (b : Expr) : Prop := ∀ o i, subscripted b false o i = operate [o, i] (getItem o i)
def zI (X : Cx) (r : R2) : Prop :=
  ∀ (value slice : Expr) (pins : List (Addr × Obj)) (s : Shared) (σ : St) (H : Hp) (x y : V) (v u : Value) (Q : VK), aj X pins σ H s -> aP x v -> aP y u -> r x y H Q ->
    subscripted slice false v u = operate [v, u] (getItem v u) -> wpAny (model X.prog X.w) X.A (subscriptTail value slice v u) (EP X pins σ Q) X.xe s
def Fk (X : Cx) (id : String) (r : V -> List V -> Hp -> VK -> Prop) : Prop :=
  ∀ (pins : List (Addr × Obj)) (s : Shared) (σ : St) (H : Hp) (x : V) (xs : List V) (v : Value) (us : List Value) (Q : VK), aj X pins σ H s -> aP x v -> aF xs us -> r x xs H Q ->
    wpAny (model X.prog X.w) X.A (call (.builtin id) (v :: us)) (EP X pins σ Q) X.xe s
section
variable {X : Cx} {a b : Expr} {ta tb : TE} {pos : Pos}
theorem ue {r : R2} (hr : zI X r) (ha : PE X a ta) (hb : PE X b tb) (hs : kO b) : PE X (.Subscript a b pos) (GS r ta tb) := by
  intro pins s σ H Q I h
  exact Subscript_ (EV ha hb I h fun v u s2 x y H2 I2 rx ry q => hr a b pins s2 σ H2 x y v u Q I2 rx ry q (hs _ _))
def IF (K : W.Frag) : R2 := fun x y H Q => ∃ p xs i v, x = .ref p /\ y = .int i /\ bS K H p xs /\ atI xs i = some v /\ Q v H
def ID (K : W.Frag) : R2 := fun x y H Q => ∃ p xs i v, x = .ref p /\ y = .int i /\ bW K H p xs /\ atI xs i = some v /\ Q v H
theorem AX : zI X (IF X.K) := by
  intro value slice pins s σ H x y v u Q I rx ry h hs
  obtain ⟨p, xs, i, z, rfl, rfl, hq, he, q⟩ := h
  cases rx
  obtain ⟨t, rfl⟩ := ry
  obtain ⟨its, r, pl, hz⟩ := I.list hq
  obtain ⟨j, h1, h2, h3, h4, h5⟩ := tQ he
  obtain ⟨w, ew, rw'⟩ := r.get h2
  have hl := r.length
  have hn := mF
  have fin : EP X pins σ Q w s := ⟨z, H, I, rw', q⟩
  by_cases h0 : 0 <= i
  . have hj : i.toNat = j := by
      rw [seqIndex_of h0 h5] at h1
      exact Option.some.inj h1
    exact item_listR pl.isList h0 (by omega) (by rw [hj]; simpa using ew) fin hs
  . have hj : (i + (its.toArray.size : Int)).toNat = j := by
      rw [seqIndex_neg (by omega) h4] at h1
      rw [List.size_toArray, <- hl]
      exact Option.some.inj h1
    exact subscriptTail_builtinR (x := w) pl.isList.typeIs slot_list_getitem.lookup
      (wpAny_getItem_list_neg (Q := fun r s' => r = w /\ EP X pins σ Q r s') pl.isList (by omega) (by rw [List.size_toArray] <;> omega) (by omega) (by rw [hj]; simpa using ew) ⟨rfl, fin⟩) hs
theorem Dy : zI X (ID X.K) := by
  intro value slice pins s σ H x y v u Q I rx ry h hs
  obtain ⟨p, xs, i, z, rfl, rfl, hq, he, q⟩ := h
  cases rx
  obtain ⟨t, rfl⟩ := ry
  obtain ⟨its, r, pl, hz⟩ := I.tuple hq
  obtain ⟨j, h1, h2, h3, h4, h5⟩ := tQ he
  obtain ⟨w, ew, rw'⟩ := r.get h2
  have hl := r.length
  have hn := mF
  have fin : EP X pins σ Q w s := ⟨z, H, I, rw', q⟩
  exact subscriptTail_builtinR (x := w) pl.typeIs slot_tuple_getitem.lookup
    (getItem_tuple (j := j) (Q := fun r s' => r = w /\ EP X pins σ Q r s') pl (by omega) (by omega) (by rw [List.size_toArray, <- hl]; exact h1) (by simpa using ew) ⟨rfl, fin⟩) hs
theorem uv (its : List Value) (n j : Nat) (u : Value) : Obj.mapSeq (·.setIfInBounds j u) { cls := .type "list", data := .seq its.toArray n } = { cls := .type "list", data := .seq (its.set j u).toArray n } := by
  simp [Obj.mapSeq]
theorem aj.lst {pins : List (Addr × Obj)} {σ : St} {H : Hp} {s : Shared} {p : Addr} {xs : List V} (I : aj X pins σ H s) (h : H p = some (.lst xs)) :
    ∃ (its : List Value) (n : Nat), aF xs its /\ s.heap.get? p = some { cls := .type "list", data := .seq its.toArray n } /\ xs.length <= sizeLine := by
  obtain ⟨z, its, n, r, e⟩ := I.hok p _ h
  exact ⟨its, n, r, e, z⟩
theorem aj.lstUpd {pins : List (Addr × Obj)} {σ : St} {H : Hp} {s : Shared} {p : Addr} {xs ys : List V} {its its' : List Value} {n n' : Nat} {f : Obj -> Obj} (I : aj X pins σ H s) (h : H p = some (.lst xs))
    (ho : s.heap.get? p = some { cls := .type "list", data := .seq its.toArray n }) (hf : f { cls := .type "list", data := .seq its.toArray n } = { cls := .type "list", data := .seq its'.toArray n' }) (r : aF ys its') (hz : ys.length <= sizeLine) (t : Nat) :
    aj X pins σ (aU H p (.lst ys)) { s with heap := s.heap.update p f, toks := t } := by
  have e : (s.heap.update p f).get? p = some { cls := .type "list", data := .seq its'.toArray n' } := by
    rw [Heap.get?_update_self f ho (by rw [hf] <;> rfl), hf]
  refine I.write (x := p) (e := p) (by rw [h]; trivial) (.inl rfl) (fun b u hb q => (Heap.get?_update_other _ _ (Ne.symm hb)).trans q) ⟨_, e⟩ ?_
  exact ⟨hz, its', n', r, e⟩
def F5 : V -> V -> V -> Hp -> (Hp -> Prop) -> Prop := fun o i v H Q => ∃ p xs k j, o = .ref p /\ i = .int k /\ H p = some (.lst xs) /\ ln xs.length k = some j /\ Q (aU H p (.lst (xs.set j v)))
theorem w4 : yD X F5 := by
  intro pins s σ H o i v ov iv u Q I ro ri rv h
  obtain ⟨p, xs, k, j, rfl, rfl, hp, hj, q⟩ := h
  cases ro
  obtain ⟨t, rfl⟩ := ri
  obtain ⟨its, n, r, ho, hz⟩ := I.lst hp
  obtain ⟨h1, h2, h3, h4⟩ := tF hj
  have hl := r.length
  have hn := mF
  have I' : aj X pins σ (aU H p (.lst (xs.set j v))) { s with heap := s.heap.update p (Obj.mapSeq (·.setIfInBounds j u)) } :=
    I.lstUpd hp ho (uv its n j u) (r.set rv j) (by rw [List.length_set]; exact hz) s.toks
  by_cases h0 : 0 <= k
  . have hk : k.toNat = j := by
      rw [seqIndex_of h0 h4] at h1
      exact Option.some.inj h1
    exact W.ki_setAt ho h0 (by omega) (by rw [List.size_toArray, <- hl]; exact h4) (by rw [hk]; exact ⟨_, I', q⟩)
  . have hk : (k + (its.toArray.size : Int)).toNat = j := by
      rw [seqIndex_neg (by omega) h3] at h1
      rw [List.size_toArray, <- hl]
      exact Option.some.inj h1
    exact W.ki_setBack ho (by omega) (by rw [List.size_toArray, <- hl]; exact h3) (by omega) (by rw [hk]; exact ⟨_, I', q⟩)
theorem jL : dy X (.builtin "len") (fun xs H Q => ∃ p ys, xs = [.ref p] /\ (bS X.K H p ys \/ bW X.K H p ys) /\ Q (.int ys.length) H) := by
  intro pins s σ H xs us Q I r h
  obtain ⟨p, ys, rfl, hq, q⟩ := h
  obtain ⟨u, rfl, rx⟩ := dl r
  cases rx
  have hn := mF
  rcases hq with hq | hq
  . obtain ⟨its, r', pl, hz⟩ := I.list hq
    have hlen := r'.length
    exact Calls.call_len_list pl.isList (by simp only [List.size_toArray] <;> omega) ⟨.int ys.length, H, I.tok _, ⟨s.toks + 1, by rw [List.size_toArray, hlen]⟩, q⟩
  . obtain ⟨its, r', pl, hz⟩ := I.tuple hq
    have hlen := r'.length
    exact len_tuple pl (by simp only [List.size_toArray] <;> omega) ⟨.int ys.length, H, I.tok _, ⟨s.toks + 1, by rw [List.size_toArray, hlen]⟩, q⟩
theorem jK : dy X (.type "list") (fun xs H Q => ∃ p ys, xs = [.ref p] /\ (bS X.K H p ys \/ bW X.K H p ys) /\ ∀ l, H l = none -> Q (.ref l) (aU H l (.lst ys))) := by
  intro pins s σ H xs us Q I r h
  obtain ⟨p, ys, rfl, hq, q⟩ := h
  obtain ⟨u, rfl, rx⟩ := dl r
  cases rx
  have fin : ∀ (its : List Value), aF ys its -> ys.length <= sizeLine -> ∀ (h' : Heap) (c' : Nat), (∀ b o', s.heap.get? b = some o' -> h'.get? b = some o') ->
      h'.get? s.heap.objs.size = some { cls := .type "list", dict := none, data := .seq its.toArray c', slots := #[] } -> EP X pins σ Q (.ref s.heap.objs.size) { s with heap := h' } := fun its r' hz h' c' kp e =>
    ⟨.ref s.heap.objs.size, _, I.laid (t' := s.toks) kp (Nat.le_refl _) (show bA X.prog X.w _ h' _ (.lst ys) from ⟨hz, its, c', r', e⟩), rfl, q _ (I.hok.fresh (Nat.le_refl _))⟩
  rcases hq with hq | hq
  . obtain ⟨its, r', pl, hz⟩ := I.list hq
    have hlen := r'.length
    obtain ⟨o, ho, hc, n, hd⟩ := pl.isList
    exact call_list_seq p (.inl rfl) ho hc hd (fun h' c' kp e => fin its r' hz h' c' kp e) (by simp only [List.size_toArray] <;> omega)
  . obtain ⟨its, r', pl, hz⟩ := I.tuple hq
    have hlen := r'.length
    obtain ⟨o, ho, hc, n, hd⟩ := pl
    exact call_list_seq p (.inr rfl) ho hc hd (fun h' c' kp e => fin its r' hz h' c' kp e) (by simp only [List.size_toArray] <;> omega)
theorem iZ : dy X (.type "tuple") (fun xs H Q => ∃ p ys, xs = [.ref p] /\ ((bS X.K H p ys /\ ∀ l, H l = none -> Q (.ref l) (aU H l (.tup ys))) \/ (bW X.K H p ys /\ Q (.ref p) H))) := by
  intro pins s σ H xs us Q I r h
  obtain ⟨p, ys, rfl, h⟩ := h
  obtain ⟨u, rfl, rx⟩ := dl r
  cases rx
  rcases h with ⟨hq, q⟩ | ⟨hq, q⟩
  . obtain ⟨its, r', pl, hz⟩ := I.list hq
    have hlen := r'.length
    refine call_tuple_list pl.isList (fun h' kp => ?_) (by simp only [List.size_toArray] <;> omega)
    have I1 : aj X pins σ H { s with heap := h' } := I.kept (t' := s.toks) kp
    have I2 : aj X pins σ (aU H h'.objs.size (.tup ys)) { s with heap := h'.push { cls := .type "tuple", data := .seq its.toArray } } :=
      I1.laid (t' := s.toks) (fun b o e => Heap.get?_push_of_some _ e) (Nat.le_refl _) (show bA X.prog X.w _ _ _ (.tup ys) from ⟨hz, its, r', IsTup.new _ _⟩)
    exact ⟨.ref h'.objs.size, _, I2, rfl, q _ (I1.hok.fresh (Nat.le_refl _))⟩
  . obtain ⟨its, r', pl, hz⟩ := I.tuple hq
    exact call_tuple_same pl ⟨.ref p, H, I, rfl, q⟩
def B1 (K : W.Frag) (T : String) (x : V) (H : Hp) : Prop := match x with
  | .str _ => T = "str"
  | .int _ => T = "int"
  | .ref p => (T = "list" /\ ∃ xs, bS K H p xs) \/ (T = "tuple" /\ ∃ o, K.lookup p = some o /\ o.cls = .type "tuple" /\ o.dict = none) \/
      (T = "dict" /\ ((∃ kvs, H p = some (.dK kvs)) \/ ∃ kvs, H p = some (.dT kvs))) \/ (T = "set" /\ ∃ S n, H p = some (.set S n))
  | _ => False
theorem ve {pins : List (Addr × Obj)} {σ : St} {H : Hp} {s : Shared} {T : String} {x : V} {v : Value} (I : aj X pins σ H s) (r : aP x v) (ty : B1 X.K T x H) :
    s.TypeIs v T /\ ∀ a, v = .ref a -> ∃ ob, s.heap.get? a = some ob /\ ob.dict = none := by
  cases x with
  | str z =>
    obtain ⟨t, rfl⟩ := r
    cases (show T = "str" from ty)
    exact ⟨typeIs_str s z t, fun _ e => nomatch e⟩
  | int i =>
    obtain ⟨t, rfl⟩ := r
    cases (show T = "int" from ty)
    exact ⟨typeIs_int s i t, fun _ e => nomatch e⟩
  | ref p =>
    cases r
    rcases ty with ⟨rfl, xs, hq⟩ | ⟨rfl, o, hk, hc, hd⟩ | ⟨rfl, hk⟩ | ⟨rfl, S, n, hk⟩
    . obtain ⟨its, _, pl, _⟩ := I.list hq
      refine ⟨pl.isList.typeIs, fun a e => ?_⟩
      cases e
      obtain ⟨o, n, e, c, hd, _⟩ := pl
      exact ⟨o, e, hd⟩
    . refine ⟨⟨o, I.kIn p o hk, hc⟩, fun a e => ?_⟩
      cases e
      exact ⟨o, I.kIn _ o hk, hd⟩
    . have z : ∃ o, s.heap.get? p = some o /\ o.ExactDict := by
        rcases hk with ⟨kvs, hk⟩ | ⟨kvs, hk⟩
        . obtain ⟨_, _, _, _, o, _, _, e, ex, _⟩ := I.hok p _ hk
          exact ⟨o, e, ex⟩
        . obtain ⟨_, _, _, _, o, _, _, e, ex, _⟩ := I.hok p _ hk
          exact ⟨o, e, ex⟩
      obtain ⟨o, e, ex⟩ := z
      refine ⟨⟨o, e, ex.1⟩, fun a e2 => ?_⟩
      cases e2
      exact ⟨o, e, ex.2.1⟩
    . obtain ⟨o, _, _, _, e, ex, _⟩ := I.hok p _ hk
      refine ⟨⟨o, e, ex.1⟩, fun a e2 => ?_⟩
      cases e2
      exact ⟨o, e, ex.2.1⟩
  | _ => exact False.elim ty
def He (K : W.Frag) (T : String) (r : V -> List V -> Hp -> VK -> Prop) (to : TE) : TE := fun σ H Q => to σ H fun x H1 => B1 K T x H1 /\ r x [] H1 Q
def MM (K : W.Frag) (T : String) (r : V -> List V -> Hp -> VK -> Prop) (to : TE) (t : TA) : TE := fun σ H Q => to σ H fun x H1 => B1 K T x H1 /\ t σ H1 fun xs H2 => r x xs H2 Q
variable {o e : Expr} {es : List Expr} {to : TE} {t : TA} {name : Str} {apos cpos : Pos} {T id : String} {r : V -> List V -> Hp -> VK -> Prop}
theorem C0 (pa : PlainAttrs T) (slot : Slot T name id) (hty : typeOf (.builtin id) = pure (.type "method_descriptor")) (hm : Fk X id r) (ho : PE X o to)
    (hbase : attributeBase o name X.env (eval o X.env) = eval o X.env := by rfl) (hline : (apos.endLine == cpos.line) = true := by rfl) : PE X (.Call (.Attribute o name apos) [] [] cpos) (He X.K T r to) := by
  intro pins s σ H Q I h
  refine wpAny_Call_method0_late hbase hline (aM (ho pins s σ H _ I h) fun v s1 ⟨x, H1, I1, r1, ty, q1⟩ => ?_)
  obtain ⟨h1, h2⟩ := ve I1 r1 ty
  exact ⟨T, id, pa, slot, hty, h1, h2, Calls.callWith_builtin rfl (PySem.evalArgs_none (hm pins s1 σ H1 x [] v [] Q I1 r1 .nil q1))⟩
theorem Gd (pa : PlainAttrs T) (slot : Slot T name id) (hty : typeOf (.builtin id) = pure (.type "method_descriptor")) (hm : Fk X id r) (ho : PE X o to) (ha : PA X (e :: es) t)
    (hbase : attributeBase o name X.env (eval o X.env) = eval o X.env := by rfl)
    (hfew : ((backTo cpos (starEach (e :: es) X.env)).all (fun x => !x.1) && (backToKw cpos (keywordEach [] X.env)).all (fun x => x.1.isSome)
      && decide ((e :: es).length + ([] : List Keyword).length + (if ([] : List Keyword).isEmpty then 0 else 1) < 30)) = true := by rfl)
    (hline : (apos.endLine == cpos.line) = true := by rfl) (hs : starEach (e :: es) X.env = (false, eval e X.env) :: starEach es X.env := by rfl) (hplain : (backTo cpos (starEach es X.env)).any (·.1) = false := by rfl) :
    PE X (.Call (.Attribute o name apos) (e :: es) [] cpos) (MM X.K T r to t) := by
  intro pins s σ H Q I h
  refine wpAny_Call_method_late hbase hfew hline rfl (aM (ho pins s σ H _ I h) fun v s1 ⟨x, H1, I1, r1, ty, q1⟩ => ?_)
  obtain ⟨h1, h2⟩ := ve I1 r1 ty
  refine ⟨T, id, pa, slot, hty, h1, h2, ?_⟩
  have hA := ha cpos pins s1 σ H1 _ I1 q1
  rw [hs] at hA ⊢
  refine Calls.callWith_builtin (by show (false || (backTo cpos (starEach es X.env)).any (·.1)) = false; rw [hplain] <;> rfl) (Calls.evalArgs_plain ?_)
  exact aM hA fun us s2 ⟨vs, H2, I2, r2, q2⟩ => hm pins s2 σ H2 x vs v us Q I2 r1 r2 q2
/- xs.append(e), list.index on a module's tuple .. are Fk facts of 06m -/
end
end L2
namespace L2
open PySem PySem.Spec PyProof.Rows
def GY (X : Cx) (id : String) (r : V -> List V -> Hp -> VK -> Prop) : Prop :=
  ∀ (pins : List (Addr × Obj)) (s : Shared) (σ : St) (H : Hp) (x : V) (xs : List V) (v : Value) (us : List Value) (Q : VK), aj X pins σ H s -> aP x v -> aF xs us -> r x xs H Q ->
    wpAny (model X.prog X.w) X.A (call (.builtin id) (v :: us)) (EP X pins σ Q) X.xe s
theorem aF.one : ∀ {x : V} {us : List Value}, aF [x] us -> ∃ u, us = [u] /\ aP x u
  | _, _, .cons r .nil => ⟨_, rfl, r⟩
theorem aF.zero : ∀ {us : List Value}, aF [] us -> us = []
  | _, .nil => rfl
theorem aF.reverse {xs : List V} {us : List Value} (h : aF xs us) : aF xs.reverse us.reverse := by
  induction h with
  | nil => exact .nil
  | cons r t ih => rw [List.reverse_cons, List.reverse_cons]; exact aF.append ih (.cons r .nil)
section
variable {X : Cx} {pins : List (Addr × Obj)} {σ : St} {H : Hp} {s : Shared} {l b : Addr} {xs ys zs : List V}
theorem aj.lset {its its' : List Value} {n : Nat} {f : Array Value -> Array Value} {t' : Nat} (I : aj X pins σ H s) (hH : H l = some (.lst xs))
    (e : s.heap.get? l = some { cls := .type "list", data := .seq its.toArray n }) (hf : f its.toArray = its'.toArray) (hv : aF ys its') (hz : ys.length <= sizeLine) :
    aj X pins σ (aU H l (.lst ys)) { s with heap := s.heap.update l (Obj.mapSeq f), toks := t' } := by
  have q := PySem.IsL.update e f
  rw [hf] at q
  refine I.write (x := l) (e := l) (by rw [hH]; exact trivial) (.inl rfl) (fun b' u hb hu => (Heap.get?_update_other s.heap (Obj.mapSeq f) (Ne.symm hb)).trans hu) ⟨_, q⟩ ?_
  exact ⟨hz, its', _, hv, q⟩
theorem aj.lnew {its : List Value} {t' : Nat} (I : aj X pins σ H s) (hv : aF ys its) (hz : ys.length <= sizeLine) :
    aj X pins σ (aU H s.heap.objs.size (.lst ys)) { s with heap := s.heap.push { cls := .type "list", data := .seq its.toArray }, toks := t' } :=
  I.laid (fun _ _ q => Heap.get?_push_of_some _ q) (Nat.le_refl _) ⟨hz, its, 0, hv, Heap.get?_push_size _ rfl⟩
theorem aj.fresh (I : aj X pins σ H s) : H s.heap.objs.size = none := I.hok.fresh (Nat.le_refl _)
theorem aj.lstM (I : aj X pins σ H s) (hH : H l = some (.lst xs)) : xs.length <= sizeLine /\ ∃ (its : List Value) (n : Nat), aF xs its /\ xs.length = its.length /\ s.heap.get? l = some { cls := .type "list", data := .seq its.toArray n } := by
  obtain ⟨z, its, n, r, e⟩ := I.hok l _ hH
  exact ⟨z, its, n, r, r.length, e⟩
end
section
variable {X : Cx}
def Af : V -> List V -> Hp -> VK -> Prop := fun x vs H Q => ∃ l xs y, x = .ref l /\ vs = [y] /\ H l = some (.lst xs) /\ xs.length < sizeLine /\ Q .non (aU H l (.lst (xs ++ [y])))
theorem oI : GY X "list.append" Af := by
  intro pins s σ H x vs v us Q I rx rv h
  obtain ⟨l, xs, y, rfl, rfl, hH, hz, q⟩ := h
  cases rx
  obtain ⟨u, rfl, ru⟩ := rv.one
  obtain ⟨z, its, n, r, hl, e⟩ := I.lstM hH
  refine call_meets F.slot_list_append ⟨_, e, rfl⟩ F.entry_list_append (F.args_list_append_2 _ _) (PySem.list_append l its.toArray n u (by rw [List.size_toArray]; omega)) ⟨e, ?_⟩
  refine ⟨.non, _, I.lset (its' := its ++ [u]) hH e (by simp) (r.append (.cons ru .nil)) ?_, rfl, q⟩
  rw [List.length_append, List.length_singleton]
  omega
end
section
variable {prog : Program} {w : World} {A : Around} {E : Value -> Shared -> Prop} {s : Shared}
set_option maxRecDepth 100000 in
end
section
variable {X : Cx}
end
end L2
namespace Att
open PySem PySem.W PySem.Calls PyProof.Rows
theorem mI {P : Params} {h : Heap} : ∀ (ns : List Int) (vs : List Value), WellAll P h vs (ns.map WData.int) -> IntsAre vs ns := by
  intro ns
  induction ns with
  | nil =>
    intro vs w
    rw [List.map_nil] at w
    cases w
    exact .nil
  | cons n ns ih =>
    intro vs w
    rw [List.map_cons] at w
    cases w with
    | cons a b =>
      cases a
      exact .cons _ _ (ih _ b)
theorem vp {l : OpenLaw} {n : Nat} (hn : l.most = some n) {P : Params} {h : Heap} {args : List WData} {vals : List Value}
    (hpre : l.row.toRowW.claim.pre args = true) (hwl : WellAll P h vals args) :
    ∃ a vs ns, vals = [Value.ref a] /\ args = [WData.list (ns.map WData.int)] /\ h.get? a = some { cls := .type "list", data := .seq vs.toArray } /\ IntsAre vs ns /\ ns.length <= n := by
  have hsh : WShape.hasAll [] args [.list .int] = true := (pre_splitW hpre).1
  have hc : l.pre.holds [] { args := args } = true := (pre_splitW hpre).2
  obtain ⟨d, r, rfl, h1, h2⟩ := hasAllW_cons hsh
  obtain rfl := hasAllW_nil h2
  obtain ⟨xs, rfl, h3⟩ := hasW_list h1
  obtain ⟨ns, rfl⟩ := items_int h3
  have hlen : ns.length <= n := by
    unfold OpenLaw.pre at hc
    have h4 : (WTm.not (.lt (.lit (.int (n : Int))) (.len (.arg 0)))).holds [] { args := [.list (ns.map .int)] } = true := by
      have h4 := (holds_andW hc).1
      rw [hn] at h4
      exact h4
    have h5 := condW_of h4 (w_not (w_lt w_lit (w_len_list (w_arg rfl))))
    rw [List.length_map] at h5
    refine Nat.le_of_not_lt fun q => ?_
    have q' : (n : Int) < ((ns.length : Nat) : Int) := by omega
    first
      | (rw [decide_eq_true q'] at h5; exact absurd h5 (by decide))
      | (simp at h5; omega)
  cases hwl with
  | cons w1 w2 =>
    cases w2
    cases w1 with
    | list ho hall => exact ⟨_, _, ns, rfl, rfl, ho, mI ns _ hall, hlen⟩
theorem vt (l : OpenLaw) (args : List WData) : l.row.toRowW.claim.post args (.bool true) args = true :=
  postW_of (r := l.row.toRowW) (X := (true == true))
    (show WShape.has [] (.bool true) .bool = true by first | rfl | decide | simp [WShape.has, WShape.arms, WShape.armsAll])
    (show (WTm.eq .res (.lit (.bool true))).value [] { args := args, res := some (.bool true), after := args } = some (.bool (true == true)) from w_eq_bool (w_res rfl) w_lit) rfl
theorem attach_call {l : OpenLaw} {n : Nat} {q : Program} {loose : List Str} {XP : (Str -> Option Value) -> Heap -> Prop} {YP : World -> Heap -> Prop} {d : DefRec}
    (hn : l.most = some n) (hdf : d.params.defaults = [])
    (call : ∀ (w : World) (s₀ s₁ : Shared) (mg mb : Str -> Option Value) (fa : Addr) (o : Obj) (pm cd doc : Value) (a : Addr) (vs : List Value) (ns : List Int),
      Ground q loose [] XP w s₀ mg mb s₁.heap -> YP w s₁.heap ->
      s₁.heap.get? fa = some o -> o.data = .func (docDef d.name d.params d.body d.scope pm cd doc) -> s₁.heap.CodeRec cd d.name -> mg d.name = some (.ref fa) ->
      s₁.heap.get? a = some { cls := .type "list", data := .seq vs.toArray } -> IntsAre vs ns -> ns.length <= n -> s₁.gens = #[] ->
      codeAny (model l.prog w) callerA (.call (.ref fa) ⟨[.ref a], []⟩) (fun r s' => r = .ok (.ret (.bool true)) /\ OldK s₁.heap s'.heap /\ s'.os = s₁.os /\ AllBare s'.gens) s₁) :
    WalkO q loose XP YP l.row.toRowW d [] (fun f vs => PySem.call f vs) := by
  intro w s₀ s₁ mg mb G Y fa o pm cd doc dV kV ho hd hcd hD hmg hg args vals as hpre hlay hrd hwl hlo
  obtain rfl : dV = .none := Dflts.none hD hdf
  obtain rfl : kV = .none := Dflts.noKw hD
  obtain ⟨a, vs, ns, rfl, rfl, hobj, hints, hlen⟩ := vp hn hpre hwl
  refine enter_call (codeAny_mono (call w s₀ s₁ mg mb fa o pm cd doc a vs ns G Y ho (fd_plain hd) hcd hmg hobj hints hlen hg) fun r s' hq => ?_)
  obtain ⟨rfl, h2, h3, h4⟩ := hq
  exact ⟨.inl ⟨.bool true, .bool true, [], rfl, fun _ => rfl, .bool true, vt l _, fun _ => ⟨List.Pairwise.nil, fun _ hm => (nomatch hm)⟩⟩, h2, h3, h4⟩
section
variable {prog : Program} {w : World} {A : Around} {E : Value -> Shared -> Prop} {s : Shared} {K : Frag}
end
end Att
namespace L2
open PySem PySem.Spec PyProof.Rows
theorem oy : ∀ {vs : List Value} {ns : List Int}, IntsAre vs ns -> aF (ns.map V.int) vs
  | _, _, .nil => .nil
  | _, _, .cons n t h => .cons ⟨t, rfl⟩ (oy h)
def u7 (H : Hp) : Prop := ∀ b, H b = none \/ ∃ o xs, H b = some (.frz o (.lst xs))
theorem xG {P : Program} {w : World} {K : W.Frag} {mg mb : Str -> Option Value} {CX : i7} {k : Nat} {fa a : Addr} {fd : FuncData} {x : Str} {sp : Sp} {s₁ : Shared} {vs : List Value} {ns : List Int}
    (KX : K.In s₁.heap) (hns : s₁.heap.Ns mainGlobals mg) (hb : s₁.heap.Ns builtinsNs mb) (hbb : ∀ x : Str, x ≠ "__name__" -> mb x = bootBuiltins x) (hlim : s₁.heap.NoLimit) (hg : s₁.gens = #[])
    (ha : s₁.heap.get? a = some { cls := .type "list", data := .seq vs.toArray }) (hi : IntsAre vs ns) (hl : ns.length <= sizeLine) (hr : bV k callerA)
    (F : ∀ base : Heap, K.In base -> base.Ns mainGlobals mg -> ci P w K mg base CX k fa fd [x] sp) (hbind : ∀ (s : Shared) (u : Value), BindsTo s fd ⟨[u], []⟩ [(x, u)])
    (hsp : ∀ H : Hp, u7 H -> bS K H a (ns.map V.int) -> sp [.ref a] H (fun v _ => v = .bl true) fun _ _ _ => False)
    (hCX : ∀ H e s', CX [] H s₁ (fun _ _ _ => False) e s' -> False) :
    codeAny (model P w) callerA (.call (.ref fa) ⟨[.ref a], []⟩) (fun r s' => r = .ok (.ret (.bool true)) /\ OldK s₁.heap s'.heap /\ s'.os = s₁.os /\ AllBare s'.gens) s₁ := by
  have rv := oy hi
  have lenV := hi.length
  have core : ∀ H : Hp, u7 H -> bS K H a (ns.map V.int) -> cZ P w H s₁.heap -> (∀ b, H b ≠ none -> b = a) -> (H a ≠ none -> K.lookup a = none) ->
      codeAny (model P w) callerA (.call (.ref fa) ⟨[.ref a], []⟩) (fun r s' => r = .ok (.ret (.bool true)) /\ OldK s₁.heap s'.heap /\ s'.os = s₁.os /\ AllBare s'.gens) s₁ := by
    intro H hO hS hok hA hK
    have il : ∀ {b : Addr} {o : Obj}, s₁.heap.get? b = some o -> H b = none -> (iG s₁.heap H).get? b = some o := fun e n => xP e n
    have noA : ∀ {b : Addr} {o : Obj} {es : Array DictEntry} {ep : Nat}, s₁.heap.get? b = some o -> o.data = .dict es ep -> H b = none := fun {b o es ep} e d => by
      cases q : H b with
      | none => rfl
      | some u =>
        have e' : b = a := hA b (by rw [q]; simp)
        subst e'
        rw [ha] at e; cases e
        have d' : Data.seq vs.toArray _ = Data.dict es ep := d
        cases d'
    have nsK : ∀ {b : Addr} {m : Str -> Option Value}, s₁.heap.Ns b m -> (iG s₁.heap H).Ns b m := fun {b m} ⟨o, es, ep, e, d, r⟩ => ⟨o, es, ep, il e (noA e d), d, r⟩
    have hKb : K.In (iG s₁.heap H) := fun b o e => il (KX b o e) (by
      cases q : H b with
      | none => rfl
      | some u =>
        have e' : b = a := hA b (by rw [q]; simp)
        subst e'
        rw [hK (by rw [q]; simp)] at e; cases e)
    have hM : Mod K mg (iG s₁.heap H) := ⟨hKb, nsK hns, ⟨mb, nsK hb, hbb⟩, let ⟨mc, h1, h2⟩ := hlim; ⟨mc, nsK h1, h2⟩⟩
    have e0 : gS P w K mg (iG s₁.heap H) callerA [] s₁ H := ⟨rfl, hM, fun b o e => AF e, Nat.le_of_eq (v6 _ _), trivial, fun b hb => absurd (show b ∈ ([] : List Addr) from hb) (by simp), hok, .of_eq hg⟩
    refine codeAny_mono ((F _ hKb (nsK hns)).run callerA [] s₁ H ⟨[.ref a], []⟩ [.ref a] [.ref a] _ _ hr e0 (hbind s₁ (.ref a)) (.cons rfl .nil) (hsp H hO hS)) fun r s' h => ?_
    cases r with
    | error e => exact (hCX H e s' h).elim
    | ok fl =>
      cases fl with
      | next => exact False.elim h
      | brk => exact False.elim h
      | cont => exact False.elim h
      | ret u =>
        obtain ⟨v, H', os, bare, un, hok', r', q⟩ := h
        have q' : v = .bl true := q
        subst q'
        obtain rfl : u = Value.bool true := r'
        refine ⟨rfl, OldK.of_keep fun b o e => ?_, os, bare⟩
        cases q : H b with
        | none => exact un.keep b o e q (by intro z; exact absurd (show b ∈ ([] : List Addr) from z) (by simp)) (by simp)
        | some u =>
          rcases hO b with z | ⟨ob, xs, z⟩
          . rw [q] at z; cases z
          . have z2 := un.frzs b ob _ z
            obtain ⟨e1, _⟩ := hok b _ z
            obtain ⟨e2, _⟩ := hok' b _ z2
            rw [e] at e1; cases e1
            exact e2
  cases hk : K.lookup a with
  | some o =>
    have e := KX a o hk
    rw [ha] at e
    cases e
    refine core (fun _ => none) (fun _ => .inl rfl) (.inr ⟨_, vs.toArray, _, hk, rfl, rfl, rfl, by rw [List.size_toArray, lenV]; exact hl, by simpa using rv⟩) (fun b u z => by have z' : (none : Option HO) = some u := z; cases z') (fun b z => absurd rfl z) fun z => absurd rfl z
  | none =>
    refine core (fun b => if b = a then some (.frz { cls := .type "list", data := .seq vs.toArray } (.lst (ns.map V.int))) else none) (fun b => ?_) (.inl (.inr ⟨{ cls := .type "list", data := .seq vs.toArray }, if_pos rfl⟩)) (fun b u z => ?_) (fun b z => ?_) fun _ => hk
    . by_cases hb : b = a
      . exact .inr ⟨_, _, if_pos hb⟩
      . exact .inl (if_neg hb)
    . by_cases hb : b = a
      . have z' := (if_pos hb).symm.trans z
        cases z'
        subst hb
        exact ⟨ha, by rw [List.length_map]; exact hl, vs, _, rv, ha⟩
      . have z' := (if_neg hb).symm.trans z
        cases z'
    . by_cases hb : b = a
      . exact hb
      . exact absurd (if_neg hb) z
end L2
namespace L2
open PySem PySem.Spec PyProof.Rows
abbrev KOf {K : W.Frag} {h : Heap} (_ : K.In h) : W.Frag := K
theorem walk_of {l : W.OpenLaw} {n k : Nat} {q : Program} {loose : List Str} {XP : (Str -> Option Value) -> Heap -> Prop} {YP : World -> Heap -> Prop} {d : DefRec} {K : Params -> W.Frag} {CX : World -> i7} {sp : World -> Sp} {x : Str}
    (hn : l.most = some n) (hn2 : n <= sizeLine) (hdf : d.params.defaults = []) (hr : bV k callerA)
    (hY : ∀ (w : World) (h : Heap), YP w h -> (K w.params).In h)
    (F : ∀ (w : World) (mg : Str -> Option Value) (fa : Addr) (h : Heap), (K w.params).In h -> h.Ns mainGlobals mg -> mg d.name = some (.ref fa) ->
      ∃ fd : FuncData, (∀ (s : Shared) (u : Value), BindsTo s fd ⟨[u], []⟩ [(x, u)]) /\
        ∀ base : Heap, (K w.params).In base -> base.Ns mainGlobals mg -> ci l.prog w (K w.params) mg base (CX w) k fa fd [x] (sp w))
    (hsp : ∀ (w : World) (H : Hp) (a : Addr) (ns : List Int), ns.length <= n -> u7 H -> bS (K w.params) H a (ns.map V.int) -> sp w [.ref a] H (fun v _ => v = .bl true) fun _ _ _ => False)
    (hCX : ∀ (w : World) (H : Hp) (s : Shared) (e : Value) (s' : Shared), CX w [] H s (fun _ _ _ => False) e s' -> False) :
    W.WalkO q loose XP YP l.row.toRowW d [] (fun f vs => PySem.call f vs) := by
  refine Att.attach_call hn hdf fun w s₀ s₁ mg mb fa o pm cd doc a vs ns G Y ho hd hcd hmg hobj hints hlen hg => ?_
  have KX := hY w _ Y
  obtain ⟨fd, hb, hF⟩ := F w mg fa _ KX G.T.g hmg
  exact xG KX G.T.g G.T.b G.T.builtins G.T.nolimit hg hobj hints (Nat.le_trans hlen hn2) hr hF hb (fun H hO hS => hsp w H a ns hlen hO hS) fun H e s' => hCX w H s₁ e s'
end L2
/- THE LAST THEOREM (shape; LID, My.* are yours):
   My.Adr: a structure of the addresses that your layer names (classes, functions); My.Txt K t: a structure (Prop) of the equations over K;
   My.txt_mk : {K} {implicit addresses ..} (e1 : nsIn K mainGlobals "law" = some (some (.ref f))) (e2 : K.lookup f = some ⟨oc, od, .func (fnOf "law" "law" params body scope dV kV doc pm an cdv ct), sl⟩) (e3 : codeIn K cdv "law" = true) .. : ∃ t, My.Txt K t
set_option maxRecDepth 100000 in
set_option maxHeartbeats 0 in
theorem PySem.Challenge.cw_LID_holds : PySem.Challenge.rw_LID.Holds := by
  w_on; o_law; k_head; (case hw => w_witness2)
  k_fill
  refine L2.walk_of (l := PySem.Challenge.rw_LID) (n := 63) (k := 40) (x := "script") (CX := fun w => ..) (sp := fun _ => My.sp_law) rfl (by decide) rfl ⟨rfl, by decide, by decide⟩ (fun w h Y => PySem.W.kIn_of Y) ?F ?S ?C
  case F =>
    intro w mg fa h KX G hmg
    have T : ∃ t, My.Txt (L2.KOf KX) t := by
      dsimp only [L2.KOf]                          -- K must stand as «<heap const> w.params» for k_is
      refine' My.txt_mk ?e1 ?e2 ?e3 ..
      (case e1 => PySem.W.k_is)                    -- in the order: a name -> its address -> its object -> its parts
      (case e2 => PySem.W.k_is)
      ..
    obtain ⟨t, T⟩ := T
    have e0 := hmg.symm.trans (PySem.W.mg_of KX G T.law)
    cases e0                                       -- fa is the law's own address
    exact ⟨_, fun s u => .of_eq rfl, fun base kb nb => My.law_fn T kb nb⟩     -- if «.of_eq rfl» comes too early: refine' ⟨_, ?b, fun base kb nb => My.law_fn T kb nb⟩; exact fun s u => .of_eq rfl
  case S => exact fun w H a ns hl hO hS => ..
  case C => exact ..
(the tactic k_is has no namespace: write k_is) -/
namespace L2
open PySem PySem.Spec PyProof.Rows
def aN (s : Stmt) : Arguments := match s with
  | .FunctionDef _ a _ _ _ _ _ _ _ _ => a
  | _ => { posonlyargs := [], args := [], vararg := none, kwonlyargs := [], kw_defaults := [], kwarg := none, defaults := [] }
def al (s : Stmt) : List Stmt := match s with
  | .FunctionDef _ _ b _ _ _ _ _ _ _ => b
  | _ => []
def ac (s : Stmt) : Scope := match s with
  | .FunctionDef _ _ _ _ _ _ sc _ _ _ => sc
  | _ => { kind := .function, names := [], isGenerator := false, isCoroutine := false }
abbrev eT : i7 := fun _ _ _ _ _ _ => False
abbrev E0 : XK := fun _ _ _ => False
theorem kh {X : Cx} : eO eT X E0 := fun _ _ _ _ _ _ _ h => h.elim
structure ly (K : W.Frag) (x qual : Str) (st : Stmt) (f : Addr) (fd : FuncData) : Prop where
  ex : ∃ (oc : Value) (od : Option Addr) (kV doc pm : Value) (an : Option Addr) (cdv ct : Value) (osl : Array (Option Value)),
    fd = W.fnOf x qual (aN st) (al st) (ac st) .none kV doc pm an cdv ct /\ K.lookup f = some ⟨oc, od, .func fd, osl⟩ /\ W.codeIn K cdv qual = true
  kp : W.keepIn K (.ref f) = true
section
variable {P : Program} {w : World} {K : W.Frag} {mg : Str -> Option Value} {base : Heap}
theorem ly.ok {x qual : Str} {st : Stmt} {f : Addr} {fd : FuncData} {N ps : List Str} {k : Nat} {sp : Sp} (F : ly K x qual st f fd) (S : aJ N ps (ac st)) (len : ∀ vs H Q E, sp vs H Q E -> vs.length = ps.length)
    (hbody : ∀ (cdv : Value) (A : Around) (outer : List Env) (s : Shared) (H : Hp) (vs : List V) (Q : VK) (E : XK), bV k (A.deeper (envOfC qual (ac st) s.heap.objs.size f cdv)) -> sp vs H Q E ->
      ∃ t, fK (jH eT P w K mg base N qual (ac st) f cdv A outer s H E).nox (al st) t /\ t { nx := fun _ H' => Q .non H', rt := Q } (start N vs) H) : ci P w K mg base eT (k + 1) f fd ps sp := by
  obtain ⟨oc, od, kV, doc, pm, an, cdv, ct, osl, rfl, lk, hcd⟩ := F.ex
  refine GF lk hcd S len fun A outer s H vs Q E hr hsp => ?_
  obtain ⟨t, h, q⟩ := hbody cdv A outer s H vs Q E hr hsp
  exact ⟨t, h.nox, q⟩
theorem ly.binds {x qual : Str} {st : Stmt} {f : Addr} {fd : FuncData} {ps : List Str} (F : ly K x qual st f fd)
    (h : ∀ (kV doc pm : Value) (an : Option Addr) (cdv ct : Value) (us : List Value), us.length = ps.length -> bindArgs (W.fnOf x qual (aN st) (al st) (ac st) .none kV doc pm an cdv ct) ⟨us, []⟩ = pure (ps.zip us)) : cE K fd ps [] := by
  obtain ⟨oc, od, kV, doc, pm, an, cdv, ct, osl, rfl, lk, hcd⟩ := F.ex
  exact .all (h kV doc pm an cdv ct)
theorem bg {x qual : Str} {st : Stmt} {f : Addr} {oc : Value} {od an : Option Addr} {osl : Array (Option Value)} {kV doc pm cdv ct : Value} (l : K.lookup f = some ⟨oc, od, .func (W.fnOf x qual (aN st) (al st) (ac st) .none kV doc pm an cdv ct), osl⟩)
    (c : W.codeIn K cdv qual = true) (k : W.keepIn K (.ref f) = true) : ly K x qual st f (W.fnOf x qual (aN st) (al st) (ac st) .none kV doc pm an cdv ct) := ⟨⟨oc, od, kV, doc, pm, an, cdv, ct, osl, rfl, l, c⟩, k⟩
end
section
variable {X : Cx}
end
def ay (H H' : Hp) : Prop := ∀ b o, H b = some o -> H' b = some o
theorem ay.refl (H : Hp) : ay H H := fun _ _ h => h
theorem ay.trans {H H1 H2 : Hp} (a : ay H H1) (b : ay H1 H2) : ay H H2 := fun c o h => b c o (a c o h)
theorem ay.free {H H' : Hp} (e : ay H H') {l : Addr} (h : H' l = Option.none) : H l = Option.none := by
  cases q : H l with
  | none => rfl
  | some o =>
    rw [e l o q] at h
    cases h
theorem ay.seq {K : W.Frag} {H H' : Hp} {a : Addr} {xs : List V} (e : ay H H') (h : bS K H a xs) : bS K H' a xs := by
  rcases h with (h | ⟨o, h⟩) | h
  . exact .inl (.inl (e _ _ h))
  . exact .inl (.inr ⟨o, e _ _ h⟩)
  . exact .inr h
end L2
namespace L2
open PySem PySem.Spec PyProof.Rows
section
variable {κ : Type} [DecidableEq κ]
def ip (kvs : List (κ × V)) (k : κ) : Option V := (kvs.find? fun kv => decide (kv.1 = k)).map (·.2)
def gL (kvs : List (κ × V)) (k : κ) (v : V) : List (κ × V) :=
  if (kvs.any fun kv => decide (kv.1 = k)) = true then kvs.map (fun kv => if kv.1 = k then (kv.1, v) else kv) else kvs ++ [(k, v)]
def zu (kvs : List (κ × V)) (k : κ) : List (κ × V) := kvs.filter fun kv => decide (kv.1 ≠ k)
theorem lB {p : κ × V} {r : List (κ × V)} {k : κ} (e : p.1 = k) : ip (p :: r) k = some p.2 := by simp [ip, List.find?_cons, e]
theorem lC {p : κ × V} {r : List (κ × V)} {k : κ} (e : ¬ p.1 = k) : ip (p :: r) k = ip r k := by simp [ip, List.find?_cons, e]
theorem pL (k : κ) : ∀ kvs : List (κ × V), (kvs.any fun kv => decide (kv.1 = k)) = (ip kvs k).isSome
  | [] => rfl
  | p :: r => by
    rw [List.any_cons]
    by_cases e : p.1 = k
    . simp only [lB e, decide_eq_true e, Bool.true_or, Option.isSome_some]
    . rw [lC e, decide_eq_false e, Bool.false_or]; exact pL k r
theorem sh (kvs : List (κ × V)) (k : κ) (v : V) : (gL kvs k v).length <= kvs.length + 1 := by
  unfold gL
  split
  . rw [List.length_map]; omega
  . rw [List.length_append, List.length_cons, List.length_nil]; omega
theorem eB.isSome_eq {o : Option V} {u : Option Value} (r : eB o u) : o.isSome = u.isSome := by
  cases o with
  | none => cases u with
    | none => rfl
    | some _ => exact (show False from r).elim
  | some _ => cases u with
    | none => exact (show False from r).elim
    | some _ => rfl
theorem eB.getD {o : Option V} {u : Option Value} {d : V} {d' : Value} (r : eB o u) (rd : aP d d') : aP (o.getD d) (u.getD d') := by
  cases o with
  | none => cases u with
    | none => exact rd
    | some _ => exact (show False from r).elim
  | some _ => cases u with
    | none => exact (show False from r).elim
    | some _ => exact r
theorem KV.val {kvs : List (κ × V)} {vs : List (κ × Value)} (r : KV kvs vs) (k : κ) : eB (ip kvs k) (valueAt vs k) := by
  unfold KV at r
  induction r with
  | nil => exact True.intro
  | @cons p q ps qs h t ih =>
    obtain ⟨h1, h2⟩ := h
    by_cases e : p.1 = k
    . have e' : q.1 = k := h1.symm.trans e
      have b : valueAt (q :: qs) k = some q.2 := by simp [valueAt, List.find?_cons, e']
      rw [lB e, b]; exact h2
    . have e' : ¬ q.1 = k := fun z => e (h1.trans z)
      have b : valueAt (q :: qs) k = valueAt qs k := by simp [valueAt, List.find?_cons, e']
      rw [lC e, b]; exact ih
theorem KV.any {kvs : List (κ × V)} {vs : List (κ × Value)} (r : KV kvs vs) (k : κ) : (kvs.any fun kv => decide (kv.1 = k)) = vs.any fun kv => decide (kv.1 = k) := by
  unfold KV at r
  induction r with
  | nil => rfl
  | cons h t ih => rw [List.any_cons, List.any_cons, ih, h.1]
theorem KV.repl {kvs : List (κ × V)} {vs : List (κ × Value)} (r : KV kvs vs) (k : κ) {y : V} {u : Value} (ry : aP y u) :
    KV (kvs.map fun kv => if kv.1 = k then (kv.1, y) else kv) (vs.map fun kv => if kv.1 = k then (kv.1, u) else kv) := by
  unfold KV at r ⊢
  induction r with
  | nil => exact .nil
  | @cons p q ps qs h t ih =>
    rw [List.map_cons, List.map_cons]
    refine .cons ?_ ih
    obtain ⟨h1, h2⟩ := h
    by_cases e : p.1 = k
    . rw [if_pos e, if_pos (h1.symm.trans e)]; exact ⟨h1, ry⟩
    . rw [if_neg e, if_neg (fun z => e (h1.trans z))]; exact ⟨h1, h2⟩
theorem KV.put {kvs : List (κ × V)} {vs : List (κ × Value)} (r : KV kvs vs) (k : κ) {y : V} {u : Value} (ry : aP y u) : KV (gL kvs k y) (stored vs k u) := by
  unfold gL stored
  rw [r.any k]
  by_cases e : (vs.any fun kv => decide (kv.1 = k)) = true
  . rw [if_pos e, if_pos e]; exact r.repl k ry
  . rw [if_neg e, if_neg e]; exact Paired.snoc r ⟨rfl, ry⟩
theorem KV.drop {kvs : List (κ × V)} {vs : List (κ × Value)} (r : KV kvs vs) (k : κ) : KV (zu kvs k) (without vs k) := by
  unfold KV at r ⊢
  unfold zu without
  induction r with
  | nil => exact .nil
  | @cons p q ps qs h t ih =>
    obtain ⟨h1, h2⟩ := h
    rw [List.filter_cons, List.filter_cons]
    by_cases e : p.1 = k
    . have a : ¬ decide (p.1 ≠ k) = true := by simp [e]
      have b : ¬ decide (q.1 ≠ k) = true := by simp [h1.symm.trans e]
      rw [if_neg a, if_neg b]; exact ih
    . have e' : ¬ q.1 = k := fun z => e (h1.trans z)
      have a : decide (p.1 ≠ k) = true := by simp [e]
      have b : decide (q.1 ≠ k) = true := by simp [e']
      rw [if_pos a, if_pos b]; exact .cons ⟨h1, h2⟩ ih
theorem KV.length {kvs : List (κ × V)} {vs : List (κ × Value)} (r : KV kvs vs) : kvs.length = vs.length := Paired.length r
end
theorem uB {P : Program} {w : World} {k : bI} {u : Value} (r : aP (kV k) u) : (e9 P w).is k u = true := by
  cases k with
  | inl i => obtain ⟨t, e⟩ := (show ∃ t, u = Value.int i t from r); subst e; exact sg P w i t
  | inr x => obtain ⟨t, e⟩ := (show ∃ t, u = Value.str x t from r); subst e; exact se P w x t
end L2
set_option maxHeartbeats 4000000
namespace Sp
open PySem PySem.Spec PyProof.Rows L2
inductive D where
  | non | bl (b : Bool) | int (i : Int) | str (x : Str) | dct (ks : List bI) (ds : List D) | tup (l : List D) | lst (l : List D) | typ (n : String) | sn (n : Nat) | obj (n : Str) (ns : List Str) (ds : List D) | cls (n : Str)
mutual
def D.lless : D -> Bool
  | .lst _ => false
  | .dct _ _ => false
  | .tup l => ao l
  | _ => true
def ao : List D -> Bool
  | [] => true
  | d :: l => d.lless && ao l
end
def rY (K : W.Frag) (H : Hp) (a : Addr) (vs : List V) : Bool -> Prop
  | true => H a = some (.lst vs)
  | false => (∃ o, H a = some (.frz o (.lst vs))) \/ ∃ (o : Obj) (its : Array Value) (n : Nat), K.lookup a = some o /\ o.cls = .type "list" /\ o.dict = none /\ o.data = .seq its n /\ its.size <= sizeLine /\ aF vs its.toList
theorem rY.sq {K : W.Frag} {H : Hp} {a : Addr} {vs : List V} : ∀ {b : Bool}, rY K H a vs b -> bS K H a vs
  | true, h => bS.of h
  | false, .inl ⟨o, h⟩ => .inl (.inr ⟨o, h⟩)
  | false, .inr h => .inr h
structure pD (K : W.Frag) (C : Addr) : Prop where
  ha : W.findIn K (.ref C) "__class__" = some (some (.builtin "object.__class__"))
  hn : W.specialIn K (.builtin "object.__class__") "__get__" = some (some (.builtin "getset_descriptor.__get__"))
  ht : W.takesIn K (.builtin "object.__class__") = some true
  hm : W.mroIn K C (.type "object") = some true
def El : List Str := ["Deed", "Turn", "HalfTurn", "Mirror"]
def pR (m n : Str) : Bool := decide (m = n) || (decide (n = "Deed") && (decide (m = "Turn") || decide (m = "HalfTurn") || decide (m = "Mirror")))
structure GR (K : W.Frag) (C : Addr) (n : Str) : Prop where
  all : ∀ m ∈ El, ∀ Cm, W.nsIn K mainGlobals m = some (some (.ref Cm)) -> pD K Cm /\ W.kitOne K (.ref Cm) (.ref C) = some (pR m n)
abbrev aZ := Addr -> Bool -> Prop
mutual
def ag (K : W.Frag) (H : Hp) (P : aZ) : D -> V -> Prop
  | .non, v => v = .non
  | .bl b, v => v = .bl b
  | .int i, v => v = .int i
  | .str x, v => v = .str x
  | .dct ks ds, v => ao ds = true /\ ks.length = ds.length /\ ∃ a vs, v = .ref a /\ H a = some (.dK (ks.zip vs)) /\ P a true /\ af K H P ds vs
  | .typ n, v => v = .ty n
  | .sn n, v => ∃ a S, v = .ref a /\ H a = some (.set S n)
  | .cls n, v => ∃ C o, v = .ref C /\ W.nsIn K mainGlobals n = some (some (.ref C)) /\ K.lookup C = some o /\ o.cls = .type "type" /\ pD K C /\ GR K C n
  | .obj n ns ds, v => ao ds = true /\ ns.length = ds.length /\ ∃ a C dx vs, v = .ref a /\ W.nsIn K mainGlobals n = some (some (.ref C)) /\ fL K C /\ H a = some (.ins C dx (ns.zip vs)) /\ af K H P ds vs
  | .tup l, v => ∃ a vs, v = .ref a /\ bW K H a vs /\ af K H P l vs
  | .lst l, v => ∃ a vs b, v = .ref a /\ rY K H a vs b /\ P a b /\ af K H P l vs
def af (K : W.Frag) (H : Hp) (P : aZ) : List D -> List V -> Prop
  | [], vs => vs = []
  | d :: l, vs => ∃ v r, vs = v :: r /\ ag K H P d v /\ af K H P l r
end
def nm : HO -> Prop
  | .lst _ => False
  | .dK _ => False
  | _ => True
structure dC (P P' : aZ) (H H' : Hp) : Prop where
  oth : ∀ a o, H a = some o -> nm o -> H' a = some o
  lst : ∀ a o, H a = some o -> P a true -> H' a = some o
  impT : ∀ a o, H a = some o -> P a true -> P' a true
  impF : ∀ a, P a false -> P' a false
theorem dC.sq {P P' : aZ} {H H' : Hp} {K : W.Frag} (s : dC P P' H H') {a : Addr} {vs : List V} (h : bW K H a vs) : bW K H' a vs := by
  rcases h with (h | ⟨o, h⟩) | h
  . exact .inl (.inl (s.oth _ _ h True.intro))
  . exact .inl (.inr ⟨o, s.oth _ _ h True.intro⟩)
  . exact .inr h
theorem dC.ls {P P' : aZ} {H H' : Hp} {K : W.Frag} (s : dC P P' H H') {a : Addr} {vs : List V} : ∀ {b : Bool}, rY K H a vs b -> P a b -> rY K H' a vs b
  | true, h, p => s.lst a _ h p
  | false, .inl ⟨o, h⟩, _ => .inl ⟨o, s.oth _ _ h True.intro⟩
  | false, .inr h, _ => .inr h
theorem dC.imp {P P' : aZ} {H H' : Hp} {K : W.Frag} (s : dC P P' H H') {a : Addr} {vs : List V} : ∀ {b : Bool}, rY K H a vs b -> P a b -> P' a b
  | true, h, p => s.impT a _ h p
  | false, _, p => s.impF a p
mutual
theorem ag.mono {K : W.Frag} {P P' : aZ} {H H' : Hp} (s : dC P P' H H') : ∀ {d : D} {v : V}, ag K H P d v -> ag K H' P' d v
  | .non, v, h => by rw [ag] at h ⊢; exact h
  | .bl b, v, h => by rw [ag] at h ⊢; exact h
  | .int i, v, h => by rw [ag] at h ⊢; exact h
  | .str x, v, h => by rw [ag] at h ⊢; exact h
  | .dct ks ds, v, h => by
    rw [ag] at h ⊢
    obtain ⟨f, e0, a, vs, e, h1, p, r⟩ := h
    exact ⟨f, e0, a, vs, e, s.lst _ _ h1 p, s.impT _ _ h1 p, af.mono s r⟩
  | .typ n, v, h => by rw [ag] at h ⊢; exact h
  | .sn n, v, h => by
    rw [ag] at h ⊢
    obtain ⟨a, S, e, h⟩ := h
    exact ⟨a, S, e, s.oth _ _ h True.intro⟩
  | .cls n, v, h => by rw [ag] at h ⊢; exact h
  | .obj n ns ds, v, h => by
    rw [ag] at h ⊢
    obtain ⟨f, e0, a, C, dx, vs, e, h1, h2, h3, r⟩ := h
    exact ⟨f, e0, a, C, dx, vs, e, h1, h2, s.oth _ _ h3 True.intro, af.mono s r⟩
  | .tup l, v, h => by
    rw [ag] at h ⊢
    obtain ⟨a, vs, e, h, r⟩ := h
    exact ⟨a, vs, e, s.sq h, af.mono s r⟩
  | .lst l, v, h => by
    rw [ag] at h ⊢
    obtain ⟨a, vs, b, e, h, p, r⟩ := h
    exact ⟨a, vs, b, e, s.ls h p, s.imp h p, af.mono s r⟩
theorem af.mono {K : W.Frag} {P P' : aZ} {H H' : Hp} (s : dC P P' H H') : ∀ {l : List D} {vs : List V}, af K H P l vs -> af K H' P' l vs
  | [], vs, h => by rw [af] at h ⊢; exact h
  | d :: l, vs, h => by
    rw [af] at h ⊢
    obtain ⟨v, r, e, h1, h2⟩ := h
    exact ⟨v, r, e, ag.mono s h1, af.mono s h2⟩
end
theorem dC.same {P P' : aZ} {H H' : Hp} (s : ay H H') (i : ∀ a b, P a b -> P' a b) : dC P P' H H' := ⟨fun a o h _ => s a o h, fun a vs h _ => s a _ h, fun a _ _ p => i a true p, fun a p => i a false p⟩
theorem ag.same {K : W.Frag} {P : aZ} {H H' : Hp} (s : ay H H') {d : D} {v : V} (h : ag K H P d v) : ag K H' P d v := h.mono (.same s fun _ _ p => p)
theorem af.same {K : W.Frag} {P : aZ} {H H' : Hp} (s : ay H H') {d : List D} {v : List V} (h : af K H P d v) : af K H' P d v := h.mono (.same s fun _ _ p => p)
theorem ag.imp {K : W.Frag} {P P' : aZ} {H : Hp} (i : ∀ a b, P a b -> P' a b) {d : D} {v : V} (h : ag K H P d v) : ag K H P' d v := h.mono (.same (ay.refl _) i)
theorem af.imp {K : W.Frag} {P P' : aZ} {H : Hp} (i : ∀ a b, P a b -> P' a b) {d : List D} {v : List V} (h : af K H P d v) : af K H P' d v := h.mono (.same (ay.refl _) i)
theorem ag.impH {K : W.Frag} {P P' : aZ} {H : Hp} (i : ∀ a o, H a = some o -> P a true -> P' a true) (j : ∀ a, P a false -> P' a false) {d : D} {v : V} (h : ag K H P d v) : ag K H P' d v := h.mono ⟨fun _ _ h _ => h, fun _ _ h _ => h, i, j⟩
theorem af.impH {K : W.Frag} {P P' : aZ} {H : Hp} (i : ∀ a o, H a = some o -> P a true -> P' a true) (j : ∀ a, P a false -> P' a false) {d : List D} {v : List V} (h : af K H P d v) : af K H P' d v := h.mono ⟨fun _ _ h _ => h, fun _ _ h _ => h, i, j⟩
mutual
theorem ag.flat {K : W.Frag} {P : aZ} (P' : aZ) {H : Hp} : ∀ {d : D} {v : V}, d.lless = true -> ag K H P d v -> ag K H P' d v
  | .non, v, _, h => by rw [ag] at h ⊢; exact h
  | .bl b, v, _, h => by rw [ag] at h ⊢; exact h
  | .int i, v, _, h => by rw [ag] at h ⊢; exact h
  | .str x, v, _, h => by rw [ag] at h ⊢; exact h
  | .dct _ _, v, f, h => by rw [D.lless] at f; cases f
  | .typ n, v, _, h => by rw [ag] at h ⊢; exact h
  | .sn n, v, _, h => by rw [ag] at h ⊢; exact h
  | .cls n, v, _, h => by rw [ag] at h ⊢; exact h
  | .obj n ns ds, v, _, h => by
    rw [ag] at h ⊢
    obtain ⟨f, e0, a, C, dx, vs, e, h1, h2, h3, r⟩ := h
    exact ⟨f, e0, a, C, dx, vs, e, h1, h2, h3, af.flat P' f r⟩
  | .tup l, v, f, h => by
    rw [ag] at h ⊢
    obtain ⟨a, vs, e, h, r⟩ := h
    exact ⟨a, vs, e, h, af.flat P' (by rw [D.lless] at f; exact f) r⟩
  | .lst l, v, f, h => by rw [D.lless] at f; cases f
theorem af.flat {K : W.Frag} {P : aZ} (P' : aZ) {H : Hp} : ∀ {l : List D} {vs : List V}, ao l = true -> af K H P l vs -> af K H P' l vs
  | [], vs, _, h => by rw [af] at h ⊢; exact h
  | d :: l, vs, f, h => by
    rw [af] at h ⊢
    rw [ao, Bool.and_eq_true] at f
    obtain ⟨v, r, e, h1, h2⟩ := h
    exact ⟨v, r, e, ag.flat P' f.1 h1, af.flat P' f.2 h2⟩
end
theorem af.length {K : W.Frag} {P : aZ} {H : Hp} : ∀ {l : List D} {vs : List V}, af K H P l vs -> l.length = vs.length
  | [], vs, h => by rw [af] at h; subst h; rfl
  | d :: l, vs, h => by
    rw [af] at h
    obtain ⟨v, r, e, h1, h2⟩ := h
    subst e
    rw [List.length_cons, List.length_cons, h2.length]
theorem af.get {K : W.Frag} {P : aZ} {H : Hp} : ∀ {l : List D} {vs : List V} {i : Nat} {d : D}, af K H P l vs -> l[i]? = some d -> ∃ v, vs[i]? = some v /\ ag K H P d v
  | [], vs, i, d, h, e => by simp at e
  | x :: l, vs, 0, d, h, e => by
    rw [af] at h
    obtain ⟨v, r, rfl, h1, h2⟩ := h
    simp at e; subst e
    exact ⟨v, by simp, h1⟩
  | x :: l, vs, i + 1, d, h, e => by
    rw [af] at h
    obtain ⟨v, r, rfl, h1, h2⟩ := h
    obtain ⟨u, h3, h4⟩ := af.get (i := i) h2 (by simpa using e)
    exact ⟨u, by simpa using h3, h4⟩
theorem af.append {K : W.Frag} {P : aZ} {H : Hp} : ∀ {l m : List D} {vs ws : List V}, af K H P l vs -> af K H P m ws -> af K H P (l ++ m) (vs ++ ws)
  | [], m, vs, ws, h, g => by rw [af] at h; subst h; exact g
  | d :: l, m, vs, ws, h, g => by
    rw [af] at h
    obtain ⟨v, r, rfl, h1, h2⟩ := h
    show af K H P (d :: (l ++ m)) (v :: (r ++ ws))
    rw [af]
    exact ⟨v, _, rfl, h1, af.append h2 g⟩
theorem af.one {K : W.Frag} {P : aZ} {H : Hp} {d : D} {v : V} (h : ag K H P d v) : af K H P [d] [v] := by
  rw [af]; exact ⟨v, [], rfl, h, by rw [af]⟩
theorem af.nil {K : W.Frag} {P : aZ} {H : Hp} : af K H P [] [] := by rw [af]
theorem af.cons {K : W.Frag} {P : aZ} {H : Hp} {d : D} {v : V} {l : List D} {vs : List V} (h : ag K H P d v) (g : af K H P l vs) : af K H P (d :: l) (v :: vs) := by
  rw [af]; exact ⟨v, vs, rfl, h, g⟩
theorem af.take {K : W.Frag} {P : aZ} {H : Hp} : ∀ {l : List D} {vs : List V} (n : Nat), af K H P l vs -> af K H P (l.take n) (vs.take n)
  | [], vs, n, h => by rw [af] at h; subst h; simp; exact af.nil
  | d :: l, vs, 0, h => by simp; exact af.nil
  | d :: l, vs, n + 1, h => by
    rw [af] at h
    obtain ⟨v, r, rfl, h1, h2⟩ := h
    exact af.cons h1 (af.take n h2)
theorem af.drop {K : W.Frag} {P : aZ} {H : Hp} : ∀ {l : List D} {vs : List V} (n : Nat), af K H P l vs -> af K H P (l.drop n) (vs.drop n)
  | [], vs, n, h => by rw [af] at h; subst h; simp; exact af.nil
  | d :: l, vs, 0, h => h
  | d :: l, vs, n + 1, h => by
    rw [af] at h
    obtain ⟨v, r, rfl, h1, h2⟩ := h
    exact af.drop n h2
theorem af.mapInt {K : W.Frag} {P : aZ} {H : Hp} : ∀ {ns : List Int} {vs : List V}, af K H P (ns.map D.int) vs -> vs = ns.map V.int
  | [], vs, h => by rw [List.map_nil, af] at h; exact h
  | n :: ns, vs, h => by
    rw [List.map_cons, af] at h
    obtain ⟨v, r, rfl, h1, h2⟩ := h
    rw [ag] at h1
    rw [h1, af.mapInt h2]; rfl
theorem af.ofInts {K : W.Frag} {P : aZ} {H : Hp} : ∀ {ns : List Int}, af K H P (ns.map D.int) (ns.map V.int)
  | [] => af.nil
  | n :: ns => af.cons (by rw [ag]) af.ofInts
abbrev Ow := Addr -> Option (Option Str)
def Kp (ow : Ow) (H : Hp) : Nat -> aZ
  | 0 => fun a b => b = true /\ H a = none
  | 1 => fun a b => b = true -> ow a = none
  | 2 => fun a b => b = true /\ (ow a ≠ none \/ H a = none)
  | _ => fun _ _ => True
def kj : Nat -> Nat -> Nat
  | 0, k => k
  | k, 0 => k
  | 1, 1 => 1
  | 2, 2 => 2
  | _, _ => 3
def jq (ow : Ow) (x : Str) : Bool -> aZ
  | true => fun a b => b = true /\ ow a = some (some x)
  | false => fun a b => b = true -> ow a = none
def dW (ow : Ow) (H : Hp) : Prop := ∀ a, ow a ≠ none -> ∃ o, H a = some o
theorem dW.same {ow : Ow} {H H' : Hp} (o : dW ow H) (s : ay H H') : dW ow H' := fun a h => let ⟨x, e⟩ := o a h; ⟨x, s a x e⟩
theorem dW.free {ow : Ow} {H : Hp} (o : dW ow H) {a : Addr} (h : H a = none) : ow a = none := by
  cases e : ow a with
  | none => rfl
  | some x => obtain ⟨y, q⟩ := o a (by rw [e]; exact (fun z => nomatch z)); rw [h] at q; cases q
theorem Kp.back {ow : Ow} {H H' : Hp} (s : ay H H') : ∀ (k : Nat) (a : Addr) (b : Bool), Kp ow H' k a b -> Kp ow H k a b
  | 0, a, b, h => ⟨h.1, s.free h.2⟩
  | 1, a, b, h => h
  | 2, a, b, h => ⟨h.1, h.2.imp id fun z => s.free z⟩
  | _ + 3, a, b, h => True.intro
theorem Kp.joinL {ow : Ow} {H : Hp} (o : dW ow H) : ∀ (k j : Nat) (a : Addr) (b : Bool), Kp ow H k a b -> Kp ow H (kj k j) a b
  | 0, 0, a, b, h => h
  | 0, 1, a, b, h => fun _ => o.free h.2
  | 0, 2, a, b, h => ⟨h.1, .inr h.2⟩
  | 0, _ + 3, a, b, h => True.intro
  | 1, 0, a, b, h => h
  | 1, 1, a, b, h => h
  | 1, 2, a, b, h => True.intro
  | 1, _ + 3, a, b, h => True.intro
  | 2, 0, a, b, h => h
  | 2, 1, a, b, h => True.intro
  | 2, 2, a, b, h => h
  | 2, _ + 3, a, b, h => True.intro
  | _ + 3, 0, a, b, h => True.intro
  | _ + 3, 1, a, b, h => True.intro
  | _ + 3, 2, a, b, h => True.intro
  | _ + 3, _ + 3, a, b, h => True.intro
theorem AV : ∀ k j, kj k j = kj j k
  | 0, 0 | 0, 1 | 0, 2 | 0, _ + 3 | 1, 0 | 1, 1 | 1, 2 | 1, _ + 3 | 2, 0 | 2, 1 | 2, 2 | 2, _ + 3 | _ + 3, 0 | _ + 3, 1 | _ + 3, 2 | _ + 3, _ + 3 => rfl
theorem Kp.joinR {ow : Ow} {H : Hp} (o : dW ow H) (k j : Nat) (a : Addr) (b : Bool) (h : Kp ow H j a b) : Kp ow H (kj k j) a b := by
  rw [AV]; exact Kp.joinL o j k a b h
abbrev ai := Str -> Option (D × Bool)
structure aQ (X : Cx) (ow : Ow) (H : Hp) (σ : L2.St) (ρ : ai) : Prop where
  get : ∀ x d o, ρ x = some (d, o) -> ∃ (i : Nat) (v : V), X.N[i]? = some x /\ i5 X.env.scope x /\ σ[i]? = some (some v) /\ ag X.K H (jq ow x o) d v
  own : dW ow H
theorem aQ.same {X : Cx} {ow : Ow} {H H' : Hp} {σ : L2.St} {ρ : ai} (e : aQ X ow H σ ρ) (s : ay H H') : aQ X ow H' σ ρ :=
  ⟨fun x d o h => let ⟨i, v, h1, h2, h3, h4⟩ := e.get x d o h; ⟨i, v, h1, h2, h3, h4.same s⟩, e.own.same s⟩
def tD (X : Cx) (ow : Ow) (ρ : ai) (d : D) (k : Nat) : TE := fun σ H Q => aQ X ow H σ ρ /\ ∀ v H', ay H H' -> ag X.K H' (Kp ow H k) d v -> Q v H'
def ED (X : Cx) (ρ : ai) (e : Expr) (d : D) (k : Nat) : Prop := ∀ ow, PE X e (tD X ow ρ d k)
def yN (X : Cx) (ow : Ow) (ρ : ai) (b : Bool) : TT := fun σ H Q => aQ X ow H σ ρ /\ ∀ H', ay H H' -> Q b H'
def TD (X : Cx) (ρ : ai) (e : Expr) (b : Bool) : Prop := ∀ ow, PT X e (yN X ow ρ b)
def MN (X : Cx) (ow : Ow) (ρ : ai) (ds : List D) (k : Nat) : TA := fun σ H Q => aQ X ow H σ ρ /\ ∀ vs H', ay H H' -> af X.K H' (Kp ow H k) ds vs -> Q vs H'
def AD (X : Cx) (ρ : ai) (es : List Expr) (ds : List D) (k : Nat) : Prop := ∀ ow, PA X es (MN X ow ρ ds k)
theorem bz {X : Cx} {e : Expr} {t t' : TE} (h : PE X e t) (i : ∀ σ H Q, t' σ H Q -> t σ H Q) : PE X e t' := fun pins s σ H Q I q => h pins s σ H Q I (i σ H Q q)
theorem u6 {X : Cx} {e : Expr} {t t' : TT} (h : PT X e t) (i : ∀ σ H Q, t' σ H Q -> t σ H Q) : PT X e t' := fun pins s σ H Q I q => h pins s σ H Q I (i σ H Q q)
theorem zD {X : Cx} {e : List Expr} {t t' : TA} (h : PA X e t) (i : ∀ σ H Q, t' σ H Q -> t σ H Q) : PA X e t' := fun pos pins s σ H Q I q => h pos pins s σ H Q I (i σ H Q q)
def kn (d : D) (k : Nat) : Nat := if d.lless = true then 0 else k
theorem ED.kn {X : Cx} {ρ : ai} {e : Expr} {d : D} {k : Nat} (h : ED X ρ e d k) : ED X ρ e d (Sp.kn d k) := by
  unfold Sp.kn
  by_cases f : d.lless = true
  . rw [if_pos f]
    exact fun ow => bz (h ow) fun σ H Q ⟨E, q⟩ => ⟨E, fun v H' s r => q v H' s (r.flat _ f)⟩
  . rw [if_neg f]; exact h
end Sp
namespace Sp
open PySem PySem.Spec PyProof.Rows L2
def G1 (K : W.Frag) (J : It) (ds : List D) (P : aZ) (H1 : Hp) : Prop :=
  ∀ (i : Nat) (H2 : Hp), dC P P H1 H2 -> (∀ d, ds[i]? = some d -> J.go i H2 /\ ∀ x H3, J.yld i H2 x H3 -> ay H2 H3 /\ ag K H3 P d x) /\ (ds.length <= i -> J.stop i H2)
def Kd (ow : Ow) (H : Hp) (k : Nat) (H1 : Hp) : aZ := fun a b => Kp ow H k a b /\ (b = true -> ∃ o, H1 a = some o)
def tI (X : Cx) (ow : Ow) (ρ : ai) (ds : List D) (k : Nat) : TI := fun σ H R => aQ X ow H σ ρ /\ ∀ J H1, ay H H1 -> G1 X.K J ds (Kd ow H k H1) H1 -> R J H1
def IE (X : Cx) (ρ : ai) (tg iter : Expr) (ds : List D) (k : Nat) : Prop := ∀ ow, PI X tg iter (tI X ow ρ ds k)
def ge (ifs : List Expr) (env : Env) : Sem Bool := forIn ifs true fun c r => if r = true then do let ok <- isTrue c env (eval c env); pure (ForInStep.yield ok) else pure (ForInStep.yield r)
def wF (X : Cx) (ρ : ai) (ifs : List Expr) (b : Bool) : Prop := ∀ ow (pins : List (Addr × Obj)) (s : Shared) (σ : L2.St) (H : Hp) (Q : Bool -> Hp -> Prop), aj X pins σ H s -> yN X ow ρ b σ H Q -> wpAny (model X.prog X.w) X.A (ge ifs X.env) (TP X pins σ Q) X.xe s
def GD (X : Cx) (ρ : ai) (tg : Expr) (d : D) (ρ' : ai) : Prop := ∃ g : TG, PG X tg g /\ ∀ (ow : Ow) (v : V) (σ : L2.St) (H : Hp) (Q : L2.St -> Hp -> Prop), σ.length = X.N.length -> aQ X ow H σ ρ -> ag X.K H (fun a b => b = true -> ow a = none) d v -> (∀ σ', σ'.length = X.N.length -> aQ X ow H σ' ρ' -> Q σ' H) -> g v σ H Q
abbrev jA (X : Cx) (scope : Scope) (cl : List (Str × Addr)) (C : Addr) (N' : List Str) (s : Shared) (H : Hp) (fp : List Addr) : Cx :=
  { X with N := N', s₀ := s, H₀ := H, env := compEnvC scope cl C X.env, outer := X.stack, stack := X.stack, ex := fp, fn := fun x => decide (scope.names.lookup x = some .cell), pn := [], xe := fun _ _ => False }
theorem gi {env : Env} : ∀ (names : List (Str × NameKind)) (cs : List (Str × Addr)), (∀ n, (n, NameKind.free) ∈ names -> ∃ c, env.cells.lookup n = some c) ->
    ∃ cl, (forIn names cs (fun (x : Str × NameKind) (r : List (Str × Addr)) => (if (x.2 == NameKind.free) = true then do let a <- cellOf env x.1; pure (ForInStep.yield ((x.1, a) :: r)) else pure (ForInStep.yield r) : Sem (ForInStep (List (Str × Addr)))))) = (pure cl : Sem (List (Str × Addr))) /\
      (∀ x c, cl.lookup x = some c -> (env.cells.lookup x = some c /\ (x, NameKind.free) ∈ names) \/ cs.lookup x = some c) /\ (∀ x, (x, NameKind.free) ∈ names -> ∃ c, cl.lookup x = some c) /\ (∀ x c, cs.lookup x = some c -> ∃ c', cl.lookup x = some c')
  | [], cs, _ => ⟨cs, rfl, fun x c h => .inr h, fun x h => (by cases h), fun x c h => ⟨c, h⟩⟩
  | (n, k) :: r, cs, h => by
    have hr : ∀ n, (n, NameKind.free) ∈ r -> ∃ c, env.cells.lookup n = some c := fun m hm => h m (List.mem_cons_of_mem _ hm)
    by_cases hk : k = .free
    . subst hk
      obtain ⟨c, hc⟩ := h n List.mem_cons_self
      obtain ⟨cl, e, h1, h2, h3⟩ := gi r ((n, c) :: cs) hr
      refine ⟨cl, ?_, fun x c' hx => ?_, fun x hx => ?_, fun x c' hx => ?_⟩
      . rw [List.forIn_cons]
        simp only [beq_self_eq_true, if_true, cellOf, hc]
        rw [pure_bind, pure_bind]
        exact e
      . rcases h1 x c' hx with q | q
        . exact .inl ⟨q.1, List.mem_cons_of_mem _ q.2⟩
        . rw [List.lookup_cons] at q
          split at q
          . rename_i hb
            have : x = n := by simpa using hb
            subst this; cases q; exact .inl ⟨hc, List.mem_cons_self⟩
          . exact .inr q
      . rcases List.mem_cons.mp hx with q | q
        . cases q
          exact h3 n c (by simp)
        . exact h2 x q
      . by_cases hb : x == n
        . exact h3 x c (by rw [List.lookup_cons, hb])
        . exact h3 x c' (by rw [List.lookup_cons]; simp only [hb]; exact hx)
    . obtain ⟨cl, e, h1, h2, h3⟩ := gi r cs hr
      refine ⟨cl, ?_, fun x c hx => (h1 x c hx).imp (fun q => ⟨q.1, List.mem_cons_of_mem _ q.2⟩) id, fun x hx => ?_, h3⟩
      . rw [List.forIn_cons]
        have : (k == NameKind.free) = false := by simpa using hk
        simp only [this, Bool.false_eq_true, if_false]
        rw [pure_bind]
        exact e
      . rcases List.mem_cons.mp hx with q | q
        . cases q; exact absurd rfl hk
        . exact h2 x q
theorem si {env : Env} {scope : Scope} (h : ∀ n, (n, NameKind.free) ∈ scope.names -> ∃ c, env.cells.lookup n = some c) :
    ∃ cl, closureFor scope env = pure cl /\ (∀ x c, cl.lookup x = some c -> env.cells.lookup x = some c /\ (x, NameKind.free) ∈ scope.names) /\ (∀ x, (x, NameKind.free) ∈ scope.names -> ∃ c, cl.lookup x = some c) := by
  obtain ⟨cl, e, h1, h2, _⟩ := gi scope.names [] h
  refine ⟨cl, ?_, fun x c hx => (h1 x c hx).resolve_right (by simp), h2⟩
  unfold closureFor
  rw [<- e, <- bind_pure (forIn scope.names _ _)]
theorem cN {env : Env} : ∀ {names : List (Str × NameKind)} {x : Str}, names.lookup x = some .free ->
    (names.map fun (n, k) => if (k == NameKind.free && env.scope.kind == .function && env.kindOf n == some .cell) then (n, NameKind.cell) else (n, k)).lookup x = some .cell \/
    (names.map fun (n, k) => if (k == NameKind.free && env.scope.kind == .function && env.kindOf n == some .cell) then (n, NameKind.cell) else (n, k)).lookup x = some .free
  | [], _, h => by simp at h
  | (n, k) :: r, x, h => by
    have ih := @cN env r x
    show List.lookup x ((if (k == NameKind.free && env.scope.kind == .function && env.kindOf n == some .cell) = true then (n, NameKind.cell) else (n, k)) :: _) = _ \/ List.lookup x ((if (k == NameKind.free && env.scope.kind == .function && env.kindOf n == some .cell) = true then (n, NameKind.cell) else (n, k)) :: _) = _
    cases hx : x == n with
    | true =>
      simp only [List.lookup_cons, hx] at h
      cases h
      by_cases hc : (NameKind.free == NameKind.free && env.scope.kind == .function && env.kindOf n == some .cell) = true
      . rw [if_pos hc]; simp [List.lookup_cons, hx]
      . rw [if_neg hc]; simp [List.lookup_cons, hx]
    | false =>
      simp only [List.lookup_cons, hx] at h
      by_cases hc : (k == NameKind.free && env.scope.kind == .function && env.kindOf n == some .cell) = true
      . rw [if_pos hc]; simp only [List.lookup_cons, hx]; exact ih h
      . rw [if_neg hc]; simp only [List.lookup_cons, hx]; exact ih h
theorem fb {env : Env} : ∀ {names : List (Str × NameKind)} {x : Str} {k : NameKind}, (names.map fun (n, k) => if (k == NameKind.free && env.scope.kind == .function && env.kindOf n == some .cell) then (n, NameKind.cell) else (n, k)).lookup x = some k ->
    names.lookup x = some k \/ (k = .cell /\ names.lookup x = some .free)
  | [], _, _, h => by simp at h
  | (n, j) :: r, x, k, h => by
    have ih := @fb env r x k
    replace h : List.lookup x ((if (j == NameKind.free && env.scope.kind == .function && env.kindOf n == some .cell) = true then (n, NameKind.cell) else (n, j)) :: _) = some k := h
    cases hx : x == n with
    | true =>
      simp only [List.lookup_cons, hx]
      by_cases hc : (j == NameKind.free && env.scope.kind == .function && env.kindOf n == some .cell) = true
      . rw [if_pos hc] at h
        simp only [List.lookup_cons, hx] at h
        cases h
        have : j = .free := by
          have := (Bool.and_eq_true _ _).mp ((Bool.and_eq_true _ _).mp hc).1
          simpa using this.1
        exact .inr ⟨rfl, by rw [this]⟩
      . rw [if_neg hc] at h
        simp only [List.lookup_cons, hx] at h
        exact .inl h
    | false =>
      simp only [List.lookup_cons, hx]
      by_cases hc : (j == NameKind.free && env.scope.kind == .function && env.kindOf n == some .cell) = true
      . rw [if_pos hc] at h; simp only [List.lookup_cons, hx] at h; exact ih h
      . rw [if_neg hc] at h; simp only [List.lookup_cons, hx] at h; exact ih h
structure fC (env : Env) (scope : Scope) (N' : List Str) : Prop where
  kind : scope.kind = .function
  nn : (scope.names.map (·.1)).Nodup
  names : ∀ y ∈ scope.names, y.2 = .local -> scope.names.lookup y.1 = some .local
  nd : N'.Nodup
  fr : ∀ n, (n, NameKind.free) ∈ scope.names -> env.kindOf n = some .cell \/ env.kindOf n = some .free
theorem qE : ∀ {names : List (Str × NameKind)} {x : Str} {k : NameKind}, (names.map (·.1)).Nodup -> (x, k) ∈ names -> names.lookup x = some k
  | [], _, _, _, h => by cases h
  | (n, j) :: r, x, k, nd, h => by
    rw [List.map_cons, List.nodup_cons] at nd
    rcases List.mem_cons.mp h with e | h'
    . cases e; simp
    . have hx : (x == n) = false := by
        cases q : x == n with
        | false => rfl
        | true =>
          have : x = n := by simpa using q
          subst this
          have hm : x ∈ r.map (·.1) := List.mem_map.mpr ⟨(x, k), h', rfl⟩
          exact absurd hm nd.1
      rw [List.lookup_cons, hx]
      exact qE nd.2 h'
theorem mZ : ∀ (names : List (Str × NameKind)) (n : Nat) (acc : List (Str × Addr)) {x : Str} {c : Addr}, (cellsFrom n names acc).lookup x = some c -> acc.lookup x = some c \/ (n <= c /\ (x, NameKind.cell) ∈ names)
  | [], _, _, _, _, h => .inl h
  | (y, k) :: r, n, acc, x, c, h => by
    unfold cellsFrom at h
    split at h
    . rename_i hk
      have hk : k = .cell := by simpa using hk
      subst hk
      rcases mZ r (n + 1) ((y, n) :: acc) h with q | ⟨q1, q2⟩
      . rw [List.lookup_cons] at q
        split at q
        . rename_i hb
          have : x = y := by simpa using hb
          subst this
          cases q
          exact .inr ⟨Nat.le_refl _, List.mem_cons_self⟩
        . exact .inl q
      . exact .inr ⟨by omega, List.mem_cons_of_mem _ q2⟩
    . rcases mZ r n acc h with q | ⟨q1, q2⟩
      . exact .inl q
      . exact .inr ⟨q1, List.mem_cons_of_mem _ q2⟩
theorem rn : ∀ (names : List (Str × NameKind)) (n : Nat) (acc : List (Str × Addr)), (∀ x y c, acc.lookup x = some c -> acc.lookup y = some c -> x = y) -> (∀ x c, acc.lookup x = some c -> c < n) ->
    ∀ x y c, (cellsFrom n names acc).lookup x = some c -> (cellsFrom n names acc).lookup y = some c -> x = y
  | [], _, _, h, _, x, y, c, a, b => h x y c a b
  | (z, k) :: r, n, acc, h, hb, x, y, c, a, b => by
    unfold cellsFrom at a b
    split at a
    . rename_i hk
      rw [if_pos hk] at b
      refine rn r (n + 1) ((z, n) :: acc) (fun u v d p q => ?_) (fun u d p => ?_) x y c a b
      . rw [List.lookup_cons] at p q
        split at p
        . rename_i e1
          split at q
          . rename_i e2
            rw [show u = z by simpa using e1, show v = z by simpa using e2]
          . cases p; exact absurd (hb v _ q) (Nat.lt_irrefl _)
        . split at q
          . cases q; exact absurd (hb u _ p) (Nat.lt_irrefl _)
          . exact h u v d p q
      . rw [List.lookup_cons] at p
        split at p
        . cases p; exact Nat.lt_succ_self _
        . exact Nat.lt_succ_of_lt (hb u d p)
    . rename_i hk
      rw [if_neg hk] at b
      exact rn r n acc h hb x y c a b
theorem n9 : ∀ (names : List (Str × NameKind)) (h : Heap) (acc : List (Str × Addr)), (∀ x c, acc.lookup x = some c -> ∃ v, h.IsCell c v) -> ∀ x c, (cellsFrom h.objs.size names acc).lookup x = some c -> ∃ v, (pushCells h names).IsCell c v
  | [], _, _, h, x, c, a => h x c a
  | (z, k) :: r, h, acc, hc, x, c, a => by
    unfold cellsFrom at a
    unfold pushCells
    split at a
    . rename_i hk
      rw [if_pos hk]
      have := n9 r (h.push { cls := .type "cell", data := .cell none }) ((z, h.objs.size) :: acc) (fun u d p => ?_) x c
      . rw [Heap.size_push] at this
        exact this a
      . rw [List.lookup_cons] at p
        split at p
        . cases p; exact ⟨none, _, Heap.get?_push_size _ rfl, rfl⟩
        . obtain ⟨v, q⟩ := hc u d p
          exact ⟨v, q.keeps fun b o e => Heap.get?_push_of_some _ e⟩
    . rename_i hk
      rw [if_neg hk]
      exact n9 r h acc hc x c a
theorem u9 {M : Model} {A : Around} {E : Value -> Shared -> Prop} {s : Shared} {scope : Scope} {globals : Addr} {cl : List (Str × Addr)} {qual : Str} {env : Env} {Q : Env -> Shared -> Prop} (hcl : ∀ x c, cl.lookup x = some c -> ∃ v, s.heap.IsCell c v)
    (h : ∀ h', h'.Ns s.heap.objs.size (fun _ => none) -> (∀ b o, s.heap.get? b = some o -> h'.get? b = some o) -> (∀ x c, (cellsFrom (s.heap.objs.size + 1) scope.names cl).lookup x = some c -> ∃ v, h'.IsCell c v) ->
      Q (newEnv scope s.heap.objs.size globals (cellsFrom (s.heap.objs.size + 1) scope.names cl) qual none .none (some env) builtinsNs) { s with heap := h', toks := s.toks + 0 }) :
    wpAny M A (newFunctionEnv scope globals cl [] qual none .none (some env)) Q E s := by
  simp only [newFunctionEnv, Option.isSome_some, if_true]
  refine wpAny_bind (wpAny_alloc ?_)
  refine wpAny_bind (wpAny_layCells _ (fun name kind cells => by cases hkc : kind == NameKind.cell <;> simp [hkc]) _ _ _ _ ?_)
  rw [show ({ s with heap := s.heap.push { cls := .type "dict", data := .dict #[] } } : Shared).heap.objs.size = s.heap.objs.size + 1 from Heap.size_push ..]
  rw [List.forIn_nil]
  refine wpAny_bind (wpAny_pure (wpAny_pure ?_))
  refine h _ ((Heap.Ns.new s.heap (.type "dict")).keeps (pushCells_keeps _ _)) (fun b o e => pushCells_keeps _ _ b o (Heap.get?_push_of_some _ e)) fun x c hc => ?_
  have := n9 scope.names (s.heap.push { cls := .type "dict", data := .dict #[] }) cl (fun u d p => by
    obtain ⟨v, q⟩ := hcl u d p
    exact ⟨v, q.keeps fun b o e => Heap.get?_push_of_some _ e⟩) x c
  rw [Heap.size_push] at this
  exact this hc
structure kU (X : Cx) (scope : Scope) (cl : List (Str × Addr)) (n : Nat) : Prop where
  k1 : ∀ x c, cl.lookup x = some c -> X.env.cells.lookup x = some c \/ (n < c /\ scope.names.lookup x = some .cell)
  k2 : ∀ x, scope.names.lookup x = some .free \/ scope.names.lookup x = some .cell -> ∃ c, cl.lookup x = some c
  k4 : ∀ x y c, cl.lookup x = some c -> cl.lookup y = some c -> x = y
  k5 : ∀ x c, scope.names.lookup x = some .cell -> cl.lookup x = some c -> n <= c
variable {X : Cx}
theorem yb {pins : List (Addr × Obj)} {σ : L2.St} {H : Hp} {s : Shared} {scope : Scope} {cl : List (Str × Addr)} {N' : List Str} (I : aj X pins σ H s) (S : fC X.env scope N')
    (h1 : ∀ x c, cl.lookup x = some c -> X.env.cells.lookup x = some c /\ (x, NameKind.free) ∈ scope.names) (h2 : ∀ x, (x, NameKind.free) ∈ scope.names -> ∃ c, cl.lookup x = some c) :
    kU X scope (cellsFrom (s.heap.objs.size + 1) scope.names cl) s.heap.objs.size where
  k1 := fun x c h => by
    rcases mZ _ _ _ h with q | ⟨q1, q2⟩
    . exact .inl (h1 x c q).1
    . exact .inr ⟨q1, qE S.nn q2⟩
  k2 := fun x h => by
    refine Option.isSome_iff_exists.mp (W.cellsFrom_some scope.names _ cl ?_)
    rcases h with h | h
    . obtain ⟨c, hc⟩ := h2 x (PySem.mem_of_lookup h)
      exact .inr (by rw [hc]; rfl)
    . exact .inl h
  k4 := rn scope.names _ cl (fun x y c a b => I.ok.inj x y c (h1 x c a).1 (h1 y c b).1) fun x c a => by
    obtain ⟨v, hv⟩ := I.cell x c (h1 x c a).1
    exact Nat.lt_succ_of_lt hv.lt
  k5 := fun x c hx h => by
    rcases mZ _ _ _ h with q | ⟨q1, q2⟩
    . rw [qE S.nn (h1 x c q).2] at hx; cases hx
    . omega
theorem Gk {pins : List (Addr × Obj)} {σ : L2.St} {H : Hp} {s : Shared} {scope : Scope} {cl : List (Str × Addr)} {C : Addr} {N' : List Str} {fp : List Addr} (I : aj X pins σ H s) (S : fC X.env scope N')
    (hC : s.heap.objs.size <= C) (k : kU X scope cl s.heap.objs.size)
    (hf : ∀ b ∈ fp, eS X pins H b) (hfC : ∀ b ∈ fp, b < s.heap.objs.size) : (jA X scope cl C N' s H fp).Ok where
  mod := I.ok.mod
  kind := by show (relabel scope X.env).kind = _; exact S.kind
  glob := I.ok.glob
  blt := I.ok.blt
  above := hC
  inj := k.k4
  has := fun x hx => by
    have hx : (relabel scope X.env).names.lookup x = some .cell \/ (relabel scope X.env).names.lookup x = some .free := hx
    rcases hx with hx | hx
    . rcases fb hx with q | ⟨_, q⟩
      . exact k.k2 x (.inr q)
      . exact k.k2 x (.inl q)
    . rcases fb hx with q | ⟨q, _⟩
      . exact k.k2 x (.inl q)
      . cases q
  cab := fun x c h hc => k.k5 x c (of_decide_eq_true h) hc
  hd := I.ok.hd
  frames := I.ok.frames
  stk := .inl rfl
  exf := fun b hb => ⟨by have := hfC b hb; intro z; subst z; show False; exact absurd (Nat.lt_of_lt_of_le this hC) (Nat.lt_irrefl _), fun x c h => by
    rcases k.k1 x c h with q | ⟨q, _⟩
    . exact (hf b hb).2.2.2.2.1 x c q
    . have := hfC b hb
      intro z; subst z; exact absurd (Nat.lt_trans q this) (Nat.lt_irrefl _)⟩
  bs := I.bs
  bsz := Nat.le_trans I.ok.bsz I.sz
  noex := fun b o e hb => by
    rcases (hf b hb).2.2.2.1 with q | q
    . exact I.ok.noex b o e q
    . exact absurd (Nat.lt_of_lt_of_le (Heap.lt_size e) (Nat.le_trans I.ok.bsz q)) (Nat.lt_irrefl _)
  exfs := fun b hb z => by
    rcases List.mem_cons.mp (I.stkSub b z) with q | q
    . exact (hf b hb).2.1 q
    . exact (hf b hb).2.2.1 q
  funs := I.stack
  frf := I.stkFree
def lF (X : Cx) (scope : Scope) (N' : List Str) (σ : L2.St) : L2.St := N'.map fun x => if scope.names.lookup x = some .free then (σ[X.N.idxOf x]?).join else none
theorem DD {pins : List (Addr × Obj)} {σ : L2.St} {H : Hp} {s s1 : Shared} {scope : Scope} {cl : List (Str × Addr)} {N' : List Str} {fp : List Addr} {m : Str -> Option Value} (I : aj X pins σ H s) (S : fC X.env scope N')
    (k : kU X scope cl s.heap.objs.size) (k6 : ∀ x c, cl.lookup x = some c -> ∃ v, s1.heap.IsCell c v)
    (hf : ∀ b ∈ fp, eS X pins H b) (hfC : ∀ b ∈ fp, b < s.heap.objs.size)
    (es : ∃ h t, s1 = { s with heap := h, toks := t }) (hns : s1.heap.Ns s.heap.objs.size m) (hk : ∀ b o, s.heap.get? b = some o -> s1.heap.get? b = some o) :
    aj (jA X scope cl s.heap.objs.size N' s H fp) [] (lF X scope N' σ) H s1 := by
  obtain ⟨h', t, rfl⟩ := es
  have I1 : aj X pins σ H { s with heap := h', toks := t } := I.kept hk
  refine ⟨Gk I S (Nat.le_refl _) k hf hfC, rfl, I.bare, Un.kept hk, ⟨m, hns, fun i x v e1 e2 e3 => ?_⟩, k6, I.hok.fresh (Nat.le_refl _), fun x c h => (k.k1 x c h).elim (fun q => I.freeC x c q) fun q => I.hok.fresh (Nat.le_of_lt q.1), fun p hp => absurd (show p ∈ ([] : List (Addr × Obj)) from hp) (by simp), I1.hok, ?_⟩
  . have hN : N'[i]? = some x := e1
    unfold lF at e2
    rw [List.getElem?_map, hN] at e2
    simp only [Option.map_some, Option.some.injEq] at e2
    split at e2
    . rename_i hfr
      have hj : σ[X.N.idxOf x]? = some (some v) := by
        cases q : σ[X.N.idxOf x]? with
        | none => rw [q] at e2; cases e2
        | some y => rw [q] at e2; rw [show y = some v from e2]
      have hlt : X.N.idxOf x < X.N.length := by rw [<- I.len]; exact (List.getElem?_eq_some_iff.mp hj).1
      have hx : X.N[X.N.idxOf x]? = some x := by
        rw [List.getElem?_eq_getElem hlt, List.getElem_idxOf hlt]
      have kf := S.fr x (PySem.mem_of_lookup hfr)
      have vis : i5 X.env.scope x := .inr (kf.imp id id)
      obtain ⟨m1, hn1, hl1⟩ := I1.loc
      obtain ⟨u, r, l⟩ := hl1 _ x v hx hj vis
      refine ⟨u, r, .inr ⟨?_, ?_⟩⟩
      . exact cN hfr
      . rcases l with ⟨hk', _⟩ | ⟨_, c, hc, hcell⟩
        . rcases kf with q | q <;> rw [q] at hk' <;> cases hk'
        . obtain ⟨c', hc'⟩ := k.k2 x (.inl hfr)
          have : c' = c := by
            rcases k.k1 x c' hc' with this | ⟨_, this⟩
            . rw [hc] at this; exact (Option.some.inj this).symm
            . rw [hfr] at this; cases this
          subst this
          exact ⟨c', hc', hcell⟩
    . cases e2
  . unfold lF; simp
def flt (scope : Scope) (ρ : ai) : ai := fun x => if scope.names.lookup x = some .free then ρ x else none
theorem iK {scope : Scope} {ρ : ai} {x : Str} {y : D × Bool} (h : flt scope ρ x = some y) : ρ x = some y /\ scope.names.lookup x = some .free := by
  unfold flt at h
  split at h
  . rename_i e; exact ⟨h, e⟩
  . cases h
theorem D2 {ow : Ow} {H : Hp} {σ : L2.St} {ρ : ai} {scope : Scope} {cl : List (Str × Addr)} {C : Addr} {N' : List Str} {s : Shared} {fp : List Addr} {H0 : Hp} (E : aQ X ow H σ ρ) (hN : X.N.Nodup)
    (hsub : ∀ x d o, flt scope ρ x = some (d, o) -> x ∈ N') :
    aQ (jA X scope cl C N' s H0 fp) ow H (lF X scope N' σ) (flt scope ρ) := by
  refine ⟨fun x d o h => ?_, E.own⟩
  obtain ⟨h1, h2⟩ := iK h
  obtain ⟨i, v, e1, e2, e3, e4⟩ := E.get x d o h1
  have hx : x ∈ N' := hsub x d o h
  have hi : X.N.idxOf x = i := by
    have hm : x ∈ X.N := List.mem_of_getElem? e1
    have hlt := List.idxOf_lt_length_iff.mpr hm
    exact iD hN (by rw [List.getElem?_eq_getElem hlt, List.getElem_idxOf hlt]) e1
  refine ⟨N'.idxOf x, v, ?_, ?_, ?_, e4⟩
  . have hlt := List.idxOf_lt_length_iff.mpr hx
    show N'[N'.idxOf x]? = some x
    rw [List.getElem?_eq_getElem hlt, List.getElem_idxOf hlt]
  . exact .inr (cN h2)
  . have hlt := List.idxOf_lt_length_iff.mpr hx
    unfold lF
    rw [List.getElem?_map, List.getElem?_eq_getElem hlt, List.getElem_idxOf hlt]
    simp only [Option.map_some]
    rw [if_pos h2, hi, e3]; rfl
end Sp
namespace Sp
open PySem PySem.Spec PyProof.Rows L2
variable {X : Cx}
theorem wm {prog : Program} {w : World} {A : Around} {R : Result -> Shared -> Prop} {s : Shared} {elt target iter : Expr} {ifs : List Expr} {scope : Scope} {pos : Pos} {it acc : Value} {env : Env} (J : Nat -> Shared -> Prop)
    (turn : ∀ n s, J n s -> wpAny (model prog w) A (pyNext it) (fun r s₁ => match r with
      | none => R (.ok .next) s₁
      | some v => wpAny (model prog w) A (letOwnedTupleGo target it v) (fun _ s₁ => wpAny (model prog w) A (assign target env v) (fun _ s₂ =>
          wpAny (model prog w) A (ge ifs env) (fun ok s₃ =>
            if ok = true then wpAny (model prog w) A (eval elt env) (fun x s₄ =>
              wpAny (model prog w) A (call (.builtin "list.append") [acc, x]) (fun _ s₅ => ∃ m, m < n /\ J m s₅) (fun _ _ => False) s₄) (fun _ _ => False) s₃
            else ∃ m, m < n /\ J m s₃) (fun _ _ => False) s₂) (fun _ _ => False) s₁) (fun _ _ => False) s₁) (fun _ _ => False) s)
    (n : Nat) (h : J n s) : codeAny (model prog w) A (.compLoop (.ListComp elt [⟨target, iter, ifs, 0⟩] scope pos) 0 it acc env) R s := by
  refine codeAny_loop rfl J (fun n s hI => ?_) n h
  show wpAny _ A ((compTurn (.ListComp elt [⟨target, iter, ifs, 0⟩] scope pos) 0 it acc env).onRaise (fun x => do noteFrame x env; theTreesLotGoes x)) _ _ s
  refine wpAny_noted ?_
  rw [compTurn_list]
  refine wpAny_bind (wpAny_standAt (wpAny_bind (wpAny_mono (turn n s hI) (fun r s₁ h₁ => ?_) fun _ _ h' => h'.elim)))
  cases r with
  | none => exact wpAny_pure h₁
  | some v =>
    refine wpAny_bind (wpAny_mono h₁ (fun _ s₁' h₁' => ?_) fun _ _ h' => h'.elim)
    refine wpAny_bind (wpAny_mono h₁' (fun _ s₂ h₂ => wpAny_bind (wpAny_mono h₂ (fun ok s₃ h₃ => ?_) fun _ _ h' => h'.elim)) fun _ _ h' => h'.elim)
    cases ok with
    | false => exact wpAny_pure ⟨rfl, h₃⟩
    | true =>
      exact wpAny_bind (wpAny_bind (wpAny_mono h₃ (fun x s₄ h₄ => wpAny_bind (wpAny_mono h₄ (fun _ s₅ h₅ => wpAny_pure (wpAny_pure ⟨rfl, h₅⟩)) fun _ _ h' => h'.elim)) fun _ _ h' => h'.elim))
def kL (X : Cx) (ρ : ai) (tg : Expr) (ifs : List Expr) (elt : Expr) (k : Nat) (d : D) (r : Option D) : Prop :=
  ∃ ρ' b, GD X ρ tg d ρ' /\ (∀ x y, ρ x = some y -> ρ' x = some y) /\ wF X ρ' ifs b /\ match r with | some d' => b = true /\ ED X ρ' elt d' k | none => b = false
theorem gE {ow : Ow} {H : Hp} (o : dW ow H) {a : Addr} : ∀ {k : Nat}, k <= 1 -> Kp ow H k a true -> ow a = none
  | 0, _, p => o.free p.2
  | 1, _, p => p rfl
  | _ + 2, h, _ => absurd h (by omega)
theorem AU {ow : Ow} {H H9 : Hp} {D : Addr} {x : HO} (sm : ay H H9) (hD : H9 D = some x) {a : Addr} {b : Bool} : ∀ {k : Nat}, k <= 1 -> Kp (fun a => if a = D then some none else ow a) H9 k a b -> Kp ow H k a b /\ (b = true -> a ≠ D)
  | 0, _, p => ⟨⟨p.1, sm.free p.2⟩, fun _ z => by subst z; have := p.2; rw [hD] at this; cases this⟩
  | 1, _, p => by
    have p : b = true -> (if a = D then some none else ow a) = none := p
    refine ⟨fun hb => ?_, fun hb hz => ?_⟩
    . have p := p hb
      by_cases hz : a = D
      . rw [if_pos hz] at p; cases p
      . rw [if_neg hz] at p; exact p
    . have p := p hb
      rw [if_pos hz] at p; cases p
  | _ + 2, h, _ => absurd h (by omega)
theorem vT {ow : Ow} {H : Hp} {D : Addr} (o : dW ow H) (hD : H D = none) : ∀ {k : Nat}, k <= 1 -> Kp ow H k D true
  | 0, _ => ⟨rfl, hD⟩
  | 1, _ => fun _ => o.free hD
  | _ + 2, h => absurd h (by omega)
theorem mD : ∀ {l : List D} {i : Nat} {d : D}, ao l = true -> l[i]? = some d -> d.lless = true
  | [], _, _, _, h => by simp at h
  | x :: l, 0, d, f, h => by
    rw [ao, Bool.and_eq_true] at f
    simp at h; subst h; exact f.1
  | x :: l, i + 1, d, f, h => by
    rw [ao, Bool.and_eq_true] at f
    exact mD (i := i) f.2 (by simpa using h)
structure kT (X : Cx) (pins : List (Addr × Obj)) (σ : L2.St) (H5 : Hp) (s6 : Shared) (C : Addr) (m6 : Str -> Option Value) : Prop where
  inv : aj X pins σ H5 s6
  ns : s6.heap.Ns C m6
  free : H5 C = none
  loc : C ≠ X.env.locals
  old : X.s₀.heap.objs.size <= C
  cell : ∀ x c, X.env.cells.lookup x = some c -> c ≠ C
  pin : ∀ p ∈ X.pn ++ pins, p.1 ≠ C
  fs : C ∉ X.fs
theorem oU {ow : Ow} {use : Option (Value -> Sem Unit)} {Q' : Value -> Shared -> Prop} {pins : List (Addr × Obj)} {s : Shared} {σ : L2.St} {H : Hp} {ρ : ai} {tg elt iter : Expr} {ifs : List Expr} {scope : Scope} {pos pos2 : Pos} {ds : List D} {f : D -> Option D} {k ko : Nat} {N' : List Str}
    (hcalm : X.calm = true) (hN : X.N.Nodup) (hk : ao ds = true \/ k <= 1) (hko : ko <= 1) (hlen : ds.length < sizeLine) (S : fC X.env scope N') (hsub : ∀ x d o, flt scope ρ x = some (d, o) -> x ∈ N')
    (hi : IE X ρ tg iter ds k)
    (turn : ∀ cl C s H fp, ∀ d ∈ ds, kL (jA X scope cl C N' s H fp) (flt scope ρ) tg ifs elt ko d (f d))
    (hs : ∀ x, foldedSetIterable iter X.env x = pure x) (I : aj X pins σ H s) (E : aQ X ow H σ ρ)
    (fin : ∀ D C s6 H5 m6, kT X pins σ H5 s6 C m6 -> ay H H5 -> ag X.K H5 (Kp ow H ko) (.lst (ds.filterMap f)) (.ref D) -> compPost (model X.prog X.w) X.A X.xe use Q' (.ref D) C (.ok .next) s6) :
    wpAny (model X.prog X.w) X.A (comprehension (.ListComp elt [⟨tg, iter, ifs, 0⟩] scope pos) scope X.env pos2 (newList []) false (eval iter X.env) use) Q' X.xe s := by
  obtain ⟨cl, hclos, h1, h2⟩ := si (env := X.env) (scope := scope) fun n hn => I.ok.has n (S.fr n hn)
  refine wpAny_comprehension_free rfl hs hclos S.kind S.names ?_
  refine aM (hi ow pins s σ H (fun J H1 => ay H H1 /\ G1 X.K J ds (Kd ow H k H1) H1) I ⟨E, fun J H1 a b => ⟨a, b⟩⟩) fun v s1 h1' => aM h1' fun itv s2 h2' => ?_
  obtain ⟨it, fp, tn, J, H2, rfl, I2, T, st2, f2, s12, itd⟩ := h2'
  have hD2 : H2 s2.heap.objs.size = none := I2.hok.fresh (Nat.le_refl _)
  refine wpAny_newObj_type (u9 (fun x c hc => (I2.cell x c (h1 x c hc).1).imp fun v q => q.keeps fun b o e => Heap.get?_push_of_some _ e) fun h₁ hns₁ kp0 k60 => ?_)
  have I3 : aj X pins σ (aU H2 s2.heap.objs.size (.lst [])) { s2 with heap := s2.heap.push { cls := .type "list", dict := none, data := .seq ([] : List Value).toArray } } :=
    I2.laid (t' := s2.toks) (fun b u e => Heap.get?_push_of_some _ e) (Nat.le_refl _) ⟨Nat.zero_le _, [], 0, .nil, Heap.get?_push_size _ rfl⟩
  generalize hD : s2.heap.objs.size = D at *
  generalize hs3 : ({ s2 with heap := s2.heap.push { cls := .type "list", dict := none, data := .seq ([] : List Value).toArray } } : Shared) = s3 at *
  have hsz3 : s3.heap.objs.size = D + 1 := by rw [<- hs3]; show (s2.heap.push _).objs.size = _; rw [Heap.size_push, hD]
  have f3 : ∀ b ∈ fp, eS X pins (aU H2 D (.lst [])) b := fun b hb => by
    obtain ⟨g0, g⟩ := f2 b hb
    obtain ⟨o, e, _⟩ := T.obj _ _ st2 b hb
    have hlt := Heap.lt_size e
    rw [hD] at hlt
    exact ⟨by rw [aC (Nat.ne_of_lt hlt)]; exact g0, g⟩
  have fl3 : ∀ b ∈ fp, b < s3.heap.objs.size := fun b hb => by
    obtain ⟨o, e, _⟩ := T.obj _ _ st2 b hb
    have hlt := Heap.lt_size e
    rw [hD] at hlt
    rw [hsz3]; exact Nat.lt_succ_of_lt hlt
  have kp : ∀ b o, s3.heap.get? b = some o -> h₁.get? b = some o := kp0
  have kc : kU X scope (cellsFrom (s3.heap.objs.size + 1) scope.names cl) s3.heap.objs.size := yb I3 S h1 h2
  generalize hcl' : cellsFrom (s3.heap.objs.size + 1) scope.names cl = cl' at *
  have I4 := DD (s1 := { s3 with heap := h₁, toks := s3.toks + 0 }) (N' := N') I3 S kc k60 f3 fl3 ⟨_, _, rfl⟩ hns₁ kp
  have sH2 : ∀ vs, ay H2 (aU H2 D (.lst vs)) := fun vs b o e => by rw [aC (aX e hD2)]; exact e
  let ow' : Ow := fun a => if a = D then some none else ow a
  have ow'D : ow' D = some none := if_pos rfl
  have ow'n : ∀ a, a ≠ D -> ow' a = ow a := fun a h => if_neg h
  have own' : ∀ {H' : Hp} (vs : List V), H' D = some (.lst vs) -> ay H2 H' -> dW ow' H' := fun {H'} vs hd sm a ha => by
    by_cases hz : a = D
    . subst hz; exact ⟨_, hd⟩
    . rw [ow'n a hz] at ha
      obtain ⟨o, e⟩ := (E.same s12).own a ha
      exact ⟨o, sm a o e⟩
  have E4 : aQ (jA X scope cl' s3.heap.objs.size N' s3 (aU H2 D (.lst [])) fp) ow' (aU H2 D (.lst [])) (lF X scope N' σ) (flt scope ρ) := by
    have E3 := D2 (scope := scope) (cl := cl') (C := s3.heap.objs.size) (N' := N') (s := s3) (fp := fp) (H0 := aU H2 D (.lst [])) (E.same s12) hN hsub
    refine ⟨fun x d o h => ?_, own' [] aL (sH2 [])⟩
    obtain ⟨i, v, e1, e2, e3, e4⟩ := E3.get x d o h
    refine ⟨i, v, e1, e2, e3, ag.same (sH2 []) (e4.impH (fun a ob ha p => ?_) fun a p => ?_)⟩
    . have hz : a ≠ D := aX ha hD2
      cases o with
      | true => exact ⟨p.1, (ow'n a hz).trans p.2⟩
      | false => exact fun _ => (ow'n a hz).trans (p rfl)
    . cases o with
      | true => cases p.1
      | false => exact fun z => (by cases z)
  generalize hX' : jA X scope cl' s3.heap.objs.size N' s3 (aU H2 D (.lst [])) fp = X' at *
  have turn' : ∀ d ∈ ds, kL X' (flt scope ρ) tg ifs elt ko d (f d) := fun d hd => by rw [<- hX']; exact turn _ _ _ _ _ d hd
  have eK : X'.K = X.K := by rw [<- hX']
  have eP : X'.prog = X.prog := by rw [<- hX']
  have eW : X'.w = X.w := by rw [<- hX']
  have eA : X'.A = X.A := by rw [<- hX']
  have eE : X'.env = compEnvC scope cl' s3.heap.objs.size X.env := by rw [<- hX']
  have eX : X'.xe = fun _ _ => False := by rw [<- hX']
  have eC : X'.calm = true := by rw [<- hX']; exact hcalm
  have stat : ∀ {H' : Hp}, (∀ b ∈ fp, H' b = none) -> ∀ b ∈ fp, eS X' [] H' b := fun hn b hb => by
    rw [<- hX']
    refine ⟨hn b hb, ?_, ?_, .inl hb, fun x c h => (kc.k1 x c h).elim (fun q => (f3 b hb).2.2.2.2.1 x c q) (fun q z => by subst z; exact absurd (Nat.lt_trans q.1 (fl3 _ hb)) (Nat.lt_irrefl _)), fun p hp => absurd (show p ∈ ([] : List (Addr × Obj)) from hp) (by simp)⟩
    . show b ≠ s3.heap.objs.size
      exact Nat.ne_of_lt (fl3 b hb)
    . intro z
      rcases List.mem_cons.mp (I3.stkSub b z) with q | q
      . exact (f3 b hb).2.1 q
      . exact (f3 b hb).2.2.1 q
  let Pe : aZ := fun a b => Kp ow H ko a b /\ (b = true -> a ≠ D)
  have loop : codeAny (model X.prog X.w) X.A (.compLoop (.ListComp elt [⟨tg, iter, ifs, 0⟩] scope pos) 0 (.ref it) (.ref D) (compEnvC scope cl' s3.heap.objs.size X.env)) (compPost (model X.prog X.w) X.A X.xe use Q' (.ref D) s3.heap.objs.size) { s3 with heap := h₁, toks := s3.toks + 0 } := by
    refine wm (fun n s' => ∃ (i : Nat) (σ' : L2.St) (H' : Hp) (vs : List V), aj X' [] σ' H' s' /\ tn i s'.heap /\ (∀ b ∈ fp, H' b = none) /\ aQ X' ow' H' σ' (flt scope ρ) /\ H' D = some (.lst vs) /\ ay H2 H' /\
      af X.K H' Pe ((ds.take i).filterMap f) vs /\ i <= ds.length /\ n = ds.length - i) ?_ ds.length
      ⟨0, lF X scope N' σ, aU H2 D (.lst []), [], I4, ?_, fun b hb => (f3 b hb).1, E4, aL, sH2 [], ?_, Nat.zero_le _, rfl⟩
    . rintro n s5 ⟨i, σ5, H5, vs, I5, st5, fr5, E5, hD5, sm5, rp5, hi5, rfl⟩
      have stay : dC (Kd ow H k H2) (Kd ow H k H2) H2 H5 := .same sm5 fun _ _ p => p
      have itd5 := itd i H5 stay
      by_cases hlt : i < ds.length
      . obtain ⟨go, yl⟩ := itd5.1 ds[i] (by simp [hlt])
        have Ti := T.item X' eP eW eK eC i [] s5 σ5 H5 (fun _ _ => False) I5 (stat fr5) st5 go
        rw [eA] at Ti
        refine aM Ti fun r s6 ⟨u, hr, h6⟩ => ?_
        subst hr
        refine aM h6 fun _ s7 ⟨x, H7, I7, r7, y7, st7, fr7⟩ => ?_
        obtain ⟨sm7, rx7⟩ := yl x H7 y7
        obtain ⟨ρ', b, ⟨g, hg, hgd⟩, hext, hts, hel⟩ := turn' ds[i] (List.getElem_mem hlt)
        have rx7' : ag X'.K H7 (fun a b => b = true -> ow' a = none) ds[i] x := by
          rw [eK]
          rcases hk with hk | hk
          . exact rx7.flat _ (mD hk (List.getElem?_eq_getElem hlt))
          refine rx7.impH (fun a o ha p _ => ?_) fun a _ z => (by cases z)
          obtain ⟨p, p2⟩ := p
          obtain ⟨o2, ho2⟩ := p2 rfl
          show ow' a = none
          rw [ow'n a (aX ho2 hD2)]
          exact gE E.own hk p
        have E7 := E5.same sm7
        have I7' := I7.pinned (stat fr7) (T.obj _ _ st7)
        have hg' := hg _ s7 σ5 H7 x u (fun σ' H' => aQ X' ow' H' σ' ρ' /\ H7 = H') I7' r7 (hgd ow' x σ5 H7 _ I7.len E7 rx7' fun σ' _ e => ⟨e, rfl⟩)
        rw [eP, eW, eA, eE, eX] at hg'
        refine aM hg' fun _ s8 ⟨σ8, H8, I8, E8, eH8⟩ => ?_
        subst eH8
        have ht' := hts ow' _ s8 σ8 H7 (fun c H' => c = b /\ ay H7 H') I8 ⟨E8, fun H' sm => ⟨rfl, sm⟩⟩
        rw [eP, eW, eA, eE, eX] at ht'
        refine aM ht' fun c s9 ⟨H9, I9, ec, sm9⟩ => ?_
        subst ec
        have back : ∀ {H' : Hp} {σ' : L2.St} {s' : Shared}, aj X' ([] ++ jo fp s7.heap) σ' H' s' -> aj X' [] σ' H' s' /\ tn (i + 1) s'.heap /\ ∀ b ∈ fp, H' b = none := fun {H' σ' s'} J7 => by
          refine ⟨J7.unpinned, T.keep _ _ _ st7 fun b hb o e => (J7.pin (b, o) (List.mem_append_right _ (List.mem_append_right _ (fM hb e)))).1, fun b hb => ?_⟩
          obtain ⟨o, e, d⟩ := T.obj _ _ st7 b hb
          exact (J7.pin (b, o) (List.mem_append_right _ (List.mem_append_right _ (fM hb e)))).2.1
        have envf : ∀ {H' : Hp} {σ' : L2.St}, aQ X' ow' H' σ' ρ' -> aQ X' ow' H' σ' (flt scope ρ) := fun {H' σ'} e => ⟨fun x d o h => e.get x d o (hext x _ h), e.own⟩
        have tk : (ds.take (i + 1)).filterMap f = (ds.take i).filterMap f ++ (f ds[i]).toList := by
          rw [List.take_add_one]
          simp only [List.getElem?_eq_getElem hlt, Option.toList_some, List.filterMap_append]
          congr 1
        have sm59 : ay H5 H9 := sm7.trans sm9
        cases hc : c with
        | false =>
          rw [if_neg Bool.false_ne_true]
          subst hc
          obtain ⟨I9', st9, fr9⟩ := back I9
          have fn : f ds[i] = none := by
            cases hf : f ds[i] with
            | none => rfl
            | some d' => rw [hf] at hel; cases hel.1
          refine ⟨ds.length - (i + 1), by omega, i + 1, σ8, H9, vs, I9', st9, fr9, envf (E8.same sm9), sm59 _ _ hD5, sm5.trans sm59, ?_, hlt, rfl⟩
          rw [tk, fn, Option.toList_none, List.append_nil]
          exact rp5.same sm59
        | true =>
          rw [if_pos rfl]
          subst hc
          obtain ⟨d', fs, hed⟩ : ∃ d', f ds[i] = some d' /\ ED X' ρ' elt d' ko := by
            cases hf : f ds[i] with
            | none => rw [hf] at hel; cases hel
            | some d' => rw [hf] at hel; exact ⟨d', rfl, hel.2⟩
          have he' := hed ow' _ s9 σ8 H9 (fun v H' => ay H9 H' /\ ag X'.K H' (Kp ow' H9 ko) d' v) I9 ⟨E8.same sm9, fun v H' a r => ⟨a, r⟩⟩
          rw [eP, eW, eA, eE, eX] at he'
          refine aM he' fun y s10 ⟨v10, H10, I10, r10, sm10, rp10⟩ => ?_
          have sm510 := sm59.trans sm10
          have hD10 := sm510 _ _ hD5
          have hlv : vs.length < sizeLine := by
            rw [<- rp5.length]
            refine Nat.lt_of_le_of_lt (List.length_filterMap_le _ _) ?_
            rw [List.length_take]; omega
          have ha' := oI (X := X') _ s10 σ8 H10 (.ref D) [v10] (.ref D) [y] (fun w H' => aU H10 D (.lst (vs ++ [v10])) = H') I10 rfl (.cons r10 .nil) ⟨D, vs, v10, rfl, rfl, hD10, hlv, rfl⟩
          rw [eP, eW, eA, eX] at ha'
          refine aM ha' fun _ s11 ⟨w11, H11, I11, _, eH11⟩ => ?_
          subst eH11
          obtain ⟨I11', st11, fr11⟩ := back I11
          have s2D : ∀ a o, H2 a = some o -> a ≠ D := fun a o e => aX e hD2
          have stD : dC Pe Pe H10 (aU H10 D (.lst (vs ++ [v10]))) := ⟨fun a o h hn => by rw [aC (fun z => by subst z; rw [hD10] at h; cases h; exact hn)]; exact h, fun a ws h p => by rw [aC (p.2 rfl)]; exact h, fun _ _ _ p => p, fun _ p => p⟩
          refine ⟨ds.length - (i + 1), by omega, i + 1, σ8, _, vs ++ [v10], I11', st11, fr11, ?_, aL, ?_, ?_, hlt, rfl⟩
          . have E10 := envf ((E8.same sm9).same sm10)
            refine ⟨fun x d o h => ?_, own' _ aL (fun a o e => by rw [aC (s2D a o e)]; exact (sm5.trans sm510) a o e)⟩
            obtain ⟨i', v', e1, e2, e3, e4⟩ := E10.get x d o h
            refine ⟨i', v', e1, e2, e3, e4.mono ⟨fun a o h hn => by rw [aC (fun z => by subst z; rw [hD10] at h; cases h; exact hn)]; exact h, fun a ws h p => ?_, fun _ _ _ p => p, fun _ p => p⟩⟩
            have hz : a ≠ D := by
              intro z; subst z
              cases o with
              | true => have := p.2; rw [ow'D] at this; cases this
              | false => have : ow' a = none := p rfl; rw [ow'D] at this; cases this
            rw [aC hz]; exact h
          . intro a o e
            rw [aC (s2D a o e)]
            exact (sm5.trans sm510) a o e
          . rw [tk, fs, Option.toList_some]
            refine ((rp5.same sm510).mono stD).append (af.one (ag.mono stD ?_))
            rw [eK] at rp10
            have sH9 : ay H H9 := s12.trans (sm5.trans sm59)
            exact rp10.imp fun a b p => AU sH9 (sm59 _ _ hD5) hko p
      . have hstop := itd5.2 (by omega)
        have Td := T.done X' eP eW eK eC i [] s5 σ5 H5 (fun _ _ => False) I5 (stat fr5) st5 hstop
        rw [eA] at Td
        refine aM Td fun r s6 ⟨hr, I6⟩ => ?_
        subst hr
        have ei : i = ds.length := by omega
        subst ei
        rw [List.take_length] at rp5
        have hC : X'.env.locals = s3.heap.objs.size := by rw [eE]; rfl
        obtain ⟨m6, hn6, _⟩ := I6.loc
        rw [hC] at hn6
        have hfree : H5 s3.heap.objs.size = none := by have := I6.free; rw [hC] at this; exact this
        have IX : aj X pins σ H5 s6 := by
          have b6 := I6.base
          have o6 := I6.os
          have k6 := I6.hok
          have g6 := I6.bare
          rw [<- hX'] at b6 o6 k6
          exact I3.call' o6 b6 k6 g6 fun b hb => ⟨(f3 b hb).2.2.2.1, (f3 b hb).2.1, (f3 b hb).2.2.2.2.1, (f3 b hb).2.2.2.2.2⟩
        have hHD : H D = none := s12.free hD2
        refine fin D _ s6 H5 m6 ⟨IX, hn6, hfree, Nat.ne_of_gt I3.lt, I3.sz, fun x c hc z => ?_, fun p hp z => ?_, I3.nofs (Nat.le_refl _)⟩ (s12.trans sm5) ?_
        . obtain ⟨v, hv⟩ := I3.cell x c hc
          have := hv.lt
          rw [z] at this; exact absurd this (Nat.lt_irrefl _)
        . have := Heap.lt_size (I3.pin p hp).1
          rw [z] at this; exact absurd this (Nat.lt_irrefl _)
        . rw [ag]
          exact ⟨D, vs, true, rfl, hD5, vT E.own hHD hko, rp5.imp fun _ _ p => p.1⟩
    . exact T.keep 0 s2.heap h₁ st2 fun b hb o e => kp b o (by rw [<- hs3]; exact Heap.get?_push_of_some _ e)
    . exact af.nil
  exact codeAny_compStart_list loop (T.self _ 0 _ _ _ (T.keep 0 s2.heap h₁ st2 fun b hb o e => kp b o (by rw [<- hs3]; exact Heap.get?_push_of_some _ e)) loop)
theorem kT.done {pins : List (Addr × Obj)} {σ : L2.St} {H5 : Hp} {s6 : Shared} {C : Addr} {m6 : Str -> Option Value} (e : kT X pins σ H5 s6 C m6) {h' : Heap} (sb : Heap.SameBut C s6.heap h') : aj X pins σ H5 { s6 with heap := h' } :=
  e.inv.turned (t' := s6.toks) (it := C) (fun b o hb e => sb.extBut b o hb e) e.free e.loc (.inr e.old) e.cell e.pin
theorem By {ρ : ai} {tg elt iter : Expr} {ifs : List Expr} {scope : Scope} {pos : Pos} {ds : List D} {f : D -> Option D} {k ko : Nat} {N' : List Str}
    (hcalm : X.calm = true) (hN : X.N.Nodup) (hk : ao ds = true \/ k <= 1) (hko : ko <= 1) (hlen : ds.length < sizeLine) (S : fC X.env scope N') (hsub : ∀ x d o, flt scope ρ x = some (d, o) -> x ∈ N')
    (hi : IE X ρ tg iter ds k)
    (turn : ∀ cl C s H fp, ∀ d ∈ ds, kL (jA X scope cl C N' s H fp) (flt scope ρ) tg ifs elt ko d (f d))
    (hs : ∀ x, foldedSetIterable iter X.env x = pure x := by intro _; rfl) :
    ED X ρ (.ListComp elt [⟨tg, iter, ifs, 0⟩] scope pos) (.lst (ds.filterMap f)) ko := by
  intro ow pins s σ H Q I ⟨E, q⟩
  rw [eval_ListComp]
  refine oU hcalm hN hk hko hlen S hsub hi turn hs I E fun D C s6 H5 m6 ce sm rp => ?_
  exact ⟨m6, ce.ns, fun h' sb => ⟨.ref D, H5, ce.done sb, rfl, q (.ref D) H5 sm rp⟩⟩
theorem Am {D0 : jY} {ow : Ow} {x : Str} {px spos : Pos} {pins : List (Addr × Obj)} {s : Shared} {σ : L2.St} {H : Hp} {ρ : ai} {tg elt iter : Expr} {ifs : List Expr} {scope : Scope} {pos : Pos} {ds : List D} {f : D -> Option D} {k ko : Nat} {N' : List Str} {i : Nat}
    (hcalm : X.calm = true) (hN : X.N.Nodup) (hk : ao ds = true \/ k <= 1) (hko : ko <= 1) (hlen : ds.length < sizeLine) (S : fC X.env scope N') (hsub : ∀ x d o, flt scope ρ x = some (d, o) -> x ∈ N')
    (hi : IE X ρ tg iter ds k)
    (turn : ∀ cl C s H fp, ∀ d ∈ ds, kL (jA X scope cl C N' s H fp) (flt scope ρ) tg ifs elt ko d (f d))
    (hs : ∀ x, foldedSetIterable iter X.env x = pure x) (I : aj X pins σ H s) (E : aQ X ow H σ ρ)
    (hsw : swapsWith (.ListComp elt [⟨tg, iter, ifs, 0⟩] scope pos) (some (.Name x px)) spos.line X.env = pure true)
    (hx : X.N[i]? = some x) (hl : rZ X.env.scope x) (hf : X.fn x = true \/ X.env.scope.names.lookup x = some .local)
    (q : ∀ v H', ay H H' -> ag X.K H' (Kp ow H ko) (.lst (ds.filterMap f)) v -> D0.nx (σ.set i (some v)) H') :
    wpAny (model X.prog X.w) X.A (exec (.Assign [.Name x px] (.ListComp elt [⟨tg, iter, ifs, 0⟩] scope pos) spos) X.env) (SP X pins D0) X.xe s := by
  rw [exec_Assign_Name_used _ _ _ _ hsw]
  refine wpAny_bind (wpAny_standAt (wpAny_bind ?_))
  show wpAny _ X.A (do let _ <- comprehension (.ListComp elt [⟨tg, iter, ifs, 0⟩] scope pos) scope X.env _ (newList []) false (eval iter X.env) (some (assign (.Name x px) X.env))) _ _ s
  refine wpAny_bind (wpAny_mono (oU (use := some (assign (.Name x px) X.env)) (Q' := fun _ s' => SP X pins D0 .next s') hcalm hN hk hko hlen S hsub hi turn hs I E fun D C s6 H5 m6 ce sm rp => ?_) (fun _ s' hq => wpAny_pure (wpAny_pure hq)) fun _ _ e => e)
  obtain ⟨o, es, ep, ho, hd, hrest⟩ := id ce.ns
  have Ip : aj X (pins ++ [(C, o)]) σ H5 s6 := ce.inv.pins_of fun p hp => by
    rcases List.mem_append.mp hp with z | z
    . exact ce.inv.pin p (List.mem_append_right _ z)
    . have e : p = (C, o) := by simpa using z
      subst e
      exact ⟨ho, ce.free, ce.loc, ce.fs, fun v z => by rw [hd] at z; cases z⟩
  show wpAny _ X.A (assign (.Name x px) X.env (.ref D)) _ _ _
  refine aM (g9 (i := i) hN hx hl hf (pins ++ [(C, o)]) s6 σ H5 (.ref D) (.ref D) (fun σ' H' => σ.set i (some (.ref D)) = σ' /\ H5 = H') Ip rfl ⟨rfl, rfl⟩) fun _ s7 ⟨σ7, H7, I7, e1, e2⟩ => ?_
  subst e1 e2
  have pC := (I7.pin (C, o) (List.mem_append_right _ (List.mem_append_right _ (by simp)))).1
  refine ⟨m6, ⟨o, es, ep, pC, hd, hrest⟩, fun h' sb => ?_⟩
  have ce' : kT X pins (σ.set i (some (.ref D))) H5 s7 C m6 := ⟨I7.unpinned, ⟨o, es, ep, pC, hd, hrest⟩, ce.free, ce.loc, ce.old, ce.cell, ce.pin, ce.fs⟩
  exact ⟨_, H5, ce'.done sb, q (.ref D) H5 sm rp⟩
end Sp
namespace Sp
open PySem PySem.Spec PyProof.Rows L2
mutual
def D.py : D -> PyData
  | .non => .none
  | .bl b => .bool b
  | .int i => .int i
  | .str x => .str x
  | .dct _ _ => .dict []
  | .typ _ => .dict []
  | .sn _ => .dict []
  | .obj _ _ _ => .dict []
  | .cls _ => .dict []
  | .tup l => .tuple (fX l)
  | .lst l => .list (fX l)
def fX : List D -> List PyData
  | [] => []
  | d :: l => d.py :: fX l
end
inductive Rs (α : Type) where
  | ok (a : α) (l : List Prop)
  | st
def aE : List Prop -> Prop
  | [] => True
  | p :: l => p /\ aE l
def Rs.bnd {α β : Type} (r : Rs α) (f : α -> Rs β) : Rs β :=
  match r with
  | .st => .st
  | .ok a l => match f a with
    | .st => .st
    | .ok b m => .ok b (l ++ m)
def MW {α : Type} : Option α -> Rs α
  | some a => .ok a []
  | none => .st
def gd (b : Bool) : List Prop -> List Prop
  | [] => []
  | m => [b = true -> aE m]
abbrev R1 := Rs (D × Nat)
def mk (d : D) (k : Nat) : R1 := .ok (d, kn d k) []
structure Fx where
  fn : Str -> Option (List D -> Rs D)
  con : Str -> Option D
  blt : Str -> Option (List D -> R1)
  itr : Str -> Option (List D -> Nat -> R1)
  mth : Str -> Option (D -> List D -> R1)
  mtt : Str -> Option (List D -> List D -> Nat -> Rs (List D))
  slf : D -> Option Int -> Option Int -> R1 := fun _ _ _ => .st
  fld : Str -> Str -> Bool := fun _ _ => false
  omt : Str -> Str -> Option (List D -> Rs D) := fun _ _ => none
def zw : Const -> Option D
  | .none => some .non
  | .bool b => some (.bl b)
  | .int i => some (.int i)
  | .str x => some (.str x)
  | _ => none
def cD : Nat := 2 ^ 9000
def bn (a b : Int) : Prop := a.natAbs < 2 ^ 64 \/ b.natAbs < 2 ^ 64 \/ (a.natAbs < cD /\ b.natAbs < cD) \/ (Builtin.Int.intBits a <= 2 ^ 22 /\ Builtin.Int.intBits b <= 2 ^ 22)
def fP (b : Int) : Prop := b ≠ 0 /\ b.natAbs < cD
def ud (a b : Int) : Prop := 0 <= b /\ b <= 1000 /\ a.natAbs < 2 ^ 64
def bL : Nat := 40000
def ye (op : Operator) (a b : Int) : R1 :=
  match op with
  | .Add => .ok (.int (a + b), 0) []
  | .Sub => .ok (.int (a - b), 0) []
  | .Mult => .ok (.int (a * b), 0) [bn a b]
  | .FloorDiv => .ok (.int (a.fdiv b), 0) [fP b]
  | .Mod => .ok (.int (a.fmod b), 0) [b ≠ 0]
  | .Pow => .ok (.int (a ^ b.toNat), 0) [ud a b]
  | _ => .st
def uC : Operator -> Bool
  | .Add => true
  | _ => false
def rD (op : Operator) (x y : D) (k j : Nat) : R1 :=
  match x, y with
  | .int a, .int b => ye op a b
  | .tup a, .tup b => if uC op = true then .ok (.tup (a ++ b), kn (.tup (a ++ b)) (kj k j)) [a.length + b.length <= bL] else .st
  | .lst a, .lst b => if uC op = true then .ok (.lst (a ++ b), 0) [ao (a ++ b) = true, a.length + b.length <= bL] else .st
  | _, _ => .st
def vd (op : UnaryOp) (x : D) : Option D :=
  match op, x with
  | .USub, .int a => some (.int (-a))
  | .Not, .bl b => some (.bl (!b))
  | _, _ => none
def jE (x y : D) : Bool := SeqAt.shaped x.py && SeqAt.shaped y.py
def cO (x y : D) : Bool := PyData.eqv x.py y.py
def de : List D -> Option (List Int)
  | [] => some []
  | .int i :: l => (de l).map (i :: ·)
  | _ :: _ => none
def uu (x : D) (l : List D) : Rs Bool := .ok (l.any fun y => cO y x) [jE (.tup l) x = true]
def D.isNon : D -> Bool
  | .non => true
  | _ => false
def d7 : D -> Option (List D)
  | .tup l => some l
  | .lst l => some l
  | _ => none
def ff (op : CmpOp) (a b : Int) : Option Bool :=
  match op with
  | .Lt => some (decide (a < b))
  | .LtE => some (decide (a <= b))
  | .Gt => some (decide (b < a))
  | .GtE => some (decide (b <= a))
  | _ => none
def ui (op : CmpOp) (x y : D) : Option Bool :=
  match x, y with
  | .int a, .int b => ff op a b
  | _, _ => none
def Rs.nt : Rs Bool -> Rs Bool
  | .ok b l => .ok (!b) l
  | .st => .st
def lM : D -> Option bI
  | .int i => some (.inl i)
  | .str x => some (.inr x)
  | _ => none
def jG (ks : List bI) (ds : List D) (k : bI) : Option D := ((ks.zip ds).find? fun p => decide (p.1 = k)).map (·.2)
def ej (ks : List bI) (k : bI) : Bool := ks.any fun j => decide (j = k)
def iO (ks : List bI) (k : bI) : List bI := cond (ej ks k) ks (ks ++ [k])
def dD {α : Type} (ks : List bI) (ds : List α) (k : bI) (d : α) : List α := cond (ej ks k) (List.zipWith (fun j e => if j = k then d else e) ks ds) (ds ++ [d])
def zi (x y : D) : Rs Bool :=
  match y with
  | .tup l => uu x l
  | .lst l => uu x l
  | .dct ks _ => (match lM x with | some k => .ok (ej ks k) [] | none => .st)
  | _ => .st
def iQ (op : CmpOp) (x y : D) : Rs Bool :=
  match op with
  | .Eq => .ok (cO x y) [jE x y = true]
  | .NotEq => .ok (!cO x y) [jE x y = true]
  | .In => zi x y
  | .NotIn => (zi x y).nt
  | .Is => (match y with | .non => .ok x.isNon [] | _ => .st)
  | .IsNot => (match y with | .non => .ok (!x.isNon) [] | _ => .st)
  | op => MW (ui op x y)
def D.ty0 : D -> Option String
  | .non => some "NoneType"
  | .bl _ => some "bool"
  | .int _ => some "int"
  | .str _ => some "str"
  | .dct _ _ => some "dict"
  | .tup _ => some "tuple"
  | .lst _ => some "list"
  | _ => none
def DC (x : D) (T : String) : Option Bool := x.ty0.map fun a => decide (a = T) || decide (a = "bool" /\ T = "int")
def tV (x : Str) : Option String :=
  if x = "int" then some "int" else if x = "bool" then some "bool" else if x = "str" then some "str" else if x = "tuple" then some "tuple" else if x = "list" then some "list" else none
def cR : List D -> Option (List Bool)
  | [] => some []
  | .bl i :: l => (cR l).map (i :: ·)
  | _ :: _ => none
def gj : List Str := ["len", "tuple", "list", "abs", "all", "sum", "isinstance", "set", "int", "bool", "str", "range", "zip", "enumerate", "any", "sorted", "min", "max", "reversed"]
def gb : Expr -> Bool
  | .Tuple .. => true
  | _ => false
def ee (e tg : Expr) : Bool :=
  match e with
  | .Call (.Name f _) _ _ _ => if f = "enumerate" \/ f = "zip" then gb tg else true
  | _ => true
def items : D -> Option (List D)
  | .lst l => some l
  | .tup l => some l
  | _ => none
def bv (ρ : ai) (x : Str) (y : D × Bool) : ai := fun z => if z = x then some y else ρ z
def cQ (sc : Scope) (x : Str) : Bool := sc.names.lookup x == some .local || sc.names.lookup x == some .cell
def aS (sc : Scope) : List Expr -> List D -> ai -> Option ai
  | [], [], ρ => some ρ
  | .Name x _ :: es, d :: ds, ρ => if cQ sc x = true then aS sc es ds (bv ρ x (d, false)) else none
  | _, _, _ => none
def bN (sc : Scope) (tg : Expr) (d : D) (ρ : ai) : Option ai :=
  match tg with
  | .Name x _ => if cQ sc x = true then some (bv ρ x (d, false)) else none
  | .Tuple es _ _ => (match d with | .tup ds => aS sc es ds ρ | _ => none)
  | _ => none
def lv (sc scope : Scope) : Bool :=
  decide (scope.kind = .function) && scope.names.all (fun y => decide (y.2 ≠ .local) || decide (scope.names.lookup y.1 = some .local)) &&
  scope.names.all (fun y => decide (y.2 ≠ .free) || cQ sc y.1 && decide (sc.names.lookup y.1 = some .cell) || decide (sc.names.lookup y.1 = some .free)) && decide ((scope.names.map (·.1)).Nodup)
def fk (step : D -> Rs (Option (D × Nat))) : List D -> Rs (List D × Nat)
  | [] => .ok ([], 0) []
  | d :: l => (step d).bnd fun r => (fk step l).bnd fun q => match r with
    | none => .ok q []
    | some p => .ok (p.1 :: q.1, kj p.2 q.2) []
def qH (x : D) (i : Int) (k : Nat) : R1 :=
  match d7 x with
  | some l => (match atI l i with | some d => mk d k | none => .st)
  | none => .st
def iF (p : D × Nat) (f : Int -> R1) : R1 :=
  match p.1 with
  | .int j => f j
  | _ => .st
def iq (p q : D × Nat) : R1 :=
  match p.1 with
  | .dct ks ds => (match lM q.1 with | some k => (match jG ks ds k with | some d => .ok (d, 0) [] | none => .st) | none => .st)
  | x => iF q fun j => qH x j p.2
def Ej (l : List D) (lo hi : Option Int) : List D := (l.drop (HT.sIx l.length 0 lo)).take (HT.sIx l.length l.length hi - HT.sIx l.length 0 lo)
def fZ (x : Str) : Bool := decide ((x == ("__debug__" : Str)) = false) && decide ((x == ("__classdict__" : Str)) = false)
def uT (b : Bool) (r : Rs Bool) : Rs Bool :=
  match r with
  | .ok c m => .ok (b && c) (gd b m)
  | .st => match b with | false => .ok false [] | true => .st
def y8 (b : Bool) (r : Rs Bool) : Rs Bool :=
  match r with
  | .ok c m => .ok (b || c) (gd (!b) m)
  | .st => match b with | true => .ok true [] | false => .st
mutual
def nQ (b : Bool) : D -> D -> D
  | .int x, .int y => .int (cond b x y)
  | .bl x, .bl y => .bl (cond b x y)
  | .tup x, .tup y => if x.length = y.length then .tup (js b x y) else cond b (.tup x) (.tup y)
  | x, y => cond b x y
def js (b : Bool) : List D -> List D -> List D
  | x :: l, y :: m => nQ b x y :: js b l m
  | l, m => cond b l m
end
def vX (t : Bool) (k j : Nat) : Nat := if k = j then k else cond t k j
def zk (b : Bool) (r s : R1) : R1 :=
  match r with
  | .st => (match b with | true => .st | false => s)
  | .ok p m => match s with
    | .st => (match b with | true => .ok p m | false => .st)
    | .ok q n => .ok (nQ b p.1 q.1, vX b p.2 q.2) (gd b m ++ gd (!b) n)
def iE (Φ : Fx) (x : Str) (sc : Scope) (ρ : ai) : R1 :=
  if fZ x = true then
    (if sc.names.lookup x = some .globalImplicit then (match Φ.con x with | some d => .ok (d, 0) [] | none => match tV x with | some T => .ok (.typ T, 0) [] | none => .st)
    else match ρ x with
      | some p => mk p.1 (cond p.2 2 1)
      | none => .st)
  else .st
def kH (Φ : Fx) (f : Str) (it : Bool) (ds : List D) (k : Nat) : R1 :=
  match Φ.fn f with
  | some F => (F ds).bnd fun d => .ok (d, 0) []
  | none => match (if it = true then Φ.itr f else none) with
    | some B => B ds k
    | none => match Φ.blt f with
      | some B => B ds
      | none => .st
def gH {α : Type} (p : D × Nat) (f : Bool -> Rs α) : Rs α :=
  match p.1 with
  | .bl j => f j
  | _ => .st
def DN (Φ : Fx) (x : D) (f : Str) : R1 :=
  match x with
  | .obj n ns ds => if Φ.fld n f = true then (match (ns.zip ds).lookup f with | some d => .ok (d, 0) [] | none => .st) else .st
  | _ => .st
def im : Expr -> Bool
  | .Call (.Name _ _) [] [] _ => false
  | _ => true
def xr (Φ : Fx) (a : Expr) (m : Str) (x : D) (ds : List D) : R1 :=
  match x with
  | .obj n ns es => if ns.contains m = false /\ im a = true /\ ds.length < 29 then (match Φ.omt n m with | some F => (F (.obj n ns es :: ds)).bnd fun d => .ok (d, 0) [] | none => .st) else .st
  | x => if im a = true then (match Φ.mth m with | some M => M x ds | none => .st) else .st
def Em (op op2 : CmpOp) (x y z : D) : R1 :=
  match x, y, z with
  | .int a, .int b, .int c => (match ff op a b, ff op2 b c with | some r, some r2 => .ok (.bl (r && r2), 0) [] | _, _ => .st)
  | _, _, _ => .st
mutual
def au (Φ : Fx) : Expr -> Bool -> Scope -> ai -> R1
  | .Constant c _ _, _, _, _ => (match zw c with | some d => .ok (d, 0) [] | none => .st)
  | .Name x _, _, sc, ρ => iE Φ x sc ρ
  | .BinOp a op b _, _, sc, ρ => (au Φ a false sc ρ).bnd fun p => (au Φ b false sc ρ).bnd fun q => rD op p.1 q.1 p.2 q.2
  | .UnaryOp op a _, _, sc, ρ => (au Φ a false sc ρ).bnd fun p => (match vd op p.1 with | some d => .ok (d, 0) [] | none => .st)
  | .BoolOp op es _, _, sc, ρ => if es.isEmpty = true then .st else (dh Φ op es sc ρ).bnd fun b => .ok (.bl b, 0) []
  | .Compare a [op] [b] _, _, sc, ρ => (au Φ a false sc ρ).bnd fun p => (au Φ b false sc ρ).bnd fun q => (iQ op p.1 q.1).bnd fun r => .ok (.bl r, 0) []
  | .Compare a [op, op2] [b, c] _, _, sc, ρ => (au Φ a false sc ρ).bnd fun p => (au Φ b false sc ρ).bnd fun q => (au Φ c false sc ρ).bnd fun t => Em op op2 p.1 q.1 t.1
  | .IfExp c a b _, _, sc, ρ => (au Φ c false sc ρ).bnd fun p => gH p fun t => zk t (au Φ a false sc ρ) (au Φ b false sc ρ)
  | .Tuple es _ _, _, sc, ρ => (bX Φ es sc ρ).bnd fun p => if p.1.length <= bL then mk (.tup p.1) p.2 else .st
  | .Dict [] [] _, _, _, _ => .ok (.dct [] [], 0) []
  | .List es _, _, sc, ρ => (bX Φ es sc ρ).bnd fun p => if p.1.length <= bL /\ p.2 <= 1 then .ok (.lst p.1, p.2) [] else .st
  | .Subscript a (.Slice lo hi none _) _, _, sc, ρ => (au Φ a false sc ρ).bnd fun p => (oT Φ lo sc ρ).bnd fun l => (oT Φ hi sc ρ).bnd fun h => Φ.slf p.1 l h
  | .Subscript a i _, _, sc, ρ => (au Φ a false sc ρ).bnd fun p => (au Φ i false sc ρ).bnd fun q => iq p q
  | .Call (.Name f _) args [] _, it, sc, ρ =>
    if sc.names.lookup f = some .globalImplicit then (bX Φ args sc ρ).bnd fun p => kH Φ f it p.1 p.2
    else .st
  | .Attribute (.Name x _) f _, _, sc, ρ => (iE Φ x sc ρ).bnd fun p => DN Φ p.1 f
  | .Call (.Attribute a m ap) args [] cp, _, sc, ρ => if (ap.endLine == cp.line) = true then (au Φ a false sc ρ).bnd fun p => (bX Φ args sc ρ).bnd fun q => xr Φ a m p.1 q.1 else .st
  | .ListComp elt [⟨tg, iter, ifs, 0⟩] scope _, _, sc, ρ =>
    if lv sc scope = true then (au Φ iter true sc ρ).bnd fun p => (match items p.1 with
      | some ds => if ee iter tg = true then
          (Rs.ok () [ds.length <= bL, ao ds = true \/ p.2 <= 1]).bnd fun _ => (fk (fun d => match bN scope tg d (flt scope ρ) with
            | none => .st
            | some ρ' => (dh Φ .And ifs scope ρ').bnd fun b => cond b ((au Φ elt false scope ρ').bnd fun r => .ok (some r) []) (.ok none [])) ds).bnd fun q => if q.2 <= 1 then .ok (.lst q.1, q.2) [] else .st
        else .st
      | none => .st)
    else .st
  | _, _, _, _ => .st
def bX (Φ : Fx) : List Expr -> Scope -> ai -> Rs (List D × Nat)
  | [], _, _ => .ok ([], 0) []
  | e :: es, sc, ρ => (au Φ e false sc ρ).bnd fun p => (bX Φ es sc ρ).bnd fun q => .ok (p.1 :: q.1, kj p.2 q.2) []
def dh (Φ : Fx) : BoolOp -> List Expr -> Scope -> ai -> Rs Bool
  | .And, [], _, _ => .ok true []
  | .Or, [], _, _ => .ok false []
  | .And, e :: es, sc, ρ => (au Φ e false sc ρ).bnd fun p => gH p fun b => uT b (dh Φ .And es sc ρ)
  | .Or, e :: es, sc, ρ => (au Φ e false sc ρ).bnd fun p => gH p fun b => y8 b (dh Φ .Or es sc ρ)
def oT (Φ : Fx) : Option Expr -> Scope -> ai -> Rs (Option Int)
  | none, _, _ => .ok none []
  | some e, sc, ρ => (au Φ e false sc ρ).bnd fun p => (match p.1 with | .int i => .ok (some i) [] | _ => .st)
end
theorem n5 {Φ : Fx} {op : BoolOp} {es : List Expr} {p : Pos} {it : Bool} {sc : Scope} {ρ : ai} : au Φ (.BoolOp op es p) it sc ρ = (if es.isEmpty = true then .st else (dh Φ op es sc ρ).bnd fun b => .ok (.bl b, 0) []) := rfl
theorem iL {Φ : Fx} {f : Str} {args : List Expr} {p q : Pos} {it : Bool} {sc : Scope} {ρ : ai} : au Φ (.Call (.Name f p) args [] q) it sc ρ = (if sc.names.lookup f = some .globalImplicit then (bX Φ args sc ρ).bnd fun p => kH Φ f it p.1 p.2 else .st) := rfl
theorem rf {Φ : Fx} {a : Expr} {m : Str} {args : List Expr} {ap cp : Pos} {it : Bool} {sc : Scope} {ρ : ai} : au Φ (.Call (.Attribute a m ap) args [] cp) it sc ρ = (if (ap.endLine == cp.line) = true then (au Φ a false sc ρ).bnd fun p => (bX Φ args sc ρ).bnd fun q => xr Φ a m p.1 q.1 else .st) := rfl
theorem n4 {Φ : Fx} {elt tg iter : Expr} {ifs : List Expr} {scope : Scope} {q : Pos} {it : Bool} {sc : Scope} {ρ : ai} : au Φ (.ListComp elt [⟨tg, iter, ifs, 0⟩] scope q) it sc ρ = (if lv sc scope = true then (au Φ iter true sc ρ).bnd fun p => (match items p.1 with
      | some ds => if ee iter tg = true then
          (Rs.ok () [ds.length <= bL, ao ds = true \/ p.2 <= 1]).bnd fun _ => (fk (fun d => match bN scope tg d (flt scope ρ) with
            | none => .st
            | some ρ' => (dh Φ .And ifs scope ρ').bnd fun b => cond b ((au Φ elt false scope ρ').bnd fun r => .ok (some r) []) (.ok none [])) ds).bnd fun q => if q.2 <= 1 then .ok (.lst q.1, q.2) [] else .st
        else .st
      | none => .st)
    else .st) := rfl
end Sp
namespace Sp
open PySem PySem.Spec PyProof.Rows L2
inductive Fl where
  | nx (ρ : ai) | rt (d : D) | bk (ρ : ai) | ct (ρ : ai)
def jx : Expr -> Bool
  | .ListComp .. => true
  | .SetComp .. => true
  | .DictComp .. => true
  | _ => false
def t8 (l : List D) (i : Int) (d : D) : Option (List D) := (ln l.length i).map fun j => l.set j d
def jr (f : ai -> Rs Fl) : Fl -> Rs Fl
  | .nx ρ => f ρ
  | .ct ρ => f ρ
  | .bk ρ => .ok (.nx ρ) []
  | .rt d => .ok (.rt d) []
def dU (bind : D -> ai -> Option ai) (body : ai -> Rs Fl) : List D -> ai -> Rs Fl
  | [], ρ => .ok (.nx ρ) []
  | d :: l, ρ => match bind d ρ with
    | none => .st
    | some ρ1 => (body ρ1).bnd (jr (dU bind body l))
def kZ (test : ai -> Rs Bool) (body : ai -> Rs Fl) : Nat -> ai -> Rs Fl
  | 0, _ => .st
  | n + 1, ρ => (test ρ).bnd fun b => cond b ((body ρ).bnd (jr (kZ test body n))) (.ok (.nx ρ) [])
def demX (x : Str) (ρ : ai) : ai := fun y => if y = x then (ρ y).map fun p => (p.1, false) else ρ y
def demA (x : Str) (ρ : ai) : ai := fun y => if y = x then (ρ y).map fun p => (p.1, p.2 && p.1.lless) else ρ y
def demL : List Expr -> ai -> ai
  | [], ρ => ρ
  | .Name x _ :: es, ρ => demL es (demA x ρ)
  | .Subscript (.Name x _) _ _ :: es, ρ => demL es (demA x ρ)
  | _ :: es, ρ => demL es ρ
def demote (e : Expr) (ρ : ai) : ai :=
  match e with
  | .Name x _ => demX x ρ
  | .Subscript (.Name x _) _ _ => demX x ρ
  | .Call _ args _ _ => demL args ρ
  | _ => ρ
def lH (sc : Scope) (x : Str) (p : D × Nat) (ρ : ai) : Rs Fl :=
  if cQ sc x = true then
    match p.2 with
    | 0 => .ok (.nx (bv ρ x (p.1, true))) []
    | 1 => .ok (.nx (bv ρ x (p.1, false))) []
    | _ => .st
  else .st
def nO (ρ : ai) (x : Str) (f : List D -> Rs Fl) : Rs Fl :=
  match ρ x with
  | some (.lst l, true) => if fZ x = true then f l else .st
  | _ => .st
def mv (sc : Scope) (x y : Str) (px py : Pos) (a b : Expr) : Bool :=
  sc.names.lookup x == some .local && sc.names.lookup y == some .local && (px.line == py.line) && !decide (x = y) && !([a, b].all (foldedForSure 8)) && !([a, b].all (constantsAlone 8))
def mP (Φ : Fx) (es : List Expr) (e : Expr) (sc : Scope) (ρ : ai) : Rs Fl :=
  match es, e with
  | [.Name x px, .Name y py], .Tuple [a, b] _ _ => if mv sc x y px py a b = true then (bX Φ [a, b] sc ρ).bnd fun p => (match p.1 with
      | [u, v] => if ao [u, v] = true \/ p.2 <= 1 then .ok (.nx (bv (bv ρ x (u, false)) y (v, false))) [] else .st
      | _ => .st) else .st
  | _, _ => .st
def rz (sc : Scope) (es : List Expr) (e : Expr) : Bool :=
  match es, e with
  | [.Name x _, .Name _ _], .Tuple [_, _] _ _ => sc.names.lookup x == some .cell
  | _, _ => false
def pQ (sc : Scope) (es : List Expr) (e : Expr) : Bool := gb e && !rz sc es e
def uh (sc : Scope) (es : List Expr) (p : D × Nat) : Bool :=
  match es, p.1, p.2 with
  | [.Name x _, .Name y _], .tup [d1, d2], 0 => d1.lless && !d2.lless && !decide (x = y) && cQ sc x && cQ sc y
  | _, _, _ => false
def uc (es : List Expr) (p : D × Nat) (ρ : ai) : ai :=
  match es, p.1 with
  | [.Name x _, .Name y _], .tup [d1, d2] => bv (bv ρ y (d2, true)) x (d1, false)
  | _, _ => ρ
def Hh (_ : Expr) : Bool := true
def pU (ρ : ai) (x : Str) (i d : D) : Rs Fl :=
  match ρ x with
  | some (.lst l, true) => (match i with | .int j => if fZ x = true then (match t8 l j d with | some l' => .ok (.nx (bv ρ x (.lst l', true))) [ao l = true, d.lless = true] | none => .st) else .st | _ => .st)
  | some (.dct ks ds, true) => (match lM i with | some k => if fZ x = true then .ok (.nx (bv ρ x (.dct (iO ks k) (dD ks ds k d), true))) [d.lless = true, ks.length < bL] else .st | none => .st)
  | _ => .st
def mS (Φ : Fx) (tgs : List Expr) (e : Expr) (sc : Scope) (ρ : ai) : Rs Fl :=
  match tgs with
  | [.Name x _] => (au Φ e false sc ρ).bnd fun p => lH sc x p ρ
  | [.Tuple es _ _] => if pQ sc es e = true then mP Φ es e sc ρ else (au Φ e false sc ρ).bnd fun p => if uh sc es p = true then .ok (.nx (uc es p ρ)) [] else (match d7 p.1 with
      | some ds => if ao ds = true \/ p.2 <= 1 then (match aS sc es ds ρ with | some ρ' => .ok (.nx ρ') [] | none => .st) else .st
      | none => .st)
  | [.Subscript (.Name x _) i _] => if Hh e = true then (au Φ e false sc ρ).bnd fun p => (au Φ i false sc ρ).bnd fun q => pU ρ x q.1 p.1
    else .st
  | _ => .st
def yq (op : Operator) (a b : Int) : R1 :=
  match op with
  | .Add => .ok (.int (a + b), 0) []
  | .Sub => .ok (.int (a - b), 0) []
  | .Mult => .ok (.int (a * b), 0) [bn a b]
  | .FloorDiv => .ok (.int (a.fdiv b), 0) [fP b]
  | _ => .st
def mR (Φ : Fx) (t : Expr) (op : Operator) (e : Expr) (sc : Scope) (ρ : ai) : Rs Fl :=
  match t with
  | .Name x _ => if cQ sc x = true then (match ρ x with
      | some p => iF (p.1, 0) (fun a => (au Φ e false sc ρ).bnd fun q => iF q fun b => yq op a b) |>.bnd fun r => .ok (.nx (bv ρ x (r.1, true))) []
      | none => .st) else .st
  | _ => .st
def mQ (Φ : Fx) (e : Expr) (sc : Scope) (ρ : ai) : Rs Fl :=
  match e with
  | .Call (.Attribute (.Name x _) m ap) args [] cp => if (ap.endLine == cp.line) = true then (bX Φ args sc ρ).bnd fun p => (match Φ.mtt m with
      | some M => nO ρ x fun l => (M l p.1 p.2).bnd fun l' => .ok (.nx (bv ρ x (.lst l', true))) []
      | none => .st) else .st
  | .Call (.Name f p) args ks cp => (au Φ (.Call (.Name f p) args ks cp) false sc ρ).bnd fun _ => .ok (.nx ρ) []
  | _ => .st
def dz (ρ : ai) : ai := fun y => (ρ y).map fun p => (p.1, false)
def zb : Expr -> Bool
  | .ListComp elt _ _ _ => jx elt
  | _ => false
def za : Expr -> Bool
  | .Tuple es _ _ => es.any zb
  | e => zb e
def rtR (e : Expr) (ρ : ai) : ai := cond (za e) (dz ρ) ρ
def t9 (p : D × Nat) : Rs Fl := if p.2 = 0 \/ p.2 = 2 then .ok (.rt p.1) [] else .st
mutual
def dg (Φ : Fx) : Stmt -> Scope -> ai -> Rs Fl
  | .Return (some e) _, sc, ρ => (au Φ e false sc ρ).bnd t9
  | .Return none _, _, _ => .ok (.rt .non) []
  | .Pass _, _, ρ => .ok (.nx ρ) []
  | .Break _, _, ρ => .ok (.bk ρ) []
  | .Continue _, _, ρ => .ok (.ct ρ) []
  | .Assign tgs e _, sc, ρ => mS Φ tgs e sc ρ
  | .AugAssign t op e _, sc, ρ => mR Φ t op e sc ρ
  | .Expr e _, sc, ρ => mQ Φ e sc ρ
  | .If c a b _, sc, ρ => (au Φ c false sc ρ).bnd fun p => gH p fun t => cond t (az Φ a sc ρ) (az Φ b sc ρ)
  | .For tg it body els _, sc, ρ => if els.isEmpty = true then (au Φ it true sc (demote it ρ)).bnd fun p => (match items p.1 with
      | some ds => if p.2 <= 1 /\ ee it tg = true then dU (bN sc tg) (az Φ body sc) ds (demote it ρ) else .st
      | none => .st)
    else .st
  | .While c body els _, sc, ρ => if els.isEmpty = true then kZ (fun ρ => (au Φ c false sc ρ).bnd fun p => gH p fun b => .ok b []) (az Φ body sc) bL ρ else .st
  | _, _, _ => .st
def az (Φ : Fx) : List Stmt -> Scope -> ai -> Rs Fl
  | [], _, ρ => .ok (.nx ρ) []
  | s :: ss, sc, ρ => (dg Φ s sc ρ).bnd fun
    | .nx ρ' => az Φ ss sc ρ'
    | f => .ok f []
end
theorem nZ {Φ : Fx} {tg it : Expr} {body els : List Stmt} {q : Pos} {sc : Scope} {ρ : ai} : dg Φ (.For tg it body els q) sc ρ = (if els.isEmpty = true then (au Φ it true sc (demote it ρ)).bnd fun p => (match items p.1 with
      | some ds => if p.2 <= 1 /\ ee it tg = true then dU (bN sc tg) (az Φ body sc) ds (demote it ρ) else .st
      | none => .st)
    else .st) := rfl
theorem q9 {Φ : Fx} {c : Expr} {body els : List Stmt} {q : Pos} {sc : Scope} {ρ : ai} : dg Φ (.While c body els q) sc ρ = (if els.isEmpty = true then kZ (fun ρ => (au Φ c false sc ρ).bnd fun p => gH p fun b => .ok b []) (az Φ body sc) bL ρ else .st) := rfl
def ey : List Str -> List D -> ai
  | p :: ps, d :: ds => fun z => if z = p then some (d, false) else ey ps ds z
  | _, _ => fun _ => none
def bP (Φ : Fx) (sc : Scope) (ps : List Str) (body : List Stmt) (ds : List D) : Rs D :=
  if ds.length = ps.length then (az Φ body sc (ey ps ds)).bnd fun
    | .rt d => .ok d []
    | .nx _ => .ok .non []
    | _ => .st
  else .st
def yk (ds : List D) : R1 :=
  match ds with
  | [.sn n] => .ok (.int n, 0) []
  | [x] => (match d7 x with | some l => .ok (.int l.length, 0) [] | none => .st)
  | _ => .st
def j6 : List String := ["int", "bool", "str", "tuple", "list", "dict"]
def ym (ds : List D) : R1 :=
  match ds with
  | [.obj m _ _, .cls n] => if m = n then .ok (.bl true, 0) [] else if m ∈ El then .ok (.bl (pR m n), 0) [] else .st
  | [x, .typ T] => if T ∈ j6 then (match DC x T with | some b => .ok (.bl b, 0) [] | none => .st) else .st
  | _ => .st
def rG (ds : List D) : R1 :=
  match ds with
  | [x] => (match d7 x with | some l => .ok (.tup l, 0) [ao l = true] | none => .st)
  | _ => .st
def uR (ds : List D) : R1 :=
  match ds with
  | [x] => (match d7 x with | some l => .ok (.lst l, 0) [ao l = true] | none => .st)
  | _ => .st
def yp (ds : List D) : R1 :=
  match ds with
  | [.int i] => .ok (.int (if i < 0 then -i else i), 0) []
  | _ => .st
def yo (ds : List D) : R1 :=
  match ds with
  | [.lst l] => (match cR l with | some bs => .ok (.bl (bs.all id), 0) [] | none => .st)
  | _ => .st
def yi (ds : List D) : R1 :=
  match ds with
  | [.lst l] => (match de l with | some ns => .ok (.int ns.sum, 0) [] | none => .st)
  | _ => .st
def yn (ds : List D) : R1 :=
  match ds with
  | [.int i] => .ok (.int i, 0) []
  | [.bl b] => .ok (.int (cond b 1 0), 0) []
  | _ => .st
def jB (ds : List D) (_ : Nat) : R1 :=
  match ds with
  | [.int j] => .ok (.lst ((List.range j.toNat).map fun i => .int (i : Nat)), 0) [-4611686018427387904 <= j, j <= bL]
  | [.int i, .int j] => .ok (.lst ((List.range (j - i).toNat).map fun m => .int (i + (m : Nat))), 0) [-4611686018427387904 <= i, i <= 4611686018427387000, -4611686018427387904 <= j, j - i <= 800]
  | _ => .st
def iN : Nat -> List D -> List D
  | _, [] => []
  | n, x :: xs => .tup [.int (n : Nat), x] :: iN (n + 1) xs
theorem kF : ∀ (l : List D) (n : Nat), iN n l = l.mapIdx fun i x => .tup [.int ((n + i : Nat) : Int), x]
  | [], _ => rfl
  | x :: l, n => by
    rw [iN, kF l (n + 1), List.mapIdx_cons]
    simp only [Nat.add_zero]
    congr 1
    congr 1
    funext i y
    rw [show n + 1 + i = n + (i + 1) by omega]
def uD (ds : List D) (k : Nat) : R1 :=
  match ds with
  | [.tup a] => .ok (.lst (iN 0 a), 0) [ao a = true]
  | [.lst a] => .ok (.lst (iN 0 a), k) [ao a = true]
  | _ => .st
def xM (ds : List D) (k : Nat) : R1 :=
  match ds with
  | [.tup a, .tup b] => .ok (.lst (List.zipWith (fun x y => .tup [x, y]) a b), 0) [ao a = true, ao b = true]
  | [x, y] => (match d7 x, d7 y with | some a, some b => .ok (.lst (List.zipWith (fun x y => .tup [x, y]) a b), k) [ao a = true, ao b = true] | _, _ => .st)
  | _ => .st
def bT (_ : D) (_ _ : Option Int) : R1 := .st
def ky (l ds : List D) (k : Nat) : Rs (List D) :=
  match ds with
  | [d] => .ok (l ++ [d]) [d.lless = true \/ k = 0, l.length < bL]
  | _ => .st
def Tb (l : List (Str × (List D -> Rs D))) (c : List (Str × D)) (b : List (Str × (List D -> R1))) (i : List (Str × (List D -> Nat -> R1))) (m : List (Str × (D -> List D -> R1))) (t : List (Str × (List D -> List D -> Nat -> Rs (List D)))) (sf : D -> Option Int -> Option Int -> R1) : Fx :=
  { slf := sf, fn := fun g => l.lookup g, con := fun x => c.lookup x, blt := fun x => b.lookup x, itr := fun x => i.lookup x, mth := fun x => m.lookup x, mtt := fun x => t.lookup x }
end Sp
namespace Sp
open PySem PySem.Spec PyProof.Rows L2
variable {X : Cx}
theorem km {k : Int} {n : Nat} (h : k.natAbs < 2 ^ n) : Builtin.Int.intBits k <= n := by
  unfold Builtin.Int.intBits
  split
  . exact Nat.zero_le _
  . rename_i h0
    have : k.natAbs.log2 < n := by
      rcases Nat.eq_zero_or_pos k.natAbs with h1 | hp
      . exact absurd (by simpa using h1) (by simpa using h0)
      . exact (Nat.log2_lt (Nat.ne_of_gt hp)).mpr h
    omega
theorem cX : ∀ {l m : List Prop}, aE (l ++ m) ↔ aE l /\ aE m
  | [], m => by simp [aE]
  | p :: l, m => by
    show p /\ aE (l ++ m) ↔ (p /\ aE l) /\ aE m
    rw [cX, and_assoc]
theorem aK {α β : Type} {r : Rs α} {f : α -> Rs β} {b : β} {l : List Prop} (h : r.bnd f = .ok b l) (hp : aE l) : ∃ a l1 l2, r = .ok a l1 /\ aE l1 /\ f a = .ok b l2 /\ aE l2 := by
  unfold Rs.bnd at h
  split at h
  . cases h
  . rename_i a l1
    split at h
    . cases h
    . rename_i b' m e
      cases h
      obtain ⟨h1, h2⟩ := cX.mp hp
      exact ⟨a, l1, m, rfl, h1, e, h2⟩
theorem mL {b : Bool} {m : List Prop} (h : aE (gd b m)) (hb : b = true) : aE m := by
  cases m with
  | nil => exact True.intro
  | cons p l => exact h.1 hb
theorem Gm {a b : Int} (h : Builtin.Int.intBits a <= 2 ^ 22) (g : Builtin.Int.intBits b <= 2 ^ 22) : IntMulOk a b := by
  have h' : Builtin.Int.intTooBig (Builtin.Int.intBits a + Builtin.Int.intBits b) = false := by
    unfold Builtin.Int.intTooBig bitsLine; exact decide_eq_false (by omega)
  unfold IntMulOk; rw [h']; simp
theorem qz {a b : Int} (h : bn a b) : IntMulOk a b := by
  rcases h with h | h | ⟨h, g⟩ | ⟨h, g⟩
  . exact .of_left (km h)
  . exact .of_right (km h)
  . exact IntMulOk.of_bits (Nat.le_trans (km h) (by decide)) (Nat.le_trans (km g) (by decide))
  . exact Gm h g
theorem Az : cx X (binaryOp .Mult) (rI (fun i j => bn i j) fun i j => .int (i * j)) := sU fun _ _ _ _ _ _ _ hc q => mul_int q (qz hc)
theorem xm : cx X (binaryOp .FloorDiv) (rI (fun _ j => j ≠ 0 /\ j.natAbs < cD) fun i j => .int (i.fdiv j)) := sU fun i j _ _ _ _ _ hc q => floordiv_int hc.1 q (.inl (PyProof.noPylong_of_log2 (by
  rcases Nat.eq_zero_or_pos j.natAbs with h1 | hp
  . exact absurd (by simpa using h1) hc.1
  . exact (Nat.log2_lt (Nat.ne_of_gt hp)).mpr hc.2)))
mutual
theorem cU {pins : List (Addr × Obj)} {σ : L2.St} {H : Hp} {s : Shared} (I : aj X pins σ H s) {P : aZ} : ∀ {d : D} {v : V} {u : Value}, d.py.canLay0 = true -> ag X.K H P d v -> aP v u -> ∃ as, Reads s.heap u d.py as
  | .non, v, u, _, h, r => by
    rw [ag] at h; subst h; cases (show u = Value.none from r); rw [D.py]; exact ⟨_, .none⟩
  | .bl b, v, u, _, h, r => by rw [ag] at h; subst h; cases (show u = Value.bool b from r); rw [D.py]; exact ⟨_, .bool b⟩
  | .int i, v, u, _, h, r => by rw [ag] at h; subst h; obtain ⟨t, e⟩ := (show ∃ t, u = Value.int i t from r); subst e; rw [D.py]; exact ⟨_, .int i t⟩
  | .str x, v, u, _, h, r => by rw [ag] at h; subst h; obtain ⟨t, e⟩ := (show ∃ t, u = Value.str x t from r); subst e; rw [D.py]; exact ⟨_, .str x t⟩
  | .dct _ _, v, u, c, h, r => by rw [D.py] at c; simp [PyData.canLay0] at c
  | .typ _, v, u, c, h, r => by rw [D.py] at c; simp [PyData.canLay0] at c
  | .sn _, v, u, c, h, r => by rw [D.py] at c; simp [PyData.canLay0] at c
  | .obj _ _ _, v, u, c, h, r => by rw [D.py] at c; simp [PyData.canLay0] at c
  | .cls _, v, u, c, h, r => by rw [D.py] at c; simp [PyData.canLay0] at c
  | .tup l, v, u, c, h, r => by
    rw [ag] at h
    obtain ⟨a, vs, rfl, h, q⟩ := h
    cases (show u = Value.ref a from r)
    obtain ⟨its, rv, ht, _⟩ := I.tuple h
    obtain ⟨o, e1, e2, n, e3⟩ := ht
    rw [D.py] at c ⊢
    obtain ⟨as, ra⟩ := jl I (by simpa [PyData.canLay0] using c) q rv
    exact ⟨as, .tuple e1 e2 e3 (by simpa using ra)⟩
  | .lst l, v, u, c, h, r => by
    rw [ag] at h
    obtain ⟨a, vs, b, rfl, h, _, q⟩ := h
    cases (show u = Value.ref a from r)
    have hs : bS X.K H a vs := h.sq
    obtain ⟨its, rv, ht, _⟩ := I.list hs
    obtain ⟨o, n, e1, e2, _, e3⟩ := ht
    rw [D.py] at c ⊢
    obtain ⟨as, ra⟩ := jl I (by simpa [PyData.canLay0] using c) q rv
    exact ⟨_, .list e1 e2 e3 (by simpa using ra)⟩
theorem jl {pins : List (Addr × Obj)} {σ : L2.St} {H : Hp} {s : Shared} (I : aj X pins σ H s) {P : aZ} : ∀ {l : List D} {vs : List V} {us : List Value}, PyData.canLayAll0 (fX l) = true -> af X.K H P l vs -> aF vs us -> ∃ as, ReadsAll s.heap us (fX l) as
  | [], vs, us, _, h, r => by rw [af] at h; subst h; cases r; rw [fX]; exact ⟨_, .nil⟩
  | d :: l, vs, us, c, h, r => by
    rw [af] at h
    obtain ⟨v, vr, rfl, h1, h2⟩ := h
    cases r with
    | cons r1 r2 =>
      rw [fX, PyData.canLayAll0, Bool.and_eq_true] at c
      obtain ⟨as, ra⟩ := cU I c.1 h1 r1
      obtain ⟨bs, rb⟩ := jl I c.2 h2 r2
      rw [fX]
      exact ⟨_, .cons ra rb⟩
end
def zE (X : Cx) (f : Value -> Value -> Sem Value) (x y z : D) (k j l : Nat) : Prop :=
  ∃ r : R2, cx X f r /\ ∀ ow H0 H2 v u (Q : VK), dW ow H0 -> ay H0 H2 -> ag X.K H2 (Kp ow H0 k) x v -> ag X.K H2 (Kp ow H0 j) y u -> (∀ w H', ay H2 H' -> ag X.K H' (Kp ow H0 l) z w -> Q w H') -> r v u H2 Q
theorem cf {H : Hp} {p : Addr} {o : HO} (h : H p = none) : ay H (aU H p o) := fun b x e => by rw [aC (aX e h)]; exact e
theorem ag.kn {K : W.Frag} {ow : Ow} {H0 H : Hp} {d : D} {k : Nat} {v : V} (h : ag K H (Kp ow H0 k) d v) : ag K H (Kp ow H0 (Sp.kn d k)) d v := by
  unfold Sp.kn
  by_cases f : d.lless = true
  . rw [if_pos f]; exact h.flat _ f
  . rw [if_neg f]; exact h
theorem ga : bL <= sizeLine := by rw [sizeLine_eq]; decide
theorem oJ : bL < sizeLine := by rw [sizeLine_eq]; decide
theorem ki {f : Value -> Value -> Sem Value} {a b : Int} {g : Int -> Int -> Int} {C : Int -> Int -> Prop} {k j : Nat} (h : cx X f (rI C fun i j => .int (g i j))) (hc : C a b) : zE X f (.int a) (.int b) (.int (g a b)) k j 0 :=
  ⟨_, h, fun ow H0 H2 v u Q o s rx ry q => by
    rw [ag] at rx ry; subst rx ry
    exact ⟨a, b, rfl, rfl, hc, q _ _ (ay.refl _) (by rw [ag])⟩⟩
theorem qw {f : Value -> Value -> Sem Value} {a b : Int} {g : Int -> Int -> Int} {k j : Nat} (h : cx X f (iX fun i j => .int (g i j))) : zE X f (.int a) (.int b) (.int (g a b)) k j 0 :=
  ⟨_, h, fun ow H0 H2 v u Q o s rx ry q => by
    rw [ag] at rx ry; subst rx ry
    exact ⟨a, b, rfl, rfl, q _ _ (ay.refl _) (by rw [ag])⟩⟩
theorem iY : ∀ {a b : List D}, ao (a ++ b) = (ao a && ao b)
  | [], b => by simp [ao]
  | x :: a, b => by rw [List.cons_append, ao, ao, iY, Bool.and_assoc]
theorem BF {op : Operator} {a b : Int} {z : D} {k j l : Nat} {o : List Prop} (h : ye op a b = .ok (z, l) o) (hp : aE o) : zE X (binaryOp op) (.int a) (.int b) z k j l := by
  unfold ye at h
  split at h
  . cases h; exact qw Db
  . cases h; exact qw C8
  . cases h; exact ki Az hp.1
  . cases h; exact ki xm hp.1
  . cases h; exact ki AB hp.1
  . cases h
    have c : ud a b := hp.1
    exact ki C9 ⟨c.1, by have := c.2.1; omega, c.2.2⟩
  . cases h
theorem qO {op : Operator} (h : uC op = true) : op = .Add := by cases op <;> first | rfl | cases h
theorem xn : cx X (binaryOp .Add) (fun x y H Q => ∃ a b ys, x = .ref a /\ y = .ref b /\ bW X.K H a [] /\ bW X.K H b ys /\ Q (.ref b) H) := by
  intro pins s σ H x y v u Q I rx ry h
  obtain ⟨a, b, ys, rfl, rfl, ha, hb, q⟩ := h
  cases rx
  cases ry
  obtain ⟨its, r1, p1, _⟩ := I.tuple ha
  obtain ⟨its2, r2, p2, _⟩ := I.tuple hb
  cases r1
  obtain ⟨⟨cls, dd, data, sl⟩, ho, hc, n, hd⟩ := id p1
  obtain ⟨⟨cls2, dd2, data2, sl2⟩, ho2, hc2, n2, hd2⟩ := id p2
  simp only at hc hd hc2 hd2
  subst hc hd hc2 hd2
  exact concat_meets ⟨_, ho, rfl⟩ ⟨_, ho2, rfl⟩ noFill_tuple_add seq_tuple_add PySem.F.slot_tuple_add PySem.F.entry_tuple_add (PySem.F.args_tuple_add_2 _ _)
    (tuple_addW0 a b _ its2.toArray n n2 dd dd2 sl sl2 (by rfl)) ⟨ho, ho2, ⟨.ref b, H, I, rfl, q⟩⟩
theorem AE : cx X (binaryOp .Add) (fun x y H Q => ∃ l b xs zs, x = .ref l /\ y = .ref b /\ bS X.K H l xs /\ bS X.K H b zs /\ xs.length + zs.length <= sizeLine /\ ∀ p, H p = none -> Q (.ref p) (aU H p (.lst (xs ++ zs)))) := by
  intro pins s σ H x y v u Q I rx ry h
  obtain ⟨l, b, xs, zs, rfl, rfl, hH, hB, hz, q⟩ := h
  cases rx
  cases ry
  obtain ⟨its, r, ⟨⟨cls, dd, data, sl⟩, n, ho, hc, _, hd⟩, z⟩ := I.list hH
  obtain ⟨its2, r2, ⟨⟨cls2, dd2, data2, sl2⟩, n2, ho2, hc2, _, hd2⟩, z2⟩ := I.list hB
  simp only at hc hd hc2 hd2
  subst hc hd hc2 hd2
  have l1 := r.length
  have l2 := r2.length
  refine concat_meets ⟨_, ho, rfl⟩ ⟨_, ho2, rfl⟩ noFill_list_add seq_list_add PySem.F.slot_list_add PySem.F.entry_list_add (PySem.F.args_list_add_2 _ _) (list_addW l b its.toArray its2.toArray n n2 dd dd2 sl sl2 (by rw [List.size_toArray, List.size_toArray]; omega)) ⟨ho, ho2, ?_⟩
  have ea : its.toArray ++ its2.toArray = (its ++ its2).toArray := by simp
  rw [ea]
  exact ⟨.ref _, _, I.lnew (t' := s.toks) (r.append r2) (by rw [List.length_append]; omega), rfl, q _ I.fresh⟩
theorem EU {op : Operator} {x y z : D} {k j l : Nat} {o : List Prop} (h : rD op x y k j = .ok (z, l) o) (hp : aE o) : zE X (binaryOp op) x y z k j l := by
  unfold rD at h
  split at h
  . exact BF h hp
  . rename_i a b
    split at h
    . rename_i c
      cases qO c
      cases h
      cases a with
      | nil =>
        refine ⟨_, xn, fun ow H0 H2 v u Q o s rx ry q => ?_⟩
        rw [ag] at rx ry
        obtain ⟨pa, va, rfl, ha, ra⟩ := rx
        obtain ⟨pb, vb, rfl, hb, rb⟩ := ry
        have rb' := rb.imp (Kp.joinR o k j)
        cases ra
        refine ⟨pa, pb, vb, rfl, rfl, ha, hb, q _ _ (ay.refl _) (ag.kn ?_)⟩
        rw [ag]
        exact ⟨pb, vb, rfl, hb, rb'⟩
      | cons a0 a =>
        refine ⟨_, AC, fun ow H0 H2 v u Q o s rx ry q => ?_⟩
        rw [ag] at rx ry
        obtain ⟨pa, va, rfl, ha, ra⟩ := rx
        obtain ⟨pb, vb, rfl, hb, rb⟩ := ry
        have ra' := ra.imp (Kp.joinL o k j)
        have rb' := rb.imp (Kp.joinR o k j)
        have la := ra.length
        have lb := rb.length
        refine ⟨pa, pb, va, vb, rfl, rfl, ha, hb, ?_, ?_, fun e => ?_, fun e p hp' => ?_⟩
        . intro e; subst e; cases la
        . rw [<- la, <- lb]; exact Nat.le_trans hp.1 ga
        . subst e
          have : b = [] := List.length_eq_zero_iff.mp lb
          subst this
          refine q _ _ (ay.refl _) (ag.kn ?_)
          rw [ag]
          exact ⟨pa, va, rfl, ha, by rw [List.append_nil]; exact ra'⟩
        . have sm := cf (o := HO.tup (va ++ vb)) hp'
          refine q _ _ sm (ag.kn ?_)
          rw [ag]
          exact ⟨p, _, rfl, bW.of aL, (ra'.same sm).append (rb'.same sm)⟩
    . cases h
  . rename_i a b
    split at h
    . rename_i c; cases h
      cases qO c
      refine ⟨_, AE, fun ow H0 H2 v u Q o s rx ry q => ?_⟩
      rw [ag] at rx ry
      obtain ⟨pa, va, b1, rfl, ha, qa, ra⟩ := rx
      obtain ⟨pb, vb, b2, rfl, hb, qb, rb⟩ := ry
      have la := ra.length
      have lb := rb.length
      have fl := hp.1
      rw [iY, Bool.and_eq_true] at fl
      refine ⟨pa, pb, va, vb, rfl, rfl, ha.sq, hb.sq, by rw [<- la, <- lb]; exact Nat.le_trans hp.2.1 ga, fun p hp' => ?_⟩
      have sm := cf (o := HO.lst (va ++ vb)) hp'
      refine q _ _ sm ?_
      rw [ag]
      exact ⟨p, _, true, rfl, aL, ⟨rfl, s.free hp'⟩, ((ra.flat _ fl.1).same sm).append ((rb.flat _ fl.2).same sm)⟩
    . cases h
  . cases h
theorem xA {pins : List (Addr × Obj)} {σ : L2.St} {H : Hp} {s : Shared} {P : aZ} {l : List D} {v : V} (h : ag X.K H P (.lst l) v) : ∃ a vs, v = .ref a /\ bS X.K H a vs /\ af X.K H P l vs := by
  rw [ag] at h
  obtain ⟨a, vs, b, rfl, h, _, q⟩ := h
  exact ⟨a, vs, rfl, h.sq, q⟩
theorem jy : ∀ {l : List D} {ns : List Int}, de l = some ns -> l = ns.map D.int
  | [], ns, h => by rw [de] at h; cases h; rfl
  | .int i :: l, ns, h => by
    rw [de] at h
    cases e : de l with
    | none => rw [e] at h; cases h
    | some m => rw [e] at h; cases h; rw [jy e]; rfl
  | .non :: l, ns, h => by rw [de] at h <;> first | cases h | (intro z; intro e; cases e)
  | .bl _ :: l, ns, h => by rw [de] at h <;> first | cases h | (intro z; intro e; cases e)
  | .str _ :: l, ns, h => by rw [de] at h <;> first | cases h | (intro z; intro e; cases e)
  | .dct _ _ :: l, ns, h => by rw [de] at h <;> first | cases h | (intro z; intro e; cases e)
  | .typ _ :: l, ns, h => by cases h
  | .sn _ :: l, ns, h => by cases h
  | .obj _ _ _ :: l, ns, h => by cases h
  | .cls _ :: l, ns, h => by cases h
  | .tup _ :: l, ns, h => by rw [de] at h <;> first | cases h | (intro z; intro e; cases e)
  | .lst _ :: l, ns, h => by rw [de] at h <;> first | cases h | (intro z; intro e; cases e)
theorem m9 : ∀ {l : List D} {ns : List Bool}, cR l = some ns -> l = ns.map D.bl
  | [], ns, h => by rw [cR] at h; cases h; rfl
  | .bl i :: l, ns, h => by
    rw [cR] at h
    cases e : cR l with
    | none => rw [e] at h; cases h
    | some m => rw [e] at h; cases h; rw [m9 e]; rfl
  | .non :: l, ns, h => by rw [cR] at h <;> first | cases h | (intro z; intro e; cases e)
  | .int _ :: l, ns, h => by rw [cR] at h <;> first | cases h | (intro z; intro e; cases e)
  | .str _ :: l, ns, h => by rw [cR] at h <;> first | cases h | (intro z; intro e; cases e)
  | .dct _ _ :: l, ns, h => by rw [cR] at h <;> first | cases h | (intro z; intro e; cases e)
  | .typ _ :: l, ns, h => by cases h
  | .sn _ :: l, ns, h => by cases h
  | .obj _ _ _ :: l, ns, h => by cases h
  | .cls _ :: l, ns, h => by cases h
  | .tup _ :: l, ns, h => by rw [cR] at h <;> first | cases h | (intro z; intro e; cases e)
  | .lst _ :: l, ns, h => by rw [cR] at h <;> first | cases h | (intro z; intro e; cases e)
def gT (X : Cx) (op : CmpOp) (x y : D) (r : Bool) : Prop := ∀ (P P' : aZ), cx X (compareOp op) (fun v u H Q => ag X.K H P x v /\ ag X.K H P' y u /\ Q (.bl r) H)
theorem jN {x : D} : ∀ {l : List D}, ((fX l).any fun y => PyData.eqv y x.py) = l.any fun y => cO y x
  | [] => by rw [fX]; rfl
  | y :: l => by rw [fX, List.any_cons, List.any_cons, jN]; rfl
theorem kG {op : CmpOp} {a b : Int} {g : Int -> Int -> Bool} (h : cx X (compareOp op) (iX fun i j => .bl (g i j))) : gT X op (.int a) (.int b) (g a b) := fun P P' pins s σ H v u xv yu Q I rx ry ⟨h1, h2, q⟩ => by
  rw [ag] at h1 h2; subst h1 h2
  exact h pins s σ H _ _ xv yu Q I rx ry ⟨a, b, rfl, rfl, q⟩
theorem AT {l : List D} (h : SeqAt.shaped (D.tup l).py = true) : PyData.canLayAll0 (fX l) = true := by
  have := SeqAt.canLay_of_shaped h
  rw [D.py] at this
  simpa [PyData.canLay0] using this
theorem tm {x : D} {l : List D} {r : Bool} {o : List Prop} (hu : X.A.units + 70 < cLine) (h : uu x l = .ok r o) (hp : aE o) : gT X .In x (.tup l) r /\ gT X .In x (.lst l) r /\ gT X .NotIn x (.tup l) (!r) /\ gT X .NotIn x (.lst l) (!r) := by
  unfold uu at h
  cases h
  . have c := hp.1
    unfold jE at c
    rw [Bool.and_eq_true] at c
    have c1 := AT c.1
    have c2 := SeqAt.canLay_of_shaped c.2
    have dx := SeqAt.depth_of_shaped c.2
    have hm : min (PyData.depthAll (fX l)) x.py.depth <= 64 := Nat.le_trans (Nat.min_le_right _ _) dx
    have ct : (D.tup l).py.canLay0 = true := SeqAt.canLay_of_shaped c.1
    have cl : (D.lst l).py.canLay0 = true := by rw [D.py]; simpa [PyData.canLay0] using c1
    have et : (D.tup l).py = .tuple (fX l) := by rw [D.py]
    have el : (D.lst l).py = .list (fX l) := by rw [D.py]
    refine ⟨?_, ?_, ?_, ?_⟩ <;> intro P P' pins s σ H v u xv yu Q I rx ry ⟨h1, h2, q⟩ <;> obtain ⟨as, r1⟩ := cU I c2 h1 rx
    . obtain ⟨bs, r2⟩ := cU I ct h2 ry
      rw [et] at r2
      exact SeqAt.in_tuple_reads r2 r1 c1 c2 (by omega) ⟨.bl _, H, I, rfl, by rw [jN]; exact q⟩
    . obtain ⟨bs, r2⟩ := cU I cl h2 ry
      rw [el] at r2
      exact SeqAt.in_list_reads r2 r1 c1 c2 (by omega) ⟨.bl _, H, I, rfl, by rw [jN]; exact q⟩
    . obtain ⟨bs, r2⟩ := cU I ct h2 ry
      rw [et] at r2
      exact SeqAt.notIn_tuple_reads r2 r1 c1 c2 (by omega) ⟨.bl _, H, I, rfl, by rw [jN]; exact q⟩
    . obtain ⟨bs, r2⟩ := cU I cl h2 ry
      rw [el] at r2
      exact SeqAt.notIn_list_reads r2 r1 c1 c2 (by omega) ⟨.bl _, H, I, rfl, by rw [jN]; exact q⟩
theorem Dg {r : Rs Bool} {b : Bool} {o : List Prop} (h : r.nt = .ok b o) : r = .ok (!b) o := by
  cases r with
  | st => cases h
  | ok c l => cases h; simp
theorem sW {P : aZ} {H : Hp} {x : D} {v : V} (h : ag X.K H P x v) : decide (v = .non) = x.isNon := by
  cases x with
  | non => rw [ag] at h; subst h; rfl
  | bl _ => rw [ag] at h; subst h; rfl
  | int _ => rw [ag] at h; subst h; rfl
  | str _ => rw [ag] at h; subst h; rfl
  | dct _ _ => rw [ag] at h; obtain ⟨_, _, a, _, rfl, _⟩ := h; rfl
  | typ _ => rw [ag] at h; subst h; rfl
  | sn _ => rw [ag] at h; obtain ⟨a, _, rfl, _⟩ := h; rfl
  | obj _ _ _ => rw [ag] at h; obtain ⟨_, _, a, _, _, _, rfl, _⟩ := h; rfl
  | cls _ => rw [ag] at h; obtain ⟨_, _, rfl, _⟩ := h; rfl
  | tup _ => rw [ag] at h; obtain ⟨a, _, rfl, _⟩ := h; rfl
  | lst _ => rw [ag] at h; obtain ⟨a, _, _, rfl, _⟩ := h; rfl
theorem eh {d : D} {l : List D} (h : d7 d = some l) : d = .tup l \/ d = .lst l := by
  unfold d7 at h
  split at h
  . cases h; exact .inl rfl
  . cases h; exact .inr rfl
  . cases h
theorem BD {op : CmpOp} {a b : Int} {r : Bool} (h : ff op a b = some r) : gT X op (.int a) (.int b) r := by
  unfold ff at h
  split at h
  . cases h; exact kG Gf
  . cases h; exact kG Gg
  . cases h; exact kG Gh
  . cases h; exact kG Gi
  . cases h
theorem C7 {op : CmpOp} {x y : D} {r : Bool} (hu : X.A.units + 70 < cLine) (h : ui op x y = some r) : gT X op x y r := by
  unfold ui at h
  split at h
  . exact BD h
  . cases h
theorem lL {P : aZ} {H : Hp} {d : D} {k : bI} {v : V} (e : lM d = some k) (h : ag X.K H P d v) : v = kV k := by
  cases d <;> first | (cases e; done) | (rw [ag] at h; subst h; injection e with e; subst e; rfl)
theorem sB {ks : List bI} {k : bI} : ∀ {vs : List V}, ks.length = vs.length -> ((ks.zip vs).any fun p => decide (p.1 = k)) = ej ks k := by
  induction ks with
  | nil => intro vs _; rfl
  | cons j ks ih =>
    intro vs h
    cases vs with
    | nil => cases h
    | cons v vs =>
      show (decide (j = k) || (ks.zip vs).any _) = (decide (j = k) || ej ks k)
      rw [ih (by simpa using h)]
theorem zh {x y : D} {r : Bool} {o : List Prop} (hu : X.A.units + 70 < cLine) (h : zi x y = .ok r o) (hp : aE o) : gT X .In x y r /\ gT X .NotIn x y (!r) := by
  unfold zi at h
  split at h
  . have m := tm hu h hp; exact ⟨m.1, m.2.2.1⟩
  . have m := tm hu h hp; exact ⟨m.2.1, m.2.2.2⟩
  . rename_i ks ds
    split at h
    . rename_i k e
      cases h
      have key : ∀ {P P' : aZ} {pins : List (Addr × Obj)} {s : Shared} {σ : L2.St} {H : Hp} {v u : V} {xv yu : Value}, aj X pins σ H s -> aP v xv -> aP u yu -> ag X.K H P x v -> ag X.K H P' (.dct ks ds) u -> ∃ a vs, yu = .ref a /\ (e9 X.prog X.w).is k xv = true /\ (a == sysModules) = false /\ s.heap.DictOf (e9 X.prog X.w) a vs /\ (valueAt vs k).isSome = ej ks k := fun {P P' pins s σ H v u xv yu} I rx ry h1 h2 => by
        have hk := lL e h1
        subst hk
        rw [ag] at h2
        obtain ⟨_, e0, a, vs, rfl, ha, _, rl⟩ := h2
        obtain ⟨z, hd, ws, rel, dd⟩ := (show bA X.prog X.w H s.heap a (.dK (ks.zip vs)) from I.hok a _ ha)
        refine ⟨a, ws, ry, uB rx, hd, dd, ?_⟩
        rw [<- (rel.val k).isSome_eq, <- pL, sB (e0.trans rl.length)]
      refine ⟨?_, ?_⟩ <;> intro P P' pins s σ H v u xv yu Q I rx ry ⟨h1, h2, q⟩ <;> obtain ⟨a, vs, rfl, kk, hd, dd, ev⟩ := key I rx ry h1 h2
      . refine wpAny_in_of kk hd dd.mapOf ?_
        rw [ev]
        exact ⟨.bl _, H, I.tok _, rfl, q⟩
      . refine wpAny_notIn_of kk hd dd.mapOf ?_
        rw [ev]
        exact ⟨.bl _, H, I.tok _, rfl, q⟩
    . cases h
  . cases h
theorem ii {op : CmpOp} {x y : D} {r : Bool} {o : List Prop} (hu : X.A.units + 70 < cLine) (h : iQ op x y = .ok r o) (hp : aE o) : gT X op x y r := by
  unfold iQ at h
  split at h
  . cases h
    have c := hp.1
    unfold jE at c
    rw [Bool.and_eq_true] at c
    intro P P' pins s σ H v u xv yu Q I rx ry ⟨h1, h2, q⟩
    obtain ⟨as, r1⟩ := cU I (SeqAt.canLay_of_shaped c.1) h1 rx
    obtain ⟨bs, r2⟩ := cU I (SeqAt.canLay_of_shaped c.2) h2 ry
    exact eq_dataH r1 r2 c.1 c.2 (by omega) ⟨.bl _, H, I, rfl, q⟩
  . cases h
    have c := hp.1
    unfold jE at c
    rw [Bool.and_eq_true] at c
    intro P P' pins s σ H v u xv yu Q I rx ry ⟨h1, h2, q⟩
    obtain ⟨as, r1⟩ := cU I (SeqAt.canLay_of_shaped c.1) h1 rx
    obtain ⟨bs, r2⟩ := cU I (SeqAt.canLay_of_shaped c.2) h2 ry
    exact ne_dataH r1 r2 c.1 c.2 (by omega) ⟨.bl _, H, I, rfl, q⟩
  . exact (zh hu h hp).1
  . have := (zh hu (Dg h) hp).2; rw [Bool.not_not] at this; exact this
  . split at h
    . cases h
      intro P P' pins s σ H v u xv yu Q I rx ry ⟨h1, h2, q⟩
      rw [ag] at h2
      subst h2
      exact Da pins s σ H v _ xv yu Q I rx ry ⟨rfl, by rw [sW h1]; exact q⟩
    . cases h
  . split at h
    . cases h
      intro P P' pins s σ H v u xv yu Q I rx ry ⟨h1, h2, q⟩
      rw [ag] at h2
      subst h2
      refine Ay pins s σ H v _ xv yu Q I rx ry ⟨rfl, ?_⟩
      rw [sW h1]
      exact q
    . cases h
  . cases e : ui op x y with
    | none => rw [e] at h; cases h
    | some b => rw [e] at h; cases h; exact C7 hu e
end Sp
namespace Sp
open PySem PySem.Spec PyProof.Rows L2
variable {X : Cx}
theorem tz (K : W.Frag) {t : Value} : W.kitOne K t t = some true := by unfold W.kitOne; rw [if_pos (beq_self_eq_true t)]
def D.ty : D -> String
  | .non => "NoneType"
  | .bl _ => "bool"
  | .int _ => "int"
  | .str _ => "str"
  | .dct _ _ => "dict"
  | .tup _ => "tuple"
  | .lst _ => "list"
  | .typ _ => "type"
  | .sn _ => "set"
  | .obj _ _ _ => "object"
  | .cls _ => "type"
def D.plain : D -> Bool
  | .typ _ => false
  | .sn _ => false
  | .obj _ _ _ => false
  | .cls _ => false
  | _ => true
theorem DA {x : D} {c : String} {b : Bool} (hpl : x.plain = true) (e : ∀ K, W.kitOne K (.type x.ty) (.type c) = some b) {pins : List (Addr × Obj)} {σ : L2.St} {H : Hp} {s : Shared} {v : V} {u : Value} {P : aZ} {Q : Value -> Shared -> Prop} {E : Value -> Shared -> Prop}
    (I : aj X pins σ H s) (h : ag X.K H P x v) (r : aP v u) (q : ∀ tk, Q (.bool b) { s with toks := tk }) : wpAny (model X.prog X.w) X.A (call (.builtin "isinstance") [u, .type c]) Q E s := by
  have e := e X.K
  cases x with
  | non => rw [ag] at h; subst h; cases (show u = Value.none from r); exact W.kia_one W.kitx_none I.kIn True.intro e (fun z => nomatch z) q
  | bl y => rw [ag] at h; subst h; cases (show u = Value.bool y from r); exact W.kia_one W.kitx_bool I.kIn True.intro e (fun z => nomatch z) q
  | int i => rw [ag] at h; subst h; obtain ⟨t, z⟩ := (show ∃ t, u = Value.int i t from r); cases z; exact W.kia_one W.kitx_int I.kIn True.intro e (fun z => nomatch z) q
  | str y => rw [ag] at h; subst h; obtain ⟨t, z⟩ := (show ∃ t, u = Value.str y t from r); cases z; exact W.kia_one W.kitx_str I.kIn True.intro e (fun z => nomatch z) q
  | dct ks ds =>
    rw [ag] at h
    obtain ⟨_, _, a, vs, rfl, ea, _⟩ := h
    cases (show u = Value.ref a from r)
    obtain ⟨_, _, vs, _, p⟩ := (show bA X.prog X.w H s.heap a (.dK _) from I.hok a _ ea)
    obtain ⟨o, es, ep, h1, h2, _⟩ := p
    exact W.kia_one W.kitx_dict I.kIn ⟨o, h1, h2.1⟩ e (fun z => nomatch z) q
  | typ _ => cases hpl
  | sn _ => cases hpl
  | obj _ _ _ => cases hpl
  | cls _ => cases hpl
  | tup l =>
    rw [ag] at h
    obtain ⟨a, vs, rfl, ea, _⟩ := h
    cases (show u = Value.ref a from r)
    obtain ⟨_, _, ⟨o, h1, h2, _⟩, _⟩ := I.tuple ea
    exact W.kia_one W.kitx_tuple I.kIn ⟨o, h1, h2⟩ e (fun z => nomatch z) q
  | lst l =>
    obtain ⟨a, vs, rfl, ea, _⟩ := xA (pins := pins) (σ := σ) (s := s) h
    cases (show u = Value.ref a from r)
    obtain ⟨_, _, ⟨o, n, h1, h2, _⟩, _⟩ := I.list ea
    exact W.kia_one W.kitx_list I.kIn ⟨o, h1, h2⟩ e (fun z => nomatch z) q
theorem kt (K : W.Frag) (a b : String) (r : Bool) (h : (a == b) = false) (h2 : W.kitCls K (.type a) (.type b) = some r) : W.kitOne K (.type a) (.type b) = some r := by
  unfold W.kitOne
  rw [if_neg (by
    intro z
    have : a = b := by simpa using z
    subst this
    simp at h)]
  exact h2
theorem AW : ∀ a ∈ ["NoneType", "bool", "int", "str", "dict", "tuple", "list"], ∀ T ∈ j6, (a == T) = false -> ∀ K, W.kitCls K (.type a) (.type T) = some (decide (a = "bool" /\ T = "int")) := by
  intro a ha T hT
  simp only [List.mem_cons, List.not_mem_nil, or_false, j6] at ha hT
  rcases ha with rfl | rfl | rfl | rfl | rfl | rfl | rfl <;> rcases hT with rfl | rfl | rfl | rfl | rfl | rfl <;> intro h K <;> first | (exact absurd h (by decide)) | kernel_rfl
theorem DB {x : D} {T : String} {b : Bool} (h : DC x T = some b) (hT : T ∈ j6) : x.plain = true /\ ∀ K, W.kitOne K (.type x.ty) (.type T) = some b := by
  have key : ∀ (a : String), a ∈ ["NoneType", "bool", "int", "str", "dict", "tuple", "list"] -> ∀ K, W.kitOne K (.type a) (.type T) = some (decide (a = T) || decide (a = "bool" /\ T = "int")) := fun a ha K => by
    by_cases e : a = T
    . subst e; rw [tz]; simp
    . have e' : (a == T) = false := by simpa using e
      rw [kt K a T _ e' (AW a ha T hT e' K)]; simp [e]
  unfold DC at h
  cases hx : x.ty0 with
  | none => rw [hx] at h; cases h
  | some a =>
    rw [hx] at h
    cases h
    have hp : x.plain = true /\ x.ty = a /\ a ∈ ["NoneType", "bool", "int", "str", "dict", "tuple", "list"] := by
      cases x <;> cases hx <;> exact ⟨rfl, rfl, by decide⟩
    refine ⟨hp.1, fun K => ?_⟩
    rw [hp.2.1]
    exact key a hp.2.2 K
def fT (X : Cx) (f : Value) (ds : List D) (z : D) (l : Nat) : Prop :=
  ∃ r : List V -> Hp -> VK -> Prop, dy X f r /\ ∀ ow H0 H2 vs (P : aZ) (Q : VK), dW ow H0 -> ay H0 H2 -> af X.K H2 P ds vs -> (∀ w H', ay H2 H' -> ag X.K H' (Kp ow H0 l) z w -> Q w H') -> r vs H2 Q
theorem af.only {K : W.Frag} {P : aZ} {H : Hp} {d : D} {vs : List V} (h : af K H P [d] vs) : ∃ v, vs = [v] /\ ag K H P d v := by
  rw [af] at h
  obtain ⟨v, r, rfl, h1, h2⟩ := h
  rw [af] at h2; subst h2
  exact ⟨v, rfl, h1⟩
theorem gB {P : aZ} {H : Hp} {l : List D} {v : V} (h : ag X.K H P (.lst l) v) : ∃ a vs, v = .ref a /\ bS X.K H a vs /\ af X.K H P l vs := by
  rw [ag] at h
  obtain ⟨a, vs, b, rfl, h, _, q⟩ := h
  exact ⟨a, vs, rfl, h.sq, q⟩
theorem dX {P : aZ} {H : Hp} {l : List D} {v : V} (h : ag X.K H P (.tup l) v) : ∃ a vs, v = .ref a /\ bW X.K H a vs /\ af X.K H P l vs := by
  rw [ag] at h; exact h
theorem vQ {l : List D} : fT X (.builtin "len") [.tup l] (.int l.length) 0 /\ fT X (.builtin "len") [.lst l] (.int l.length) 0 := by
  constructor
  . refine ⟨_, jL, fun ow H0 H2 vs P Q o s rx q => ?_⟩
    obtain ⟨v, rfl, ry⟩ := rx.only
    obtain ⟨a, ws, rfl, hs, rl⟩ := dX ry
    exact ⟨a, ws, rfl, .inr hs, by rw [<- rl.length]; exact q _ _ (ay.refl _) (by rw [ag])⟩
  . refine ⟨_, jL, fun ow H0 H2 vs P Q o s rx q => ?_⟩
    obtain ⟨v, rfl, ry⟩ := rx.only
    obtain ⟨a, ws, rfl, hs, rl⟩ := gB ry
    exact ⟨a, ws, rfl, .inl hs, by rw [<- rl.length]; exact q _ _ (ay.refl _) (by rw [ag])⟩
theorem pN {l : List D} (f : ao l = true) : fT X (.type "tuple") [.lst l] (.tup l) 0 /\ fT X (.type "tuple") [.tup l] (.tup l) 0 := by
  constructor
  . refine ⟨_, iZ, fun ow H0 H2 vs P Q o s rx q => ?_⟩
    obtain ⟨v, rfl, ry⟩ := rx.only
    obtain ⟨a, ws, rfl, hs, rl⟩ := gB ry
    refine ⟨a, ws, rfl, .inl ⟨hs, fun p hp => ?_⟩⟩
    have sm := cf (o := HO.tup ws) hp
    refine q _ _ sm ?_
    rw [ag]
    exact ⟨p, ws, rfl, bW.of aL, (rl.flat _ f).same sm⟩
  . refine ⟨_, iZ, fun ow H0 H2 vs P Q o s rx q => ?_⟩
    obtain ⟨v, rfl, ry⟩ := rx.only
    obtain ⟨a, ws, rfl, hs, rl⟩ := dX ry
    refine ⟨a, ws, rfl, .inr ⟨hs, q _ _ (ay.refl _) ?_⟩⟩
    rw [ag]
    exact ⟨a, ws, rfl, hs, rl.flat _ f⟩
theorem tx {l : List D} (f : ao l = true) : fT X (.type "list") [.lst l] (.lst l) 0 /\ fT X (.type "list") [.tup l] (.lst l) 0 := by
  constructor
  . refine ⟨_, jK, fun ow H0 H2 vs P Q o s rx q => ?_⟩
    obtain ⟨v, rfl, ry⟩ := rx.only
    obtain ⟨a, ws, rfl, hs, rl⟩ := gB ry
    refine ⟨a, ws, rfl, .inl hs, fun p hp => ?_⟩
    have sm := cf (o := HO.lst ws) hp
    refine q _ _ sm ?_
    rw [ag]
    exact ⟨p, ws, true, rfl, aL, ⟨rfl, s.free hp⟩, (rl.flat _ f).same sm⟩
  . refine ⟨_, jK, fun ow H0 H2 vs P Q o s rx q => ?_⟩
    obtain ⟨v, rfl, ry⟩ := rx.only
    obtain ⟨a, ws, rfl, hs, rl⟩ := dX ry
    refine ⟨a, ws, rfl, .inr hs, fun p hp => ?_⟩
    have sm := cf (o := HO.lst ws) hp
    refine q _ _ sm ?_
    rw [ag]
    exact ⟨p, ws, true, rfl, aL, ⟨rfl, s.free hp⟩, (rl.flat _ f).same sm⟩
theorem Fc {i : Int} : fT X (.builtin "abs") [.int i] (.int (if i < 0 then -i else i)) 0 := by
  refine ⟨_, yd, fun ow H0 H2 vs P Q o s rx q => ?_⟩
  obtain ⟨v, rfl, ry⟩ := rx.only
  rw [ag] at ry; subst ry
  exact ⟨i, rfl, q _ _ (ay.refl _) (by rw [ag])⟩
theorem af.mapBl {K : W.Frag} {P : aZ} {H : Hp} : ∀ {ns : List Bool} {vs : List V}, af K H P (ns.map D.bl) vs -> vs = ns.map V.bl
  | [], vs, h => by rw [List.map_nil, af] at h; exact h
  | n :: ns, vs, h => by
    rw [List.map_cons, af] at h
    obtain ⟨v, r, rfl, h1, h2⟩ := h
    rw [ag] at h1
    rw [h1, af.mapBl h2]; rfl
theorem sD : ∀ {bs : List Bool} {us : List Value}, aF (bs.map V.bl) us -> us = bs.map Value.bool
  | [], us, h => by cases h; rfl
  | b :: bs, us, h => by
    cases h with
    | cons h1 h2 => rw [show _ = Value.bool b from h1, sD h2]; rfl
theorem pK : ∀ {ns : List Int} {us : List Value}, aF (ns.map V.int) us -> (∀ v, v ∈ us -> ∃ a t, v = Value.int a t) /\ numsOf us = ns
  | [], us, h => by cases h; exact ⟨fun _ h => (by cases h), rfl⟩
  | n :: ns, us, h => by
    cases h with
    | cons h1 h2 =>
      obtain ⟨t, rfl⟩ := (show ∃ t, _ = Value.int n t from h1)
      obtain ⟨i1, i2⟩ := pK h2
      refine ⟨fun v hv => ?_, by simp only [numsOf]; rw [i2]⟩
      rcases List.mem_cons.mp hv with rfl | hv
      . exact ⟨_, _, rfl⟩
      . exact i1 v hv
theorem wn (hc : X.calm = true) : dy X (.builtin "sum") (fun xs H Q => ∃ (p : Addr) (ns : List Int), xs = [.ref p] /\ bS X.K H p (ns.map V.int) /\ Q (.int ns.sum) H) := by
  intro pins s σ H xs us Q I r h
  obtain ⟨p, ns, rfl, hq, q⟩ := h
  obtain ⟨u, rfl, rx⟩ := dl r
  cases rx
  obtain ⟨its, rv, pl, hz⟩ := I.list hq
  obtain ⟨hall, hnum⟩ := pK rv
  obtain ⟨xs, e⟩ := AllInts.items (vs := its.toArray) (fun v hv => hall v (by simpa using hv))
  have hl := pl.isList
  rw [e] at hl
  refine sum_intListG (I.ok.hd hc) hl fun h' tk t' hk => ?_
  refine ⟨.int ns.sum, H, I.kept hk, ⟨t', ?_⟩, q⟩
  congr 1
  rw [preSum_eq, List.take_of_length_le (by simp), <- nums_intItems, <- e]
  simp [hnum]
theorem wp (hc : X.calm = true) : dy X (.builtin "all") (fun xs H Q => ∃ (p : Addr) (bs : List Bool), xs = [.ref p] /\ bS X.K H p (bs.map V.bl) /\ Q (.bl (bs.all id)) H) := by
  intro pins s σ H xs us Q I r h
  obtain ⟨p, bs, rfl, hq, q⟩ := h
  obtain ⟨u, rfl, rx⟩ := dl r
  cases rx
  obtain ⟨its, rv, pl, hz⟩ := I.list hq
  have ei := sD rv
  subst ei
  have hl := pl.isList
  have hlt : p < s.heap.objs.size := by obtain ⟨_, e, _⟩ := hl; exact Heap.lt_size e
  refine call_all_walk (wpAny_pyIter_list hl ?_)
  refine ⟨_, _, _, _, _, _, fun i => bs.getD i true, rfl, Walks.list (A := X.A.in1) (by exact I.ok.hd hc) _ p (Nat.ne_of_lt hlt) (bs.map Value.bool).toArray, ⟨⟨_, Heap.get?_push_size _ rfl, rfl, rfl⟩, hl.push _⟩, ?_, fun h' tk hk => ?_⟩
  . intro i v s' Q' E' hP hQ
    have hP : ((bs.map Value.bool).toArray)[i]? = some v := hP
    simp only [List.getElem?_toArray, List.getElem?_map] at hP
    cases e : bs[i]? with
    | none => rw [e] at hP; cases hP
    | some b =>
      rw [e] at hP; cases hP
      refine wpAny_truthy_bool ?_
      have : bs.getD i true = b := by rw [List.getD_eq_getElem?_getD, e]; rfl
      rw [<- this]; exact hQ
  . have : ((List.range (bs.map Value.bool).toArray.size).all fun i => bs.getD i true) = bs.all id := by
      simp only [List.size_toArray, List.length_map]
      rw [Bool.eq_iff_iff, List.all_eq_true, List.all_eq_true]
      constructor
      . intro h x hx
        obtain ⟨i, hi, rfl⟩ := List.mem_iff_getElem.mp hx
        have := h i (List.mem_range.mpr hi)
        rw [List.getD_eq_getElem?_getD, List.getElem?_eq_getElem hi] at this
        exact this
      . intro h i hi
        have hi := List.mem_range.mp hi
        rw [List.getD_eq_getElem?_getD, List.getElem?_eq_getElem hi]
        exact h _ (List.getElem_mem hi)
    rw [this]
    refine ⟨.bl _, H, I.kept (fun b o e => hk b o (fun hm => ?_) (Heap.get?_push_of_some _ e)), rfl, q⟩
    have hb : b = s.heap.objs.size := by simpa using hm
    subst hb
    exact absurd (Heap.lt_size e) (Nat.lt_irrefl _)
theorem wo : dy X (.builtin "len") (fun xs H Q => ∃ (p : Addr) (S : Int -> Bool) (n : Nat), xs = [.ref p] /\ H p = some (.set S n) /\ Q (.int n) H) := by
  intro pins s σ H xs us Q I r h
  obtain ⟨p, S, n, rfl, hp, q⟩ := h
  obtain ⟨u, rfl, rx⟩ := dl r
  cases rx
  obtain ⟨o, es, ep, t, h1, h2, h3, _, _, h4, h5, rfl⟩ := (show s.heap.SetOf (intKind X.prog X.w) p S n from I.hok p _ hp)
  exact call_len_set h1 h2 h3 h5 (by unfold scanBound at h4; omega) ⟨.int _, H, I.tok _, ⟨_, rfl⟩, q⟩
def dS (f : Str) (B : List D -> R1) : Prop := f ∈ gj /\ f ≠ "__name__" /\ (f == ("__debug__" : Str)) = false /\ (B [] = .st) /\ ∀ (X : Cx) (ds : List D) (z : D) (l : Nat) (o : List Prop), X.calm = true -> B ds = .ok (z, l) o -> aE o ->
  ((∃ id, bootBuiltins f = some (.builtin id) /\ fT X (.builtin id) ds z l) \/ ∃ T, bootBuiltins f = some (.type T) /\ fT X (.type T) ds z l)
theorem BJ : dS "len" yk := by
  refine ⟨by decide +kernel, by decide +kernel, by decide +kernel, rfl, fun X ds z l o hc h _ => .inl ⟨"len", by decide +kernel, ?_⟩⟩
  unfold yk at h
  split at h
  . cases h
    refine ⟨_, wo, fun ow H0 H2 vs P Q o s rx q => ?_⟩
    obtain ⟨v, rfl, ry⟩ := rx.only
    rw [ag] at ry
    obtain ⟨a, S, rfl, ha⟩ := ry
    exact ⟨a, S, _, rfl, ha, q _ _ (ay.refl _) (by rw [ag])⟩
  . split at h
    . rename_i m e
      cases h
      rcases eh e with rfl | rfl
      . exact vQ.1
      . exact vQ.2
    . cases h
  . cases h
theorem wt : dS "tuple" rG := by
  refine ⟨by decide +kernel, by decide +kernel, by decide +kernel, rfl, fun X ds z l o hc h hp => .inr ⟨"tuple", by decide +kernel, ?_⟩⟩
  unfold rG at h
  split at h
  . split at h
    . rename_i m e
      cases h
      have c := hp.1
      rcases eh e with rfl | rfl
      . exact (pN c).2
      . exact (pN c).1
    . cases h
  . cases h
theorem yj : dS "list" uR := by
  refine ⟨by decide +kernel, by decide +kernel, by decide +kernel, rfl, fun X ds z l o hc h hp => .inr ⟨"list", by decide +kernel, ?_⟩⟩
  unfold uR at h
  split at h
  . split at h
    . rename_i m e
      cases h
      have c := hp.1
      rcases eh e with rfl | rfl
      . exact (tx c).2
      . exact (tx c).1
    . cases h
  . cases h
theorem BO : dS "abs" yp := by
  refine ⟨by decide +kernel, by decide +kernel, by decide +kernel, rfl, fun X ds z l o hc h _ => .inl ⟨"abs", by decide +kernel, ?_⟩⟩
  unfold yp at h
  split at h
  . cases h; exact Fc
  . cases h
theorem BN : dS "all" yo := by
  refine ⟨by decide +kernel, by decide +kernel, by decide +kernel, rfl, fun X ds z l o hc h _ => .inl ⟨"all", by decide +kernel, ?_⟩⟩
  unfold yo at h
  split at h
  . split at h
    . rename_i bs e
      cases h
      cases m9 e
      refine ⟨_, wp hc, fun ow H0 H2 vs P Q o s rx q => ?_⟩
      obtain ⟨v, rfl, ry⟩ := rx.only
      obtain ⟨a, ws, rfl, hs, rl⟩ := gB ry
      exact ⟨a, bs, rfl, by rw [<- rl.mapBl]; exact hs, q _ _ (ay.refl _) (by rw [ag])⟩
    . cases h
  . cases h
theorem BI : dS "sum" yi := by
  refine ⟨by decide +kernel, by decide +kernel, by decide +kernel, rfl, fun X ds z l o hc h _ => .inl ⟨"sum", by decide +kernel, ?_⟩⟩
  unfold yi at h
  split at h
  . split at h
    . rename_i bs e
      cases h
      cases jy e
      refine ⟨_, wn hc, fun ow H0 H2 vs P Q o s rx q => ?_⟩
      obtain ⟨v, rfl, ry⟩ := rx.only
      obtain ⟨a, ws, rfl, hs, rl⟩ := gB ry
      exact ⟨a, bs, rfl, by rw [<- rl.mapInt]; exact hs, q _ _ (ay.refl _) (by rw [ag])⟩
    . cases h
  . cases h
theorem AZ (b : Bool) : (if b = true then (1 : Int) else 0) = cond b 1 0 := by cases b <;> rfl
theorem BM : dS "int" yn := by
  refine ⟨by decide +kernel, by decide +kernel, by decide +kernel, rfl, fun X ds z l o hc h hp => .inr ⟨"int", by decide +kernel, ?_⟩⟩
  unfold yn at h
  split at h
  . cases h
    refine ⟨_, oW, fun ow H0 H2 vs P Q o s rx q => ?_⟩
    obtain ⟨v, rfl, ry⟩ := rx.only
    rw [ag] at ry; subst ry
    exact .inl ⟨_, rfl, q _ _ (ay.refl _) (by rw [ag])⟩
  . cases h
    refine ⟨_, oW, fun ow H0 H2 vs P Q o s rx q => ?_⟩
    obtain ⟨v, rfl, ry⟩ := rx.only
    rw [ag] at ry; subst ry
    exact .inr ⟨_, rfl, q _ _ (ay.refl _) (by rw [ag, AZ])⟩
  . cases h
theorem BK : dS "isinstance" ym := by
  refine ⟨by decide +kernel, by decide +kernel, by decide +kernel, rfl, fun X ds z l o hc h _ => .inl ⟨"isinstance", by decide +kernel, ?_⟩⟩
  unfold ym at h
  split at h
  . rename_i m ns es n
    split at h
    . rename_i hmn
      subst hmn
      cases h
      have cr : dy X (.builtin "isinstance") (fun xs H Q => ∃ a C dx fs, xs = [.ref a, .ref C] /\ H a = some (.ins C dx fs) /\ fL X.K C /\ pD X.K C /\ Q (.bl true) H) := by
        intro pins s σ H xs us Q I r hh
        obtain ⟨a, C, dx, fs, rfl, ea, hc, ho, q⟩ := hh
        obtain ⟨u, u2, rfl, ru, ru2⟩ := lX r
        cases (show u2 = Value.ref C from ru2)
        exact oN I ru (.ins ea hc ho.ha ho.hn ho.ht ho.hm) (tz _) fun tk => ⟨.bl true, H, I.tok tk, rfl, q⟩
      refine ⟨_, cr, fun ow H0 H2 vs P Q o s rx q => ?_⟩
      rw [af] at rx
      obtain ⟨v, r, rfl, r1, r2⟩ := rx
      obtain ⟨w, rfl, r3⟩ := r2.only
      rw [ag] at r1
      rw [ag] at r3
      obtain ⟨_, _, a, C, dx, vs, rfl, h1, h2, h3, _⟩ := r1
      obtain ⟨C', o', rfl, h4, _, _, h5, _⟩ := r3
      rw [h1] at h4; cases h4
      exact ⟨a, C, dx, _, rfl, h3, h2, h5, q _ _ (ay.refl _) (by rw [ag])⟩
    . split at h
      . rename_i hmn
        cases h
        have cr : dy X (.builtin "isinstance") (fun xs H Q => ∃ a C C' dx fs, xs = [.ref a, .ref C'] /\ H a = some (.ins C dx fs) /\ fL X.K C /\ pD X.K C /\ W.kitOne X.K (.ref C) (.ref C') = some (pR m n) /\ Q (.bl (pR m n)) H) := by
          intro pins s σ H xs us Q I r hh
          obtain ⟨a, C, C', dx, fs, rfl, ea, hc, ho, hk, q⟩ := hh
          obtain ⟨u, u2, rfl, ru, ru2⟩ := lX r
          cases (show u2 = Value.ref C' from ru2)
          exact oN I ru (.ins ea hc ho.ha ho.hn ho.ht ho.hm) hk fun tk => ⟨.bl (pR m n), H, I.tok tk, rfl, q⟩
        refine ⟨_, cr, fun ow H0 H2 vs P Q o s rx q => ?_⟩
        rw [af] at rx
        obtain ⟨v, r, rfl, r1, r2⟩ := rx
        obtain ⟨w, rfl, r3⟩ := r2.only
        rw [ag] at r1
        rw [ag] at r3
        obtain ⟨_, _, a, C, dx, vs, rfl, h1, h2, h3, _⟩ := r1
        obtain ⟨C', o', rfl, _, _, _, _, h5⟩ := r3
        obtain ⟨h6, h7⟩ := h5.all m hmn C h1
        exact ⟨a, C, C', dx, _, rfl, h3, h2, h6, h7, q _ _ (ay.refl _) (by rw [ag])⟩
      . cases h
  . rename_i x T
    split at h
    . rename_i hT
      split at h
      . rename_i b hb
        cases h
        obtain ⟨h1, h2⟩ := DB hb hT
        have cr : dy X (.builtin "isinstance") (fun xs H Q => ∃ v P, xs = [v, .ty T] /\ ag X.K H P x v /\ Q (.bl b) H) := by
          intro pins s σ H xs us Q I r hh
          obtain ⟨v, P, rfl, rp, q⟩ := hh
          obtain ⟨u, u2, rfl, ru, ru2⟩ := lX r
          cases (show u2 = Value.type T from ru2)
          exact DA h1 h2 I rp ru fun tk => ⟨.bl b, H, I.tok tk, rfl, q⟩
        refine ⟨_, cr, fun ow H0 H2 vs P Q o s rx q => ?_⟩
        rw [af] at rx
        obtain ⟨v, r, rfl, r1, r2⟩ := rx
        obtain ⟨w, rfl, r3⟩ := r2.only
        rw [ag] at r3; subst r3
        exact ⟨v, P, rfl, r1, q _ _ (ay.refl _) (by rw [ag])⟩
      . cases h
    . cases h
  . cases h
end Sp
namespace Sp
open PySem PySem.Spec PyProof.Rows L2
def gX (K : W.Frag) (F : List D -> Rs D) : Sp := fun vs H Q _ => ∃ ds r l, af K H (fun _ _ => True) ds vs /\ F ds = .ok r l /\ aE l /\ ∀ v H', ay H H' -> ag K H' (fun a b => b = true /\ H a = none) r v -> Q v H'
def zM (X : Cx) (g : Str) (F : List D -> Rs D) : Prop := ∃ k f fd ps, ci X.prog X.w X.K X.mg X.base eT k f fd ps (gX X.K F) /\ bV k X.A /\ X.mg g = some (.ref f) /\ W.keepIn X.K (.ref f) = true /\ cE X.K fd ps [] /\ (g == ("__debug__" : Str)) = false
def GU (K : W.Frag) (n : Str) (F : List D -> Rs D) : Sp := fun vs H Q _ => ∃ x ws C dx ds r l, vs = .ref x :: ws /\ H x = some (.ins C dx []) /\ W.nsIn K mainGlobals n = some (some (.ref C)) /\ fL K C /\ af K H (fun _ _ => True) ds ws /\ F ds = .ok r l /\ aE l /\ r.lless = true /\
  ∀ H', (∀ a o, a ≠ x -> H a = some o -> H' a = some o) -> ag K H' (fun _ _ => True) r (.ref x) -> Q .non H'
def Fo (X : Cx) (g : Str) (F : List D -> Rs D) : Prop := ∃ k C f fd ps, (∀ ds r l, F ds = .ok r l -> r.lless = true) /\ Mk X.K C f /\ ci X.prog X.w X.K X.mg X.base eT k f fd ps (GU X.K g F) /\ bV (k + 1) X.A /\ X.mg g = some (.ref C) /\ W.nsIn X.K mainGlobals g = some (some (.ref C)) /\ fL X.K C /\ cE X.K fd ps [] /\ (g == ("__debug__" : Str)) = false
def ME (X : Cx) (g : Str) (F : List D -> Rs D) : Prop := zM X g F \/ Fo X g F
def Fp (X : Cx) (n m : Str) (F : List D -> Rs D) : Prop := ∃ k C f fd ps, W.nsIn X.K mainGlobals n = some (some (.ref C)) /\ fL X.K C /\ rX X.K C m f /\ ci X.prog X.w X.K X.mg X.base eT k f fd ps (gX X.K F) /\ bV k X.A /\ cE X.K fd ps []
def iW (f : Str) (B : List D -> Nat -> R1) : Prop := f ∈ gj /\ ∀ (X : Cx) (ρ : ai) (p pos : Pos) (args : List Expr) (ds : List D) (k : Nat) (d : D) (j : Nat) (l : List D) (tg : Expr) (o : List Prop), X.calm = true -> Gl X f -> X.mg f = none -> AD X ρ args ds k ->
  (∀ e ∈ args, ∀ x p, e ≠ .Starred x p) -> args.length = ds.length -> B ds k = .ok (d, j) o -> aE o -> items d = some l -> ee (.Call (.Name f p) args [] pos) tg = true -> IE X ρ tg (.Call (.Name f p) args [] pos) l j
def u8 (m : Str) (M : D -> List D -> R1) : Prop := ∀ (X : Cx) (ρ : ai) (a : Expr) (args : List Expr) (ap cp : Pos) (x : D) (k : Nat) (ds : List D) (j : Nat) (z : D) (l : Nat) (o : List Prop), X.calm = true -> X.A.units + 70 < cLine -> ED X ρ a x k -> AD X ρ args ds j ->
  (∀ e ∈ args, ∀ x p, e ≠ .Starred x p) -> args.length = ds.length -> (ap.endLine == cp.line) = true -> im a = true -> M x ds = .ok (z, l) o -> aE o -> ED X ρ (.Call (.Attribute a m ap) args [] cp) z l
def nE (m : Str) (M : List D -> List D -> Nat -> Rs (List D)) : Prop := ∀ X : Cx, X.calm = true -> ∃ (id : String) (r : V -> List V -> Hp -> VK -> Prop), Slot "list" m id /\ typeOf (.builtin id) = pure (.type "method_descriptor") /\ GY X id r /\
  ∀ (ow : Ow) (H0 H : Hp) (l ds l' : List D) (j : Nat) (o : List Prop) (a : Addr) (vs ws : List V), M l ds j = .ok l' o -> aE o -> ds.length < 29 /\ (∀ (P : aZ) (Q : VK), (∀ b c, Kp ow H0 0 b c -> P b c) -> dW ow H0 -> ay H0 H -> H a = some (.lst vs) -> af X.K H P l vs -> af X.K H (Kp ow H0 j) ds ws ->
    (∀ vs' w, af X.K H P l' vs' -> Q w (aU H a (.lst vs'))) -> r (.ref a) ws H Q)
def MK (X : Cx) (ow : Ow) (ρ : ai) (o : Option Int) : TO := fun σ H Q => aQ X ow H σ ρ /\ ∀ H', ay H H' -> Q o H'
def OD (X : Cx) (ρ : ai) (e : Option Expr) (o : Option Int) : Prop := ∀ ow, PO X e (MK X ow ρ o)
def pA (F : D -> Option Int -> Option Int -> R1) : Prop := ∀ (X : Cx) (ρ : ai) (a : Expr) (lo hi : Option Expr) (p2 pos : Pos) (x z : D) (l h : Option Int) (k j : Nat) (o : List Prop), ED X ρ a x k -> OD X ρ lo l -> OD X ρ hi h -> F x l h = .ok (z, j) o -> aE o -> ED X ρ (.Subscript a (.Slice lo hi none p2) pos) z j
structure aT (Φ : Fx) (X : Cx) (sc : Scope) : Prop where
  calm : X.calm = true
  nd : X.N.Nodup
  gl : ∀ x, sc.names.lookup x = some .globalImplicit -> Gl X x
  kc : ∀ x, (sc.names.lookup x = some .cell \/ sc.names.lookup x = some .free) -> X.env.kindOf x = some .cell \/ X.env.kindOf x = some .free
  lc : ∀ x, sc.names.lookup x = some .local -> X.env.scope.names.lookup x = some .local
  cc : ∀ x, sc.names.lookup x = some .cell -> X.env.scope.names.lookup x = some .cell
  fn : ∀ g F, Φ.fn g = some F -> ME X g F
  con : ∀ x d, Φ.con x = some d -> ∃ v u, X.mg x = some u /\ aP v u /\ ∀ H P, ag X.K H P d v
  blt : ∀ f B, Φ.blt f = some B -> dS f B
  itr : ∀ f B, Φ.itr f = some B -> iW f B
  mth : ∀ m M, Φ.mth m = some M -> u8 m M
  mtt : ∀ m M, Φ.mtt m = some M -> nE m M
  slf : pA Φ.slf
  fld : ∀ n f, Φ.fld n f = true -> ∀ C, W.nsIn X.K mainGlobals n = some (some (.ref C)) -> nD X.K C f
  omt : ∀ n m F, Φ.omt n m = some F -> Fp X n m F
  bl : ∀ f ∈ gj, X.mg f = none
  room : X.A.units + 70 < cLine
  ns : ∀ x, cQ sc x = true -> x ∈ X.N
  ft : ∀ x, sc.names.lookup x = some .cell -> X.fn x = true
variable {X : Cx}
theorem dH {x : Str} (h : fZ x = true) : (x == ("__debug__" : Str)) = false /\ (x == ("__classdict__" : Str)) = false := by
  unfold fZ at h
  rw [Bool.and_eq_true] at h
  exact ⟨of_decide_eq_true h.1, of_decide_eq_true h.2⟩
theorem Bv {ρ : ai} {x : Str} {pos : Pos} {d : D} {o : Bool} (h : ρ x = some (d, o)) (hx : fZ x = true) : ED X ρ (.Name x pos) d (kn d (cond o 2 1)) := by
  refine ED.kn fun ow pins s σ H Q I ⟨E, q⟩ => ?_
  obtain ⟨i, v, e1, e2, e3, e4⟩ := E.get x d o h
  refine mr (i := i) e1 e2 (dH hx).1 (dH hx).2 pins s σ H Q I ⟨v, e3, q v H (ay.refl _) (e4.imp fun a b p => ?_)⟩
  cases o with
  | true => exact ⟨p.1, .inl (by rw [p.2]; exact (fun z => nomatch z))⟩
  | false => exact p
theorem Ed {Φ : Fx} {sc : Scope} {ρ : ai} {x : Str} {pos : Pos} {d : D} (G : aT Φ X sc) (h : Φ.con x = some d) (hg : sc.names.lookup x = some .globalImplicit) (hx : fZ x = true) : ED X ρ (.Name x pos) d 0 := by
  obtain ⟨v, u, h1, h2, h3⟩ := G.con x d h
  exact fun ow => bz (At (G.gl x hg) h1 h2 (dH hx).1) fun σ H Q ⟨E, q⟩ => q v H (ay.refl _) (h3 H _)
theorem zT {x : Str} {T : String} (h : tV x = some T) : bootBuiltins x = some (.type T) /\ x ≠ "__name__" /\ (x == ("__debug__" : Str)) = false /\ x ∈ gj := by
  unfold tV at h
  split at h
  . rename_i e; subst e; cases h; exact ⟨by decide +kernel, by decide +kernel, by decide +kernel, by decide +kernel⟩
  split at h
  . rename_i e; subst e; cases h; exact ⟨by decide +kernel, by decide +kernel, by decide +kernel, by decide +kernel⟩
  split at h
  . rename_i e; subst e; cases h; exact ⟨by decide +kernel, by decide +kernel, by decide +kernel, by decide +kernel⟩
  split at h
  . rename_i e; subst e; cases h; exact ⟨by decide +kernel, by decide +kernel, by decide +kernel, by decide +kernel⟩
  split at h
  . rename_i e; subst e; cases h; exact ⟨by decide +kernel, by decide +kernel, by decide +kernel, by decide +kernel⟩
  . cases h
theorem D5 {Φ : Fx} {sc : Scope} {ρ : ai} {x : Str} {pos : Pos} {T : String} (G : aT Φ X sc) (h : tV x = some T) (hg : sc.names.lookup x = some .globalImplicit) : ED X ρ (.Name x pos) (.typ T) 0 := by
  obtain ⟨h1, h2, h3, h4⟩ := zT h
  exact fun ow => bz (Av (v := .ty T) (G.gl x hg) (G.bl x h4) h1 rfl h2 h3) fun σ H Q ⟨E, q⟩ => q _ H (ay.refl _) (by rw [ag])
theorem Ec {ρ : ai} {c : Const} {n : Nat} {pos : Pos} {d : D} (h : zw c = some d) : ED X ρ (.Constant c n pos) d 0 := by
  intro ow
  unfold zw at h
  split at h
  . cases h; exact bz CV fun σ H Q ⟨E, q⟩ => q _ H (ay.refl _) (by rw [ag])
  . cases h; exact bz Ge fun σ H Q ⟨E, q⟩ => q _ H (ay.refl _) (by rw [ag])
  . cases h; exact bz CY fun σ H Q ⟨E, q⟩ => q _ H (ay.refl _) (by rw [ag])
  . cases h; exact bz CS fun σ H Q ⟨E, q⟩ => q _ H (ay.refl _) (by rw [ag])
  . cases h
theorem Eg {ρ : ai} {a b : Expr} {op : Operator} {pos : Pos} {x y z : D} {k j l : Nat} (ha : ED X ρ a x k) (hb : ED X ρ b y j) {o : List Prop} (h : rD op x y k j = .ok (z, l) o) (hp : aE o) : ED X ρ (.BinOp a op b pos) z l := by
  obtain ⟨r, h1, h2⟩ := EU (X := X) h hp
  refine fun ow => bz (Gc h1 (ha ow) (hb ow)) fun σ H Q ⟨E, q⟩ => ⟨E, fun v H1 s1 r1 => ⟨E.same s1, fun u H2 s2 r2 => ?_⟩⟩
  exact h2 ow H H2 v u Q E.own (s1.trans s2) (r1.same s2) (r2.imp (Kp.back s1 j)) fun w H' s3 r3 => q w H' ((s1.trans s2).trans s3) r3
theorem GM {ρ : ai} {a : Expr} {op : UnaryOp} {pos : Pos} {x z : D} {k : Nat} (ha : ED X ρ a x k) (h : vd op x = some z) : ED X ρ (.UnaryOp op a pos) z 0 := by
  unfold vd at h
  split at h
  . cases h
    refine fun ow => bz (Gb BZ (ha ow)) fun σ H Q ⟨E, q⟩ => ⟨E, fun v H1 s1 r1 => ?_⟩
    rw [ag] at r1; subst r1
    exact ⟨_, rfl, q _ H1 s1 (by rw [ag])⟩
  . cases h
    refine fun ow => bz (CU (ha ow)) fun σ H Q ⟨E, q⟩ => ⟨E, fun v H1 s1 r1 => ?_⟩
    rw [ag] at r1; subst r1
    exact ⟨_, rfl, q _ H1 s1 (by rw [ag])⟩
  . cases h
theorem Ee {ρ : ai} {a b : Expr} {op : CmpOp} {pos : Pos} {x y : D} {r : Bool} {k j : Nat} (hu : X.A.units + 70 < cLine) {o : List Prop} (ha : ED X ρ a x k) (hb : ED X ρ b y j) (h : iQ op x y = .ok r o) (hp : aE o) (hm : behindInMarks op b = false) : ED X ρ (.Compare a [op] [b] pos) (.bl r) 0 := by
  have c := ii hu h hp
  intro ow pins s σ H Q I ⟨E, q⟩
  refine wpAny_Compare1 (GV (ha ow) (hb ow) I (R := fun v u H2 => ay H H2 /\ ag X.K H2 (fun _ _ => True) x v /\ ag X.K H2 (fun _ _ => True) y u) ⟨E, fun v H1 s1 r1 => ⟨E.same s1, fun u H2 s2 r2 => ⟨s1.trans s2, (r1.imp fun _ _ _ => True.intro).same s2, r2.imp fun _ _ _ => True.intro⟩⟩⟩ fun v u s2 x y H2 I2 rx ry ⟨sm, r1, r2⟩ => ?_) hm
  exact c _ _ pins s2 σ H2 x y v u Q I2 rx ry ⟨r1, r2, q _ H2 sm (by rw [ag])⟩
theorem BE {op op2 : CmpOp} {x y z : D} {r : D × Nat} {l : List Prop} (h : Em op op2 x y z = .ok r l) : ∃ a b c r1 r2, x = .int a /\ y = .int b /\ z = .int c /\ ff op a b = some r1 /\ ff op2 b c = some r2 /\ r = (.bl (r1 && r2), 0) := by
  unfold Em at h
  split at h
  . split at h
    . rename_i h1 h2; cases h; exact ⟨_, _, _, _, _, rfl, rfl, rfl, h1, h2, rfl⟩
    . cases h
  . cases h
theorem mY {op : CmpOp} {a b : Int} {r : Bool} (h : ff op a b = some r) : iQ op (.int a) (.int b) = .ok r [] := by
  unfold ff at h
  split at h <;> first | (cases h; rfl) | cases h
theorem x6 {ρ : ai} {a b c : Expr} {op op2 : CmpOp} {pos : Pos} {x y z : Int} {r r2 : Bool} {k j i : Nat} (hu : X.A.units + 70 < cLine) (ha : ED X ρ a (.int x) k) (hb : ED X ρ b (.int y) j) (hc : ED X ρ c (.int z) i) (h : ff op x y = some r) (h2 : ff op2 y z = some r2) (hm : behindInMarks op2 c = false) : ED X ρ (.Compare a [op, op2] [b, c] pos) (.bl (r && r2)) 0 := by
  have c1 := ii (X := X) hu (mY h) (show aE [] from True.intro)
  have c2 := ii (X := X) hu (mY h2) (show aE [] from True.intro)
  refine fun ow => bz (xi (c1 (fun _ _ => True) (fun _ _ => True)) (c2 (fun _ _ => True) (fun _ _ => True)) (ha ow) (hb ow) (hc ow) hm) fun σ H Q ⟨E, q⟩ => ⟨E, fun v H1 s1 r1 => ⟨E.same s1, fun u H2 s2 r2 => ?_⟩⟩
  rw [ag] at r1 r2
  subst r1 r2
  refine ⟨by rw [ag], by rw [ag], r, rfl, ?_⟩
  cases r with
  | false => exact q _ H2 (s1.trans s2) (by rw [ag]; rfl)
  | true =>
    rw [if_pos rfl]
    refine ⟨(E.same s1).same s2, fun w H3 s3 r3 => ?_⟩
    rw [ag] at r3
    subst r3
    exact ⟨by rw [ag], by rw [ag], q _ H3 ((s1.trans s2).trans s3) (by rw [ag]; rfl)⟩
theorem FP {ρ : ai} {e : Expr} {b : Bool} {k : Nat} (h : ED X ρ e (.bl b) k) (he : ∀ whole, isTrue e X.env whole = (do let v <- whole; standAt e.pos; holding [v] (truthy v))) : TD X ρ e b :=
  fun ow => u6 (CC (h ow) he) fun σ H Q ⟨E, q⟩ => ⟨E, fun v H1 s1 r1 => by rw [ag] at r1; exact ⟨b, r1, q H1 s1⟩⟩
theorem rM {ρ : ai} : AD X ρ [] [] 0 := fun ow => zD C4 fun σ H Q ⟨E, q⟩ => q [] H (ay.refl _) af.nil
theorem fg {ρ : ai} {e : Expr} {es : List Expr} {d : D} {ds : List D} {k j : Nat} (h1 : ED X ρ e d k) (h2 : AD X ρ es ds j) (hs : starEach (e :: es) X.env = (false, eval e X.env) :: starEach es X.env) : AD X ρ (e :: es) (d :: ds) (kj k j) :=
  fun ow => zD (Ax (h1 ow) (h2 ow) hs) fun σ H Q ⟨E, q⟩ => ⟨E, fun v H1 s1 r1 => ⟨E.same s1, fun vs H2 s2 r2 => q _ H2 (s1.trans s2) (af.cons ((r1.imp (Kp.joinL E.own k j)).same s2) (r2.imp fun a b p => Kp.joinR E.own k j a b (Kp.back s1 j a b p)))⟩⟩
theorem rg {ρ : ai} {es : List Expr} {n : Nat} {pos : Pos} {ds : List D} {k : Nat} (h : AD X ρ es ds k) (hl : ds.length <= bL) : ED X ρ (.Tuple es n pos) (.tup ds) (kn (.tup ds) k) := by
  refine ED.kn fun ow => bz (CQ (h ow)) fun σ H Q ⟨E, q⟩ => ⟨E, fun vs H1 s1 r1 => ⟨by rw [<- r1.length]; exact Nat.le_trans hl ga, fun p hp => ?_⟩⟩
  have sm := cf (o := HO.tup vs) hp
  refine q _ _ (s1.trans sm) ?_
  rw [ag]
  exact ⟨p, vs, rfl, bW.of aL, r1.same sm⟩
theorem Eb {ρ : ai} {pos : Pos} : ED X ρ (.Dict [] [] pos) (.dct [] []) 0 := by
  intro ow pins s σ H Q I ⟨E, q⟩
  refine wpAny_Dict_empty ⟨.ref s.heap.objs.size, _, I.laid (t' := s.toks) (o := .dK []) (fun b ob q => Heap.get?_push_of_some _ q) (Nat.le_refl _) ?_, rfl, q _ _ (cf (I.hok.fresh (Nat.le_refl _))) ?_⟩
  . exact ⟨Nat.zero_le _, beq_eq_false_iff_ne.mpr (Nat.ne_of_gt (modules_low I.nolimit)), [], .nil, Heap.DictOf.new _⟩
  . rw [ag]; exact ⟨rfl, rfl, _, [], rfl, aL, ⟨rfl, I.hok.fresh (Nat.le_refl _)⟩, af.nil⟩
theorem tP {ρ : ai} {es : List Expr} {pos : Pos} {ds : List D} {k : Nat} (h : AD X ρ es ds k) (hk : k <= 1) (hl : ds.length <= bL) : ED X ρ (.List es pos) (.lst ds) k := by
  refine fun ow => bz (CW (h ow)) fun σ H Q ⟨E, q⟩ => ⟨E, fun vs H1 s1 r1 => ⟨by rw [<- r1.length]; exact Nat.le_trans hl ga, fun p hp => ?_⟩⟩
  have sm := cf (o := HO.lst vs) hp
  refine q _ _ (s1.trans sm) ?_
  rw [ag]
  exact ⟨p, vs, true, rfl, aL, vT E.own (s1.free hp) hk, r1.same sm⟩
theorem zt {ρ : ai} {c a b : Expr} {pos : Pos} {t : Bool} {d : D} {k : Nat} (hc : TD X ρ c t) (h : if t = true then ED X ρ a d k else ED X ρ b d k) : ED X ρ (.IfExp c a b pos) d k := by
  cases t with
  | true =>
    intro ow pins s σ H Q I ⟨E, q⟩
    refine PyProof.Rows.IfExp_ (aM (hc ow pins s σ H (fun t H1 => t = true /\ ay H H1) I ⟨E, fun H1 s1 => ⟨rfl, s1⟩⟩) fun t s1 ⟨H1, I1, e1, s1'⟩ => ?_)
    subst e1
    exact h ow pins s1 σ H1 Q I1 ⟨E.same s1', fun v H2 s2 r2 => q v H2 (s1'.trans s2) (r2.imp (Kp.back s1' k))⟩
  | false =>
    intro ow pins s σ H Q I ⟨E, q⟩
    refine PyProof.Rows.IfExp_ (aM (hc ow pins s σ H (fun t H1 => t = false /\ ay H H1) I ⟨E, fun H1 s1 => ⟨rfl, s1⟩⟩) fun t s1 ⟨H1, I1, e1, s1'⟩ => ?_)
    subst e1
    exact h ow pins s1 σ H1 Q I1 ⟨E.same s1', fun v H2 s2 r2 => q v H2 (s1'.trans s2) (r2.imp (Kp.back s1' k))⟩
end Sp
namespace Sp
open PySem PySem.Spec PyProof.Rows L2
variable {X : Cx}
theorem af.atI {K : W.Frag} {P : aZ} {H : Hp} {l : List D} {vs : List V} {i : Int} {d : D} (h : af K H P l vs) (e : L2.atI l i = some d) : ∃ v, L2.atI vs i = some v /\ ag K H P d v := by
  unfold L2.atI at e ⊢
  rw [<- h.length]
  cases q : ln l.length i with
  | none => rw [q] at e; cases e
  | some j => rw [q] at e; exact h.get e
theorem zr {ρ : ai} {a b : Expr} {pos : Pos} {x z : D} {i : Int} {k j l : Nat} {o : List Prop} (ha : ED X ρ a x k) (hb : ED X ρ b (.int i) j) (hs : kO b) (h : qH x i k = .ok (z, l) o) : ED X ρ (.Subscript a b pos) z l := by
  unfold qH at h
  split at h
  . rename_i m e0
    split at h
    . rename_i d e
      unfold mk at h
      cases h
      rcases eh e0 with rfl | rfl
      . refine ED.kn fun ow => bz (ue Dy (ha ow) (hb ow) hs) fun σ H Q ⟨E, q⟩ => ⟨E, fun v H1 s1 r1 => ⟨E.same s1, fun u H2 s2 r2 => ?_⟩⟩
        obtain ⟨p, vs, rfl, hq, rl⟩ := dX (r1.same s2)
        rw [ag] at r2; subst r2
        obtain ⟨w, h1, h2⟩ := rl.atI e
        exact ⟨p, vs, i, w, rfl, rfl, hq, h1, q w H2 (s1.trans s2) h2⟩
      . refine ED.kn fun ow => bz (ue AX (ha ow) (hb ow) hs) fun σ H Q ⟨E, q⟩ => ⟨E, fun v H1 s1 r1 => ⟨E.same s1, fun u H2 s2 r2 => ?_⟩⟩
        obtain ⟨p, vs, rfl, hq, rl⟩ := gB (r1.same s2)
        rw [ag] at r2; subst r2
        obtain ⟨w, h1, h2⟩ := rl.atI e
        exact ⟨p, vs, i, w, rfl, rfl, hq, h1, q w H2 (s1.trans s2) h2⟩
    . cases h
  . cases h
def IG : R2 := fun x y H Q => ∃ p kvs k v, x = .ref p /\ y = kV k /\ H p = some (.dK kvs) /\ ip kvs k = some v /\ Q v H
theorem AY : zI X IG := by
  intro value slice pins s σ H x y v u Q I rx ry h hs
  obtain ⟨p, kvs, k, z, rfl, rfl, hq, he, q⟩ := h
  cases rx
  obtain ⟨_, hd, vs, rel, dd⟩ := (show bA X.prog X.w H s.heap p (.dK kvs) from I.hok p _ hq)
  obtain ⟨w, hw, rw'⟩ := eB.some_of (v := z) (o := valueAt vs k) (by rw [<- he]; exact rel.val k)
  exact subscriptTail_builtinR (x := w) dd.typeIs PySem.F.slot_dict_getitem.lookup (wpAny_getItem_of (Q := fun r s' => r = w /\ EP X pins σ Q r s') (uB ry) dd.mapOf hw ⟨rfl, z, H, I.tok _, rw', q⟩) hs
theorem rh {K : W.Frag} {P : aZ} {H : Hp} {k : bI} {d : D} : ∀ {ks : List bI} {ds : List D} {vs : List V}, af K H P ds vs -> jG ks ds k = some d -> ∃ v, ip (ks.zip vs) k = some v /\ ag K H P d v /\ d ∈ ds
  | [], ds, vs, _, e => by cases e
  | j :: ks, [], vs, _, e => by cases e
  | j :: ks, x :: ds, vs, h, e => by
    rw [af] at h
    obtain ⟨v, r, rfl, h1, h2⟩ := h
    by_cases hj : j = k
    . have e' : some x = some d := by rw [<- e]; simp [jG, List.find?_cons, hj]
      cases e'
      exact ⟨v, lB hj, h1, List.mem_cons_self⟩
    . have e' : jG ks ds k = some d := by rw [<- e]; simp [jG, List.find?_cons, hj]
      obtain ⟨w, g1, g2, g3⟩ := rh h2 e'
      exact ⟨w, (lC hj).trans g1, g2, List.mem_cons_of_mem _ g3⟩
theorem oK : ∀ {l : List D} {d : D}, ao l = true -> d ∈ l -> d.lless = true
  | x :: l, d, h, m => by
    rw [ao, Bool.and_eq_true] at h
    rcases List.mem_cons.mp m with rfl | m
    . exact h.1
    . exact oK h.2 m
theorem D6 {ρ : ai} {a b : Expr} {pos : Pos} {p q r : D × Nat} {o : List Prop} (ha : ED X ρ a p.1 p.2) (hb : ED X ρ b q.1 q.2) (hs : kO b) (h : iq p q = .ok r o) : ED X ρ (.Subscript a b pos) r.1 r.2 := by
  obtain ⟨z, k⟩ := p
  unfold iq at h
  split at h
  . rename_i ks ds e0
    have e0 : z = _ := e0
    subst e0
    split at h
    . rename_i key e
      split at h
      . rename_i d e2
        cases h
        refine fun ow => bz (ue AY (ha ow) (hb ow) hs) fun σ H Q ⟨E, qq⟩ => ⟨E, fun v H1 s1 r1 => ⟨E.same s1, fun u H2 s2 r2 => ?_⟩⟩
        have r1' := r1.same s2
        rw [ag] at r1'
        obtain ⟨f, e1, p, vs, rfl, hq, _, rl⟩ := r1'
        have hk := lL (X := X) e r2
        obtain ⟨w, g1, g2, g3⟩ := rh rl e2
        exact ⟨p, _, key, w, rfl, hk, hq, g1, qq w H2 (s1.trans s2) (g2.flat _ (oK f g3))⟩
      . cases h
    . cases h
  . unfold iF at h
    split at h
    . rename_i j hj
      rw [hj] at hb
      exact zr ha hb hs h
    . cases h
theorem zC {X : Cx} {e : Option Expr} {t t' : TO} (h : PO X e t) (i : ∀ σ H Q, t' σ H Q -> t σ H Q) : PO X e t' := fun pins s σ H Q I q => h pins s σ H Q I (i σ H Q q)
theorem AH {ρ : ai} : OD X ρ none none := fun ow => zC Ap fun σ H Q ⟨E, q⟩ => q H (ay.refl _)
theorem AG {ρ : ai} {e : Expr} {i : Int} {k : Nat} (h : ED X ρ e (.int i) k) : OD X ρ (some e) (some i) := fun ow => zC (Ao (h ow)) fun σ H Q ⟨E, q⟩ => ⟨E, fun v H1 s1 r1 => by rw [ag] at r1; exact ⟨i, r1, q H1 s1⟩⟩
theorem af.cut {K : W.Frag} {P : aZ} {H : Hp} {l : List D} {vs : List V} {lo hi : Option Int} (h : af K H P l vs) : af K H P (Ej l lo hi) (Ei vs lo hi) := by
  unfold Ej Ei
  rw [<- h.length]
  exact (h.drop _).take _
theorem aW : pA bT := fun X ρ a lo hi p2 pos x z l h k j o ha hl hh e hp => by cases e
theorem bY {env : Env} {pos : Pos} : ∀ {es : List Expr}, (∀ e ∈ es, ∀ x p, e ≠ .Starred x p) -> (backTo pos (starEach es env)).any (·.1) = false
  | [], _ => rfl
  | e :: es, h => by
    have ih := bY (env := env) (es := es) (pos := pos) fun x hx => h x (List.mem_cons_of_mem _ hx)
    have he := h e List.mem_cons_self
    cases e <;> first | exact absurd rfl (he _ _) | exact ih
theorem aV {e : Expr} {es : List Expr} {env : Env} (h : ∀ x p, e ≠ .Starred x p) : starEach (e :: es) env = (false, eval e env) :: starEach es env := by
  cases e <;> first | exact absurd rfl (h _ _) | rfl
theorem x8 {Φ : Fx} {sc : Scope} {ρ : ai} {f : Str} {p pos : Pos} {args : List Expr} {F : List D -> Rs D} {ds : List D} {k : Nat} {r : D} {o : List Prop} (G : aT Φ X sc) (hf : zM X f F) (hg : sc.names.lookup f = some .globalImplicit)
    (ha : AD X ρ args ds k) (hst : ∀ e ∈ args, ∀ x p, e ≠ .Starred x p) (hnil : args = [] -> ds = []) (h : F ds = .ok r o) (hp : aE o) : ED X ρ (.Call (.Name f p) args [] pos) r 0 := by
  obtain ⟨n, fa, fd, ps, hF, hr, hm, hk, hb, hd⟩ := hf
  intro ow
  cases args with
  | nil =>
    refine bz (xk hF hr (G.gl f hg) hm hk hb .nil kh hd) fun σ H Q ⟨E, q⟩ => ?_
    have hds := hnil rfl
    subst hds
    exact ⟨[], r, o, af.nil, h, hp, fun v H' s1 r1 => q v H' s1 r1⟩
  | cons e es =>
    refine bz (Au hF hr (G.gl f hg) hm hk hb .nil kh (ha ow) hd (aV (hst e List.mem_cons_self)) (bY fun x hx => hst x (List.mem_cons_of_mem _ hx))) fun σ H Q ⟨E, q⟩ => ⟨E, fun vs H1 s1 r1 => ?_⟩
    refine ⟨ds, r, o, by rw [List.append_nil]; exact r1.imp fun _ _ _ => True.intro, h, hp, fun v H' s2 r2 => q v H' (s1.trans s2) (r2.imp fun a b p => ⟨p.1, s1.free p.2⟩)⟩
theorem jj {H : Hp} {x dx C : Addr} (hx : H x = none) (hd : H dx = none) : ay H (aU (aU H dx (.own x)) x (.ins C dx [])) := fun a o h => by
  rw [aC (fun z => by subst z; rw [hx] at h; cases h), aC (fun z => by subst z; rw [hd] at h; cases h)]
  exact h
theorem Bx {Φ : Fx} {sc : Scope} {ρ : ai} {f : Str} {p pos : Pos} {args : List Expr} {F : List D -> Rs D} {ds : List D} {k : Nat} {r : D} {o : List Prop} (G : aT Φ X sc) (hf : Fo X f F) (hg : sc.names.lookup f = some .globalImplicit)
    (ha : AD X ρ args ds k) (hst : ∀ e ∈ args, ∀ x p, e ≠ .Starred x p) (hnil : args = [] -> ds = []) (h : F ds = .ok r o) (hp : aE o) : ED X ρ (.Call (.Name f p) args [] pos) r 0 := by
  obtain ⟨n, C, fa, fd, ps, hfl, hM, hF, hr, hm, hns, hc, hb, hd⟩ := hf
  have hl := hfl ds r o h
  intro ow
  cases args with
  | nil =>
    refine bz (xh hM hF hr (G.gl f hg) hm hb .nil kh hd) fun σ H Q ⟨E, q⟩ => ?_
    have hds := hnil rfl
    subst hds
    intro x dx hx hdx ne
    refine ⟨x, [], C, dx, [], r, o, rfl, aL, hns, hc, af.nil, h, hp, hl, fun H' kp rr => ⟨rfl, q _ H' (fun a ob ha => ?_) (rr.flat _ hl)⟩⟩
    exact kp a ob (fun z => by subst z; rw [hx] at ha; cases ha) (jj hx hdx a ob ha)
  | cons e es =>
    refine bz (As hM hF hr (G.gl f hg) hm hb .nil kh (ha ow) hd (aV (hst e List.mem_cons_self)) (bY fun x hx => hst x (List.mem_cons_of_mem _ hx))) fun σ H Q ⟨E, q⟩ => ⟨E, fun vs H1 s1 r1 => ?_⟩
    intro x dx hx hdx ne
    refine ⟨x, vs ++ [], C, dx, ds, r, o, rfl, aL, hns, hc, by rw [List.append_nil]; exact (r1.same (jj hx hdx)).imp fun _ _ _ => True.intro, h, hp, hl, fun H' kp rr => ⟨rfl, q _ H' (s1.trans fun a ob ha => ?_) (rr.flat _ hl)⟩⟩
    exact kp a ob (fun z => by subst z; rw [hx] at ha; cases ha) (jj hx hdx a ob ha)
theorem Bz {Φ : Fx} {sc : Scope} {ρ : ai} {f : Str} {p pos : Pos} {args : List Expr} {F : List D -> Rs D} {ds : List D} {k : Nat} {r : D} {o : List Prop} (G : aT Φ X sc) (hf : Φ.fn f = some F) (hg : sc.names.lookup f = some .globalImplicit)
    (ha : AD X ρ args ds k) (hst : ∀ e ∈ args, ∀ x p, e ≠ .Starred x p) (hnil : args = [] -> ds = []) (h : F ds = .ok r o) (hp : aE o) : ED X ρ (.Call (.Name f p) args [] pos) r 0 := by
  rcases G.fn f F hf with z | z
  . exact x8 G z hg ha hst hnil h hp
  . exact Bx G z hg ha hst hnil h hp
theorem GB {o : Expr} {name : Str} {apos pos : Pos} {args : List Expr} {env : Env} (hb : attributeBase o name env (eval o env) = eval o env) (hf : methodCallForm (args.length + ([] : List Keyword).length) (backTo pos (starEach args env)) (backToKw pos (keywordEach [] env)) = true)
    (hl : (apos.endLine == pos.line) = true) : eval (.Call (.Attribute o name apos) args [] pos) env = (do
      let ov <- eval o env
      standAt apos.atName
      let (f, first) <- holding [ov] (getMethod ov name (do return (<- importBound o env).getD true))
      callWith pos f first (backTo pos (starEach args env)) (backToKw pos (keywordEach [] env))) := by
  show (do
    let ov <- attributeBase o name env (eval o env)
    standAt apos.atName
    methodCall o name apos pos env ov (args.length + ([] : List Keyword).length) (backTo pos (starEach args env)) (backToKw pos (keywordEach [] env))) = _
  rw [hb]
  unfold methodCall calleeOf methodCallPos
  rw [hf, hl]
  rfl
theorem il {a : Expr} {m : Str} {env : Env} {t : Sem Value} (h : im a = true) : attributeBase a m env t = t := by
  unfold attributeBase
  split
  . cases h
  . rfl
theorem DP {env : Env} {pos : Pos} {args : List Expr} (hst : ∀ e ∈ args, ∀ x p, e ≠ .Starred x p) (hn : args.length < 29) : methodCallForm (args.length + ([] : List Keyword).length) (backTo pos (starEach args env)) (backToKw pos (keywordEach [] env)) = true := by
  unfold methodCallForm
  have e1 : (backTo pos (starEach args env)).all (fun x => !x.1) = true := by
    have := bY (env := env) (pos := pos) hst
    rw [List.all_eq_true]
    intro x hx
    have h2 : ¬ (backTo pos (starEach args env)).any (·.1) = true := by rw [this]; exact Bool.false_ne_true
    cases hb : x.1 with
    | false => rfl
    | true => exact absurd (List.any_eq_true.mpr ⟨x, hx, hb⟩) h2
  rw [e1]
  show (true && true && decide (args.length + 0 + 0 < 30)) = true
  simp; omega
theorem pG {ns : List Str} {vs : List V} {m : Str} : ns.contains m = false -> (ns.zip vs).lookup m = none := by
  induction ns generalizing vs with
  | nil => intro _; rfl
  | cons a ns ih =>
    intro h
    cases vs with
    | nil => rfl
    | cons v vs =>
      rw [List.contains_cons, Bool.or_eq_false_iff] at h
      show List.lookup m ((a, v) :: ns.zip vs) = none
      rw [List.lookup_cons, h.1]
      exact ih h.2
theorem Bw {Φ : Fx} {sc : Scope} {ρ : ai} {a : Expr} {n m : Str} {ap pos : Pos} {args : List Expr} {F : List D -> Rs D} {ns : List Str} {es ds : List D} {j k : Nat} {r : D} {o : List Prop} (G : aT Φ X sc) (hf : Φ.omt n m = some F) (he : ED X ρ a (.obj n ns es) j)
    (ha : AD X ρ args ds k) (hst : ∀ e ∈ args, ∀ x p, e ≠ .Starred x p) (hlen : args.length = ds.length) (hn : ns.contains m = false) (hb : im a = true) (hfew : ds.length < 29) (hl : (ap.endLine == pos.line) = true) (h : F (.obj n ns es :: ds) = .ok r o) (hp : aE o) : ED X ρ (.Call (.Attribute a m ap) args [] pos) r 0 := by
  obtain ⟨kk, C, fa, fd, ps, hns, hc, hm, hF, hr, hbd⟩ := G.omt n m F hf
  intro ow
  have ht := GB (o := a) (name := m) (apos := ap) (pos := pos) (args := args) (env := X.env) (il hb) (DP hst (by omega)) hl
  cases args with
  | nil =>
    refine bz (xg (he ow) hc hm hF hr hbd .nil kh ht) fun σ H Q ⟨E, q⟩ => ⟨E, fun v H1 s1 r1 => ?_⟩
    have hds : ds = [] := List.length_eq_zero_iff.mp hlen.symm
    subst hds
    have r0 := r1
    rw [ag] at r1
    obtain ⟨f, e0, x, C', dx, vs, rfl, h1, h2, h3, r2⟩ := r1
    rw [hns] at h1; cases h1
    refine ⟨x, dx, _, rfl, h3, pG hn, [.obj n ns es], r, o, af.one (r0.imp fun _ _ _ => True.intro), h, hp, fun v H' s2 r2 => q v H' (s1.trans s2) (r2.imp fun a b p => ⟨p.1, s1.free p.2⟩)⟩
  | cons e es' =>
    refine bz (Ar (he ow) hc hm hF hr hbd .nil kh (ha ow) (aV (hst e List.mem_cons_self)) (bY fun x hx => hst x (List.mem_cons_of_mem _ hx)) ht) fun σ H Q ⟨E, q⟩ => ⟨E, fun v H1 s1 r1 => ?_⟩
    have r0 := r1
    rw [ag] at r1
    obtain ⟨f, e0, x, C', dx, vs, rfl, h1, h2, h3, r2⟩ := r1
    rw [hns] at h1; cases h1
    refine ⟨x, dx, _, rfl, h3, pG hn, E.same s1, fun ws H2 s2 rw2 => ?_⟩
    refine ⟨.obj n ns es :: ds, r, o, by rw [List.append_nil]; exact af.cons ((r0.same s2).imp fun _ _ _ => True.intro) (rw2.imp fun _ _ _ => True.intro), h, hp, fun v H' s3 r3 => q v H' ((s1.trans s2).trans s3) (r3.imp fun a b p => ⟨p.1, s1.free (s2.free p.2)⟩)⟩
theorem pH {K : W.Frag} {H : Hp} {P : aZ} {f : Str} {d : D} : ∀ {ns : List Str} {ds : List D} {vs : List V}, af K H P ds vs -> (ns.zip ds).lookup f = some d -> ∃ v, (ns.zip vs).lookup f = some v /\ ag K H P d v /\ (ao ds = true -> d.lless = true)
  | [], ds, vs, _, h => by cases h
  | a :: ns, [], vs, _, h => by cases h
  | a :: ns, e :: ds, vs, r, h => by
    rw [af] at r
    obtain ⟨v, ws, rfl, r1, r2⟩ := r
    replace h : List.lookup f ((a, e) :: ns.zip ds) = some d := h
    show ∃ u, List.lookup f ((a, v) :: ns.zip ws) = some u /\ _
    rw [List.lookup_cons] at h ⊢
    cases hb : f == a with
    | true =>
      rw [hb] at h; cases h
      exact ⟨v, rfl, r1, fun z => by rw [ao, Bool.and_eq_true] at z; exact z.1⟩
    | false =>
      rw [hb] at h
      obtain ⟨u, u1, u2, u3⟩ := pH r2 h
      exact ⟨u, u1, u2, fun z => by rw [ao, Bool.and_eq_true] at z; exact u3 z.2⟩
theorem Ea {Φ : Fx} {sc : Scope} {ρ : ai} {a : Expr} {n f : Str} {pos : Pos} {ns : List Str} {ds : List D} {j : Nat} {d : D} (G : aT Φ X sc) (hf : Φ.fld n f = true) (he : ED X ρ a (.obj n ns ds) j) (hb : im a = true) (h : (ns.zip ds).lookup f = some d) : ED X ρ (.Attribute a f pos) d 0 := by
  intro ow
  refine bz (CZ (he ow) (il hb)) fun σ H Q ⟨E, q⟩ => ⟨E, fun v H1 s1 r1 => ?_⟩
  rw [ag] at r1
  obtain ⟨fl, e0, x, C, dx, vs, rfl, h1, h2, h3, r2⟩ := r1
  obtain ⟨u, u1, u2, u3⟩ := pH r2 h
  exact ⟨x, C, dx, _, u, rfl, h3, h2, G.fld n f hf C h1, u1, q u H1 s1 (u2.flat _ (u3 fl))⟩
theorem Ef {Φ : Fx} {sc : Scope} {ρ : ai} {f : Str} {B : List D -> R1} {p pos : Pos} {e : Expr} {es : List Expr} {ds : List D} {k l : Nat} {z : D} {o : List Prop} (G : aT Φ X sc) (hB : dS f B) (hg : sc.names.lookup f = some .globalImplicit)
    (ha : AD X ρ (e :: es) ds k) (hst : ∀ x ∈ e :: es, ∀ y p, x ≠ .Starred y p) (h : B ds = .ok (z, l) o) (hp : aE o) : ED X ρ (.Call (.Name f p) (e :: es) [] pos) z l := by
  obtain ⟨h3, h1, h2, _, h4⟩ := hB
  have h4 := h4 X ds z l o G.calm h hp
  intro ow
  have n1 := aV (env := X.env) (es := es) (hst e List.mem_cons_self)
  have n2 : (backTo pos (starEach es X.env)).any (·.1) = false := bY fun x hx => hst x (List.mem_cons_of_mem _ hx)
  rcases h4 with ⟨id, e1, r, e2, e3⟩ | ⟨T, e1, r, e2, e3⟩
  . refine bz (xj e2 (G.gl f hg) (G.bl f h3) e1 (ha ow) h1 h2 n1 n2) fun σ H Q ⟨E, q⟩ => ⟨E, fun vs H1 s1 r1 => ?_⟩
    exact e3 ow H H1 vs _ Q E.own s1 r1 fun w H' s2 r2 => q w H' (s1.trans s2) r2
  . refine bz (vx e2 (G.gl f hg) (G.bl f h3) e1 (ha ow) h1 h2 n1 n2) fun σ H Q ⟨E, q⟩ => ⟨E, fun vs H1 s1 r1 => ?_⟩
    exact e3 ow H H1 vs _ Q E.own s1 r1 fun w H' s2 r2 => q w H' (s1.trans s2) r2
theorem A7 {ρ : ai} {tg e : Expr} {l : List D} {k : Nat} (h : ED X ρ e (.lst l) k) : IE X ρ tg e l k := by
  intro ow pins s σ H R I ⟨E, q⟩
  refine Aq (tg := tg) (h ow) pins s σ H R I ⟨E, fun v H1 s1 r1 => ?_⟩
  rw [ag] at r1
  obtain ⟨a, vs, b, rfl, hl, hp, rl⟩ := r1
  have rl' : af X.K H1 (Kd ow H k H1) l vs := rl.impH (fun a o ho p => ⟨p, fun _ => ⟨o, ho⟩⟩) fun a p => ⟨p, fun z => (by cases z)⟩
  have hp' : Kd ow H k H1 a b := ⟨hp, fun hb => by subst hb; exact ⟨_, hl⟩⟩
  have sq : ∀ {H2 : Hp}, rY X.K H2 a vs b -> bS X.K H2 a vs := fun {H2} h => h.sq
  refine ⟨a, rfl, ⟨vs, sq hl⟩, q _ H1 s1 fun i H2 st => ⟨fun d hd => ?_, fun hle => ?_⟩⟩
  . have h2 := sq (st.ls hl hp')
    obtain ⟨w, hw, rw'⟩ := rl'.get hd
    refine ⟨⟨vs, w, h2, hw⟩, fun x H3 ⟨e3, y3⟩ => ?_⟩
    subst e3
    have := y3 vs h2
    rw [hw] at this; cases this
    exact ⟨ay.refl _, rw'.mono st⟩
  . exact ⟨vs, sq (st.ls hl hp'), by rw [<- rl.length]; exact hle⟩
theorem DF {ρ : ai} {tg e : Expr} {l : List D} {k : Nat} (h : ED X ρ e (.tup l) k) : IE X ρ tg e l k := by
  intro ow pins s σ H R I ⟨E, q⟩
  refine CO (tg := tg) (h ow) pins s σ H R I ⟨E, fun v H1 s1 r1 => ?_⟩
  rw [ag] at r1
  obtain ⟨a, vs, rfl, hl, rl⟩ := r1
  have rl' : af X.K H1 (Kd ow H k H1) l vs := rl.impH (fun a o ho p => ⟨p, fun _ => ⟨o, ho⟩⟩) fun a p => ⟨p, fun z => (by cases z)⟩
  refine ⟨a, rfl, ⟨vs, hl⟩, q _ H1 s1 fun i H2 st => ⟨fun d hd => ?_, fun hle => ?_⟩⟩
  . have h2 := st.sq hl
    obtain ⟨w, hw, rw'⟩ := rl'.get hd
    refine ⟨⟨vs, w, h2, hw⟩, fun x H3 ⟨e3, y3⟩ => ?_⟩
    subst e3
    have := y3 vs h2
    rw [hw] at this; cases this
    exact ⟨ay.refl _, rw'.mono st⟩
  . exact ⟨vs, st.sq hl, by rw [<- rl.length]; exact hle⟩
theorem Gx {ρ : ai} {tg e : Expr} {d : D} {l : List D} {k : Nat} (h : ED X ρ e d k) (hi : items d = some l) : IE X ρ tg e l k := by
  unfold items at hi
  split at hi
  . cases hi; exact A7 h
  . cases hi; exact DF h
  . cases hi
theorem xK {ρ : ai} {tg a : Expr} {p pos : Pos} {j : Int} {k : Nat} (hg : Gl X "range") (hm0 : X.mg "range" = none) (ha : AD X ρ [a] [.int j] k) (hst : ∀ y p, a ≠ .Starred y p) (h1 : -4611686018427387904 <= j) (h2 : j <= bL) :
    IE X ρ tg (.Call (.Name "range" p) [a] [] pos) ((List.range j.toNat).map fun i => .int (i : Nat)) 0 := by
  intro ow pins s σ H R I ⟨E, q⟩
  refine vv (tg := tg) hg hm0 (ha ow) (by rw [aV hst]; rfl) pins s σ H R I ⟨E, fun vs H1 s1 r1 => ?_⟩
  obtain ⟨v, rfl, rv⟩ := r1.only
  rw [ag] at rv; subst rv
  have hm : (bL : Int) < 2 ^ 62 := by decide
  refine ⟨j, rfl, h1, by omega, q _ H1 s1 fun i H2 st => ⟨fun d hd => ?_, fun hle => ?_⟩⟩
  . rw [List.getElem?_map] at hd
    cases e : (List.range j.toNat)[i]? with
    | none => rw [e] at hd; cases hd
    | some n =>
      rw [e] at hd; cases hd
      obtain ⟨hi, hn⟩ := List.getElem?_eq_some_iff.mp e
      rw [List.getElem_range] at hn
      subst hn
      rw [List.length_range] at hi
      refine ⟨hi, fun x H3 ⟨e3, y3⟩ => ?_⟩
      subst e3 y3
      exact ⟨ay.refl _, by rw [ag, Int.zero_add]⟩
  . rw [List.length_map, List.length_range] at hle
    exact hle
theorem v4 {ρ : ai} {tg a b : Expr} {p pos : Pos} {j0 j : Int} {k : Nat} (hg : Gl X "range") (hm0 : X.mg "range" = none) (ha : AD X ρ [a, b] [.int j0, .int j] k) (hst : ∀ y p, a ≠ .Starred y p) (hst2 : ∀ y p, b ≠ .Starred y p) (h1 : -4611686018427387904 <= j0) (h2 : j0 <= 4611686018427387000) (h3 : -4611686018427387904 <= j) (h4 : j - j0 <= 800) :
    IE X ρ tg (.Call (.Name "range" p) [a, b] [] pos) ((List.range (j - j0).toNat).map fun i => .int (j0 + (i : Nat))) 0 := by
  intro ow pins s σ H R I ⟨E, q⟩
  refine vu (tg := tg) hg hm0 (ha ow) (by rw [aV hst, aV hst2]; rfl) (by rw [aV hst2]; rfl) pins s σ H R I ⟨E, fun vs H1 s1 r1 => ?_⟩
  rw [af] at r1
  obtain ⟨v1, r, rfl, r2, r3⟩ := r1
  rw [af] at r3
  obtain ⟨v2, r', rfl, r4, r5⟩ := r3
  rw [af] at r5
  rw [ag] at r2 r4
  subst r2 r4 r5
  refine ⟨j0, j, rfl, ⟨h1, by omega, h3, by omega⟩, q _ H1 s1 fun i H2 st => ⟨fun d hd => ?_, fun hle => ?_⟩⟩
  . rw [List.getElem?_map] at hd
    cases e : (List.range (j - j0).toNat)[i]? with
    | none => rw [e] at hd; cases hd
    | some n =>
      rw [e] at hd; cases hd
      obtain ⟨hi, hn⟩ := List.getElem?_eq_some_iff.mp e
      rw [List.getElem_range] at hn
      subst hn
      rw [List.length_range] at hi
      refine ⟨hi, fun x H3 ⟨e3, y3⟩ => ?_⟩
      subst e3 y3
      exact ⟨ay.refl _, by rw [ag]⟩
  . rw [List.length_map, List.length_range] at hle
    exact hle
theorem v5 : iW "range" jB := by
  refine ⟨by decide +kernel, fun X ρ p pos args ds k d j l tg o hc hg hm ha hst hlen h hp hl ht => ?_⟩
  unfold jB at h
  split at h
  . rename_i n
    cases h
    cases hl
    match args, hlen, ha, hst with
    | [a], _, ha, hst => exact xK hg hm ha (hst a List.mem_cons_self) hp.1 hp.2.1
  . rename_i m n
    cases h
    cases hl
    match args, hlen, ha, hst with
    | [a, b], _, ha, hst => exact v4 hg hm ha (hst a List.mem_cons_self) (hst b (List.mem_cons_of_mem _ List.mem_cons_self)) hp.1 hp.2.1 hp.2.2.1 hp.2.2.2.1
  . cases h
end Sp
namespace Sp
open PySem PySem.Spec PyProof.Rows L2
variable {X : Cx}
theorem cW {x : Str} {y : D × Bool} {ρ : ai} (z : Str) : bv ρ x y z = if z = x then some y else ρ z := rfl
theorem dO {ow : Ow} {H : Hp} {σ : L2.St} {ρ : ai} {x : Str} {d : D} {o : Bool} {v : V} {i : Nat} (hN : X.N.Nodup) (hl : σ.length = X.N.length) (E : aQ X ow H σ ρ) (hi : X.N[i]? = some x) (hv : i5 X.env.scope x) (r : ag X.K H (jq ow x o) d v) :
    aQ X ow H (σ.set i (some v)) (bv ρ x (d, o)) := by
  have hil : i < σ.length := by rw [hl]; exact (List.getElem?_eq_some_iff.mp hi).1
  refine ⟨fun y e o' h => ?_, E.own⟩
  rw [cW] at h
  by_cases hy : y = x
  . subst hy
    rw [if_pos rfl] at h
    cases h
    exact ⟨i, v, hi, hv, by rw [List.getElem?_set_self hil], r⟩
  . rw [if_neg hy] at h
    obtain ⟨j, w, e1, e2, e3, e4⟩ := E.get y e o' h
    have hij : i ≠ j := by intro z; subst z; rw [hi] at e1; cases e1; exact hy rfl
    exact ⟨j, w, e1, e2, by rw [List.getElem?_set_ne hij]; exact e3, e4⟩
theorem eJ {Φ : Fx} {sc : Scope} {x : Str} (G : aT Φ X sc) (h : cQ sc x = true) : rZ X.env.scope x /\ i5 X.env.scope x /\ (X.fn x = true \/ X.env.scope.names.lookup x = some .local) /\ ∃ i : Nat, X.N[i]? = some x := by
  have hx := G.ns x h
  have hlt := List.idxOf_lt_length_iff.mpr hx
  have hi : ∃ i : Nat, X.N[i]? = some x := ⟨X.N.idxOf x, by rw [List.getElem?_eq_getElem hlt, List.getElem_idxOf hlt]⟩
  unfold cQ at h
  rw [Bool.or_eq_true] at h
  rcases h with h | h
  . have h := G.lc x (by simpa using h)
    exact ⟨.inl h, .inl h, .inr h, hi⟩
  . have h0 : sc.names.lookup x = some .cell := by simpa using h
    have h := G.cc x h0
    exact ⟨.inr h, .inr (.inl h), .inl (G.ft x h0), hi⟩
theorem jp {Φ : Fx} {sc : Scope} (G : aT Φ X sc) : ∀ {es : List Expr} {ds : List D} {ρ ρ' : ai}, aS sc es ds ρ = some ρ' -> ∃ t, tS X es t /\ (assignEach es X.env).length = ds.length /\ (assignEach es X.env).findIdx? (·.1) = none /\
    ∀ (ow : Ow) (vs : List V) (σ : L2.St) (H : Hp) (Q : L2.St -> Hp -> Prop), σ.length = X.N.length -> aQ X ow H σ ρ -> af X.K H (fun a b => b = true -> ow a = none) ds vs -> (∀ σ', σ'.length = X.N.length -> aQ X ow H σ' ρ' -> Q σ' H) -> t vs σ H Q
  | [], [], ρ, ρ', h => by
    rw [aS] at h; cases h
    refine ⟨_, sS, rfl, rfl, fun ow vs σ H Q hl E r q => ?_⟩
    rw [af] at r
    exact ⟨r, q σ hl E⟩
  | .Name x p :: es, d :: ds, ρ, ρ', h => by
    rw [aS] at h
    split at h
    . rename_i hx
      obtain ⟨t, h1, h2, h3, h4⟩ := jp G h
      obtain ⟨g1, g2, g3, i, g4⟩ := eJ G hx
      refine ⟨_, lI (g9 (i := i) G.nd g4 g1 g3) h1 rfl, ?_, ?_, fun ow vs σ H Q hl E r q => ?_⟩
      . show (assignEach es X.env).length + 1 = ds.length + 1
        rw [h2]
      . show List.findIdx? (·.1) ((false, _) :: assignEach es X.env) = none
        rw [List.findIdx?_cons, h3]; rfl
      . rw [af] at r
        obtain ⟨v, vr, rfl, r1, r2⟩ := r
        refine ⟨v, vr, rfl, ?_⟩
        exact h4 ow vr _ H Q (by rw [List.length_set]; exact hl) (dO G.nd hl E g4 g2 r1) r2 q
    . cases h
  | [], _ :: _, ρ, ρ', h => by simp [aS] at h
  | .Name _ _ :: _, [], ρ, ρ', h => by simp [aS] at h
  | .BoolOp .. :: _, ds, ρ, ρ', h => by cases ds <;> simp [aS] at h
  | .NamedExpr .. :: _, ds, ρ, ρ', h => by cases ds <;> simp [aS] at h
  | .BinOp .. :: _, ds, ρ, ρ', h => by cases ds <;> simp [aS] at h
  | .UnaryOp .. :: _, ds, ρ, ρ', h => by cases ds <;> simp [aS] at h
  | .Lambda .. :: _, ds, ρ, ρ', h => by cases ds <;> simp [aS] at h
  | .IfExp .. :: _, ds, ρ, ρ', h => by cases ds <;> simp [aS] at h
  | .Dict .. :: _, ds, ρ, ρ', h => by cases ds <;> simp [aS] at h
  | .Set .. :: _, ds, ρ, ρ', h => by cases ds <;> simp [aS] at h
  | .ListComp .. :: _, ds, ρ, ρ', h => by cases ds <;> simp [aS] at h
  | .SetComp .. :: _, ds, ρ, ρ', h => by cases ds <;> simp [aS] at h
  | .DictComp .. :: _, ds, ρ, ρ', h => by cases ds <;> simp [aS] at h
  | .GeneratorExp .. :: _, ds, ρ, ρ', h => by cases ds <;> simp [aS] at h
  | .Await .. :: _, ds, ρ, ρ', h => by cases ds <;> simp [aS] at h
  | .Yield .. :: _, ds, ρ, ρ', h => by cases ds <;> simp [aS] at h
  | .YieldFrom .. :: _, ds, ρ, ρ', h => by cases ds <;> simp [aS] at h
  | .Compare .. :: _, ds, ρ, ρ', h => by cases ds <;> simp [aS] at h
  | .Call .. :: _, ds, ρ, ρ', h => by cases ds <;> simp [aS] at h
  | .FormattedValue .. :: _, ds, ρ, ρ', h => by cases ds <;> simp [aS] at h
  | .JoinedStr .. :: _, ds, ρ, ρ', h => by cases ds <;> simp [aS] at h
  | .Constant .. :: _, ds, ρ, ρ', h => by cases ds <;> simp [aS] at h
  | .Attribute .. :: _, ds, ρ, ρ', h => by cases ds <;> simp [aS] at h
  | .Subscript .. :: _, ds, ρ, ρ', h => by cases ds <;> simp [aS] at h
  | .Starred .. :: _, ds, ρ, ρ', h => by cases ds <;> simp [aS] at h
  | .List .. :: _, ds, ρ, ρ', h => by cases ds <;> simp [aS] at h
  | .Tuple .. :: _, ds, ρ, ρ', h => by cases ds <;> simp [aS] at h
  | .Slice .. :: _, ds, ρ, ρ', h => by cases ds <;> simp [aS] at h
theorem zm {Φ : Fx} {sc : Scope} {tg : Expr} {d : D} {ρ ρ' : ai} (G : aT Φ X sc) (h : bN sc tg d ρ = some ρ') : GD X ρ tg d ρ' := by
  unfold bN at h
  split at h
  . split at h
    . rename_i x p hx
      cases h
      obtain ⟨g1, g2, g3, i, g4⟩ := eJ G hx
      exact ⟨_, g9 (i := i) G.nd g4 g1 g3, fun ow v σ H Q hl E r q => q _ (by rw [List.length_set]; exact hl) (dO G.nd hl E g4 g2 r)⟩
    . cases h
  . split at h
    . obtain ⟨t, h1, h2, h3, h4⟩ := jp G h
      refine ⟨_, qo (n := _) G.calm h1 h2 h3, fun ow v σ H Q hl E r q => ?_⟩
      obtain ⟨a, vs, rfl, hs, rl⟩ := dX r
      exact ⟨a, vs, rfl, hs, rl.length.symm, h4 ow vs σ H Q hl E rl q⟩
    . cases h
  . cases h
theorem tZ {c : Expr} {cs : List Expr} {env : Env} {M : Model} {A : Around} {E : Value -> Shared -> Prop} {s : Shared} {Q : Bool -> Shared -> Prop}
    (h : wpAny M A (isTrue c env (eval c env)) (fun b s' => if b = true then wpAny M A (ge cs env) Q E s' else Q false s') E s) : wpAny M A (ge (c :: cs) env) Q E s := by
  have no : ∀ (l : List Expr) (s : Shared), Q false s -> wpAny M A (forIn l false fun c r => if r = true then do let ok <- isTrue c env (eval c env); pure (ForInStep.yield ok) else pure (ForInStep.yield r)) Q E s := by
    intro l
    induction l with
    | nil => intro s h; exact wpAny_pure h
    | cons x l ih =>
      intro s h
      rw [List.forIn_cons]
      simp only [Bool.false_eq_true, if_false]
      exact wpAny_bind (wpAny_pure (ih s h))
  unfold ge
  rw [List.forIn_cons]
  simp only [if_true]
  refine wpAny_bind (wpAny_bind (wpAny_mono h (fun b s' hb => wpAny_pure ?_) fun _ _ x => x))
  cases b with
  | true => exact hb
  | false => exact no cs s' hb
theorem vi {ρ : ai} : wF X ρ [] true := fun ow pins s σ H Q I ⟨E, q⟩ => wpAny_pure ⟨H, I, q H (ay.refl _)⟩
theorem nG {ρ : ai} {c : Expr} {cs : List Expr} {b b' : Bool} (h : TD X ρ c b) (h' : if b = true then wF X ρ cs b' else b' = false) : wF X ρ (c :: cs) b' := by
  intro ow pins s σ H Q I ⟨E, q⟩
  refine tZ (aM (h ow pins s σ H (fun t H1 => t = b /\ ay H H1) I ⟨E, fun H1 s1 => ⟨rfl, s1⟩⟩) fun t s1 ⟨H1, I1, e, sm⟩ => ?_)
  subst e
  cases t with
  | true =>
    rw [if_pos rfl] at h' ⊢
    exact h' ow pins s1 σ H1 Q I1 ⟨E.same sm, fun H2 s2 => q H2 (sm.trans s2)⟩
  | false =>
    rw [if_neg Bool.false_ne_true] at h' ⊢
    subst h'
    exact ⟨H1, I1, q H1 sm⟩
end Sp
namespace Sp
open PySem PySem.Spec PyProof.Rows L2
variable {X : Cx}
structure eI (X : Cx) (ρ : ai) (e : Expr) (it : Bool) (d : D) (k : Nat) : Prop where
  ed : it = false -> ED X ρ e d k
  td : it = false -> ∀ b, d = .bl b -> TD X ρ e b
  ie : it = true -> ∀ tg l, items d = some l -> ee e tg = true -> IE X ρ tg e l k
theorem eI.of {ρ : ai} {e : Expr} {it : Bool} {d : D} {k : Nat} (h : ED X ρ e d k) (t : ∀ b, d = .bl b -> TD X ρ e b) : eI X ρ e it d k := ⟨fun _ => h, fun _ => t, fun _ tg l hi _ => Gx h hi⟩
theorem mW {Φ : Fx} {e : Expr} {it : Bool} {sc : Scope} {ρ : ai} {r : D × Nat} {l : List Prop} (h : au Φ e it sc ρ = .ok r l) : ∀ x p, e ≠ .Starred x p := by
  intro x p z; subst z; cases h
theorem cG {Φ : Fx} {sc : Scope} {ρ : ai} : ∀ {es : List Expr} {r : List D × Nat} {l : List Prop}, bX Φ es sc ρ = .ok r l -> aE l -> (∀ e ∈ es, ∀ x p, e ≠ .Starred x p) /\ es.length = r.1.length
  | [], r, l, h, _ => by cases h; exact ⟨fun e he => (by cases he), rfl⟩
  | e :: es, r, l, h, hp => by
    obtain ⟨p, l1, l2, h1, p1, h, p2⟩ := aK h hp
    obtain ⟨q, l3, l4, h2, p3, h, p4⟩ := aK h p2
    cases h
    obtain ⟨i1, i2⟩ := cG h2 p3
    refine ⟨fun e' he => ?_, by rw [List.length_cons, List.length_cons, i2]⟩
    rcases List.mem_cons.mp he with rfl | he
    . exact mW h1
    . exact i1 e' he
theorem Gq {d : D} {k : Nat} : kn d k = 0 \/ kn d k = k := by
  unfold kn; split
  . exact .inl rfl
  . exact .inr rfl
theorem wq {sc scope : Scope} (h : lv sc scope = true) : scope.kind = .function /\ (∀ y ∈ scope.names, y.2 = .local -> scope.names.lookup y.1 = some .local) /\
    (∀ y ∈ scope.names, y.2 = .free -> sc.names.lookup y.1 = some .cell \/ sc.names.lookup y.1 = some .free) /\ (scope.names.map (·.1)).Nodup := by
  unfold lv at h
  simp only [Bool.and_eq_true, List.all_eq_true, decide_eq_true_eq, Bool.or_eq_true] at h
  obtain ⟨⟨⟨h1, h3⟩, h4⟩, h5⟩ := h
  refine ⟨h1, fun y hy e => (h3 y hy).resolve_left (fun z => z e), fun y hy e => ?_, h5⟩
  rcases h4 y hy with (q | q) | q
  . exact absurd e q
  . exact .inl q.2
  . exact .inr q
theorem cM {env : Env} : ∀ {names : List (Str × NameKind)} {x : Str} {k0 : NameKind}, k0 ≠ .free -> names.lookup x = some k0 ->
    (names.map fun (n, k) => if (k == NameKind.free && env.scope.kind == .function && env.kindOf n == some .cell) then (n, NameKind.cell) else (n, k)).lookup x = some k0
  | [], _, _, _, h => by simp at h
  | (n, k) :: r, x, k0, hk, h => by
    have ih := @cM env r x k0 hk
    show List.lookup x ((if (k == NameKind.free && env.scope.kind == .function && env.kindOf n == some .cell) = true then (n, NameKind.cell) else (n, k)) :: _) = _
    cases hx : x == n with
    | true =>
      simp only [List.lookup_cons, hx] at h
      cases h
      have : (k == NameKind.free) = false := by simpa using hk
      simp [List.lookup_cons, hx, this]
    | false =>
      simp only [List.lookup_cons, hx] at h
      by_cases hc : (k == NameKind.free && env.scope.kind == .function && env.kindOf n == some .cell) = true
      . rw [if_pos hc]; simp only [List.lookup_cons, hx]; exact ih h
      . rw [if_neg hc]; simp only [List.lookup_cons, hx]; exact ih h
theorem mB {names : List (Str × NameKind)} : ∀ {x : Str} {k : NameKind}, names.lookup x = some k -> x ∈ names.map (·.1) := fun {x k} h => List.mem_map.mpr ⟨_, PySem.mem_of_lookup h, rfl⟩
theorem Bb {Φ : Fx} {sc scope : Scope} {cl : List (Str × Addr)} {C : Addr} {s : Shared} {H : Hp} {fp : List Addr} (G : aT Φ X sc) (h : lv sc scope = true) : aT Φ (jA X scope cl C (scope.names.map (·.1)) s H fp) scope := by
  obtain ⟨h1, h3, h4, h5⟩ := wq h
  refine ⟨G.calm, h5, fun x hx => ?_, fun x hx => ?_, fun x hx => lookup_relabel_local hx, fun x hx => cM (by decide) hx, fun g F hg => G.fn g F hg, G.con, G.blt, G.itr, G.mth, G.mtt, G.slf, G.fld, G.omt, G.bl, G.room, fun x hx => ?_, fun x hx => decide_eq_true hx⟩
  . exact cM (by decide) hx
  . rcases hx with hx | hx
    . exact .inl (cM (by decide) hx)
    . exact cN hx
  . unfold cQ at hx
    rw [Bool.or_eq_true] at hx
    rcases hx with hx | hx <;> exact mB (by simpa using hx)
theorem wl {Φ : Fx} {sc scope : Scope} (G : aT Φ X sc) (h : lv sc scope = true) : fC X.env scope (scope.names.map (·.1)) := by
  obtain ⟨h1, h3, h4, h5⟩ := wq h
  exact ⟨h1, h5, h3, h5, fun n hn => G.kc n (h4 (n, .free) hn rfl)⟩
theorem Gs : ∀ {a b : Nat}, kj a b <= 1 -> a <= kj a b /\ b <= kj a b
  | 0, 0, _ => by decide
  | 0, 1, _ => by decide
  | 0, 2, h => absurd h (by decide)
  | 0, _ + 3, h => by rw [kj] at h; omega
  | 1, 0, _ => by decide
  | 1, 1, _ => by decide
  | 1, 2, h => absurd h (by decide)
  | 1, _ + 3, h => absurd h (by rw [kj] <;> simp)
  | 2, 0, h => absurd h (by decide)
  | 2, 1, h => absurd h (by decide)
  | 2, 2, h => absurd h (by decide)
  | 2, _ + 3, h => absurd h (by rw [kj] <;> simp)
  | _ + 3, 0, h => by rw [kj] at h <;> simp_all <;> omega
  | _ + 3, 1, h => absurd h (by rw [kj] <;> simp)
  | _ + 3, 2, h => absurd h (by rw [kj] <;> simp)
  | _ + 3, _ + 3, h => absurd h (by rw [kj] <;> simp)
theorem Kp.up {ow : Ow} {H : Hp} (o : dW ow H) {a : Addr} {b : Bool} : ∀ {i j : Nat}, i <= j -> j <= 1 -> Kp ow H i a b -> Kp ow H j a b
  | 0, 0, _, _, p => p
  | 0, 1, _, _, p => fun _ => o.free p.2
  | 1, 1, _, _, p => p
  | 1, 0, h, _, _ => absurd h (by omega)
  | _ + 2, _, h, g, _ => absurd h (by omega)
  | 0, _ + 2, _, g, _ => absurd g (by omega)
  | 1, _ + 2, _, g, _ => absurd g (by omega)
theorem ED.up {ρ : ai} {e : Expr} {d : D} {i j : Nat} (h : ED X ρ e d i) (h1 : i <= j) (h2 : j <= 1) : ED X ρ e d j := fun ow => bz (h ow) fun σ H Q ⟨E, q⟩ => ⟨E, fun v H' s r => q v H' s (r.imp fun a b p => Kp.up E.own h1 h2 p)⟩
def pk (step : D -> Rs (Option (D × Nat))) (d : D) : Option D := match step d with | .ok (some p) _ => some p.1 | _ => none
theorem rk {step : D -> Rs (Option (D × Nat))} : ∀ {ds : List D} {r : List D × Nat} {l : List Prop}, fk step ds = .ok r l -> aE l ->
    (∀ d ∈ ds, ∃ r l, step d = .ok r l /\ aE l) /\ r.1 = ds.filterMap (pk step) /\ (r.2 <= 1 -> ∀ d ∈ ds, ∀ p l, step d = .ok (some p) l -> p.2 <= r.2)
  | [], r, l, h, _ => by
    cases h
    exact ⟨fun d hd => (by cases hd), rfl, fun _ d hd => (by cases hd)⟩
  | d :: ds, r, l, h, hp => by
    obtain ⟨x, l1, l2, h1, p1, h, p2⟩ := aK h hp
    obtain ⟨q, l3, l4, h2, p3, h, p4⟩ := aK h p2
    obtain ⟨i1, i2, i3⟩ := rk h2 p3
    have i1' : ∀ y ∈ d :: ds, ∃ r l, step y = .ok r l /\ aE l := fun y hy => by
      rcases List.mem_cons.mp hy with rfl | hy
      . exact ⟨_, _, h1, p1⟩
      . exact i1 y hy
    cases x with
    | none =>
      cases h
      refine ⟨i1', ?_, fun hj x hx y i e => ?_⟩
      . rw [List.filterMap_cons_none (by unfold pk; rw [h1])]; exact i2
      . rcases List.mem_cons.mp hx with rfl | hx
        . rw [h1] at e; cases e
        . exact i3 hj x hx y i e
    | some p =>
      cases h
      refine ⟨i1', ?_, fun hj x hx y i e => ?_⟩
      . rw [List.filterMap_cons_some (by unfold pk; rw [h1]), i2]
      . obtain ⟨a1, a2⟩ := Gs hj
        rcases List.mem_cons.mp hx with rfl | hx
        . rw [h1] at e; cases e; exact a1
        . exact Nat.le_trans (i3 (Nat.le_trans a2 hj) x hx y i e) a2
end Sp
namespace Sp
open PySem PySem.Spec PyProof.Rows L2
theorem bH {X : Cx} {ρ : ai} {e : Expr} {it : Bool} {d : D} {k : Nat} (h : ED X ρ e d k) (he : ∀ whole, isTrue e X.env whole = (do let v <- whole; standAt e.pos; holding [v] (truthy v))) : eI X ρ e it d k := .of h fun b hb => by subst hb; exact FP h he
theorem Cj {X : Cx} {ρ : ai} {a b : Expr} {op : CmpOp} {pos : Pos} {x y : D} {r : Bool} {k j : Nat} {o : List Prop} (hu : X.A.units + 70 < cLine) (ha : ED X ρ a x k) (hb : ED X ρ b y j) (h : iQ op x y = .ok r o) (hp : aE o) (hm : behindInMarks op b = false) : TD X ρ (.Compare a [op] [b] pos) r := by
  have c := ii (X := X) hu h hp
  intro ow pins s σ H Q I ⟨E, q⟩
  refine wpAny_isTrue_Compare1 (GV (ha ow) (hb ow) I (R := fun v u H2 => ay H H2 /\ ag X.K H2 (fun _ _ => True) x v /\ ag X.K H2 (fun _ _ => True) y u) ⟨E, fun v H1 s1 r1 => ⟨E.same s1, fun u H2 s2 r2 => ⟨s1.trans s2, (r1.imp fun _ _ _ => True.intro).same s2, r2.imp fun _ _ _ => True.intro⟩⟩⟩ fun v u s2 x y H2 I2 rx ry ⟨sm, r1, r2⟩ => ?_) hm
  refine aM (c _ _ pins s2 σ H2 x y v u (fun w H' => w = .bl r /\ H2 = H') I2 rx ry ⟨r1, r2, rfl, rfl⟩) fun u' s3 ⟨w, H3, I3, r3, e1, e2⟩ => ?_
  subst e1 e2
  cases (show u' = Value.bool r from r3)
  exact wpAny_truthy_bool ⟨H2, I3, q H2 sm⟩
theorem wT {X : Cx} {ρ : ai} {a b c : Expr} {op op2 : CmpOp} {pos : Pos} {x y z : Int} {r r2 : Bool} {k j i : Nat} (hu : X.A.units + 70 < cLine) (ha : ED X ρ a (.int x) k) (hb : ED X ρ b (.int y) j) (hc : ED X ρ c (.int z) i) (h : ff op x y = some r) (h2 : ff op2 y z = some r2) (hm : behindInMarks op2 c = false) : TD X ρ (.Compare a [op, op2] [b, c] pos) (r && r2) := by
  have c1 := ii (X := X) hu (mY h) (show aE [] from True.intro)
  have c2 := ii (X := X) hu (mY h2) (show aE [] from True.intro)
  refine fun ow => u6 (xa (c1 (fun _ _ => True) (fun _ _ => True)) (c2 (fun _ _ => True) (fun _ _ => True)) (ha ow) (hb ow) (hc ow) hm) fun σ H Q ⟨E, q⟩ => ⟨E, fun v H1 s1 r1 => ⟨E.same s1, fun u H2 s2 r2 => ?_⟩⟩
  rw [ag] at r1 r2
  subst r1 r2
  refine ⟨by rw [ag], by rw [ag], r, rfl, ?_⟩
  cases r with
  | false => exact ⟨false, rfl, q H2 (s1.trans s2)⟩
  | true =>
    rw [if_pos rfl]
    refine ⟨(E.same s1).same s2, fun w H3 s3 r3 => ?_⟩
    rw [ag] at r3
    subst r3
    exact ⟨by rw [ag], by rw [ag], _, rfl, q H3 ((s1.trans s2).trans s3)⟩
theorem Ci {X : Cx} {ρ : ai} {a : Expr} {pos : Pos} {b : Bool} (h : TD X ρ a b) : TD X ρ (.UnaryOp .Not a pos) (!b) := fun ow => u6 (CD (h ow)) fun σ H Q ⟨E, q⟩ => ⟨E, fun H1 s1 => q H1 s1⟩
structure dA (X : Cx) (ρ : ai) (op : BoolOp) (es : List Expr) (b : Bool) : Prop where
  ed : es ≠ [] -> ∀ pos, ED X ρ (.BoolOp op es pos) (.bl b) 0
  tw : es ≠ [] -> ∀ pos ow, PW X (.BoolOp op es pos) (yN X ow ρ b)
  ts : op = .And -> wF X ρ es b
theorem fo {X : Cx} {ρ : ai} {op : BoolOp} {e : Expr} {b : Bool} {k : Nat} (h : ED X ρ e (.bl b) k) (t : TD X ρ e b) : dA X ρ op [e] b := by
  have h0 : ED X ρ e (.bl b) 0 := by
    have := h.kn
    rw [show kn (.bl b) k = 0 from rfl] at this
    exact this
  refine ⟨fun _ pos ow => CT (h0 ow), fun _ pos ow => ?_, fun _ => nG t (by cases b; rfl; exact vi)⟩
  cases op with
  | And => exact Ag (t ow)
  | Or => exact CB (t ow)
theorem sk {X : Cx} {ρ : ai} {e e2 : Expr} {es : List Expr} {b : Bool} {k : Nat} (h : ED X ρ e (.bl true) k) (t : TD X ρ e true) (r : dA X ρ .And (e2 :: es) b) : dA X ρ .And (e :: e2 :: es) b := by
  refine ⟨fun _ pos ow => ?_, fun _ pos ow => ?_, fun _ => nG t (by rw [if_pos rfl]; exact r.ts rfl)⟩
  . refine bz (vy (h ow) (r.ed (by simp) pos ow)) fun σ H Q ⟨E, q⟩ => ⟨E, fun v H1 s1 r1 => ?_⟩
    rw [ag] at r1
    exact ⟨true, r1, by rw [if_pos rfl]; exact ⟨E.same s1, fun w H2 s2 r2 => q w H2 (s1.trans s2) (r2.imp (Kp.back s1 0))⟩⟩
  . intro wh pins s σ H Q I hq
    exact vq (t ow) (r.tw (by simp) pos ow) wh pins s σ H Q I ⟨hq.1, fun H1 s1 => by dsimp only; rw [if_pos rfl]; exact ⟨hq.1.same s1, fun H2 s2 => hq.2 H2 (s1.trans s2)⟩⟩
theorem rB {X : Cx} {ρ : ai} {e e2 : Expr} {es : List Expr} {k : Nat} (h : ED X ρ e (.bl false) k) (t : TD X ρ e false) (ne : ∀ pos, ∃ t, PE X (.BoolOp .And (e2 :: es) pos) t) (nw : ∀ pos, ∃ t, PW X (.BoolOp .And (e2 :: es) pos) t) : dA X ρ .And (e :: e2 :: es) false := by
  refine ⟨fun _ pos ow => ?_, fun _ pos ow => ?_, fun _ => nG t (by rw [if_neg Bool.false_ne_true])⟩
  . obtain ⟨t2, h2⟩ := ne pos
    refine bz (vy (h ow) h2) fun σ H Q ⟨E, q⟩ => ⟨E, fun v H1 s1 r1 => ?_⟩
    rw [ag] at r1
    exact ⟨false, r1, by rw [if_neg Bool.false_ne_true]; exact q _ H1 s1 (by rw [ag])⟩
  . obtain ⟨t2, h2⟩ := nw pos
    intro wh pins s σ H Q I hq
    exact vq (t ow) h2 wh pins s σ H Q I ⟨hq.1, fun H1 s1 => by dsimp only; rw [if_neg Bool.false_ne_true]; exact hq.2 H1 s1⟩
theorem uO {X : Cx} {ρ : ai} {e e2 : Expr} {es : List Expr} {b : Bool} {k : Nat} (h : ED X ρ e (.bl false) k) (t : TD X ρ e false) (r : dA X ρ .Or (e2 :: es) b) : dA X ρ .Or (e :: e2 :: es) b := by
  refine ⟨fun _ pos ow => ?_, fun _ pos ow => ?_, fun z => by cases z⟩
  . refine bz (y6 (h ow) (r.ed (by simp) pos ow)) fun σ H Q ⟨E, q⟩ => ⟨E, fun v H1 s1 r1 => ?_⟩
    rw [ag] at r1
    exact ⟨false, r1, by rw [if_neg Bool.false_ne_true]; exact ⟨E.same s1, fun w H2 s2 r2 => q w H2 (s1.trans s2) (r2.imp (Kp.back s1 0))⟩⟩
  . intro wh pins s σ H Q I hq
    exact yW (t ow) (r.tw (by simp) pos ow) wh pins s σ H Q I ⟨hq.1, fun H1 s1 => by dsimp only; rw [if_neg Bool.false_ne_true]; exact ⟨hq.1.same s1, fun H2 s2 => hq.2 H2 (s1.trans s2)⟩⟩
theorem sj {X : Cx} {ρ : ai} {e e2 : Expr} {es : List Expr} {k : Nat} (h : ED X ρ e (.bl true) k) (t : TD X ρ e true) (ne : ∀ pos, ∃ t, PE X (.BoolOp .Or (e2 :: es) pos) t) (nw : ∀ pos, ∃ t, PW X (.BoolOp .Or (e2 :: es) pos) t) : dA X ρ .Or (e :: e2 :: es) true := by
  refine ⟨fun _ pos ow => ?_, fun _ pos ow => ?_, fun z => by cases z⟩
  . obtain ⟨t2, h2⟩ := ne pos
    refine bz (y6 (h ow) h2) fun σ H Q ⟨E, q⟩ => ⟨E, fun v H1 s1 r1 => ?_⟩
    rw [ag] at r1
    exact ⟨true, r1, by rw [if_pos rfl]; exact q _ H1 s1 (by rw [ag])⟩
  . obtain ⟨t2, h2⟩ := nw pos
    intro wh pins s σ H Q I hq
    exact yW (t ow) h2 wh pins s σ H Q I ⟨hq.1, fun H1 s1 => by dsimp only; rw [if_pos rfl]; exact hq.2 H1 s1⟩
theorem qp {X : Cx} {e : Expr} : PE X e (fun _ _ _ => False) := fun _ _ _ _ _ _ h => h.elim
theorem qj {X : Cx} {e : Expr} : PW X e (fun _ _ _ => False) := fun _ _ _ _ _ _ _ h => h.elim
theorem zy {op : CmpOp} {b : Expr} {Φ : Fx} {sc : Scope} {ρ : ai} {r : D × Nat} {it : Bool} {l : List Prop} (h : au Φ b it sc ρ = .ok r l) : behindInMarks op b = false := by
  cases b <;> first | rfl | cases h
theorem tt {sc : Scope} {x z : Str} (h : cQ sc z = true) (hx : sc.names.lookup x = some .free) : x ≠ z := by
  intro e; subst e
  unfold cQ at h
  rw [hx] at h
  revert h; decide
theorem uP {sc : Scope} : ∀ {es : List Expr} {ds : List D} {ρ ρ' : ai}, aS sc es ds ρ = some ρ' -> ∀ x y, sc.names.lookup x = some .free -> ρ x = some y -> ρ' x = some y := by
  intro es
  induction es with
  | nil =>
    intro ds ρ ρ' h x y hx hl
    cases ds with
    | nil => rw [aS] at h; cases h; exact hl
    | cons d ds => cases h
  | cons e es ih =>
    intro ds ρ ρ' h x y hx hl
    cases ds with
    | nil => cases e <;> cases h
    | cons d ds =>
      cases e with
      | Name z p =>
        rw [aS] at h
        split at h
        . rename_i hz
          exact ih h x y hx (by rw [cW, if_neg (tt hz hx)]; exact hl)
        . cases h
      | _ => cases h
theorem wr {sc : Scope} {tg : Expr} {d : D} {ρ ρ' : ai} (h : bN sc tg d ρ = some ρ') : ∀ x y, sc.names.lookup x = some .free -> ρ x = some y -> ρ' x = some y := by
  intro x y hx hl
  unfold bN at h
  split at h
  . split at h
    . rename_i hz
      cases h
      rw [cW, if_neg (tt hz hx)]; exact hl
    . cases h
  . split at h
    . exact uP h x y hx hl
    . cases h
  . cases h
theorem oS {Φ : Fx} {e : Expr} {it : Bool} {sc : Scope} {ρ : ai} {r : D × Nat} {l : List Prop} {env : Env} (h : au Φ e it sc ρ = .ok r l) (x : Value) : foldedSetIterable e env x = pure x := by
  cases e <;> first | rfl | cases h
mutual
theorem qA : ∀ x y : D, nQ true x y = x
  | .int _, .int _ => rfl
  | .bl _, .bl _ => rfl
  | .tup l, .tup m => by
    show (if l.length = m.length then D.tup (js true l m) else cond true (.tup l) (.tup m)) = .tup l
    split
    . rename_i h; rw [vE l m h]
    . rfl
  | .non, _ => rfl
  | .str _, _ => rfl
  | .dct _ _, _ => rfl
  | .lst _, _ => rfl
  | .typ _, _ => rfl
  | .sn _, _ => rfl
  | .obj _ _ _, _ => rfl
  | .cls _, _ => rfl
  | .int _, .non => rfl
  | .int _, .bl _ => rfl
  | .int _, .str _ => rfl
  | .int _, .dct _ _ => rfl
  | .int _, .typ _ => rfl
  | .int _, .sn _ => rfl
  | .int _, .obj _ _ _ => rfl
  | .int _, .cls _ => rfl
  | .int _, .tup _ => rfl
  | .int _, .lst _ => rfl
  | .bl _, .non => rfl
  | .bl _, .int _ => rfl
  | .bl _, .str _ => rfl
  | .bl _, .dct _ _ => rfl
  | .bl _, .typ _ => rfl
  | .bl _, .sn _ => rfl
  | .bl _, .obj _ _ _ => rfl
  | .bl _, .cls _ => rfl
  | .bl _, .tup _ => rfl
  | .bl _, .lst _ => rfl
  | .tup _, .non => rfl
  | .tup _, .int _ => rfl
  | .tup _, .bl _ => rfl
  | .tup _, .str _ => rfl
  | .tup _, .dct _ _ => rfl
  | .tup _, .typ _ => rfl
  | .tup _, .sn _ => rfl
  | .tup _, .obj _ _ _ => rfl
  | .tup _, .cls _ => rfl
  | .tup _, .lst _ => rfl
theorem vE : ∀ l m : List D, l.length = m.length -> js true l m = l
  | [], [], _ => rfl
  | x :: l, y :: m, h => by
    show nQ true x y :: js true l m = x :: l
    rw [qA x y, vE l m (by simpa using h)]
  | [], _ :: _, h => by cases h
  | _ :: _, [], h => by cases h
end
mutual
theorem qB : ∀ x y : D, nQ false x y = y
  | .int _, .int _ => rfl
  | .bl _, .bl _ => rfl
  | .tup l, .tup m => by
    show (if l.length = m.length then D.tup (js false l m) else cond false (.tup l) (.tup m)) = .tup m
    split
    . rename_i h; rw [vF l m h]
    . rfl
  | .non, _ => rfl
  | .str _, _ => rfl
  | .dct _ _, _ => rfl
  | .lst _, _ => rfl
  | .typ _, _ => rfl
  | .sn _, _ => rfl
  | .obj _ _ _, _ => rfl
  | .cls _, _ => rfl
  | .int _, .non => rfl
  | .int _, .bl _ => rfl
  | .int _, .str _ => rfl
  | .int _, .dct _ _ => rfl
  | .int _, .typ _ => rfl
  | .int _, .sn _ => rfl
  | .int _, .obj _ _ _ => rfl
  | .int _, .cls _ => rfl
  | .int _, .tup _ => rfl
  | .int _, .lst _ => rfl
  | .bl _, .non => rfl
  | .bl _, .int _ => rfl
  | .bl _, .str _ => rfl
  | .bl _, .dct _ _ => rfl
  | .bl _, .typ _ => rfl
  | .bl _, .sn _ => rfl
  | .bl _, .obj _ _ _ => rfl
  | .bl _, .cls _ => rfl
  | .bl _, .tup _ => rfl
  | .bl _, .lst _ => rfl
  | .tup _, .non => rfl
  | .tup _, .int _ => rfl
  | .tup _, .bl _ => rfl
  | .tup _, .str _ => rfl
  | .tup _, .dct _ _ => rfl
  | .tup _, .typ _ => rfl
  | .tup _, .sn _ => rfl
  | .tup _, .obj _ _ _ => rfl
  | .tup _, .cls _ => rfl
  | .tup _, .lst _ => rfl
theorem vF : ∀ l m : List D, l.length = m.length -> js false l m = m
  | [], [], _ => rfl
  | x :: l, y :: m, h => by
    show nQ false x y :: js false l m = y :: m
    rw [qB x y, vF l m (by simpa using h)]
  | [], _ :: _, h => by cases h
  | _ :: _, [], h => by cases h
end
theorem zf {k j : Nat} : vX true k j = k := by unfold vX; split <;> rfl
theorem zg {k j : Nat} : vX false k j = j := by
  unfold vX; split
  . assumption
  . rfl
theorem tG {t : Bool} {r s : R1} {d : D × Nat} {l : List Prop} (h : zk t r s = .ok d l) (hp : aE l) : ∃ m, (if t = true then r else s) = .ok d m /\ aE m := by
  unfold zk at h
  split at h
  . cases t with
    | true => cases h
    | false => exact ⟨l, h, hp⟩
  . rename_i p m
    split at h
    . cases t with
      | true => exact ⟨l, h, hp⟩
      | false => cases h
    . rename_i q n
      cases h
      obtain ⟨p1, p2⟩ := cX.mp hp
      cases t with
      | true => exact ⟨m, by rw [qA, zf]; rfl, mL p1 rfl⟩
      | false => exact ⟨n, by rw [qB, zg]; rfl, mL p2 rfl⟩
theorem kI {α : Type} {p : D × Nat} {f : Bool -> Rs α} {a : α} {l : List Prop} (h : gH p f = .ok a l) : ∃ b, p.1 = .bl b /\ f b = .ok a l := by
  unfold gH at h
  split at h
  . rename_i b e; exact ⟨b, e, h⟩
  . cases h
theorem xJ {p : D × Nat} {f : Int -> R1} {a : D × Nat} {l : List Prop} (h : iF p f = .ok a l) : ∃ b, p.1 = .int b /\ f b = .ok a l := by
  unfold iF at h
  split at h
  . rename_i b e; exact ⟨b, e, h⟩
  . cases h
structure Ih (Φ : Fx) (n : Nat) : Prop where
  e : ∀ (e : Expr) {it : Bool} {sc : Scope} {ρ : ai} {p : D × Nat} {l : List Prop} {X : Cx}, sizeOf e < n -> au Φ e it sc ρ = .ok p l -> aE l -> aT Φ X sc -> eI X ρ e it p.1 p.2
  es : ∀ (es : List Expr) {sc : Scope} {ρ : ai} {p : List D × Nat} {l : List Prop} {X : Cx}, sizeOf es < n -> bX Φ es sc ρ = .ok p l -> aE l -> aT Φ X sc -> AD X ρ es p.1 p.2
  b : ∀ (op : BoolOp) (es : List Expr) {sc : Scope} {ρ : ai} {b : Bool} {l : List Prop} {X : Cx}, sizeOf es < n -> dh Φ op es sc ρ = .ok b l -> aE l -> aT Φ X sc -> dA X ρ op es b
  o : ∀ (e : Option Expr) {sc : Scope} {ρ : ai} {o : Option Int} {l : List Prop} {X : Cx}, sizeOf e < n -> oT Φ e sc ρ = .ok o l -> aE l -> aT Φ X sc -> OD X ρ e o
theorem aY {a b n : Nat} (h : a < b) (hs : b < n + 1) : a < n := Nat.lt_of_lt_of_le h (Nat.le_of_lt_succ hs)
section
variable {Φ : Fx} {n : Nat} {it : Bool} {sc : Scope} {ρ : ai} {r : D × Nat} {l : List Prop} {X : Cx}
theorem zW {x : Str} {pos : Pos} (h : iE Φ x sc ρ = .ok r l) (G : aT Φ X sc) : eI X ρ (.Name x pos) it r.1 r.2 := by
  unfold iE at h
  split at h
  . rename_i hx
    split at h
    . rename_i hg
      split at h
      . rename_i d hd; cases h; exact bH (Ed G hd hg hx) (fun _ => rfl)
      . split at h
        . rename_i T hT; cases h; exact bH (D5 G hT hg) (fun _ => rfl)
        . cases h
    . split at h
      . rename_i p hl
        unfold mk at h; cases h
        exact bH (Bv (o := p.2) hl hx) (fun _ => rfl)
      . cases h
  . cases h
theorem Cr (I : Ih Φ n) {a b : Expr} {op : Operator} {pos : Pos} (hs : sizeOf (Expr.BinOp a op b pos) < n + 1) (h : au Φ (.BinOp a op b pos) it sc ρ = .ok r l) (hp : aE l) (G : aT Φ X sc) : eI X ρ (.BinOp a op b pos) it r.1 r.2 := by
  obtain ⟨p, l1, l2, h1, p1, h, p2⟩ := aK (show Rs.bnd _ _ = _ from h) hp
  obtain ⟨q, l3, l4, h2, p3, h, p4⟩ := aK h p2
  exact bH (Eg ((I.e a (aY (by simp <;> omega) hs) h1 p1 G).ed rfl) ((I.e b (aY (by simp <;> omega) hs) h2 p3 G).ed rfl) h p4) (fun _ => rfl)
theorem FZ (I : Ih Φ n) {a : Expr} {op : UnaryOp} {pos : Pos} (hs : sizeOf (Expr.UnaryOp op a pos) < n + 1) (h : au Φ (.UnaryOp op a pos) it sc ρ = .ok r l) (hp : aE l) (G : aT Φ X sc) : eI X ρ (.UnaryOp op a pos) it r.1 r.2 := by
  obtain ⟨p, l1, l2, h1, p1, h, p2⟩ := aK (show Rs.bnd _ _ = _ from h) hp
  split at h
  . rename_i z hu
    cases h
    have c := I.e a (aY (by simp <;> omega) hs) h1 p1 G
    refine .of (GM (c.ed rfl) hu) fun b hb => ?_
    have hb : z = .bl b := hb
    subst hb
    unfold vd at hu
    split at hu
    . cases hu
    . rename_i e; cases hu; exact Ci (c.td rfl _ e)
    . cases hu
  . cases h
theorem Cq (I : Ih Φ n) {a b : Expr} {op : CmpOp} {pos : Pos} (hs : sizeOf (Expr.Compare a [op] [b] pos) < n + 1) (h : au Φ (.Compare a [op] [b] pos) it sc ρ = .ok r l) (hp : aE l) (G : aT Φ X sc) : eI X ρ (.Compare a [op] [b] pos) it r.1 r.2 := by
  obtain ⟨p, l1, l2, h1, p1, h, p2⟩ := aK (show Rs.bnd _ _ = _ from h) hp
  obtain ⟨q, l3, l4, h2, p3, h, p4⟩ := aK h p2
  obtain ⟨z, l5, l6, hc, p5, h, p6⟩ := aK h p4
  cases h
  have ca := (I.e a (aY (by simp <;> omega) hs) h1 p1 G).ed rfl
  have cb := (I.e b (aY (by simp <;> omega) hs) h2 p3 G).ed rfl
  exact .of (Ee G.room ca cb hc p5 (zy h2)) fun b' hb' => by cases hb'; exact Cj G.room ca cb hc p5 (zy h2)
theorem wW (I : Ih Φ n) {a b c : Expr} {op op2 : CmpOp} {pos : Pos} (hs : sizeOf (Expr.Compare a [op, op2] [b, c] pos) < n + 1) (h : au Φ (.Compare a [op, op2] [b, c] pos) it sc ρ = .ok r l) (hp : aE l) (G : aT Φ X sc) : eI X ρ (.Compare a [op, op2] [b, c] pos) it r.1 r.2 := by
  obtain ⟨p, l1, l2, h1, p1, h, p2⟩ := aK (show Rs.bnd _ _ = _ from h) hp
  obtain ⟨q, l3, l4, h2, p3, h, p4⟩ := aK h p2
  obtain ⟨t, l5, l6, h3, p5, h, p6⟩ := aK h p4
  obtain ⟨x, y, z, r1, r2, e1, e2, e3, k1, k2, rfl⟩ := BE h
  have ca := (I.e a (aY (by simp <;> omega) hs) h1 p1 G).ed rfl
  have cb := (I.e b (aY (by simp <;> omega) hs) h2 p3 G).ed rfl
  have cc := (I.e c (aY (by simp <;> omega) hs) h3 p5 G).ed rfl
  rw [e1] at ca
  rw [e2] at cb
  rw [e3] at cc
  exact .of (x6 G.room ca cb cc k1 k2 (zy h3)) fun b' hb' => by cases hb'; exact wT G.room ca cb cc k1 k2 (zy h3)
theorem F0 (I : Ih Φ n) {c a b : Expr} {pos : Pos} (hs : sizeOf (Expr.IfExp c a b pos) < n + 1) (h : au Φ (.IfExp c a b pos) it sc ρ = .ok r l) (hp : aE l) (G : aT Φ X sc) : eI X ρ (.IfExp c a b pos) it r.1 r.2 := by
  obtain ⟨p, l1, l2, h1, p1, h, p2⟩ := aK (show Rs.bnd _ _ = _ from h) hp
  obtain ⟨t, ht, h⟩ := kI h
  obtain ⟨m, he, hm⟩ := tG h p2
  have hc := (I.e c (aY (by simp <;> omega) hs) h1 p1 G).td rfl t ht
  cases t with
  | true =>
    rw [if_pos rfl] at he
    have ha := I.e a (aY (by simp <;> omega) hs) he hm G
    refine .of (zt hc (by rw [if_pos rfl]; exact ha.ed rfl)) fun b' hb' => ?_
    intro ow pins s σ H Q I ⟨E, q⟩
    refine isTrue_IfExp (aM (hc ow pins s σ H (fun t H1 => t = true /\ ay H H1) I ⟨E, fun H1 s1 => ⟨rfl, s1⟩⟩) fun t s1 ⟨H1, I1, e1, s1'⟩ => ?_)
    subst e1
    exact ha.td rfl b' hb' ow pins s1 σ H1 Q I1 ⟨E.same s1', fun H2 s2 => q H2 (s1'.trans s2)⟩
  | false =>
    rw [if_neg Bool.false_ne_true] at he
    have hb := I.e b (aY (by simp <;> omega) hs) he hm G
    refine .of (zt hc (by rw [if_neg Bool.false_ne_true]; exact hb.ed rfl)) fun b' hb' => ?_
    intro ow pins s σ H Q I ⟨E, q⟩
    refine isTrue_IfExp (aM (hc ow pins s σ H (fun t H1 => t = false /\ ay H H1) I ⟨E, fun H1 s1 => ⟨rfl, s1⟩⟩) fun t s1 ⟨H1, I1, e1, s1'⟩ => ?_)
    subst e1
    exact hb.td rfl b' hb' ow pins s1 σ H1 Q I1 ⟨E.same s1', fun H2 s2 => q H2 (s1'.trans s2)⟩
theorem mq {Φ : Fx} {e : Expr} {it : Bool} {sc : Scope} {ρ : ai} {r : D × Nat} {l : List Prop} (h : au Φ e it sc ρ = .ok r l) : kO e := by
  cases e <;> first | (intro _ _; rfl) | cases h
theorem yT (I : Ih Φ n) {a i : Expr} {pos : Pos} (hs : sizeOf (Expr.Subscript a i pos) < n + 1) (h : ((au Φ a false sc ρ).bnd fun p => (au Φ i false sc ρ).bnd fun q => iq p q) = .ok r l) (hp : aE l) (G : aT Φ X sc) : eI X ρ (.Subscript a i pos) it r.1 r.2 := by
  obtain ⟨p, l1, l2, h1, p1, h, p2⟩ := aK h hp
  obtain ⟨q, l3, l4, h2, p3, h, p4⟩ := aK h p2
  exact bH (D6 ((I.e a (aY (by simp <;> omega) hs) h1 p1 G).ed rfl) ((I.e i (aY (by simp <;> omega) hs) h2 p3 G).ed rfl) (mq h2) h) (fun _ => rfl)
theorem wV (I : Ih Φ n) {a : Expr} {lo hi : Option Expr} {p2 pos : Pos} (hs : sizeOf (Expr.Subscript a (.Slice lo hi none p2) pos) < n + 1) (h : au Φ (.Subscript a (.Slice lo hi none p2) pos) it sc ρ = .ok r l) (hp : aE l) (G : aT Φ X sc) : eI X ρ (.Subscript a (.Slice lo hi none p2) pos) it r.1 r.2 := by
  obtain ⟨p, l1, l2, h1, p1, h, q2⟩ := aK (show Rs.bnd _ _ = _ from h) hp
  obtain ⟨q, l3, l4, h2, p3, h, p4⟩ := aK h q2
  obtain ⟨q', l5, l6, h3, p5, h, p6⟩ := aK h p4
  exact bH (G.slf X ρ a lo hi p2 pos p.1 r.1 q q' p.2 r.2 l6 ((I.e a (aY (by simp <;> omega) hs) h1 p1 G).ed rfl) (I.o lo (aY (by simp <;> omega) hs) h2 p3 G) (I.o hi (aY (by simp <;> omega) hs) h3 p5 G) h p6) (fun _ => rfl)
theorem Cp (I : Ih Φ n) {a i : Expr} {pos : Pos} (hs : sizeOf (Expr.Subscript a i pos) < n + 1) (h : au Φ (.Subscript a i pos) it sc ρ = .ok r l) (hp : aE l) (G : aT Φ X sc) : eI X ρ (.Subscript a i pos) it r.1 r.2 := by
  cases i with
  | Slice lo hi st p2 =>
    cases st with
    | none => exact wV I hs h hp G
    | some e => exact yT I hs h hp G
  | _ => exact yT I hs h hp G
theorem zX (I : Ih Φ n) {f : Str} {p pos : Pos} {args : List Expr} (hs : sizeOf args < n) (hf : sc.names.lookup f = some .globalImplicit) (h0 : ((bX Φ args sc ρ).bnd fun p => kH Φ f it p.1 p.2) = .ok r l) (hp : aE l) (G : aT Φ X sc) : eI X ρ (.Call (.Name f p) args [] pos) it r.1 r.2 := by
  obtain ⟨q, l1, l2, h1, p1, h, p2⟩ := aK h0 hp
  clear h0
  have ha := I.es args hs h1 p1 G
  obtain ⟨hst, hlen⟩ := cG h1 p1
  unfold kH at h
  split at h
  . rename_i F hF
    obtain ⟨d, l3, l4, h2, p3, h, p4⟩ := aK h p2
    cases h
    exact bH (Bz G hF hf ha hst (fun z => by subst z; exact List.length_eq_zero_iff.mp hlen.symm) h2 p3) (fun _ => rfl)
  . split at h
    . rename_i B hB
      split at hB
      . rename_i hit
        have hI := G.itr f B hB
        refine ⟨fun z => (by rw [hit] at z; cases z), fun z => (by rw [hit] at z; cases z), fun _ tg l' hl ht => ?_⟩
        exact hI.2 X ρ p pos args q.1 q.2 r.1 r.2 l' tg l2 G.calm (G.gl f hf) (G.bl f hI.1) ha hst hlen h p2 hl ht
      . cases hB
    . split at h
      . rename_i B hB
        have hb := G.blt f B hB
        cases args with
        | nil =>
          have e0 : q.1 = [] := List.length_eq_zero_iff.mp hlen.symm
          rw [e0, hb.2.2.2.1] at h; cases h
        | cons e es => exact bH (Ef G hb hf ha hst h p2) (fun _ => rfl)
      . cases h
theorem wX (I : Ih Φ n) {f : Str} {p pos : Pos} {args : List Expr} (hs : sizeOf (Expr.Call (.Name f p) args [] pos) < n + 1) (h : au Φ (.Call (.Name f p) args [] pos) it sc ρ = .ok r l) (hp : aE l) (G : aT Φ X sc) : eI X ρ (.Call (.Name f p) args [] pos) it r.1 r.2 := by
  rw [iL] at h
  split at h
  . rename_i hf
    exact zX I (aY (by simp <;> omega) hs) hf h hp G
  . cases h
theorem wY (I : Ih Φ n) {a : Expr} {m : Str} {ap pos : Pos} {args : List Expr} (hs : sizeOf (Expr.Call (.Attribute a m ap) args [] pos) < n + 1) (h : au Φ (.Call (.Attribute a m ap) args [] pos) it sc ρ = .ok r l) (hp : aE l) (G : aT Φ X sc) : eI X ρ (.Call (.Attribute a m ap) args [] pos) it r.1 r.2 := by
  rw [rf] at h
  split at h
  . rename_i hln
    obtain ⟨p, l1, l2, h1, p1, h, p2⟩ := aK h hp
    obtain ⟨q, l3, l4, h2, p3, h, p4⟩ := aK h p2
    obtain ⟨hst, hlen⟩ := cG h2 p3
    have hea := (I.e a (aY (by simp <;> omega) hs) h1 p1 G).ed rfl
    have hes := I.es args (aY (by simp <;> omega) hs) h2 p3 G
    obtain ⟨x, kx⟩ := p
    unfold xr at h
    dsimp only at h hea
    split at h
    . rename_i n ns es
      split at h
      . rename_i hc
        split at h
        . rename_i F hF
          obtain ⟨d, l5, l6, h3, p5, h, p6⟩ := aK h p4
          cases h
          exact bH (Bw G hF hea hes hst hlen hc.1 hc.2.1 hc.2.2 hln h3 p5) (fun _ => rfl)
        . cases h
      . cases h
    . split at h
      . rename_i hb
        split at h
        . rename_i M hM
          exact bH (G.mth m M hM X ρ a args ap pos x kx q.1 q.2 r.1 r.2 l4 G.calm G.room hea hes hst hlen hln hb h p4) (fun _ => rfl)
        . cases h
      . cases h
  . cases h
theorem zU {elt tg : Expr} {ifs : List Expr} {scope : Scope} {ds : List D} {q : List D × Nat} {m : List Prop} (hE : ∀ {ρ : ai} {p : D × Nat} {l : List Prop} {X : Cx}, au Φ elt false scope ρ = .ok p l -> aE l -> aT Φ X scope -> eI X ρ elt false p.1 p.2)
    (hB : ∀ {ρ : ai} {b : Bool} {l : List Prop} {X : Cx}, dh Φ .And ifs scope ρ = .ok b l -> aE l -> aT Φ X scope -> dA X ρ .And ifs b) (hc : lv sc scope = true) (G : aT Φ X sc)
    (h : fk (fun d => match bN scope tg d (flt scope ρ) with
            | none => .st
            | some ρ' => (dh Φ .And ifs scope ρ').bnd fun b => cond b ((au Φ elt false scope ρ').bnd fun r => .ok (some r) []) (.ok none [])) ds = .ok q m) (hp : aE m) (hj : q.2 <= 1) :
    ∃ f : D -> Option D, q.1 = ds.filterMap f /\ ∀ cl C s H fp, ∀ d ∈ ds, kL (jA X scope cl C (scope.names.map (·.1)) s H fp) (flt scope ρ) tg ifs elt q.2 d (f d) := by
  generalize hst : (fun d => match bN scope tg d (flt scope ρ) with
            | none => .st
            | some ρ' => (dh Φ .And ifs scope ρ').bnd fun b => cond b ((au Φ elt false scope ρ').bnd fun r => .ok (some r) []) (.ok none []) : D -> Rs (Option (D × Nat))) = step at h
  obtain ⟨c1, c2, c3⟩ := rk h hp
  refine ⟨_, c2, fun cl C s H fp d hd => ?_⟩
  have G' := Bb (cl := cl) (C := C) (s := s) (H := H) (fp := fp) G hc
  obtain ⟨x, lx, hx, px⟩ := c1 d hd
  have c3 := c3 hj d hd
  have hs := congrFun hst d
  unfold pk
  rw [hx]
  split at hs
  . rw [<- hs] at hx; cases hx
  . rename_i ρ' hb
    have gd := zm G' hb
    have ext : ∀ x y, flt scope ρ x = some y -> ρ' x = some y := fun x y hxy => wr hb x y (iK hxy).2 hxy
    have hx0 := hx
    rw [<- hs] at hx
    obtain ⟨b, l3, l4, h2, p3, hx, p4⟩ := aK hx px
    have ts := (hB h2 p3 G').ts rfl
    cases b with
    | false =>
      cases hx
      exact ⟨ρ', false, gd, ext, ts, rfl⟩
    | true =>
      rw [cond_true] at hx
      obtain ⟨z, l5, l6, h3, p5, hx, p6⟩ := aK hx p4
      cases hx
      exact ⟨ρ', true, gd, ext, ts, rfl, ((hE h3 p5 G').ed rfl).up (c3 z lx hx0) hj⟩
theorem sJ (I : Ih Φ n) {elt tg iter : Expr} {ifs : List Expr} {scope : Scope} {pos : Pos} (hs : sizeOf (Expr.ListComp elt [⟨tg, iter, ifs, 0⟩] scope pos) < n + 1) (h : au Φ (.ListComp elt [⟨tg, iter, ifs, 0⟩] scope pos) it sc ρ = .ok r l) (hp : aE l) (G : aT Φ X sc) :
    ∃ ds f k, (ao ds = true \/ k <= 1) /\ r.2 <= 1 /\ ds.length < sizeLine /\ fC X.env scope (scope.names.map (·.1)) /\ (∀ x d o, flt scope ρ x = some (d, o) -> x ∈ scope.names.map (·.1)) /\ IE X ρ tg iter ds k /\
      (∀ cl C s H fp, ∀ d ∈ ds, kL (jA X scope cl C (scope.names.map (·.1)) s H fp) (flt scope ρ) tg ifs elt r.2 d (f d)) /\ (∀ x, foldedSetIterable iter X.env x = pure x) /\ r.1 = .lst (ds.filterMap f) := by
  rw [n4] at h
  split at h
  . rename_i hc
    obtain ⟨p, l1, l2, h1, p1, h, p2⟩ := aK h hp
    split at h
    . rename_i ds hd
      split at h
      . rename_i ht
        obtain ⟨u0, l7, l8, h7, p7, h, p8⟩ := aK h p2
        cases h7
        have hl := And.intro p7.1 p7.2.1
        obtain ⟨q, l3, l4, h2, p3, h, p4⟩ := aK h p8
        split at h
        . rename_i hj
          cases h
          obtain ⟨f, e1, t⟩ := zU (fun a b c => I.e elt (by first | omega | (simp at *; omega)) a b c) (fun a b c => I.b .And ifs (by first | omega | (simp at *; omega)) a b c) hc G h2 p3 hj
          refine ⟨ds, f, p.2, hl.2, hj, Nat.lt_of_le_of_lt hl.1 oJ, wl G hc, fun x d o hx => mB (iK hx).2, (I.e iter (by first | omega | (simp at *; omega)) h1 p1 G).ie rfl tg ds hd ht, t, oS h1, by rw [e1]⟩
        . cases h
      . cases h
    . cases h
  . cases h
theorem nX {elt : Expr} {gens : List Comprehension} {scope : Scope} {pos : Pos} (h : au Φ (.ListComp elt gens scope pos) it sc ρ = .ok r l) : ∃ tg iter ifs, gens = [⟨tg, iter, ifs, 0⟩] := by
  match gens, h with
  | [⟨tg, iter, ifs, 0⟩], h => exact ⟨_, _, _, rfl⟩
  | [], h => cases h
  | ⟨_, _, _, .ofNat (n + 1)⟩ :: r, h => cases r <;> cases h
  | ⟨_, _, _, .negSucc n⟩ :: _, h => cases h
  | ⟨_, _, _, 0⟩ :: _ :: _, h => cases h
theorem GH (I : Ih Φ n) (e : Expr) (hs : sizeOf e < n + 1) (h : au Φ e it sc ρ = .ok r l) (hp : aE l) (G : aT Φ X sc) : eI X ρ e it r.1 r.2 := by
  cases e with
  | Constant c k p =>
    replace h : (match zw c with | some d => .ok (d, 0) [] | none => .st : R1) = .ok r l := h
    split at h
    . rename_i d hc; cases h; exact bH (Ec hc) (fun _ => rfl)
    . cases h
  | Name x p => exact zW h G
  | BinOp a op b p => exact Cr I hs h hp G
  | UnaryOp op a p => exact FZ I hs h hp G
  | BoolOp op es p =>
    rw [n5] at h
    split at h
    . cases h
    . rename_i hne
      obtain ⟨b, l1, l2, h1, p1, h, p2⟩ := aK h hp
      cases h
      have ne : es ≠ [] := fun z => hne (by rw [z]; rfl)
      have c := I.b op es (aY (by simp <;> omega) hs) h1 p1 G
      exact .of (c.ed ne p) fun b' hb' => by cases hb'; exact fun ow => (c.tw ne p ow).pt
  | Compare a ops bs p =>
    match ops, bs, hs, h with
    | [op], [b], hs, h => exact Cq I hs h hp G
    | [], bs, _, h => cases h
    | [op], [], _, h => cases h
    | [op], _ :: _ :: _, _, h => cases h
    | [op, op2], [b, c], hs, h => exact wW I hs h hp G
    | [_, _], [], _, h => cases h
    | [_, _], [_], _, h => cases h
    | [_, _], _ :: _ :: _ :: _, _, h => cases h
    | _ :: _ :: _ :: _, bs, _, h => cases h
  | IfExp c a b p => exact F0 I hs h hp G
  | Tuple es k p =>
    obtain ⟨q, l1, l2, h1, p1, h, p2⟩ := aK (show Rs.bnd _ _ = _ from h) hp
    split at h
    . rename_i hl
      unfold mk at h; cases h
      exact bH (rg (I.es es (aY (by simp <;> omega) hs) h1 p1 G) hl) (fun _ => rfl)
    . cases h
  | List es p =>
    obtain ⟨q, l1, l2, h1, p1, h, p2⟩ := aK (show Rs.bnd _ _ = _ from h) hp
    split at h
    . rename_i hl
      cases h
      exact bH (tP (I.es es (aY (by simp <;> omega) hs) h1 p1 G) hl.2 hl.1) (fun _ => rfl)
    . cases h
  | Attribute a f p =>
    cases a with
    | Name x pn =>
      obtain ⟨q, l1, l2, h1, p1, h, p2⟩ := aK (show Rs.bnd _ _ = _ from h) hp
      have hea := (I.e (.Name x pn) (aY (by simp <;> omega) hs) (it := false) h1 p1 G).ed rfl
      obtain ⟨d, kd⟩ := q
      unfold DN at h
      dsimp only at h hea
      split at h
      . rename_i n ns ds
        split at h
        . rename_i hf
          split at h
          . rename_i e hl
            cases h
            exact bH (Ea G hf hea rfl hl) (fun _ => rfl)
          . cases h
        . cases h
      . cases h
    | _ => cases h
  | Dict ks vs p =>
    match ks, vs, h with
    | [], [], h => cases h; exact bH Eb (fun _ => rfl)
    | _ :: _, _, h => cases h
    | [], _ :: _, h => cases h
  | Subscript a i p => exact Cp I hs h hp G
  | Call f args kws p =>
    cases f with
    | Name f fp =>
      cases kws with
      | nil => exact wX I hs h hp G
      | cons _ _ => cases h
    | Attribute a m ap =>
      cases kws with
      | nil => exact wY I hs h hp G
      | cons _ _ => cases h
    | _ => cases h
  | ListComp elt gens scope p =>
    obtain ⟨tg, iter, ifs, rfl⟩ := nX h
    obtain ⟨ds, f, k, a1, a2, a3, a4, a5, a6, a7, a8, a9⟩ := sJ I hs h hp G
    rw [a9]
    exact bH (By G.calm G.nd a1 a2 a3 a4 a5 a6 a7 a8) (fun _ => rfl)
  | _ => cases h
theorem DT (I : Ih Φ n) (es : List Expr) {r : List D × Nat} (hs : sizeOf es < n + 1) (h : bX Φ es sc ρ = .ok r l) (hp : aE l) (G : aT Φ X sc) : AD X ρ es r.1 r.2 := by
  cases es with
  | nil => cases h; exact rM
  | cons e es =>
    obtain ⟨p, l1, l2, h1, p1, h, p2⟩ := aK (show Rs.bnd _ _ = _ from h) hp
    obtain ⟨q, l3, l4, h2, p3, h, p4⟩ := aK h p2
    cases h
    exact fg ((I.e e (aY (by simp <;> omega) hs) h1 p1 G).ed rfl) (I.es es (aY (by simp <;> omega) hs) h2 p3 G) (aV (mW h1))
theorem rK {b c : Bool} {r : Rs Bool} {l : List Prop} (h : uT b r = .ok c l) (hp : aE l) : (b = true /\ ∃ m, r = .ok c m /\ aE m) \/ (b = false /\ c = false) := by
  unfold uT at h
  split at h
  . rename_i c' m
    cases h
    cases b with
    | true => exact .inl ⟨rfl, m, rfl, mL hp rfl⟩
    | false => exact .inr ⟨rfl, rfl⟩
  . cases b with
    | true => cases h
    | false => cases h; exact .inr ⟨rfl, rfl⟩
theorem sT {b c : Bool} {r : Rs Bool} {l : List Prop} (h : y8 b r = .ok c l) (hp : aE l) : (b = false /\ ∃ m, r = .ok c m /\ aE m) \/ (b = true /\ c = true) := by
  unfold y8 at h
  split at h
  . rename_i c' m
    cases h
    cases b with
    | false => exact .inl ⟨rfl, m, rfl, mL hp rfl⟩
    | true => exact .inr ⟨rfl, rfl⟩
  . cases b with
    | false => cases h
    | true => cases h; exact .inr ⟨rfl, rfl⟩
theorem DV (I : Ih Φ n) (op : BoolOp) (es : List Expr) {b : Bool} (hs : sizeOf es < n + 1) (h : dh Φ op es sc ρ = .ok b l) (hp : aE l) (G : aT Φ X sc) : dA X ρ op es b := by
  cases es with
  | nil =>
    cases op with
    | And => cases h; exact ⟨fun z => absurd rfl z, fun z => absurd rfl z, fun _ => vi⟩
    | Or => cases h; exact ⟨fun z => absurd rfl z, fun z => absurd rfl z, fun z => (by cases z)⟩
  | cons e es =>
    cases op with
    | And =>
      obtain ⟨p, l1, l2, h1, p1, h, p2⟩ := aK (show Rs.bnd _ _ = _ from h) hp
      obtain ⟨b', hb, h⟩ := kI h
      have c := I.e e (aY (by simp <;> omega) hs) h1 p1 G
      have ce := c.ed rfl
      rw [hb] at ce
      have ct := c.td rfl b' hb
      rcases rK h p2 with ⟨rfl, m, h, pm⟩ | ⟨rfl, rfl⟩
      . cases es with
        | nil => cases h; exact fo ce ct
        | cons e2 es => exact sk ce ct (I.b .And (e2 :: es) (aY (by simp <;> omega) hs) h pm G)
      . cases es with
        | nil => exact fo ce ct
        | cons e2 es => exact rB ce ct (fun pos => ⟨_, qp⟩) (fun pos => ⟨_, qj⟩)
    | Or =>
      obtain ⟨p, l1, l2, h1, p1, h, p2⟩ := aK (show Rs.bnd _ _ = _ from h) hp
      obtain ⟨b', hb, h⟩ := kI h
      have c := I.e e (aY (by simp <;> omega) hs) h1 p1 G
      have ce := c.ed rfl
      rw [hb] at ce
      have ct := c.td rfl b' hb
      rcases sT h p2 with ⟨rfl, m, h, pm⟩ | ⟨rfl, rfl⟩
      . cases es with
        | nil => cases h; exact fo ce ct
        | cons e2 es => exact uO ce ct (I.b .Or (e2 :: es) (aY (by simp <;> omega) hs) h pm G)
      . cases es with
        | nil => exact fo ce ct
        | cons e2 es => exact sj ce ct (fun pos => ⟨_, qp⟩) (fun pos => ⟨_, qj⟩)
theorem DU (I : Ih Φ n) (e : Option Expr) {o : Option Int} (hs : sizeOf e < n + 1) (h : oT Φ e sc ρ = .ok o l) (hp : aE l) (G : aT Φ X sc) : OD X ρ e o := by
  cases e with
  | none => cases h; exact AH
  | some e =>
    obtain ⟨p, l1, l2, h1, p1, h, p2⟩ := aK (show Rs.bnd _ _ = _ from h) hp
    have c := (I.e e (aY (by simp <;> omega) hs) h1 p1 G).ed rfl
    split at h
    . rename_i i hi
      cases h
      rw [hi] at c
      exact AG c
    . cases h
end
theorem gc (Φ : Fx) : ∀ n, Ih Φ n
  | 0 => ⟨fun _ _ _ _ _ _ _ h => absurd h (Nat.not_lt_zero _), fun _ _ _ _ _ _ h => absurd h (Nat.not_lt_zero _), fun _ _ _ _ _ _ _ h => absurd h (Nat.not_lt_zero _), fun _ _ _ _ _ _ h => absurd h (Nat.not_lt_zero _)⟩
  | n + 1 => ⟨fun e _ _ _ _ _ _ hs h hp G => GH (gc Φ n) e hs h hp G, fun e _ _ _ _ _ hs h hp G => DT (gc Φ n) e hs h hp G, fun op e _ _ _ _ _ hs h hp G => DV (gc Φ n) op e hs h hp G, fun e _ _ _ _ _ hs h hp G => DU (gc Φ n) e hs h hp G⟩
theorem GI {Φ : Fx} (e : Expr) {it : Bool} {sc : Scope} {ρ : ai} {p : D × Nat} {l : List Prop} {X : Cx} (h : au Φ e it sc ρ = .ok p l) (hp : aE l) (G : aT Φ X sc) : eI X ρ e it p.1 p.2 := (gc Φ _).e e (Nat.lt_succ_self _) h hp G
theorem jC {Φ : Fx} (es : List Expr) {sc : Scope} {ρ : ai} {p : List D × Nat} {l : List Prop} {X : Cx} (h : bX Φ es sc ρ = .ok p l) (hp : aE l) (G : aT Φ X sc) : AD X ρ es p.1 p.2 := (gc Φ _).es es (Nat.lt_succ_self _) h hp G
end Sp
namespace Sp
open PySem PySem.Spec PyProof.Rows L2
structure be (ow : Ow) (H : Hp) (ow' : Ow) (H' : Hp) : Prop where
  keep : ∀ a o, H a = some o -> (nm o \/ ow a = none) -> H' a = some o
  low : ∀ a o, H a = some o -> ow a = none -> ow' a = none
theorem be.refl (ow : Ow) (H : Hp) : be ow H ow H := ⟨fun _ _ h _ => h, fun _ _ _ h => h⟩
theorem be.same {ow : Ow} {H H' : Hp} (s : ay H H') : be ow H ow H' := ⟨fun a o h _ => s a o h, fun _ _ _ h => h⟩
theorem be.trans {ow ow1 ow2 : Ow} {H H1 H2 : Hp} (a : be ow H ow1 H1) (b : be ow1 H1 ow2 H2) : be ow H ow2 H2 :=
  ⟨fun x o h c => b.keep x o (a.keep x o h c) (c.imp id fun z => a.low x o h z), fun x o h z => b.low x o (a.keep x o h (.inr z)) (a.low x o h z)⟩
def cT (H0 : Hp) (ow : Ow) (H : Hp) : Prop := ∀ a o, H0 a = some o -> H a = some o /\ ow a = none
theorem cT.keep {H0 : Hp} {ow ow' : Ow} {H H' : Hp} (b : cT H0 ow H) (k : be ow H ow' H') : cT H0 ow' H' := fun a o h => let ⟨h1, h2⟩ := b a o h; ⟨k.keep a o h1 (.inr h2), k.low a o h1 h2⟩
theorem cT.sm {H0 : Hp} {ow : Ow} {H : Hp} (b : cT H0 ow H) : ay H0 H := fun a o h => (b a o h).1
variable {X : Cx}
def om (X : Cx) (H0 : Hp) (ow : Ow) (H : Hp) (fl : Fl) (D : jY) : Prop :=
  match fl with
  | .nx ρ => ∀ ow' σ' H', aQ X ow' H' σ' ρ -> σ'.length = X.N.length -> be ow H ow' H' -> D.nx σ' H'
  | .bk ρ => ∀ ow' σ' H', aQ X ow' H' σ' ρ -> σ'.length = X.N.length -> be ow H ow' H' -> D.bk σ' H'
  | .ct ρ => ∀ ow' σ' H', aQ X ow' H' σ' ρ -> σ'.length = X.N.length -> be ow H ow' H' -> D.ct σ' H'
  | .rt d => ∀ v H', ay H0 H' -> ag X.K H' (fun a b => b = true /\ H0 a = none) d v -> D.rt v H'
theorem om.keep {H0 : Hp} {ow ow' : Ow} {H H' : Hp} {fl : Fl} {D : jY} (p : om X H0 ow H fl D) (k : be ow H ow' H') : om X H0 ow' H' fl D := by
  cases fl with
  | nx ρ => exact fun ow2 σ2 H2 a b c => p ow2 σ2 H2 a b (k.trans c)
  | bk ρ => exact fun ow2 σ2 H2 a b c => p ow2 σ2 H2 a b (k.trans c)
  | ct ρ => exact fun ow2 σ2 H2 a b c => p ow2 σ2 H2 a b (k.trans c)
  | rt d => exact p
def yO (X : Cx) (H0 : Hp) (ρ : ai) (fl : Fl) : TS := fun D σ H => ∃ ow, aQ X ow H σ ρ /\ σ.length = X.N.length /\ cT H0 ow H /\ om X H0 ow H fl D
def SD (X : Cx) (H0 : Hp) (ρ : ai) (st : Stmt) (fl : Fl) : Prop := PS X st (yO X H0 ρ fl)
def fJ (X : Cx) (H0 : Hp) (ρ : ai) (st : List Stmt) (fl : Fl) : Prop := fK X st (yO X H0 ρ fl)
theorem zY {H0 : Hp} {ρ : ai} : fJ X H0 ρ [] (.nx ρ) := fun pins s σ H D I ⟨ow, E, hl, B, q⟩ => Aj pins s σ H D I (q ow σ H E hl (be.refl _ _))
theorem lE {H0 : Hp} {ρ ρ1 : ai} {st : Stmt} {ss : List Stmt} {fl : Fl} (h1 : SD X H0 ρ st (.nx ρ1)) (h2 : fJ X H0 ρ1 ss fl) : fJ X H0 ρ (st :: ss) fl := fun pins s σ H D I ⟨ow, E, hl, B, q⟩ =>
  ql h1 h2 pins s σ H D I ⟨ow, E, hl, B, fun ow' σ' H' E' hl' k => ⟨ow', E', hl', B.keep k, q.keep k⟩⟩
theorem ir {H0 : Hp} {ρ : ai} {st : Stmt} {ss : List Stmt} {fl : Fl} (h1 : SD X H0 ρ st fl) (hf : ∀ ρ', fl ≠ .nx ρ') : fJ X H0 ρ (st :: ss) fl := fun pins s σ H D I ⟨ow, E, hl, B, q⟩ =>
  ql h1 jm pins s σ H D I ⟨ow, E, hl, B, by
    cases fl with
    | nx ρ' => exact absurd rfl (hf ρ')
    | bk ρ' => exact q
    | ct ρ' => exact q
    | rt d => exact q⟩
theorem vo {H0 : Hp} {ρ : ai} {e : Expr} {pos : Pos} {d : D} {k : Nat} (h : ED X ρ e d k) (hk : k = 0 \/ k = 2) : SD X H0 ρ (.Return (some e) pos) (.rt d) := fun pins s σ H D I ⟨ow, E, hl, B, q⟩ =>
  CG (h ow) pins s σ H D I ⟨E, fun v H1 s1 r1 => q v H1 (B.sm.trans s1) (r1.imp fun a b p => by
    rcases hk with rfl | rfl
    . exact ⟨p.1, B.sm.free p.2⟩
    . refine ⟨p.1, p.2.elim (fun z => ?_) B.sm.free⟩
      cases e0 : H0 a with
      | none => rfl
      | some o => exact absurd (B a o e0).2 z)⟩
theorem Ac {H0 : Hp} {ρ : ai} {e : Expr} {pos : Pos} {d : D} {k : Nat} (h : ED X ρ e d k) (hc : ∃ f p args ks cp, e = .Call (.Name f p) args ks cp) : SD X H0 ρ (.Expr e pos) (.nx ρ) := fun pins s σ H D I ⟨ow, E, hl, B, q⟩ => by
  obtain ⟨f, p, args, ks, cp, rfl⟩ := hc
  exact nJ (h ow) rfl pins s σ H D I ⟨E, fun v H1 s1 r1 => q ow σ H1 (E.same s1) hl (be.same s1)⟩
theorem zZ {H0 : Hp} {ρ : ai} {pos : Pos} : SD X H0 ρ (.Return none pos) (.rt .non) := fun pins s σ H D I ⟨ow, E, hl, B, q⟩ => Ak pins s σ H D I (q .non H B.sm (by rw [ag]))
theorem Aa {H0 : Hp} {ρ : ai} {pos : Pos} : SD X H0 ρ (.Pass pos) (.nx ρ) := fun pins s σ H D I ⟨ow, E, hl, B, q⟩ => Al pins s σ H D I (q ow σ H E hl (be.refl _ _))
theorem w9 {H0 : Hp} {ρ : ai} {pos : Pos} : SD X H0 ρ (.Break pos) (.bk ρ) := fun pins s σ H D I ⟨ow, E, hl, B, q⟩ => xc pins s σ H D I (q ow σ H E hl (be.refl _ _))
theorem Ae {H0 : Hp} {ρ : ai} {pos : Pos} : SD X H0 ρ (.Continue pos) (.ct ρ) := fun pins s σ H D I ⟨ow, E, hl, B, q⟩ => r9 pins s σ H D I (q ow σ H E hl (be.refl _ _))
theorem F1 {H0 : Hp} {ρ : ai} {c : Expr} {a b : List Stmt} {pos : Pos} {t : Bool} {fl : Fl} (hc : TD X ρ c t) (h : if t = true then fJ X H0 ρ a fl else fJ X H0 ρ b fl) : SD X H0 ρ (.If c a b pos) fl := by
  cases t with
  | true =>
    intro pins s σ H D I ⟨ow, E, hl, B, q⟩
    exact yX (hc ow) h jm pins s σ H D I ⟨E, fun H1 s1 => by
      show if true = true then _ else _
      rw [if_pos rfl]
      exact ⟨ow, E.same s1, hl, B.keep (be.same s1), q.keep (be.same s1)⟩⟩
  | false =>
    intro pins s σ H D I ⟨ow, E, hl, B, q⟩
    exact yX (hc ow) jm h pins s σ H D I ⟨E, fun H1 s1 => by
      show if false = true then _ else _
      rw [if_neg Bool.false_ne_true]
      exact ⟨ow, E.same s1, hl, B.keep (be.same s1), q.keep (be.same s1)⟩⟩
theorem n6 {ow : Ow} {H H1 : Hp} {σ : L2.St} {ρ : ai} {x : Str} {d : D} {v : V} {i : Nat} (hN : X.N.Nodup) (hl : σ.length = X.N.length) (E : aQ X ow H σ ρ) (sm : ay H H1) (hi : X.N[i]? = some x) (hv : i5 X.env.scope x) (r : ag X.K H1 (Kp ow H 0) d v) :
    ∃ ow', aQ X ow' H1 (σ.set i (some v)) (bv ρ x (d, true)) /\ be ow H ow' H1 := by
  classical
  let ow' : Ow := fun a => if H a = none /\ ∃ o, H1 a = some o then some (some x) else ow a
  have o1 : ∀ a o, H a = some o -> ow' a = ow a := fun a o h => if_neg (fun z => by rw [h] at z; cases z.1)
  have E1 : aQ X ow' H1 σ ρ := ⟨fun y e o h => by
    obtain ⟨j, w, e1, e2, e3, e4⟩ := E.get y e o h
    refine ⟨j, w, e1, e2, e3, ag.same sm (e4.impH (fun a ob ha p => ?_) fun a p => ?_)⟩
    . cases o with
      | true => exact ⟨p.1, (o1 a ob ha).trans p.2⟩
      | false => exact fun z => (o1 a ob ha).trans (p z)
    . cases o with
      | true => cases p.1
      | false => exact fun z => (by cases z), fun a ha => by
    by_cases hz : H a = none /\ ∃ o, H1 a = some o
    . exact hz.2
    . have : ow' a = ow a := if_neg hz
      rw [this] at ha
      exact (E.own.same sm) a ha⟩
  refine ⟨ow', dO hN hl E1 hi hv (r.impH (fun a o ha p => ⟨rfl, if_pos ⟨p.2, o, ha⟩⟩) fun a p => (by cases p.1)), fun a o h _ => sm a o h, fun a o h z => (o1 a o h).trans z⟩
theorem k7 {e : Expr} {t : Option Expr} {n : Nat} {env : Env} (h : jx e = false) : swapsWith e t n env = pure false := by
  cases e <;> first | rfl | cases h
theorem qe {Φ : Fx} {sc : Scope} {H0 : Hp} {ρ : ai} {e : Expr} {x : Str} {p pos : Pos} {d : D} {k : Nat} {o : Bool} (G : aT Φ X sc) (hx : cQ sc x = true) (h : ED X ρ e d k) (ho : (k = 0 /\ o = true) \/ (k = 1 /\ o = false)) (hs : swapsWith e (some (.Name x p)) pos.line X.env = pure false) :
    SD X H0 ρ (.Assign [.Name x p] e pos) (.nx (bv ρ x (d, o))) := by
  obtain ⟨g1, g2, g3, i, g4⟩ := eJ G hx
  intro pins s σ H D I ⟨ow, E, hl, B, q⟩
  refine CF (i := i) G.nd g4 g1 (h ow) hs g3 pins s σ H D I ⟨E, fun v H1 s1 r1 => ?_⟩
  show D.nx (σ.set i (some v)) H1
  rcases ho with ⟨rfl, rfl⟩ | ⟨rfl, rfl⟩
  . obtain ⟨ow', E', k'⟩ := n6 G.nd hl E s1 g4 g2 r1
    exact q ow' _ H1 E' (by rw [List.length_set]; exact hl) k'
  . exact q ow _ H1 (dO G.nd hl (E.same s1) g4 g2 r1) (by rw [List.length_set]; exact hl) (be.same s1)
theorem gA {e : Expr} {es : List Expr} {n k : Nat} {p : Pos} {env : Env} : swapsWithSole [.Tuple es n p] e k env = pure false := by
  cases e <;> rfl
theorem oA {e a i : Expr} {k : Nat} {p : Pos} {env : Env} : swapsWithSole [.Subscript a i p] e k env = pure false := by
  cases e <;> rfl
def K3 (K : W.Frag) (n : Nat) (t : nk) : TG := fun v σ H Q => ∃ a xs, v = .ref a /\ bS K H a xs /\ xs.length = n /\ t xs σ H Q
theorem CP {es : List Expr} {k : Nat} {t : nk} {n : Nat} {pos : Pos} (hc : X.calm = true) (h : tS X es t)
    (hn : (assignEach es X.env).length = n) (hst : (assignEach es X.env).findIdx? (·.1) = none) : PG X (.Tuple es k pos) (K3 X.K n t) := by
  intro pins s σ H v u Q I r hw
  obtain ⟨a, xs, e1, hq, hl, hw⟩ := hw
  subst e1
  cases r
  obtain ⟨its, rv, pl, hz⟩ := I.list hq
  have hsz : (assignEach es X.env).length = its.toArray.size := by simp [hn, <- hl, rv.length]
  rw [assign_Tuple]
  refine wpAny_bind (wpAny_standAt ?_)
  unfold unpack
  rw [hst, hsz]
  refine wpAny_bind (wpAny_holding (W.kun_itemsOf (I.ok.hd hc) pl.isList fun h' hx => ?_))
  have I1 : aj X pins σ H { s with heap := h' } := I.kept (t' := s.toks) fun b o e => hx b o (Nat.ne_of_lt (Heap.lt_size e)) e
  exact h pins _ σ H xs _ Q I1 (by simpa using rv) hw
theorem ml {ow : Ow} {H H1 : Hp} {ds : List D} {vs : List V} {k : Nat} (o : dW ow H) (hf : ao ds = true \/ k <= 1) (r : af X.K H1 (Kp ow H k) ds vs) : af X.K H1 (fun a b => b = true -> ow a = none) ds vs := by
  rcases hf with hf | hf
  . exact r.flat _ hf
  . exact r.imp fun a b p hb => by subst hb; exact gE o hf p
theorem nH {Φ : Fx} {sc : Scope} {es : List Expr} {e : Expr} {n : Nat} {p : Pos} (G : aT Φ X sc) (ht : pQ sc es e = false) : swappedStores [.Tuple es n p] e X.env = pure none := by
  unfold pQ at ht
  cases hte : gb e with
  | false => cases e <;> first | rfl | cases hte
  | true =>
    rw [hte] at ht
    have hc : rz sc es e = true := by simpa using ht
    unfold rz at hc
    split at hc
    . rename_i x px y py a b m q
      have k1 : X.env.kindOf x = some .cell := G.cc x (by simpa using hc)
      unfold swappedStores
      dsimp only
      split
      . rfl
      . split
        . rfl
        . rw [if_pos]
          rw [List.filterMap_cons_none (by simp [k1])]
          have : ∀ l : List Str, l.length <= 1 -> (l.length != [Expr.Name x px, Expr.Name y py].length || l.eraseDups.length != l.length) = true := fun l hl => by
            have : (l.length != [Expr.Name x px, Expr.Name y py].length) = true := by simp; omega
            rw [this]; rfl
          exact this _ (Nat.le_trans (List.length_filterMap_le _ _) (Nat.le_refl _))
    . cases hc
theorem Cs {Φ : Fx} {sc : Scope} {H0 : Hp} {ρ ρ' : ai} {es : List Expr} {e : Expr} {n : Nat} {p pos : Pos} {d : D} {ds : List D} {k : Nat} (G : aT Φ X sc) (h : ED X ρ e d k) (hd : d7 d = some ds) (hf : ao ds = true \/ k <= 1) (hb : aS sc es ds ρ = some ρ') (ht : pQ sc es e = false) :
    SD X H0 ρ (.Assign [.Tuple es n p] e pos) (.nx ρ') := by
  obtain ⟨t, h1, h2, h3, h4⟩ := jp G hb
  intro pins s σ H D I ⟨ow, E, hl, B, q⟩
  have fin : ∀ H1 vs, ay H H1 -> af X.K H1 (Kp ow H k) ds vs -> t vs σ H1 D.nx := fun H1 vs s1 rl => h4 ow vs σ H1 D.nx hl (E.same s1) (ml E.own hf rl) fun σ' hl' E' => q ow σ' H1 E' hl' (be.same s1)
  rcases eh hd with rfl | rfl
  . refine jn (h ow) (qo (n := _) G.calm h1 h2 h3) gA (nH G ht) rfl pins s σ H D I ⟨E, fun v H1 s1 r1 => ?_⟩
    obtain ⟨a, vs, rfl, hs, rl⟩ := dX r1
    exact ⟨a, vs, rfl, hs, rl.length.symm, fin H1 vs s1 rl⟩
  . refine jn (h ow) (CP (n := _) G.calm h1 h2 h3) gA (nH G ht) rfl pins s σ H D I ⟨E, fun v H1 s1 r1 => ?_⟩
    obtain ⟨a, vs, rfl, hs, rl⟩ := gB r1
    exact ⟨a, vs, rfl, hs, rl.length.symm, fin H1 vs s1 rl⟩
theorem F4 {K : W.Frag} {H : Hp} {P : aZ} {a b : D} {vs : List V} (h : af K H P [a, b] vs) : ∃ x y, vs = [x, y] /\ ag K H P a x /\ ag K H P b y := by
  rw [af] at h
  obtain ⟨x, r, rfl, h1, h⟩ := h
  rw [af] at h
  obtain ⟨y, r, rfl, h2, h⟩ := h
  rw [af] at h
  subst h
  exact ⟨x, y, rfl, h1, h2⟩
theorem Ab {Φ : Fx} {sc : Scope} {H0 : Hp} {ρ : ai} {es : List Expr} {e : Expr} {n : Nat} {pt pos : Pos} {p : D × Nat} (G : aT Φ X sc) (h : ED X ρ e p.1 p.2) (ho : uh sc es p = true) (ht : pQ sc es e = false) :
    SD X H0 ρ (.Assign [.Tuple es n pt] e pos) (.nx (uc es p ρ)) := by
  obtain ⟨d, k⟩ := p
  unfold uh at ho
  split at ho
  . rename_i x px y py d1 d2 e0 e1
    have e0 : d = _ := e0
    have e1 : k = _ := e1
    subst e0 e1
    simp only [Bool.and_eq_true, Bool.not_eq_true', decide_eq_false_iff_not] at ho
    obtain ⟨⟨⟨⟨f1, _⟩, hxy⟩, hx⟩, hy⟩ := ho
    obtain ⟨g1, g2, g3, i, g4⟩ := eJ G hx
    obtain ⟨j1, j2, j3, j, j4⟩ := eJ G hy
    have hij : i ≠ j := fun z => by subst z; rw [g4] at j4; exact hxy (Option.some.inj j4)
    intro pins s σ H D I ⟨ow, E, hl, B, q⟩
    refine jn (h ow) (qo (n := 2) G.calm (lI (g9 (i := i) G.nd g4 g1 g3) (lI (g9 (i := j) G.nd j4 j1 j3) sS rfl) rfl) rfl rfl) gA (nH G ht) rfl pins s σ H D I ⟨E, fun v H1 s1 r1 => ?_⟩
    obtain ⟨a, vs, rfl, hs, rl⟩ := dX r1
    obtain ⟨v1, v2, rfl, r2, r3⟩ := F4 rl
    refine ⟨a, [v1, v2], rfl, hs, rfl, v1, [v2], rfl, v2, [], rfl, rfl, ?_⟩
    obtain ⟨ow', E', k'⟩ := n6 G.nd hl E s1 j4 j2 r3
    have hl' : (σ.set j (some v2)).length = X.N.length := by rw [List.length_set]; exact hl
    have E2 := dO (o := false) G.nd hl' E' g4 g2 (r2.flat _ f1)
    rw [List.set_comm _ _ hij]
    exact q ow' _ H1 E2 (by rw [List.length_set]; exact hl') k'
  . cases ho
theorem t7 {sc : Scope} {Φ : Fx} {x y : Str} {px py p p2 : Pos} {n n2 : Nat} {a b : Expr} (G : aT Φ X sc) (hk : X.env.scope.kind = .function) (h : mv sc x y px py a b = true) (ha : ∀ x p, a ≠ .Starred x p) (hb : ∀ x p, b ≠ .Starred x p) :
    swappedStores [.Tuple [.Name x px, .Name y py] n p] (.Tuple [a, b] n2 p2) X.env = pure (some [x, y]) := by
  unfold mv at h
  simp only [Bool.and_eq_true, Bool.not_eq_true', beq_iff_eq, decide_eq_false_iff_not] at h
  obtain ⟨⟨⟨⟨⟨h1, h2⟩, h3⟩, h4⟩, h5⟩, h6⟩ := h
  have k1 : X.env.kindOf x = some .local := G.lc x h1
  have k2 : X.env.kindOf y = some .local := G.lc y h2
  have bk : X.env.blockKind = .function := by unfold Env.blockKind; rw [hk]; rfl
  have an : ∀ f : Expr -> Bool, (∀ e, (∀ x p, e ≠ .Starred x p) -> f e = false) -> ¬ ([a, b].any f = true) := fun f hf => by simp [hf a ha, hf b hb]
  have fm : ∀ f : Expr -> Option Str, f (.Name x px) = some x -> f (.Name y py) = some y -> [Expr.Name x px, Expr.Name y py].filterMap f = [x, y] := fun f h1 h2 => by simp [h1, h2]
  have ed : [x, y].eraseDups = [x, y] := by
    have e1 : (!(y == x)) = true := by simp; exact fun z => h4 z.symm
    rw [List.eraseDups_cons, List.filter_cons_of_pos (p := fun b => !b == x) e1, List.filter_nil]
    rfl
  unfold swappedStores
  dsimp only
  rw [bk]
  refine (if_neg (by simp)).trans ?_
  refine (if_neg (an _ fun e he => by cases e <;> first | rfl | exact absurd rfl (he _ _))).trans ?_
  rw [fm _ (by show (if (X.env.kindOf x == some NameKind.local && px.line == px.line) = true then some x else none) = some x; rw [k1]; simp) (by show (if (X.env.kindOf y == some NameKind.local && py.line == px.line) = true then some y else none) = some y; rw [k2, h3]; simp)]
  rw [ed]
  refine (if_neg (by simp)).trans ?_
  rw [h5, h6]
  rfl
theorem Ct {Φ : Fx} {sc : Scope} {H0 : Hp} {ρ : ai} {a b : Expr} {x y : Str} {px py p p2 pos : Pos} {n n2 : Nat} {u v : D} {k : Nat} (G : aT Φ X sc) (h : AD X ρ [a, b] [u, v] k) (hf : ao [u, v] = true \/ k <= 1) (hp : mv sc x y px py a b = true) (ha : ∀ x p, a ≠ .Starred x p) (hb : ∀ x p, b ≠ .Starred x p) :
    SD X H0 ρ (.Assign [.Tuple [.Name x px, .Name y py] n p] (.Tuple [a, b] n2 p2) pos) (.nx (bv (bv ρ x (u, false)) y (v, false))) := by
  have hp0 := hp
  unfold mv at hp
  simp only [Bool.and_eq_true, Bool.not_eq_true', beq_iff_eq, decide_eq_false_iff_not] at hp
  obtain ⟨⟨⟨⟨⟨l1, l2⟩, _⟩, hxy⟩, _⟩, _⟩ := hp
  obtain ⟨g1, g2, g3, i, g4⟩ := eJ (x := x) G (by unfold cQ; rw [l1]; rfl)
  obtain ⟨j1, j2, j3, j, j4⟩ := eJ (x := y) G (by unfold cQ; rw [l2]; rfl)
  have hij : i ≠ j := by intro z; subst z; rw [g4] at j4; cases j4; exact hxy rfl
  intro pins s σ H D I ⟨ow, E, hl, B, q⟩
  refine CH (i := i) (j := j) G.calm G.nd g4 j4 hij (G.lc x l1) (G.lc y l2) (h ow) (t7 G I.ok.kind hp0 ha hb) gA pins s σ H D I ⟨E, fun vs H1 s1 r1 => ?_⟩
  have rs := ml E.own hf r1
  rw [af] at rs
  obtain ⟨v1, r, rfl, rv1, rs⟩ := rs
  obtain ⟨v2, rfl, rv2⟩ := rs.only
  refine ⟨v1, v2, rfl, ?_⟩
  have E1 := dO (o := false) G.nd hl (E.same s1) g4 g2 rv1
  have hl1 : (σ.set i (some v1)).length = X.N.length := by rw [List.length_set]; exact hl
  exact q ow _ H1 (dO (o := false) G.nd hl1 E1 j4 j2 rv2) (by rw [List.length_set]; exact hl1) (be.same s1)
theorem wg {ow : Ow} {H1 : Hp} {σ : L2.St} {ρ : ai} {x : Str} {l' : List D} {a : Addr} {vs vs' : List V} {i : Nat} (E : aQ X ow H1 σ ρ) (hi : X.N[i]? = some x) (hs : σ[i]? = some (some (.ref a)))
    (hv : i5 X.env.scope x) (ha : H1 a = some (.lst vs)) (ho : ow a = some (some x)) (f : ao l' = true) (r : af X.K H1 (fun _ _ => True) l' vs') :
    aQ X ow (aU H1 a (.lst vs')) σ (bv ρ x (.lst l', true)) := by
  have st : ∀ {P : aZ}, (P a true -> False) -> dC P P H1 (aU H1 a (.lst vs')) := fun {P} h => ⟨fun b o hb hn => by rw [aC (fun z => by subst z; rw [ha] at hb; cases hb; exact hn)]; exact hb, fun b ws hb p => by rw [aC (fun z => by subst z; exact h p)]; exact hb, fun _ _ _ p => p, fun _ p => p⟩
  have r' : af X.K (aU H1 a (.lst vs')) (jq ow x true) l' vs' := af.flat _ f ((r.flat (fun _ _ => False) f).mono (st fun z => z))
  refine ⟨fun y e o h => ?_, fun b hb => ?_⟩
  . rw [cW] at h
    by_cases hy : y = x
    . subst hy
      rw [if_pos rfl] at h
      cases h
      exact ⟨i, .ref a, hi, hv, hs, by rw [ag]; exact ⟨a, vs', true, rfl, aL, ⟨rfl, ho⟩, r'⟩⟩
    . rw [if_neg hy] at h
      obtain ⟨j, w, e1, e2, e3, e4⟩ := E.get y e o h
      refine ⟨j, w, e1, e2, e3, e4.mono (st fun p => ?_)⟩
      cases o with
      | true => have := p.2; rw [ho] at this; cases this; exact hy rfl
      | false => have := p rfl; rw [ho] at this; cases this
  . by_cases hz : b = a
    . subst hz; exact ⟨_, aL⟩
    . rw [aC hz]; exact E.own b hb
theorem C5 {ow : Ow} {H : Hp} {σ : L2.St} {ρ : ai} {x : Str} {l : List D} (E : aQ X ow H σ ρ) (h : ρ x = some (.lst l, true)) : ∃ (i : Nat) (a : Addr) (vs : List V), X.N[i]? = some x /\ i5 X.env.scope x /\ σ[i]? = some (some (.ref a)) /\ H a = some (.lst vs) /\ ow a = some (some x) /\ af X.K H (fun _ _ => True) l vs := by
  obtain ⟨i, v, e1, e2, e3, e4⟩ := E.get x _ _ h
  rw [ag] at e4
  obtain ⟨a, vs, b, rfl, hl, hp, rl⟩ := e4
  cases hp.1
  exact ⟨i, a, vs, e1, e2, e3, hl, hp.2, rl.imp fun _ _ _ => True.intro⟩
theorem uA {ow : Ow} {H H1 : Hp} {a : Addr} {vs vs' : List V} {x : Str} (sm : ay H H1) (h0 : H a = some (.lst vs)) (ho : ow a = some (some x)) : be ow H ow (aU H1 a (.lst vs')) :=
  ⟨fun b o h c => by
    rw [aC (fun z => by
      subst z
      rw [h0] at h; cases h
      rcases c with c | c
      . exact c
      . rw [ho] at c; cases c)]
    exact sm b o h, fun _ _ _ z => z⟩
theorem jw {pins : List (Addr × Obj)} {σ : L2.St} {H : Hp} {s : Shared} (I : aj X pins σ H s) {a : Addr} {o : Obj} (h : X.K.lookup a = some o) : H a = none := (I.bs a o (I.ok.mod.kin a o h)).2
mutual
def D.lsz : D -> Nat
  | .lst l => 1 + gM l
  | .tup l => gM l
  | _ => 0
def gM : List D -> Nat
  | [] => 0
  | d :: l => d.lsz + gM l
end
theorem xy {pins : List (Addr × Obj)} {σ : L2.St} {H : Hp} {s : Shared} (I : aj X pins σ H s) {P : aZ} {d : D} {a : Addr} {vs : List V} (ha : H a = some (.lst vs)) (h : ag X.K H P d (.ref a)) : ∃ l, d = .lst l := by
  cases d with
  | lst l => exact ⟨l, rfl⟩
  | tup l =>
    rw [ag] at h
    obtain ⟨a', vs', e, hs, _⟩ := h
    cases e
    rcases hs with (q | ⟨o, q⟩) | ⟨o, its, n, q, _⟩
    . rw [ha] at q; cases q
    . rw [ha] at q; cases q
    . rw [jw I q] at ha; cases ha
  | dct _ _ => rw [ag] at h; obtain ⟨_, _, a', _, e, hl, _⟩ := h; cases e; rw [ha] at hl; cases hl
  | sn m => rw [ag] at h; obtain ⟨a', S, e, hl⟩ := h; cases e; rw [ha] at hl; cases hl
  | obj n ns es => rw [ag] at h; obtain ⟨_, _, a', C, dx, vs', e, _, _, hl, _⟩ := h; cases e; rw [ha] at hl; cases hl
  | cls n => rw [ag] at h; obtain ⟨C, o', e, _, hl, _⟩ := h; cases e; rw [jw I hl] at ha; cases ha
  | _ => rw [ag] at h; cases h
theorem wS {pins : List (Addr × Obj)} {σ : L2.St} {H : Hp} {s : Shared} (I : aj X pins σ H s) {P : aZ} (hP : ∀ a b, P a b -> b = true) {d : D} {a : Addr} {vs : List V} (ha : bW X.K H a vs) (h : ag X.K H P d (.ref a)) : ∃ l, d = .tup l /\ af X.K H P l vs := by
  have no : ∀ o, H a = some o -> (∀ xs, o ≠ .tup xs) -> (∀ p q, o ≠ .frz p q) -> False := fun o e h1 h2 => by
    rcases ha with (q | ⟨o', q⟩) | ⟨o', its, n, q, _⟩
    . rw [e] at q; cases q; exact h1 _ rfl
    . rw [e] at q; cases q; exact h2 _ _ rfl
    . rw [jw I q] at e; cases e
  cases d with
  | lst l =>
    rw [ag] at h
    obtain ⟨a', vs', b, e, hl, p, _⟩ := h
    cases e
    cases hP _ _ p
    exact (no _ hl (fun _ z => nomatch z) fun _ _ z => nomatch z).elim
  | tup l =>
    rw [ag] at h
    obtain ⟨a', vs', e, hs, rl⟩ := h
    cases e
    have := I.tuple_inj ha hs
    subst this
    exact ⟨l, rfl, rl⟩
  | dct _ _ => rw [ag] at h; obtain ⟨_, _, a', _, e, hl, _⟩ := h; cases e; exact (no _ hl (fun _ z => nomatch z) fun _ _ z => nomatch z).elim
  | sn m => rw [ag] at h; obtain ⟨a', S, e, hl⟩ := h; cases e; exact (no _ hl (fun _ z => nomatch z) fun _ _ z => nomatch z).elim
  | obj n ns es => rw [ag] at h; obtain ⟨_, _, a', C, dx, vs', e, _, _, hl, _⟩ := h; cases e; exact (no _ hl (fun _ z => nomatch z) fun _ _ z => nomatch z).elim
  | cls n =>
    rw [ag] at h
    obtain ⟨C, o', e, _, hl, ht, _⟩ := h
    cases e
    rcases ha with (q | ⟨o, q⟩) | ⟨o, its, n, q, hc, _⟩
    . rw [jw I hl] at q; cases q
    . rw [jw I hl] at q; cases q
    . rw [hl] at q; cases q; rw [hc] at ht; injection ht with ht; exact absurd ht (by decide)
  | _ => rw [ag] at h; cases h
mutual
theorem qh {pins : List (Addr × Obj)} {σ : L2.St} {H : Hp} {s : Shared} (I : aj X pins σ H s) {P : aZ} (hP : ∀ a b, P a b -> b = true) : ∀ (d d' : D) (v : V), ag X.K H P d v -> ag X.K H P d' v -> d.lsz <= d'.lsz
  | .tup l, d', v, h, h' => by
    rw [ag] at h
    obtain ⟨a, vs, rfl, hs, rl⟩ := h
    obtain ⟨l', rfl, rl'⟩ := wS I hP hs h'
    rw [D.lsz, D.lsz]; exact jk I hP l l' vs rl rl'
  | .lst l, d', v, h, h' => by
    rw [ag] at h
    obtain ⟨a, vs, b, rfl, hs, p, rl⟩ := h
    cases hP _ _ p
    replace hs : H a = some (.lst vs) := hs
    obtain ⟨l', rfl⟩ := xy I hs h'
    rw [ag] at h'
    obtain ⟨a', vs', b, e, hl, p', rl'⟩ := h'
    cases e
    cases hP _ _ p'
    replace hl : H a = some (.lst vs') := hl
    rw [hs] at hl; cases hl
    rw [D.lsz, D.lsz]
    exact Nat.add_le_add_left (jk I hP l l' vs rl rl') 1
  | .non, _, _, _, _ => Nat.zero_le _
  | .bl _, _, _, _, _ => Nat.zero_le _
  | .int _, _, _, _, _ => Nat.zero_le _
  | .str _, _, _, _, _ => Nat.zero_le _
  | .dct _ _, _, _, _, _ => Nat.zero_le _
  | .typ _, _, _, _, _ => Nat.zero_le _
  | .sn _, _, _, _, _ => Nat.zero_le _
  | .obj _ _ _, _, _, _, _ => Nat.zero_le _
  | .cls _, _, _, _, _ => Nat.zero_le _
theorem jk {pins : List (Addr × Obj)} {σ : L2.St} {H : Hp} {s : Shared} (I : aj X pins σ H s) {P : aZ} (hP : ∀ a b, P a b -> b = true) : ∀ (l l' : List D) (vs : List V), af X.K H P l vs -> af X.K H P l' vs -> gM l <= gM l'
  | [], l', vs, h, h' => Nat.zero_le _
  | d :: l, l', vs, h, h' => by
    rw [af] at h
    obtain ⟨v, r, rfl, h1, h2⟩ := h
    cases l' with
    | nil => rw [af] at h'; cases h'
    | cons d' l' =>
      rw [af] at h'
      obtain ⟨v', r', e, h1', h2'⟩ := h'
      cases e
      rw [gM, gM]
      exact Nat.add_le_add (qh I hP d d' v h1 h1') (jk I hP l l' r h2 h2')
end
mutual
theorem Cz {pins : List (Addr × Obj)} {σ : L2.St} {H : Hp} {s : Shared} (I : aj X pins σ H s) {P : aZ} (hP : ∀ a b, P a b -> b = true) {A : Addr} {l : List D} (hA : ag X.K H P (.lst l) (.ref A)) : ∀ (d : D) (v : V), d.lsz < (D.lst l).lsz -> ag X.K H P d v -> ag X.K H (fun a b => P a b /\ a ≠ A) d v
  | .tup m, v, hs, h => by
    rw [ag] at h ⊢
    obtain ⟨a, vs, e, h1, h2⟩ := h
    exact ⟨a, vs, e, h1, ke I hP hA m vs (by rw [D.lsz] at hs; exact hs) h2⟩
  | .lst m, v, hs, h => by
    have h0 := h
    rw [ag] at h ⊢
    obtain ⟨a, vs, b, e, h1, p, h2⟩ := h
    refine ⟨a, vs, b, e, h1, ⟨p, fun z => ?_⟩, ke I hP hA m vs (by rw [D.lsz] at hs; omega) h2⟩
    subst e z
    have := qh I hP _ _ _ hA h0
    exact absurd (Nat.lt_of_lt_of_le hs this) (Nat.lt_irrefl _)
  | .non, v, _, h => by rw [ag] at h ⊢; exact h
  | .bl _, v, _, h => by rw [ag] at h ⊢; exact h
  | .int _, v, _, h => by rw [ag] at h ⊢; exact h
  | .str _, v, _, h => by rw [ag] at h ⊢; exact h
  | .dct ks es, v, _, h => by
    rw [ag] at h ⊢
    obtain ⟨f, e0, a, vs, e, h1, p, r⟩ := h
    refine ⟨f, e0, a, vs, e, h1, ⟨p, fun z => ?_⟩, r.flat _ f⟩
    subst z
    rw [ag] at hA
    obtain ⟨a2, vs2, b, e2, hl, p2, _⟩ := hA
    cases e2
    cases hP _ _ p2
    replace hl : H a = some (.lst vs2) := hl
    rw [h1] at hl; cases hl
  | .typ _, v, _, h => by rw [ag] at h ⊢; exact h
  | .sn _, v, _, h => by rw [ag] at h ⊢; exact h
  | .obj n ns es, v, _, h => h.flat _ rfl
  | .cls n, v, _, h => h.flat _ rfl
theorem ke {pins : List (Addr × Obj)} {σ : L2.St} {H : Hp} {s : Shared} (I : aj X pins σ H s) {P : aZ} (hP : ∀ a b, P a b -> b = true) {A : Addr} {l : List D} (hA : ag X.K H P (.lst l) (.ref A)) : ∀ (m : List D) (vs : List V), gM m < (D.lst l).lsz -> af X.K H P m vs -> af X.K H (fun a b => P a b /\ a ≠ A) m vs
  | [], vs, _, h => by rw [af] at h ⊢; exact h
  | d :: m, vs, hs, h => by
    rw [af] at h ⊢
    obtain ⟨v, r, e, h1, h2⟩ := h
    exact ⟨v, r, e, Cz I hP hA d v (by rw [gM] at hs; omega) h1, ke I hP hA m r (by rw [gM] at hs; omega) h2⟩
end
theorem C6 {pins : List (Addr × Obj)} {s : Shared} {ow : Ow} {H : Hp} {σ : L2.St} {ρ : ai} {x : Str} {l : List D} (I : aj X pins σ H s) (E : aQ X ow H σ ρ) (h : ρ x = some (.lst l, true)) : ∃ (i : Nat) (a : Addr) (vs : List V), X.N[i]? = some x /\ i5 X.env.scope x /\ σ[i]? = some (some (.ref a)) /\ H a = some (.lst vs) /\ ow a = some (some x) /\ af X.K H (fun b c => jq ow x true b c /\ b ≠ a) l vs := by
  obtain ⟨i, v, e1, e2, e3, e4⟩ := E.get x _ _ h
  have e5 := e4
  rw [ag] at e4
  obtain ⟨a, vs, b, rfl, hl, hp, rl⟩ := e4
  cases hp.1
  exact ⟨i, a, vs, e1, e2, e3, hl, hp.2, ke I (fun _ _ p => p.1) e5 l vs (by rw [D.lsz]; omega) rl⟩
theorem Bp {ow : Ow} {H H1 : Hp} {σ : L2.St} {ρ : ai} {x : Str} {l' : List D} {a : Addr} {vs vs' : List V} {i : Nat} (E : aQ X ow H σ ρ) (sm : ay H H1) (hi : X.N[i]? = some x) (hs : σ[i]? = some (some (.ref a)))
    (hv : i5 X.env.scope x) (h0 : H a = some (.lst vs)) (ho : ow a = some (some x)) (r : af X.K H1 (fun b c => (jq ow x true b c /\ b ≠ a) \/ Kp ow H 0 b c) l' vs') :
    ∃ ow', aQ X ow' (aU H1 a (.lst vs')) σ (bv ρ x (.lst l', true)) /\ be ow H ow' (aU H1 a (.lst vs')) := by
  classical
  let ow' : Ow := fun a => if H a = none /\ ∃ o, H1 a = some o then some (some x) else ow a
  have o1 : ∀ a o, H a = some o -> ow' a = ow a := fun a o h => if_neg (fun z => by rw [h] at z; cases z.1)
  have ha : H1 a = some (.lst vs) := sm _ _ h0
  have ho' : ow' a = some (some x) := (o1 a _ h0).trans ho
  have E1 : aQ X ow' H1 σ ρ := ⟨fun y e o h => by
    obtain ⟨j, w, e1, e2, e3, e4⟩ := E.get y e o h
    refine ⟨j, w, e1, e2, e3, ag.same sm (e4.impH (fun a ob ha p => ?_) fun a p => ?_)⟩
    . cases o with
      | true => exact ⟨p.1, (o1 a ob ha).trans p.2⟩
      | false => exact fun z => (o1 a ob ha).trans (p z)
    . cases o with
      | true => cases p.1
      | false => exact fun z => (by cases z), fun a ha => by
    by_cases hz : H a = none /\ ∃ o, H1 a = some o
    . exact hz.2
    . have : ow' a = ow a := if_neg hz
      rw [this] at ha
      exact (E.own.same sm) a ha⟩
  have st : ∀ {P : aZ}, (P a true -> False) -> dC P P H1 (aU H1 a (.lst vs')) := fun {P} h => ⟨fun b o hb hn => by rw [aC (fun z => by subst z; rw [ha] at hb; cases hb; exact hn)]; exact hb, fun b ws hb p => by rw [aC (fun z => by subst z; exact h p)]; exact hb, fun _ _ _ p => p, fun _ p => p⟩
  have r1 : af X.K H1 (fun b c => jq ow' x true b c /\ b ≠ a) l' vs' := r.impH (fun b o hb p => by
    rcases p with ⟨p, hne⟩ | p
    . refine ⟨⟨rfl, ?_⟩, hne⟩
      by_cases hz : H b = none /\ ∃ o, H1 b = some o
      . exact if_pos hz
      . exact (if_neg hz).trans p.2
    . exact ⟨⟨rfl, if_pos ⟨p.2, o, hb⟩⟩, fun z => by subst z; rw [p.2] at h0; cases h0⟩) fun b p => by
    rcases p with ⟨p, _⟩ | p
    . cases p.1
    . cases p.1
  have r' : af X.K (aU H1 a (.lst vs')) (jq ow' x true) l' vs' := (r1.mono (st fun z => z.2 rfl)).imp fun _ _ p => p.1
  refine ⟨ow', ⟨fun y e o h => ?_, fun b hb => ?_⟩, fun b o h c => ?_, fun b o h z => (o1 b o h).trans z⟩
  . rw [cW] at h
    by_cases hy : y = x
    . subst hy
      rw [if_pos rfl] at h
      cases h
      exact ⟨i, .ref a, hi, hv, hs, by rw [ag]; exact ⟨a, vs', true, rfl, aL, ⟨rfl, ho'⟩, r'⟩⟩
    . rw [if_neg hy] at h
      obtain ⟨j, w, e1, e2, e3, e4⟩ := E1.get y e o h
      refine ⟨j, w, e1, e2, e3, e4.mono (st fun p => ?_)⟩
      cases o with
      | true => have := p.2; rw [ho'] at this; cases this; exact hy rfl
      | false => have := p rfl; rw [ho'] at this; cases this
  . by_cases hz : b = a
    . subst hz; exact ⟨_, aL⟩
    . rw [aC hz]; exact E1.own b hb
  . rw [aC (fun z => by
      subst z
      rw [h0] at h; cases h
      rcases c with c | c
      . exact c
      . rw [ho] at c; cases c)]
    exact sm b o h
theorem mw {env : Env} {pos : Pos} : ∀ {es : List Expr}, (∀ e ∈ es, ∀ x p, e ≠ .Starred x p) -> (backTo pos (starEach es env)).all (fun x => !x.1) = true
  | [], _ => rfl
  | e :: es, h => by
    have ih := mw (env := env) (es := es) (pos := pos) fun x hx => h x (List.mem_cons_of_mem _ hx)
    have he := h e List.mem_cons_self
    cases e <;> first | exact absurd rfl (he _ _) | exact ih
theorem Cu {H0 : Hp} {ρ : ai} {x m : Str} {M : List D -> List D -> Nat -> Rs (List D)} {args : List Expr} {p1 ap cp p4 : Pos} {l l' ds : List D} {k : Nat} {o : List Prop} (hcalm : X.calm = true) (hM : nE m M) (hx : ρ x = some (.lst l, true)) (h : AD X ρ args ds k) (hst : ∀ e ∈ args, ∀ y p, e ≠ .Starred y p) (hlen : args.length = ds.length)
    (hn : fZ x = true) (hln : (ap.endLine == cp.line) = true) (hm : M l ds k = .ok l' o) (hp : aE o) : SD X H0 ρ (.Expr (.Call (.Attribute (.Name x p1) m ap) args [] cp) p4) (.nx (bv ρ x (.lst l', true))) := by
  obtain ⟨id, r, sl, ty, mt, hr⟩ := hM X hcalm
  intro pins s σ H D I ⟨ow, E, hl, B, q⟩
  obtain ⟨i, a, vs, g1, g2, g3, g4, g5, g6⟩ := C6 I E hx
  have pn : PE X (.Name x p1) (t5 i) := mr g1 g2 (dH hn).1 (dH hn).2
  have fin : ∀ (H1 : Hp) (ws : List V), ay H H1 -> af X.K H1 (Kp ow H k) ds ws -> r (.ref a) ws H1 fun _ H2 => D.nx σ H2 := fun H1 ws s1 r1 =>
    (hr ow H H1 l ds l' k o a vs ws hm hp).2 (fun b c => (jq ow x true b c /\ b ≠ a) \/ Kp ow H 0 b c) _ (fun _ _ p => .inr p) E.own s1 (s1 _ _ g4) ((g6.same s1).imp fun _ _ p => .inl p) r1 fun vs' _ rv => by
      obtain ⟨ow', E', k'⟩ := Bp E s1 g1 g3 g2 g4 g5 rv
      exact q ow' σ _ E' hl k'
  have few : ds.length < 29 := (hr ow H H l ds l' k o a vs vs hm hp).1
  cases args with
  | nil =>
    have e0 : ds = [] := List.length_eq_zero_iff.mp hlen.symm
    refine nJ (C0 PySem.F.plainAttrs_list sl ty mt pn rfl hln) rfl pins s σ H D I ⟨_, g3, .inl ⟨rfl, _, bS.of g4⟩, ?_⟩
    exact fin H [] (ay.refl _) (by rw [e0]; exact af.nil)
  | cons e es =>
    have hfew : ((backTo cp (starEach (e :: es) X.env)).all (fun x => !x.1) && (backToKw cp (keywordEach [] X.env)).all (fun x => x.1.isSome) && decide ((e :: es).length + ([] : List Keyword).length + (if ([] : List Keyword).isEmpty then 0 else 1) < 30)) = true := by
      rw [mw hst, hlen]
      have : decide (ds.length + 0 + 0 < 30) = true := by simp; omega
      exact this
    refine nJ (Gd PySem.F.plainAttrs_list sl ty mt pn (h ow) rfl hfew hln (aV (hst e List.mem_cons_self)) (bY fun x hx => hst x (List.mem_cons_of_mem _ hx))) rfl pins s σ H D I ⟨_, g3, .inl ⟨rfl, _, bS.of g4⟩, E, fun ws H1 s1 r1 => ?_⟩
    exact fin H1 ws s1 r1
theorem mC : ∀ {l : List D} {j : Nat} {d : D}, ao l = true -> d.lless = true -> ao (l.set j d) = true
  | [], j, d, h, f => by simp [ao]
  | x :: l, 0, d, h, f => by
    rw [ao, Bool.and_eq_true] at h
    rw [List.set_cons_zero, ao, Bool.and_eq_true]; exact ⟨f, h.2⟩
  | x :: l, j + 1, d, h, f => by
    rw [ao, Bool.and_eq_true] at h
    rw [List.set_cons_succ, ao, Bool.and_eq_true]; exact ⟨h.1, mC h.2 f⟩
theorem af.set {K : W.Frag} {P : aZ} {H : Hp} {d : D} {v : V} (r : ag K H P d v) : ∀ {l : List D} {vs : List V} (j : Nat), af K H P l vs -> af K H P (l.set j d) (vs.set j v)
  | [], vs, j, h => by rw [af] at h; subst h; simp; exact af.nil
  | x :: l, vs, 0, h => by
    rw [af] at h
    obtain ⟨w, u, rfl, h1, h2⟩ := h
    exact af.cons r h2
  | x :: l, vs, j + 1, h => by
    rw [af] at h
    obtain ⟨w, u, rfl, h1, h2⟩ := h
    exact af.cons h1 (af.set r j h2)
theorem w8 {H0 : Hp} {ρ : ai} {x : Str} {e i : Expr} {p1 p2 pos : Pos} {l l' : List D} {d : D} {j : Int} {k k2 : Nat} (hx : ρ x = some (.lst l, true)) (h : ED X ρ e d k) (hi : ED X ρ i (.int j) k2) (f : ao l = true) (fd : d.lless = true) (hn : fZ x = true) (hm : t8 l j d = some l') (hsl : ∀ a b c p, i ≠ .Slice a b c p) :
    SD X H0 ρ (.Assign [.Subscript (.Name x p1) i p2] e pos) (.nx (bv ρ x (.lst l', true))) := by
  unfold t8 at hm
  cases hj : ln l.length j with
  | none => rw [hj] at hm; cases hm
  | some n =>
    rw [hj] at hm; cases hm
    intro pins s σ H D I ⟨ow, E, hl, B, q⟩
    obtain ⟨ix, a, vs, g1, g2, g3, g4, g5, g6⟩ := C5 E hx
    have pn : PE X (.Name x p1) (t5 ix) := mr g1 g2 (dH hn).1 (dH hn).2
    refine jn (h ow) (vw pn (hi ow) w4 (fun v => by cases i <;> first | rfl | exact absurd rfl (hsl _ _ _ _))) oA (by cases e <;> rfl) rfl pins s σ H D I ⟨E, fun v H1 s1 r1 => ?_⟩
    refine ⟨_, g3, E.same s1, fun u H2 s2 r2 => ?_⟩
    rw [ag] at r2; subst r2
    have s12 := s1.trans s2
    refine ⟨a, vs, j, n, rfl, rfl, s12 _ _ g4, by rw [<- g6.length]; exact hj, ?_⟩
    exact q ow σ _ (wg (E.same s12) g1 g3 g2 (s12 _ _ g4) g5 (mC f fd) (af.set ((r1.imp fun _ _ _ => True.intro).same s2) n (g6.same s12))) hl (uA s12 g4 g5)
def F6 : uX := fun o i v H Q => ∃ p kvs k, o = .ref p /\ i = kV k /\ H p = some (.dK kvs) /\ kvs.length < sizeLine /\ Q (aU H p (.dK (gL kvs k v)))
theorem w5 : yD X F6 := by
  intro pins s σ H o i v ov iv u Q I ro ri rv h
  obtain ⟨p, kvs, k, rfl, rfl, hp, hz, q⟩ := h
  cases ro
  obtain ⟨z, hd, vs, rel, dd⟩ := (show bA X.prog X.w H s.heap p (.dK kvs) from I.hok p _ hp)
  have hz' : vs.length <= sizeLine := by rw [<- rel.length]; exact z
  have hl : (gL kvs k v).length <= sizeLine := by have := sh kvs k v; omega
  refine wpAny_setItem_pairs (hsz := hz') (uB ri) dd fun h' dd' hs => ?_
  have he : ∃ q, h'.get? p = some q := let ⟨q, _, _, hq, _⟩ := dd'; ⟨q, hq⟩
  exact ⟨_, I.write (x := p) (e := p) (by rw [hp]; exact True.intro) (.inl rfl) (fun b q hb z => (hs.2 b hb).trans z) he (show bA X.prog X.w (aU H p (.dK (gL kvs k v))) h' p (.dK (gL kvs k v)) from ⟨hl, hd, _, rel.put k rv, dd'⟩), q⟩
theorem zO {ks : List bI} {k : bI} {v : V} {vs : List V} (h : ks.length = vs.length) : (iO ks k).zip (dD ks vs k v) = gL (ks.zip vs) k v := by
  unfold iO dD gL
  rw [sB h]
  cases ej ks k with
  | true =>
    rw [if_pos rfl]
    show ks.zip (List.zipWith _ ks vs) = _
    induction ks generalizing vs with
    | nil => rfl
    | cons j ks ih =>
      cases vs with
      | nil => cases h
      | cons w vs =>
        show (j, if j = k then v else w) :: ks.zip (List.zipWith _ ks vs) = (if j = k then (j, v) else (j, w)) :: (ks.zip vs).map _
        rw [ih (by simpa using h)]
        split <;> rfl
  | false =>
    rw [if_neg Bool.false_ne_true]
    show (ks ++ [k]).zip (vs ++ [v]) = _
    rw [List.zip_append h]; rfl
theorem Ai {α : Type} {ks : List bI} {k : bI} {v : α} {vs : List α} (h : ks.length = vs.length) : (iO ks k).length = (dD ks vs k v).length := by
  unfold iO dD
  cases ej ks k with
  | true => show ks.length = (List.zipWith _ ks vs).length; rw [List.length_zipWith, <- h, Nat.min_self]
  | false => show (ks ++ [k]).length = (vs ++ [v]).length; rw [List.length_append, List.length_append, h]; rfl
theorem Ah {K : W.Frag} {P : aZ} {H : Hp} {d : D} {v : V} {k : bI} {ks : List bI} {ds : List D} {vs : List V} (r : ag K H P d v) (rl : af K H P ds vs) (h : ks.length = ds.length) : af K H P (dD ks ds k d) (dD ks vs k v) := by
  unfold dD
  cases ej ks k with
  | true =>
    show af K H P (List.zipWith _ ks ds) (List.zipWith _ ks vs)
    induction ks generalizing ds vs with
    | nil => exact af.nil
    | cons j ks ih =>
      cases ds with
      | nil => cases h
      | cons x ds =>
        rw [af] at rl
        obtain ⟨w, u, rfl, h1, h2⟩ := rl
        refine af.cons ?_ (ih h2 (by simpa using h))
        by_cases hj : j = k
        . simp only [if_pos hj]; exact r
        . simp only [if_neg hj]; exact h1
  | false => exact rl.append (af.one r)
theorem qk {k : bI} {d : D} {ks : List bI} {ds : List D} (f : ao ds = true) (fd : d.lless = true) : ao (dD ks ds k d) = true := by
  unfold dD
  cases ej ks k with
  | true =>
    show ao (List.zipWith _ ks ds) = true
    induction ks generalizing ds with
    | nil => rfl
    | cons j ks ih =>
      cases ds with
      | nil => rfl
      | cons x ds =>
        rw [ao, Bool.and_eq_true] at f
        show ao ((if j = k then d else x) :: List.zipWith _ ks ds) = true
        rw [ao, Bool.and_eq_true]
        refine ⟨?_, ih f.2⟩
        split
        . exact fd
        . exact f.1
  | false =>
    show ao (ds ++ [d]) = true
    induction ds with
    | nil => show ao [d] = true; rw [ao, fd]; rfl
    | cons x ds ih =>
      rw [ao, Bool.and_eq_true] at f
      show ao (x :: (ds ++ [d])) = true
      rw [ao, f.1, ih f.2]; rfl
theorem Ad {H0 : Hp} {ρ : ai} {x : Str} {e i : Expr} {p1 p2 pos : Pos} {ks : List bI} {ds : List D} {d di : D} {key : bI} {k k2 : Nat} (hx : ρ x = some (.dct ks ds, true)) (h : ED X ρ e d k) (hi : ED X ρ i di k2) (hk : lM di = some key) (fd : d.lless = true) (hz : ks.length < bL) (hn : fZ x = true) (hsl : ∀ a b c p, i ≠ .Slice a b c p) :
    SD X H0 ρ (.Assign [.Subscript (.Name x p1) i p2] e pos) (.nx (bv ρ x (.dct (iO ks key) (dD ks ds key d), true))) := by
  intro pins s σ H D I ⟨ow, E, hl, B, q⟩
  obtain ⟨ix, v0, g1, g2, g3, g4⟩ := E.get x _ _ hx
  rw [ag] at g4
  obtain ⟨f, e0, a, vs, rfl, ha, hp, rl⟩ := g4
  have ho : ow a = some (some x) := hp.2
  have pn : PE X (.Name x p1) (t5 ix) := mr g1 g2 (dH hn).1 (dH hn).2
  refine jn (h ow) (vw pn (hi ow) w5 (fun v => by cases i <;> first | rfl | exact absurd rfl (hsl _ _ _ _))) oA (by cases e <;> rfl) rfl pins s σ H D I ⟨E, fun v H1 s1 r1 => ?_⟩
  refine ⟨_, g3, E.same s1, fun u H2 s2 r2 => ?_⟩
  have s12 := s1.trans s2
  have el : ks.length = vs.length := e0.trans rl.length
  refine ⟨a, _, key, rfl, lL hk r2, s12 _ _ ha, ?_, ?_⟩
  . rw [List.length_zip, <- el, Nat.min_self]; exact Nat.lt_of_lt_of_le hz ga
  rw [<- zO el]
  have ha2 := s12 _ _ ha
  have st : ∀ {P : aZ} {o' : HO}, (P a true -> False) -> dC P P H2 (aU H2 a o') := fun {P o'} h => ⟨fun b o hb hn => by rw [aC (fun z => by subst z; rw [ha2] at hb; cases hb; exact hn)]; exact hb, fun b ws hb p => by rw [aC (fun z => by subst z; exact h p)]; exact hb, fun _ _ _ p => p, fun _ p => p⟩
  have rr : af X.K H2 (fun _ _ => False) (dD ks ds key d) (dD ks vs key v) := Ah ((r1.same s2).flat _ fd) ((rl.same s12).flat _ f) e0
  refine q ow σ _ ⟨fun y e o h => ?_, fun b hb => ?_⟩ hl ⟨fun b o h c => ?_, fun _ _ _ z => z⟩
  . rw [cW] at h
    by_cases hy : y = x
    . subst hy
      rw [if_pos rfl] at h
      cases h
      exact ⟨ix, .ref a, g1, g2, g3, by rw [ag]; exact ⟨qk f fd, Ai e0, a, _, rfl, aL, ⟨rfl, ho⟩, (rr.mono (st fun z => z)).flat _ (qk f fd)⟩⟩
    . rw [if_neg hy] at h
      obtain ⟨j, w, e1, e2, e3, e4⟩ := (E.same s12).get y e o h
      refine ⟨j, w, e1, e2, e3, e4.mono (st fun p => ?_)⟩
      cases o with
      | true => have := p.2; rw [ho] at this; cases this; exact hy rfl
      | false => have := p rfl; rw [ho] at this; cases this
  . by_cases hz : b = a
    . subst hz; exact ⟨_, aL⟩
    . rw [aC hz]; exact (E.same s12).own b hb
  . rw [aC (fun z => by
      subst z
      rw [ha] at h; cases h
      rcases c with c | c
      . exact c
      . rw [ho] at c; cases c)]
    exact s12 b o h
theorem Gv {op : Operator} {r : R2} (h : cx X (inplaceOp op) r) : GW X op r := h
theorem xI : cx X (inplaceOp .Mult) (rI (fun i j => bn i j) fun i j => .int (i * j)) := sU fun _ _ _ _ _ _ _ hc q => imul_int q (qz hc)
theorem vZ : cx X (inplaceOp .FloorDiv) (rI (fun _ j => fP j) fun i j => .int (i.fdiv j)) := sU fun i j _ _ _ _ _ hc q => ifloordiv_int hc.1 q (.inl (PyProof.noPylong_of_log2 (by
  rcases Nat.eq_zero_or_pos j.natAbs with h1 | hp
  . exact absurd (by simpa using h1) hc.1
  . exact (Nat.log2_lt (Nat.ne_of_gt hp)).mpr hc.2)))
theorem Cw {Φ : Fx} {sc : Scope} {H0 : Hp} {ρ : ai} {e : Expr} {x : Str} {p pos : Pos} {op : Operator} {a b : Int} {d : D} {k k2 : Nat} {o : Bool} {l : List Prop} (G : aT Φ X sc) (hx : cQ sc x = true) (ha : ρ x = some (.int a, o)) (h : ED X ρ e (.int b) k) (hr : yq op a b = .ok (d, k2) l) (hp : aE l) :
    SD X H0 ρ (.AugAssign (.Name x p) op e pos) (.nx (bv ρ x (d, true))) := by
  obtain ⟨g1, g2, g3, i, g4⟩ := eJ G hx
  obtain ⟨r, hr1, hr2⟩ : ∃ r : R2, cx X (inplaceOp op) r /\ d.lless = true /\ ∀ H (Q : VK), (∀ v, ag X.K H (fun _ _ => False) d v -> Q v H) -> r (.int a) (.int b) H Q := by
    unfold yq at hr
    split at hr
    . cases hr; exact ⟨_, A5, rfl, fun H Q q => ⟨a, b, rfl, rfl, q _ (by rw [ag])⟩⟩
    . cases hr; exact ⟨_, A0, rfl, fun H Q q => ⟨a, b, rfl, rfl, q _ (by rw [ag])⟩⟩
    . cases hr; exact ⟨_, xI, rfl, fun H Q q => ⟨a, b, rfl, rfl, hp.1, q _ (by rw [ag])⟩⟩
    . cases hr; exact ⟨_, vZ, rfl, fun H Q q => ⟨a, b, rfl, rfl, hp.1, q _ (by rw [ag])⟩⟩
    . cases hr
  intro pins s σ H D I ⟨ow, E, hl, B, q⟩
  obtain ⟨i2, v, e1, e2, e3, e4⟩ := E.get x _ _ ha
  rw [ag] at e4; subst e4
  have hi : i2 = i := iD G.nd e1 g4
  subst hi
  refine CJ (i := i2) G.nd g4 g1 (h ow) (Gv hr1) g3 pins s σ H D I ⟨.int a, e3, E, fun v H1 s1 r1 => ?_⟩
  rw [ag] at r1; subst r1
  refine hr2.2 H1 _ fun w rw' => ?_
  exact q ow _ H1 (dO G.nd hl (E.same s1) g4 g2 (rw'.flat _ hr2.1)) (by rw [List.length_set]; exact hl) (be.same s1)
theorem uy : nE "append" ky := fun X hc => ⟨"list.append", _, PySem.F.slot_list_append, PySem.F.type_list_append, oI, fun ow H0 H l ds l' j o a vs ws h hp => by
  unfold ky at h
  split at h
  . rename_i d
    cases h
    have c := hp.1
    refine ⟨by simp, fun P Q hP oi sm ha rl rd q => ?_⟩
    obtain ⟨w, rfl, rw'⟩ := rd.only
    refine ⟨a, vs, w, rfl, rfl, ha, ?_, q _ _ (rl.append (af.one ?_))⟩
    . rw [<- rl.length]; exact Nat.lt_trans hp.2.1 oJ
    . rcases c with c | c
      . exact rw'.flat _ c
      . subst c; exact rw'.imp hP
  . cases h⟩
theorem af.rev {K : W.Frag} {P : aZ} {H : Hp} : ∀ {l : List D} {vs : List V}, af K H P l vs -> af K H P l.reverse vs.reverse
  | [], vs, h => by rw [af] at h; subst h; exact af.nil
  | d :: l, vs, h => by
    rw [af] at h
    obtain ⟨v, r, rfl, h1, h2⟩ := h
    rw [List.reverse_cons, List.reverse_cons]
    exact (af.rev h2).append (af.one h1)
end Sp
namespace Sp
open PySem PySem.Spec PyProof.Rows L2
variable {X : Cx}
theorem lO {ow : Ow} {H : Hp} {σ : L2.St} {ρ : ai} (x : Str) (E : aQ X ow H σ ρ) : ∃ ow', aQ X ow' H σ (demX x ρ) /\ be ow H ow' H := by
  classical
  unfold demX
  let ow' : Ow := fun a => if ow a = some (some x) then none else ow a
  have o1 : ∀ a, ow a = none -> ow' a = none := fun a h => by show (if _ then _ else _) = _; split; rfl; exact h
  refine ⟨ow', ⟨fun y e o h => ?_, fun a ha => ?_⟩, fun a o h _ => h, fun a o h z => o1 a z⟩
  . by_cases hy : y = x
    . subst hy
      simp only [if_true] at h
      cases hd : ρ y with
      | none => rw [hd] at h; cases h
      | some q =>
        obtain ⟨d, o'⟩ := q
        rw [hd] at h
        cases h
        obtain ⟨j, w, e1, e2, e3, e4⟩ := E.get y _ _ hd
        refine ⟨j, w, e1, e2, e3, e4.imp fun a b p z => ?_⟩
        cases o' with
        | true => exact if_pos p.2
        | false => exact o1 a (p z)
    . simp only [if_neg hy] at h
      obtain ⟨j, w, e1, e2, e3, e4⟩ := E.get y e o h
      refine ⟨j, w, e1, e2, e3, e4.imp fun a b p => ?_⟩
      cases o with
      | true => exact ⟨p.1, by show (if _ then _ else _) = _; rw [if_neg (fun z => by rw [p.2] at z; cases z; exact hy rfl)]; exact p.2⟩
      | false => exact fun z => o1 a (p z)
  . refine E.own a fun z => ha (o1 a z)
theorem BC (x : Str) (ρ : ai) : demA x ρ = ρ \/ demA x ρ = demX x ρ := by
  cases h : ρ x with
  | none => exact .inl (funext fun y => by unfold demA; split; (rename_i e; subst e; rw [h]; rfl); rfl)
  | some p =>
    cases hl : p.1.lless with
    | true => exact .inl (funext fun y => by unfold demA; split; (rename_i e; subst e; rw [h]; show some (p.1, p.2 && p.1.lless) = _; rw [hl, Bool.and_true]); rfl)
    | false => exact .inr (funext fun y => by unfold demA demX; split; (rename_i e; subst e; rw [h]; show some (p.1, p.2 && p.1.lless) = _; rw [hl, Bool.and_false]; rfl); rfl)
theorem iM : ∀ {es : List Expr} {ow : Ow} {H : Hp} {σ : L2.St} {ρ : ai}, aQ X ow H σ ρ -> ∃ ow', aQ X ow' H σ (demL es ρ) /\ be ow H ow' H
  | [], ow, H, σ, ρ, E => ⟨ow, E, be.refl _ _⟩
  | e :: es, ow, H, σ, ρ, E => by
    have one : ∀ x, ∃ ow', aQ X ow' H σ (demL es (demA x ρ)) /\ be ow H ow' H := fun x => by
      rcases BC x ρ with h | h
      . rw [h]; exact iM E
      . rw [h]
        obtain ⟨ow1, E1, k1⟩ := lO x E
        obtain ⟨ow2, E2, k2⟩ := iM (es := es) E1
        exact ⟨ow2, E2, k1.trans k2⟩
    unfold demL
    split
    . rename_i z; cases z
    . rename_i z; cases z; exact one _
    . rename_i z; cases z; exact one _
    . rename_i z; cases z; exact iM E
theorem uN {ow : Ow} {H : Hp} {σ : L2.St} {ρ : ai} {e : Expr} (E : aQ X ow H σ ρ) : ∃ ow', aQ X ow' H σ (demote e ρ) /\ be ow H ow' H := by
  unfold demote
  split
  . exact lO _ E
  . exact lO _ E
  . exact iM E
  . exact ⟨ow, E, be.refl _ _⟩
def aa {α : Type} (r : Rs α) (a : α) : Prop := ∃ l, r = .ok a l /\ aE l
theorem aq {α β : Type} {r : Rs α} {f : α -> Rs β} {b : β} (h : aa (r.bnd f) b) : ∃ a, aa r a /\ aa (f a) b := by
  obtain ⟨l, h, hp⟩ := h
  obtain ⟨a, l1, l2, h1, p1, h2, p2⟩ := aK h hp
  exact ⟨a, ⟨l1, h1, p1⟩, l2, h2, p2⟩
theorem am {α : Type} {a : α} (h : aa (.st) a) : False := by obtain ⟨l, h, _⟩ := h; cases h
theorem aG {α : Type} {a b : α} {l : List Prop} (h : aa (.ok a l) b) : a = b := by obtain ⟨m, h, _⟩ := h; cases h; rfl
theorem Cv {H0 : Hp} {ρ : ai} {tg iter : Expr} {body : List Stmt} {pos : Pos} {bind : D -> ai -> Option ai} {bodyF : ai -> Rs Fl} {ds : List D} {k : Nat} {fl : Fl} (hp : PassesOwn (model X.prog X.w) X.A X.env X.xe) (hcalm : X.calm = true)
    (hi : IE X (demote iter ρ) tg iter ds k) (hk : k <= 1) (hg : ∀ d ρ ρ', bind d ρ = some ρ' -> GD X ρ tg d ρ') (hb : ∀ ρ fl, aa (bodyF ρ) fl -> fJ X H0 ρ body fl) (h : aa (dU bind bodyF ds (demote iter ρ)) fl)
    (hs : ∀ x, foldedSetIterable iter X.env x = pure x) : SD X H0 ρ (.For tg iter body [] pos) fl := by
  intro pins s σ H D0 I ⟨ow0, E0, hl, B0, q0⟩
  obtain ⟨ow, E, k0⟩ := uN (e := iter) E0
  have B := B0.keep k0
  have q := q0.keep k0
  have pb : fK X body (fun D σ H => ∃ ρ fl, aa (bodyF ρ) fl /\ yO X H0 ρ fl D σ H) := fun pins s σ H D I ⟨ρ1, fl1, h1, h2⟩ => hb ρ1 fl1 h1 pins s σ H D I h2
  have pg : PG X tg (fun v σ H Q => ∃ g : TG, PG X tg g /\ g v σ H Q) := fun pins s σ H v u Q I r ⟨g, h1, h2⟩ => h1 pins s σ H v u Q I r h2
  refine CI hp hcalm (hi ow) pg pb hs pins s σ H D0 I ⟨E, fun J H1 s1 itd => ?_⟩
  refine ⟨fun i m σ' H' => m = ds.length - i /\ i <= ds.length /\ ∃ ow' ρ', aQ X ow' H' σ' ρ' /\ σ'.length = X.N.length /\ cT H0 ow' H' /\ be ow H1 ow' H' /\ aa (dU bind bodyF (ds.drop i) ρ') fl,
    ⟨ds.length, by simp, Nat.zero_le _, ow, _, E.same s1, hl, B.keep (be.same s1), be.refl _ _, h⟩, ?_⟩
  rintro i m σ' H' ⟨rfl, hile, ow', ρ', E', hl', B', k', hf⟩
  have q' : om X H0 ow' H' fl D0 := q.keep ((be.same s1).trans k')
  have st : dC (Kd ow H k H1) (Kd ow H k H1) H1 H' := ⟨fun a o ha hn => k'.keep a o ha (.inl hn), fun a vs ha p => k'.keep a _ ha (.inr (gE E.own hk p.1)), fun _ _ _ p => p, fun _ p => p⟩
  have it := itd i H' st
  by_cases hlt : i < ds.length
  . obtain ⟨go, yl⟩ := it.1 ds[i] (List.getElem?_eq_getElem hlt)
    have hdrop : ds.drop i = ds[i] :: ds.drop (i + 1) := List.drop_eq_getElem_cons hlt
    rw [hdrop, dU] at hf
    refine .inr ⟨go, fun σ2 H2 => i + 1 <= ds.length /\ ∃ ow2 ρ2, aQ X ow2 H2 σ2 ρ2 /\ σ2.length = X.N.length /\ cT H0 ow2 H2 /\ be ow H1 ow2 H2 /\ aa (dU bind bodyF (ds.drop (i + 1)) ρ2) fl, fun σ2 H2 n => ⟨ds.length - (i + 1), by omega, rfl, n.1, n.2⟩, fun x H3 y3 => ?_⟩
    obtain ⟨sm3, rx⟩ := yl x H3 y3
    cases hbd : bind ds[i] ρ' with
    | none => rw [hbd] at hf; exact (am hf).elim
    | some ρ1 =>
      rw [hbd] at hf
      dsimp only at hf
      obtain ⟨g, g1, g2⟩ := hg _ _ _ hbd
      have rx' : ag X.K H3 (fun a b => b = true -> ow' a = none) ds[i] x := rx.impH (fun a o ha p _ => by
        obtain ⟨o1, h1⟩ := p.2 rfl
        exact k'.low a o1 h1 (gE E.own hk p.1)) fun a _ z => (by cases z)
      refine ⟨g, g1, g2 ow' x σ' H3 _ hl' (E'.same sm3) rx' fun σ2 hl2 E2 => ?_⟩
      have k3 : be ow' H' ow' H3 := be.same sm3
      obtain ⟨f1, hbo, hf⟩ := aq hf
      refine ⟨ρ1, f1, hbo, ow', E2, hl2, B'.keep k3, ?_⟩
      cases f1 with
      | nx ρ2 => exact fun ow2 σ3 H4 a b c => ⟨hlt, ow2, ρ2, a, b, (B'.keep k3).keep c, k'.trans (k3.trans c), hf⟩
      | ct ρ2 => exact fun ow2 σ3 H4 a b c => ⟨hlt, ow2, ρ2, a, b, (B'.keep k3).keep c, k'.trans (k3.trans c), hf⟩
      | bk ρ2 => cases aG hf; exact fun ow2 σ3 H4 a b c => q' ow2 σ3 H4 a b (k3.trans c)
      | rt d => cases aG hf; exact q'
  . have ei : i = ds.length := by omega
    subst ei
    rw [List.drop_length, dU] at hf
    cases aG hf
    exact .inl ⟨it.2 (Nat.le_refl _), q' ow' σ' H' E' hl' (be.refl _ _)⟩
theorem w6 {H0 : Hp} {c : Expr} {body : List Stmt} {pos : Pos} {test : ai -> Rs Bool} {bodyF : ai -> Rs Fl} {fl : Fl} (hp : PassesOwn (model X.prog X.w) X.A X.env X.xe)
    (hc : ∀ ρ b, aa (test ρ) b -> TD X ρ c b) (hb : ∀ ρ fl, aa (bodyF ρ) fl -> fJ X H0 ρ body fl) {n0 : Nat} {ρ0 : ai} (h : aa (kZ test bodyF n0 ρ0) fl) : SD X H0 ρ0 (.While c body [] pos) fl := by
  intro pins s σ H D0 I ⟨ow, E, hl, B, q⟩
  have pc : PT X c (fun σ H Q => ∃ ow ρ b, aa (test ρ) b /\ yN X ow ρ b σ H Q) := fun pins s σ H Q I ⟨ow, ρ, b, h1, h2⟩ => hc ρ b h1 ow pins s σ H Q I h2
  have pb : fK X body (fun D σ H => ∃ ρ fl, aa (bodyF ρ) fl /\ yO X H0 ρ fl D σ H) := fun pins s σ H D I ⟨ρ1, fl1, h1, h2⟩ => hb ρ1 fl1 h1 pins s σ H D I h2
  refine xb hp pc pb pins s σ H D0 I ?_
  refine ⟨fun m σ' H' => ∃ ow' ρ', aQ X ow' H' σ' ρ' /\ σ'.length = X.N.length /\ cT H0 ow' H' /\ be ow H ow' H' /\ aa (kZ test bodyF m ρ') fl, ⟨n0, ow, ρ0, E, hl, B, be.refl _ _, h⟩, ?_⟩
  rintro m σ' H' ⟨ow', ρ', E', hl', B', k', hw⟩
  have q' : om X H0 ow' H' fl D0 := q.keep k'
  cases m with
  | zero => exact (am hw).elim
  | succ m =>
    rw [kZ] at hw
    obtain ⟨b, ht, hw⟩ := aq hw
    refine ⟨ow', ρ', b, ht, E', fun H1 s1 => ?_⟩
    have k1 : be ow' H' ow' H1 := be.same s1
    cases b with
    | false =>
      cases aG hw
      exact q' ow' σ' H1 (E'.same s1) hl' k1
    | true =>
      rw [cond_true] at hw
      show if true = true then _ else _
      rw [if_pos rfl]
      refine ⟨fun σ2 H2 => ∃ ow2 ρ2, aQ X ow2 H2 σ2 ρ2 /\ σ2.length = X.N.length /\ cT H0 ow2 H2 /\ be ow H ow2 H2 /\ aa (kZ test bodyF m ρ2) fl, fun σ2 H2 z => ⟨m, Nat.lt_succ_self _, z⟩, ?_⟩
      obtain ⟨f1, hbo, hw⟩ := aq hw
      refine ⟨ρ', f1, hbo, ow', E'.same s1, hl', B'.keep k1, ?_⟩
      cases f1 with
      | nx ρ2 => exact fun ow2 σ3 H4 a b c => ⟨ow2, ρ2, a, b, (B'.keep k1).keep c, k'.trans (k1.trans c), hw⟩
      | ct ρ2 => exact fun ow2 σ3 H4 a b c => ⟨ow2, ρ2, a, b, (B'.keep k1).keep c, k'.trans (k1.trans c), hw⟩
      | bk ρ2 => cases aG hw; exact fun ow2 σ3 H4 a b c => q' ow2 σ3 H4 a b (k1.trans c)
      | rt d => cases aG hw; exact q'
theorem c6 {Φ : Fx} {e : Expr} {it : Bool} {sc : Scope} {ρ : ai} {p : D × Nat} {X : Cx} (h : aa (au Φ e it sc ρ) p) (G : aT Φ X sc) : eI X ρ e it p.1 p.2 := let ⟨_, h, hp⟩ := h; GI e h hp G
theorem vY {e : Expr} (h : jx e = true) : (∃ a b c d, e = .ListComp a b c d) \/ ∀ (Φ : Fx) (sc : Scope) (ρ : ai), au Φ e false sc ρ = .st := by
  cases e <;> first | exact .inl ⟨_, _, _, _, rfl⟩ | exact .inr fun _ _ _ => rfl | cases h
theorem oE {Φ : Fx} {sc : Scope} {H0 : Hp} {ρ : ai} {e : Expr} {x : Str} {p pos : Pos} {r : D × Nat} {o : Bool} (G : aT Φ X sc) (hx : cQ sc x = true) (h : aa (au Φ e false sc ρ) r) (ho : (r.2 = 0 /\ o = true) \/ (r.2 = 1 /\ o = false)) :
    SD X H0 ρ (.Assign [.Name x p] e pos) (.nx (bv ρ x (r.1, o))) := by
  by_cases hc : jx e = true
  . rcases vY hc with ⟨elt, gens, scope, q, rfl⟩ | hno
    rotate_left
    . rw [hno] at h; exact (am h).elim
    . clear hc
      have hsw : ∃ b, swapsWith (.ListComp elt gens scope q) (some (.Name x p)) pos.line X.env = pure b := ⟨_, rfl⟩
      obtain ⟨b, hsw⟩ := hsw
      cases b with
      | false => exact qe G hx ((c6 h G).ed rfl) ho hsw
      | true =>
        obtain ⟨l, h, hp⟩ := h
        obtain ⟨tg, iter, ifs, rfl⟩ := nX h
        obtain ⟨ds, f, k1, a1, a2, a3, a4, a5, a6, a7, a8, a9⟩ := sJ (gc Φ _) (Nat.lt_succ_self _) h hp G
        obtain ⟨g1, g2, g3, i, g4⟩ := eJ G hx
        rw [a9]
        intro pins s σ H D0 I ⟨ow, E, hl, B, q⟩
        refine Am (D0 := D0) (i := i) G.calm G.nd a1 a2 a3 a4 a5 a6 a7 a8 I E hsw g4 g1 g3 fun v H1 s1 r1 => ?_
        rcases ho with ⟨ho, rfl⟩ | ⟨ho, rfl⟩ <;> rw [ho] at r1
        . obtain ⟨ow', E', k'⟩ := n6 G.nd hl E s1 g4 g2 r1
          exact q ow' _ H1 E' (by rw [List.length_set]; exact hl) k'
        . exact q ow _ H1 (dO G.nd hl (E.same s1) g4 g2 r1) (by rw [List.length_set]; exact hl) (be.same s1)
  . exact qe G hx ((c6 h G).ed rfl) ho (k7 (by simpa using hc))
theorem lu {Φ : Fx} {e : Expr} {it : Bool} {sc : Scope} {ρ : ai} {r : D × Nat} (h : aa (au Φ e it sc ρ) r) : ∀ a b c p, e ≠ .Slice a b c p := by
  intro a b c p z; subst z; exact (am h).elim
theorem qt {ρ : ai} {x : Str} {f : List D -> Rs Fl} {fl : Fl} (h : aa (nO ρ x f) fl) : ∃ l, ρ x = some (.lst l, true) /\ fZ x = true /\ aa (f l) fl := by
  unfold nO at h
  split at h
  . rename_i l e
    split at h
    . rename_i c
      exact ⟨l, e, c, h⟩
    . exact (am h).elim
  . exact (am h).elim
theorem bC {α : Type} {a b : α} {l : List Prop} (h : aa (.ok a l) b) : a = b /\ aE l := by obtain ⟨m, h, hp⟩ := h; cases h; exact ⟨rfl, hp⟩
theorem pT {ρ : ai} {x : Str} {i d : D} {fl : Fl} (h : aa (pU ρ x i d) fl) : (∃ l j l', ρ x = some (.lst l, true) /\ ao l = true /\ fZ x = true /\ i = .int j /\ t8 l j d = some l' /\ d.lless = true /\ fl = .nx (bv ρ x (.lst l', true))) \/ ∃ ks ds k, ρ x = some (.dct ks ds, true) /\ lM i = some k /\ fZ x = true /\ d.lless = true /\ ks.length < bL /\ fl = .nx (bv ρ x (.dct (iO ks k) (dD ks ds k d), true)) := by
  unfold pU at h
  split at h
  . rename_i l e
    split at h
    . split at h
      . rename_i hn
        split at h
        . rename_i l' hs
          obtain ⟨h9, h1, h2, _⟩ := bC h
          exact .inl ⟨l, _, l', e, h1, hn, rfl, hs, h2, h9.symm⟩
        . exact (am h).elim
      . exact (am h).elim
    . exact (am h).elim
  . rename_i ks ds e
    split at h
    . rename_i k hk
      split at h
      . rename_i hn
        obtain ⟨h9, h1, h2, _⟩ := bC h
        exact .inr ⟨ks, ds, k, e, hk, hn, h1, h2, h9.symm⟩
      . exact (am h).elim
    . exact (am h).elim
  . exact (am h).elim
theorem C3 {Φ : Fx} {es : List Expr} {e : Expr} {n : Nat} {p pos : Pos} {sc : Scope} {ρ : ai} {fl : Fl} {X : Cx} {H0 : Hp} (h : aa (mP Φ es e sc ρ) fl) (G : aT Φ X sc) : SD X H0 ρ (.Assign [.Tuple es n p] e pos) fl := by
  unfold mP at h
  split at h
  . split at h
    . rename_i hp
      obtain ⟨q, ⟨lq, h1, hq⟩, h⟩ := aq h
      split at h
      . rename_i u v hd
        split at h
        . rename_i hf
          cases aG h
          obtain ⟨n1, _⟩ := cG h1 hq
          have c := jC _ h1 hq G
          rw [hd] at c
          exact Ct G c hf hp (n1 _ (by simp)) (n1 _ (by simp))
        . exact (am h).elim
      . exact (am h).elim
    . exact (am h).elim
  . exact (am h).elim
theorem Fa {Φ : Fx} {tgs : List Expr} {e : Expr} {sc : Scope} {ρ : ai} {fl : Fl} {X : Cx} {H0 : Hp} {pos : Pos} (h : aa (mS Φ tgs e sc ρ) fl) (G : aT Φ X sc) : SD X H0 ρ (.Assign tgs e pos) fl := by
  unfold mS at h
  split at h
  . obtain ⟨p, h1, h⟩ := aq h
    unfold lH at h
    split at h
    . rename_i hx
      split at h
      . rename_i ho; cases aG h; exact oE G hx h1 (.inl ⟨ho, rfl⟩)
      . rename_i ho; cases aG h; exact oE G hx h1 (.inr ⟨ho, rfl⟩)
      . exact (am h).elim
    . exact (am h).elim
  . split at h
    . exact C3 h G
    . rename_i ht
      have ht := Bool.eq_false_iff.mpr ht
      obtain ⟨p, h1, h⟩ := aq h
      split at h
      . rename_i ho
        cases aG h
        exact Ab G ((c6 h1 G).ed rfl) ho ht
      split at h
      . rename_i ds hd
        split at h
        . rename_i hf
          split at h
          . rename_i ρ' hb
            cases aG h
            exact Cs G ((c6 h1 G).ed rfl) hd hf hb ht
          . exact (am h).elim
        . exact (am h).elim
      . exact (am h).elim
  . split at h
    . rename_i hc
      obtain ⟨p, h1, h⟩ := aq h
      obtain ⟨q, h2, h⟩ := aq h
      have c2 := (c6 h2 G).ed rfl
      rcases pT h with ⟨l, j, l', a1, a2, a3, hj, hs, hf, rfl⟩ | ⟨ks, ds, k, a1, hk, a3, hf, hz, rfl⟩
      . rw [hj] at c2
        exact w8 a1 ((c6 h1 G).ed rfl) c2 a2 hf a3 hs (lu h2)
      . exact Ad a1 ((c6 h1 G).ed rfl) c2 hk hf hz a3 (lu h2)
    . exact (am h).elim
  . exact (am h).elim
theorem nP {p : D × Nat} {f : Int -> R1} {a : D × Nat} (h : aa (iF p f) a) : ∃ b, p.1 = .int b /\ aa (f b) a := by
  obtain ⟨l, h, hp⟩ := h
  obtain ⟨b, h1, h2⟩ := xJ h
  exact ⟨b, h1, l, h2, hp⟩
theorem EZ {Φ : Fx} {t e : Expr} {op : Operator} {sc : Scope} {ρ : ai} {fl : Fl} {X : Cx} {H0 : Hp} {pos : Pos} (h : aa (mR Φ t op e sc ρ) fl) (G : aT Φ X sc) : SD X H0 ρ (.AugAssign t op e pos) fl := by
  unfold mR at h
  split at h
  . split at h
    . rename_i hx
      split at h
      . rename_i p hp
        obtain ⟨r, h1, h⟩ := aq h
        cases aG h
        obtain ⟨a, ha, h3⟩ := nP h1
        obtain ⟨q, h2, h4⟩ := aq h3
        obtain ⟨b, hb, h5⟩ := nP h4
        obtain ⟨l, h9, hpl⟩ := h5
        have c := (c6 h2 G).ed rfl
        rw [hb] at c
        obtain ⟨p1, p2⟩ := p
        have ha : p1 = .int a := ha
        subst ha
        exact Cw G hx hp c h9 hpl
      . exact (am h).elim
    . exact (am h).elim
  . exact (am h).elim
theorem DR {Φ : Fx} {e : Expr} {sc : Scope} {ρ : ai} {fl : Fl} {X : Cx} {H0 : Hp} {pos : Pos} (h : aa (mQ Φ e sc ρ) fl) (G : aT Φ X sc) : SD X H0 ρ (.Expr e pos) fl := by
  unfold mQ at h
  split at h
  . split at h
    . rename_i hln
      obtain ⟨p, ⟨lp, h1, hp1⟩, h⟩ := aq h
      split at h
      . rename_i M hM
        obtain ⟨l, a1, a3, h⟩ := qt h
        obtain ⟨l', ⟨o, h2, hp2⟩, h⟩ := aq h
        cases aG h
        obtain ⟨n1, n2⟩ := cG h1 hp1
        exact Cu G.calm (G.mtt _ M hM) a1 (jC _ h1 hp1 G) n1 n2 a3 hln h2 hp2
      . exact (am h).elim
    . exact (am h).elim
  . obtain ⟨p, h1, h⟩ := aq h
    cases aG h
    exact Ac ((c6 h1 G).ed rfl) ⟨_, _, _, _, _, rfl⟩
  . exact (am h).elim
structure Is (Φ : Fx) (n : Nat) : Prop where
  s : ∀ (st : Stmt) {sc : Scope} {ρ : ai} {fl : Fl} {X : Cx} {H0 : Hp}, sizeOf st < n -> aa (dg Φ st sc ρ) fl -> aT Φ X sc -> PassesOwn (model X.prog X.w) X.A X.env X.xe -> SD X H0 ρ st fl
  ss : ∀ (st : List Stmt) {sc : Scope} {ρ : ai} {fl : Fl} {X : Cx} {H0 : Hp}, sizeOf st < n -> aa (az Φ st sc ρ) fl -> aT Φ X sc -> PassesOwn (model X.prog X.w) X.A X.env X.xe -> fJ X H0 ρ st fl
theorem fw {p : D × Nat} {α : Type} {f : Bool -> Rs α} {a : α} (h : aa (gH p f) a) : ∃ b, p.1 = .bl b /\ aa (f b) a := by
  obtain ⟨l, h, hp⟩ := h
  obtain ⟨b, h1, h2⟩ := kI h
  exact ⟨b, h1, l, h2, hp⟩
theorem GG {Φ : Fx} {n : Nat} (I : Is Φ n) (st : Stmt) {sc : Scope} {ρ : ai} {fl : Fl} {X : Cx} {H0 : Hp} (hs : sizeOf st < n + 1) (h : aa (dg Φ st sc ρ) fl) (G : aT Φ X sc) (hp : PassesOwn (model X.prog X.w) X.A X.env X.xe) : SD X H0 ρ st fl := by
  cases st with
  | Return e p =>
    cases e with
    | none => cases aG h; exact zZ
    | some e =>
      obtain ⟨p, h1, h⟩ := aq (show aa (Rs.bnd _ _) fl from h)
      unfold t9 at h
      split at h
      . rename_i hk
        cases aG h
        exact vo ((c6 h1 G).ed rfl) hk
      . exact (am h).elim
  | Pass p => cases aG h; exact Aa
  | Break p => cases aG h; exact w9
  | Continue p => cases aG h; exact Ae
  | Assign tgs e p => exact Fa h G
  | AugAssign t op e p => exact EZ h G
  | Expr e p => exact DR h G
  | If c a b p =>
    obtain ⟨p, h1, h⟩ := aq (show aa (Rs.bnd _ _) fl from h)
    obtain ⟨t, ht, h⟩ := fw h
    refine F1 ((c6 h1 G).td rfl t ht) ?_
    cases t with
    | true => rw [if_pos rfl]; exact I.ss _ (aY (by simp <;> omega) hs) h G hp
    | false => rw [if_neg Bool.false_ne_true]; exact I.ss _ (aY (by simp <;> omega) hs) h G hp
  | For tg it body els p =>
    rw [nZ] at h
    split at h
    . rename_i he
      have he := List.isEmpty_iff.mp he
      subst he
      obtain ⟨p, h1, h⟩ := aq h
      split at h
      . rename_i ds hd
        split at h
        . rename_i hk
          obtain ⟨lq, h1', _⟩ := id h1
          exact Cv hp G.calm ((c6 h1 G).ie rfl _ ds hd hk.2) hk.1 (fun d ρ ρ' hb => zm G hb) (fun ρ1 f1 h2 => I.ss _ (aY (by simp <;> omega) hs) h2 G hp) h (oS h1')
        . exact (am h).elim
      . exact (am h).elim
    . exact (am h).elim
  | While c body els p =>
    rw [q9] at h
    split at h
    . rename_i he
      have he := List.isEmpty_iff.mp he
      subst he
      refine w6 hp (fun ρ b hb => ?_) (fun ρ1 f1 h2 => I.ss _ (aY (by simp <;> omega) hs) h2 G hp) h
      obtain ⟨p, h1, hb⟩ := aq hb
      obtain ⟨t, ht, hb⟩ := fw hb
      cases aG hb
      exact (c6 h1 G).td rfl _ ht
    . exact (am h).elim
  | _ => exact (am h).elim
theorem DQ {Φ : Fx} {n : Nat} (I : Is Φ n) (ss : List Stmt) {sc : Scope} {ρ : ai} {fl : Fl} {X : Cx} {H0 : Hp} (hs : sizeOf ss < n + 1) (h : aa (az Φ ss sc ρ) fl) (G : aT Φ X sc) (hp : PassesOwn (model X.prog X.w) X.A X.env X.xe) : fJ X H0 ρ ss fl := by
  cases ss with
  | nil => cases aG h; exact zY
  | cons s ss =>
    obtain ⟨f1, h1, h⟩ := aq (show aa (Rs.bnd _ _) fl from h)
    have c := I.s s (H0 := H0) (aY (by simp <;> omega) hs) h1 G hp
    cases f1 with
    | nx ρ' => exact lE c (I.ss ss (aY (by simp <;> omega) hs) h G hp)
    | bk ρ' => cases aG h; exact ir c (fun _ z => (by cases z))
    | ct ρ' => cases aG h; exact ir c (fun _ z => (by cases z))
    | rt d => cases aG h; exact ir c (fun _ z => (by cases z))
theorem mG (Φ : Fx) : ∀ n, Is Φ n
  | 0 => ⟨fun _ _ _ _ _ _ h => absurd h (Nat.not_lt_zero _), fun _ _ _ _ _ _ h => absurd h (Nat.not_lt_zero _)⟩
  | n + 1 => ⟨fun e _ _ _ _ _ hs h G hp => GG (mG Φ n) e hs h G hp, fun e _ _ _ _ _ hs h G hp => DQ (mG Φ n) e hs h G hp⟩
theorem mN {Φ : Fx} (ss : List Stmt) {sc : Scope} {ρ : ai} {fl : Fl} {X : Cx} {H0 : Hp} (h : aa (az Φ ss sc ρ) fl) (G : aT Φ X sc) (hp : PassesOwn (model X.prog X.w) X.A X.env X.xe) : fJ X H0 ρ ss fl := (mG Φ _).ss ss (Nat.lt_succ_self _) h G hp
end Sp
namespace Sp
open PySem PySem.Spec PyProof.Rows L2
def aA (sc : Scope) : List Str := (sc.names.filter fun y => y.2 == .local || y.2 == .cell).map (·.1)
def cg (P : Program) (w : World) (K : W.Frag) (mg : Str -> Option Value) (base : Heap) (k : Nat) (g : Str) (F : List D -> Rs D) : Prop :=
  ∃ f fd ps, ci P w K mg base eT k f fd ps (gX K F) /\ mg g = some (.ref f) /\ W.keepIn K (.ref f) = true /\ cE K fd ps [] /\ (g == ("__debug__" : Str)) = false
theorem cg.mono {P : Program} {w : World} {K : W.Frag} {mg : Str -> Option Value} {base : Heap} {j k : Nat} {g : Str} {F : List D -> Rs D} (h : cg P w K mg base j g F) (hjk : j <= k) : cg P w K mg base k g F :=
  let ⟨f, fd, ps, h1, h2⟩ := h; ⟨f, fd, ps, h1.mono hjk, h2⟩
def zH (P : Program) (w : World) (K : W.Frag) (mg : Str -> Option Value) (base : Heap) (k : Nat) (g : Str) (F : List D -> Rs D) : Prop :=
  ∃ j C f fd ps, j + 1 <= k /\ (∀ ds r l, F ds = .ok r l -> r.lless = true) /\ Mk K C f /\ ci P w K mg base eT j f fd ps (GU K g F) /\ mg g = some (.ref C) /\ W.nsIn K mainGlobals g = some (some (.ref C)) /\ fL K C /\ cE K fd ps [] /\ (g == ("__debug__" : Str)) = false
theorem zH.mono {P : Program} {w : World} {K : W.Frag} {mg : Str -> Option Value} {base : Heap} {j k : Nat} {g : Str} {F : List D -> Rs D} (h : zH P w K mg base j g F) (hjk : j <= k) : zH P w K mg base k g F :=
  let ⟨i, C, f, fd, ps, h0, h1⟩ := h; ⟨i, C, f, fd, ps, Nat.le_trans h0 hjk, h1⟩
def G2 (P : Program) (w : World) (K : W.Frag) (mg : Str -> Option Value) (base : Heap) (k : Nat) (g : Str) (F : List D -> Rs D) : Prop := cg P w K mg base k g F \/ zH P w K mg base k g F
def pB (P : Program) (w : World) (K : W.Frag) (mg : Str -> Option Value) (base : Heap) (k : Nat) (n m : Str) (F : List D -> Rs D) : Prop :=
  ∃ C f fd ps, W.nsIn K mainGlobals n = some (some (.ref C)) /\ fL K C /\ rX K C m f /\ ci P w K mg base eT k f fd ps (gX K F) /\ cE K fd ps []
theorem pB.mono {P : Program} {w : World} {K : W.Frag} {mg : Str -> Option Value} {base : Heap} {j k : Nat} {n m : Str} {F : List D -> Rs D} (h : pB P w K mg base j n m F) (hjk : j <= k) : pB P w K mg base k n m F :=
  let ⟨C, f, fd, ps, h1, h2, h3, h4, h5⟩ := h; ⟨C, f, fd, ps, h1, h2, h3, h4.mono hjk, h5⟩
theorem rH : ∀ {ps : List Str} {ds : List D} {x : Str} {d : D} {o : Bool}, ey ps ds x = some (d, o) -> o = false /\ ∃ i : Nat, ps[i]? = some x /\ ds[i]? = some d
  | [], ds, x, d, o, h => by cases ds <;> cases h
  | p :: ps, [], x, d, o, h => by cases h
  | p :: ps, y :: ds, x, d, o, h => by
    replace h : (if x = p then some (y, false) else ey ps ds x) = some (d, o) := h
    by_cases e : x = p
    . rw [if_pos e] at h
      cases h; subst e; exact ⟨rfl, 0, rfl, rfl⟩
    . rw [if_neg e] at h
      obtain ⟨h1, i, h2, h3⟩ := rH h
      exact ⟨h1, i + 1, by simpa using h2, by simpa using h3⟩
structure r6 (P : Program) (w : World) (K : W.Frag) (mg : Str -> Option Value) (base : Heap) (k : Nat) (Φ : Fx) : Prop where
  fn : ∀ g F, Φ.fn g = some F -> G2 P w K mg base k g F
  con : ∀ x d, Φ.con x = some d -> ∃ v u, mg x = some u /\ aP v u /\ ∀ H P, ag K H P d v
  blt : ∀ f B, Φ.blt f = some B -> dS f B
  itr : ∀ f B, Φ.itr f = some B -> iW f B
  mth : ∀ m M, Φ.mth m = some M -> u8 m M
  mtt : ∀ m M, Φ.mtt m = some M -> nE m M
  slf : pA Φ.slf
  fld : ∀ n f, Φ.fld n f = true -> ∀ C, W.nsIn K mainGlobals n = some (some (.ref C)) -> nD K C f
  omt : ∀ n m F, Φ.omt n m = some F -> pB P w K mg base k n m F
  bl : ∀ n ∈ gj, mg n = none
def ez (Φ : Fx) (sc : Scope) (ps : List Str) (body : List Stmt) (F : List D -> Rs D) : Prop := ∀ ds r, aa (F ds) r -> aa (bP Φ sc ps body ds) r
theorem ez.self {Φ : Fx} {sc : Scope} {ps : List Str} {body : List Stmt} : ez Φ sc ps body (bP Φ sc ps body) := fun _ _ h => h
theorem kB {P : Program} {w : World} {K : W.Frag} {mg : Str -> Option Value} {base : Heap} {k : Nat} {qual : Str} {st : Stmt} {f : Addr} {ps : List Str} {Φ : Fx} {cdv : Value} {A : Around} {outer : List Env} {s : Shared} {H : Hp} {E : XK}
    (S : aJ (aA (ac st)) ps (ac st)) (hΦ : r6 P w K mg base k Φ) (hr : bV k (A.deeper (envOfC qual (ac st) s.heap.objs.size f cdv))) :
    aT Φ (jH eT P w K mg base (aA (ac st)) qual (ac st) f cdv A outer s H E).nox (ac st) := by
  have hun := hr.un
  refine ⟨rfl, S.nd, fun x hx => hx, fun x hx => hx, fun x hx => hx, fun x hx => hx, fun g' F' hg => ?_, hΦ.con, hΦ.blt, hΦ.itr, hΦ.mth, hΦ.mtt, hΦ.slf, hΦ.fld, fun n m F hF => ?_, hΦ.bl, ?_, fun x hx => ?_, fun x _ => rfl⟩
  . rcases hΦ.fn g' F' hg with z | z
    . obtain ⟨f', fd', ps', a1, a2, a3, a4, a5⟩ := z
      exact .inl ⟨k, f', fd', ps', a1, hr, a2, a3, a4, a5⟩
    . obtain ⟨j, C, f', fd', ps', a0, a1, a2, a3, a4⟩ := z
      exact .inr ⟨j, C, f', fd', ps', a1, a2, a3, hr.mono a0, a4⟩
  . obtain ⟨C, f', fd', ps', a1, a2, a3, a4, a5⟩ := hΦ.omt n m F hF
    exact ⟨k, C, f', fd', ps', a1, a2, a3, a4, hr, a5⟩
  . show (A.deeper _).units + 70 < cLine
    omega
  . show x ∈ aA (ac st)
    unfold aA
    unfold cQ at hx
    rw [Bool.or_eq_true] at hx
    rcases hx with hx | hx
    . have hx : (ac st).names.lookup x = some .local := by simpa using hx
      exact List.mem_map.mpr ⟨(x, .local), List.mem_filter.mpr ⟨PySem.mem_of_lookup hx, by simp⟩, rfl⟩
    . have hx : (ac st).names.lookup x = some .cell := by simpa using hx
      exact List.mem_map.mpr ⟨(x, .cell), List.mem_filter.mpr ⟨PySem.mem_of_lookup hx, by simp⟩, rfl⟩
theorem mX {P : Program} {w : World} {K : W.Frag} {mg : Str -> Option Value} {base : Heap} {qual : Str} {st : Stmt} {f : Addr} {ps : List Str} {cdv : Value} {A : Around} {outer : List Env} {s : Shared} {H : Hp} {E : XK} {ds : List D} {vs : List V}
    (S : aJ (aA (ac st)) ps (ac st)) (h1 : af K H (fun _ _ => True) ds vs) (hl : ds.length = ps.length) :
    aQ (jH eT P w K mg base (aA (ac st)) qual (ac st) f cdv A outer s H E).nox (fun _ => none) H (start (aA (ac st)) vs) (ey ps ds) /\ (start (aA (ac st)) vs).length = (aA (ac st)).length := by
  have hpl : ps.length <= (aA (ac st)).length := by have := congrArg List.length S.pre; rw [List.length_take] at this; omega
  have hvl : vs.length = ps.length := by rw [<- h1.length]; exact hl
  refine ⟨⟨fun x d o hx => ?_, fun a ha => absurd rfl ha⟩, by unfold L2.start; rw [List.length_append, List.length_map, List.length_replicate]; omega⟩
  obtain ⟨rfl, i, i1, i2⟩ := rH hx
  obtain ⟨v, i3, i4⟩ := h1.get i2
  have hi : i < ps.length := (List.getElem?_eq_some_iff.mp i1).1
  refine ⟨i, v, ?_, ?_, ?_, i4.imp fun a b _ _ => rfl⟩
  . show (aA (ac st))[i]? = some x
    rw [<- S.pre, List.getElem?_take_of_lt hi] at i1
    exact i1
  . rcases S.par x (List.mem_of_getElem? i1) with z | z
    . exact .inl z
    . exact .inr (.inl z)
  . unfold L2.start
    rw [List.getElem?_append_left (by rw [List.length_map]; omega), List.getElem?_map, i3]; rfl
theorem Bh {P : Program} {w : World} {K : W.Frag} {mg : Str -> Option Value} {base : Heap} {k : Nat} {g qual : Str} {st : Stmt} {f : Addr} {fd : FuncData} {ps : List Str} {F : List D -> Rs D} {Φ : Fx} (Fn : ly K g qual st f fd)
    (S : aJ (aA (ac st)) ps (ac st)) (hΦ : r6 P w K mg base k Φ)
    (hrun : ez Φ (ac st) ps (al st) F) : ci P w K mg base eT (k + 1) f fd ps (gX K F) := by
  refine Fn.ok S (fun vs H Q E h => ?_) (fun cdv A outer s H vs Q E hr h => ?_)
  . obtain ⟨ds, r, l, h1, h2, hp, _⟩ := h
    have := hrun ds r ⟨l, h2, hp⟩
    unfold bP at this
    split at this
    . rename_i hl; rw [<- h1.length]; exact hl
    . exact (am this).elim
  . obtain ⟨ds, r, l, h1, h2, hp, q⟩ := h
    have hr1 := hrun ds r ⟨l, h2, hp⟩
    unfold bP at hr1
    split at hr1
    . rename_i hl
      have G := kB (outer := outer) (H := H) (E := E) S hΦ hr
      obtain ⟨E0, hsl⟩ := mX (P := P) (w := w) (mg := mg) (base := base) (qual := qual) (f := f) (cdv := cdv) (A := A) (outer := outer) (s := s) (E := E) S h1 hl
      have B0 : cT H (fun _ => none) H := fun a o h => ⟨h, rfl⟩
      obtain ⟨fl, hx, hr1⟩ := aq hr1
      cases fl with
      | rt d =>
        cases aG hr1
        exact ⟨_, mN _ (H0 := H) hx G PassesOwn.never, fun _ => none, E0, hsl, B0, fun v H' sm rp => q v H' sm rp⟩
      | nx ρ' =>
        cases aG hr1
        exact ⟨_, mN _ (H0 := H) hx G PassesOwn.never, fun _ => none, E0, hsl, B0, fun ow' σ' H' _ _ kp => q .non H' (fun a o h => kp.keep a o h (.inr rfl)) (by rw [ag])⟩
      | bk ρ' => exact (am hr1).elim
      | ct ρ' => exact (am hr1).elim
    . exact (am hr1).elim
mutual
def D.noObj : D -> Bool
  | .obj _ _ _ => false
  | .tup l => hZ l
  | .lst l => hZ l
  | .dct _ l => hZ l
  | _ => true
def hZ : List D -> Bool
  | [] => true
  | d :: l => d.noObj && hZ l
end
mutual
theorem ag.off {K : W.Frag} {P : aZ} {H H' : Hp} {x C dx : Addr} {fs : List (Str × V)} (hx : H x = some (.ins C dx fs)) (s : ∀ a o, a ≠ x -> H a = some o -> H' a = some o) : ∀ {d : D} {v : V}, d.noObj = true -> ag K H P d v -> ag K H' P d v
  | .non, v, _, h => by rw [ag] at h ⊢; exact h
  | .bl b, v, _, h => by rw [ag] at h ⊢; exact h
  | .int i, v, _, h => by rw [ag] at h ⊢; exact h
  | .str x, v, _, h => by rw [ag] at h ⊢; exact h
  | .dct ks es, v, f, h => by
    rw [ag] at h ⊢
    obtain ⟨f0, e0, a, vs, e, h1, p, r⟩ := h
    exact ⟨f0, e0, a, vs, e, s _ _ (kl h1 hx (fun z => nomatch z)) h1, p, af.off hx s (by rw [D.noObj] at f; exact f) r⟩
  | .typ n, v, _, h => by rw [ag] at h ⊢; exact h
  | .sn n, v, _, h => by
    rw [ag] at h ⊢
    obtain ⟨a, S, e, h⟩ := h
    exact ⟨a, S, e, s _ _ (kl h hx (fun z => nomatch z)) h⟩
  | .obj n ns ds, v, f, h => by rw [D.noObj] at f; cases f
  | .cls n, v, _, h => by rw [ag] at h ⊢; exact h
  | .tup l, v, f, h => by
    rw [ag] at h ⊢
    obtain ⟨a, vs, e, h, r⟩ := h
    refine ⟨a, vs, e, ?_, af.off hx s (by rw [D.noObj] at f; exact f) r⟩
    rcases h with (h | ⟨o, h⟩) | h
    . exact .inl (.inl (s _ _ (kl h hx (fun z => nomatch z)) h))
    . exact .inl (.inr ⟨o, s _ _ (kl h hx (fun z => nomatch z)) h⟩)
    . exact .inr h
  | .lst l, v, f, h => by
    rw [ag] at h ⊢
    obtain ⟨a, vs, b, e, h, p, r⟩ := h
    refine ⟨a, vs, b, e, ?_, p, af.off hx s (by rw [D.noObj] at f; exact f) r⟩
    cases b with
    | true => exact s _ _ (kl h hx (fun z => nomatch z)) h
    | false =>
      rcases h with ⟨o, h⟩ | h
      . exact .inl ⟨o, s _ _ (kl h hx (fun z => nomatch z)) h⟩
      . exact .inr h
theorem af.off {K : W.Frag} {P : aZ} {H H' : Hp} {x C dx : Addr} {fs : List (Str × V)} (hx : H x = some (.ins C dx fs)) (s : ∀ a o, a ≠ x -> H a = some o -> H' a = some o) : ∀ {l : List D} {vs : List V}, hZ l = true -> af K H P l vs -> af K H' P l vs
  | [], vs, _, h => by rw [af] at h ⊢; exact h
  | d :: l, vs, f, h => by
    rw [af] at h ⊢
    rw [hZ, Bool.and_eq_true] at f
    obtain ⟨v, r, e, h1, h2⟩ := h
    exact ⟨v, r, e, ag.off hx s f.1 h1, af.off hx s f.2 h2⟩
end
theorem bi {P : Program} {w : World} {K : W.Frag} {mg : Str -> Option Value} {base : Heap} {k : Nat} {g qual : Str} {st : Stmt} {f : Addr} {fd : FuncData} {ps : List Str} {F : List D -> Rs D} {Φ : Fx} (Fn : ly K g qual st f fd)
    (S : aJ (aA (ac st)) ps (ac st)) (hm : mg g = some (.ref f)) (hb : cE K fd ps []) (hd : (g == ("__debug__" : Str)) = false)
    (hΦ : r6 P w K mg base k Φ) (hrun : ez Φ (ac st) ps (al st) F) : cg P w K mg base (k + 1) g F :=
  ⟨f, fd, ps, Bh Fn S hΦ hrun, hm, Fn.kp, hb, hd⟩
theorem av {α : Type} {Pr : α -> Prop} {x : α} {l : List α} (h1 : Pr x) (h2 : ∀ y ∈ l, Pr y) : ∀ y ∈ x :: l, Pr y := fun y hy => (List.mem_cons.mp hy).elim (fun e => e ▸ h1) (h2 y)
theorem aw {α : Type} {Pr : α -> Prop} : ∀ y ∈ ([] : List α), Pr y := fun y hy => by cases hy
theorem DH {K : W.Frag} {H : Hp} {a : Addr} {ns : List Int} {F : List D -> Rs D} (hO : u7 H) (hS : bS K H a (ns.map V.int)) (h : aa (F [.lst (ns.map D.int)]) (.bl true)) : gX K F [.ref a] H (fun v _ => v = .bl true) fun _ _ _ => False := by
  obtain ⟨l, h, hp⟩ := h
  refine ⟨[.lst (ns.map D.int)], .bl true, l, af.one ?_, h, hp, fun v H' _ r => by rw [ag] at r; exact r⟩
  rw [ag]
  rcases hS with (hS | hS) | hS
  . rcases hO a with z | ⟨o, xs, z⟩
    . rw [z] at hS; cases hS
    . rw [z] at hS; cases hS
  . exact ⟨a, _, false, rfl, .inl hS, True.intro, af.ofInts⟩
  . exact ⟨a, _, false, rfl, .inr hS, True.intro, af.ofInts⟩
abbrev zL (P : Program) (w : World) (K : W.Frag) (mg : Str -> Option Value) (base : Heap) (k : Nat) : Str × (List D -> Rs D) -> Prop := fun p => G2 P w K mg base k p.1 p.2
abbrev jZ (mg : Str -> Option Value) (K : W.Frag) : Str × D -> Prop := fun p => ∃ v u, mg p.1 = some u /\ aP v u /\ ∀ H P, ag K H P p.2 v
abbrev gx : Str × (List D -> R1) -> Prop := fun p => dS p.1 p.2
abbrev oq : Str × (List D -> Nat -> R1) -> Prop := fun p => iW p.1 p.2
abbrev Fj : Str × (D -> List D -> R1) -> Prop := fun p => u8 p.1 p.2
abbrev yE : Str × (List D -> List D -> Nat -> Rs (List D)) -> Prop := fun p => nE p.1 p.2
theorem bf {P : Program} {w : World} {K : W.Frag} {mg : Str -> Option Value} {base : Heap} {k : Nat} {l : List (Str × (List D -> Rs D))} {c : List (Str × D)} {b : List (Str × (List D -> R1))} {i : List (Str × (List D -> Nat -> R1))} {m : List (Str × (D -> List D -> R1))} {t : List (Str × (List D -> List D -> Nat -> Rs (List D)))} {sf : D -> Option Int -> Option Int -> R1}
    (hl : ∀ p ∈ l, zL P w K mg base k p) (hc : ∀ p ∈ c, jZ mg K p) (hb : ∀ p ∈ b, gx p) (hi : ∀ p ∈ i, oq p) (hm : ∀ p ∈ m, Fj p) (ht : ∀ p ∈ t, yE p) (hs : pA sf) (hn : ∀ n ∈ gj, mg n = none) : r6 P w K mg base k (Tb l c b i m t sf) :=
  ⟨fun g F h => hl (g, F) (PySem.mem_of_lookup h), fun x d h => hc (x, d) (PySem.mem_of_lookup h), fun f B h => hb (f, B) (PySem.mem_of_lookup h), fun f B h => hi (f, B) (PySem.mem_of_lookup h), fun f B h => hm (f, B) (PySem.mem_of_lookup h), fun f B h => ht (f, B) (PySem.mem_of_lookup h), hs, (fun _ _ h => by cases h), (fun _ _ _ h => by cases h), hn⟩
theorem fe {mg : Str -> Option Value} {K : W.Frag} {x : Str} {c : Addr} {dd : Option Addr} {ss : Array (Option Value)} {nn : Nat} {its : Array Value} {ns : List Int} (hm : mg x = some (.ref c)) (hl : K.lookup c = some ⟨.type "tuple", dd, .seq its nn, ss⟩) (hz : its.size <= sizeLine) (hv : aF (ns.map V.int) its.toList) :
    jZ mg K (x, .tup (ns.map .int)) := ⟨.ref c, .ref c, hm, rfl, fun H P => by rw [ag]; exact ⟨c, _, rfl, .inr ⟨_, its, nn, hl, rfl, rfl, hz, hv⟩, af.ofInts⟩⟩
end Sp
namespace Sp
open PySem PySem.Spec PyProof.Rows L2
open AutoSeq1 (wpAny_loadPart')
theorem D3 (tu : Addr) (vs : Array Value) (n : Nat) (dc : Option Addr) (so : Array (Option Value)) :
    Meets (Builtin.«enumerate.__new__» ⟨[.type "enumerate", .ref tu], []⟩) (fun _ R st => st.heap.get? tu = some { cls := .type "tuple", dict := dc, data := .seq vs n, slots := so } /\
      R (.ok (.ret (.ref (st.heap.push { cls := .type "tuple_iterator", data := .fields #[.ref tu, .int 0 0] }).objs.size)))
        { st with heap := (st.heap.push { cls := .type "tuple_iterator", data := .fields #[.ref tu, .int 0 0] }).push { cls := .type "enumerate", data := .fields #[.none, .bool false, .ref st.heap.objs.size, rawInt 0, .none, .none] } }) :=
  .of_wp fun pg wd AA RR st hh => by
    obtain ⟨hp0, gg, dd, tk0, oo⟩ := st; obtain ⟨htu, hh⟩ := hh
    have hsub0 := sub_enumerate
    have hTT : Heap.IsTuple (Shared.heap ⟨hp0, gg, dd, tk0, oo⟩) tu vs := ⟨_, htu, rfl, n, rfl⟩
    wp_walk using wpAny_loadPart' htu
    refine wpAny_stack_any fun stk0 => wpAny_pure ?_
    split
    . rename_i c0 _ _ _ _ _
      cases (c0 == Value.type "enumerate")
      . wp_walk using wpAny_loadPart' htu, wpAny_pyIter_tuple hTT
        exact ⟨_, rfl, hh⟩
      . wp_walk using wpAny_loadPart' htu, wpAny_pyIter_tuple hTT
        exact ⟨_, rfl, hh⟩
    . wp_walk using wpAny_loadPart' htu, wpAny_pyIter_tuple hTT
      exact ⟨_, rfl, hh⟩
section
variable {prog : Program} {w : World} {A : Around} {E : Value -> Shared -> Prop} {s : Shared}
theorem Bu {tu : Addr} {vs : Array Value} {Q : Value -> Shared -> Prop} (hT : s.heap.IsTuple tu vs)
    (go : ∀ h1, IsEnum h1 (s.heap.objs.size + 1) s.heap.objs.size 0 .none -> h1.IsTupleIter s.heap.objs.size tu 0 -> h1.objs.size = s.heap.objs.size + 2 -> (∀ b o, s.heap.get? b = some o -> h1.get? b = some o) -> Q (.ref (s.heap.objs.size + 1)) { s with heap := h1 }) :
    wpAny (model prog w) A (call (.type "enumerate") [.ref tu]) Q E s := by
  obtain ⟨⟨cc, dc, dt, so⟩, htu, hcc, n, hdd⟩ := hT
  replace hcc : cc = .type "tuple" := hcc
  replace hdd : dt = .seq vs n := hdd
  subst hcc hdd
  refine callType_new F.called_enumerate (by decide) (F.typeCall_enumerate_1 _) (F.newCall_enumerate_1 _) (fun ob => F.args_object_init_2 ob _) F.entry_enumerate_new (D3 tu vs n dc so) ⟨htu, ?_⟩
  have sz : (s.heap.push { cls := .type "tuple_iterator", data := .fields #[.ref tu, .int 0 0] }).objs.size = s.heap.objs.size + 1 := Heap.size_push ..
  show _ /\ _
  rw [sz]
  have isE : IsEnum ((s.heap.push { cls := .type "tuple_iterator", data := .fields #[.ref tu, .int 0 0] }).push { cls := .type "enumerate", data := .fields #[.none, .bool false, .ref s.heap.objs.size, rawInt 0, .none, .none] }) (s.heap.objs.size + 1) s.heap.objs.size 0 .none := by
    have q := Heap.get?_push_size (s.heap.push { cls := .type "tuple_iterator", data := .fields #[.ref tu, .int 0 0] }) (o := { cls := .type "enumerate", data := .fields #[.none, .bool false, .ref s.heap.objs.size, rawInt 0, .none, .none] }) rfl
    rw [sz] at q; exact q
  refine ⟨⟨_, isE, rfl⟩, go _ isE ⟨_, Heap.get?_push_of_some _ (Heap.get?_push_size _ rfl), rfl, rfl⟩ (by rw [Heap.size_push, sz]) fun b o z => Heap.get?_push_of_some _ (Heap.get?_push_of_some _ z)⟩
theorem sF {it tu : Addr} {i : Nat} {vs : Array Value} {x : Value} {Q : Value -> Shared -> Prop} (hIt : s.heap.IsTupleIter it tu i) (hT : s.heap.IsTuple tu vs) (hx : vs[i]? = some x)
    (go : ∀ h1, h1.IsTupleIter it tu (i + 1) -> Heap.SameBut it s.heap h1 -> Q x { s with heap := h1 }) : wpAny (model prog w) A (Builtin.SmallTypes.nextOf (.ref it)) Q E s := by
  have key := wpAny_pyNext_tuple_item (prog := prog) (w := w) (A := A) (E := E) (Q := fun r s1 => ∃ v, r = some v /\ Q v s1) hIt hT hx (fun h1 a b => ⟨x, rfl, go h1 a b⟩)
  obtain ⟨o, ho, hc, hd⟩ := id hIt
  obtain ⟨ot, hot, _, nt, hdt⟩ := hT
  unfold Builtin.SmallTypes.nextOf
  refine wpAny_bind (wpAny_callSpecial?_slot (name := Str.ofString "__next__") hIt.typeIs F.slot_tuple_iterator_next (wpAny_call_entry F.slot_tuple_iterator_next hIt.typeIs F.entry_tuple_iterator_next ?_ (F.args_tuple_iterator_next_1 _)))
  show wpAny _ _ (field (.ref it) 0 >>= _) _ _ s
  refine wpAny_bind (wpAny_field ho hd (x := .ref tu) rfl ?_)
  show wpAny _ _ (if (Value.ref tu == Value.none) = true then _ else _) _ _ s
  rw [if_neg (show ¬ ((Value.ref tu == Value.none) = true) from Bool.false_ne_true)]
  show wpAny _ _ (field (.ref it) 1 >>= _) _ _ s
  refine wpAny_bind (wpAny_field ho hd (x := Value.int (i : Int) 0) rfl ?_)
  show wpAny _ _ (seqItems? (.ref tu) >>= _) _ _ s
  refine wpAny_bind (wpAny_seqItems hot hdt ?_)
  simp only [Int.toNat_natCast, hx]
  refine wpAny_bind (wpAny_setField ho hd (by simp) (wpAny_pure ⟨x, rfl, wpAny_pure (go _ ?_ (Heap.SameBut.update ..))⟩))
  refine ⟨_, Heap.get?_update_self _ ho (Obj.isFreed_of_fields (Obj.data_mapFields hd _)), (Obj.cls_mapFields ..).trans hc, ?_⟩
  rw [Obj.data_mapFields hd]; simp [rawInt]
theorem vj {it tu : Addr} {i : Nat} {vs : Array Value} {Q : Value -> Shared -> Prop} (hh : A.handled = none) (hIt : s.heap.IsTupleIter it tu i) (hT : s.heap.IsTuple tu vs) (hx : vs[i]? = none)
    (go : ∀ h1 x, Heap.ExtBut it s.heap h1 -> (∃ o, h1.get? x = some o /\ o.cls = .type "StopIteration") -> E (.ref x) { s with heap := h1 }) : wpAny (model prog w) A (Builtin.SmallTypes.nextOf (.ref it)) Q E s := by
  obtain ⟨o, ho, hc, hd⟩ := id hIt
  obtain ⟨ot, hot, _, nt, hdt⟩ := hT
  unfold Builtin.SmallTypes.nextOf
  refine wpAny_bind (wpAny_callSpecial?_slot (name := Str.ofString "__next__") hIt.typeIs F.slot_tuple_iterator_next (wpAny_call_entry F.slot_tuple_iterator_next hIt.typeIs F.entry_tuple_iterator_next ?_ (F.args_tuple_iterator_next_1 _)))
  show wpAny _ _ (field (.ref it) 0 >>= _) _ _ s
  refine wpAny_bind (wpAny_field ho hd (x := .ref tu) rfl ?_)
  show wpAny _ _ (if (Value.ref tu == Value.none) = true then _ else _) _ _ s
  rw [if_neg (show ¬ ((Value.ref tu == Value.none) = true) from Bool.false_ne_true)]
  show wpAny _ _ (field (.ref it) 1 >>= _) _ _ s
  refine wpAny_bind (wpAny_field ho hd (x := Value.int (i : Int) 0) rfl ?_)
  show wpAny _ _ (seqItems? (.ref tu) >>= _) _ _ s
  refine wpAny_bind (wpAny_seqItems hot hdt ?_)
  simp only [Int.toNat_natCast, hx]
  refine wpAny_bind (wpAny_rule (wpAny_bind (wpAny_setField ho hd (by simp) ?_)))
  show wpAny _ _ (newExc (.type "StopIteration") [] >>= _) _ _ _
  refine wpAny_bind ?_
  simp only [newExc, newTuple]
  refine wpAny_bind (wpAny_newObj_type ?_ (by size_fits))
  refine wpAny_bind (m := firstArgMember _ _) (wpAny_of_eq (a := Value.none) (by first | rfl | (simp only [firstArgMember] <;> rfl)) ?_)
  refine wpAny_newObj_type ?_ (by size_fits)
  simp only [raiseNew]
  refine wpAny_bind (wpAny_handled ?_)
  first | rw [show A.in1.handled = none from hh] | rw [hh]
  refine wpAny_bind (wpAny_pure (wpAny_throw ?_))
  exact go _ _ (((Heap.SameBut.update ..).extBut.push _).push _) ⟨_, Heap.get?_push_size _ rfl, rfl⟩
theorem tN {e it : Addr} {i : Nat} {x old : Value} {Q : Value -> Shared -> Prop} {Kn : Heap -> Prop} (isE : IsEnum s.heap e it i old) (hne : e ≠ it)
    (stay : ∀ h1 h2 : Heap, Kn h1 -> (∀ o, h1.get? it = some o -> h2.get? it = some o) -> Kn h2)
    (inner : ∀ (Q1 : Value -> Shared -> Prop), (∀ h1, Kn h1 -> Heap.SameBut it s.heap h1 -> Q1 x { s with heap := h1 }) -> wpAny (model prog w) A.in1 (Builtin.SmallTypes.nextOf (.ref it)) Q1 E s)
    (go : ∀ h1, IsEnumOut h1 e it ((i : Int) + 1) x s.heap.objs.size -> Kn h1 -> h1.get? s.heap.objs.size = some { cls := .type "tuple", data := .seq #[.int i s.toks, x] } -> (∀ b o, b ≠ e -> b ≠ it -> s.heap.get? b = some o -> h1.get? b = some o) -> Q (.ref s.heap.objs.size) { s with heap := h1, toks := s.toks + 1 }) :
    wpAny (model prog w) A.in1 (Builtin.«enumerate.__next__» ⟨[.ref e], []⟩) (fun fin s' => ∃ v, fin = .done (.ret v) /\ Q v s') E s := by
  obtain ⟨h0, gg, dd, t0, oo⟩ := s
  have elt : e < h0.objs.size := Heap.lt_size isE
  show wpAny _ _ (field (.ref e) 2 >>= _) _ _ _
  refine wpAny_bind (wpAny_field isE rfl (x := Value.ref it) rfl (wpAny_bind (inner _ fun h1 k1 b1 => ?_)))
  have b1' : Heap.SameBut it h0 h1 := b1
  have E1 : IsEnum h1 e it i old := (b1'.2 e hne).trans isE
  show wpAny _ _ (field (.ref e) 3 >>= _) _ _ ⟨h1, gg, dd, t0, oo⟩
  refine wpAny_bind (wpAny_field E1 rfl (x := rawInt (i : Int)) rfl ?_)
  show wpAny _ _ (field (.ref e) 4 >>= _) _ _ ⟨h1, gg, dd, t0, oo⟩
  refine wpAny_bind (wpAny_field E1 rfl (x := Value.none) rfl ?_)
  show wpAny _ _ (mkInt i >>= _) _ _ ⟨h1, gg, dd, t0, oo⟩
  refine wpAny_bind (wpAny_mkInt ?_)
  show wpAny _ _ (setField (.ref e) 3 (rawInt ((i : Int) + 1)) >>= _) _ _ ⟨h1, gg, dd, t0 + 1, oo⟩
  refine wpAny_bind (wpAny_setField_rec E1 (by simp) fun h2 E2 b2 => ?_)
  have b2' : Heap.SameBut e h1 h2 := b2
  have E2' : IsEnum h2 e it ((i : Int) + 1) old := E2
  show wpAny _ _ (setField (.ref e) 4 .none >>= _) _ _ ⟨h2, gg, dd, t0 + 1, oo⟩
  refine wpAny_bind (wpAny_setField_rec E2' (by simp) fun h3 E3 b3 => ?_)
  have b3' : Heap.SameBut e h2 h3 := b3
  have E3' : IsEnum h3 e it ((i : Int) + 1) old := E3
  show wpAny _ _ (newTuple [.int i t0, x] >>= _) _ _ ⟨h3, gg, dd, t0 + 1, oo⟩
  refine wpAny_bind (wpAny_newTuple ?_)
  have z3 : h3.objs.size = h0.objs.size := by rw [b3'.1, b2'.1, b1'.1]
  have E4 : IsEnum (h3.push { cls := .type "tuple", data := .seq #[.int i t0, x] }) e it ((i : Int) + 1) old := Heap.get?_push_of_some _ E3'
  have T4 : (h3.push { cls := .type "tuple", data := .seq #[.int i t0, x] }).get? h0.objs.size = some { cls := .type "tuple", data := .seq #[.int i t0, x] } := by rw [<- z3]; exact Heap.get?_push_size _ rfl
  have K4 : ∀ b o, b ≠ e -> b ≠ it -> h0.get? b = some o -> (h3.push { cls := .type "tuple", data := .seq #[.int i t0, x] }).get? b = some o := fun b o n1 n2 q => Heap.get?_push_of_some _ (b3'.extBut b o n1 (b2'.extBut b o n1 (b1'.extBut b o n2 q)))
  have N4 : Kn (h3.push { cls := .type "tuple", data := .seq #[.int i t0, x] }) := stay h1 _ k1 fun o q => Heap.get?_push_of_some _ (b3'.extBut it o (Ne.symm hne) (b2'.extBut it o (Ne.symm hne) q))
  rw [z3]
  generalize h3.push { cls := .type "tuple", data := .seq #[.int i t0, x] } = h4 at E4 T4 K4 N4
  show wpAny _ _ (Builtin.SmallTypes.ownedTupleIsFree (.ref e) >>= _) _ _ ⟨h4, gg, dd, t0 + 1, oo⟩
  refine wpAny_bind ?_
  unfold Builtin.SmallTypes.ownedTupleIsFree
  refine wpAny_bind (wpAny_field E4 rfl (x := Value.none) rfl (wpAny_pure ?_))
  simp only [if_true]
  refine wpAny_bind (wpAny_rule (wpAny_bind (wpAny_field E4 rfl (x := old) rfl ?_)))
  refine wpAny_bind (wpAny_setField_rec E4 (by simp) fun h5 E5 b5 => ?_)
  have b5' : Heap.SameBut e h4 h5 := b5
  have E5' : IsEnum h5 e it ((i : Int) + 1) x := E5
  show wpAny _ _ (Builtin.SmallTypes.ownedTupleHandOut (.ref e) (.ref h0.objs.size) >>= _) _ _ ⟨h5, gg, dd, t0 + 1, oo⟩
  refine wpAny_bind ?_
  unfold Builtin.SmallTypes.ownedTupleHandOut
  refine wpAny_bind (wpAny_setField_rec E5' (by simp) fun h6 E6 b6 => ?_)
  have b6' : Heap.SameBut e h5 h6 := b6
  have E6' : IsEnumOut h6 e it ((i : Int) + 1) x h0.objs.size := E6
  refine wpAny_setField_rec E6' (by simp) fun h7 E7 b7 => ?_
  have b7' : Heap.SameBut e h6 h7 := b7
  have E7' : IsEnumOut h7 e it ((i : Int) + 1) x h0.objs.size := E7
  have far : ∀ b o, b ≠ e -> h4.get? b = some o -> h7.get? b = some o := fun b o n1 q => b7'.extBut b o n1 (b6'.extBut b o n1 (b5'.extBut b o n1 q))
  refine wpAny_bind (wpAny_letGo (wpAny_pure ⟨_, rfl, go h7 E7' ?_ (far _ _ (Nat.ne_of_gt elt) T4) fun b o n1 n2 q => far b o n1 (K4 b o n1 n2 q)⟩))
  exact stay h4 h7 N4 fun o q => far it o (Ne.symm hne) q
theorem Bs {e it tu : Addr} {i : Nat} {vs : Array Value} {x old : Value} {Q : Option Value -> Shared -> Prop} (isE : IsEnum s.heap e it i old) (hIt : s.heap.IsTupleIter it tu i) (hT : s.heap.IsTuple tu vs) (hx : vs[i]? = some x) (hne : e ≠ it)
    (go : ∀ h1, IsEnumOut h1 e it ((i : Int) + 1) x s.heap.objs.size -> h1.IsTupleIter it tu (i + 1) -> h1.get? s.heap.objs.size = some { cls := .type "tuple", data := .seq #[.int i s.toks, x] } -> (∀ b o, b ≠ e -> b ≠ it -> s.heap.get? b = some o -> h1.get? b = some o) -> Q (some (.ref s.heap.objs.size)) { s with heap := h1, toks := s.toks + 1 }) :
    wpAny (model prog w) A (pyNext (.ref e)) Q E s := by
  have tyE : s.TypeIs (.ref e) "enumerate" := ⟨_, isE, rfl⟩
  unfold pyNext
  refine wpAny_bind (wpAny_attempt (wpAny_callSpecial?_slot (name := Str.ofString "__next__") tyE F.slot_enumerate_next (wpAny_call_entry F.slot_enumerate_next tyE F.entry_enumerate_next ?_ (F.args_enumerate_next_1 _))))
  exact tN (Kn := fun h1 => h1.IsTupleIter it tu (i + 1)) isE hne (fun h1 h2 k hk => k.at hk) (fun Q1 q1 => sF hIt hT hx q1) fun h1 a b c d => wpAny_pure (go h1 a b c d)
theorem D4 {e it tu : Addr} {i : Nat} {vs : Array Value} {old : Value} {Q : Option Value -> Shared -> Prop} (hh : A.handled = none) (isE : IsEnum s.heap e it i old) (hIt : s.heap.IsTupleIter it tu i) (hT : s.heap.IsTuple tu vs) (hx : vs[i]? = none)
    (go : ∀ h1, Heap.ExtBut it s.heap h1 -> Q none { s with heap := h1 }) : wpAny (model prog w) A (pyNext (.ref e)) Q E s := by
  have tyE : s.TypeIs (.ref e) "enumerate" := ⟨_, isE, rfl⟩
  unfold pyNext
  refine wpAny_bind (wpAny_attempt (wpAny_callSpecial?_slot (name := Str.ofString "__next__") tyE F.slot_enumerate_next (wpAny_call_entry F.slot_enumerate_next tyE F.entry_enumerate_next ?_ (F.args_enumerate_next_1 _))))
  show wpAny _ _ (field (.ref e) 2 >>= _) _ _ _
  refine wpAny_bind (wpAny_field isE rfl (x := Value.ref it) rfl (wpAny_bind (vj hh hIt hT hx fun h1 xx eb hx' => ?_)))
  obtain ⟨o, ho, hc⟩ := hx'
  exact wpAny_bind (wpAny_isInstance (T := "StopIteration") (b := true) ⟨o, ho, hc⟩ isSubtype_stop (wpAny_pure (go _ eb)))
end
end Sp
namespace Sp
open PySem PySem.Spec PyProof.Rows L2
variable {X : Cx}
theorem gG {pins : List (Addr × Obj)} {σ : L2.St} {H : Hp} {s : Shared} {h2 : Heap} {t2 : Nat} {ch : List Addr} {p : Addr} {o : HO} (I : aj X pins σ H s)
    (k : ∀ b u, b ∉ ch -> s.heap.get? b = some u -> h2.get? b = some u) (hp : s.heap.objs.size <= p) (hn : ∀ b ∈ ch, eS X pins H b) (new : bA X.prog X.w (aU H p o) h2 p o) : aj X pins σ (aU H p o) { s with heap := h2, toks := t2 } := by
  have hH : H p = none := I.hok.fresh hp
  have tr : ∀ b u, H b = some u -> b ∉ ch := fun b u e z => by rw [(hn b z).1] at e; cases e
  have un : Un (ic X.stack) ch H (aU H p o) s.heap h2 := by
    refine ⟨fun b ob e n _ c => k b ob c e, fun b ob e n _ c => ⟨ob.slots, k b ob c e⟩, fun b ob e n c => ?_, fun b ob e c => ⟨ob, k b ob c e⟩, fun b xs e => ?_, fun b ob u e => ?_, fun b ps e => ⟨#[], ?_⟩⟩
    . rw [aC (Nat.ne_of_lt (Nat.lt_of_lt_of_le (Heap.lt_size e) hp))]; exact n
    . rw [aC (aX e hH)]; exact e
    . rw [aC (aX e hH)]; exact e
    . rw [aC (aX e hH), e]; simp
  refine I.call (g' := s.gens) (d' := s.drawn) un (fun b u e => ?_) I.bare fun b hb => ⟨(hn b hb).2.2.2.1, (hn b hb).2.1, (hn b hb).2.2.2.2.1, (hn b hb).2.2.2.2.2⟩
  by_cases hb : b = p
  . subst hb; rw [aL] at e; cases e; exact new
  . rw [aC hb] at e
    refine (I.hok b u e).stay (fun c v hc q => k c v ?_ q) (fun c q => by rw [aC (aX q hH)]; exact q) fun c xs q => by rw [aC (aX q hH)]; exact q
    rcases hc with z | z
    . rw [z]; exact tr b u e
    . exact tr c _ z
def MZ (K : W.Frag) (a : Addr) : It :=
  ⟨fun i H => ∃ xs x, bW K H a xs /\ xs[i]? = some x, fun i H x H' => ∃ p v, x = .ref p /\ H p = none /\ H' = aU H p (.tup [.int (i : Nat), v]) /\ ∀ xs, bW K H a xs -> xs[i]? = some v, fun i H => ∃ xs, bW K H a xs /\ xs.length <= i⟩
theorem vh {P : Program} {w : World} {K : W.Frag} {es : List Expr} {n1 : Nat} {pos : Pos} (a e it : Addr) (hne : e ≠ it) :
    L2.Turn P w K (.Tuple es n1 pos) (MZ K a) [e, it] e (fun i h => (∃ old, IsEnum h e it ((i : Nat) : Int) old) /\ h.IsTupleIter it a i) where
  mem := by simp
  obj := fun i h st b hb => by
    obtain ⟨⟨old, q⟩, o, q2, c, d⟩ := st
    rcases List.mem_cons.mp hb with rfl | hb
    . exact ⟨_, q, fun v z => by have z' : Data.fields _ = Data.cell v := z; cases z'⟩
    . have eb : b = it := by simpa using hb
      subst eb
      exact ⟨o, q2, fun v z => by rw [d] at z; cases z⟩
  keep := fun i h h' st k => ⟨let ⟨old, q⟩ := st.1; ⟨old, k e (by simp) _ q⟩, st.2.at fun o q => k it (by simp) o q⟩
  item := by
    intro Y hP hw hK hc i pins s σ H E I hf st hg
    subst hP hw hK
    obtain ⟨xs, x, hq, hx⟩ := hg
    obtain ⟨its, rv, p, hz⟩ := I.tuple hq
    obtain ⟨u, hu, ru⟩ := rv.get hx
    obtain ⟨⟨old, isE⟩, hIt⟩ := st
    refine Bs isE hIt (show s.heap.IsTuple a its.toArray from p) (x := u) (by simpa using hu) hne fun h1 eo it1 t1 k1 => ?_
    refine ⟨_, rfl, wpAny_letOwnedTupleGo_enum eo fun h2 e2 sb2 => ?_⟩
    have sb2' : Heap.SameBut e h1 h2 := sb2
    have elt : e < s.heap.objs.size := Heap.lt_size isE
    have k2 : ∀ b o, b ∉ [e, it] -> s.heap.get? b = some o -> h2.get? b = some o := fun b o nb q => by
      have n1 : b ≠ e := fun z => nb (by simp [z])
      have n2 : b ≠ it := fun z => nb (by simp [z])
      exact sb2'.extBut b o n1 (k1 b o n1 n2 q)
    have t2 : h2.get? s.heap.objs.size = some { cls := .type "tuple", data := .seq #[.int i s.toks, u] } := sb2'.extBut _ _ (Nat.ne_of_gt elt) t1
    have hn0 : H s.heap.objs.size = none := I.hok.fresh (Nat.le_refl _)
    refine ⟨.ref s.heap.objs.size, aU H s.heap.objs.size (.tup [.int (i : Nat), x]), gG (s := s) (h2 := h2) (t2 := s.toks + 1) I k2 (Nat.le_refl _) hf ?_, rfl, ⟨_, x, rfl, hn0, rfl, fun ys hy => by rw [I.tuple_inj hy hq]; exact hx⟩, ⟨⟨u, ?_⟩, it1.at fun o q => sb2'.extBut it o (Ne.symm hne) q⟩, fun b hb => ?_⟩
    . exact ⟨by show 2 <= sizeLine; decide, [.int i s.toks, u], .cons ⟨_, rfl⟩ (.cons ru .nil), ⟨_, t2, rfl, _, rfl⟩⟩
    . have q := e2
      rw [show ((i : Nat) : Int) + 1 = ((i + 1 : Nat) : Int) by omega] at q
      exact q
    . have hb' := hf b hb
      have lt : b < s.heap.objs.size := by
        rcases List.mem_cons.mp hb with rfl | hb
        . exact elt
        . have eb : b = it := by simpa using hb
          subst eb
          obtain ⟨o, q, _⟩ := hIt
          exact Heap.lt_size q
      rw [aC (Nat.ne_of_lt lt)]; exact hb'.1
  done := by
    intro Y hP hw hK hc i pins s σ H E I hf st hg
    subst hP hw hK
    obtain ⟨xs, hq, hx⟩ := hg
    obtain ⟨its, rv, p, hz⟩ := I.tuple hq
    obtain ⟨⟨old, isE⟩, hIt⟩ := st
    obtain ⟨f0, f1, f2, f3, f4, f5⟩ := hf it (by simp)
    have hl := rv.length
    exact D4 (I.ok.hd hc) isE hIt (show s.heap.IsTuple a its.toArray from p) (by simp; omega) fun h1 eb => ⟨rfl, I.turned (t' := s.toks) (fun b o hb q => eb b o hb q) f0 f1 f3 f4 f5⟩
  self := fun _ _ _ _ _ st h => let ⟨old, q⟩ := st.1; wpAny_pyIter_enum q h
theorem A8 {ρ : ai} {es : List Expr} {n1 : Nat} {tp p pos : Pos} {a : Expr} {l : List D} {k : Nat} (hg : Gl X "enumerate") (hm0 : X.mg "enumerate" = none) (ha : AD X ρ [a] [.tup l] k) (hst : ∀ y p, a ≠ .Starred y p) (hf : ao l = true) :
    IE X ρ (.Tuple es n1 tp) (.Call (.Name "enumerate" p) [a] [] pos) (l.mapIdx fun i x => .tup [.int (i : Nat), x]) 0 := by
  intro ow pins s σ H R I ⟨E, q⟩
  refine Call_ (db I hg hm0 (show bootBuiltins "enumerate" = some (.type "enumerate") by decide +kernel) (PyProof.Rows.callWith_type1 (aM (ha ow pos pins s σ H (fun vs H1 => ay H H1 /\ af X.K H1 (Kp ow H k) [.tup l] vs) I ⟨E, fun vs H1 s1 r1 => ⟨s1, r1⟩⟩) fun us s1 ⟨vs, H1, I1, rv, sm, rp⟩ => ?_) (aV hst) rfl) (by decide +kernel) (by decide +kernel))
  obtain ⟨v, rfl, rv1⟩ := rp.only
  obtain ⟨ta, xs, rfl, hq, rl⟩ := dX rv1
  obtain ⟨u, rfl, ru⟩ := dl rv
  cases (show u = Value.ref ta from ru)
  obtain ⟨its, rvs, pt, hz⟩ := I1.tuple hq
  refine Bu (show s1.heap.IsTuple ta its.toArray from pt) fun h2 isE hIt sz k2 => ?_
  refine wpAny_pyIter_enum isE ?_
  have I2 : aj X pins σ H1 { s1 with heap := h2 } := I1.kept (t' := s1.toks) k2
  have f0 : H1 s1.heap.objs.size = none := I1.hok.fresh (Nat.le_refl _)
  have f1 : H1 (s1.heap.objs.size + 1) = none := I1.hok.fresh (Nat.le_succ _)
  refine ⟨s1.heap.objs.size + 1, [s1.heap.objs.size + 1, s1.heap.objs.size], _, _, H1, rfl, I2, vh ta _ _ (Nat.ne_of_gt (Nat.lt_succ_self _)), ⟨⟨_, isE⟩, hIt⟩, fun b hb => ?_, q _ H1 sm ?_⟩
  . rcases List.mem_cons.mp hb with rfl | hb
    . exact I1.fpOk (Nat.le_succ _) f1
    . have eb : b = s1.heap.objs.size := by simpa using hb
      subst eb
      exact I1.fpOk (Nat.le_refl _) f0
  . intro i H2 st
    have rl' : af X.K H1 (Kd ow H 0 H1) l xs := rl.flat _ hf
    refine ⟨fun d hd => ?_, fun hle => ?_⟩
    . rw [List.getElem?_mapIdx] at hd
      cases e : l[i]? with
      | none => rw [e] at hd; cases hd
      | some x =>
        rw [e] at hd; cases hd
        obtain ⟨y, hy, ry⟩ := rl'.get e
        refine ⟨⟨xs, y, st.sq hq, hy⟩, fun x' H3 ⟨p', v', e1, e2, e3, e4⟩ => ?_⟩
        have hv := e4 xs (st.sq hq)
        rw [hy] at hv; cases hv
        subst e1 e3
        have sm3 := cf (o := HO.tup [.int (i : Nat), y]) e2
        refine ⟨sm3, ?_⟩
        rw [ag]
        exact ⟨p', _, rfl, bW.of aL, af.cons (by rw [ag]) (af.one ((ry.mono st).same sm3))⟩
    . rw [List.length_mapIdx] at hle
      exact ⟨xs, st.sq hq, by rw [<- rl.length]; exact hle⟩
theorem oO {tg : Expr} (h : gb tg = true) : ∃ es n p, tg = .Tuple es n p := by
  cases tg <;> first | exact ⟨_, _, _, rfl⟩ | cases h
end Sp
namespace Sp
open PySem PySem.Spec PyProof.Rows L2
open AutoSeq1 (wpAny_loadPart')
structure Wk (prog : Program) (w : World) (i l : Addr) (P : Nat -> Heap -> Prop) (g : Nat -> Option Value) : Prop where
  stay : ∀ k (h h' : Heap), P k h -> (∀ c o, c = i \/ c = l -> h.get? c = some o -> h'.get? c = some o) -> P k h'
  here : ∀ k (h : Heap), P k h -> ∃ o, h.get? i = some o /\ ∀ v, o.data ≠ Data.cell v
  item : ∀ (A : Around) (E : Value -> Shared -> Prop) (s : Shared) (k : Nat) (x : Value) (Q : Value -> Shared -> Prop), P k s.heap -> g k = some x -> (∀ h1, P (k + 1) h1 -> Heap.SameBut i s.heap h1 -> Q x { s with heap := h1 }) -> wpAny (model prog w) A (Builtin.SmallTypes.nextOf (.ref i)) Q E s
  done : ∀ (A : Around) (E : Value -> Shared -> Prop) (s : Shared) (k : Nat) (Q : Value -> Shared -> Prop), A.handled = none -> P k s.heap -> g k = none -> (∀ h1 x, Heap.ExtBut i s.heap h1 -> (∃ o, h1.get? x = some o /\ o.cls = .type "StopIteration") -> E (.ref x) { s with heap := h1 }) -> wpAny (model prog w) A (Builtin.SmallTypes.nextOf (.ref i)) Q E s
theorem je {prog : Program} {w : World} {i l : Addr} {xs : Array Value} (ne : l ≠ i) : Wk prog w i l (fun k h => h.IsTupleIter i l k /\ h.IsTuple l xs) (fun k => xs[k]?) where
  stay := fun k h h' p q => ⟨p.1.at fun o e => q i o (.inl rfl) e, p.2.at fun o e => q l o (.inr rfl) e⟩
  here := fun k h p => let ⟨o, e, _, d⟩ := p.1; ⟨o, e, fun v z => by rw [d] at z; cases z⟩
  item := fun A E s k x Q p hx q => sF p.1 p.2 hx fun h1 a b => q h1 ⟨a, p.2.extBut b.extBut ne⟩ b
  done := fun A E s k Q hh p hx q => vj hh p.1 p.2 hx q
theorem BY {prog : Program} {w : World} {i l : Addr} {xs : Array Value} (ne : l ≠ i) : Wk prog w i l (fun k h => h.IsListIter i l k /\ h.IsList l xs) (fun k => xs[k]?) where
  stay := fun k h h' p q => ⟨p.1.at fun o e => q i o (.inl rfl) e, p.2.at fun o e => q l o (.inr rfl) e⟩
  here := fun k h p => let ⟨o, e, _, d⟩ := p.1; ⟨o, e, fun v z => by rw [d] at z; cases z⟩
  item := fun A E s k x Q p hx q => wpAny_nextOf_list_item p.1 p.2 hx fun h1 a b => q h1 ⟨a, p.2.extBut b.extBut ne⟩ b
  done := fun A E s k Q hh p hx q => wpAny_nextOf_list_end hh p.1 p.2 hx q
section
variable {prog : Program} {w : World} {A : Around} {E : Value -> Shared -> Prop} {s : Shared}
variable {z TI TO i1 i2 l1 l2 : Addr} {k1 k2 : Nat} {P1 P2 : Nat -> Heap -> Prop} {g1 g2 : Nat -> Option Value} {x y a b : Value}
structure Zs (z TI TO i1 i2 l1 l2 : Addr) (P1 P2 : Nat -> Heap -> Prop) (k : Nat) (h : Heap) : Prop where
  ap : ZipApart z TI TO i1 i2 l1 l2
  rd : IsZip h z TI TO .none
  ins : IsPair h TI (.ref i1) (.ref i2)
  out : ∃ a b, IsPair h TO a b
  fst : P1 k h
  snd : P2 k h
theorem Zs.item {k : Nat} {Q : Value -> Shared -> Prop} (W1 : Wk prog w i1 l1 P1 g1) (W2 : Wk prog w i2 l2 P2 g2) (S : Zs z TI TO i1 i2 l1 l2 P1 P2 k s.heap) (hx : g1 k = some x) (hy : g2 k = some y)
    (go : ∀ h1, (∀ h2, IsZip h2 z TI TO .none -> Heap.SameBut z h1 h2 -> Zs z TI TO i1 i2 l1 l2 P1 P2 (k + 1) h2) -> IsZip h1 z TI TO (rawInt s.heap.objs.size) -> IsPair h1 s.heap.objs.size x y -> (∀ c o, c ∉ [z, TO, i1, i2] -> s.heap.get? c = some o -> h1.get? c = some o) -> Q (.ref s.heap.objs.size) { s with heap := h1 }) :
    wpAny (model prog w) A (Builtin.«zip.__next__» ⟨[.ref z], []⟩) (fun fin s' => ∃ v, fin = .done (.ret v) /\ Q v s') E s := by
  obtain ⟨D, isZ, pI, ⟨a, b, pO⟩, p1, p2⟩ := S
  obtain ⟨h0, gg, dd, t0, oo⟩ := s
  show wpAny _ _ (field (.ref z) 2 >>= _) _ _ ⟨h0, gg, dd, t0, oo⟩
  refine wpAny_bind (wpAny_field isZ rfl (x := Value.bool false) rfl ?_)
  show wpAny _ _ (field (.ref z) 3 >>= _) _ _ ⟨h0, gg, dd, t0, oo⟩
  refine wpAny_bind (wpAny_field isZ rfl (x := Value.ref TI) rfl (wpAny_bind (wpAny_seqItems pI rfl ?_)))
  show wpAny _ _ (Builtin.SmallTypes.ownedTupleIsFree (.ref z) >>= _) _ _ ⟨h0, gg, dd, t0, oo⟩
  unfold Builtin.SmallTypes.ownedTupleIsFree
  refine wpAny_bind (wpAny_bind (wpAny_field isZ rfl (x := Value.none) rfl (wpAny_pure ?_)))
  simp only [if_true]
  refine wpAny_bind (wpAny_rule (wpAny_bind (wpAny_field isZ rfl (x := Value.ref TO) rfl (wpAny_bind (wpAny_setField_rec isZ (by simp) fun q1 Z1 m1 => ?_)))))
  have Z1 : IsZip q1 z TI TO .ellipsis := Z1
  have m1 : Heap.SameBut z h0 q1 := m1
  simp only [List.zipIdx_cons, List.zipIdx_nil, List.forIn_cons, List.forIn_nil]
  refine wpAny_bind (wpAny_bind (wpAny_bind (wpAny_onRaise ?_)))
  show wpAny _ _ (Builtin.SmallTypes.nextOf (.ref i1) >>= _) _ _ ⟨q1, gg, dd, t0, oo⟩
  have e1 : ∀ c o, c ≠ z -> h0.get? c = some o -> q1.get? c = some o := fun c o n u => m1.extBut c o n u
  refine wpAny_bind (W1.item _ _ _ k x _ (W1.stay k _ _ p1 fun c o hc u => e1 c o (by rcases hc with rfl | rfl; exact D.i1z; exact D.l1z) u) hx fun q2 p1' m2 => wpAny_pure ?_)
  have m2 : Heap.SameBut i1 q1 q2 := m2
  have e2 : ∀ c o, c ≠ z -> c ≠ i1 -> h0.get? c = some o -> q2.get? c = some o := fun c o n n' u => m2.extBut c o n' (e1 c o n u)
  have O2 : IsPair q2 TO a b := e2 _ _ D.TOz D.TOi1 pO
  refine wpAny_bind (wpAny_seqItems O2 rfl (wpAny_bind (wpAny_updateSeq_pair O2 fun q3 O3 m3 => wpAny_bind (wpAny_letGo (wpAny_pure ?_)))))
  have O3 : IsPair q3 TO x b := O3
  have m3 : Heap.SameBut TO q2 q3 := m3
  have e3 : ∀ c o, c ≠ z -> c ≠ i1 -> c ≠ TO -> h0.get? c = some o -> q3.get? c = some o := fun c o n n' n'' u => m3.extBut c o n'' (e2 c o n n' u)
  refine wpAny_bind (wpAny_bind (wpAny_onRaise ?_))
  show wpAny _ _ (Builtin.SmallTypes.nextOf (.ref i2) >>= _) _ _ ⟨q3, gg, dd, t0, oo⟩
  refine wpAny_bind (W2.item _ _ _ k y _ (W2.stay k _ _ p2 fun c o hc u => by
    rcases hc with rfl | rfl
    . exact e3 c o D.i2z D.i12.symm D.TOi2.symm u
    . exact e3 c o D.l2z D.l2i1 D.l2TO u) hy fun q4 p2' m4 => wpAny_pure ?_)
  have m4 : Heap.SameBut i2 q3 q4 := m4
  have O4 : IsPair q4 TO x b := m4.extBut _ _ D.TOi2 O3
  refine wpAny_bind (wpAny_seqItems O4 rfl (wpAny_bind (wpAny_updateSeq_pair O4 fun q5 O5 m5 => wpAny_bind (wpAny_letGo (wpAny_pure (wpAny_pure ?_))))))
  have O5 : IsPair q5 TO x y := O5
  have m5 : Heap.SameBut TO q4 q5 := m5
  refine wpAny_bind (wpAny_seqItems O5 rfl (wpAny_bind (wpAny_newTuple ?_)))
  have sz : q5.objs.size = h0.objs.size := by rw [m5.1, m4.1, m3.1, m2.1, m1.1]
  have e5 : ∀ c o, c ≠ z -> c ≠ i1 -> c ≠ TO -> c ≠ i2 -> h0.get? c = some o -> q5.get? c = some o := fun c o n n' n'' n3 u => m5.extBut c o n'' (m4.extBut c o n3 (e3 c o n n' n'' u))
  have Z5 : IsZip q5 z TI TO .ellipsis := m5.extBut _ _ D.TOz.symm (m4.extBut _ _ D.i2z.symm (m3.extBut _ _ D.TOz.symm (m2.extBut _ _ D.i1z.symm Z1)))
  have r1 : P1 (k + 1) q5 := W1.stay _ _ _ p1' fun c o hc u => by
    rcases hc with rfl | rfl
    . exact m5.extBut c o D.TOi1.symm (m4.extBut c o D.i12 (m3.extBut c o D.TOi1.symm u))
    . exact m5.extBut c o D.l1TO (m4.extBut c o D.l1i2 (m3.extBut c o D.l1TO u))
  have r2 : P2 (k + 1) q5 := W2.stay _ _ _ p2' fun c o hc u => by
    rcases hc with rfl | rfl
    . exact m5.extBut c o D.TOi2.symm u
    . exact m5.extBut c o D.l2TO u
  have I5 : IsPair q5 TI (.ref i1) (.ref i2) := e5 _ _ D.TIz D.TIi1 D.TITO D.TIi2 pI
  have zl : z < q5.objs.size := Heap.lt_size Z5
  show wpAny _ _ (Builtin.SmallTypes.ownedTupleHandOut (.ref z) (.ref q5.objs.size) >>= _) _ _ ⟨q5.push { cls := .type "tuple", data := .seq #[x, y] }, gg, dd, t0, oo⟩
  unfold Builtin.SmallTypes.ownedTupleHandOut
  have Z6 : IsZip (q5.push { cls := .type "tuple", data := .seq #[x, y] }) z TI TO .ellipsis := Heap.get?_push_of_some _ Z5
  refine wpAny_bind (wpAny_bind (wpAny_setField_rec Z6 (by simp) fun q7 Z7 m7 => ?_))
  have Z7 : IsZip q7 z TI TO (rawInt q5.objs.size) := Z7
  refine wpAny_setField_rec Z7 (by simp) fun q8 Z8 m8 => ?_
  have Z8 : IsZip q8 z TI TO (rawInt q5.objs.size) := Z8
  have far : ∀ c o, c ≠ z -> q5.get? c = some o -> q8.get? c = some o := fun c o n u => m8.extBut _ _ n (m7.extBut _ _ n (Heap.get?_push_of_some _ u))
  have T8 : IsPair q8 q5.objs.size x y := m8.extBut _ _ (Nat.ne_of_gt zl) (m7.extBut _ _ (Nat.ne_of_gt zl) (Heap.get?_push_size _ rfl))
  refine wpAny_pure ⟨_, rfl, ?_⟩
  show Q (.ref q5.objs.size) _
  rw [sz] at Z8 T8 ⊢
  refine go q8 (fun h2 Zn mn => ⟨D, Zn, mn.extBut _ _ D.TIz (far _ _ D.TIz I5), ⟨x, y, mn.extBut _ _ D.TOz (far _ _ D.TOz O5)⟩, W1.stay _ _ _ r1 fun c o hc u => ?_, W2.stay _ _ _ r2 fun c o hc u => ?_⟩) Z8 T8 fun c o hc u => ?_
  . have n : c ≠ z := by rcases hc with rfl | rfl; exact D.i1z; exact D.l1z
    exact mn.extBut c o n (far c o n u)
  . have n : c ≠ z := by rcases hc with rfl | rfl; exact D.i2z; exact D.l2z
    exact mn.extBut c o n (far c o n u)
  . have c1 : c ≠ z := fun q => hc (by simp [q])
    have c2 : c ≠ TO := fun q => hc (by simp [q])
    have c3 : c ≠ i1 := fun q => hc (by simp [q])
    have c4 : c ≠ i2 := fun q => hc (by simp [q])
    exact far c o c1 (e5 c o c1 c3 c2 c4 u)
theorem Zs.done {k : Nat} {Q : Fin -> Shared -> Prop} (hh : A.handled = none) (W1 : Wk prog w i1 l1 P1 g1) (W2 : Wk prog w i2 l2 P2 g2) (S : Zs z TI TO i1 i2 l1 l2 P1 P2 k s.heap) (hxy : g1 k = none \/ g2 k = none)
    (go : ∀ h1 e, (∀ c o, c ∉ [z, TO, i1, i2] -> s.heap.get? c = some o -> h1.get? c = some o) -> (∃ o, h1.get? e = some o /\ o.cls = .type "StopIteration") -> E (.ref e) { s with heap := h1 }) :
    wpAny (model prog w) A (Builtin.«zip.__next__» ⟨[.ref z], []⟩) Q E s := by
  obtain ⟨D, isZ, pI, ⟨a, b, pO⟩, p1, p2⟩ := S
  obtain ⟨h0, gg, dd, t0, oo⟩ := s
  show wpAny _ _ (field (.ref z) 2 >>= _) _ _ ⟨h0, gg, dd, t0, oo⟩
  refine wpAny_bind (wpAny_field isZ rfl (x := Value.bool false) rfl ?_)
  show wpAny _ _ (field (.ref z) 3 >>= _) _ _ ⟨h0, gg, dd, t0, oo⟩
  refine wpAny_bind (wpAny_field isZ rfl (x := Value.ref TI) rfl (wpAny_bind (wpAny_seqItems pI rfl ?_)))
  show wpAny _ _ (Builtin.SmallTypes.ownedTupleIsFree (.ref z) >>= _) _ _ ⟨h0, gg, dd, t0, oo⟩
  unfold Builtin.SmallTypes.ownedTupleIsFree
  refine wpAny_bind (wpAny_bind (wpAny_field isZ rfl (x := Value.none) rfl (wpAny_pure ?_)))
  simp only [if_true]
  refine wpAny_bind (wpAny_rule (wpAny_bind (wpAny_field isZ rfl (x := Value.ref TO) rfl (wpAny_bind (wpAny_setField_rec isZ (by simp) fun q1 Z1 m1 => ?_)))))
  have Z1 : IsZip q1 z TI TO .ellipsis := Z1
  have m1 : Heap.SameBut z h0 q1 := m1
  simp only [List.zipIdx_cons, List.zipIdx_nil, List.forIn_cons, List.forIn_nil]
  refine wpAny_bind (wpAny_bind (wpAny_bind (wpAny_onRaise ?_)))
  show wpAny _ _ (Builtin.SmallTypes.nextOf (.ref i1) >>= _) _ _ ⟨q1, gg, dd, t0, oo⟩
  have e1 : ∀ c o, c ≠ z -> h0.get? c = some o -> q1.get? c = some o := fun c o n u => m1.extBut c o n u
  have p1 : P1 k q1 := W1.stay k _ _ p1 fun c o hc u => e1 c o (by rcases hc with rfl | rfl; exact D.i1z; exact D.l1z) u
  have nin : ∀ c, c ∉ [z, TO, i1, i2] -> c ≠ z /\ c ≠ TO /\ c ≠ i1 /\ c ≠ i2 := fun c hc => ⟨fun q => hc (by simp [q]), fun q => hc (by simp [q]), fun q => hc (by simp [q]), fun q => hc (by simp [q])⟩
  have last : ∀ (q2 : Heap) (ex : Addr) (oe : Obj), IsZip q2 z TI TO .ellipsis -> (∀ c o, c ∉ [z, TO, i1, i2] -> h0.get? c = some o -> q2.get? c = some o) -> q2.get? ex = some oe -> oe.cls = .type "StopIteration" ->
      wpAny (model prog w) A (setField (.ref z) 0 .none) (fun _ s' => E (.ref ex) s') E ⟨q2, gg, dd, t0, oo⟩ := fun q2 ex oe Z2 k2 ho hc => by
    have hez : ex ≠ z := fun u => by subst u; rw [Z2] at ho; cases ho; simp at hc
    refine wpAny_setField_rec Z2 (by simp) fun q3 _ m3 => go q3 ex (fun c o hc u => ?_) ⟨oe, m3.extBut _ _ hez ho, hc⟩
    exact m3.extBut c o (nin c hc).1 (k2 c o hc u)
  cases hx : g1 k with
  | none =>
    refine wpAny_bind (W1.done _ _ _ k _ hh p1 hx fun q2 ex m2 he => ?_)
    obtain ⟨oe, ho, hc⟩ := he
    have m2 : Heap.ExtBut i1 q1 q2 := m2
    exact last q2 ex oe (m2 _ _ D.i1z.symm Z1) (fun c o hc u => m2 c o (nin c hc).2.2.1 (e1 c o (nin c hc).1 u)) ho hc
  | some x =>
    have hy : g2 k = none := hxy.resolve_left (by rw [hx]; exact fun q => nomatch q)
    refine wpAny_bind (W1.item _ _ _ k x _ p1 hx fun q2 p1' m2 => wpAny_pure ?_)
    have m2 : Heap.SameBut i1 q1 q2 := m2
    have e2 : ∀ c o, c ≠ z -> c ≠ i1 -> h0.get? c = some o -> q2.get? c = some o := fun c o n n' u => m2.extBut c o n' (e1 c o n u)
    have O2 : IsPair q2 TO a b := e2 _ _ D.TOz D.TOi1 pO
    refine wpAny_bind (wpAny_seqItems O2 rfl (wpAny_bind (wpAny_updateSeq_pair O2 fun q3 O3 m3 => wpAny_bind (wpAny_letGo (wpAny_pure ?_)))))
    have m3 : Heap.SameBut TO q2 q3 := m3
    have e3 : ∀ c o, c ≠ z -> c ≠ i1 -> c ≠ TO -> h0.get? c = some o -> q3.get? c = some o := fun c o n n' n'' u => m3.extBut c o n'' (e2 c o n n' u)
    refine wpAny_bind (wpAny_bind (wpAny_onRaise ?_))
    show wpAny _ _ (Builtin.SmallTypes.nextOf (.ref i2) >>= _) _ _ ⟨q3, gg, dd, t0, oo⟩
    refine wpAny_bind (W2.done _ _ _ k _ hh (W2.stay k _ _ p2 fun c o hc u => by
      rcases hc with rfl | rfl
      . exact e3 c o D.i2z D.i12.symm D.TOi2.symm u
      . exact e3 c o D.l2z D.l2i1 D.l2TO u) hy fun q4 ex m4 he => ?_)
    obtain ⟨oe, ho, hc⟩ := he
    have m4 : Heap.ExtBut i2 q3 q4 := m4
    exact last q4 ex oe (m4 _ _ D.i2z.symm (m3.extBut _ _ D.TOz.symm (m2.extBut _ _ D.i1z.symm Z1))) (fun c o hc u => m4 c o (nin c hc).2.2.2 (e3 c o (nin c hc).1 (nin c hc).2.2.1 (nin c hc).2.1 u)) ho hc
theorem Zs.pyItem {k : Nat} {Q : Option Value -> Shared -> Prop} (W1 : Wk prog w i1 l1 P1 g1) (W2 : Wk prog w i2 l2 P2 g2) (S : Zs z TI TO i1 i2 l1 l2 P1 P2 k s.heap) (hx : g1 k = some x) (hy : g2 k = some y)
    (go : ∀ h1, (∀ h2, IsZip h2 z TI TO .none -> Heap.SameBut z h1 h2 -> Zs z TI TO i1 i2 l1 l2 P1 P2 (k + 1) h2) -> IsZip h1 z TI TO (rawInt s.heap.objs.size) -> IsPair h1 s.heap.objs.size x y -> (∀ c o, c ∉ [z, TO, i1, i2] -> s.heap.get? c = some o -> h1.get? c = some o) -> Q (some (.ref s.heap.objs.size)) { s with heap := h1 }) :
    wpAny (model prog w) A (pyNext (.ref z)) Q E s := by
  have ty : s.TypeIs (.ref z) "zip" := ⟨_, S.rd, rfl⟩
  unfold pyNext
  exact wpAny_bind (wpAny_attempt (wpAny_callSpecial?_slot (name := Str.ofString "__next__") ty F.slot_zip_next (wpAny_call_entry F.slot_zip_next ty F.entry_zip_next (S.item W1 W2 hx hy fun h1 a b c d => wpAny_pure (go h1 a b c d)) (F.args_zip_next_1 _))))
theorem Zs.pyDone {k : Nat} {Q : Option Value -> Shared -> Prop} (hh : A.handled = none) (W1 : Wk prog w i1 l1 P1 g1) (W2 : Wk prog w i2 l2 P2 g2) (S : Zs z TI TO i1 i2 l1 l2 P1 P2 k s.heap) (hxy : g1 k = none \/ g2 k = none)
    (go : ∀ h1, (∀ c o, c ∉ [z, TO, i1, i2] -> s.heap.get? c = some o -> h1.get? c = some o) -> Q none { s with heap := h1 }) : wpAny (model prog w) A (pyNext (.ref z)) Q E s := by
  have ty : s.TypeIs (.ref z) "zip" := ⟨_, S.rd, rfl⟩
  unfold pyNext
  refine wpAny_bind (wpAny_attempt (wpAny_callSpecial?_slot (name := Str.ofString "__next__") ty F.slot_zip_next (wpAny_call_entry F.slot_zip_next ty F.entry_zip_next (S.done hh W1 W2 hxy fun h1 e kk he => ?_) (F.args_zip_next_1 _))))
  obtain ⟨oe, ho, hc⟩ := he
  exact wpAny_bind (wpAny_isInstance (T := "StopIteration") (b := true) ⟨oe, ho, hc⟩ isSubtype_stop (wpAny_pure (go h1 kk)))
end
abbrev yI (h : Heap) (a : Addr) : Heap := h.push { cls := .type "tuple_iterator", data := .fields #[.ref a, .int 0 0] }
abbrev yH (h : Heap) (a b : Addr) : Heap := (yI h a).push { cls := .type "tuple_iterator", data := .fields #[.ref b, .int 0 0] }
abbrev yG (h : Heap) (a b : Addr) : Heap := (yH h a b).push { cls := .type "tuple", data := .seq #[.ref h.objs.size, .ref (yI h a).objs.size] }
abbrev yF (h : Heap) (a b : Addr) : Heap := (yG h a b).push { cls := .type "tuple", data := .seq #[.none, .none] }
abbrev pE (h : Heap) (a b : Addr) : Heap := (yF h a b).push { cls := .type "zip", data := .fields #[.none, .bool false, .bool false, .ref (yH h a b).objs.size, .ref (yG h a b).objs.size] }
theorem BW (a b : Addr) (xs ys : Array Value) :
    Meets (Builtin.«zip.__new__» ⟨[.type "zip", .ref a, .ref b], []⟩) (fun _ R s => s.heap.IsTuple a xs /\ s.heap.IsTuple b ys /\ R (.ok (.ret (.ref (yF s.heap a b).objs.size))) { s with heap := pE s.heap a b }) :=
  .of_wp fun pg wd AA RR st hh => by
    obtain ⟨hp0, gg, dd, tk0, oo⟩ := st; obtain ⟨ha, hb, hh⟩ := hh
    have hsub0 := sub_zip
    have T1 : Heap.IsTuple (Shared.heap ⟨hp0, gg, dd, tk0, oo⟩) a xs := ha
    have T2 : Heap.IsTuple (Shared.heap ⟨hp0.push { cls := .type "tuple_iterator", data := .fields #[.ref a, .int 0 0] }, gg, dd, tk0, oo⟩) b ys := hb.at fun o e => Heap.get?_push_of_some _ e
    wp_walk using wpAny_pyIter_tuple T1, wpAny_pyIter_tuple T2
    exact ⟨_, rfl, hh⟩
theorem zN {prog : Program} {w : World} {A : Around} {E : Value -> Shared -> Prop} {s : Shared} {a b : Addr} {xs ys : Array Value} {Q : Value -> Shared -> Prop} (ha : s.heap.IsTuple a xs) (hb : s.heap.IsTuple b ys)
    (go : ∀ h1, Zs (s.heap.objs.size + 4) (s.heap.objs.size + 2) (s.heap.objs.size + 3) s.heap.objs.size (s.heap.objs.size + 1) a b (fun k h => h.IsTupleIter s.heap.objs.size a k /\ h.IsTuple a xs) (fun k h => h.IsTupleIter (s.heap.objs.size + 1) b k /\ h.IsTuple b ys) 0 h1 -> (∀ c o, s.heap.get? c = some o -> h1.get? c = some o) -> Q (.ref (s.heap.objs.size + 4)) { s with heap := h1 }) :
    wpAny (model prog w) A (call (.type "zip") [.ref a, .ref b]) Q E s := by
  refine callType_new F.called_zip (by decide) (F.typeCall_zip_2 _ _) (F.newCall_zip_2 _ _) (fun ob => F.args_object_init_3 ob _ _) F.entry_zip_new (BW a b xs ys) ⟨ha, hb, ?_⟩
  have s1 : (yI s.heap a).objs.size = s.heap.objs.size + 1 := Heap.size_push ..
  have s2 : (yH s.heap a b).objs.size = s.heap.objs.size + 2 := by rw [Heap.size_push, s1]
  have s3 : (yG s.heap a b).objs.size = s.heap.objs.size + 3 := by rw [Heap.size_push, s2]
  have s4 : (yF s.heap a b).objs.size = s.heap.objs.size + 4 := by rw [Heap.size_push, s3]
  have r5 : (pE s.heap a b).get? (yF s.heap a b).objs.size = some _ := Heap.get?_push_size _ rfl
  have r4 : (pE s.heap a b).get? (yG s.heap a b).objs.size = some _ := Heap.get?_push_of_some _ (Heap.get?_push_size _ rfl)
  have r3 : (pE s.heap a b).get? (yH s.heap a b).objs.size = some _ := Heap.get?_push_of_some _ (Heap.get?_push_of_some _ (Heap.get?_push_size _ rfl))
  have r2 : (pE s.heap a b).get? (yI s.heap a).objs.size = some _ := Heap.get?_push_of_some _ (Heap.get?_push_of_some _ (Heap.get?_push_of_some _ (Heap.get?_push_size _ rfl)))
  have r1 : (pE s.heap a b).get? s.heap.objs.size = some _ := Heap.get?_push_of_some _ (Heap.get?_push_of_some _ (Heap.get?_push_of_some _ (Heap.get?_push_of_some _ (Heap.get?_push_size _ rfl))))
  have up : ∀ c o, s.heap.get? c = some o -> (pE s.heap a b).get? c = some o := fun c o e => Heap.get?_push_of_some _ (Heap.get?_push_of_some _ (Heap.get?_push_of_some _ (Heap.get?_push_of_some _ (Heap.get?_push_of_some _ e))))
  have la : a < s.heap.objs.size := by obtain ⟨_, e, _⟩ := ha; exact Heap.lt_size e
  have lb : b < s.heap.objs.size := by obtain ⟨_, e, _⟩ := hb; exact Heap.lt_size e
  rw [s2, s3, s4] at r5
  rw [s1, s2] at r3
  rw [s3] at r4
  rw [s1] at r2
  show _ /\ _
  rw [s4]
  have ne : ∀ {m n : Nat}, m < n -> m ≠ n := fun h => Nat.ne_of_lt h
  refine ⟨⟨_, r5, rfl⟩, go _ ⟨?_, r5, r3, ⟨_, _, r4⟩, ⟨⟨_, r1, rfl, rfl⟩, ha.at fun o e => up _ _ e⟩, ⟨⟨_, r2, rfl, rfl⟩, hb.at fun o e => up _ _ e⟩⟩ up⟩
  generalize s.heap.objs.size = n at la lb
  have la' : (a : Nat) < n := la
  have lb' : (b : Nat) < n := lb
  constructor <;> first | exact ne (by omega) | exact (ne (by omega)).symm | exact ne (Nat.lt_of_lt_of_le la (by omega)) | exact ne (Nat.lt_of_lt_of_le lb (by omega)) | exact ne la | exact ne lb
end Sp
namespace Sp
open PySem PySem.Spec PyProof.Rows L2
variable {X : Cx}
theorem mH {pins : List (Addr × Obj)} {σ : L2.St} {H : Hp} {s : Shared} {h2 : Heap} {t2 : Nat} {ch : List Addr} (I : aj X pins σ H s)
    (k : ∀ b u, b ∉ ch -> s.heap.get? b = some u -> h2.get? b = some u) (hn : ∀ b ∈ ch, eS X pins H b) : aj X pins σ H { s with heap := h2, toks := t2 } := by
  have tr : ∀ b u, H b = some u -> b ∉ ch := fun b u e z => by rw [(hn b z).1] at e; cases e
  have un : Un (ic X.stack) ch H H s.heap h2 := ⟨fun b ob e n _ c => k b ob c e, fun b ob e n _ c => ⟨ob.slots, k b ob c e⟩, fun b ob e n c => n, fun b ob e c => ⟨ob, k b ob c e⟩, fun b xs e => e, fun b ob u e => e, fun b ps e => ⟨#[], by rw [e]; simp⟩⟩
  refine I.call (g' := s.gens) (d' := s.drawn) un (fun b u e => ?_) I.bare fun b hb => ⟨(hn b hb).2.2.2.1, (hn b hb).2.1, (hn b hb).2.2.2.2.1, (hn b hb).2.2.2.2.2⟩
  refine (I.hok b u e).stay (fun c v hc q => k c v ?_ q) (fun c q => q) fun c xs q => q
  rcases hc with z | z
  . rw [z]; exact tr b u e
  . exact tr c _ z
def MY (K : W.Frag) (a b : Addr) : It :=
  ⟨fun i H => ∃ xs ys x y, bW K H a xs /\ xs[i]? = some x /\ bW K H b ys /\ ys[i]? = some y, fun i H x H' => ∃ p u v, x = .ref p /\ H p = none /\ H' = aU H p (.tup [u, v]) /\ (∀ xs, bW K H a xs -> xs[i]? = some u) /\ ∀ ys, bW K H b ys -> ys[i]? = some v, fun i H => ∃ xs ys, bW K H a xs /\ bW K H b ys /\ (xs.length <= i \/ ys.length <= i)⟩
theorem wQ {P : Program} {w : World} {K : W.Frag} {es : List Expr} {n1 : Nat} {pos : Pos} (a b z TI TO i1 i2 : Addr) (D : ZipApart z TI TO i1 i2 a b) :
    L2.Turn P w K (.Tuple es n1 pos) (MY K a b) [z, TI, TO, i1, i2] z (fun i h => IsZip h z TI TO .none /\ IsPair h TI (.ref i1) (.ref i2) /\ (∃ u v, IsPair h TO u v) /\ h.IsTupleIter i1 a i /\ h.IsTupleIter i2 b i) where
  mem := by simp
  obj := fun i h st c hc => by
    obtain ⟨q1, q2, ⟨u, v, q3⟩, ⟨o4, q4, c4, d4⟩, ⟨o5, q5, c5, d5⟩⟩ := st
    simp only [List.mem_cons, List.not_mem_nil, or_false] at hc
    rcases hc with rfl | rfl | rfl | rfl | rfl
    . exact ⟨_, q1, fun v e => by have e' : Data.fields _ = Data.cell v := e; cases e'⟩
    . exact ⟨_, q2, fun v e => by have e' : Data.seq _ _ = Data.cell v := e; cases e'⟩
    . exact ⟨_, q3, fun v e => by have e' : Data.seq _ _ = Data.cell v := e; cases e'⟩
    . exact ⟨_, q4, fun v e => by rw [d4] at e; cases e⟩
    . exact ⟨_, q5, fun v e => by rw [d5] at e; cases e⟩
  keep := fun i h h' ⟨q1, q2, ⟨u, v, q3⟩, q4, q5⟩ k => ⟨k _ (by simp) _ q1, k _ (by simp) _ q2, ⟨u, v, k _ (by simp) _ q3⟩, q4.at fun o e => k _ (by simp) o e, q5.at fun o e => k _ (by simp) o e⟩
  item := by
    intro Y hP hw hK hc i pins s σ H E I hf st hg
    subst hP hw hK
    obtain ⟨xs, ys, x, y, hq, hx, hr, hy⟩ := hg
    obtain ⟨its, rv, p1, hz⟩ := I.tuple hq
    obtain ⟨jts, rw', p2, hz'⟩ := I.tuple hr
    obtain ⟨u, hu, ru⟩ := rv.get hx
    obtain ⟨v, hv, rv'⟩ := rw'.get hy
    obtain ⟨q1, q2, q3, q4, q5⟩ := st
    have zlt : z < s.heap.objs.size := Heap.lt_size q1
    refine Zs.pyItem (je (i := i1) (l := a) (xs := its.toArray) D.l1i1) (je (i := i2) (l := b) (xs := jts.toArray) D.l2i2) ⟨D, q1, q2, q3, ⟨q4, p1⟩, ⟨q5, p2⟩⟩ (x := u) (y := v) (by simpa using hu) (by simpa using hv) fun h1 jr zo t1 k1 => ?_
    refine ⟨_, rfl, wpAny_letOwnedTupleGo_zip zo fun h2 z2 m2 => ?_⟩
    have m2 : Heap.SameBut z h1 h2 := m2
    have N := jr h2 z2 m2
    have k2 : ∀ c o, c ∉ [z, TI, TO, i1, i2] -> s.heap.get? c = some o -> h2.get? c = some o := fun c o nc q => by
      have n1 : c ≠ z := fun e => nc (by simp [e])
      refine m2.extBut c o n1 (k1 c o (fun e => nc ?_) q)
      simp only [List.mem_cons, List.not_mem_nil, or_false] at e ⊢
      rcases e with e | e | e | e <;> simp [e]
    have t2 : h2.get? s.heap.objs.size = some { cls := .type "tuple", data := .seq #[u, v] } := m2.extBut _ _ (Nat.ne_of_gt zlt) t1
    have hn0 : H s.heap.objs.size = none := I.hok.fresh (Nat.le_refl _)
    refine ⟨.ref s.heap.objs.size, aU H s.heap.objs.size (.tup [x, y]), gG (s := s) (h2 := h2) (t2 := s.toks) I k2 (Nat.le_refl _) hf ?_, rfl, ⟨_, x, y, rfl, hn0, rfl, fun ws hw => by rw [I.tuple_inj hw hq]; exact hx, fun ws hw => by rw [I.tuple_inj hw hr]; exact hy⟩, ⟨N.rd, N.ins, N.out, N.fst.1, N.snd.1⟩, fun c hc => ?_⟩
    . exact ⟨by show 2 <= sizeLine; decide, [u, v], .cons ru (.cons rv' .nil), ⟨_, t2, rfl, _, rfl⟩⟩
    . have hb' := hf c hc
      have lt : c < s.heap.objs.size := by
        obtain ⟨u', v', q3⟩ := q3
        obtain ⟨o4, q4, _⟩ := q4
        obtain ⟨o5, q5, _⟩ := q5
        simp only [List.mem_cons, List.not_mem_nil, or_false] at hc
        rcases hc with rfl | rfl | rfl | rfl | rfl
        . exact zlt
        . exact Heap.lt_size q2
        . exact Heap.lt_size q3
        . exact Heap.lt_size q4
        . exact Heap.lt_size q5
      rw [aC (Nat.ne_of_lt lt)]; exact hb'.1
  done := by
    intro Y hP hw hK hc i pins s σ H E I hf st hg
    subst hP hw hK
    obtain ⟨xs, ys, hq, hr, hl⟩ := hg
    obtain ⟨its, rv, p1, hz⟩ := I.tuple hq
    obtain ⟨jts, rw', p2, hz'⟩ := I.tuple hr
    obtain ⟨q1, q2, q3, q4, q5⟩ := st
    have l1 := rv.length
    have l2 := rw'.length
    refine Zs.pyDone (I.ok.hd hc) (je (i := i1) (l := a) (xs := its.toArray) D.l1i1) (je (i := i2) (l := b) (xs := jts.toArray) D.l2i2) ⟨D, q1, q2, q3, ⟨q4, p1⟩, ⟨q5, p2⟩⟩ ?_ fun h1 k1 => ⟨rfl, mH (s := s) (t2 := s.toks) (ch := [z, TI, TO, i1, i2]) I (fun c o nc q => k1 c o (fun e => nc ?_) q) hf⟩
    . rcases hl with hl | hl
      . exact .inl (by simp; omega)
      . exact .inr (by simp; omega)
    . simp only [List.mem_cons, List.not_mem_nil, or_false] at e ⊢
      rcases e with e | e | e | e <;> simp [e]
  self := fun _ _ _ _ _ st h => wpAny_pyIter_zip st.1 h
theorem DE {ρ : ai} {es : List Expr} {n1 : Nat} {tp p pos : Pos} {a b : Expr} {l m : List D} {k : Nat} (hg : Gl X "zip") (hm0 : X.mg "zip" = none) (ha : AD X ρ [a, b] [.tup l, .tup m] k) (hst : ∀ e ∈ [a, b], ∀ y p, e ≠ .Starred y p) (hf : ao l = true) (hm : ao m = true) :
    IE X ρ (.Tuple es n1 tp) (.Call (.Name "zip" p) [a, b] [] pos) (List.zipWith (fun x y => .tup [x, y]) l m) 0 := by
  intro ow pins s σ H R I ⟨E, q⟩
  have n1' := aV (env := X.env) (es := [b]) (hst a (by simp))
  have n2' : (backTo pos (starEach [b] X.env)).any (·.1) = false := bY fun x hx => hst x (by simp at hx; simp [hx])
  refine Call_ (db I hg hm0 (show bootBuiltins "zip" = some (.type "zip") by decide +kernel) (PyProof.Rows.callWith_type1 (aM (ha ow pos pins s σ H (fun vs H1 => ay H H1 /\ af X.K H1 (Kp ow H k) [.tup l, .tup m] vs) I ⟨E, fun vs H1 s1 r1 => ⟨s1, r1⟩⟩) fun us s1 ⟨vs, H1, I1, rv, sm, rp⟩ => ?_) n1' n2') (by decide +kernel) (by decide +kernel))
  rw [af] at rp
  obtain ⟨v1, vr, rfl, rp1, rp2⟩ := rp
  obtain ⟨v2, rfl, rp3⟩ := rp2.only
  obtain ⟨ta, xs, rfl, hq, rl⟩ := dX rp1
  obtain ⟨tb, ys, rfl, hr, rm⟩ := dX rp3
  obtain ⟨u1, u2, rfl, ru1, ru2⟩ := lX rv
  cases (show u1 = Value.ref ta from ru1)
  cases (show u2 = Value.ref tb from ru2)
  obtain ⟨its, rvs, pt, hz⟩ := I1.tuple hq
  obtain ⟨jts, rvs', pt', hz'⟩ := I1.tuple hr
  refine zN (show s1.heap.IsTuple ta its.toArray from pt) (show s1.heap.IsTuple tb jts.toArray from pt') fun h2 Z k2 => ?_
  refine wpAny_pyIter_zip Z.rd ?_
  have I2 : aj X pins σ H1 { s1 with heap := h2 } := I1.kept (t' := s1.toks) k2
  have fr : ∀ j, eS X pins H1 (s1.heap.objs.size + j) := fun j => I1.fpOk (Nat.le_add_right _ _) (I1.hok.fresh (Nat.le_add_right _ _))
  refine ⟨s1.heap.objs.size + 4, [s1.heap.objs.size + 4, s1.heap.objs.size + 2, s1.heap.objs.size + 3, s1.heap.objs.size, s1.heap.objs.size + 1], _, _, H1, rfl, I2, wQ ta tb _ _ _ _ _ Z.ap, ⟨Z.rd, Z.ins, Z.out, Z.fst.1, Z.snd.1⟩, fun c hc => ?_, q _ H1 sm ?_⟩
  . simp only [List.mem_cons, List.not_mem_nil, or_false] at hc
    rcases hc with rfl | rfl | rfl | rfl | rfl
    . exact fr 4
    . exact fr 2
    . exact fr 3
    . exact fr 0
    . exact fr 1
  . intro i H2 st
    have rl' : af X.K H1 (Kd ow H 0 H1) l xs := rl.flat _ hf
    have rm' : af X.K H1 (Kd ow H 0 H1) m ys := rm.flat _ hm
    refine ⟨fun d hd => ?_, fun hle => ?_⟩
    . rw [List.getElem?_zipWith] at hd
      cases e : l[i]? with
      | none => rw [e] at hd; cases hd
      | some x =>
        cases e' : m[i]? with
        | none => rw [e, e'] at hd; cases hd
        | some y =>
          rw [e, e'] at hd; cases hd
          obtain ⟨u, hu, ru⟩ := rl'.get e
          obtain ⟨v, hv, rv⟩ := rm'.get e'
          refine ⟨⟨xs, ys, u, v, st.sq hq, hu, st.sq hr, hv⟩, fun x' H3 ⟨p', u', v', e1, e2, e3, e4, e5⟩ => ?_⟩
          have c1 := e4 xs (st.sq hq)
          have c2 := e5 ys (st.sq hr)
          rw [hu] at c1; cases c1
          rw [hv] at c2; cases c2
          subst e1 e3
          have sm3 := cf (o := HO.tup [u, v]) e2
          refine ⟨sm3, ?_⟩
          rw [ag]
          exact ⟨p', _, rfl, bW.of aL, af.cons ((ru.mono st).same sm3) (af.one ((rv.mono st).same sm3))⟩
    . rw [List.length_zipWith] at hle
      have l1 := rl.length
      have l2 := rm.length
      exact ⟨xs, ys, st.sq hq, st.sq hr, by omega⟩
end Sp
namespace Sp
open PySem PySem.Spec PyProof.Rows L2
variable {X : Cx}
def fS (κ : Bool) (h : Heap) (i a : Addr) (k : Nat) : Prop := match κ with | true => h.IsTupleIter i a k | false => h.IsListIter i a k
def eQ (κ : Bool) (h : Heap) (a : Addr) (xs : Array Value) : Prop := match κ with | true => h.IsTuple a xs | false => h.IsList a xs
def jO (κ : Bool) (K : W.Frag) (H : Hp) (a : Addr) (xs : List V) : Prop := match κ with | true => bW K H a xs | false => bS K H a xs
def ji (κ : Bool) (l : List D) : D := match κ with | true => .tup l | false => .lst l
def Dz (κ : Bool) : String := match κ with | true => "tuple_iterator" | false => "list_iterator"
theorem tU (κ : Bool) {prog : Program} {w : World} {i l : Addr} {xs : Array Value} (ne : l ≠ i) : Wk prog w i l (fun k h => fS κ h i l k /\ eQ κ h l xs) (fun k => xs[k]?) := by
  cases κ
  . exact BY ne
  . exact je ne
theorem gF {κ : Bool} {h : Heap} {i a : Addr} {k : Nat} (p : fS κ h i a k) : ∃ o, h.get? i = some o /\ ∀ v, o.data ≠ Data.cell v := by
  cases κ
  . obtain ⟨o, e, _, d⟩ := (show h.IsListIter i a k from p); exact ⟨o, e, fun v z => by rw [d] at z; cases z⟩
  . obtain ⟨o, e, _, d⟩ := (show h.IsTupleIter i a k from p); exact ⟨o, e, fun v z => by rw [d] at z; cases z⟩
theorem qN {κ : Bool} {h h' : Heap} {i a : Addr} {k : Nat} (p : fS κ h i a k) (q : ∀ o, h.get? i = some o -> h'.get? i = some o) : fS κ h' i a k := by
  cases κ
  . exact (show h.IsListIter i a k from p).at q
  . exact (show h.IsTupleIter i a k from p).at q
theorem qL {κ : Bool} {h h' : Heap} {a : Addr} {xs : Array Value} (p : eQ κ h a xs) (q : ∀ o, h.get? a = some o -> h'.get? a = some o) : eQ κ h' a xs := by
  cases κ
  . exact (show h.IsList a xs from p).at q
  . exact (show h.IsTuple a xs from p).at q
theorem qK {κ : Bool} {h : Heap} {a : Addr} {xs : Array Value} (p : eQ κ h a xs) : a < h.objs.size := by
  cases κ
  . obtain ⟨_, e, _⟩ := (show h.IsList a xs from p); exact Heap.lt_size e
  . obtain ⟨_, e, _⟩ := (show h.IsTuple a xs from p); exact Heap.lt_size e
theorem kA {κ : Bool} {pins : List (Addr × Obj)} {σ : L2.St} {H : Hp} {s : Shared} {a : Addr} {xs : List V} (I : aj X pins σ H s) (h : jO κ X.K H a xs) : ∃ its : List Value, aF xs its /\ eQ κ s.heap a its.toArray /\ xs.length <= sizeLine := by
  cases κ
  . obtain ⟨its, r, p, z⟩ := I.list h; exact ⟨its, r, p.isList, z⟩
  . obtain ⟨its, r, p, z⟩ := I.tuple h; exact ⟨its, r, p, z⟩
theorem oQ {κ : Bool} {pins : List (Addr × Obj)} {σ : L2.St} {H : Hp} {s : Shared} {a : Addr} {xs ys : List V} (I : aj X pins σ H s) (h : jO κ X.K H a xs) (h' : jO κ X.K H a ys) : xs = ys := by
  cases κ
  . exact I.list_inj h h'
  . exact I.tuple_inj h h'
theorem gW {κ : Bool} {ow : Ow} {H H1 : Hp} {k : Nat} {l : List D} {v : V} (h : ag X.K H1 (Kp ow H k) (ji κ l) v) : ∃ a vs, v = .ref a /\ jO κ X.K H1 a vs /\ af X.K H1 (Kp ow H k) l vs /\ ∀ {P' : aZ} {H2 : Hp}, dC (Kd ow H k H1) P' H1 H2 -> jO κ X.K H2 a vs := by
  cases κ
  . rw [show ji false l = .lst l from rfl, ag] at h
    obtain ⟨a, vs, b, rfl, hl, hp, rl⟩ := h
    have hp' : Kd ow H k H1 a b := ⟨hp, fun hb => by subst hb; exact ⟨_, hl⟩⟩
    exact ⟨a, vs, rfl, hl.sq, rl, fun st => (st.ls hl hp').sq⟩
  . rw [show ji true l = .tup l from rfl, ag] at h
    obtain ⟨a, vs, rfl, hl, rl⟩ := h
    exact ⟨a, vs, rfl, hl, rl, fun st => st.sq hl⟩
abbrev yL (κ : Bool) (h : Heap) (a : Addr) : Heap := h.push { cls := .type (Dz κ), data := .fields #[.ref a, .int 0 0] }
abbrev yK (κ κ' : Bool) (h : Heap) (a b : Addr) : Heap := (yL κ h a).push { cls := .type (Dz κ'), data := .fields #[.ref b, .int 0 0] }
abbrev yJ (κ κ' : Bool) (h : Heap) (a b : Addr) : Heap := (yK κ κ' h a b).push { cls := .type "tuple", data := .seq #[.ref h.objs.size, .ref (yL κ h a).objs.size] }
abbrev ou (κ κ' : Bool) (h : Heap) (a b : Addr) : Heap := (yJ κ κ' h a b).push { cls := .type "tuple", data := .seq #[.none, .none] }
abbrev jd (κ κ' : Bool) (h : Heap) (a b : Addr) : Heap := (ou κ κ' h a b).push { cls := .type "zip", data := .fields #[.none, .bool false, .bool false, .ref (yK κ κ' h a b).objs.size, .ref (yJ κ κ' h a b).objs.size] }
theorem jc (a b : Addr) (xs ys : Array Value) :
    Meets (Builtin.«zip.__new__» ⟨[.type "zip", .ref a, .ref b], []⟩) (fun _ R s => s.heap.IsList a xs /\ s.heap.IsList b ys /\ R (.ok (.ret (.ref (ou false false s.heap a b).objs.size))) { s with heap := jd false false s.heap a b }) :=
  .of_wp fun pg wd AA RR st hh => by
    obtain ⟨hp0, gg, dd, tk0, oo⟩ := st; obtain ⟨ha, hb, hh⟩ := hh
    have hsub0 := sub_zip
    have T1 : Heap.IsList (Shared.heap ⟨hp0, gg, dd, tk0, oo⟩) a xs := ha
    have T2 : Heap.IsList (Shared.heap ⟨hp0.push { cls := .type "list_iterator", data := .fields #[.ref a, .int 0 0] }, gg, dd, tk0, oo⟩) b ys := hb.at fun o e => Heap.get?_push_of_some _ e
    wp_walk using wpAny_pyIter_list T1, wpAny_pyIter_list T2
    exact ⟨_, rfl, hh⟩
theorem kX (a b : Addr) (xs ys : Array Value) :
    Meets (Builtin.«zip.__new__» ⟨[.type "zip", .ref a, .ref b], []⟩) (fun _ R s => s.heap.IsList a xs /\ s.heap.IsTuple b ys /\ R (.ok (.ret (.ref (ou false true s.heap a b).objs.size))) { s with heap := jd false true s.heap a b }) :=
  .of_wp fun pg wd AA RR st hh => by
    obtain ⟨hp0, gg, dd, tk0, oo⟩ := st; obtain ⟨ha, hb, hh⟩ := hh
    have hsub0 := sub_zip
    have T1 : Heap.IsList (Shared.heap ⟨hp0, gg, dd, tk0, oo⟩) a xs := ha
    have T2 : Heap.IsTuple (Shared.heap ⟨hp0.push { cls := .type "list_iterator", data := .fields #[.ref a, .int 0 0] }, gg, dd, tk0, oo⟩) b ys := hb.at fun o e => Heap.get?_push_of_some _ e
    wp_walk using wpAny_pyIter_list T1, wpAny_pyIter_tuple T2
    exact ⟨_, rfl, hh⟩
theorem kW (a b : Addr) (xs ys : Array Value) :
    Meets (Builtin.«zip.__new__» ⟨[.type "zip", .ref a, .ref b], []⟩) (fun _ R s => s.heap.IsTuple a xs /\ s.heap.IsList b ys /\ R (.ok (.ret (.ref (ou true false s.heap a b).objs.size))) { s with heap := jd true false s.heap a b }) :=
  .of_wp fun pg wd AA RR st hh => by
    obtain ⟨hp0, gg, dd, tk0, oo⟩ := st; obtain ⟨ha, hb, hh⟩ := hh
    have hsub0 := sub_zip
    have T1 : Heap.IsTuple (Shared.heap ⟨hp0, gg, dd, tk0, oo⟩) a xs := ha
    have T2 : Heap.IsList (Shared.heap ⟨hp0.push { cls := .type "tuple_iterator", data := .fields #[.ref a, .int 0 0] }, gg, dd, tk0, oo⟩) b ys := hb.at fun o e => Heap.get?_push_of_some _ e
    wp_walk using wpAny_pyIter_tuple T1, wpAny_pyIter_list T2
    exact ⟨_, rfl, hh⟩
theorem lz (a b : Addr) (xs ys : Array Value) :
    Meets (Builtin.«zip.__new__» ⟨[.type "zip", .ref a, .ref b], []⟩) (fun _ R s => s.heap.IsTuple a xs /\ s.heap.IsTuple b ys /\ R (.ok (.ret (.ref (ou true true s.heap a b).objs.size))) { s with heap := jd true true s.heap a b }) :=
  .of_wp fun pg wd AA RR st hh => by
    obtain ⟨hp0, gg, dd, tk0, oo⟩ := st; obtain ⟨ha, hb, hh⟩ := hh
    have hsub0 := sub_zip
    have T1 : Heap.IsTuple (Shared.heap ⟨hp0, gg, dd, tk0, oo⟩) a xs := ha
    have T2 : Heap.IsTuple (Shared.heap ⟨hp0.push { cls := .type "tuple_iterator", data := .fields #[.ref a, .int 0 0] }, gg, dd, tk0, oo⟩) b ys := hb.at fun o e => Heap.get?_push_of_some _ e
    wp_walk using wpAny_pyIter_tuple T1, wpAny_pyIter_tuple T2
    exact ⟨_, rfl, hh⟩
theorem BX (κ κ' : Bool) (a b : Addr) (xs ys : Array Value) :
    Meets (Builtin.«zip.__new__» ⟨[.type "zip", .ref a, .ref b], []⟩) (fun _ R s => eQ κ s.heap a xs /\ eQ κ' s.heap b ys /\ R (.ok (.ret (.ref (ou κ κ' s.heap a b).objs.size))) { s with heap := jd κ κ' s.heap a b }) := by
  cases κ <;> cases κ'
  . exact jc a b xs ys
  . exact kX a b xs ys
  . exact kW a b xs ys
  . exact lz a b xs ys
theorem qM {κ : Bool} {h : Heap} {i a : Addr} (e : h.get? i = some { cls := .type (Dz κ), data := .fields #[.ref a, .int 0 0] }) : fS κ h i a 0 := by
  cases κ
  . exact ⟨_, e, rfl, rfl⟩
  . exact ⟨_, e, rfl, rfl⟩
theorem wP {κ κ' : Bool} {prog : Program} {w : World} {A : Around} {E : Value -> Shared -> Prop} {s : Shared} {a b : Addr} {xs ys : Array Value} {Q : Value -> Shared -> Prop} (ha : eQ κ s.heap a xs) (hb : eQ κ' s.heap b ys)
    (go : ∀ h1, Zs (s.heap.objs.size + 4) (s.heap.objs.size + 2) (s.heap.objs.size + 3) s.heap.objs.size (s.heap.objs.size + 1) a b (fun k h => fS κ h s.heap.objs.size a k /\ eQ κ h a xs) (fun k h => fS κ' h (s.heap.objs.size + 1) b k /\ eQ κ' h b ys) 0 h1 -> (∀ c o, s.heap.get? c = some o -> h1.get? c = some o) -> Q (.ref (s.heap.objs.size + 4)) { s with heap := h1 }) :
    wpAny (model prog w) A (call (.type "zip") [.ref a, .ref b]) Q E s := by
  refine callType_new F.called_zip (by decide) (F.typeCall_zip_2 _ _) (F.newCall_zip_2 _ _) (fun ob => F.args_object_init_3 ob _ _) F.entry_zip_new (BX κ κ' a b xs ys) ⟨ha, hb, ?_⟩
  have s1 : (yL κ s.heap a).objs.size = s.heap.objs.size + 1 := Heap.size_push ..
  have s2 : (yK κ κ' s.heap a b).objs.size = s.heap.objs.size + 2 := by rw [Heap.size_push, s1]
  have s3 : (yJ κ κ' s.heap a b).objs.size = s.heap.objs.size + 3 := by rw [Heap.size_push, s2]
  have s4 : (ou κ κ' s.heap a b).objs.size = s.heap.objs.size + 4 := by rw [Heap.size_push, s3]
  have r5 : (jd κ κ' s.heap a b).get? (ou κ κ' s.heap a b).objs.size = some _ := Heap.get?_push_size _ rfl
  have r4 : (jd κ κ' s.heap a b).get? (yJ κ κ' s.heap a b).objs.size = some _ := Heap.get?_push_of_some _ (Heap.get?_push_size _ rfl)
  have r3 : (jd κ κ' s.heap a b).get? (yK κ κ' s.heap a b).objs.size = some _ := Heap.get?_push_of_some _ (Heap.get?_push_of_some _ (Heap.get?_push_size _ rfl))
  have r2 : (jd κ κ' s.heap a b).get? (yL κ s.heap a).objs.size = some _ := Heap.get?_push_of_some _ (Heap.get?_push_of_some _ (Heap.get?_push_of_some _ (Heap.get?_push_size _ rfl)))
  have r1 : (jd κ κ' s.heap a b).get? s.heap.objs.size = some _ := Heap.get?_push_of_some _ (Heap.get?_push_of_some _ (Heap.get?_push_of_some _ (Heap.get?_push_of_some _ (Heap.get?_push_size _ rfl))))
  have up : ∀ c o, s.heap.get? c = some o -> (jd κ κ' s.heap a b).get? c = some o := fun c o e => Heap.get?_push_of_some _ (Heap.get?_push_of_some _ (Heap.get?_push_of_some _ (Heap.get?_push_of_some _ (Heap.get?_push_of_some _ e))))
  have la : a < s.heap.objs.size := qK ha
  have lb : b < s.heap.objs.size := qK hb
  rw [s2, s3, s4] at r5
  rw [s1, s2] at r3
  rw [s3] at r4
  rw [s1] at r2
  show _ /\ _
  rw [s4]
  have ne : ∀ {m n : Nat}, m < n -> m ≠ n := fun h => Nat.ne_of_lt h
  refine ⟨⟨_, r5, rfl⟩, go _ ⟨?_, r5, r3, ⟨_, _, r4⟩, ⟨qM r1, qL ha fun o e => up _ _ e⟩, ⟨qM r2, qL hb fun o e => up _ _ e⟩⟩ up⟩
  generalize s.heap.objs.size = n at la lb
  have la' : (a : Nat) < n := la
  have lb' : (b : Nat) < n := lb
  constructor <;> first | exact ne (by omega) | exact (ne (by omega)).symm | exact ne (Nat.lt_of_lt_of_le la (by omega)) | exact ne (Nat.lt_of_lt_of_le lb (by omega)) | exact ne la | exact ne lb
def MC (κ κ' : Bool) (K : W.Frag) (a b : Addr) : It :=
  ⟨fun i H => ∃ xs ys x y, jO κ K H a xs /\ xs[i]? = some x /\ jO κ' K H b ys /\ ys[i]? = some y, fun i H x H' => ∃ p u v, x = .ref p /\ H p = none /\ H' = aU H p (.tup [u, v]) /\ (∀ xs, jO κ K H a xs -> xs[i]? = some u) /\ ∀ ys, jO κ' K H b ys -> ys[i]? = some v, fun i H => ∃ xs ys, jO κ K H a xs /\ jO κ' K H b ys /\ (xs.length <= i \/ ys.length <= i)⟩
theorem vf (κ κ' : Bool) {P : Program} {w : World} {K : W.Frag} {es : List Expr} {n1 : Nat} {pos : Pos} (a b z TI TO i1 i2 : Addr) (D : ZipApart z TI TO i1 i2 a b) :
    L2.Turn P w K (.Tuple es n1 pos) (MC κ κ' K a b) [z, TI, TO, i1, i2] z (fun i h => IsZip h z TI TO .none /\ IsPair h TI (.ref i1) (.ref i2) /\ (∃ u v, IsPair h TO u v) /\ fS κ h i1 a i /\ fS κ' h i2 b i) where
  mem := by simp
  obj := fun i h st c hc => by
    obtain ⟨q1, q2, ⟨u, v, q3⟩, q4, q5⟩ := st
    obtain ⟨o4, q4, d4⟩ := gF q4
    obtain ⟨o5, q5, d5⟩ := gF q5
    simp only [List.mem_cons, List.not_mem_nil, or_false] at hc
    rcases hc with rfl | rfl | rfl | rfl | rfl
    . exact ⟨_, q1, fun v e => by have e' : Data.fields _ = Data.cell v := e; cases e'⟩
    . exact ⟨_, q2, fun v e => by have e' : Data.seq _ _ = Data.cell v := e; cases e'⟩
    . exact ⟨_, q3, fun v e => by have e' : Data.seq _ _ = Data.cell v := e; cases e'⟩
    . exact ⟨_, q4, d4⟩
    . exact ⟨_, q5, d5⟩
  keep := fun i h h' ⟨q1, q2, ⟨u, v, q3⟩, q4, q5⟩ k => ⟨k _ (by simp) _ q1, k _ (by simp) _ q2, ⟨u, v, k _ (by simp) _ q3⟩, qN q4 fun o e => k _ (by simp) o e, qN q5 fun o e => k _ (by simp) o e⟩
  item := by
    intro Y hP hw hK hc i pins s σ H E I hf st hg
    subst hP hw hK
    obtain ⟨xs, ys, x, y, hq, hx, hr, hy⟩ := hg
    obtain ⟨its, rv, p1, hz⟩ := kA I hq
    obtain ⟨jts, rw', p2, hz'⟩ := kA I hr
    obtain ⟨u, hu, ru⟩ := rv.get hx
    obtain ⟨v, hv, rv'⟩ := rw'.get hy
    obtain ⟨q1, q2, q3, q4, q5⟩ := st
    have zlt : z < s.heap.objs.size := Heap.lt_size q1
    refine Zs.pyItem (tU κ (i := i1) (l := a) (xs := its.toArray) D.l1i1) (tU κ' (i := i2) (l := b) (xs := jts.toArray) D.l2i2) ⟨D, q1, q2, q3, ⟨q4, p1⟩, ⟨q5, p2⟩⟩ (x := u) (y := v) (by simpa using hu) (by simpa using hv) fun h1 jr zo t1 k1 => ?_
    refine ⟨_, rfl, wpAny_letOwnedTupleGo_zip zo fun h2 z2 m2 => ?_⟩
    have m2 : Heap.SameBut z h1 h2 := m2
    have N := jr h2 z2 m2
    have k2 : ∀ c o, c ∉ [z, TI, TO, i1, i2] -> s.heap.get? c = some o -> h2.get? c = some o := fun c o nc q => by
      have n1 : c ≠ z := fun e => nc (by simp [e])
      refine m2.extBut c o n1 (k1 c o (fun e => nc ?_) q)
      simp only [List.mem_cons, List.not_mem_nil, or_false] at e ⊢
      rcases e with e | e | e | e <;> simp [e]
    have t2 : h2.get? s.heap.objs.size = some { cls := .type "tuple", data := .seq #[u, v] } := m2.extBut _ _ (Nat.ne_of_gt zlt) t1
    have hn0 : H s.heap.objs.size = none := I.hok.fresh (Nat.le_refl _)
    refine ⟨.ref s.heap.objs.size, aU H s.heap.objs.size (.tup [x, y]), gG (s := s) (h2 := h2) (t2 := s.toks) I k2 (Nat.le_refl _) hf ?_, rfl, ⟨_, x, y, rfl, hn0, rfl, fun ws hw => by rw [oQ I hw hq]; exact hx, fun ws hw => by rw [oQ I hw hr]; exact hy⟩, ⟨N.rd, N.ins, N.out, N.fst.1, N.snd.1⟩, fun c hc => ?_⟩
    . exact ⟨by show 2 <= sizeLine; decide, [u, v], .cons ru (.cons rv' .nil), ⟨_, t2, rfl, _, rfl⟩⟩
    . have hb' := hf c hc
      have lt : c < s.heap.objs.size := by
        obtain ⟨u', v', q3⟩ := q3
        obtain ⟨o4, q4, _⟩ := gF q4
        obtain ⟨o5, q5, _⟩ := gF q5
        simp only [List.mem_cons, List.not_mem_nil, or_false] at hc
        rcases hc with rfl | rfl | rfl | rfl | rfl
        . exact zlt
        . exact Heap.lt_size q2
        . exact Heap.lt_size q3
        . exact Heap.lt_size q4
        . exact Heap.lt_size q5
      rw [aC (Nat.ne_of_lt lt)]; exact hb'.1
  done := by
    intro Y hP hw hK hc i pins s σ H E I hf st hg
    subst hP hw hK
    obtain ⟨xs, ys, hq, hr, hl⟩ := hg
    obtain ⟨its, rv, p1, hz⟩ := kA I hq
    obtain ⟨jts, rw', p2, hz'⟩ := kA I hr
    obtain ⟨q1, q2, q3, q4, q5⟩ := st
    have l1 := rv.length
    have l2 := rw'.length
    refine Zs.pyDone (I.ok.hd hc) (tU κ (i := i1) (l := a) (xs := its.toArray) D.l1i1) (tU κ' (i := i2) (l := b) (xs := jts.toArray) D.l2i2) ⟨D, q1, q2, q3, ⟨q4, p1⟩, ⟨q5, p2⟩⟩ ?_ fun h1 k1 => ⟨rfl, mH (s := s) (t2 := s.toks) (ch := [z, TI, TO, i1, i2]) I (fun c o nc q => k1 c o (fun e => nc ?_) q) hf⟩
    . rcases hl with hl | hl
      . exact .inl (by simp; omega)
      . exact .inr (by simp; omega)
    . simp only [List.mem_cons, List.not_mem_nil, or_false] at e ⊢
      rcases e with e | e | e | e <;> simp [e]
  self := fun _ _ _ _ _ st h => wpAny_pyIter_zip st.1 h
theorem A6 {κ κ' : Bool} {ρ : ai} {es : List Expr} {n1 : Nat} {tp p pos : Pos} {a b : Expr} {l m : List D} {k : Nat} (hg : Gl X "zip") (hm0 : X.mg "zip" = none) (ha : AD X ρ [a, b] [ji κ l, ji κ' m] k) (hst : ∀ e ∈ [a, b], ∀ y p, e ≠ .Starred y p) (hf : ao l = true) (hm : ao m = true) :
    IE X ρ (.Tuple es n1 tp) (.Call (.Name "zip" p) [a, b] [] pos) (List.zipWith (fun x y => .tup [x, y]) l m) k := by
  intro ow pins s σ H R I ⟨E, q⟩
  have n1' := aV (env := X.env) (es := [b]) (hst a (by simp))
  have n2' : (backTo pos (starEach [b] X.env)).any (·.1) = false := bY fun x hx => hst x (by simp at hx; simp [hx])
  refine Call_ (db I hg hm0 (show bootBuiltins "zip" = some (.type "zip") by decide +kernel) (PyProof.Rows.callWith_type1 (aM (ha ow pos pins s σ H (fun vs H1 => ay H H1 /\ af X.K H1 (Kp ow H k) [ji κ l, ji κ' m] vs) I ⟨E, fun vs H1 s1 r1 => ⟨s1, r1⟩⟩) fun us s1 ⟨vs, H1, I1, rv, sm, rp⟩ => ?_) n1' n2') (by decide +kernel) (by decide +kernel))
  rw [af] at rp
  obtain ⟨v1, vr, rfl, rp1, rp2⟩ := rp
  obtain ⟨v2, rfl, rp3⟩ := rp2.only
  obtain ⟨ta, xs, rfl, hq, rl, hk1⟩ := gW rp1
  obtain ⟨tb, ys, rfl, hr, rm, hk2⟩ := gW rp3
  obtain ⟨u1, u2, rfl, ru1, ru2⟩ := lX rv
  cases (show u1 = Value.ref ta from ru1)
  cases (show u2 = Value.ref tb from ru2)
  obtain ⟨its, rvs, pt, hz⟩ := kA I1 hq
  obtain ⟨jts, rvs', pt', hz'⟩ := kA I1 hr
  refine wP (κ := κ) (κ' := κ') pt pt' fun h2 Z k2 => ?_
  refine wpAny_pyIter_zip Z.rd ?_
  have I2 : aj X pins σ H1 { s1 with heap := h2 } := I1.kept (t' := s1.toks) k2
  have fr : ∀ j, eS X pins H1 (s1.heap.objs.size + j) := fun j => I1.fpOk (Nat.le_add_right _ _) (I1.hok.fresh (Nat.le_add_right _ _))
  refine ⟨s1.heap.objs.size + 4, [s1.heap.objs.size + 4, s1.heap.objs.size + 2, s1.heap.objs.size + 3, s1.heap.objs.size, s1.heap.objs.size + 1], _, _, H1, rfl, I2, vf κ κ' ta tb _ _ _ _ _ Z.ap, ⟨Z.rd, Z.ins, Z.out, Z.fst.1, Z.snd.1⟩, fun c hc => ?_, q _ H1 sm ?_⟩
  . simp only [List.mem_cons, List.not_mem_nil, or_false] at hc
    rcases hc with rfl | rfl | rfl | rfl | rfl
    . exact fr 4
    . exact fr 2
    . exact fr 3
    . exact fr 0
    . exact fr 1
  . intro i H2 st
    have rl' : af X.K H1 (Kd ow H k H1) l xs := rl.flat _ hf
    have rm' : af X.K H1 (Kd ow H k H1) m ys := rm.flat _ hm
    refine ⟨fun d hd => ?_, fun hle => ?_⟩
    . rw [List.getElem?_zipWith] at hd
      cases e : l[i]? with
      | none => rw [e] at hd; cases hd
      | some x =>
        cases e' : m[i]? with
        | none => rw [e, e'] at hd; cases hd
        | some y =>
          rw [e, e'] at hd; cases hd
          obtain ⟨u, hu, ru⟩ := rl'.get e
          obtain ⟨v, hv, rv⟩ := rm'.get e'
          refine ⟨⟨xs, ys, u, v, hk1 st, hu, hk2 st, hv⟩, fun x' H3 ⟨p', u', v', e1, e2, e3, e4, e5⟩ => ?_⟩
          have c1 := e4 xs (hk1 st)
          have c2 := e5 ys (hk2 st)
          rw [hu] at c1; cases c1
          rw [hv] at c2; cases c2
          subst e1 e3
          have sm3 := cf (o := HO.tup [u, v]) e2
          refine ⟨sm3, ?_⟩
          rw [ag]
          exact ⟨p', _, rfl, bW.of aL, af.cons ((ru.mono st).same sm3) (af.one ((rv.mono st).same sm3))⟩
    . rw [List.length_zipWith] at hle
      have l1 := rl.length
      have l2 := rm.length
      exact ⟨xs, ys, hk1 st, hk2 st, by omega⟩
theorem sL {x : D} {l : List D} (h : d7 x = some l) : ∃ κ, x = ji κ l := by
  rcases eh h with rfl | rfl
  . exact ⟨true, rfl⟩
  . exact ⟨false, rfl⟩
theorem A9 : iW "zip" xM := by
  refine ⟨by decide +kernel, fun X ρ p pos args ds k d j l tg o hc hg hm ha hst hlen h hp hl ht => ?_⟩
  have ht2 : gb tg = true := by simpa [ee] using ht
  obtain ⟨es, n1, tp, rfl⟩ := oO ht2
  unfold xM at h
  split at h
  . cases h
    cases hl
    match args, hlen, ha, hst with
    | [a', b'], _, ha, hst => exact DE hg hm ha hst hp.1 hp.2.1
  . split at h
    . rename_i x y _ a b e1 e2
      cases h
      cases hl
      obtain ⟨κ, rfl⟩ := sL e1
      obtain ⟨κ', rfl⟩ := sL e2
      match args, hlen, ha, hst with
      | [a', b'], _, ha, hst => exact A6 hg hm ha hst hp.1 hp.2.1
    . cases h
  . cases h
end Sp
namespace Sp
open PySem PySem.Spec PyProof.Rows L2
open AutoSeq1 (wpAny_loadPart')
variable {X : Cx}
theorem Br (tu : Addr) (vs : Array Value) (n : Nat) (dc : Option Addr) (so : Array (Option Value)) :
    Meets (Builtin.«enumerate.__new__» ⟨[.type "enumerate", .ref tu], []⟩) (fun _ R st => st.heap.get? tu = some { cls := .type "list", dict := dc, data := .seq vs n, slots := so } /\
      R (.ok (.ret (.ref (st.heap.push { cls := .type "list_iterator", data := .fields #[.ref tu, .int 0 0] }).objs.size)))
        { st with heap := (st.heap.push { cls := .type "list_iterator", data := .fields #[.ref tu, .int 0 0] }).push { cls := .type "enumerate", data := .fields #[.none, .bool false, .ref st.heap.objs.size, rawInt 0, .none, .none] } }) :=
  .of_wp fun pg wd AA RR st hh => by
    obtain ⟨hp0, gg, dd, tk0, oo⟩ := st; obtain ⟨htu, hh⟩ := hh
    have hsub0 := sub_enumerate
    have hTT : Heap.IsList (Shared.heap ⟨hp0, gg, dd, tk0, oo⟩) tu vs := ⟨_, htu, rfl, n, rfl⟩
    wp_walk using wpAny_loadPart' htu
    refine wpAny_stack_any fun stk0 => wpAny_pure ?_
    split
    . rename_i c0 _ _ _ _ _
      cases (c0 == Value.type "enumerate")
      . wp_walk using wpAny_loadPart' htu, wpAny_pyIter_list hTT
        exact ⟨_, rfl, hh⟩
      . wp_walk using wpAny_loadPart' htu, wpAny_pyIter_list hTT
        exact ⟨_, rfl, hh⟩
    . wp_walk using wpAny_loadPart' htu, wpAny_pyIter_list hTT
      exact ⟨_, rfl, hh⟩
section
variable {prog : Program} {w : World} {A : Around} {E : Value -> Shared -> Prop} {s : Shared}
theorem x5 {tu : Addr} {vs : Array Value} {Q : Value -> Shared -> Prop} (hT : s.heap.IsList tu vs)
    (go : ∀ h1, IsEnum h1 (s.heap.objs.size + 1) s.heap.objs.size 0 .none -> h1.IsListIter s.heap.objs.size tu 0 -> h1.objs.size = s.heap.objs.size + 2 -> (∀ b o, s.heap.get? b = some o -> h1.get? b = some o) -> Q (.ref (s.heap.objs.size + 1)) { s with heap := h1 }) :
    wpAny (model prog w) A (call (.type "enumerate") [.ref tu]) Q E s := by
  obtain ⟨⟨cc, dc, dt, so⟩, htu, hcc, n, hdd⟩ := hT
  replace hcc : cc = .type "list" := hcc
  replace hdd : dt = .seq vs n := hdd
  subst hcc hdd
  refine callType_new F.called_enumerate (by decide) (F.typeCall_enumerate_1 _) (F.newCall_enumerate_1 _) (fun ob => F.args_object_init_2 ob _) F.entry_enumerate_new (Br tu vs n dc so) ⟨htu, ?_⟩
  have sz : (s.heap.push { cls := .type "list_iterator", data := .fields #[.ref tu, .int 0 0] }).objs.size = s.heap.objs.size + 1 := Heap.size_push ..
  show _ /\ _
  rw [sz]
  have isE : IsEnum ((s.heap.push { cls := .type "list_iterator", data := .fields #[.ref tu, .int 0 0] }).push { cls := .type "enumerate", data := .fields #[.none, .bool false, .ref s.heap.objs.size, rawInt 0, .none, .none] }) (s.heap.objs.size + 1) s.heap.objs.size 0 .none := by
    have q := Heap.get?_push_size (s.heap.push { cls := .type "list_iterator", data := .fields #[.ref tu, .int 0 0] }) (o := { cls := .type "enumerate", data := .fields #[.none, .bool false, .ref s.heap.objs.size, rawInt 0, .none, .none] }) rfl
    rw [sz] at q; exact q
  refine ⟨⟨_, isE, rfl⟩, go _ isE ⟨_, Heap.get?_push_of_some _ (Heap.get?_push_size _ rfl), rfl, rfl⟩ (by rw [Heap.size_push, sz]) fun b o z => Heap.get?_push_of_some _ (Heap.get?_push_of_some _ z)⟩
theorem xZ {e it tu : Addr} {i : Nat} {vs : Array Value} {x old : Value} {Q : Option Value -> Shared -> Prop} (isE : IsEnum s.heap e it i old) (hIt : s.heap.IsListIter it tu i) (hT : s.heap.IsList tu vs) (hx : vs[i]? = some x) (hne : e ≠ it)
    (go : ∀ h1, IsEnumOut h1 e it ((i : Int) + 1) x s.heap.objs.size -> h1.IsListIter it tu (i + 1) -> h1.get? s.heap.objs.size = some { cls := .type "tuple", data := .seq #[.int i s.toks, x] } -> (∀ b o, b ≠ e -> b ≠ it -> s.heap.get? b = some o -> h1.get? b = some o) -> Q (some (.ref s.heap.objs.size)) { s with heap := h1, toks := s.toks + 1 }) :
    wpAny (model prog w) A (pyNext (.ref e)) Q E s := by
  have tyE : s.TypeIs (.ref e) "enumerate" := ⟨_, isE, rfl⟩
  unfold pyNext
  refine wpAny_bind (wpAny_attempt (wpAny_callSpecial?_slot (name := Str.ofString "__next__") tyE F.slot_enumerate_next (wpAny_call_entry F.slot_enumerate_next tyE F.entry_enumerate_next ?_ (F.args_enumerate_next_1 _))))
  exact tN (Kn := fun h1 => h1.IsListIter it tu (i + 1)) isE hne (fun h1 h2 k hk => k.at hk) (fun Q1 q1 => wpAny_nextOf_list_item hIt hT hx q1) fun h1 a b c d => wpAny_pure (go h1 a b c d)
theorem Bt {e it tu : Addr} {i : Nat} {vs : Array Value} {old : Value} {Q : Option Value -> Shared -> Prop} (hh : A.handled = none) (isE : IsEnum s.heap e it i old) (hIt : s.heap.IsListIter it tu i) (hT : s.heap.IsList tu vs) (hx : vs[i]? = none)
    (go : ∀ h1, Heap.ExtBut it s.heap h1 -> Q none { s with heap := h1 }) : wpAny (model prog w) A (pyNext (.ref e)) Q E s := by
  have tyE : s.TypeIs (.ref e) "enumerate" := ⟨_, isE, rfl⟩
  unfold pyNext
  refine wpAny_bind (wpAny_attempt (wpAny_callSpecial?_slot (name := Str.ofString "__next__") tyE F.slot_enumerate_next (wpAny_call_entry F.slot_enumerate_next tyE F.entry_enumerate_next ?_ (F.args_enumerate_next_1 _))))
  show wpAny _ _ (field (.ref e) 2 >>= _) _ _ _
  refine wpAny_bind (wpAny_field isE rfl (x := Value.ref it) rfl (wpAny_bind (wpAny_nextOf_list_end hh hIt hT hx fun h1 xx eb hx' => ?_)))
  obtain ⟨o, ho, hc⟩ := hx'
  exact wpAny_bind (wpAny_isInstance (T := "StopIteration") (b := true) ⟨o, ho, hc⟩ isSubtype_stop (wpAny_pure (go _ eb)))
end
def MD (K : W.Frag) (a : Addr) : It :=
  ⟨fun i H => ∃ xs x, bS K H a xs /\ xs[i]? = some x, fun i H x H' => ∃ p v, x = .ref p /\ H p = none /\ H' = aU H p (.tup [.int (i : Nat), v]) /\ ∀ xs, bS K H a xs -> xs[i]? = some v, fun i H => ∃ xs, bS K H a xs /\ xs.length <= i⟩
theorem tY {P : Program} {w : World} {K : W.Frag} {es : List Expr} {n1 : Nat} {pos : Pos} (a e it : Addr) (hne : e ≠ it) :
    L2.Turn P w K (.Tuple es n1 pos) (MD K a) [e, it] e (fun i h => (∃ old, IsEnum h e it ((i : Nat) : Int) old) /\ h.IsListIter it a i) where
  mem := by simp
  obj := fun i h st b hb => by
    obtain ⟨⟨old, q⟩, o, q2, c, d⟩ := st
    rcases List.mem_cons.mp hb with rfl | hb
    . exact ⟨_, q, fun v z => by have z' : Data.fields _ = Data.cell v := z; cases z'⟩
    . have eb : b = it := by simpa using hb
      subst eb
      exact ⟨o, q2, fun v z => by rw [d] at z; cases z⟩
  keep := fun i h h' st k => ⟨let ⟨old, q⟩ := st.1; ⟨old, k e (by simp) _ q⟩, st.2.at fun o q => k it (by simp) o q⟩
  item := by
    intro Y hP hw hK hc i pins s σ H E I hf st hg
    subst hP hw hK
    obtain ⟨xs, x, hq, hx⟩ := hg
    obtain ⟨its, rv, p, hz⟩ := I.list hq
    obtain ⟨u, hu, ru⟩ := rv.get hx
    obtain ⟨⟨old, isE⟩, hIt⟩ := st
    refine xZ isE hIt (show s.heap.IsList a its.toArray from p.isList) (x := u) (by simpa using hu) hne fun h1 eo it1 t1 k1 => ?_
    refine ⟨_, rfl, wpAny_letOwnedTupleGo_enum eo fun h2 e2 sb2 => ?_⟩
    have sb2' : Heap.SameBut e h1 h2 := sb2
    have elt : e < s.heap.objs.size := Heap.lt_size isE
    have k2 : ∀ b o, b ∉ [e, it] -> s.heap.get? b = some o -> h2.get? b = some o := fun b o nb q => by
      have n1 : b ≠ e := fun z => nb (by simp [z])
      have n2 : b ≠ it := fun z => nb (by simp [z])
      exact sb2'.extBut b o n1 (k1 b o n1 n2 q)
    have t2 : h2.get? s.heap.objs.size = some { cls := .type "tuple", data := .seq #[.int i s.toks, u] } := sb2'.extBut _ _ (Nat.ne_of_gt elt) t1
    have hn0 : H s.heap.objs.size = none := I.hok.fresh (Nat.le_refl _)
    refine ⟨.ref s.heap.objs.size, aU H s.heap.objs.size (.tup [.int (i : Nat), x]), gG (s := s) (h2 := h2) (t2 := s.toks + 1) I k2 (Nat.le_refl _) hf ?_, rfl, ⟨_, x, rfl, hn0, rfl, fun ys hy => by rw [I.list_inj hy hq]; exact hx⟩, ⟨⟨u, ?_⟩, it1.at fun o q => sb2'.extBut it o (Ne.symm hne) q⟩, fun b hb => ?_⟩
    . exact ⟨by show 2 <= sizeLine; decide, [.int i s.toks, u], .cons ⟨_, rfl⟩ (.cons ru .nil), ⟨_, t2, rfl, _, rfl⟩⟩
    . have q := e2
      rw [show ((i : Nat) : Int) + 1 = ((i + 1 : Nat) : Int) by omega] at q
      exact q
    . have hb' := hf b hb
      have lt : b < s.heap.objs.size := by
        rcases List.mem_cons.mp hb with rfl | hb
        . exact elt
        . have eb : b = it := by simpa using hb
          subst eb
          obtain ⟨o, q, _⟩ := hIt
          exact Heap.lt_size q
      rw [aC (Nat.ne_of_lt lt)]; exact hb'.1
  done := by
    intro Y hP hw hK hc i pins s σ H E I hf st hg
    subst hP hw hK
    obtain ⟨xs, hq, hx⟩ := hg
    obtain ⟨its, rv, p, hz⟩ := I.list hq
    obtain ⟨⟨old, isE⟩, hIt⟩ := st
    obtain ⟨f0, f1, f2, f3, f4, f5⟩ := hf it (by simp)
    have hl := rv.length
    exact Bt (I.ok.hd hc) isE hIt (show s.heap.IsList a its.toArray from p.isList) (by simp; omega) fun h1 eb => ⟨rfl, I.turned (t' := s.toks) (fun b o hb q => eb b o hb q) f0 f1 f3 f4 f5⟩
  self := fun _ _ _ _ _ st h => let ⟨old, q⟩ := st.1; wpAny_pyIter_enum q h
theorem xL {ρ : ai} {es : List Expr} {n1 : Nat} {tp p pos : Pos} {a : Expr} {l : List D} {k : Nat} (hg : Gl X "enumerate") (hm0 : X.mg "enumerate" = none) (ha : AD X ρ [a] [.lst l] k) (hst : ∀ y p, a ≠ .Starred y p) (hf : ao l = true) :
    IE X ρ (.Tuple es n1 tp) (.Call (.Name "enumerate" p) [a] [] pos) (l.mapIdx fun i x => .tup [.int (i : Nat), x]) k := by
  intro ow pins s σ H R I ⟨E, q⟩
  refine Call_ (db I hg hm0 (show bootBuiltins "enumerate" = some (.type "enumerate") by decide +kernel) (PyProof.Rows.callWith_type1 (aM (ha ow pos pins s σ H (fun vs H1 => ay H H1 /\ af X.K H1 (Kp ow H k) [.lst l] vs) I ⟨E, fun vs H1 s1 r1 => ⟨s1, r1⟩⟩) fun us s1 ⟨vs, H1, I1, rv, sm, rp⟩ => ?_) (aV hst) rfl) (by decide +kernel) (by decide +kernel))
  obtain ⟨v, rfl, rv1⟩ := rp.only
  obtain ⟨ta, xs, rfl, hq, rl, hk1⟩ := gW (κ := false) rv1
  replace hq : bS X.K H1 ta xs := hq
  obtain ⟨u, rfl, ru⟩ := dl rv
  cases (show u = Value.ref ta from ru)
  obtain ⟨its, rvs, pt, hz⟩ := I1.list hq
  refine x5 (show s1.heap.IsList ta its.toArray from pt.isList) fun h2 isE hIt sz k2 => ?_
  refine wpAny_pyIter_enum isE ?_
  have I2 : aj X pins σ H1 { s1 with heap := h2 } := I1.kept (t' := s1.toks) k2
  have f0 : H1 s1.heap.objs.size = none := I1.hok.fresh (Nat.le_refl _)
  have f1 : H1 (s1.heap.objs.size + 1) = none := I1.hok.fresh (Nat.le_succ _)
  refine ⟨s1.heap.objs.size + 1, [s1.heap.objs.size + 1, s1.heap.objs.size], _, _, H1, rfl, I2, tY ta _ _ (Nat.ne_of_gt (Nat.lt_succ_self _)), ⟨⟨_, isE⟩, hIt⟩, fun b hb => ?_, q _ H1 sm ?_⟩
  . rcases List.mem_cons.mp hb with rfl | hb
    . exact I1.fpOk (Nat.le_succ _) f1
    . have eb : b = s1.heap.objs.size := by simpa using hb
      subst eb
      exact I1.fpOk (Nat.le_refl _) f0
  . intro i H2 st
    have rl' : af X.K H1 (Kd ow H k H1) l xs := rl.flat _ hf
    refine ⟨fun d hd => ?_, fun hle => ?_⟩
    . rw [List.getElem?_mapIdx] at hd
      cases e : l[i]? with
      | none => rw [e] at hd; cases hd
      | some x =>
        rw [e] at hd; cases hd
        obtain ⟨y, hy, ry⟩ := rl'.get e
        refine ⟨⟨xs, y, hk1 st, hy⟩, fun x' H3 ⟨p', v', e1, e2, e3, e4⟩ => ?_⟩
        have hv := e4 xs (hk1 st)
        rw [hy] at hv; cases hv
        subst e1 e3
        have sm3 := cf (o := HO.tup [.int (i : Nat), y]) e2
        refine ⟨sm3, ?_⟩
        rw [ag]
        exact ⟨p', _, rfl, bW.of aL, af.cons (by rw [ag]) (af.one ((ry.mono st).same sm3))⟩
    . rw [List.length_mapIdx] at hle
      exact ⟨xs, hk1 st, by rw [<- rl.length]; exact hle⟩
theorem xO : iW "enumerate" uD := by
  refine ⟨by decide +kernel, fun X ρ p pos args ds k d j l tg o hc hg hm ha hst hlen h hp hl ht => ?_⟩
  unfold uD at h
  have ht2 : gb tg = true := by simpa [ee] using ht
  obtain ⟨es, n1, tp, rfl⟩ := oO ht2
  split at h
  . cases h
    cases hl
    match args, hlen, ha, hst with
    | [a'], _, ha, hst => rw [kF]; simp only [Nat.zero_add]; exact A8 hg hm ha (hst a' List.mem_cons_self) hp.1
  . cases h
    cases hl
    match args, hlen, ha, hst with
    | [a'], _, ha, hst => rw [kF]; simp only [Nat.zero_add]; exact xL hg hm ha (hst a' List.mem_cons_self) hp.1
  . cases h
end Sp
namespace Sp
open PySem PySem.Spec PyProof.Rows L2
open PySem.W (KasT kas_sort kas_ask KatLex KatTups kat_sorted kat_kind kat_lt kat_cons kat_nil kat_go kat_yes kat_no kat_one KasFin)
def xH {α : Type} (f : Nat -> Nat -> Bool) : KasT α -> α
  | .ret a => a
  | .ask i j k => xH f (k (f i j))
def ze {α : Type} (f : Nat -> Nat -> Bool) (n : Nat) : KasT α -> Bool
  | .ret _ => true
  | .ask i j k => (decide (i < n) && decide (j < n)) && ze f n (k (f i j))
theorem tE {α : Type} {cmp : Nat -> Nat -> (Bool -> Shared -> Prop) -> Shared -> Prop} {f : Nat -> Nat -> Bool} {n : Nat} {s : Shared} (h : ∀ i j C, i < n -> j < n -> C (f i j) s -> cmp i j C s) : ∀ (t : KasT α) {Q : α -> Shared -> Prop}, ze f n t = true -> Q (xH f t) s -> t.kasWp cmp Q s
  | .ret a, Q, _, q => q
  | .ask i j k, Q, o, q => by
    rw [ze, Bool.and_eq_true, Bool.and_eq_true, decide_eq_true_eq, decide_eq_true_eq] at o
    exact h i j _ o.1.1 o.1.2 (tE h (k (f i j)) o.2 q)
def ni (h : Heap) (L : Addr) : List (Addr × Obj) := (List.range h.objs.size).filterMap fun b => if b = L then none else (h.get? b).map fun o => (b, o)
theorem fN {h : Heap} {L b : Addr} {o : Obj} : (b, o) ∈ ni h L ↔ b ≠ L /\ h.get? b = some o := by
  unfold ni
  rw [List.mem_filterMap]
  constructor
  . rintro ⟨c, hc, e⟩
    split at e
    . cases e
    . rename_i hn
      cases q : h.get? c with
      | none => rw [q] at e; cases e
      | some u => rw [q] at e; cases e; exact ⟨hn, q⟩
  . rintro ⟨hn, e⟩
    exact ⟨b, List.mem_range.mpr (Heap.lt_size e), by rw [if_neg hn, e]; rfl⟩
def lx (fin : Bool) : List Int -> List Int -> Bool
  | x :: xs, y :: ys => if x = y then lx fin xs ys else decide (x < y)
  | _, _ => fin
theorem vJ : ∀ xs ys : List Int, lx (decide (xs.length < ys.length)) xs ys = HT.lexLt xs ys
  | [], [] => rfl
  | [], _ :: _ => rfl
  | _ :: _, [] => rfl
  | x :: xs, y :: ys => by
    rw [HT.lexLt_cons, lx]
    have : decide ((x :: xs).length < (y :: ys).length) = decide (xs.length < ys.length) := by simp
    rw [this, vJ xs ys]
section
variable {prog : Program} {w : World} {A : Around} {E : Value -> Shared -> Prop} {s : Shared}
theorem um {b : Bool} {x y : Int} {t u : Tok} {Q : Bool -> Shared -> Prop} (h : Q (decide (x < y)) s) : wpAny (model prog w) A (oneLt' b (.int x t) (.int y u)) Q E s := by
  cases b with
  | true => exact oneLt_int h
  | false => exact kat_one _ _ (lt_int h)
theorem qF {b fin : Bool} {Q : Bool -> Shared -> Prop} : ∀ (xs ys : List Int) (us vs : List Value) (i : Nat), aF (xs.map V.int) us -> aF (ys.map V.int) vs -> Q (lx fin xs ys) s -> KatLex prog w A b fin Q (us.zip vs) i s
  | [], ys, us, vs, i, r1, r2, q => by
    cases r1
    exact kat_nil (by cases ys <;> exact q)
  | x :: xs, [], us, vs, i, r1, r2, q => by
    cases r2
    rw [List.zip_nil_right]
    exact kat_nil q
  | x :: xs, y :: ys, us, vs, i, r1, r2, q => by
    cases r1 with
    | cons a1 b1 =>
      cases r2 with
      | cons a2 b2 =>
        obtain ⟨t, rfl⟩ := a1
        obtain ⟨u, rfl⟩ := a2
        refine kat_cons (wpAny_eqBool_int ?_)
        refine kat_go (fun e => kat_yes ?_) fun e => kat_no ?_
        . have e : x = y := by simpa using e
          refine qF xs ys _ _ (i + 1) b1 b2 ?_
          rw [lx, if_pos e] at q; exact q
        . have e : x ≠ y := by simpa using e
          rw [lx, if_neg e] at q
          exact um q
end
def fQ (K : W.Frag) (H : Hp) : List V -> List (List Int) -> Prop
  | [], [] => True
  | v :: vs, ns :: r => (∃ a, v = .ref a /\ bW K H a (ns.map V.int) /\ ns ≠ []) /\ fQ K H vs r
  | _, _ => False
theorem fQ.length {K : W.Frag} {H : Hp} : ∀ {vs : List V} {r : List (List Int)}, fQ K H vs r -> vs.length = r.length
  | [], [], _ => rfl
  | v :: vs, ns :: r, h => by rw [List.length_cons, List.length_cons, h.2.length]
  | [], _ :: _, h => h.elim
  | _ :: _, [], h => h.elim
theorem fQ.get {K : W.Frag} {H : Hp} : ∀ {vs : List V} {r : List (List Int)} {i : Nat}, fQ K H vs r -> i < vs.length -> ∃ a, vs[i]? = some (.ref a) /\ bW K H a ((r.getD i []).map V.int) /\ r.getD i [] ≠ []
  | [], _, _, _, h => by cases h
  | v :: vs, [], _, h, _ => h.elim
  | v :: vs, ns :: r, 0, h, _ => by
    obtain ⟨a, e, h1, h2⟩ := h.1
    exact ⟨a, by rw [e]; rfl, h1, h2⟩
  | v :: vs, ns :: r, i + 1, h, hi => by
    obtain ⟨a, h1, h2, h3⟩ := fQ.get (i := i) h.2 (by simpa using hi)
    exact ⟨a, by simpa using h1, by simpa using h2, by simpa using h3⟩
def iw (nss : List (List Int)) : List Nat := (xH (fun i j => HT.lexLt (nss.getD i []) (nss.getD j [])) (kas_sort nss.length)).toList
def yV (nss : List (List Int)) : Bool := ze (fun i j => HT.lexLt (nss.getD i []) (nss.getD j [])) nss.length (kas_sort nss.length)
variable {X : Cx}
theorem vW {pins : List (Addr × Obj)} {σ : L2.St} {H : Hp} {s : Shared} {h' : Heap} (I : aj X pins σ H s) (k : ∀ b o, b ≠ X.env.locals -> s.heap.get? b = some o -> h'.get? b = some o) : ∀ {ts : List V} {nss : List (List Int)} {its : List Value}, fQ X.K H ts nss -> aF ts its -> ∃ fs, KatTups h' its fs /\ fs.length = its.length /\ ∀ v ∈ fs, ∃ n t, v = Value.int n t
  | [], [], its, h, r => by cases r; exact ⟨[], trivial, rfl, fun v hv => by cases hv⟩
  | v :: ts, ns :: nss, its, h, r => by
    cases r with
    | cons r1 r2 =>
      obtain ⟨fs, h1, h2, h3⟩ := vW I k h.2 r2
      obtain ⟨a, rfl, hq, hn⟩ := h.1
      cases r1
      obtain ⟨jts, rv, pt, hz⟩ := I.tuple hq
      cases ns with
      | nil => exact absurd rfl hn
      | cons n ns =>
        cases rv with
        | cons q1 q2 =>
          obtain ⟨t, rfl⟩ := q1
          obtain ⟨o, ho, hc, m, hd⟩ := pt
          have hL : a ≠ X.env.locals := by
            intro z; subst z
            obtain ⟨mm, ⟨o2, es, ep, e2, d2, _⟩, _⟩ := I.loc
            rw [ho] at e2; cases e2
            rw [hd] at d2; cases d2
          exact ⟨.int n t :: fs, W.KatTups.cons (k a o hL ho) hc hd rfl h1, by rw [List.length_cons, List.length_cons, h2], fun v hv => by
            rcases List.mem_cons.mp hv with rfl | hv
            . exact ⟨n, t, rfl⟩
            . exact h3 v hv⟩
  | [], _ :: _, _, h, _ => h.elim
  | _ :: _, [], _, h, _ => h.elim
theorem ox {ts : List V} {its : List Value} (rv : aF ts its) : ∀ (l : List Nat), (∀ i ∈ l, i < ts.length) -> aF (l.map fun i => ts.getD i .non) (l.map fun i => its.getD i .none)
  | [], _ => .nil
  | i :: l, h => by
    have hi := h i List.mem_cons_self
    obtain ⟨u, e, r⟩ := rv.get (i := i) (x := ts[i]) (by simp)
    refine .cons ?_ (ox rv l fun j hj => h j (List.mem_cons_of_mem _ hj))
    show aP (ts.getD i .non) (its.getD i .none)
    rw [List.getD_eq_getElem?_getD, List.getD_eq_getElem?_getD, e, List.getElem?_eq_getElem hi]
    exact r
theorem AI {P : Program} {w : World} {H : Hp} {h : Heap} {a : Addr} {o : HO} (x : bA P w H h a o) : ∃ ob, h.get? a = some ob := by
  cases o with
  | lst xs => obtain ⟨_, _, _, _, e⟩ := x; exact ⟨_, e⟩
  | tup xs => obtain ⟨_, _, _, o, e, _⟩ := x; exact ⟨_, e⟩
  | dK kvs => obtain ⟨_, _, _, _, o, _, _, e, _⟩ := x; exact ⟨_, e⟩
  | dT kvs => obtain ⟨_, _, _, _, o, _, _, e, _⟩ := x; exact ⟨_, e⟩
  | set S n => obtain ⟨o, _, _, _, e, _⟩ := x; exact ⟨_, e⟩
  | ins C dx fs => obtain ⟨_, _, _, e, _⟩ := x; exact ⟨_, e⟩
  | own y => obtain ⟨_, e⟩ := x; exact ⟨_, e⟩
  | xd fs => obtain ⟨_, ⟨_, _, _, e, _⟩, _⟩ := x; exact ⟨_, e⟩
  | rng lo hi => obtain ⟨_, _, _, e⟩ := x; exact ⟨_, e⟩
  | frz ob u => obtain ⟨e, _⟩ := x; exact ⟨_, e⟩
  | tbl ps => exact ⟨_, (show h.get? a = some _ from x)⟩
  | met f y => exact ⟨_, (show h.get? a = some _ from x)⟩
  | ext φ => obtain ⟨_, ⟨_, e⟩, _⟩ := x; exact ⟨_, e⟩
theorem rA : dy X (.builtin "sorted") (fun xs H Q => ∃ (p : Addr) (ts : List V) (nss : List (List Int)), xs = [.ref p] /\ bS X.K H p ts /\ fQ X.K H ts nss /\ 2 <= ts.length /\ ts.length < 64 /\ yV nss = true /\ ((iw nss).length <= 64 /\ ∀ i ∈ iw nss, i < ts.length) /\ ∀ D, H D = none -> Q (.ref D) (aU H D (.lst ((iw nss).map fun i => ts.getD i .non)))) := by
  intro pins s σ H xs us Q I r h
  obtain ⟨p, ts, nss, rfl, hq, ht, h2, h64, hok, ⟨hlen, hin⟩, q⟩ := h
  obtain ⟨u, rfl, rx⟩ := dl r
  cases rx
  obtain ⟨its, rv, pl, hz⟩ := I.list hq
  obtain ⟨m, hm, hlk⟩ := id I.loc
  have el : its.length = ts.length := rv.length.symm
  have en : its.length = nss.length := by rw [el, ht.length]
  have keyL : ∀ {a : Addr} {o : Obj} {vs : Array Value} {n : Nat}, s.heap.get? a = some o -> o.data = .seq vs n -> a ≠ X.env.locals := fun {a o vs n} ho hd z => by
    subst z
    obtain ⟨o2, es, ep, e2, d2, _⟩ := hm
    rw [ho] at e2; cases e2
    rw [hd] at d2; cases d2
  refine kat_sorted (h₀ := { objs := #[] }) (L := X.env.locals) (m := m) (news := ni s.heap X.env.locals) ⟨hm, fun b o e => by have := Heap.lt_size e; exact absurd this (Nat.not_lt_zero _), Nat.zero_le _⟩ (fun x hx => ?_) pl.isList (by omega) (by omega) fun D e1 h' F' N' hD => ?_
  . obtain ⟨b, o⟩ := x
    obtain ⟨h1, h3⟩ := fN.mp hx
    refine ⟨h3, h1, ?_⟩
    cases e : ({ objs := #[] } : Heap).get? b with
    | none => rfl
    | some o => have := Heap.lt_size e; exact absurd this (Nat.not_lt_zero _)
  have kp : ∀ b o, b ≠ X.env.locals -> s.heap.get? b = some o -> h'.get? b = some o := fun b o hb e => (N' (b, o) (List.mem_cons_of_mem _ (fN.mpr ⟨hb, e⟩))).1
  have hDL : D ≠ X.env.locals := (N' _ List.mem_cons_self).2.1
  have hDn : s.heap.get? D = none := by
    cases e : s.heap.get? D with
    | none => rfl
    | some o => exact absurd (hD (D, o) (fN.mpr ⟨hDL, e⟩)) (Nat.lt_irrefl _)
  have HD : H D = none := by
    cases e : H D with
    | none => rfl
    | some u =>
      obtain ⟨o, ho⟩ := AI (I.hok D u e)
      rw [ho] at hDn; cases hDn
  obtain ⟨fs, k1, k2, k3⟩ := vW I kp ht rv
  refine kat_kind (T := .type "int") k1 (by omega) (fun v hv => ?_) rfl ?_
  . obtain ⟨n, t, rfl⟩ := k3 v hv
    exact W.Looks.of_pure rfl
  rw [en]
  refine tE (f := fun i j => HT.lexLt (nss.getD i []) (nss.getD j [])) (n := nss.length) (fun i j C hi hj hC => ?_) _ hok ?_
  . obtain ⟨a, g1, g2, g3⟩ := ht.get (i := i) (by rw [ht.length]; exact hi)
    obtain ⟨b, f1, f2, f3⟩ := ht.get (i := j) (by rw [ht.length]; exact hj)
    obtain ⟨ua, ea, ra⟩ := rv.get g1
    obtain ⟨ub, eb, rb⟩ := rv.get f1
    cases ra
    cases rb
    obtain ⟨ja, va, ⟨oa, hoa, hca, na, hda⟩, _⟩ := I.tuple g2
    obtain ⟨jb, vb, ⟨ob, hob, hcb, nb, hdb⟩, _⟩ := I.tuple f2
    show wpAny _ _ (keyLt' _ (its.getD i Value.none) (its.getD j Value.none)) C _ _
    rw [List.getD_eq_getElem?_getD, List.getD_eq_getElem?_getD, ea, eb]
    refine kat_lt (kp a oa (keyL hoa hda) hoa) hda (kp b ob (keyL hob hdb) hob) hdb (qF _ _ _ _ 0 va vb ?_)
    have l1 := va.length
    have l2 := vb.length
    rw [List.length_map] at l1 l2
    rw [List.size_toArray, List.size_toArray, <- l1, <- l2, vJ]
    exact hC
  . refine ⟨_, fun o' => (D, o') :: ni s.heap X.env.locals, F', N', .head fun x hx z => ?_, fun h2 c F2 N2 => ?_⟩
    . have := hD x hx
      rw [z] at this; exact absurd this (Nat.lt_irrefl _)
    . have kp2 : ∀ b o, b ≠ X.env.locals -> s.heap.get? b = some o -> h2.get? b = some o := fun b o hb e => (N2 (b, o) (List.mem_cons_of_mem _ (fN.mpr ⟨hb, e⟩))).1
      have hD2 := (N2 _ List.mem_cons_self).1
      refine ⟨.ref D, aU H D (.lst ((iw nss).map fun i => ts.getD i .non)), aj.step (s := s) (h' := h2) (ch := []) (g' := s.gens) (d' := s.drawn) (t' := s.toks) I (fun b hb => by cases hb) (fun b o hb _ _ e _ => kp2 b o hb e) (fun b o hb _ _ e _ => ⟨o.slots, kp2 b o hb e⟩) (fun b o _ e hn => ?_) (fun b o _ e => ?_) (fun b xs e => ?_) (fun b o u e => ?_) (fun b ps e => ⟨#[], ?_⟩) (fun m' hm' => ?_) ?_ I.bare, rfl, q D HD⟩
      . rw [aC (by intro z; subst z; rw [hDn] at e; cases e)]; exact hn
      . by_cases hb : b = X.env.locals
        . subst hb
          obtain ⟨o2, _, _, e2, _⟩ := F2.ns
          exact ⟨o2, e2⟩
        . exact ⟨o, kp2 b o hb e⟩
      . rw [aC (aX e HD)]; exact e
      . rw [aC (aX e HD)]; exact e
      . rw [aC (aX e HD), e]; simp
      . have : m' = m := by
          obtain ⟨o2, es, ep, e2, d2, _, f2⟩ := hm
          obtain ⟨o3, es3, ep3, e3, d3, _, f3⟩ := hm'
          rw [e2] at e3; cases e3
          rw [d2] at d3; cases d3
          funext x
          rw [<- f2 x, <- f3 x]
        rw [this]; exact F2.ns
      . intro b u e
        by_cases hb : b = D
        . subst hb
          rw [aL] at e; cases e
          refine ⟨?_, (iw nss).map (fun i => its.getD i .none), c, ?_, hD2⟩
          . rw [List.length_map]; exact Nat.le_trans hlen (by decide)
          . exact ox rv _ fun i hi => hin i hi
        . rw [aC hb] at e
          refine (I.hok b u e).stay (fun c' v hc qv => kp2 c' v ?_ qv) (fun c' qc => by rw [aC (aX qc HD)]; exact qc) fun c' xs qc => by rw [aC (aX qc HD)]; exact qc
          intro z
          rcases hc with z2 | z2
          . rw [z2] at z; rw [z, I.free] at e; cases e
          . rw [z, I.free] at z2; cases z2
def lZ : List D -> Option (List (List Int))
  | [] => some []
  | .tup l :: r => (match de l, lZ r with
    | some (n :: ns), some q => some ((n :: ns) :: q)
    | _, _ => none)
  | _ => none
def og (ds : List D) : R1 :=
  match ds with
  | [.lst l] => (match lZ l with
    | some nss => .ok (.lst ((iw nss).map fun i => l.getD i .non), 0) [2 <= l.length, l.length < 64, yV nss = true, (iw nss).length <= 64, ((iw nss).all fun i => decide (i < l.length)) = true]
    | none => .st)
  | _ => .st
theorem pM {K : W.Frag} {P : aZ} {H : Hp} : ∀ {l : List D} {nss : List (List Int)} {ts : List V}, lZ l = some nss -> af K H P l ts -> fQ K H ts nss /\ ao l = true
  | [], nss, ts, h, r => by
    rw [lZ] at h; cases h
    rw [af] at r; subst r
    exact ⟨trivial, rfl⟩
  | d :: l, nss, ts, h, r => by
    rw [af] at r
    obtain ⟨v, vs, rfl, r1, r2⟩ := r
    cases d with
    | tup m =>
      rw [lZ] at h
      split at h
      . rename_i n ns q e1 e2
        cases h
        obtain ⟨h1, h2⟩ := pM e2 r2
        cases jy e1
        rw [ag] at r1
        obtain ⟨a, ws, rfl, hs, rl⟩ := r1
        refine ⟨⟨⟨a, rfl, by rw [<- rl.mapInt]; exact hs, by simp⟩, h1⟩, ?_⟩
        rw [ao, h2, D.lless]
        have : ∀ ns : List Int, ao (ns.map D.int) = true := by
          intro ns
          induction ns with
          | nil => rfl
          | cons n ns ih => rw [List.map_cons, ao, ih]; rfl
        rw [this]; rfl
      . cases h
    | _ => cases h
theorem oF {K : W.Frag} {P : aZ} {H : Hp} {l : List D} {vs : List V} (r : af K H P l vs) : ∀ (p : List Nat), (∀ i ∈ p, i < l.length) -> af K H P (p.map fun i => l.getD i .non) (p.map fun i => vs.getD i .non)
  | [], _ => af.nil
  | i :: p, h => by
    have hi := h i List.mem_cons_self
    obtain ⟨v, e, rv⟩ := r.get (i := i) (d := l[i]) (by simp)
    refine af.cons ?_ (oF r p fun j hj => h j (List.mem_cons_of_mem _ hj))
    show ag K H P (l.getD i .non) (vs.getD i .non)
    rw [List.getD_eq_getElem?_getD, List.getD_eq_getElem?_getD, e, List.getElem?_eq_getElem hi]
    exact rv
theorem uQ : dS "sorted" og := by
  refine ⟨by decide +kernel, by decide +kernel, by decide +kernel, rfl, fun X ds z l o hc h hp => .inl ⟨"sorted", by decide +kernel, ?_⟩⟩
  unfold og at h
  split at h
  . split at h
    . rename_i m _ nss e
      cases h
      obtain ⟨p1, p2, p3, p4, p5, _⟩ := hp
      refine ⟨_, rA, fun ow H0 H2 vs P Q o s rx q => ?_⟩
      obtain ⟨v, rfl, ry⟩ := rx.only
      obtain ⟨a, ws, rfl, hs, rl⟩ := gB ry
      obtain ⟨t1, t2⟩ := pM e rl
      have hl := rl.length
      have hin : ∀ i ∈ iw nss, i < m.length := fun i hi => of_decide_eq_true (List.all_eq_true.mp p5 i hi)
      refine ⟨a, ws, nss, rfl, hs, t1, by omega, by omega, p3, ⟨p4, fun i hi => by rw [<- hl]; exact hin i hi⟩, fun D hD => q _ _ (cf hD) ?_⟩
      rw [ag]
      exact ⟨D, _, true, rfl, aL, ⟨rfl, s.free hD⟩, oF ((rl.flat _ t2).same (cf hD)) _ hin⟩
    . cases h
  . cases h
end Sp
namespace Sp
open PySem PySem.Spec PyProof.Rows L2
theorem b0 {α : Type} {r : Rs α} {a : α} {l : List Prop} (h : r = .ok a l) (hp : aE l) : aa r a := ⟨l, h, hp⟩
theorem aa.eq {α : Type} {r : Rs α} {a b : α} (h : aa r a) (e : a = b) : aa r b := e ▸ h
theorem aa.bnd {α β : Type} {r : Rs α} {f : α -> Rs β} {a : α} {b : β} (h1 : aa r a) (h2 : aa (f a) b) : aa (r.bnd f) b := by
  obtain ⟨l, rfl, p1⟩ := h1
  obtain ⟨m, h2, p2⟩ := h2
  refine ⟨l ++ m, ?_, cX.mpr ⟨p1, p2⟩⟩
  show (match f a with | .st => (.st : Rs β) | .ok b m => Rs.ok b (l ++ m)) = _
  rw [h2]
theorem aa.inj {α : Type} {r : Rs α} {a b : α} (h : aa r a) (g : aa r b) : a = b := by
  obtain ⟨l, h, _⟩ := h; obtain ⟨m, g, _⟩ := g; rw [h] at g; cases g; rfl
section
variable {Φ : Fx} {sc : Scope} {ρ ρ' : ai} {fl : Fl} {ss : List Stmt}
theorem cS {ps : List Str} {body : List Stmt} {ds : List D} {d : D} (h : aa (az Φ body sc (ey ps ds)) (.rt d)) (hl : ds.length = ps.length := by rfl) : aa (bP Φ sc ps body ds) d := by
  unfold bP; rw [if_pos hl]; exact h.bnd ⟨[], rfl, True.intro⟩
theorem da : aa (az Φ [] sc ρ) (.nx ρ) := ⟨[], rfl, True.intro⟩
theorem cj {s : Stmt} (h : aa (dg Φ s sc ρ) (.nx ρ')) (h2 : aa (az Φ ss sc ρ') fl) : aa (az Φ (s :: ss) sc ρ) fl := aa.bnd h h2
theorem jh {s : Stmt} (h : aa (dg Φ s sc ρ) fl) (hf : ∀ ρ, fl ≠ .nx ρ) : aa (az Φ (s :: ss) sc ρ) fl := aa.bnd h (by
  cases fl with
  | nx ρ => exact absurd rfl (hf ρ)
  | rt d => exact ⟨[], rfl, True.intro⟩
  | bk ρ => exact ⟨[], rfl, True.intro⟩
  | ct ρ => exact ⟨[], rfl, True.intro⟩)
theorem iu {s : Stmt} {d : D} (h : aa (dg Φ s sc ρ) (.rt d)) : aa (az Φ (s :: ss) sc ρ) (.rt d) := jh h fun _ z => by cases z
theorem pV {s : Stmt} (h : aa (az Φ (s :: ss) sc ρ) fl) : (∃ ρ', aa (dg Φ s sc ρ) (.nx ρ') /\ aa (az Φ ss sc ρ') fl) \/ ((∀ ρ, fl ≠ .nx ρ) /\ aa (dg Φ s sc ρ) fl) := by
  obtain ⟨f, h1, h2⟩ := aq (show aa (Rs.bnd _ _) fl from h)
  cases f with
  | nx ρ' => exact .inl ⟨ρ', h1, h2⟩
  | rt d => cases aG h2; exact .inr ⟨fun _ z => (by cases z), h1⟩
  | bk ρ => cases aG h2; exact .inr ⟨fun _ z => (by cases z), h1⟩
  | ct ρ => cases aG h2; exact .inr ⟨fun _ z => (by cases z), h1⟩
theorem wu : ∀ {a : List Stmt} {ρ : ai}, aa (az Φ a sc ρ) (.nx ρ') -> aa (az Φ ss sc ρ') fl -> aa (az Φ (a ++ ss) sc ρ) fl
  | [], ρ, h, h2 => by cases aG h; exact h2
  | s :: a, ρ, h, h2 => by
    rcases pV h with ⟨ρ1, h3, h4⟩ | ⟨h3, _⟩
    . exact cj h3 (wu h4 h2)
    . exact absurd rfl (h3 _)
theorem oh : ∀ {a : List Stmt} {ρ : ai}, aa (az Φ (a ++ ss) sc ρ) fl -> (∃ ρ', aa (az Φ a sc ρ) (.nx ρ') /\ aa (az Φ ss sc ρ') fl) \/ ((∀ ρ, fl ≠ .nx ρ) /\ aa (az Φ a sc ρ) fl)
  | [], ρ, h => .inl ⟨ρ, da, h⟩
  | s :: a, ρ, h => by
    rcases pV h with ⟨ρ1, h3, h4⟩ | ⟨h3, h4⟩
    . rcases oh h4 with ⟨ρ2, h5, h6⟩ | ⟨h5, h6⟩
      . exact .inl ⟨ρ2, cj h3 h5, h6⟩
      . exact .inr ⟨h5, cj h3 h6⟩
    . exact .inr ⟨h3, jh h4 h3⟩
theorem bR (n : Nat) (h : aa (az Φ (ss.take n) sc ρ) (.nx ρ')) (h2 : aa (az Φ (ss.drop n) sc ρ') fl) : aa (az Φ ss sc ρ) fl := by
  rw [<- List.take_append_drop n ss]; exact wu h h2
theorem ph {c : Expr} {a b : List Stmt} {p : Pos} {t : Bool} {k : Nat} (hc : aa (au Φ c false sc ρ) (.bl t, k)) (h1 : t = true -> aa (az Φ (a ++ ss) sc ρ) fl) (h2 : t = false -> aa (az Φ (b ++ ss) sc ρ) fl) : aa (az Φ (.If c a b p :: ss) sc ρ) fl := by
  have key : ∀ x, aa (cond t (az Φ a sc ρ) (az Φ b sc ρ)) x -> aa (dg Φ (.If c a b p) sc ρ) x := fun x hx => aa.bnd hc hx
  cases t with
  | true =>
    rcases oh (h1 rfl) with ⟨ρ1, h3, h4⟩ | ⟨h3, h4⟩
    . exact cj (key _ h3) h4
    . exact jh (key _ h4) h3
  | false =>
    rcases oh (h2 rfl) with ⟨ρ1, h3, h4⟩ | ⟨h3, h4⟩
    . exact cj (key _ h3) h4
    . exact jh (key _ h4) h3
theorem pW {c : Expr} {a b : List Stmt} {p : Pos} {t : Bool} {k : Nat} (hc : aa (au Φ c false sc ρ) (.bl t, k)) (ht : t = true) (h1 : aa (az Φ (a ++ ss) sc ρ) fl) : aa (az Φ (.If c a b p :: ss) sc ρ) fl := ph hc (fun _ => h1) fun z => by rw [ht] at z; cases z
theorem cH {c : Expr} {a b : List Stmt} {p : Pos} {t : Bool} {k : Nat} (hc : aa (au Φ c false sc ρ) (.bl t, k)) (ht : t = false) (h1 : aa (az Φ (b ++ ss) sc ρ) fl) : aa (az Φ (.If c a b p :: ss) sc ρ) fl := ph hc (fun z => by rw [ht] at z; cases z) fun _ => h1
theorem qZ {tg it : Expr} {body : List Stmt} {p : Pos} {d : D} {ds : List D} {k : Nat} (hi : aa (au Φ it true sc (demote it ρ)) (d, k)) (hd : items d = some ds) (hk : k <= 1) (ht : ee it tg = true) (h : aa (dU (bN sc tg) (az Φ body sc) ds (demote it ρ)) fl) : aa (dg Φ (.For tg it body [] p) sc ρ) fl := by
  rw [nZ, if_pos (show List.isEmpty ([] : List Stmt) = true from rfl)]
  refine hi.bnd ?_
  dsimp only
  rw [hd]
  dsimp only
  rw [if_pos ⟨hk, ht⟩]
  exact h
theorem qY {c : Expr} {body : List Stmt} {p : Pos} (h : aa (kZ (fun ρ => (au Φ c false sc ρ).bnd fun p => gH p fun b => .ok b []) (az Φ body sc) bL ρ) fl) : aa (dg Φ (.While c body [] p) sc ρ) fl := by
  rw [q9, if_pos (show List.isEmpty ([] : List Stmt) = true from rfl)]; exact h
theorem bQ {f : Str} {p q : Pos} {args : List Expr} {it : Bool} {ds : List D} {k : Nat} {F : List D -> Rs D} {v : D} (ha : aa (bX Φ args sc ρ) (ds, k)) (hv : aa (F ds) v) (hF : Φ.fn f = some F := by rfl) (hg : sc.names.lookup f = some .globalImplicit := by rfl) : aa (au Φ (.Call (.Name f p) args [] q) it sc ρ) (v, 0) := by
  rw [iL, if_pos hg]
  refine ha.bnd ?_
  unfold kH
  rw [hF]
  exact hv.bnd ⟨[], rfl, True.intro⟩
theorem cm : aa (bX Φ [] sc ρ) ([], 0) := ⟨[], rfl, True.intro⟩
theorem aO {e : Expr} {es : List Expr} {d : D} {ds : List D} {k j : Nat} (h : aa (au Φ e false sc ρ) (d, k)) (h2 : aa (bX Φ es sc ρ) (ds, j)) : aa (bX Φ (e :: es) sc ρ) (d :: ds, kj k j) := aa.bnd h (aa.bnd h2 ⟨[], rfl, True.intro⟩)
theorem tK {elt tg iter : Expr} {ifs : List Expr} {scope : Scope} {p : Pos} {it : Bool} {d : D} {ds out : List D} {k j : Nat} (hi : aa (au Φ iter true sc ρ) (d, k)) (hd : items d = some ds) (hl : ds.length <= bL /\ (ao ds = true \/ k <= 1))
    (h : aa (fk (fun d => match bN scope tg d (flt scope ρ) with
            | none => .st
            | some ρ' => (dh Φ .And ifs scope ρ').bnd fun b => cond b ((au Φ elt false scope ρ').bnd fun r => .ok (some r) []) (.ok none [])) ds) (out, j)) (hj : j <= 1) (hc : lv sc scope = true := by rfl) (ht : ee iter tg = true := by rfl) : aa (au Φ (.ListComp elt [⟨tg, iter, ifs, 0⟩] scope p) it sc ρ) (.lst out, j) := by
  rw [n4, if_pos hc]
  refine hi.bnd ?_
  dsimp only
  rw [hd]
  dsimp only
  rw [if_pos ht]
  refine aa.bnd (a := ()) ⟨_, rfl, hl.1, hl.2, True.intro⟩ ?_
  refine h.bnd ?_
  rw [if_pos hj]
  exact ⟨[], rfl, True.intro⟩
theorem kE {a i : Expr} {p : Pos} {it : Bool} {x d : D} {l : List D} {j : Int} {k k2 : Nat} (ha : aa (au Φ a false sc ρ) (x, k)) (hi : aa (au Φ i false sc ρ) (.int j, k2)) (hx : d7 x = some l) (hd : L2.atI l j = some d) : aa (au Φ (.Subscript a i p) it sc ρ) (d, kn d k) := by
  have key : aa ((au Φ a false sc ρ).bnd fun p => (au Φ i false sc ρ).bnd fun q => iq p q) (d, kn d k) := by
    refine ha.bnd (hi.bnd ?_)
    rcases eh hx with rfl | rfl
    . show aa (qH (.tup l) j k) _
      unfold qH
      rw [hx]; dsimp only
      rw [hd]; exact ⟨[], rfl, True.intro⟩
    . show aa (qH (.lst l) j k) _
      unfold qH
      rw [hx]; dsimp only
      rw [hd]; exact ⟨[], rfl, True.intro⟩
  cases i with
  | Slice lo hi st p2 => exact (am hi).elim
  | _ => exact key
theorem cC {e : Expr} {x : Str} {p q : Pos} {d : D} (h : aa (au Φ e false sc ρ) (d, 0)) (hx : cQ sc x = true := by rfl) : aa (dg Φ (.Assign [.Name x p] e q) sc ρ) (.nx (bv ρ x (d, true))) := by
  refine aa.bnd h ?_
  unfold lH
  rw [if_pos hx]
  exact ⟨[], rfl, True.intro⟩
theorem Bo {e : Expr} {x : Str} {p q : Pos} {d : D} (h : aa (au Φ e false sc ρ) (d, 1)) (hx : cQ sc x = true := by rfl) : aa (dg Φ (.Assign [.Name x p] e q) sc ρ) (.nx (bv ρ x (d, false))) := by
  refine aa.bnd h ?_
  unfold lH
  rw [if_pos hx]
  exact ⟨[], rfl, True.intro⟩
theorem gh {e : Expr} {q : Pos} {d : D} {k : Nat} (h : aa (au Φ e false sc ρ) (d, k)) (hk : k = 0 \/ k = 2 := by exact .inl rfl) (hn : za e = false := by rfl) : aa (dg Φ (.Return (some e) q) sc ρ) (.rt d) := by
  refine aa.bnd h ?_
  unfold t9
  rw [if_pos hk]
  exact ⟨[], rfl, True.intro⟩
end
theorem lN {bind : D -> ai -> Option ai} {body : ai -> Rs Fl} (aj : List D -> ai -> Prop) (step : ∀ d l ρ, aj (d :: l) ρ -> ∃ ρ1 ρ2, bind d ρ = some ρ1 /\ (aa (body ρ1) (.nx ρ2) \/ aa (body ρ1) (.ct ρ2)) /\ aj l ρ2) : ∀ {ds : List D} {ρ : ai}, aj ds ρ -> ∃ ρ', aa (dU bind body ds ρ) (.nx ρ') /\ aj [] ρ'
  | [], ρ, h => ⟨ρ, ⟨[], rfl, True.intro⟩, h⟩
  | d :: l, ρ, h => by
    obtain ⟨ρ1, ρ2, h1, h2, h3⟩ := step d l ρ h
    obtain ⟨ρ', h4, h5⟩ := lN aj step h3
    refine ⟨ρ', ?_, h5⟩
    show aa (match bind d ρ with | none => (.st : Rs Fl) | some ρ1 => (body ρ1).bnd (jr (dU bind body l))) _
    rw [h1]
    rcases h2 with h2 | h2
    . exact h2.bnd h4
    . exact h2.bnd h4
theorem oV {α : Type} {step : D -> Rs (Option (D × Nat))} {g : α -> D} {f : α -> D} : ∀ {l : List α}, (∀ x ∈ l, aa (step (g x)) (some (f x, 0))) -> aa (fk step (l.map g)) (l.map f, 0)
  | [], _ => ⟨[], rfl, True.intro⟩
  | x :: l, h => aa.bnd (h x List.mem_cons_self) (aa.bnd (oV fun y hy => h y (List.mem_cons_of_mem _ hy)) ⟨[], rfl, True.intro⟩)
theorem jI {α : Type} {step : D -> Rs (Option (D × Nat))} {g : α -> D} {f : α -> D} {c : α -> Bool} : ∀ {l : List α}, (∀ x ∈ l, aa (step (g x)) (cond (c x) (some (f x, 0)) none)) -> aa (fk step (l.map g)) ((l.filter c).map f, 0)
  | [], _ => ⟨[], rfl, True.intro⟩
  | x :: l, h => by
    have h1 := h x List.mem_cons_self
    have h2 := jI (c := c) fun y hy => h y (List.mem_cons_of_mem _ hy)
    cases e : c x with
    | true =>
      rw [e] at h1
      rw [List.filter_cons_of_pos e]
      exact aa.bnd h1 (aa.bnd h2 ⟨[], rfl, True.intro⟩)
    | false =>
      rw [e] at h1
      rw [List.filter_cons_of_neg (by rw [e]; decide)]
      exact aa.bnd h1 (aa.bnd h2 ⟨[], rfl, True.intro⟩)
theorem e8 {a b : Int} (h : a.natAbs < 18446744073709551616) : bn a b := .inl h
theorem sY {a b : Int} (h : b.natAbs < 18446744073709551616) : bn a b := .inr (.inl h)
theorem bE {a b : Int} (h : a.natAbs < cD) (g : b.natAbs < cD) : bn a b := .inr (.inr (.inl ⟨h, g⟩))
theorem EW {n : Nat} (h : n < 2 ^ 64) : n < cD := Nat.lt_of_lt_of_le h (Nat.pow_le_pow_right (by decide) (by decide))
theorem BA {b : Int} (h0 : b ≠ 0) (h : b.natAbs < 18446744073709551616) : fP b := ⟨h0, EW h⟩
theorem BQ {ns : List Int} {i : Int} (h0 : 0 <= i) (h1 : i < ns.length) : L2.atI (ns.map D.int) i = some (.int (ns.getD i.toNat 0)) := by
  obtain ⟨j, rfl⟩ := Int.eq_ofNat_of_zero_le h0
  have hj : j < ns.length := by omega
  have := kK (xs := ns.map D.int) (j := j) (v := .int (ns.getD j 0)) (by simp [hj])
  simpa using this
theorem yt : aE [] := True.intro
theorem uU {l m : List Prop} (h : aE l) (g : aE m) : aE (l ++ m) := cX.mpr ⟨h, g⟩
theorem yr {p : Prop} (h : p) : aE [p] := ⟨h, True.intro⟩
theorem sr {p : Prop} {l : List Prop} (h : p) (g : aE l) : aE (p :: l) := ⟨h, g⟩
theorem An {a b : Int} (h0 : 0 <= b) (h1 : b <= 1000) (h2 : a.natAbs < 18446744073709551616) : ud a b := ⟨h0, h1, h2⟩
end Sp
namespace Sp
open PySem PySem.Spec PyProof.Rows L2
def Sub (C ρ : ai) : Prop := ∀ x y, C x = some y -> ρ x = some y
theorem Sub.refl (ρ : ai) : Sub ρ ρ := fun _ _ h => h
theorem Sub.trans {a b c : ai} (h : Sub a b) (g : Sub b c) : Sub a c := fun x y e => g x y (h x y e)
theorem Sub.put {C ρ : ai} (h : Sub C ρ) (x : Str) (y : D × Bool) : Sub (bv C x y) (bv ρ x y) := fun z w e => by
  rw [cW] at e ⊢
  by_cases hz : z = x
  . rw [if_pos hz] at e ⊢; exact e
  . rw [if_neg hz] at e ⊢; exact h z w e
theorem Sub.flt {C ρ : ai} (h : Sub C ρ) (scope : Scope) : Sub (flt scope C) (flt scope ρ) := fun z w e => by
  obtain ⟨e1, e2⟩ := iK e
  unfold Sp.flt
  rw [if_pos e2]; exact h z w e1
theorem Sub.demX {C ρ : ai} (h : Sub C ρ) (x : Str) : Sub (demX x C) (demX x ρ) := by
  unfold Sp.demX
  intro z w hz
  by_cases hx : z = x
  . simp only [if_pos hx] at hz ⊢
    cases hc : C z with
    | none => rw [hc] at hz; cases hz
    | some q => rw [hc] at hz; rw [h z q hc]; exact hz
  . simp only [if_neg hx] at hz ⊢; exact h z w hz
theorem Sub.demA {C ρ : ai} (h : Sub C ρ) (x : Str) : Sub (demA x C) (demA x ρ) := by
  intro z w hz
  unfold Sp.demA at hz ⊢
  by_cases hx : z = x
  . simp only [if_pos hx] at hz ⊢
    cases hc : C z with
    | none => rw [hc] at hz; cases hz
    | some q => rw [hc] at hz; rw [h z q hc]; exact hz
  . simp only [if_neg hx] at hz ⊢; exact h z w hz
theorem Sub.demL : ∀ {es : List Expr} {C ρ : ai}, Sub C ρ -> Sub (demL es C) (demL es ρ)
  | [], _, _, h => h
  | e :: es, C, ρ, h => by
    cases e with
    | Name x p => exact Sub.demL (es := es) (h.demA x)
    | Subscript a i p =>
      cases a with
      | Name x q => exact Sub.demL (es := es) (h.demA x)
      | _ => exact Sub.demL (es := es) h
    | _ => exact Sub.demL (es := es) h
theorem Sub.demote {C ρ : ai} (h : Sub C ρ) (e : Expr) : Sub (demote e C) (demote e ρ) := by
  unfold Sp.demote
  split
  . exact h.demX _
  . exact h.demX _
  . exact h.demL
  . exact h
theorem oB {sc : Scope} : ∀ {es : List Expr} {ds : List D} {C C' ρ : ai}, aS sc es ds C = some C' -> Sub C ρ -> ∃ ρ', aS sc es ds ρ = some ρ' /\ Sub C' ρ' := by
  intro es
  induction es with
  | nil =>
    intro ds C C' ρ h s
    cases ds with
    | nil => cases h; exact ⟨ρ, rfl, s⟩
    | cons d ds => cases h
  | cons e es ih =>
    intro ds C C' ρ h s
    cases ds with
    | nil => cases e <;> cases h
    | cons d ds =>
      cases e with
      | Name z p =>
        rw [aS] at h ⊢
        split at h
        . rename_i hz
          rw [if_pos hz]
          exact ih h (s.put _ _)
        . cases h
      | _ => cases h
theorem pS {sc : Scope} {tg : Expr} {d : D} {C C' ρ : ai} (h : bN sc tg d C = some C') (s : Sub C ρ) : ∃ ρ', bN sc tg d ρ = some ρ' /\ Sub C' ρ' := by
  unfold bN at h ⊢
  split at h
  . split at h
    . rename_i hx; cases h; exact ⟨_, if_pos hx, s.put _ _⟩
    . cases h
  . split at h
    . exact oB h s
    . cases h
  . cases h
theorem dP {b : Bool} {m : List Prop} (h : b = true -> aE m) : aE (gd b m) := by
  cases m with
  | nil => exact True.intro
  | cons p l => exact ⟨h, True.intro⟩
theorem rL {b c : Bool} {r : Rs Bool} (h : b = true -> aa r c) (hf : b = false -> c = false) : aa (uT b r) c := by
  cases b with
  | true =>
    obtain ⟨m, rfl, hm⟩ := h rfl
    exact ⟨_, rfl, dP fun _ => hm⟩
  | false =>
    rw [hf rfl]
    cases r with
    | ok c' m => exact ⟨_, rfl, dP fun z => (by cases z)⟩
    | st => exact ⟨_, rfl, True.intro⟩
theorem uj {b c : Bool} {r : Rs Bool} (h : b = false -> aa r c) (hf : b = true -> c = true) : aa (y8 b r) c := by
  cases b with
  | false =>
    obtain ⟨m, rfl, hm⟩ := h rfl
    exact ⟨_, rfl, dP fun _ => hm⟩
  | true =>
    rw [hf rfl]
    cases r with
    | ok c' m => exact ⟨_, rfl, dP fun z => (by cases z)⟩
    | st => exact ⟨_, rfl, True.intro⟩
theorem zj {t : Bool} {r s : R1} {d : D × Nat} (h : aa (if t = true then r else s) d) : aa (zk t r s) d := by
  cases t with
  | true =>
    rw [if_pos rfl] at h
    obtain ⟨m, rfl, hm⟩ := h
    cases s with
    | ok q n => exact ⟨_, by show Rs.ok _ _ = Rs.ok _ _; rw [qA, zf], cX.mpr ⟨dP fun _ => hm, dP fun z => (by cases z)⟩⟩
    | st => exact ⟨m, rfl, hm⟩
  | false =>
    rw [if_neg Bool.false_ne_true] at h
    obtain ⟨m, rfl, hm⟩ := h
    cases r with
    | ok q n => exact ⟨_, by show Rs.ok _ _ = Rs.ok _ _; rw [qB, zg], cX.mpr ⟨dP fun z => (by cases z), dP fun _ => hm⟩⟩
    | st => exact ⟨m, rfl, hm⟩
theorem gO {α : Type} {p : D × Nat} {f : Bool -> Rs α} {a : α} {b : Bool} (h : p.1 = .bl b) (h2 : aa (f b) a) : aa (gH p f) a := by
  unfold gH; rw [h]; exact h2
theorem Gw {p : D × Nat} {f : Int -> R1} {a : D × Nat} {b : Int} (h : p.1 = .int b) (h2 : aa (f b) a) : aa (iF p f) a := by
  unfold iF; rw [h]; exact h2
structure Mo (Φ : Fx) (n : Nat) : Prop where
  e : ∀ (e : Expr) {it : Bool} {sc : Scope} {C ρ : ai} {p : D × Nat}, sizeOf e < n -> aa (au Φ e it sc C) p -> Sub C ρ -> aa (au Φ e it sc ρ) p
  es : ∀ (es : List Expr) {sc : Scope} {C ρ : ai} {p : List D × Nat}, sizeOf es < n -> aa (bX Φ es sc C) p -> Sub C ρ -> aa (bX Φ es sc ρ) p
  b : ∀ (op : BoolOp) (es : List Expr) {sc : Scope} {C ρ : ai} {b : Bool}, sizeOf es < n -> aa (dh Φ op es sc C) b -> Sub C ρ -> aa (dh Φ op es sc ρ) b
  o : ∀ (e : Option Expr) {sc : Scope} {C ρ : ai} {o : Option Int}, sizeOf e < n -> aa (oT Φ e sc C) o -> Sub C ρ -> aa (oT Φ e sc ρ) o
theorem tj {step step2 : D -> Rs (Option (D × Nat))} (h : ∀ d r, aa (step d) r -> aa (step2 d) r) : ∀ {ds : List D} {q : List D × Nat}, aa (fk step ds) q -> aa (fk step2 ds) q
  | [], q, hq => hq
  | d :: ds, q, hq => by
    obtain ⟨r, h1, h2⟩ := aq (show aa (Rs.bnd _ _) q from hq)
    obtain ⟨q1, h3, h4⟩ := aq h2
    exact aa.bnd (h _ _ h1) (aa.bnd (tj h h3) h4)
section
variable {Φ : Fx} {n : Nat} {it : Bool} {sc : Scope} {C ρ : ai} {p : D × Nat}
theorem zd (I : Mo Φ n) {a i : Expr} {pos : Pos} (hs : sizeOf (Expr.Subscript a i pos) < n + 1) (h : aa ((au Φ a false sc C).bnd fun p => (au Φ i false sc C).bnd fun q => iq p q) p) (s : Sub C ρ) : aa ((au Φ a false sc ρ).bnd fun p => (au Φ i false sc ρ).bnd fun q => iq p q) p := by
  obtain ⟨x, h1, h⟩ := aq h
  obtain ⟨y, h2, h⟩ := aq h
  exact aa.bnd (I.e a (aY (by simp <;> omega) hs) h1 s) (aa.bnd (I.e i (aY (by simp <;> omega) hs) h2 s) h)
theorem Ko (I : Mo Φ n) (e : Expr) (hs : sizeOf e < n + 1) (h : aa (au Φ e it sc C) p) (s : Sub C ρ) : aa (au Φ e it sc ρ) p := by
  cases e with
  | Constant c k q => exact h
  | Name x q =>
    replace h : aa (iE Φ x sc C) p := h
    show aa (iE Φ x sc ρ) p
    unfold iE at h ⊢
    split at h
    . rename_i hx
      rw [if_pos hx]
      split at h
      . rename_i hg; rw [if_pos hg]; exact h
      . rename_i hg
        rw [if_neg hg]
        split at h
        . rename_i y hy; rw [s x y hy]; exact h
        . exact (am h).elim
    . exact (am h).elim
  | BinOp a op b q =>
    obtain ⟨x, h1, h⟩ := aq (show aa (Rs.bnd _ _) p from h)
    obtain ⟨y, h2, h⟩ := aq h
    exact aa.bnd (I.e a (aY (by simp <;> omega) hs) h1 s) (aa.bnd (I.e b (aY (by simp <;> omega) hs) h2 s) h)
  | UnaryOp op a q =>
    obtain ⟨x, h1, h⟩ := aq (show aa (Rs.bnd _ _) p from h)
    exact aa.bnd (I.e a (aY (by simp <;> omega) hs) h1 s) h
  | BoolOp op es q =>
    rw [n5] at h ⊢
    split at h
    . exact (am h).elim
    . rename_i hne
      rw [if_neg hne]
      obtain ⟨b, h1, h⟩ := aq h
      exact aa.bnd (I.b op es (aY (by simp <;> omega) hs) h1 s) h
  | Compare a ops bs q =>
    match ops, bs, hs, h with
    | [op], [b], hs, h =>
      obtain ⟨x, h1, h⟩ := aq (show aa (Rs.bnd _ _) p from h)
      obtain ⟨y, h2, h⟩ := aq h
      exact aa.bnd (I.e a (aY (by simp <;> omega) hs) h1 s) (aa.bnd (I.e b (aY (by simp <;> omega) hs) h2 s) h)
    | [], bs, _, h => exact (am h).elim
    | [op], [], _, h => exact (am h).elim
    | [op], _ :: _ :: _, _, h => exact (am h).elim
    | [op, op2], [b, c], hs, h =>
      obtain ⟨x, h1, h⟩ := aq (show aa (Rs.bnd _ _) p from h)
      obtain ⟨y, h2, h⟩ := aq h
      obtain ⟨z, h3, h⟩ := aq h
      exact aa.bnd (I.e a (aY (by simp <;> omega) hs) h1 s) (aa.bnd (I.e b (aY (by simp <;> omega) hs) h2 s) (aa.bnd (I.e c (aY (by simp <;> omega) hs) h3 s) h))
    | [_, _], [], _, h => exact (am h).elim
    | [_, _], [_], _, h => exact (am h).elim
    | [_, _], _ :: _ :: _ :: _, _, h => exact (am h).elim
    | _ :: _ :: _ :: _, bs, _, h => exact (am h).elim
  | IfExp c a b q =>
    obtain ⟨x, h1, h⟩ := aq (show aa (Rs.bnd _ _) p from h)
    obtain ⟨t, ht, h⟩ := fw h
    obtain ⟨l, h, hp⟩ := h
    obtain ⟨m, h, hm⟩ := tG h hp
    refine aa.bnd (I.e c (aY (by simp <;> omega) hs) h1 s) (gO ht (zj ?_))
    cases t with
    | true => exact I.e a (aY (by simp <;> omega) hs) ⟨m, h, hm⟩ s
    | false => exact I.e b (aY (by simp <;> omega) hs) ⟨m, h, hm⟩ s
  | Tuple es k q =>
    obtain ⟨x, h1, h⟩ := aq (show aa (Rs.bnd _ _) p from h)
    exact aa.bnd (I.es es (aY (by simp <;> omega) hs) h1 s) h
  | List es q =>
    obtain ⟨x, h1, h⟩ := aq (show aa (Rs.bnd _ _) p from h)
    exact aa.bnd (I.es es (aY (by simp <;> omega) hs) h1 s) h
  | Attribute a f q =>
    cases a with
    | Name x pn =>
      obtain ⟨y, h1, h⟩ := aq (show aa (Rs.bnd _ _) p from h)
      exact aa.bnd (I.e (.Name x pn) (it := false) (aY (by simp <;> omega) hs) h1 s) h
    | _ => exact (am h).elim
  | Dict ks vs q =>
    match ks, vs, h with
    | [], [], h => exact h
    | _ :: _, _, h => exact (am h).elim
    | [], _ :: _, h => exact (am h).elim
  | Subscript a i q =>
    cases i with
    | Slice lo hi st p2 =>
      cases st with
      | none =>
        obtain ⟨x, h1, h⟩ := aq (show aa (Rs.bnd _ _) p from h)
        obtain ⟨y, h2, h⟩ := aq h
        obtain ⟨z, h3, h⟩ := aq h
        exact aa.bnd (I.e a (aY (by simp <;> omega) hs) h1 s) (aa.bnd (I.o lo (aY (by simp <;> omega) hs) h2 s) (aa.bnd (I.o hi (aY (by simp <;> omega) hs) h3 s) h))
      | some e => exact zd I hs h s
    | _ => exact zd I hs h s
  | Call f args kws q =>
    cases f with
    | Name f fp =>
      cases kws with
      | nil =>
        rw [iL] at h ⊢
        split at h
        . rename_i hf
          rw [if_pos hf]
          obtain ⟨x, h1, h⟩ := aq h
          exact aa.bnd (I.es args (aY (by simp <;> omega) hs) h1 s) h
        . exact (am h).elim
      | cons _ _ => exact (am h).elim
    | Attribute a m ap =>
      cases kws with
      | nil =>
        rw [rf] at h ⊢
        split at h
        . rename_i hf
          rw [if_pos hf]
          obtain ⟨x, h1, h⟩ := aq h
          obtain ⟨y, h2, h⟩ := aq h
          exact aa.bnd (I.e a (aY (by simp <;> omega) hs) h1 s) (aa.bnd (I.es args (aY (by simp <;> omega) hs) h2 s) h)
        . exact (am h).elim
      | cons _ _ => exact (am h).elim
    | _ => exact (am h).elim
  | ListComp elt gens scope q =>
    obtain ⟨l0, h0, _⟩ := id h
    obtain ⟨tg, iter, ifs, rfl⟩ := nX h0
    rw [n4] at h ⊢
    split at h
    . rename_i hc
      rw [if_pos hc]
      obtain ⟨x, h1, h⟩ := aq h
      refine aa.bnd (I.e iter (by first | omega | (simp at *; omega)) h1 s) ?_
      split at h
      . split at h
        . rename_i hl
          rw [if_pos hl]
          obtain ⟨u0, h0', h⟩ := aq h
          obtain ⟨y, h2, h⟩ := aq h
          refine aa.bnd h0' (aa.bnd (tj (fun d r hr => ?_) h2) h)
          split at hr
          . exact (am hr).elim
          . rename_i C' hb
            obtain ⟨ρ', hb', s'⟩ := pS hb (s.flt scope)
            rw [hb']
            obtain ⟨b, h3, hr⟩ := aq hr
            refine aa.bnd (I.b .And ifs (by first | omega | (simp at *; omega)) h3 s') ?_
            cases b with
            | false => exact hr
            | true =>
              rw [cond_true] at hr ⊢
              obtain ⟨z, h4, hr⟩ := aq hr
              exact aa.bnd (I.e elt (by first | omega | (simp at *; omega)) h4 s') hr
        . exact (am h).elim
      . exact (am h).elim
    . exact (am h).elim
  | _ => exact (am h).elim
theorem Go (I : Mo Φ n) (es : List Expr) {p : List D × Nat} (hs : sizeOf es < n + 1) (h : aa (bX Φ es sc C) p) (s : Sub C ρ) : aa (bX Φ es sc ρ) p := by
  cases es with
  | nil => exact h
  | cons e es =>
    obtain ⟨x, h1, h⟩ := aq (show aa (Rs.bnd _ _) p from h)
    obtain ⟨y, h2, h⟩ := aq h
    exact aa.bnd (I.e e (aY (by simp <;> omega) hs) h1 s) (aa.bnd (I.es es (aY (by simp <;> omega) hs) h2 s) h)
theorem Kq (I : Mo Φ n) (op : BoolOp) (es : List Expr) {b : Bool} (hs : sizeOf es < n + 1) (h : aa (dh Φ op es sc C) b) (s : Sub C ρ) : aa (dh Φ op es sc ρ) b := by
  cases es with
  | nil => cases op <;> exact h
  | cons e es =>
    cases op with
    | And =>
      obtain ⟨x, h1, h⟩ := aq (show aa (Rs.bnd _ _) b from h)
      obtain ⟨t, ht, l, h, hp⟩ := fw h
      refine aa.bnd (I.e e (aY (by simp <;> omega) hs) h1 s) (gO ht ?_)
      rcases rK h hp with ⟨rfl, m, h, pm⟩ | ⟨rfl, rfl⟩
      . exact rL (fun _ => I.b .And es (aY (by simp <;> omega) hs) ⟨m, h, pm⟩ s) fun z => (by cases z)
      . exact rL (fun z => (by cases z)) fun _ => rfl
    | Or =>
      obtain ⟨x, h1, h⟩ := aq (show aa (Rs.bnd _ _) b from h)
      obtain ⟨t, ht, l, h, hp⟩ := fw h
      refine aa.bnd (I.e e (aY (by simp <;> omega) hs) h1 s) (gO ht ?_)
      rcases sT h hp with ⟨rfl, m, h, pm⟩ | ⟨rfl, rfl⟩
      . exact uj (fun _ => I.b .Or es (aY (by simp <;> omega) hs) ⟨m, h, pm⟩ s) fun z => (by cases z)
      . exact uj (fun z => (by cases z)) fun _ => rfl
theorem Km (I : Mo Φ n) (e : Option Expr) {o : Option Int} (hs : sizeOf e < n + 1) (h : aa (oT Φ e sc C) o) (s : Sub C ρ) : aa (oT Φ e sc ρ) o := by
  cases e with
  | none => exact h
  | some e =>
    obtain ⟨x, h1, h⟩ := aq (show aa (Rs.bnd _ _) o from h)
    exact aa.bnd (I.e e (aY (by simp <;> omega) hs) h1 s) h
end
theorem ia (Φ : Fx) : ∀ n, Mo Φ n
  | 0 => ⟨fun _ _ _ _ _ _ h => absurd h (Nat.not_lt_zero _), fun _ _ _ _ _ h => absurd h (Nat.not_lt_zero _), fun _ _ _ _ _ _ h => absurd h (Nat.not_lt_zero _), fun _ _ _ _ _ h => absurd h (Nat.not_lt_zero _)⟩
  | n + 1 => ⟨fun e _ _ _ _ _ hs h s => Ko (ia Φ n) e hs h s, fun e _ _ _ _ hs h s => Go (ia Φ n) e hs h s, fun op e _ _ _ _ hs h s => Kq (ia Φ n) op e hs h s, fun e _ _ _ _ hs h s => Km (ia Φ n) e hs h s⟩
theorem cz {Φ : Fx} {e : Expr} {it : Bool} {sc : Scope} {C ρ : ai} {p : D × Nat} (h : aa (au Φ e it sc C) p) (s : Sub C ρ) : aa (au Φ e it sc ρ) p := (ia Φ _).e e (Nat.lt_succ_self _) h s
theorem tf {Φ : Fx} {e : List Expr} {sc : Scope} {C ρ : ai} {p : List D × Nat} (h : aa (bX Φ e sc C) p) (s : Sub C ρ) : aa (bX Φ e sc ρ) p := (ia Φ _).es e (Nat.lt_succ_self _) h s
def yy : Fl -> Fl -> Prop
  | .nx a, .nx b => Sub a b
  | .bk a, .bk b => Sub a b
  | .ct a, .ct b => Sub a b
  | .rt a, .rt b => a = b
  | _, _ => False
theorem cn {α : Type} {a : α} : aa (.ok a []) a := ⟨[], rfl, True.intro⟩
def i6 (f : ai -> Rs Fl) : Prop := ∀ C ρ fl, aa (f C) fl -> Sub C ρ -> ∃ fl', aa (f ρ) fl' /\ yy fl fl'
theorem vG {f : ai -> Rs Fl} (h : i6 f) {x y z : Fl} (hx : aa (jr f x) z) (s : yy x y) : ∃ z', aa (jr f y) z' /\ yy z z' := by
  cases x <;> cases y <;> first | exact s.elim | skip
  . exact h _ _ _ hx s
  . cases aG hx; cases s; exact ⟨_, cn, rfl⟩
  . cases aG hx; exact ⟨_, cn, s⟩
  . exact h _ _ _ hx s
theorem vH {sc : Scope} {tg : Expr} {body : ai -> Rs Fl} (hb : i6 body) : ∀ ds, i6 (dU (bN sc tg) body ds)
  | [] => fun C ρ fl h s => by cases aG h; exact ⟨_, cn, s⟩
  | d :: ds => fun C ρ fl h s => by
    replace h : aa (match bN sc tg d C with | none => (.st : Rs Fl) | some ρ1 => (body ρ1).bnd (jr (dU (bN sc tg) body ds))) fl := h
    split at h
    . exact (am h).elim
    . rename_i C1 hC
      obtain ⟨ρ1, hρ, s1⟩ := pS hC s
      obtain ⟨x, h1, h2⟩ := aq h
      obtain ⟨y, h3, s2⟩ := hb _ _ _ h1 s1
      obtain ⟨z, h4, s3⟩ := vG (vH hb ds) h2 s2
      refine ⟨z, ?_, s3⟩
      show aa (match bN sc tg d ρ with | none => (.st : Rs Fl) | some ρ1 => (body ρ1).bnd (jr (dU (bN sc tg) body ds))) z
      rw [hρ]; exact aa.bnd h3 h4
theorem zc {test : ai -> Rs Bool} {body : ai -> Rs Fl} (ht : ∀ C ρ b, aa (test C) b -> Sub C ρ -> aa (test ρ) b) (hb : i6 body) : ∀ n, i6 (kZ test body n)
  | 0 => fun C ρ fl h s => (am h).elim
  | n + 1 => fun C ρ fl h s => by
    obtain ⟨b, h1, h2⟩ := aq (show aa (Rs.bnd _ _) fl from h)
    have h1' := ht _ _ _ h1 s
    cases b with
    | false => cases aG h2; exact ⟨_, aa.bnd h1' cn, s⟩
    | true =>
      obtain ⟨x, h3, h4⟩ := aq (show aa (Rs.bnd _ _) fl from h2)
      obtain ⟨y, h5, s2⟩ := hb _ _ _ h3 s
      obtain ⟨z, h6, s3⟩ := vG (zc ht hb n) h4 s2
      exact ⟨z, aa.bnd h1' (aa.bnd h5 h6), s3⟩
theorem Dm {Φ : Fx} {tgs : List Expr} {e : Expr} {sc : Scope} : i6 (mS Φ tgs e sc) := by
  intro C ρ fl h s
  unfold mS at h ⊢
  split at h
  . obtain ⟨p, h1, h⟩ := aq h
    unfold lH at h
    split at h
    . rename_i hx
      split at h
      . rename_i ho; cases aG h
        exact ⟨.nx _, aa.bnd (cz h1 s) (by unfold lH; rw [if_pos hx, ho]; exact cn), s.put _ _⟩
      . rename_i ho; cases aG h
        exact ⟨.nx _, aa.bnd (cz h1 s) (by unfold lH; rw [if_pos hx, ho]; exact cn), s.put _ _⟩
      . exact (am h).elim
    . exact (am h).elim
  . split at h
    . rename_i ht
      rw [if_pos ht]
      unfold mP at h ⊢
      split at h
      . split at h
        . rename_i hp
          rw [if_pos hp]
          obtain ⟨q, h1, h⟩ := aq h
          split at h
          . rename_i u v hd
            split at h
            . rename_i hf
              cases aG h
              refine ⟨.nx _, aa.bnd (tf h1 s) ?_, (s.put _ _).put _ _⟩
              rw [hd]; dsimp only; rw [if_pos hf]; exact cn
            . exact (am h).elim
          . exact (am h).elim
        . exact (am h).elim
      . exact (am h).elim
    . rename_i ht
      rw [if_neg ht]
      obtain ⟨p, h1, h⟩ := aq h
      split at h
      . rename_i ho
        cases aG h
        refine ⟨.nx _, aa.bnd (cz h1 s) (by rw [if_pos ho]; exact cn), ?_⟩
        show Sub _ _
        unfold uc
        split
        . exact (s.put _ _).put _ _
        . exact s
      rename_i ho
      split at h
      . rename_i ds hd
        split at h
        . rename_i hf
          split at h
          . rename_i C' hb
            cases aG h
            obtain ⟨ρ', hb', s'⟩ := oB hb s
            refine ⟨.nx _, aa.bnd (cz h1 s) ?_, s'⟩
            rw [if_neg ho, hd]; dsimp only; rw [if_pos hf, hb']; exact cn
          . exact (am h).elim
        . exact (am h).elim
      . exact (am h).elim
  . split at h
    . rename_i hc
      rw [if_pos hc]
      obtain ⟨p, h1, h⟩ := aq h
      obtain ⟨q, h2, h⟩ := aq h
      rcases pT h with ⟨l, j, l', a1, a2, a3, hj, hs, hf, rfl⟩ | ⟨ks, ds, k, a1, hk, a3, hf, hz, rfl⟩
      . refine ⟨.nx _, aa.bnd (cz h1 s) (aa.bnd (cz h2 s) ?_), s.put _ _⟩
        rw [hj]; unfold pU; rw [s _ _ a1]; dsimp only; rw [if_pos a3, hs]
        exact ⟨_, rfl, a2, hf, True.intro⟩
      . refine ⟨.nx _, aa.bnd (cz h1 s) (aa.bnd (cz h2 s) ?_), s.put _ _⟩
        unfold pU; rw [s _ _ a1]; dsimp only; rw [hk]; dsimp only; rw [if_pos a3]
        exact ⟨_, rfl, hf, hz, True.intro⟩
    . exact (am h).elim
  . exact (am h).elim
theorem Dl {Φ : Fx} {t e : Expr} {op : Operator} {sc : Scope} : i6 (mR Φ t op e sc) := by
  intro C ρ fl h s
  unfold mR at h ⊢
  split at h
  . split at h
    . rename_i hx
      rw [if_pos hx]
      split at h
      . rename_i p hp
        rw [s _ _ hp]
        obtain ⟨r, h1, h⟩ := aq h
        cases aG h
        obtain ⟨a, ha, h3⟩ := nP h1
        obtain ⟨q, h2, h4⟩ := aq h3
        exact ⟨.nx _, aa.bnd (Gw ha (aa.bnd (cz h2 s) h4)) cn, s.put _ _⟩
      . exact (am h).elim
    . exact (am h).elim
  . exact (am h).elim
theorem Dk {Φ : Fx} {e : Expr} {sc : Scope} : i6 (mQ Φ e sc) := by
  intro C ρ fl h s
  unfold mQ at h ⊢
  split at h
  . split at h
    . rename_i hln
      rw [if_pos hln]
      obtain ⟨p, h1, h⟩ := aq h
      split at h
      . rename_i M hM
        obtain ⟨l, a1, a3, h⟩ := qt h
        obtain ⟨l', h2, h⟩ := aq h
        cases aG h
        refine ⟨.nx _, aa.bnd (tf h1 s) ?_, s.put _ _⟩
        unfold nO; rw [s _ _ a1]; dsimp only; rw [if_pos a3]; exact aa.bnd h2 cn
      . exact (am h).elim
    . exact (am h).elim
  . obtain ⟨p, h1, h⟩ := aq h
    cases aG h
    exact ⟨.nx _, aa.bnd (cz h1 s) cn, s⟩
  . exact (am h).elim
structure Fm (Φ : Fx) (n : Nat) : Prop where
  s : ∀ (st : Stmt) (sc : Scope), sizeOf st < n -> i6 (dg Φ st sc)
  ss : ∀ (st : List Stmt) (sc : Scope), sizeOf st < n -> i6 (az Φ st sc)
theorem Gn {Φ : Fx} {n : Nat} (I : Fm Φ n) (st : Stmt) (sc : Scope) (hs : sizeOf st < n + 1) : i6 (dg Φ st sc) := by
  intro C ρ fl h s
  cases st with
  | Return e p =>
    cases e with
    | none => cases aG h; exact ⟨_, cn, rfl⟩
    | some e =>
      obtain ⟨p, h1, h⟩ := aq (show aa (Rs.bnd _ _) fl from h)
      refine ⟨fl, aa.bnd (cz h1 s) h, ?_⟩
      unfold t9 at h
      split at h
      . cases aG h; rfl
      . exact (am h).elim
  | Pass p => cases aG h; exact ⟨_, cn, s⟩
  | Break p => cases aG h; exact ⟨_, cn, s⟩
  | Continue p => cases aG h; exact ⟨_, cn, s⟩
  | Assign tgs e p => exact Dm C ρ fl h s
  | AugAssign t op e p => exact Dl C ρ fl h s
  | Expr e p => exact Dk C ρ fl h s
  | If c a b p =>
    obtain ⟨p, h1, h⟩ := aq (show aa (Rs.bnd _ _) fl from h)
    obtain ⟨t, ht, h⟩ := fw h
    cases t with
    | true =>
      obtain ⟨z, h2, s2⟩ := I.ss a sc (aY (by simp <;> omega) hs) C ρ fl h s
      exact ⟨z, aa.bnd (cz h1 s) (gO ht h2), s2⟩
    | false =>
      obtain ⟨z, h2, s2⟩ := I.ss b sc (aY (by simp <;> omega) hs) C ρ fl h s
      exact ⟨z, aa.bnd (cz h1 s) (gO ht h2), s2⟩
  | For tg it body els p =>
    rw [nZ] at h ⊢
    split at h
    . rename_i he
      rw [if_pos he]
      obtain ⟨p, h1, h⟩ := aq h
      split at h
      . rename_i ds hd
        split at h
        . rename_i hk
          obtain ⟨z, h2, s2⟩ := vH (I.ss body sc (aY (by simp <;> omega) hs)) ds _ _ fl h (s.demote it)
          refine ⟨z, aa.bnd (cz h1 (s.demote it)) ?_, s2⟩
          rw [hd]; dsimp only; rw [if_pos hk]; exact h2
        . exact (am h).elim
      . exact (am h).elim
    . exact (am h).elim
  | While c body els p =>
    rw [q9] at h ⊢
    split at h
    . rename_i he
      rw [if_pos he]
      refine zc (fun C ρ b hb s => ?_) (I.ss body sc (aY (by simp <;> omega) hs)) bL C ρ fl h s
      obtain ⟨q, h1, hb⟩ := aq hb
      exact aa.bnd (cz h1 s) hb
    . exact (am h).elim
  | _ => exact (am h).elim
theorem Dj {Φ : Fx} {n : Nat} (I : Fm Φ n) (ss : List Stmt) (sc : Scope) (hs : sizeOf ss < n + 1) : i6 (az Φ ss sc) := by
  intro C ρ fl h s
  cases ss with
  | nil => cases aG h; exact ⟨_, cn, s⟩
  | cons st ss =>
    rcases pV h with ⟨C', h1, h2⟩ | ⟨h1, h2⟩
    . obtain ⟨x, h3, s2⟩ := I.s st sc (aY (by simp <;> omega) hs) C ρ _ h1 s
      cases x with
      | nx ρ' =>
        obtain ⟨z, h4, s3⟩ := I.ss ss sc (aY (by simp <;> omega) hs) C' ρ' fl h2 s2
        exact ⟨z, cj h3 h4, s3⟩
      | rt _ => exact s2.elim
      | bk _ => exact s2.elim
      | ct _ => exact s2.elim
    . obtain ⟨x, h3, s2⟩ := I.s st sc (aY (by simp <;> omega) hs) C ρ _ h2 s
      refine ⟨x, jh h3 fun ρ' z => ?_, s2⟩
      subst z
      cases fl <;> first | exact h1 _ rfl | exact s2
theorem ku (Φ : Fx) : ∀ n, Fm Φ n
  | 0 => ⟨fun _ _ h => absurd h (Nat.not_lt_zero _), fun _ _ h => absurd h (Nat.not_lt_zero _)⟩
  | n + 1 => ⟨fun e sc hs => Gn (ku Φ n) e sc hs, fun e sc hs => Dj (ku Φ n) e sc hs⟩
theorem sZ {Φ : Fx} {ss : List Stmt} {sc : Scope} {C C' ρ : ai} (h : aa (az Φ ss sc C) (.nx C')) (s : Sub C ρ) : ∃ ρ', aa (az Φ ss sc ρ) (.nx ρ') /\ Sub C' ρ' := by
  obtain ⟨z, h1, h2⟩ := (ku Φ _).ss ss sc (Nat.lt_succ_self _) C ρ _ h s
  cases z with
  | nx ρ' => exact ⟨ρ', h1, h2⟩
  | rt _ => exact h2.elim
  | bk _ => exact h2.elim
  | ct _ => exact h2.elim
theorem AM {Φ : Fx} {ss : List Stmt} {sc : Scope} {C ρ : ai} {d : D} (h : aa (az Φ ss sc C) (.rt d)) (s : Sub C ρ) : aa (az Φ ss sc ρ) (.rt d) := by
  obtain ⟨z, h1, h2⟩ := (ku Φ _).ss ss sc (Nat.lt_succ_self _) C ρ _ h s
  cases z with
  | rt _ => cases h2; exact h1
  | nx _ => exact h2.elim
  | bk _ => exact h2.elim
  | ct _ => exact h2.elim
def bK : List (Str × D × Bool) -> ai
  | [] => fun _ => none
  | p :: l => fun z => if z = p.1 then some p.2 else bK l z
theorem aH {ρ : ai} : Sub (bK []) ρ := fun _ _ h => by cases h
theorem ae {ρ : ai} {x : Str} {y : D × Bool} {l : List (Str × D × Bool)} (h : ρ x = some y) (g : Sub (bK l) ρ) : Sub (bK ((x, y) :: l)) ρ := fun z w e => by
  replace e : (if z = x then some y else bK l z) = some w := e
  by_cases hz : z = x
  . rw [if_pos hz] at e; cases e; rw [hz]; exact h
  . rw [if_neg hz] at e; exact g z w e
theorem Sub.get {C ρ : ai} {x : Str} {y : D × Bool} (s : Sub C ρ) (h : C x = some y := by rfl) : ρ x = some y := s x y h
end Sp
namespace Sp
open PySem PySem.Spec PyProof.Rows L2
section
variable {Φ : Fx} {sc : Scope} {ρ ρ' : ai} {fl : Fl} {ss : List Stmt}
theorem cK {C C' : ai} {P : ai -> Prop} (s : Sub C ρ) (h : aa (az Φ ss sc C) (.nx C')) (k : ∀ ρ', Sub C' ρ' -> P ρ') : ∃ ρ', aa (az Φ ss sc ρ) (.nx ρ') /\ P ρ' :=
  let ⟨ρ', h1, h2⟩ := sZ h s; ⟨ρ', h1, k ρ' h2⟩
theorem dG {C : ai} {d : D} (s : Sub C ρ) (h : aa (az Φ ss sc C) (.rt d)) : aa (az Φ ss sc ρ) (.rt d) := AM h s
theorem bx {C : ai} {e : Expr} {it : Bool} {p : D × Nat} (s : Sub C ρ) (h : aa (au Φ e it sc C) p) : aa (au Φ e it sc ρ) p := cz h s
theorem nI {tg it : Expr} {body : List Stmt} {p : Pos} {d : D} {ds : List D} {k : Nat} (aj : List D -> ai -> Prop) (hi : aa (au Φ it true sc (demote it ρ)) (d, k)) (h0 : aj ds (demote it ρ))
    (step : ∀ d l ρ, aj (d :: l) ρ -> ∃ ρ1, bN sc tg d ρ = some ρ1 /\ ∃ ρ2, aa (az Φ body sc ρ1) (.nx ρ2) /\ aj l ρ2) (rest : ∀ ρ', aj [] ρ' -> aa (az Φ ss sc ρ') fl) (hd : items d = some ds := by rfl) (hk : k <= 1 := by first | exact Nat.le_refl 1 | exact Nat.zero_le 1) (ht : ee it tg = true := by rfl) : aa (az Φ (.For tg it body [] p :: ss) sc ρ) fl := by
  obtain ⟨ρ', h1, h2⟩ := lN (bind := bN sc tg) (body := az Φ body sc) aj (fun d l ρ h => let ⟨ρ1, a, ρ2, b, c⟩ := step d l ρ h; ⟨ρ1, ρ2, a, .inl b, c⟩) h0
  exact cj (qZ hi hd hk ht h1) (rest ρ' h2)
theorem eM {a b : Expr} {op : CmpOp} {p : Pos} {it : Bool} {x y : D} {k j : Nat} {r : Bool} (ha : aa (au Φ a false sc ρ) (x, k)) (hb : aa (au Φ b false sc ρ) (y, j)) (h : aa (iQ op x y) r) : aa (au Φ (.Compare a [op] [b] p) it sc ρ) (.bl r, 0) :=
  aa.bnd ha (aa.bnd hb (aa.bnd h cn))
theorem DX {a : Expr} {p : Pos} {it : Bool} {b : Bool} {k : Nat} (ha : aa (au Φ a false sc ρ) (.bl b, k)) : aa (au Φ (.UnaryOp .Not a p) it sc ρ) (.bl (!b), 0) := aa.bnd ha cn
theorem dZ {op : BoolOp} {e : Expr} {es : List Expr} {p : Pos} {it : Bool} {b : Bool} (h : aa (dh Φ op (e :: es) sc ρ) b) : aa (au Φ (.BoolOp op (e :: es) p) it sc ρ) (.bl b, 0) := by
  rw [n5, if_neg (show ¬ (List.isEmpty (e :: es) = true) from Bool.false_ne_true)]; exact aa.bnd h cn
theorem eH {e : Expr} {es : List Expr} {b c : Bool} {k : Nat} (h : aa (au Φ e false sc ρ) (.bl b, k)) (h1 : b = true -> aa (dh Φ .And es sc ρ) c) (h2 : b = false -> c = false) : aa (dh Φ .And (e :: es) sc ρ) c := aa.bnd h (gO rfl (rL h1 h2))
theorem DW {e : Expr} {es : List Expr} {b c : Bool} {k : Nat} (h : aa (au Φ e false sc ρ) (.bl b, k)) (h1 : b = false -> aa (dh Φ .Or es sc ρ) c) (h2 : b = true -> c = true) : aa (dh Φ .Or (e :: es) sc ρ) c := aa.bnd h (gO rfl (uj h1 h2))
theorem mT {e : Expr} {es : List Expr} {c : Bool} {k : Nat} (h : aa (au Φ e false sc ρ) (.bl true, k)) (h1 : aa (dh Φ .And es sc ρ) c) : aa (dh Φ .And (e :: es) sc ρ) c := eH h (fun _ => h1) fun z => by cases z
theorem fj {e : Expr} {es : List Expr} {c : Bool} {k : Nat} (h : aa (au Φ e false sc ρ) (.bl false, k)) (h1 : aa (dh Φ .Or es sc ρ) c) : aa (dh Φ .Or (e :: es) sc ρ) c := DW h (fun _ => h1) fun z => by cases z
theorem jD : aa (dh Φ .And [] sc ρ) true := cn
theorem mU : aa (dh Φ .Or [] sc ρ) false := cn
theorem aa.bl {r : R1} {b c : Bool} {k : Nat} (h : aa r (.bl b, k)) (e : b = c) : aa r (.bl c, k) := e ▸ h
theorem rc {es : List Expr} {n : Nat} {p : Pos} {it : Bool} {ds : List D} {k : Nat} (h : aa (bX Φ es sc ρ) (ds, k)) (hl : ds.length <= bL) : aa (au Φ (.Tuple es n p) it sc ρ) (.tup ds, kn (.tup ds) k) := aa.bnd h (by dsimp only; rw [if_pos hl]; exact cn)
theorem xW {α : Type} {elt tg iter : Expr} {scope : Scope} {p : Pos} {it : Bool} {d : D} {g f : α -> D} {l : List α} {k : Nat} (hi : aa (au Φ iter true sc ρ) (d, k)) (hd : items d = some (l.map g)) (hl : l.length <= bL) (hk : ao (l.map g) = true \/ k <= 1)
    (h : ∀ x ∈ l, ∃ ρ', bN scope tg (g x) (flt scope ρ) = some ρ' /\ aa (au Φ elt false scope ρ') (f x, 0)) (hc : lv sc scope = true := by rfl) (ht : ee iter tg = true := by rfl) : aa (au Φ (.ListComp elt [⟨tg, iter, [], 0⟩] scope p) it sc ρ) (.lst (l.map f), 0) := by
  refine tK hi hd ⟨by rw [List.length_map]; exact hl, hk⟩ (oV fun x hx => ?_) (Nat.zero_le _) hc ht
  obtain ⟨ρ', h1, h2⟩ := h x hx
  rw [h1]
  refine aa.bnd (a := true) cn ?_
  rw [cond_true]
  exact aa.bnd h2 cn
end
theorem Kr {us : List Value} (h : us.length = 0) : us = [] := List.eq_nil_of_length_eq_zero h
theorem eL {us : List Value} (h : us.length = 1) : ∃ a, us = [a] := List.length_eq_one_iff.mp h
theorem Dp {us : List Value} {n : Nat} (h : us.length = n + 1) : ∃ a r, us = a :: r /\ r.length = n := by
  cases us with
  | nil => cases h
  | cons a r => exact ⟨a, r, rfl, by simpa using h⟩
theorem fD {us : List Value} (h : us.length = 2) : ∃ a b, us = [a, b] := by
  obtain ⟨a, r, e1, h1⟩ := Dp h; subst e1; obtain ⟨b, rfl⟩ := eL h1; exact ⟨a, b, rfl⟩
theorem nU {us : List Value} (h : us.length = 3) : ∃ a b c, us = [a, b, c] := by
  obtain ⟨a, r, e1, h1⟩ := Dp h; subst e1; obtain ⟨b, c, rfl⟩ := fD h1; exact ⟨a, b, c, rfl⟩
end Sp
namespace Qm
def nC (a b c d : Int) : Prop := ∃ e x y z w : Int, (e = 0 \/ e = 1) /\ a = 2 * x + e /\ b = 2 * y + e /\ c = 2 * z + e /\ d = 2 * w + e
theorem qr {P Q R S k1 k2 k3 : Int} (h1 : Q = P + 2 * k1) (h2 : R = P + 2 * k2) (h3 : S = P + 2 * k3) : nC P Q R S :=
  ⟨P % 2, P / 2, P / 2 + k1, P / 2 + k2, P / 2 + k3, by omega, by omega, by omega, by omega, by omega⟩
theorem par_fmod {a b c d : Int} (h : nC a b c d) : b.fmod 2 = a.fmod 2 /\ c.fmod 2 = a.fmod 2 /\ d.fmod 2 = a.fmod 2 := by
  obtain ⟨e, x, y, z, w, he, rfl, rfl, rfl, rfl⟩ := h
  simp only [Int.fmod_eq_emod_of_nonneg _ (show (0 : Int) <= 2 by decide)]
  omega
theorem C2 {a b c d : Int} (h : nC a b c d) : ∃ t, a * a + (b * b + (c * c + (d * d + 0))) = 4 * t := by
  obtain ⟨e, x, y, z, w, he, rfl, rfl, rfl, rfl⟩ := h
  rcases he with rfl | rfl
  . exact ⟨x * x + y * y + z * z + w * w, by grind⟩
  . exact ⟨x * x + y * y + z * z + w * w + x + y + z + w + 1, by grind⟩
theorem fd4 (t : Int) : (4 * t).fdiv 4 = t := by rw [Int.fdiv_eq_ediv_of_nonneg _ (by decide)]; omega
theorem fd2 (t : Int) : (2 * t).fdiv 2 = t := by rw [Int.fdiv_eq_ediv_of_nonneg _ (by decide)]; omega
theorem xl {a b c d e f g h : Int} (h1 : nC a b c d) (h2 : nC e f g h) : ∃ P Q R S, a * e - b * f - c * g - d * h = 2 * P /\ a * f + b * e + c * h - d * g = 2 * Q /\ a * g - b * h + c * e + d * f = 2 * R /\ a * h + b * g - c * f + d * e = 2 * S /\ nC P Q R S := by
  obtain ⟨s, x1, x2, x3, x4, _, rfl, rfl, rfl, rfl⟩ := h1
  obtain ⟨u, y1, y2, y3, y4, _, rfl, rfl, rfl, rfl⟩ := h2
  refine ⟨2 * (x1 * y1 - x2 * y2 - x3 * y3 - x4 * y4) + u * (x1 - x2 - x3 - x4) + s * (y1 - y2 - y3 - y4) - s * u,
    2 * (x1 * y2 + x2 * y1 + x3 * y4 - x4 * y3) + u * (x1 + x2 + x3 - x4) + s * (y2 + y1 + y4 - y3) + s * u,
    2 * (x1 * y3 - x2 * y4 + x3 * y1 + x4 * y2) + u * (x1 - x2 + x3 + x4) + s * (y3 - y4 + y1 + y2) + s * u,
    2 * (x1 * y4 + x2 * y3 - x3 * y2 + x4 * y1) + u * (x1 + x2 - x3 + x4) + s * (y4 + y3 - y2 + y1) + s * u, by grind, by grind, by grind, by grind, ?_⟩
  refine qr (k1 := (x1 * y2 + x2 * y1 + x3 * y4 - x4 * y3) - (x1 * y1 - x2 * y2 - x3 * y3 - x4 * y4) + u * (x2 + x3) + s * (y2 + y4) + s * u)
    (k2 := (x1 * y3 - x2 * y4 + x3 * y1 + x4 * y2) - (x1 * y1 - x2 * y2 - x3 * y3 - x4 * y4) + u * (x3 + x4) + s * (y3 + y2) + s * u)
    (k3 := (x1 * y4 + x2 * y3 - x3 * y2 + x4 * y1) - (x1 * y1 - x2 * y2 - x3 * y3 - x4 * y4) + u * (x2 + x4) + s * (y4 + y3) + s * u) ?_ ?_ ?_ <;> grind
theorem GK (a b c d e f g h : Int) : (a * e - b * f - c * g - d * h) * (a * e - b * f - c * g - d * h) + ((a * f + b * e + c * h - d * g) * (a * f + b * e + c * h - d * g) + ((a * g - b * h + c * e + d * f) * (a * g - b * h + c * e + d * f) + ((a * h + b * g - c * f + d * e) * (a * h + b * g - c * f + d * e) + 0))) =
    (a * a + (b * b + (c * c + (d * d + 0)))) * (e * e + (f * f + (g * g + (h * h + 0)))) := by grind
theorem bM {p P : Int} (h : p = 2 * P) : p.fdiv 2 = P := by rw [h, fd2]
end Qm
namespace K
open PySem L2 Sp
structure Dc (α : Type) where
  dec : D -> Option α
  enc : α -> D
  ok : ∀ x a, dec x = some a -> x = enc a
def dI : Dc Int := ⟨fun | .int i => some i | _ => none, .int, fun x a h => by cases x <;> cases h; rfl⟩
def dL : Dc (List D) := ⟨fun | .lst i => some i | _ => none, .lst, fun x a h => by cases x <;> cases h; rfl⟩
def pZ {α : Type} (A : Dc α) (f : α -> Rs D) : List D -> Rs D
  | [x] => (match A.dec x with | some a => f a | none => .st)
  | _ => .st
def mi {α β : Type} (A : Dc α) (B : Dc β) (f : α -> β -> Rs D) : List D -> Rs D
  | [x, y] => (match A.dec x with | some a => (match B.dec y with | some b => f a b | none => .st) | none => .st)
  | _ => .st
def pY {α β γ : Type} (A : Dc α) (B : Dc β) (C : Dc γ) (f : α -> β -> γ -> Rs D) : List D -> Rs D
  | [x, y, z] => (match A.dec x with | some a => (match B.dec y with | some b => (match C.dec z with | some c => f a b c | none => .st) | none => .st) | none => .st)
  | _ => .st
theorem ig {α β : Type} {A : Dc α} {x : D} {f : α -> Rs β} {r : β} (h : aa (match A.dec x with | some a => f a | none => .st) r) : ∃ a, x = A.enc a /\ aa (f a) r := by
  split at h
  . rename_i a e; exact ⟨a, A.ok _ _ e, h⟩
  . exact (am h).elim
theorem gZ {α : Type} {A : Dc α} {f : α -> Rs D} {ds : List D} {r : D} (h : aa (pZ A f ds) r) : ∃ a, ds = [A.enc a] /\ aa (f a) r := by
  unfold pZ at h
  split at h
  . obtain ⟨a, e1, h1⟩ := ig h; exact ⟨a, by rw [e1], h1⟩
  . exact (am h).elim
theorem eZ {α β : Type} {A : Dc α} {B : Dc β} {f : α -> β -> Rs D} {ds : List D} {r : D} (h : aa (mi A B f ds) r) : ∃ a b, ds = [A.enc a, B.enc b] /\ aa (f a b) r := by
  unfold mi at h
  split at h
  . obtain ⟨a, e1, h1⟩ := ig h
    obtain ⟨b, e2, h2⟩ := ig h1
    exact ⟨a, b, by rw [e1, e2], h2⟩
  . exact (am h).elim
theorem gY {α β γ : Type} {A : Dc α} {B : Dc β} {C : Dc γ} {f : α -> β -> γ -> Rs D} {ds : List D} {r : D} (h : aa (pY A B C f ds) r) : ∃ a b c, ds = [A.enc a, B.enc b, C.enc c] /\ aa (f a b c) r := by
  unfold pY at h
  split at h
  . obtain ⟨a, e1, h1⟩ := ig h
    obtain ⟨b, e2, h2⟩ := ig h1
    obtain ⟨c, e3, h3⟩ := ig h2
    exact ⟨a, b, c, by rw [e1, e2, e3], h3⟩
  . exact (am h).elim
def MH : D -> Int
  | .int i => i
  | _ => 0
def me (l : List D) : List Int := l.map MH
theorem md (ns : List Int) : me (ns.map D.int) = ns := by
  induction ns with
  | nil => rfl
  | cons n ns ih => show n :: me (ns.map D.int) = _; rw [ih]
def y9 (l : List D) : Prop := ∃ ns : List Int, l = ns.map D.int
def jJ (ns : List Int) (k : Int) : Int := if ns = [] then 0 else ns.getD (k.fmod ns.length).toNat 0
def zx (ns : List Int) (k : Int) : Int :=
  (jJ ns k).fdiv 2147483647 * 2147483647 + ((((jJ ns k).fmod 2147483647 + 7919 * k + 1) * 48271).fmod 2147483647 * 69621 + k).fmod 2147483647
def ij (l : List D) (k : Int) : Int := zx (me l) k
abbrev t4 (a b c d : Int) : D := .tup [.int a, .int b, .int c, .int d]
abbrev Qd := Int × Int × Int × Int
def dq (q : Qd) : D := t4 q.1 q.2.1 q.2.2.1 q.2.2.2
def q4 : D -> Option Qd
  | .tup [.int a, .int b, .int c, .int d] => some (a, b, c, d)
  | _ => none
theorem Ga (x : D) (q : Qd) (h : q4 x = some q) : x = dq q := by
  unfold q4 at h
  split at h
  . cases h; rfl
  . cases h
def dQ : Dc Qd := ⟨q4, dq, Ga⟩
abbrev dj (q : Qd) : Prop := q.1.natAbs < cD /\ q.2.1.natAbs < cD /\ q.2.2.1.natAbs < cD /\ q.2.2.2.natAbs < cD
theorem fO {α : Type} {G : α -> D} (h : ∀ x, (G x).lless = true) : ∀ l : List α, ao (l.map G) = true
  | [] => rfl
  | x :: l => by rw [List.map_cons, ao, h x, fO h l]; rfl
@[simp] theorem d9 (a b : Int) : cO (.int a) (.int b) = decide (a = b) := by
  show (a == b) = _
  rw [Bool.eq_iff_iff]; simp
@[simp] theorem uM (p q : Qd) : cO (dq p) (dq q) = decide (p = q) := by
  show (p.1 == q.1 && (p.2.1 == q.2.1 && (p.2.2.1 == q.2.2.1 && (p.2.2.2 == q.2.2.2 && true)))) = _
  obtain ⟨a, b, c, d⟩ := p; obtain ⟨e, f, g, h⟩ := q
  rw [Bool.eq_iff_iff]; simp
theorem oM (qs : List Qd) : ao (qs.map dq) = true := by
  induction qs with
  | nil => rfl
  | cons n ns ih => rw [List.map_cons, ao, ih]; rfl
end K
namespace Sp
open PySem PySem.Spec PyProof.Rows L2
open AutoSeq1 (wpAny_loadPart')
section
variable {prog : Program} {w : World} {A : Around} {E : Value -> Shared -> Prop} {s : Shared}
variable {n l1 l2 l3 : Nat} {xs ys ws : Array Value} {k : Nat} {x y u : Value} {f0 f1 : Value}
end
end Sp
namespace Sp
open PySem PySem.Spec PyProof.Rows L2
open AutoSeq1 (wpAny_loadPart')
section
variable {prog : Program} {w : World} {A : Around} {E : Value -> Shared -> Prop} {s : Shared}
end
end Sp
namespace Sp
open PySem PySem.Spec PyProof.Rows L2
section
variable {prog : Program} {w : World} {A : Around} {E : Value -> Shared -> Prop} {s : Shared}
abbrev qD (acc : Array Value) (c : Nat) : Obj := { cls := .type "list", dict := none, data := .seq acc c, slots := #[] }
theorem tq {S I : Addr} {res : Value} {R : Result -> Shared -> Prop} (h : wpAny (model prog w) A.in1 (pyNext (.ref I)) (fun r s' => match r with
      | some v => ∃ acc c, s'.heap.get? S = some (qD acc c) /\ acc.size + 1 <= sizeLine /\ ∀ h2 c2, h2.get? S = some (qD (acc.push v) c2) -> Heap.SameBut S s'.heap h2 -> codeAny (model prog w) A (.builtin "list.extend.loop" ⟨[.ref S, .ref I, res], []⟩) R { s' with heap := h2 }
      | none => R (.ok (.ret res)) s') (fun e s' => R (.error e) s') s) : codeAny (model prog w) A (.builtin "list.extend.loop" ⟨[.ref S, .ref I, res], []⟩) R s := by
  refine codeAny_builtin F.entry_extend_loop ?_
  rw [Around.under_plainId F.plain_extend_loop _]
  show wpAny _ A.in1 (pyNext (.ref I) >>= _) _ _ s
  refine wpAny_bind (wpAny_mono h (fun r s' hr => ?_) fun _ _ z => z)
  cases r with
  | none => exact wpAny_pure hr
  | some v =>
    obtain ⟨acc, c, hS, hz, k⟩ := hr
    show wpAny _ A.in1 (updateSeq S (·.push v) >>= _) _ _ _
    refine wpAny_bind (wpAny_updateSeq hS rfl (wpAny_pure ⟨plainId_quiet F.plain_extend_loop _, k _ _ (Heap.get?_update_self _ hS rfl) (Heap.SameBut.update ..)⟩) ?_ ?_)
    . omega
    . show (acc.push v).size <= sizeLine + 1
      rw [Array.size_push]; omega
end
end Sp
namespace Sp
open PySem PySem.Spec PyProof.Rows L2
variable {X : Cx}
theorem qR {P : Program} {w : World} {H : Hp} {h : Heap} {b : Addr} {o : HO} (x : cZ P w H h) (hb : H b = none) (new : bA P w (aU H b o) h b o) : cZ P w (aU H b o) h := fun c u e => by
  by_cases hc : c = b
  . subst hc; rw [aL] at e; cases e; exact new
  . rw [aC hc] at e
    exact (x c u e).stay (fun d v _ r => r) (fun d r => by rw [aC (aX r hb)]; exact r) (fun d xs r => by rw [aC (aX r hb)]; exact r)
theorem sE {fs ex : List Addr} {H H' : Hp} {h h' : Heap} (k : ∀ b u, h.get? b = some u -> h'.get? b = some u) (hH : ∀ c, c < h.objs.size -> H' c = H c) (hin : ∀ c o, H c = some o -> c < h.objs.size) : Un fs ex H H' h h' where
  keep := fun b u q _ _ _ => k b u q
  slot := fun b u q _ _ _ => ⟨u.slots, k b u q⟩
  free := fun b u q n _ => (hH b (Heap.lt_size q)).trans n
  there := fun b u q _ => ⟨u, k b u q⟩
  tups := fun b xs r => (hH b (hin b _ r)).trans r
  frzs := fun b o u r => (hH b (hin b _ r)).trans r
  tbls := fun b ps r => ⟨#[], by rw [Array.append_empty]; exact (hH b (hin b _ r)).trans r⟩
theorem j8 {Φ : Fx} {sc : Scope} {H0 : Hp} {fl : Fl} {rest : List Stmt} (G : aT Φ X sc) (hp : PassesOwn (model X.prog X.w) X.A X.env X.xe) : ∀ {pre : List Stmt} {ρ ρ1 : ai}, aa (az Φ pre sc ρ) (.nx ρ1) -> fJ X H0 ρ1 rest fl -> fJ X H0 ρ (pre ++ rest) fl
  | [], ρ, ρ1, h, k => by cases aG h; exact k
  | st :: ss, ρ, ρ1, h, k => by
    obtain ⟨f1, h1, h2⟩ := aq (show aa (Rs.bnd _ _) _ from h)
    cases f1 with
    | nx ρ' => exact lE ((mG Φ _).s st (Nat.lt_succ_self _) h1 G hp) (j8 G hp h2 k)
    | rt d => cases aG h2
    | bk ρ' => cases aG h2
    | ct ρ' => cases aG h2
theorem wb {P : Program} {w : World} {K : W.Frag} {mg : Str -> Option Value} {base : Heap} {k : Nat} {g : Str} {f : Addr} {fd : FuncData} {ps : List Str} {F : List D -> Rs D} (h : ci P w K mg base eT k f fd ps (gX K F)) (hm : mg g = some (.ref f)) (hk : W.keepIn K (.ref f) = true) (hb : cE K fd ps []) (hd : (g == ("__debug__" : Str)) = false) : cg P w K mg base k g F :=
  ⟨f, fd, ps, h, hm, hk, hb, hd⟩
end Sp
namespace Sp
open PySem PySem.Spec PyProof.Rows L2
variable {X : Cx}
theorem xY {ow : Ow} {H : Hp} {σ : L2.St} {ρ : ai} (E : aQ X ow H σ ρ) : aQ X (fun _ => none) H σ (dz ρ) := ⟨fun x d o h => by
  unfold dz at h
  cases e : ρ x with
  | none => rw [e] at h; cases h
  | some p =>
    rw [e] at h
    obtain ⟨i, v, e1, e2, e3, e4⟩ := E.get x p.1 p.2 (by rw [e])
    cases h
    exact ⟨i, v, e1, e2, e3, e4.imp fun _ _ _ _ => rfl⟩, fun a ha => absurd rfl ha⟩
end Sp
namespace Sp
open PySem PySem.Spec PyProof.Rows L2
variable {Φ : Fx} {sc : Scope} {ρ ρ' : ai} {fl : Fl} {ss : List Stmt}
theorem mV {c a b : Expr} {p : Pos} {it : Bool} {t : Bool} {k : Nat} {r : D × Nat} (hc : aa (au Φ c false sc ρ) (.bl t, k)) (h1 : t = true -> aa (au Φ a false sc ρ) r) (h2 : t = false -> aa (au Φ b false sc ρ) r) : aa (au Φ (.IfExp c a b p) it sc ρ) r := by
  refine aa.bnd hc (gO rfl (zj ?_))
  cases t with
  | true => exact h1 rfl
  | false => exact h2 rfl
theorem pJ {test : ai -> Rs Bool} {body : ai -> Rs Fl} (aj : Nat -> ai -> Prop) (step : ∀ m ρ, aj m ρ -> ∃ b, aa (test ρ) b /\ (b = true -> ∃ m' ρ2, m' < m /\ aa (body ρ) (.nx ρ2) /\ aj m' ρ2)) : ∀ {n m : Nat} {ρ : ai}, aj m ρ -> m < n -> ∃ m' ρ', aa (kZ test body n ρ) (.nx ρ') /\ aj m' ρ' /\ aa (test ρ') false := by
  intro n
  induction n with
  | zero => intro m ρ _ h; omega
  | succ n ih =>
    intro m ρ hi hm
    obtain ⟨b, hb, h⟩ := step m ρ hi
    cases b with
    | false => exact ⟨m, ρ, aa.bnd hb cn, hi, hb⟩
    | true =>
      obtain ⟨m', ρ2, h1, h2, h3⟩ := h rfl
      obtain ⟨m2, ρ3, h4, h5, h6⟩ := ih h3 (show m' < n by omega)
      exact ⟨m2, ρ3, aa.bnd hb (aa.bnd h2 h4), h5, h6⟩
theorem jg {c : Expr} {body : List Stmt} {p : Pos} {m : Nat} (aj : Nat -> ai -> Prop) (h0 : aj m ρ) (hm : m < bL)
    (step : ∀ m ρ, aj m ρ -> ∃ b k, aa (au Φ c false sc ρ) (.bl b, k) /\ (b = true -> ∃ m' ρ2, m' < m /\ aa (az Φ body sc ρ) (.nx ρ2) /\ aj m' ρ2)) (rest : ∀ m ρ', aj m ρ' -> (∃ k, aa (au Φ c false sc ρ') (.bl false, k)) -> aa (az Φ ss sc ρ') fl) : aa (az Φ (.While c body [] p :: ss) sc ρ) fl := by
  obtain ⟨m', ρ', h1, h2, h3⟩ := pJ (test := fun ρ => (au Φ c false sc ρ).bnd fun p => gH p fun b => .ok b []) (body := az Φ body sc) aj (fun m ρ h => by
    obtain ⟨b, k, a1, a2⟩ := step m ρ h
    exact ⟨b, a1.bnd (gO rfl cn), a2⟩) h0 hm
  obtain ⟨q, h4, h5⟩ := aq h3
  obtain ⟨t, ht, h5⟩ := fw h5
  cases aG h5
  obtain ⟨q1, q2⟩ := q
  have ht : q1 = .bl false := ht
  subst ht
  exact cj (qY h1) (rest m' ρ' h2 ⟨q2, h4⟩)
theorem j5 {m m' : Nat} {A : ai -> Prop} {P : Nat -> ai -> Prop} (h : m' < m) (k : ∃ ρ2, A ρ2 /\ P m' ρ2) : ∃ m' ρ2, m' < m /\ A ρ2 /\ P m' ρ2 := by
  obtain ⟨ρ2, a, b⟩ := k
  exact ⟨m', ρ2, h, a, b⟩
end Sp
namespace K
open PySem L2 Sp
def Jl (p q : Qd) : Qd :=
  (p.1 * q.1 - p.2.1 * q.2.1 - p.2.2.1 * q.2.2.1 - p.2.2.2 * q.2.2.2, p.1 * q.2.1 + p.2.1 * q.1 + p.2.2.1 * q.2.2.2 - p.2.2.2 * q.2.2.1,
    p.1 * q.2.2.1 - p.2.1 * q.2.2.2 + p.2.2.1 * q.1 + p.2.2.2 * q.2.1, p.1 * q.2.2.2 + p.2.1 * q.2.2.1 - p.2.2.1 * q.2.1 + p.2.2.2 * q.1)
theorem ng {p q : Qd} (h : dj p) (g : dj q) : (bn p.1 q.1 /\ bn p.2.1 q.2.1 /\ bn p.2.2.1 q.2.2.1 /\ bn p.2.2.2 q.2.2.2) /\ (bn p.1 q.2.1 /\ bn p.2.1 q.1 /\ bn p.2.2.1 q.2.2.2 /\ bn p.2.2.2 q.2.2.1) /\ (bn p.1 q.2.2.1 /\ bn p.2.1 q.2.2.2 /\ bn p.2.2.1 q.1 /\ bn p.2.2.2 q.2.1) /\ (bn p.1 q.2.2.2 /\ bn p.2.1 q.2.2.1 /\ bn p.2.2.1 q.2.1 /\ bn p.2.2.2 q.1) :=
  ⟨⟨bE h.1 g.1, bE h.2.1 g.2.1, bE h.2.2.1 g.2.2.1, bE h.2.2.2 g.2.2.2⟩, ⟨bE h.1 g.2.1, bE h.2.1 g.1, bE h.2.2.1 g.2.2.2, bE h.2.2.2 g.2.2.1⟩, ⟨bE h.1 g.2.2.1, bE h.2.1 g.2.2.2, bE h.2.2.1 g.1, bE h.2.2.2 g.2.1⟩, ⟨bE h.1 g.2.2.2, bE h.2.1 g.2.2.1, bE h.2.2.1 g.2.1, bE h.2.2.2 g.1⟩⟩
end K
namespace K
open PySem L2 Sp
end K
namespace K
open PySem L2 Sp Qm
abbrev bd (a b c d : Int) : Prop := a.natAbs < cD /\ b.natAbs < cD /\ c.natAbs < cD /\ d.natAbs < cD
theorem GO {a b c d e f g h x y z w P Q R S P2 Q2 R2 S2 U V W X P3 Q3 R3 S3 : Int}
    (hP : a * e - b * f - c * g - d * h = 2 * P) (hQ : a * f + b * e + c * h - d * g = 2 * Q) (hR : a * g - b * h + c * e + d * f = 2 * R) (hS : a * h + b * g - c * f + d * e = 2 * S)
    (kP : P * x - Q * y - R * z - S * w = 2 * P2) (kQ : P * y + Q * x + R * w - S * z = 2 * Q2) (kR : P * z - Q * w + R * x + S * y = 2 * R2) (kS : P * w + Q * z - R * y + S * x = 2 * S2)
    (hU : e * x - f * y - g * z - h * w = 2 * U) (hV : e * y + f * x + g * w - h * z = 2 * V) (hW : e * z - f * w + g * x + h * y = 2 * W) (hX : e * w + f * z - g * y + h * x = 2 * X)
    (lP : a * U - b * V - c * W - d * X = 2 * P3) (lQ : a * V + b * U + c * X - d * W = 2 * Q3) (lR : a * W - b * X + c * U + d * V = 2 * R3) (lS : a * X + b * W - c * V + d * U = 2 * S3) :
    P2 = P3 /\ Q2 = Q3 /\ R2 = R3 /\ S2 = S3 := by
  have e1 : 4 * P2 = (2 * P) * x - (2 * Q) * y - (2 * R) * z - (2 * S) * w := by grind
  have e2 : 4 * Q2 = (2 * P) * y + (2 * Q) * x + (2 * R) * w - (2 * S) * z := by grind
  have e3 : 4 * R2 = (2 * P) * z - (2 * Q) * w + (2 * R) * x + (2 * S) * y := by grind
  have e4 : 4 * S2 = (2 * P) * w + (2 * Q) * z - (2 * R) * y + (2 * S) * x := by grind
  have f1 : 4 * P3 = a * (2 * U) - b * (2 * V) - c * (2 * W) - d * (2 * X) := by grind
  have f2 : 4 * Q3 = a * (2 * V) + b * (2 * U) + c * (2 * X) - d * (2 * W) := by grind
  have f3 : 4 * R3 = a * (2 * W) - b * (2 * X) + c * (2 * U) + d * (2 * V) := by grind
  have f4 : 4 * S3 = a * (2 * X) + b * (2 * W) - c * (2 * V) + d * (2 * U) := by grind
  rw [<- hP, <- hQ, <- hR, <- hS] at e1 e2 e3 e4
  rw [<- hU, <- hV, <- hW, <- hX] at f1 f2 f3 f4
  clear hP hQ hR hS kP kQ kR kS hU hV hW hX lP lQ lR lS
  have m1 : 4 * P2 = 4 * P3 := by rw [e1, f1]; clear e1 e2 e3 e4 f1 f2 f3 f4; grind
  have m2 : 4 * Q2 = 4 * Q3 := by rw [e2, f2]; clear e1 e2 e3 e4 f1 f2 f3 f4; grind
  have m3 : 4 * R2 = 4 * R3 := by rw [e3, f3]; clear e1 e2 e3 e4 f1 f2 f3 f4; grind
  have m4 : 4 * S2 = 4 * S3 := by rw [e4, f4]; clear e1 e2 e3 e4 f1 f2 f3 f4; grind
  omega
def aI (p q : Qd) : Qd :=
  ((p.1 * q.1 - p.2.1 * q.2.1 - p.2.2.1 * q.2.2.1 - p.2.2.2 * q.2.2.2).fdiv 2, (p.1 * q.2.1 + p.2.1 * q.1 + p.2.2.1 * q.2.2.2 - p.2.2.2 * q.2.2.1).fdiv 2,
    (p.1 * q.2.2.1 - p.2.1 * q.2.2.2 + p.2.2.1 * q.1 + p.2.2.2 * q.2.1).fdiv 2, (p.1 * q.2.2.2 + p.2.1 * q.2.2.1 - p.2.2.1 * q.2.1 + p.2.2.2 * q.1).fdiv 2)
def ar (q : Qd) : Int := (q.1 * q.1 + (q.2.1 * q.2.1 + (q.2.2.1 * q.2.2.1 + (q.2.2.2 * q.2.2.2 + 0)))).fdiv 4
def ak (q : Qd) : Prop := nC q.1 q.2.1 q.2.2.1 q.2.2.2
def cA (M : Nat) (q : Qd) : Prop := q.1.natAbs <= M /\ q.2.1.natAbs <= M /\ q.2.2.1.natAbs <= M /\ q.2.2.2.natAbs <= M
def cw : Qd := (2, 0, 0, 0)
theorem bD {p q : Qd} (h : ak p) (g : ak q) : ∃ P Q R S, p.1 * q.1 - p.2.1 * q.2.1 - p.2.2.1 * q.2.2.1 - p.2.2.2 * q.2.2.2 = 2 * P /\ p.1 * q.2.1 + p.2.1 * q.1 + p.2.2.1 * q.2.2.2 - p.2.2.2 * q.2.2.1 = 2 * Q /\
    p.1 * q.2.2.1 - p.2.1 * q.2.2.2 + p.2.2.1 * q.1 + p.2.2.2 * q.2.1 = 2 * R /\ p.1 * q.2.2.2 + p.2.1 * q.2.2.1 - p.2.2.1 * q.2.1 + p.2.2.2 * q.1 = 2 * S /\ nC P Q R S /\ aI p q = (P, Q, R, S) := by
  obtain ⟨P, Q, R, S, h1, h2, h3, h4, h5⟩ := xl h g
  exact ⟨P, Q, R, S, h1, h2, h3, h4, h5, by unfold aI; rw [bM h1, bM h2, bM h3, bM h4]⟩
theorem cJ {p q : Qd} (h : ak p) (g : ak q) : ak (aI p q) := by
  obtain ⟨P, Q, R, S, h1, h2, h3, h4, h5, e⟩ := bD h g
  rw [e]; exact h5
theorem iC : ak cw := ⟨0, 1, 0, 0, 0, .inl rfl, rfl, rfl, rfl, rfl⟩
theorem dn {p q r : Qd} (h : ak p) (g : ak q) (k : ak r) : aI (aI p q) r = aI p (aI q r) := by
  obtain ⟨P, Q, R, S, hP, hQ, hR, hS, p1, e1⟩ := bD h g
  obtain ⟨U, V, W, X, hU, hV, hW, hX, p2, e2⟩ := bD g k
  obtain ⟨P2, Q2, R2, S2, kP, kQ, kR, kS, p3, e3⟩ := bD (p := (P, Q, R, S)) p1 k
  obtain ⟨P3, Q3, R3, S3, lP, lQ, lR, lS, p4, e4⟩ := bD (q := (U, V, W, X)) h p2
  rw [e1, e2, e3, e4]
  obtain ⟨q1, q2, q3, q4⟩ := GO hP hQ hR hS kP kQ kR kS hU hV hW hX lP lQ lR lS
  rw [q1, q2, q3, q4]
theorem qy (q : Qd) : aI cw q = q := by
  obtain ⟨a, b, c, d⟩ := q
  show (_, _, _, _) = _
  rw [bM (P := a) (by show 2 * a - 0 * b - 0 * c - 0 * d = _; omega), bM (P := b) (by show 2 * b + 0 * a + 0 * d - 0 * c = _; omega), bM (P := c) (by show 2 * c - 0 * d + 0 * a + 0 * b = _; omega), bM (P := d) (by show 2 * d + 0 * c - 0 * b + 0 * a = _; omega)]
theorem xq (q : Qd) : aI q cw = q := by
  obtain ⟨a, b, c, d⟩ := q
  show (_, _, _, _) = _
  rw [bM (P := a) (by show a * 2 - b * 0 - c * 0 - d * 0 = _; omega), bM (P := b) (by show a * 0 + b * 2 + c * 0 - d * 0 = _; omega), bM (P := c) (by show a * 0 - b * 0 + c * 2 + d * 0 = _; omega), bM (P := d) (by show a * 0 + b * 0 - c * 0 + d * 2 = _; omega)]
theorem xU {qs : List Qd} {p : Qd} (h : ak p) (g : ∀ q ∈ qs, ak q) : ak (qs.foldl aI p) := by
  induction qs generalizing p with
  | nil => exact h
  | cons q qs ih => exact ih (cJ h (g q (by simp))) fun r hr => g r (by simp [hr])
theorem cu {p : Qd} (h : ak p) : ∃ t, p.1 * p.1 + (p.2.1 * p.2.1 + (p.2.2.1 * p.2.2.1 + (p.2.2.2 * p.2.2.2 + 0))) = 4 * t /\ ar p = t := by
  obtain ⟨t, ht⟩ := C2 h
  exact ⟨t, ht, by unfold ar; rw [ht, fd4]⟩
theorem eF {p q : Qd} (h : ak p) (g : ak q) : ar (aI p q) = ar p * ar q := by
  obtain ⟨t1, h1, e1⟩ := cu h
  obtain ⟨t2, h2, e2⟩ := cu g
  obtain ⟨t3, h3, e3⟩ := cu (cJ h g)
  rw [e1, e2, e3]
  obtain ⟨P, Q, R, S, hP, hQ, hR, hS, p1, e⟩ := bD h g
  rw [e] at h3
  have eu := GK p.1 p.2.1 p.2.2.1 p.2.2.2 q.1 q.2.1 q.2.2.1 q.2.2.2
  rw [hP, hQ, hR, hS, h1, h2] at eu
  have : 4 * (4 * t3) = 4 * (4 * (t1 * t2)) := by rw [<- h3]; clear e h3 e1 e2 e3 h1 h2 hP hQ hR hS p1 h g; grind
  omega
theorem bj {a e : Int} {M N : Nat} (h : a.natAbs <= M) (g : e.natAbs <= N) : (a * e).natAbs <= M * N := by
  rw [Int.natAbs_mul]; exact Nat.mul_le_mul h g
theorem MV {x y z w P : Int} {K : Nat} (h1 : x.natAbs <= K) (h2 : y.natAbs <= K) (h3 : z.natAbs <= K) (h4 : w.natAbs <= K) (e : x - y - z - w = 2 * P) : P.natAbs <= 2 * K := by omega
theorem MU {x y z w P : Int} {K : Nat} (h1 : x.natAbs <= K) (h2 : y.natAbs <= K) (h3 : z.natAbs <= K) (h4 : w.natAbs <= K) (e : x + y + z - w = 2 * P) : P.natAbs <= 2 * K := by omega
theorem MT {x y z w P : Int} {K : Nat} (h1 : x.natAbs <= K) (h2 : y.natAbs <= K) (h3 : z.natAbs <= K) (h4 : w.natAbs <= K) (e : x - y + z + w = 2 * P) : P.natAbs <= 2 * K := by omega
theorem MS {x y z w P : Int} {K : Nat} (h1 : x.natAbs <= K) (h2 : y.natAbs <= K) (h3 : z.natAbs <= K) (h4 : w.natAbs <= K) (e : x + y - z + w = 2 * P) : P.natAbs <= 2 * K := by omega
theorem nS {p q : Qd} {M N : Nat} (h : cA M p) (g : cA N q) (hp : ak p) (hq : ak q) : cA (2 * (M * N)) (aI p q) := by
  obtain ⟨P, Q, R, S, hP, hQ, hR, hS, p1, e⟩ := bD hp hq
  rw [e]
  obtain ⟨a1, a2, a3, a4⟩ := h
  obtain ⟨b1, b2, b3, b4⟩ := g
  exact ⟨MV (bj a1 b1) (bj a2 b2) (bj a3 b3) (bj a4 b4) hP, MU (bj a1 b2) (bj a2 b1) (bj a3 b4) (bj a4 b3) hQ,
    MT (bj a1 b3) (bj a2 b4) (bj a3 b1) (bj a4 b2) hR, MS (bj a1 b4) (bj a2 b3) (bj a3 b2) (bj a4 b1) hS⟩
theorem dM {M : Nat} {q : Qd} (h : cA M q) (hM : M < cD) : bd q.1 q.2.1 q.2.2.1 q.2.2.2 :=
  ⟨Nat.lt_of_le_of_lt h.1 hM, Nat.lt_of_le_of_lt h.2.1 hM, Nat.lt_of_le_of_lt h.2.2.1 hM, Nat.lt_of_le_of_lt h.2.2.2 hM⟩
def bh (q : Qd) : Qd := (q.1, -q.2.1, -q.2.2.1, -q.2.2.2)
def bc (p q : Qd) : Qd := (p.1 - q.1, p.2.1 - q.2.1, p.2.2.1 - q.2.2.1, p.2.2.2 - q.2.2.2)
def bO (p q : Qd) : Qd := (p.1 + q.1, p.2.1 + q.2.1, p.2.2.1 + q.2.2.1, p.2.2.2 + q.2.2.2)
def aR (q : Qd) (n : Int) : Qd := (q.1 * n, q.2.1 * n, q.2.2.1 * n, q.2.2.2 * n)
def aD (s : Bool) (p q : Qd) : Qd := if s = true then aI p q else aI q p
def ax : Qd := (0, 0, 0, 0)
theorem cv {p q : Qd} (h1 : p.1 = q.1) (h2 : p.2.1 = q.2.1) (h3 : p.2.2.1 = q.2.2.1) (h4 : p.2.2.2 = q.2.2.2) : p = q := by
  obtain ⟨a, b, c, d⟩ := p
  obtain ⟨e, f, g, h⟩ := q
  cases h1; cases h2; cases h3; cases h4; rfl
theorem y0 {a b x y e f : Int} (h : a = 2 * x + e) (g : b = 2 * y + f) : a - b = 2 * (x - y) + (e - f) := by omega
theorem sR {a b x y e f : Int} (h : a = 2 * x + e) (g : b = 2 * y + f) : a + b = 2 * (x + y) + (e + f) := by omega
theorem uf {a b c d x y z w : Int} {n : Int} (h1 : a = 2 * x + n) (h2 : b = 2 * y + n) (h3 : c = 2 * z + n) (h4 : d = 2 * w + n) : nC a b c d := by
  have k : ∀ {u v : Int}, u = 2 * v + n -> u = 2 * (v + n / 2) + n % 2 := by omega
  exact ⟨n % 2, _, _, _, _, Int.emod_two_eq n, k h1, k h2, k h3, k h4⟩
theorem CN {a x e : Int} (h : a = 2 * x + e) : -a = 2 * (-x - e) + e := by omega
theorem bZ {q : Qd} (h : ak q) : ak (bh q) := by
  obtain ⟨e, x, y, z, w, he, h1, h2, h3, h4⟩ := h
  exact ⟨e, x, _, _, _, he, h1, CN h2, CN h3, CN h4⟩
theorem bG {p q : Qd} (h : ak p) (g : ak q) : ak (bc p q) := by
  obtain ⟨e, x, y, z, w, he, h1, h2, h3, h4⟩ := h
  obtain ⟨e', x', y', z', w', he', g1, g2, g3, g4⟩ := g
  exact uf (y0 h1 g1) (y0 h2 g2) (y0 h3 g3) (y0 h4 g4)
theorem e7 {p q : Qd} (h : ak p) (g : ak q) : ak (bO p q) := by
  obtain ⟨e, x, y, z, w, he, h1, h2, h3, h4⟩ := h
  obtain ⟨e', x', y', z', w', he', g1, g2, g3, g4⟩ := g
  exact uf (sR h1 g1) (sR h2 g2) (sR h3 g3) (sR h4 g4)
theorem yY {a x e : Int} (he : e = 0 \/ e = 1) (h : a = 2 * x + e) : a % 2 = e := by omega
theorem hJ {q : Qd} : ak q ↔ q.2.1 % 2 = q.1 % 2 /\ q.2.2.1 % 2 = q.1 % 2 /\ q.2.2.2 % 2 = q.1 % 2 := by
  constructor
  . rintro ⟨e, x, y, z, w, he, h1, h2, h3, h4⟩
    rw [yY he h1, yY he h2, yY he h3, yY he h4]
    exact ⟨rfl, rfl, rfl⟩
  . rintro ⟨h1, h2, h3⟩
    have k : ∀ a : Int, a = 2 * (a / 2) + a % 2 := fun a => (Int.mul_ediv_add_emod a 2).symm
    exact ⟨q.1 % 2, _, _, _, _, Int.emod_two_eq _, k _, by rw [<- h1]; exact k _, by rw [<- h2]; exact k _, by rw [<- h3]; exact k _⟩
theorem yZ {a x e n : Int} (h : a = 2 * x + e) : a * n = 2 * (x * n) + e * n := by rw [h, Int.add_mul, Int.mul_assoc]
theorem eG {q : Qd} (n : Int) (h : ak q) : ak (aR q n) := by
  obtain ⟨e, x, y, z, w, he, h1, h2, h3, h4⟩ := h
  exact uf (yZ h1) (yZ h2) (yZ h3) (yZ h4)
theorem fY : ak ax := ⟨0, 0, 0, 0, 0, .inl rfl, rfl, rfl, rfl, rfl⟩
theorem bJ {s : Bool} {p q : Qd} (h : ak p) (g : ak q) : ak (aD s p q) := by
  unfold aD; split
  . exact cJ h g
  . exact cJ g h
theorem ju {a b c P U P3 : Int} (h : a = 2 * P) (g : b = 2 * U) (k : c = 2 * P3) (e : c = a - b) : P3 = P - U := by omega
theorem lj {p r q : Qd} (h : ak p) (k : ak r) (g : ak q) : aI (bc p r) q = bc (aI p q) (aI r q) := by
  obtain ⟨P, Q, R, S, hP, hQ, hR, hS, _, e1⟩ := bD h g
  obtain ⟨U, V, W, X, hU, hV, hW, hX, _, e2⟩ := bD k g
  obtain ⟨P3, Q3, R3, S3, lP, lQ, lR, lS, _, e3⟩ := bD (bG h k) g
  rw [e1, e2, e3]
  simp only [bc] at *
  clear e1 e2 e3 h k g
  refine cv ?_ ?_ ?_ ?_
  . exact ju hP hU lP (by simp only [Int.sub_mul, Int.mul_sub]; omega)
  . exact ju hQ hV lQ (by simp only [Int.sub_mul, Int.mul_sub]; omega)
  . exact ju hR hW lR (by simp only [Int.sub_mul, Int.mul_sub]; omega)
  . exact ju hS hX lS (by simp only [Int.sub_mul, Int.mul_sub]; omega)
theorem li {p r q : Qd} (h : ak p) (k : ak r) (g : ak q) : aI q (bc p r) = bc (aI q p) (aI q r) := by
  obtain ⟨P, Q, R, S, hP, hQ, hR, hS, _, e1⟩ := bD g h
  obtain ⟨U, V, W, X, hU, hV, hW, hX, _, e2⟩ := bD g k
  obtain ⟨P3, Q3, R3, S3, lP, lQ, lR, lS, _, e3⟩ := bD g (bG h k)
  rw [e1, e2, e3]
  simp only [bc] at *
  clear e1 e2 e3 h k g
  refine cv ?_ ?_ ?_ ?_
  . exact ju hP hU lP (by simp only [Int.sub_mul, Int.mul_sub]; omega)
  . exact ju hQ hV lQ (by simp only [Int.sub_mul, Int.mul_sub]; omega)
  . exact ju hR hW lR (by simp only [Int.sub_mul, Int.mul_sub]; omega)
  . exact ju hS hX lS (by simp only [Int.sub_mul, Int.mul_sub]; omega)
theorem cV (k : Qd) (n : Int) : aI k (2 * n, 0, 0, 0) = aR k n := by
  obtain ⟨a, b, c, d⟩ := k
  show (_, _, _, _) = (a * n, b * n, c * n, d * n)
  rw [bM (P := a * n) (by show a * (2 * n) - b * 0 - c * 0 - d * 0 = _; grind), bM (P := b * n) (by show a * 0 + b * (2 * n) + c * 0 - d * 0 = _; grind), bM (P := c * n) (by show a * 0 - b * 0 + c * (2 * n) + d * 0 = _; grind), bM (P := d * n) (by show a * 0 + b * 0 - c * 0 + d * (2 * n) = _; grind)]
theorem fi (k : Qd) (n : Int) : aI (2 * n, 0, 0, 0) k = aR k n := by
  obtain ⟨a, b, c, d⟩ := k
  show (_, _, _, _) = (a * n, b * n, c * n, d * n)
  rw [bM (P := a * n) (by show 2 * n * a - 0 * b - 0 * c - 0 * d = _; grind), bM (P := b * n) (by show 2 * n * b + 0 * a + 0 * d - 0 * c = _; grind), bM (P := c * n) (by show 2 * n * c - 0 * d + 0 * a + 0 * b = _; grind), bM (P := d * n) (by show 2 * n * d + 0 * c - 0 * b + 0 * a = _; grind)]
theorem f7 {q : Qd} (h : ak q) : aI q (bh q) = (2 * ar q, 0, 0, 0) /\ aI (bh q) q = (2 * ar q, 0, 0, 0) := by
  obtain ⟨t, ht, e⟩ := cu h
  obtain ⟨a, b, c, d⟩ := q
  rw [e]
  simp only at ht
  constructor
  . show (_, _, _, _) = _
    rw [bM (P := 2 * t) (by show a * a - b * -b - c * -c - d * -d = _; grind), bM (P := 0) (by show a * -b + b * a + c * -d - d * -c = _; grind), bM (P := 0) (by show a * -c - b * -d + c * a + d * -b = _; grind), bM (P := 0) (by show a * -d + b * -c - c * -b + d * a = _; grind)]
  . show (_, _, _, _) = _
    rw [bM (P := 2 * t) (by show a * a - -b * b - -c * c - -d * d = _; grind), bM (P := 0) (by show a * b + -b * a + -c * d - -d * c = _; grind), bM (P := 0) (by show a * c - -b * d + -c * a + -d * b = _; grind), bM (P := 0) (by show a * d + -b * c - -c * b + -d * a = _; grind)]
theorem j7 (q : Qd) : ar (bh q) = ar q := by unfold ar bh; simp only [Int.neg_mul_neg]
theorem dN (x : Int) : 0 <= x * x := by
  rcases Int.le_total 0 x with h | h
  . exact Int.mul_nonneg h h
  . have := Int.mul_nonneg (show 0 <= -x by omega) (show 0 <= -x by omega); rwa [Int.neg_mul_neg] at this
theorem c7 {q : Qd} (h : ak q) : 0 <= ar q := by
  obtain ⟨t, ht, e⟩ := cu h
  have := dN q.1; have := dN q.2.1; have := dN q.2.2.1; have := dN q.2.2.2
  omega
theorem j9 {x : Int} (h : x * x = 0) : x = 0 := by rcases Int.mul_eq_zero.mp h with h | h <;> exact h
theorem lD {q : Qd} (h : ak q) (g : ar q = 0) : q = ax := by
  obtain ⟨t, ht, e⟩ := cu h
  have := dN q.1; have := dN q.2.1; have := dN q.2.2.1; have := dN q.2.2.2
  exact cv (j9 (by omega)) (j9 (by omega)) (j9 (by omega)) (j9 (by omega))
theorem eU {q : Qd} (h : ak q) (g : q ≠ ax) : 0 < ar q := by
  have := c7 h
  have : ar q ≠ 0 := fun z => g (lD h z)
  omega
def fy (x n : Int) : Int := (x + n).fdiv (2 * n) * 2
def f6 (x n : Int) : Int := x.fdiv (2 * n) * 2 + 1
def fI (q : Qd) (n : Int) : Qd := (fy q.1 n, fy q.2.1 n, fy q.2.2.1 n, fy q.2.2.2 n)
def gC (q : Qd) (n : Int) : Qd := (f6 q.1 n, f6 q.2.1 n, f6 q.2.2.1 n, f6 q.2.2.2 n)
def eV (q t : Qd) (n : Int) : Int := ar (bc q (aR t n))
def dm (q : Qd) (n : Int) : Qd := if eV q (fI q n) n <= eV q (gC q n) n then fI q n else gC q n
theorem gD {x n : Int} (h : 0 < n) : (x - fy x n * n) * (x - fy x n * n) + (x - f6 x n * n) * (x - f6 x n * n) <= n * n := by
  unfold fy f6
  rw [Int.fdiv_eq_ediv_of_nonneg _ (by omega), Int.fdiv_eq_ediv_of_nonneg _ (by omega)]
  have e := Int.mul_ediv_add_emod x (2 * n)
  have r0 := Int.emod_nonneg x (show 2 * n ≠ 0 by omega)
  have r1 := Int.emod_lt_of_pos x (show 0 < 2 * n by omega)
  generalize x % (2 * n) = r at *
  generalize hk : x / (2 * n) = k at *
  have hx : x = 2 * n * k + r := by omega
  by_cases hr : r < n
  . have hd : (x + n) / (2 * n) = k := by
      rw [hx, show 2 * n * k + r + n = (r + n) + 2 * n * k by omega, Int.add_mul_ediv_left _ _ (by omega), Int.ediv_eq_zero_of_lt (by omega) (by omega)]; omega
    rw [hd]
    have h1 : x - k * 2 * n = r := by rw [hx]; grind
    have h2 : x - (k * 2 + 1) * n = r - n := by rw [hx]; grind
    rw [h1, h2]
    have := Int.mul_nonneg r0 (show 0 <= n - r by omega)
    have e2 : r * r + (r - n) * (r - n) = n * n - 2 * (r * (n - r)) := by grind
    omega
  . have hd : (x + n) / (2 * n) = k + 1 := by
      rw [hx, show 2 * n * k + r + n = (r - n) + 2 * n * (k + 1) by grind, Int.add_mul_ediv_left _ _ (by omega), Int.ediv_eq_zero_of_lt (by omega) (by omega)]; omega
    rw [hd]
    have h1 : x - (k + 1) * 2 * n = r - 2 * n := by rw [hx]; grind
    have h2 : x - (k * 2 + 1) * n = r - n := by rw [hx]; grind
    rw [h1, h2]
    have := Int.mul_nonneg (show 0 <= r - n by omega) (show 0 <= 2 * n - r by omega)
    have e2 : (r - 2 * n) * (r - 2 * n) + (r - n) * (r - n) = n * n - 2 * ((r - n) * (2 * n - r)) := by grind
    omega
theorem nN (q : Qd) (n : Int) : ak (fI q n) := ⟨0, (q.1 + n).fdiv (2 * n), (q.2.1 + n).fdiv (2 * n), (q.2.2.1 + n).fdiv (2 * n), (q.2.2.2 + n).fdiv (2 * n), .inl rfl, by simp only [fI, fy]; omega, by simp only [fI, fy]; omega, by simp only [fI, fy]; omega, by simp only [fI, fy]; omega⟩
theorem nM (q : Qd) (n : Int) : ak (gC q n) := ⟨1, q.1.fdiv (2 * n), q.2.1.fdiv (2 * n), q.2.2.1.fdiv (2 * n), q.2.2.2.fdiv (2 * n), .inr rfl, by simp only [gC, f6]; omega, by simp only [gC, f6]; omega, by simp only [gC, f6]; omega, by simp only [gC, f6]; omega⟩
theorem AL {q : Qd} {n : Int} (h : ak q) (g : 0 < n) : ak (dm q n) /\ 2 * eV q (dm q n) n <= n * n := by
  have c1 := gD (x := q.1) g
  have c2 := gD (x := q.2.1) g
  have c3 := gD (x := q.2.2.1) g
  have c4 := gD (x := q.2.2.2) g
  obtain ⟨t1, h1, e1⟩ := cu (bG h (eG n (nN q n)))
  obtain ⟨t2, h2, e2⟩ := cu (bG h (eG n (nM q n)))
  have s1 : eV q (fI q n) n = t1 := e1
  have s2 : eV q (gC q n) n = t2 := e2
  simp only [bc, aR, fI, gC] at h1 h2
  have : t1 + t2 <= n * n := by omega
  unfold dm
  split
  . exact ⟨nN q n, by rw [s1] at *; omega⟩
  . exact ⟨nM q n, by rw [s2] at *; omega⟩
theorem uo {k : Qd} {n : Int} (h : ak k) (g : 0 < n) : dm (aR k n) n = k := by
  have hp := eG n h
  obtain ⟨e, x, y, z, w, he, h1, h2, h3, h4⟩ := h
  have ev : ∀ (a b : Int), a = 2 * b -> fy (a * n) n = a := fun a b hab => by
    unfold fy
    rw [Int.fdiv_eq_ediv_of_nonneg _ (by omega), hab, show 2 * b * n + n = n + 2 * n * b by grind, Int.add_mul_ediv_left _ _ (by omega), Int.ediv_eq_zero_of_lt (by omega) (by omega)]; omega
  have od : ∀ (a b : Int), a = 2 * b + 1 -> f6 (a * n) n = a := fun a b hab => by
    unfold f6
    rw [Int.fdiv_eq_ediv_of_nonneg _ (by omega), hab, show (2 * b + 1) * n = n + 2 * n * b by grind, Int.add_mul_ediv_left _ _ (by omega), Int.ediv_eq_zero_of_lt (by omega) (by omega)]; omega
  have eo : ∀ (a b : Int), a = 2 * b + 1 -> a * n - fy (a * n) n * n = -n := fun a b hab => by
    unfold fy
    rw [Int.fdiv_eq_ediv_of_nonneg _ (by omega), hab, show (2 * b + 1) * n + n = 0 + 2 * n * (b + 1) by grind, Int.add_mul_ediv_left _ _ (by omega), Int.zero_ediv]; grind
  have zz : eV (aR k n) k n = 0 := by
    unfold eV bc aR ar
    simp only [Int.sub_self]; decide
  rcases he with rfl | rfl
  . have hev : fI (aR k n) n = k := cv (ev _ x (by omega)) (ev _ y (by omega)) (ev _ z (by omega)) (ev _ w (by omega))
    unfold dm
    rw [hev, zz, if_pos]
    exact c7 (bG hp (eG n (nM _ n)))
  . have hod : gC (aR k n) n = k := cv (od _ x (by omega)) (od _ y (by omega)) (od _ z (by omega)) (od _ w (by omega))
    obtain ⟨t, ht, e⟩ := cu (bG hp (eG n (nN (aR k n) n)))
    have s1 : eV (aR k n) (fI (aR k n) n) n = t := e
    simp only [bc, fI] at ht
    simp only [aR] at ht
    rw [eo _ x (by omega), eo _ y (by omega), eo _ z (by omega), eo _ w (by omega), Int.neg_mul_neg] at ht
    have := Int.mul_pos g g
    unfold dm
    rw [hod, zz, s1, if_neg (by omega)]
def cI (s : Bool) (p q : Qd) : Qd := dm (aD s p (bh q)) (ar q)
def cP (s : Bool) (p q : Qd) : Qd := bc p (aD s (cI s p q) q)
theorem lG {s : Bool} {p q k : Qd} (hp : ak p) (hq : ak q) (hk : ak k) : aD s (bc p (aD s k q)) (bh q) = bc (aD s p (bh q)) (aR k (ar q)) := by
  have hb := bZ hq
  unfold aD
  cases s with
  | true =>
    simp only [if_true]
    rw [lj hp (cJ hk hq) hb, dn hk hq hb, (f7 hq).1, cV]
  | false =>
    simp only [Bool.false_eq_true, if_false]
    rw [li hp (cJ hq hk) hb, <- dn hb hq hk, (f7 hq).2, fi]
theorem gU {s : Bool} {p q : Qd} (hp : ak p) (hq : ak q) : ar (aD s p q) = ar p * ar q := by
  unfold aD
  split
  . exact eF hp hq
  . rw [eF hq hp, Int.mul_comm]
theorem jF {s : Bool} {p q : Qd} (hp : ak p) (hq : ak q) (h0 : q ≠ ax) : ak (cI s p q) /\ ak (cP s p q) /\ 2 * ar (cP s p q) <= ar q := by
  have hn := eU hq h0
  obtain ⟨hk, hs⟩ := AL (bJ (s := s) hp (bZ hq)) hn
  have hr : ak (cP s p q) := bG hp (bJ hk hq)
  refine ⟨hk, hr, ?_⟩
  have e := gU (s := s) hr (bZ hq)
  rw [j7] at e
  have e2 : ar (aD s (cP s p q) (bh q)) = eV (aD s p (bh q)) (cI s p q) (ar q) := by
    unfold cP eV
    rw [lG (k := cI s p q) hp hq hk]
  rw [e] at e2
  have hs' : 2 * (ar (cP s p q) * ar q) <= ar q * ar q := by rw [e2]; exact hs
  have h3 : 2 * ar (cP s p q) * ar q <= ar q * ar q := by rw [Int.mul_assoc]; exact hs'
  exact Int.le_of_mul_le_mul_right h3 hn
theorem wj {s : Bool} {p q k : Qd} (hp : ak p) (hq : ak q) (h0 : q ≠ ax) (hk : ak k) (h : aD s p (bh q) = aR k (ar q)) : cI s p q = k /\ cP s p q = ax := by
  have hn := eU hq h0
  have e1 : cI s p q = k := by unfold cI; rw [h, uo hk hn]
  have hr : ak (cP s p q) := bG hp (bJ (by rw [e1]; exact hk) hq)
  refine ⟨e1, lD hr ?_⟩
  have e := gU (s := s) hr (bZ hq)
  have e2 := lG (s := s) hp hq hk
  have e3 : aD s (cP s p q) (bh q) = ax := by
    unfold cP
    rw [e1, e2, h]
    unfold bc ax
    simp only [Int.sub_self]
  rw [e3, j7] at e
  have : ar ax = 0 := by decide
  rw [this] at e
  rcases Int.mul_eq_zero.mp e.symm with z | z
  . exact z
  . omega
end K
namespace K
open PySem L2 Sp Qm
abbrev vA (q t : Qd) (n : Int) : Prop := dj t /\ n.natAbs < cD /\ dj (bc q (aR t n))
abbrev xo (q : Qd) (n : Int) : Prop := 0 < n /\ (2 * n).natAbs < cD /\ vA q (fI q n) n /\ vA q (gC q n) n
abbrev okD (s : Bool) (p q : Qd) : Prop := dj p /\ dj q /\ dj (bh q) /\ xo (aD s p (bh q)) (ar q) /\ dj (cI s p q)
theorem du {M N : Nat} {q : Qd} (h : cA M q) (g : M <= N) : cA N q := ⟨Nat.le_trans h.1 g, Nat.le_trans h.2.1 g, Nat.le_trans h.2.2.1 g, Nat.le_trans h.2.2.2 g⟩
theorem nT {M : Nat} {q : Qd} (h : cA M q) : cA M (bh q) := ⟨h.1, by simp only [bh, Int.natAbs_neg]; exact h.2.1, by simp only [bh, Int.natAbs_neg]; exact h.2.2.1, by simp only [bh, Int.natAbs_neg]; exact h.2.2.2⟩
theorem AQ {s : Bool} {M N : Nat} {p q : Qd} (h : cA M p) (g : cA N q) (hp : ak p) (hq : ak q) : cA (2 * (M * N)) (aD s p q) := by
  unfold aD; split
  . exact nS h g hp hq
  . rw [Nat.mul_comm M N]; exact nS g h hq hp
theorem ut {x y : Int} {M N : Nat} (h : x.natAbs <= M) (g : y.natAbs <= N) : (x - y).natAbs <= M + N := by omega
theorem ur {x y : Int} {M N : Nat} (h : x.natAbs <= M) (g : y.natAbs <= N) : (x + y).natAbs <= M + N := by omega
theorem lK {M N : Nat} {p q : Qd} (h : cA M p) (g : cA N q) : cA (M + N) (bc p q) := ⟨ut h.1 g.1, ut h.2.1 g.2.1, ut h.2.2.1 g.2.2.1, ut h.2.2.2 g.2.2.2⟩
theorem AO {M N : Nat} {p q : Qd} (h : cA M p) (g : cA N q) : cA (M + N) (bO p q) := ⟨ur h.1 g.1, ur h.2.1 g.2.1, ur h.2.2.1 g.2.2.1, ur h.2.2.2 g.2.2.2⟩
theorem qC {M N : Nat} {q : Qd} {n : Int} (h : cA M q) (g : n.natAbs <= N) : cA (M * N) (aR q n) := ⟨bj h.1 g, bj h.2.1 g, bj h.2.2.1 g, bj h.2.2.2 g⟩
theorem tJ (x : Int) {n : Int} (h : 0 < n) : (x.fdiv n).natAbs <= x.natAbs := by
  rw [Int.fdiv_eq_ediv_of_nonneg _ (by omega)]
  exact Int.natAbs_ediv_le_natAbs x n
theorem vL {M N : Nat} {q : Qd} {n : Int} (h : cA M q) (g : n.natAbs <= N) (hn : 0 < n) : cA (2 * (M + N)) (fI q n) := by
  have k : ∀ x : Int, x.natAbs <= M -> (fy x n).natAbs <= 2 * (M + N) := fun x hx => by
    have := tJ (x + n) (show 0 < 2 * n by omega)
    unfold fy; omega
  exact ⟨k _ h.1, k _ h.2.1, k _ h.2.2.1, k _ h.2.2.2⟩
theorem vK {M : Nat} {q : Qd} {n : Int} (h : cA M q) (hn : 0 < n) : cA (2 * M + 1) (gC q n) := by
  have k : ∀ x : Int, x.natAbs <= M -> (f6 x n).natAbs <= 2 * M + 1 := fun x hx => by
    have := tJ x (show 0 < 2 * n by omega)
    unfold f6; omega
  exact ⟨k _ h.1, k _ h.2.1, k _ h.2.2.1, k _ h.2.2.2⟩
theorem xw {M N : Nat} {q : Qd} {n : Int} (h : cA M q) (g : n.natAbs <= N) (hn : 0 < n) : cA (2 * (M + N) + 1) (dm q n) := by
  unfold dm; split
  . exact du (vL h g hn) (by omega)
  . exact du (vK h hn) (by omega)
theorem vm {q : Qd} {M : Nat} (h : cA M q) : (ar q).natAbs <= M * M := by
  obtain ⟨a1, a2, a3, a4⟩ := h
  have c1 := bj a1 a1; have c2 := bj a2 a2; have c3 := bj a3 a3; have c4' := bj a4 a4
  unfold ar
  rw [Int.fdiv_eq_ediv_of_nonneg _ (by decide)]
  generalize q.1 * q.1 = x at *
  generalize q.2.1 * q.2.1 = y at *
  generalize q.2.2.1 * q.2.2.1 = z at *
  generalize q.2.2.2 * q.2.2.2 = w at *
  generalize M * M = K at *
  omega
theorem dH {M : Nat} {q : Qd} {n : Int} (h : cA M q) (g : n.natAbs <= M) (hn : 0 < n) (hM : 4 * M + 1 + (4 * M + 1) * M < cD) : xo q n := by
  have hM0 : 4 * M + 1 < cD := Nat.lt_of_le_of_lt (Nat.le_add_right _ _) hM
  have e1 : cA (4 * M + 1) (fI q n) := du (vL h g hn) (by omega)
  have e2 : cA (4 * M + 1) (gC q n) := du (vK h hn) (by omega)
  refine ⟨hn, by omega, ⟨dM e1 hM0, by omega, ?_⟩, dM e2 hM0, by omega, ?_⟩
  . exact dM (du (lK h (qC e1 g)) (by omega)) hM
  . exact dM (du (lK h (qC e2 g)) (by omega)) hM
def yf (L : Nat) : Prop := 1 <= L /\ 4 * (2 * (L * L)) + 1 + (4 * (2 * (L * L)) + 1) * (2 * (L * L)) < cD
theorem vB {s : Bool} {L : Nat} {p q : Qd} (hp : ak p) (hq : ak q) (h0 : q ≠ ax) (h : cA L p) (g : cA L q) (hL : yf L) : okD s p q := by
  obtain ⟨h1, hL⟩ := hL
  have hn := eU hq h0
  have hLL : L <= L * L := Nat.le_mul_of_pos_left L h1
  have hb : 4 * (2 * (L * L)) + 1 < cD := Nat.lt_of_le_of_lt (Nat.le_add_right _ _) hL
  have hLb : L < cD := by omega
  have w := AQ (s := s) h (nT g) hp (bZ hq)
  have sz := vm g
  refine ⟨dM h hLb, dM g hLb, dM (nT g) hLb, dH w (by omega) hn hL, ?_⟩
  unfold cI
  exact dM (du (xw w (N := 2 * (L * L)) (by omega) hn) (by omega)) hb
theorem rE {n : Nat} (h : n <= 2000) : yf (2 ^ n) := by
  refine ⟨Nat.one_le_two_pow, ?_⟩
  have e : 2 ^ n * 2 ^ n = 2 ^ (n + n) := (Nat.pow_add 2 n n).symm
  rw [e]
  have k : 2 ^ (n + n) <= 2 ^ 4000 := Nat.pow_le_pow_right (by decide) (by omega)
  generalize 2 ^ (n + n) = x at k
  have b1 : (4 * (2 * x) + 1) * (2 * x) <= 9 * 2 ^ 4000 * (2 * 2 ^ 4000) := Nat.mul_le_mul (by have : 1 <= 2 ^ 4000 := Nat.one_le_two_pow; omega) (by omega)
  have b2 : 9 * 2 ^ 4000 * (2 * 2 ^ 4000) = 18 * 2 ^ 8000 := by rw [show (8000 : Nat) = 4000 + 4000 from rfl, Nat.pow_add]; generalize 2 ^ 4000 = y; grind
  have b3 : 2 ^ 4000 <= 2 ^ 8000 := Nat.pow_le_pow_right (by decide) (by decide)
  have b4 : 32 * 2 ^ 8000 = 2 ^ 8005 := by rw [show (8005 : Nat) = 5 + 8000 from rfl, Nat.pow_add 2 5 8000]
  have b5 : 2 ^ 8005 < cD := Nat.pow_lt_pow_right (by decide) (by decide)
  have b6 : 1 <= 2 ^ 8000 := Nat.one_le_two_pow
  rw [b2] at b1
  generalize 2 ^ 4000 = y at *
  generalize 2 ^ 8000 = z at *
  generalize (4 * (2 * x) + 1) * (2 * x) = w at *
  omega
def n8 (q : Qd) (n : Int) : Qd := (q.1.fdiv n, q.2.1.fdiv n, q.2.2.1.fdiv n, q.2.2.2.fdiv n)
abbrev Di (q : Qd) (n : Int) : Prop := q.1.fmod n = 0 /\ q.2.1.fmod n = 0 /\ q.2.2.1.fmod n = 0 /\ q.2.2.2.fmod n = 0
abbrev ug (q : Qd) : Prop := q.2.1.fmod 2 = q.1.fmod 2 /\ q.2.2.1.fmod 2 = q.1.fmod 2 /\ q.2.2.2.fmod 2 = q.1.fmod 2
def wf (W : Qd) (n : Int) : D := if Di W n /\ ug (n8 W n) then dq (n8 W n) else .non
def qG (s : Bool) (p q : Qd) : D := wf (aD s p (bh q)) (ar q)
theorem lJ {q : Qd} : ug q ↔ ak q := by
  rw [hJ]; unfold ug; simp only [Int.fmod_eq_emod_of_nonneg _ (show (0 : Int) <= 2 by decide)]
theorem bU (a : Int) {n : Int} (h : 0 < n) : (a * n).fmod n = 0 /\ (a * n).fdiv n = a := by
  rw [Int.fmod_eq_emod_of_nonneg _ (by omega), Int.fdiv_eq_ediv_of_nonneg _ (by omega)]
  exact ⟨Int.mul_emod_left _ _, Int.mul_ediv_cancel _ (by omega)⟩
theorem Bn {k W : Qd} {n : Int} (hn : 0 < n) (hk : ak k) (h : W = aR k n) : wf W n = dq k := by
  subst h
  have hd : n8 (aR k n) n = k := cv (bU _ hn).2 (bU _ hn).2 (bU _ hn).2 (bU _ hn).2
  unfold wf
  rw [hd, if_pos ⟨⟨(bU _ hn).1, (bU _ hn).1, (bU _ hn).1, (bU _ hn).1⟩, lJ.mpr hk⟩]
theorem xV {W : Qd} {n : Int} (hn : 0 < n) : (∃ k, ak k /\ W = aR k n /\ wf W n = dq k) \/ (wf W n = .non /\ ∀ k, ak k -> W ≠ aR k n) := by
  by_cases h : Di W n /\ ug (n8 W n)
  . refine .inl ⟨n8 W n, lJ.mp h.2, ?_, if_pos h⟩
    have e : ∀ x : Int, x.fmod n = 0 -> x = x.fdiv n * n := fun x hx => by
      have := Int.mul_fdiv_add_fmod x n
      rw [hx, Int.add_zero, Int.mul_comm] at this; exact this.symm
    exact cv (e _ h.1.1) (e _ h.1.2.1) (e _ h.1.2.2.1) (e _ h.1.2.2.2)
  . refine .inr ⟨if_neg h, fun k hk e => h ?_⟩
    have hd : n8 (aR k n) n = k := cv (bU _ hn).2 (bU _ hn).2 (bU _ hn).2 (bU _ hn).2
    subst e
    exact ⟨⟨(bU _ hn).1, (bU _ hn).1, (bU _ hn).1, (bU _ hn).1⟩, by rw [hd]; exact lJ.mpr hk⟩
theorem pj (x : Int) : (x.natAbs : Int) <= x * x := by
  rw [<- Int.natAbs_mul_self' x]
  have : x.natAbs <= x.natAbs * x.natAbs := by
    rcases Nat.eq_zero_or_pos x.natAbs with h | h
    . omega
    . exact Nat.le_mul_of_pos_left _ h
  exact_mod_cast this
theorem jt {q : Qd} {K : Nat} (h : ak q) (g : ar q <= K) : cA (4 * K) q := by
  obtain ⟨t, ht, e⟩ := cu h
  rw [e] at g
  have s1 := dN q.1; have s2 := dN q.2.1; have s3 := dN q.2.2.1; have s4 := dN q.2.2.2
  have r1 := pj q.1; have r2 := pj q.2.1; have r3 := pj q.2.2.1; have r4 := pj q.2.2.2
  refine ⟨?_, ?_, ?_, ?_⟩ <;> omega
def nY (s : Bool) (p q : Qd) : D := if cP s p q = ax then dq (cI s p q) else .non
theorem xE {p q : Qd} (h : bc p q = ax) : p = q := by
  unfold bc ax at h
  have h1 := congrArg (·.1) h
  have h2 := congrArg (·.2.1) h
  have h3 := congrArg (·.2.2.1) h
  have h4 := congrArg (·.2.2.2) h
  simp only at h1 h2 h3 h4
  exact cv (by omega) (by omega) (by omega) (by omega)
theorem kr (q : Qd) : aI ax q = ax /\ aI q ax = ax := by
  unfold aI ax
  simp only [Int.zero_mul, Int.mul_zero, Int.sub_zero, Int.add_zero]
  exact ⟨by decide, by decide⟩
theorem ik (s : Bool) (q : Qd) : aD s ax q = ax := by
  unfold aD; split
  . exact (kr q).1
  . exact (kr q).2
theorem Bl {s : Bool} {p q : Qd} (hp : ak p) (hq : ak q) (h0 : q ≠ ax) : nY s p q = qG s p q := by
  obtain ⟨d1, d2, _⟩ := jF (s := s) hp hq h0
  rcases xV (W := aD s p (bh q)) (eU hq h0) with ⟨k, k1, k2, k3⟩ | ⟨k1, k2⟩
  . obtain ⟨e1, e2⟩ := wj hp hq h0 k1 k2
    unfold nY qG
    rw [if_pos e2, e1, k3]
  . unfold qG
    rw [k1]
    refine if_neg fun e => k2 _ d1 (xE ?_)
    rw [<- lG hp hq d1]
    show aD s (cP s p q) (bh q) = _
    rw [e, ik]
theorem yg {s : Bool} {q : Qd} (hq : ak q) : aD s q (bh q) = aR cw (ar q) := by
  have e : aR cw (ar q) = (2 * ar q, 0, 0, 0) := by unfold aR cw; simp
  rw [e]
  unfold aD; split
  . exact (f7 hq).1
  . exact (f7 hq).2
theorem mz {p r q : Qd} (h : ak p) (k : ak r) (g : ak q) : aI (bO p r) q = bO (aI p q) (aI r q) := by
  obtain ⟨P, Q, R, S, hP, hQ, hR, hS, _, e1⟩ := bD h g
  obtain ⟨U, V, W, X, hU, hV, hW, hX, _, e2⟩ := bD k g
  obtain ⟨P3, Q3, R3, S3, lP, lQ, lR, lS, _, e3⟩ := bD (e7 h k) g
  rw [e1, e2, e3]
  simp only [bO] at *
  clear e1 e2 e3 h k g
  refine cv ?_ ?_ ?_ ?_
  . show P3 = P + U; grind
  . show Q3 = Q + V; grind
  . show R3 = R + W; grind
  . show S3 = S + X; grind
theorem my {p r q : Qd} (h : ak p) (k : ak r) (g : ak q) : aI q (bO p r) = bO (aI q p) (aI q r) := by
  obtain ⟨P, Q, R, S, hP, hQ, hR, hS, _, e1⟩ := bD g h
  obtain ⟨U, V, W, X, hU, hV, hW, hX, _, e2⟩ := bD g k
  obtain ⟨P3, Q3, R3, S3, lP, lQ, lR, lS, _, e3⟩ := bD g (e7 h k)
  rw [e1, e2, e3]
  simp only [bO] at *
  clear e1 e2 e3 h k g
  refine cv ?_ ?_ ?_ ?_
  . show P3 = P + U; grind
  . show Q3 = Q + V; grind
  . show R3 = R + W; grind
  . show S3 = S + X; grind
theorem o8 {s : Bool} {p r q : Qd} (h : ak p) (k : ak r) (g : ak q) : aD s (bO p r) q = bO (aD s p q) (aD s r q) := by
  unfold aD; cases s
  . exact my h k g
  . exact mz h k g
theorem o7 {s : Bool} {p r q : Qd} (h : ak p) (k : ak r) (g : ak q) : aD s q (bO p r) = bO (aD s q p) (aD s q r) := by
  unfold aD; cases s
  . exact mz h k g
  . exact my h k g
theorem iR {s : Bool} {p r q : Qd} (h : ak p) (k : ak r) (g : ak q) : aD s (bc p r) q = bc (aD s p q) (aD s r q) := by
  unfold aD; cases s
  . exact li h k g
  . exact lj h k g
theorem fz {s : Bool} {p q r : Qd} (h : ak p) (g : ak q) (k : ak r) : aD s (aD s p q) r = aD s p (aD s q r) := by
  unfold aD; cases s
  . exact (dn k g h).symm
  . exact dn h g k
theorem kJ (s : Bool) (q : Qd) : aD s cw q = q := by
  unfold aD; cases s
  . exact xq q
  . exact qy q
theorem yh (s : Bool) (q : Qd) : aD s q ax = ax := by
  unfold aD; split
  . exact (kr q).2
  . exact (kr q).1
abbrev d6 := Qd × Qd × Qd
structure kN (s : Bool) (p q : Qd) (r : d6) : Prop where
  h0 : ak r.1
  h1 : ak r.2.1
  h2 : ak r.2.2
  sum : bO (aD s r.2.1 p) (aD s r.2.2 q) = r.1
def pq (s : Bool) (a b : d6) : d6 := (bc a.1 (aD s (cI s a.1 b.1) b.1), bc a.2.1 (aD s (cI s a.1 b.1) b.2.1), bc a.2.2 (aD s (cI s a.1 b.1) b.2.2))
theorem AK {s : Bool} {p q : Qd} {a b : d6} (hp : ak p) (hq : ak q) (ha : kN s p q a) (hb : kN s p q b) (h0 : b.1 ≠ ax) : kN s p q (pq s a b) := by
  obtain ⟨d1, d2, _⟩ := jF (s := s) ha.h0 hb.h0 h0
  refine ⟨bG ha.h0 (bJ d1 hb.h0), bG ha.h1 (bJ d1 hb.h1), bG ha.h2 (bJ d1 hb.h2), ?_⟩
  show bO (aD s (bc a.2.1 (aD s (cI s a.1 b.1) b.2.1)) p) (aD s (bc a.2.2 (aD s (cI s a.1 b.1) b.2.2)) q) = bc a.1 (aD s (cI s a.1 b.1) b.1)
  generalize cI s a.1 b.1 = k at *
  rw [iR ha.h1 (bJ d1 hb.h1) hp, iR ha.h2 (bJ d1 hb.h2) hq, fz d1 hb.h1 hp, fz d1 hb.h2 hq]
  rw [<- ha.sum]
  conv => rhs; rw [<- hb.sum]
  rw [o7 (bJ hb.h1 hp) (bJ hb.h2 hq) d1]
  unfold bO bc
  exact cv (by simp only; omega) (by simp only; omega) (by simp only; omega) (by simp only; omega)
def pw (s : Bool) (p a b : Qd) : Prop := ∃ u v, ak u /\ ak v /\ p = bO (aD s u a) (aD s v b)
theorem mh {s : Bool} {p a b k : Qd} (ha : ak a) (hb : ak b) (hk : ak k) (h : pw s p a b) : pw s p b (bc a (aD s k b)) := by
  obtain ⟨u, v, hu, hv, rfl⟩ := h
  refine ⟨bO (aD s u k) v, u, e7 (bJ hu hk) hv, hu, ?_⟩
  rw [o8 (bJ hu hk) hv hb, fz hu hk hb]
  have e : aD s u a = bO (aD s u (aD s k b)) (aD s u (bc a (aD s k b))) := by
    rw [<- o7 (bJ hk hb) (bG ha (bJ hk hb)) hu]
    congr 1
    unfold bO bc
    exact cv (by simp only; omega) (by simp only; omega) (by simp only; omega) (by simp only; omega)
  rw [e]
  unfold bO
  exact cv (by simp only; omega) (by simp only; omega) (by simp only; omega) (by simp only; omega)
theorem sH {p q : Qd} (hp : ak p) (hq : ak q) : ar (bc p q) <= 2 * ar p + 2 * ar q := by
  obtain ⟨t1, h1, e1⟩ := cu hp
  obtain ⟨t2, h2, e2⟩ := cu hq
  obtain ⟨t3, h3, e3⟩ := cu (bG hp hq)
  rw [e1, e2, e3]
  simp only [bc] at h3
  have k : ∀ x y : Int, (x - y) * (x - y) <= 2 * (x * x) + 2 * (y * y) := fun x y => by
    have := dN (x + y)
    have e : (x - y) * (x - y) = 2 * (x * x) + 2 * (y * y) - (x + y) * (x + y) := by grind
    omega
  have := k p.1 q.1; have := k p.2.1 q.2.1; have := k p.2.2.1 q.2.2.1; have := k p.2.2.2 q.2.2.2
  omega
theorem CA {s : Bool} {a b : Qd} (ha : ak a) (hb : ak b) (h0 : b ≠ ax) : ar (cI s a b) * ar b <= 2 * ar a + ar b := by
  obtain ⟨d1, d2, d3⟩ := jF (s := s) ha hb h0
  rw [<- gU (s := s) d1 hb]
  have e : aD s (cI s a b) b = bc a (cP s a b) := by unfold cP bc; exact cv (by simp only; omega) (by simp only; omega) (by simp only; omega) (by simp only; omega)
  rw [e]
  have := sH ha d2
  omega
structure Gr (E A B Na Nb : Int) : Prop where
  a : A <= E
  b : B <= E
  ba : B * Na <= E
  ab : A * Nb <= E
  bb : B * Nb <= E
theorem tH {s : Bool} {a b x y : Qd} {E : Int} (ha : ak a) (hb : ak b) (hx : ak x) (hy : ak y) (h0 : b ≠ ax) (hE : 0 <= E) (g : Gr E (ar x) (ar y) (ar a) (ar b)) :
    Gr (8 * E) (ar y) (ar (bc x (aD s (cI s a b) y))) (ar b) (ar (cP s a b)) := by
  obtain ⟨d1, d2, d3⟩ := jF (s := s) ha hb h0
  have nb := eU hb h0
  have nx := c7 hx; have ny := c7 hy; have nr := c7 d2; have na := c7 ha
  have q1 := CA (s := s) ha hb h0
  have l1 := sH hx (bJ (s := s) d1 hy)
  rw [gU d1 hy] at l1
  have nz := c7 (bG hx (bJ (s := s) d1 hy))
  generalize ar (bc x (aD s (cI s a b) y)) = z at *
  generalize ar (cI s a b) = k at *
  generalize ar (cP s a b) = r at *
  generalize ar a = Na at *
  generalize ar b = Nb at *
  generalize ar x = X at *
  generalize ar y = Y at *
  obtain ⟨g1, g2, g3, g4, g5⟩ := g
  have m1 : k * Y * Nb <= 2 * (Y * Na) + Y * Nb := by
    have := Int.mul_le_mul_of_nonneg_left q1 ny
    have e1 : Y * (k * Nb) = k * Y * Nb := by grind
    have e2 : Y * (2 * Na + Nb) = 2 * (Y * Na) + Y * Nb := by grind
    omega
  have m2 : z * Nb <= 8 * E := by
    have := Int.mul_le_mul_of_nonneg_right l1 (show 0 <= Nb by omega)
    have e1 : (2 * X + 2 * (k * Y)) * Nb = 2 * (X * Nb) + 2 * (k * Y * Nb) := by grind
    omega
  have m3 : z <= z * Nb := by
    have := Int.mul_le_mul_of_nonneg_left (show 1 <= Nb by omega) nz
    omega
  have m4 : Y * r <= Y * Nb := Int.mul_le_mul_of_nonneg_left (by omega) ny
  have m5 : z * r <= z * Nb := Int.mul_le_mul_of_nonneg_left (by omega) nz
  exact ⟨by omega, by omega, m2, by omega, by omega⟩
def KN : Nat := 2 ^ 800
def EM : Nat := 2 ^ 3400
theorem EX : yf (4 * KN) := by
  have : 4 * KN = 2 ^ 802 := by unfold KN; rw [show (802 : Nat) = 2 + 800 from rfl, Nat.pow_add]
  rw [this]; exact rE (by decide)
theorem wO : 4 * EM < cD := by
  have : 4 * EM = 2 ^ 3402 := by unfold EM; rw [show (3402 : Nat) = 2 + 3400 from rfl, Nat.pow_add]
  rw [this]; exact Nat.pow_lt_pow_right (by decide) (by decide)
theorem Fq : 1 <= KN := Nat.one_le_two_pow
theorem GQ : KN * 8 ^ 801 <= EM := by
  unfold KN EM
  rw [show (8 : Nat) = 2 ^ 3 from rfl, <- Nat.pow_mul, <- Nat.pow_add]
  exact Nat.pow_le_pow_right (by decide) (by decide)
structure fA (s : Bool) (p q : Qd) (m E : Nat) (a b : d6) : Prop where
  ra : kN s p q a
  rb : kN s p q b
  sp : pw s p a.1 b.1
  sq : pw s q a.1 b.1
  lt : ar b.1 < ((2 ^ m : Nat) : Int)
  ka : ar a.1 <= (KN : Nat)
  kb : ar b.1 <= (KN : Nat)
  gs : Gr (E : Nat) (ar a.2.1) (ar b.2.1) (ar a.1) (ar b.1)
  gt : Gr (E : Nat) (ar a.2.2) (ar b.2.2) (ar a.1) (ar b.1)
  em : E * 8 ^ m <= EM
theorem fA.step {s : Bool} {p q : Qd} {m E : Nat} {a b : d6} (hp : ak p) (hq : ak q) (h : fA s p q m E a b) (h0 : b.1 ≠ ax) : ∃ m', m = m' + 1 /\ fA s p q m' (8 * E) b (pq s a b) := by
  obtain ⟨d1, d2, d3⟩ := jF (s := s) h.ra.h0 h.rb.h0 h0
  have nb := eU h.rb.h0 h0
  have hm : m ≠ 0 := fun z => by have := h.lt; subst z; simp at this; omega
  obtain ⟨m', rfl⟩ : ∃ k, m = k + 1 := ⟨m - 1, by omega⟩
  refine ⟨m', rfl, h.rb, AK hp hq h.ra h.rb h0, mh h.ra.h0 h.rb.h0 d1 h.sp, mh h.ra.h0 h.rb.h0 d1 h.sq, ?_, h.kb, ?_, ?_, ?_, ?_⟩
  . show ar (cP s a.1 b.1) < _
    have := h.lt
    rw [Nat.pow_succ] at this
    omega
  . show ar (cP s a.1 b.1) <= _
    have := h.kb
    omega
  . have := tH (s := s) h.ra.h0 h.rb.h0 h.ra.h1 h.rb.h1 h0 (Int.natCast_nonneg E) h.gs
    rw [Int.natCast_mul]; exact this
  . have := tH (s := s) h.ra.h0 h.rb.h0 h.ra.h2 h.rb.h2 h0 (Int.natCast_nonneg E) h.gt
    rw [Int.natCast_mul]; exact this
  . have := h.em
    rw [Nat.pow_succ] at this
    rw [show 8 * E * 8 ^ m' = E * (8 ^ m' * 8) by grind]; exact this
theorem fA.E_le {s : Bool} {p q : Qd} {m E : Nat} {a b : d6} (h : fA s p q m E a b) : E <= EM := Nat.le_trans (Nat.le_mul_of_pos_right E (Nat.pow_pos (by decide))) h.em
theorem fA.bd {s : Bool} {p q : Qd} {m E : Nat} {a b : d6} (h : fA s p q m E a b) (h0 : b.1 ≠ ax) : okD s a.1 b.1 /\ dj b.1 /\ dj b.2.1 /\ dj b.2.2 := by
  have la := jt h.ra.h0 h.ka
  have lb := jt h.rb.h0 h.kb
  have k := vB (s := s) h.ra.h0 h.rb.h0 h0 la lb EX
  have e := h.E_le
  have b1 := h.gs.b
  have b2 := h.gt.b
  exact ⟨k, k.2.1, dM (jt (K := EM) h.rb.h1 (by omega)) wO, dM (jt (K := EM) h.rb.h2 (by omega)) wO⟩
theorem fA.start {s : Bool} {p q : Qd} (hp : ak p) (hq : ak q) (kp : ar p <= (KN : Nat)) (kq : ar q <= (KN : Nat)) : fA s p q 801 KN (p, cw, ax) (q, ax, cw) := by
  have hk := Fq
  have s1 : ar cw = 1 := by decide
  have s0 : ar ax = 0 := by decide
  have np := c7 hp
  have nq := c7 hq
  refine ⟨⟨hp, iC, fY, ?_⟩, ⟨hq, fY, iC, ?_⟩, ⟨cw, ax, iC, fY, ?_⟩, ⟨ax, cw, fY, iC, ?_⟩, ?_, kp, kq, ?_, ?_, GQ⟩
  . show bO (aD s cw p) (aD s ax q) = p
    rw [kJ, ik]; unfold bO ax; exact cv (by simp) (by simp) (by simp) (by simp)
  . show bO (aD s ax p) (aD s cw q) = q
    rw [kJ, ik]; unfold bO ax; exact cv (by simp) (by simp) (by simp) (by simp)
  . show p = bO (aD s cw p) (aD s ax q)
    rw [kJ, ik]; unfold bO ax; exact cv (by simp) (by simp) (by simp) (by simp)
  . show q = bO (aD s ax p) (aD s cw q)
    rw [kJ, ik]; unfold bO ax; exact cv (by simp) (by simp) (by simp) (by simp)
  . show ar q < ((2 ^ 801 : Nat) : Int)
    have : KN < 2 ^ 801 := Nat.pow_lt_pow_right (by decide) (by decide)
    omega
  . show Gr _ (ar cw) (ar ax) (ar p) (ar q)
    rw [s1, s0]
    exact ⟨by omega, by omega, by omega, by omega, by omega⟩
  . show Gr _ (ar ax) (ar cw) (ar p) (ar q)
    rw [s1, s0]
    exact ⟨by omega, by omega, by omega, by omega, by omega⟩
structure zK (s : Bool) (p q : Qd) (a : d6) : Prop where
  ra : kN s p q a
  dp : ∃ u, ak u /\ p = aD s u a.1
  dq' : ∃ u, ak u /\ q = aD s u a.1
  k0 : ar a.1 <= (KN : Nat)
  k1 : ar a.2.1 <= (EM : Nat)
  k2 : ar a.2.2 <= (EM : Nat)
theorem fA.fin {s : Bool} {p q : Qd} {m E : Nat} {a b : d6} (h : fA s p q m E a b) (h0 : b.1 = ax) : zK s p q a := by
  have sp := h.sp
  have sq := h.sq
  rw [h0] at sp sq
  have e := h.E_le
  have b1 := h.gs.a
  have b2 := h.gt.a
  have z : ∀ u v : Qd, bO (aD s u a.1) (aD s v ax) = aD s u a.1 := fun u v => by
    rw [yh]; unfold bO ax; exact cv (by simp) (by simp) (by simp) (by simp)
  obtain ⟨u, v, hu, hv, e1⟩ := sp
  obtain ⟨u', v', hu', hv', e2⟩ := sq
  exact ⟨h.ra, ⟨u, hu, by rw [e1, z]⟩, ⟨u', hu', by rw [e2, z]⟩, h.ka, by omega, by omega⟩
theorem vI (n : Int) : aR cw n = (2 * n, 0, 0, 0) := by unfold aR cw; simp
theorem xD {s : Bool} {p d u : Qd} (hu : ak u) (hd : ak d) (h0 : d ≠ ax) (h : p = aD s u d) : qG s p d = dq u := by
  unfold qG
  refine Bn (eU hd h0) hu ?_
  rw [h, fz hu hd (bZ hd), yg hd, vI]
  unfold aD; split
  . exact cV u _
  . exact fi u _
end K
namespace K
open PySem L2 Sp Qm
def MO (s : Bool) : Str := match s with | true => "right" | false => "left"
def qd (x : Str) : Option Bool := if x = Str.ofString "right" then some true else if x = Str.ofString "left" then some false else none
def sM (s : Bool) : D := .str (MO s)
def wk : Dc Bool := ⟨fun | .str x => qd x | _ => none, sM, fun x a h => by
  cases x <;> try cases h
  rename_i x
  replace h : qd x = some a := h
  unfold qd at h
  split at h
  . rename_i e; cases h; rw [e]; rfl
  . split at h
    . rename_i e; cases h; rw [e]; rfl
    . cases h⟩
theorem rC (c : Int) : c.fmod 2 = 0 \/ c.fmod 2 = 1 := by
  have g0 := Int.fmod_nonneg_of_pos c (show (0 : Int) < 2 by decide)
  have g1 := Int.fmod_lt_of_pos c (show (0 : Int) < 2 by decide)
  omega
end K
namespace K
open PySem L2 Sp Qm
def dR (r : d6) : D := .tup [dq r.1, dq r.2.1, dq r.2.2]
def gz (s : Bool) : Nat -> d6 -> d6 -> d6
  | 0, a, _ => a
  | n + 1, a, b => if b.1 = ax then a else gz s n b (pq s a b)
def iH (s : Bool) (p q : Qd) : d6 := gz s 801 (p, cw, ax) (q, ax, cw)
theorem lA {s : Bool} {m : Nat} {a b : d6} (h : b.1 = ax) : gz s m a b = a := by
  cases m with
  | zero => rfl
  | succ m => exact if_pos h
theorem jf {s : Bool} {m : Nat} {a b : d6} (h : b.1 ≠ ax) : gz s (m + 1) a b = gz s m b (pq s a b) := if_neg h
theorem zQ {s : Bool} {p q : Qd} (hp : ak p) (hq : ak q) : ∀ {m E : Nat} {a b : d6}, fA s p q m E a b -> zK s p q (gz s m a b) := by
  intro m
  induction m with
  | zero =>
    intro E a b h
    by_cases h0 : b.1 = ax
    . exact h.fin h0
    . obtain ⟨m', z, _⟩ := h.step hp hq h0; cases z
  | succ m ih =>
    intro E a b h
    by_cases h0 : b.1 = ax
    . rw [lA h0]; exact h.fin h0
    . obtain ⟨m', z, h1⟩ := h.step hp hq h0
      cases z
      rw [jf h0]
      exact ih h1
def okG (p q : Qd) : Prop := ak p /\ ak q /\ ar p <= (KN : Nat) /\ ar q <= (KN : Nat)
theorem DI {s : Bool} {p q : Qd} (h : okG p q) : zK s p q (iH s p q) := zQ h.1 h.2.1 (fA.start h.1 h.2.1 h.2.2.1 h.2.2.2)
def Dv (s : Bool) (d p : Qd) : Prop := ∃ u, ak u /\ p = aD s u d
theorem Dv.sum {s : Bool} {d p q : Qd} (hd : ak d) (h : Dv s d p) (g : Dv s d q) : Dv s d (bO p q) := by
  obtain ⟨u, hu, rfl⟩ := h
  obtain ⟨v, hv, rfl⟩ := g
  exact ⟨bO u v, e7 hu hv, (o8 hu hv hd).symm⟩
theorem Dv.less {s : Bool} {d p q : Qd} (hd : ak d) (h : Dv s d p) (g : Dv s d q) : Dv s d (bc p q) := by
  obtain ⟨u, hu, rfl⟩ := h
  obtain ⟨v, hv, rfl⟩ := g
  exact ⟨bc u v, bG hu hv, (iR hu hv hd).symm⟩
theorem Dv.mul {s : Bool} {d p k : Qd} (hd : ak d) (hk : ak k) (h : Dv s d p) : Dv s d (aD s k p) := by
  obtain ⟨u, hu, rfl⟩ := h
  exact ⟨aD s k u, bJ hk hu, (fz hk hu hd).symm⟩
theorem BH (q : Qd) : bh (bh q) = q := by unfold bh; simp only [Int.neg_neg]
theorem rF {p q : Qd} (hp : ak p) (hq : ak q) : bh (aI p q) = aI (bh q) (bh p) := by
  obtain ⟨P, Q, R, S, h1, h2, h3, h4, h5, e⟩ := bD hp hq
  obtain ⟨P', Q', R', S', k1, k2, k3, k4, k5, e'⟩ := bD (bZ hq) (bZ hp)
  rw [e, e']
  simp only [bh] at *
  obtain ⟨a, b, c, d⟩ := p
  obtain ⟨x, y, z, w⟩ := q
  simp only at *
  clear e e' h5 k5 hp hq
  refine cv ?_ ?_ ?_ ?_
  . show P = P'; grind
  . show -Q = Q'; grind
  . show -R = R'; grind
  . show -S = S'; grind
theorem BG {s : Bool} {p q : Qd} (hp : ak p) (hq : ak q) : bh (aD s p q) = aD (!s) (bh p) (bh q) := by
  cases s
  . exact rF hq hp
  . exact rF hp hq
theorem Dv.bar {s : Bool} {d p : Qd} (hd : ak d) (h : Dv s d p) : Dv (!s) (bh d) (bh p) := by
  obtain ⟨u, hu, rfl⟩ := h
  exact ⟨bh u, bZ hu, BG hu hd⟩
theorem FY {q : Qd} {n : Nat} (h : ar q <= ((2 ^ n : Nat) : Int)) (hn : n <= 800) : ar q <= (KN : Nat) := by
  have : 2 ^ n <= KN := Nat.pow_le_pow_right (by decide) hn
  omega
theorem uq {a b : Int} (h : a = b) : (!cO (.int a) (.int b)) = false := by rw [h]; simp
end K
namespace K
open PySem L2 Sp Qm
theorem GL {p q : Qd} (h : p = q) : cO (dq p) (dq q) = true := by simp [h]
end K
namespace K
open PySem L2 Sp Qm
theorem re {Φ : Fx} {sc : Scope} {ρ : ai} {a b : Expr} {op : Operator} {p : Pos} {it : Bool} {x y : D} {k j : Nat} {r : D × Nat} (ha : aa (au Φ a false sc ρ) (x, k)) (hb : aa (au Φ b false sc ρ) (y, j)) (h : aa (rD op x y k j) r) : aa (au Φ (.BinOp a op b p) it sc ρ) r := aa.bnd ha (aa.bnd hb h)
theorem uS {α : Type} {f : α -> D} {l : List α} {i : Int} (h0 : 0 <= i) (h1 : i < l.length) : ∃ x ∈ l, L2.atI (l.map f) i = some (f x) := by
  obtain ⟨j, rfl⟩ := Int.eq_ofNat_of_zero_le h0
  have hj : j < l.length := by omega
  exact ⟨l[j], List.getElem_mem _, kK (by simp [hj])⟩
def gQ (n : Nat) (q : Qd) : Prop := ak q /\ cA (2 ^ n) q
theorem gQ.mono {m n : Nat} {q : Qd} (h : gQ m q) (g : m <= n) : gQ n q := ⟨h.1, du h.2 (Nat.pow_le_pow_right (by decide) g)⟩
theorem gQ.bd {n : Nat} {q : Qd} (h : gQ n q) (g : n < 9000) : dj q := dM h.2 (Nat.pow_lt_pow_right (by decide) g)
theorem gQ.mul {m n : Nat} {p q : Qd} (h : gQ m p) (g : gQ n q) : gQ (m + n + 1) (aI p q) := by
  refine ⟨cJ h.1 g.1, ?_⟩
  have := nS h.2 g.2 h.1 g.1
  rwa [show 2 * (2 ^ m * 2 ^ n) = 2 ^ (m + n + 1) by rw [Nat.pow_succ, Nat.pow_add]; omega] at this
theorem gQ.sum {n : Nat} {p q : Qd} (h : gQ n p) (g : gQ n q) : gQ (n + 1) (bO p q) := ⟨e7 h.1 g.1, by rw [Nat.pow_succ, Nat.mul_two]; exact AO h.2 g.2⟩
theorem gQ.less {n : Nat} {p q : Qd} (h : gQ n p) (g : gQ n q) : gQ (n + 1) (bc p q) := ⟨bG h.1 g.1, by rw [Nat.pow_succ, Nat.mul_two]; exact lK h.2 g.2⟩
theorem gQ.bar {n : Nat} {p : Qd} (h : gQ n p) : gQ n (bh p) := ⟨bZ h.1, nT h.2⟩
end K
namespace K
open PySem L2 Sp Qm
theorem jM {n m : Nat} (h : n <= 2 ^ m) (hm : m < 9000) : n < cD := Nat.lt_of_le_of_lt h (Nat.pow_lt_pow_right (by decide) hm)
end K
namespace K
open PySem L2 Sp Qm
open Builtin.Int (intBits)
end K
namespace K
open PySem L2 Sp Qm
def df : Nat -> List Int -> Nat
  | g, [] => g
  | g, n :: r => df (Nat.gcd g n.natAbs) r
@[irreducible] def uF (l : List D) : Int := (df 0 (me l) : Nat)
def vz (l : List D) : Prop := ∃ ns : List Int, l = ns.map D.int /\ ns.length <= 100 /\ ∀ n ∈ ns, n.natAbs < 2 ^ 1000
theorem Df {l : List D} (h : vz l) : vz l := h
theorem qV (ns : List Int) : uF (ns.map D.int) = (df 0 ns : Nat) := by unfold uF; rw [md]
theorem iI : ∀ (ns : List Int) (g : Nat), df g ns ∣ g /\ ∀ n ∈ ns, df g ns ∣ n.natAbs
  | [], g => ⟨Nat.dvd_refl _, fun n h => by cases h⟩
  | n :: r, g => by
    obtain ⟨h1, h2⟩ := iI r (Nat.gcd g n.natAbs)
    refine ⟨Nat.dvd_trans h1 (Nat.gcd_dvd_left _ _), fun m hm => ?_⟩
    rcases List.mem_cons.mp hm with rfl | hm
    . exact Nat.dvd_trans h1 (Nat.gcd_dvd_right _ _)
    . exact h2 m hm
theorem v9 {ns : List Int} {n : Int} (h : n ∈ ns) : ((df 0 ns : Nat) : Int) ∣ n := Int.ofNat_dvd_left.mpr ((iI ns 0).2 n h)
theorem qT {ns : List Int} {n : Int} (h : n ∈ ns) (h0 : n ≠ 0) : 0 < df 0 ns := by
  rcases Nat.eq_zero_or_pos (df 0 ns) with e | e
  . have := (iI ns 0).2 n h
    rw [e] at this
    have := Nat.eq_zero_of_zero_dvd this
    omega
  . exact e
theorem Lz {ns : List Int} {n m : Int} (h : n ∈ ns) (h0 : n ≠ 0) (hm : m ∈ ns) : m = (df 0 ns : Nat) * m.fdiv (df 0 ns : Nat) := by
  obtain ⟨u, e⟩ := v9 hm
  have hp := qT h h0
  generalize df 0 ns = g at *
  rw [e, Int.mul_fdiv_cancel_left _ (by omega)]
theorem qU (c : Nat) : ∀ (ns : List Int) (g : Nat), df (c * g) (ns.map fun m => (c : Int) * m) = c * df g ns
  | [], g => rfl
  | n :: r, g => by
    show df (Nat.gcd (c * g) ((c : Int) * n).natAbs) _ = _
    rw [Int.natAbs_mul, Int.natAbs_natCast, Nat.gcd_mul_left]
    exact qU c r _
theorem Bd {ns : List Int} {n : Int} (h : n ∈ ns) (h0 : n ≠ 0) : df 0 ns <= n.natAbs := Nat.le_of_dvd (by omega) ((iI ns 0).2 n h)
theorem MX (d : D) : kn d 1 <= 1 := by rcases Gq (d := d) (k := 1) with q | q <;> omega
def wN (a b m : Nat) : Prop := (b <= a /\ a * b < 2 ^ m) \/ (a < b /\ a * b < 2 ^ (m - 1) /\ 1 <= m)
theorem tM {a b m : Nat} (h : wN a b m) (h0 : b ≠ 0) : ∃ m', m' < m /\ wN b (a % b) m' := by
  rcases h with ⟨h1, h2⟩ | ⟨h1, h2, h3⟩
  . have hm : 1 <= m := by
      rcases Nat.eq_zero_or_pos m with e | e
      . subst e
        have : 1 * 1 <= a * b := Nat.mul_le_mul (by omega) (by omega)
        omega
      . exact e
    refine ⟨m - 1, by omega, .inl ⟨Nat.le_of_lt (Nat.mod_lt _ (by omega)), ?_⟩⟩
    have e : 2 ^ m = 2 * 2 ^ (m - 1) := by rw [<- Nat.pow_succ']; congr 1; omega
    rw [e] at h2
    have hk : b + a % b <= a := by
      have := Nat.div_add_mod a b
      have q : 1 <= a / b := (Nat.one_le_div_iff (by omega)).mpr h1
      have := Nat.mul_le_mul_left b q
      omega
    have hlt := Nat.mod_lt a (show 0 < b by omega)
    have : b * (a % b) + b * (a % b) <= a * b := by
      rw [<- Nat.mul_add, Nat.mul_comm a b]
      exact Nat.mul_le_mul_left b (by omega)
    omega
  . refine ⟨m - 1, by omega, .inl ?_⟩
    rw [Nat.mod_eq_of_lt h1, Nat.mul_comm]
    exact ⟨Nat.le_of_lt h1, h2⟩
theorem DZ {a b : Nat} (ha : a < 2 ^ 1000) (hb : b < 2 ^ 1000) : wN a b 2002 := by
  have h : a * b < 2 ^ 2001 := Nat.lt_of_lt_of_le (Nat.mul_lt_mul'' ha hb) (by rw [<- Nat.pow_add]; exact Nat.pow_le_pow_right (by decide) (by decide))
  rcases Nat.lt_or_ge a b with q | q
  . exact .inr ⟨q, h, by decide⟩
  . exact .inl ⟨q, Nat.lt_trans h (Nat.pow_lt_pow_right (by decide) (by decide))⟩
theorem wc (a b : Nat) : (a : Int).fmod b = ((a % b : Nat) : Int) := by
  rw [Int.fmod_eq_emod_of_nonneg _ (by omega)]; rfl
theorem Fs {Φ : Fx} {sc : Scope} {ρ : ai} {c : Expr} {body : List Stmt} {p : Pos} {m : Nat} {P : ai -> Prop} (aj : Nat -> ai -> Prop) (h0 : aj m ρ) (hm : m < bL)
    (step : ∀ m ρ, aj m ρ -> ∃ b k, aa (au Φ c false sc ρ) (.bl b, k) /\ (b = true -> ∃ m' ρ2, m' < m /\ aa (az Φ body sc ρ) (.nx ρ2) /\ aj m' ρ2)) (rest : ∀ m ρ', aj m ρ' -> (∃ k, aa (au Φ c false sc ρ') (.bl false, k)) -> P ρ') : ∃ ρ', aa (az Φ [.While c body [] p] sc ρ) (.nx ρ') /\ P ρ' := by
  obtain ⟨m', ρ', h1, h2, h3⟩ := pJ (test := fun ρ => (au Φ c false sc ρ).bnd fun p => gH p fun b => .ok b []) (body := az Φ body sc) aj (fun m ρ h => by
    obtain ⟨b, k, a1, a2⟩ := step m ρ h
    exact ⟨b, a1.bnd (gO rfl cn), a2⟩) h0 hm
  obtain ⟨q, h4, h5⟩ := aq h3
  obtain ⟨t, ht, h5⟩ := fw h5
  cases aG h5
  obtain ⟨q1, q2⟩ := q
  have ht : q1 = .bl false := ht
  subst ht
  exact ⟨ρ', cj (qY h1) da, rest m' ρ' h2 ⟨q2, h4⟩⟩
end K
namespace K
open PySem L2 Sp Qm
theorem DS {Φ : Fx} {sc : Scope} {ρ : ai} {es : List Expr} {e : Expr} {n : Nat} {p q : Pos} {d : D × Nat} (h : aa (au Φ e false sc ρ) d) (ho : uh sc es d = true) (ht : gb e = false := by rfl) : aa (dg Φ (.Assign [.Tuple es n p] e q) sc ρ) (.nx (uc es d ρ)) := by
  show aa (if pQ sc es e = true then mP Φ es e sc ρ else _) _
  rw [if_neg (by unfold pQ; rw [ht]; exact Bool.false_ne_true)]
  refine aa.bnd h ?_
  rw [if_pos ho]
  exact cn
def gI (ns : List Int) : Int := (df 0 ns : Nat)
theorem Be (ns : List Int) : uF (ns.map D.int) = gI ns := qV ns
theorem qW {ns : List Int} {n : Int} (h : n ∈ ns) (h0 : n ≠ 0) : 0 < gI ns := by have := qT h h0; unfold gI; omega
theorem mM {ns : List Int} {n m : Int} (h : n ∈ ns) (h0 : n ≠ 0) (hm : m ∈ ns) : m = gI ns * m.fdiv (gI ns) := Lz h h0 hm
theorem DJ {c : Int} (hc : 0 < c) (ns : List Int) : gI (ns.map fun m => c * m) = c * gI ns := by
  obtain ⟨k, rfl⟩ := Int.eq_ofNat_of_zero_le (Int.le_of_lt hc)
  have := qU k ns 0
  unfold gI
  rw [Nat.mul_zero] at this
  rw [this]; simp
theorem zp {ns : List Int} {n : Int} (h : n ∈ ns) (h0 : n ≠ 0) : (gI ns).natAbs <= n.natAbs := by
  have := Bd h h0
  unfold gI; omega
theorem uL {c x g : Int} (hc : 0 < c) (hg : 0 < g) : (c * x).fdiv (c * g) = x.fdiv g := Int.mul_fdiv_mul_of_pos x g hc
theorem De {ns : List Int} {k : Nat} (hk : k <= 999) (hl : ns.length <= 100) (h : ∀ n ∈ ns, n.natAbs <= 2 ^ k) : vz (ns.map D.int) :=
  ⟨ns, rfl, hl, fun n hn => Nat.lt_of_le_of_lt (h n hn) (Nat.pow_lt_pow_right (by decide) (by omega))⟩
end K
namespace K
open PySem L2 Sp Qm
def pp : List Qd := [(-2, 0, 0, 0), (-1, -1, -1, -1), (-1, -1, -1, 1), (-1, -1, 1, -1), (-1, -1, 1, 1), (-1, 1, -1, -1), (-1, 1, -1, 1), (-1, 1, 1, -1), (-1, 1, 1, 1), (0, -2, 0, 0), (0, 0, -2, 0), (0, 0, 0, -2), (0, 0, 0, 2), (0, 0, 2, 0), (0, 2, 0, 0), (1, -1, -1, -1), (1, -1, -1, 1), (1, -1, 1, -1), (1, -1, 1, 1), (1, 1, -1, -1), (1, 1, -1, 1), (1, 1, 1, -1), (1, 1, 1, 1), (2, 0, 0, 0)]
theorem qr {p : Qd} (h : p.1 % 2 = p.2.1 % 2 /\ p.1 % 2 = p.2.2.1 % 2 /\ p.1 % 2 = p.2.2.2 % 2) : ak p :=
  ⟨p.1 % 2, p.1 / 2, p.2.1 / 2, p.2.2.1 / 2, p.2.2.2 / 2, by omega, by omega, by omega, by omega, by omega⟩
theorem qx : ∀ p ∈ pp, (p.1 % 2 = p.2.1 % 2 /\ p.1 % 2 = p.2.2.1 % 2 /\ p.1 % 2 = p.2.2.2 % 2) /\ ar p = 1 /\ p.1.natAbs <= 2 /\ p.2.1.natAbs <= 2 /\ p.2.2.1.natAbs <= 2 /\ p.2.2.2.natAbs <= 2 := by decide +kernel
theorem sV {p : Qd} (h : p ∈ pp) : ak p /\ ar p = 1 /\ dj p := by
  obtain ⟨h1, h2, h3, h4, h5, h6⟩ := qx p h
  exact ⟨qr h1, h2, jM (m := 1) h3 (by decide), jM (m := 1) h4 (by decide), jM (m := 1) h5 (by decide), jM (m := 1) h6 (by decide)⟩
theorem GC {p : Qd} (hp : p ∈ pp) : gQ 1 p := ⟨(sV hp).1, (qx p hp).2.2⟩
end K
namespace K
open PySem PySem.Spec PyProof.Rows L2 Sp Qm
theorem DM (u : Int) : u.fmod 2 = u % 2 := Int.fmod_eq_emod_of_nonneg u (by decide)
end K
namespace K
open PySem PySem.Spec PyProof.Rows L2 Sp Qm
end K
namespace K
open PySem L2 Sp Qm
section
variable {Φ : Fx} {sc : Scope} {ρ ρ1 : ai} {ss : List Stmt}
theorem pu {c : Expr} {a b : List Stmt} {p : Pos} {t : Bool} {k : Nat} {P : ai -> Prop} (hc : aa (au Φ c false sc ρ) (.bl t, k)) (h1 : t = true -> ∃ ρ', aa (az Φ a sc ρ) (.nx ρ') /\ P ρ') (h2 : t = false -> ∃ ρ', aa (az Φ b sc ρ) (.nx ρ') /\ P ρ') : ∃ ρ', aa (dg Φ (.If c a b p) sc ρ) (.nx ρ') /\ P ρ' := by
  have key : ∀ x, aa (cond t (az Φ a sc ρ) (az Φ b sc ρ)) x -> aa (dg Φ (.If c a b p) sc ρ) x := fun x hx => aa.bnd hc hx
  cases t with
  | true => obtain ⟨ρ', h, q⟩ := h1 rfl; exact ⟨ρ', key _ h, q⟩
  | false => obtain ⟨ρ', h, q⟩ := h2 rfl; exact ⟨ρ', key _ h, q⟩
theorem dJ {P : ai -> Prop} (h : P ρ) : ∃ ρ', aa (az Φ [] sc ρ) (.nx ρ') /\ P ρ' := ⟨ρ, da, h⟩
theorem dY {s : Stmt} {P Q : ai -> Prop} (h : ∃ ρ1, aa (dg Φ s sc ρ) (.nx ρ1) /\ P ρ1) (k : ∀ ρ1, P ρ1 -> ∃ ρ2, aa (az Φ ss sc ρ1) (.nx ρ2) /\ Q ρ2) : ∃ ρ2, aa (az Φ (s :: ss) sc ρ) (.nx ρ2) /\ Q ρ2 := by
  obtain ⟨ρ1, h1, h2⟩ := h
  obtain ⟨ρ2, h3, h4⟩ := k ρ1 h2
  exact ⟨ρ2, cj h1 h3, h4⟩
theorem d8 {s : Stmt} {Q : ai -> Prop} (h : aa (dg Φ s sc ρ) (.nx ρ1)) (k : ∃ ρ2, aa (az Φ ss sc ρ1) (.nx ρ2) /\ Q ρ2) : ∃ ρ2, aa (az Φ (s :: ss) sc ρ) (.nx ρ2) /\ Q ρ2 := by
  obtain ⟨ρ2, h3, h4⟩ := k
  exact ⟨ρ2, cj h h3, h4⟩
theorem vD (n : Nat) {Q : ai -> Prop} (h : aa (az Φ (ss.take n) sc ρ) (.nx ρ1)) (k : ∃ ρ2, aa (az Φ (ss.drop n) sc ρ1) (.nx ρ2) /\ Q ρ2) : ∃ ρ2, aa (az Φ ss sc ρ) (.nx ρ2) /\ Q ρ2 := by
  obtain ⟨ρ2, h3, h4⟩ := k
  exact ⟨ρ2, bR n h h3, h4⟩
theorem tL {a b : Expr} {p : Pos} {it : Bool} {s t : Bool} {k j : Nat} (h : aa (au Φ a false sc ρ) (.bl s, k)) (g : aa (au Φ b false sc ρ) (.bl t, j)) : aa (au Φ (.BoolOp .And [a, b] p) it sc ρ) (.bl (s && t), 0) := by
  refine dZ (eH h (fun e => ?_) (fun e => ?_))
  . subst e
    refine eH g (fun e => ?_) (fun e => ?_)
    . subst e; exact jD
    . subst e; rfl
  . subst e; rfl
end
theorem mE (ns : List Int) : ao (ns.map D.int) = true := by
  induction ns with
  | nil => rfl
  | cons n ns ih => exact ih
end K
namespace Sp
open PySem PySem.Spec PyProof.Rows L2
variable {X : Cx}
end Sp
namespace K
open PySem L2 Sp Qm
section
variable {Φ : Fx} {sc : Scope} {ρ ρ1 : ai} {ss : List Stmt}
theorem gQ.okD {s : Bool} {n : Nat} {p q : Qd} (h : gQ n p) (g : gQ n q) (h0 : q ≠ ax) (hn : n <= 2000) : okD s p q := vB h.1 g.1 h0 h.2 g.2 (rE hn)
theorem gQ.szl {n : Nat} {p : Qd} (h : gQ n p) (hn : n + n <= 800) : ar p <= (KN : Nat) := by
  have := vm h.2
  rw [<- Nat.pow_add] at this
  exact FY (n := n + n) (by omega) hn
theorem gQ.okG {n : Nat} {p q : Qd} (h : gQ n p) (g : gQ n q) (hn : n + n <= 800) : okG p q := ⟨h.1, g.1, h.szl hn, g.szl hn⟩
theorem Bm {s : Bool} {p q k : Qd} (hk : ak k) (hq : ak q) (h0 : q ≠ ax) (h : p = aD s k q) : nY s p q = dq k := by
  rw [Bl (h ▸ bJ hk hq) hq h0]
  exact xD hk hq h0 h
theorem vl {p : Qd} (hp : ak p) (h : p ≠ ax) : ar p ≠ 0 := fun z => h (lD hp z)
theorem EY {s : Bool} {p q : Qd} (hp : ak p) (hq : ak q) (h : p ≠ ax) (g : q ≠ ax) : aD s p q ≠ ax := fun z => by
  have e := gU (s := s) hp hq
  rw [z] at e
  rcases Int.mul_eq_zero.mp e.symm with e | e
  . exact vl hp h e
  . exact vl hq g e
end
end K
namespace K
open PySem L2 Sp Qm
section
variable {Φ : Fx} {sc : Scope} {ρ ρ1 : ai} {ss : List Stmt} {P Q : ai -> Prop}
def uJ : Stmt -> Expr
  | .For t _ _ _ _ => t
  | _ => .Name (Str.ofString "") ⟨0, 0, 0, 0⟩
def uK : Stmt -> Expr
  | .For _ i _ _ _ => i
  | _ => .Name (Str.ofString "") ⟨0, 0, 0, 0⟩
def kC : Stmt -> List Stmt
  | .For _ _ b _ _ => b
  | _ => []
theorem zq {a : Expr} {p : Pos} {it : Bool} {b c : Bool} {k : Nat} (h : aa (au Φ a false sc ρ) (.bl b, k)) (e : (!b) = c) : aa (au Φ (.UnaryOp .Not a p) it sc ρ) (.bl c, 0) := by
  subst e
  exact (show aa (Rs.bnd (au Φ a false sc ρ) fun p => (match vd .Not p.1 with | some d => .ok (d, 0) [] | none => .st)) (.bl (!b), 0) from aa.bnd h cn)
theorem MR {d : D} (n : Nat) (h : ∃ ρ1, aa (az Φ (ss.take n) sc ρ) (.nx ρ1) /\ Q ρ1) (k : ∀ ρ1, Q ρ1 -> aa (az Φ (ss.drop n) sc ρ1) (.rt d)) : aa (az Φ ss sc ρ) (.rt d) := by
  obtain ⟨ρ1, h1, q⟩ := h
  exact bR n h1 (k ρ1 q)
theorem wv {α β : Type} {h : α -> D} {g : α -> List β} {T : List β} {bind : D -> ai -> Option ai} {body : ai -> Rs Fl} (Q : List β -> ai -> Prop) : ∀ (xs : List α) (F R : List β) (ρ : ai), (∀ x ∈ xs, ∀ F R ρ, F ++ (g x ++ R) = T -> Q F ρ -> ∃ ρ1, bind (h x) ρ = some ρ1 /\ ∃ ρ2, aa (body ρ1) (.nx ρ2) /\ Q (F ++ g x) ρ2) -> F ++ (xs.flatMap g ++ R) = T -> Q F ρ -> ∃ ρ', aa (dU bind body (xs.map h) ρ) (.nx ρ') /\ Q (F ++ xs.flatMap g) ρ'
  | [], F, R, ρ, _, _, q => ⟨ρ, cn, by simpa using q⟩
  | x :: xs, F, R, ρ, st, e, q => by
    rw [List.flatMap_cons, List.append_assoc] at e
    obtain ⟨ρ1, h1, ρ2, h2, q2⟩ := st x List.mem_cons_self F _ ρ e q
    obtain ⟨ρ', h3, q3⟩ := wv Q xs (F ++ g x) R ρ2 (fun y hy => st y (List.mem_cons_of_mem _ hy)) (by rw [<- e]; simp only [List.append_assoc]) q2
    refine ⟨ρ', ?_, by rw [List.flatMap_cons, <- List.append_assoc]; exact q3⟩
    rw [List.map_cons, dU, h1]
    exact aa.bnd h2 h3
theorem fc {α β : Type} {h : α -> D} {g : α -> List β} {T : List β} {tg it : Expr} {body : List Stmt} {p : Pos} {d : D} {k : Nat} (Q : List β -> ai -> Prop) (xs : List α) {F R : List β} (hi : aa (au Φ it true sc (demote it ρ)) (d, k)) (hd : items d = some (xs.map h)) (q : Q F (demote it ρ)) (e : F ++ (xs.flatMap g ++ R) = T) (st : ∀ x ∈ xs, ∀ F R ρ, F ++ (g x ++ R) = T -> Q F ρ -> ∃ ρ1, bN sc tg (h x) ρ = some ρ1 /\ ∃ ρ2, aa (az Φ body sc ρ1) (.nx ρ2) /\ Q (F ++ g x) ρ2)
    (hk : k <= 1 := by first | exact Nat.le_refl 1 | exact Nat.zero_le 1) (ht : ee it tg = true := by rfl) : ∃ ρ', aa (dg Φ (.For tg it body [] p) sc ρ) (.nx ρ') /\ Q (F ++ xs.flatMap g) ρ' := by
  obtain ⟨ρ', h1, h2⟩ := wv (bind := bN sc tg) (body := az Φ body sc) Q xs F R _ st e q
  exact ⟨ρ', qZ hi hd hk ht h1, h2⟩
theorem DK {tg it : Expr} {body : List Stmt} {p : Pos} {n : Nat} (aj : Nat -> ai -> Prop) (hi : aa (au Φ it true sc (demote it ρ)) (.lst ((List.range n).map fun i => .int (i : Nat)), 0)) (h0 : aj 0 (demote it ρ))
    (step : ∀ i ρ, i < n -> aj i ρ -> ∃ ρ1, bN sc tg (.int (i : Nat)) ρ = some ρ1 /\ ∃ ρ2, aa (az Φ body sc ρ1) (.nx ρ2) /\ aj (i + 1) ρ2) (rest : ∀ ρ', aj n ρ' -> P ρ') (ht : ee it tg = true := by rfl) : ∃ ρ', aa (dg Φ (.For tg it body [] p) sc ρ) (.nx ρ') /\ P ρ' := by
  obtain ⟨ρ', h1, i, hi', e, h2⟩ := lN (bind := bN sc tg) (body := az Φ body sc) (fun rem ρ => ∃ i, i <= n /\ rem = (List.range' i (n - i)).map (fun i => D.int (i : Nat)) /\ aj i ρ) (fun d l ρ ⟨i, hi, e, h⟩ => by
    have hlt : i < n := by
      rcases Nat.lt_or_ge i n with h | h
      . exact h
      . rw [show n - i = 0 by omega] at e; cases e
    obtain ⟨m, hm⟩ : ∃ m, n - i = m + 1 := ⟨n - i - 1, by omega⟩
    rw [hm, List.range'_succ, List.map_cons] at e
    cases e
    obtain ⟨ρ1, h1, ρ2, h2, h3⟩ := step i ρ hlt h
    exact ⟨ρ1, ρ2, h1, .inl h2, i + 1, hlt, by rw [show n - (i + 1) = m by omega], h3⟩) (ds := (List.range n).map fun i => D.int (i : Nat)) ⟨0, Nat.zero_le _, by rw [List.range_eq_range']; simp, h0⟩
  refine ⟨ρ', qZ hi rfl (Nat.zero_le 1) ht h1, rest ρ' ?_⟩
  have : i = n := by
    rcases Nat.lt_or_ge i n with h | h
    . obtain ⟨m, hm⟩ : ∃ m, n - i = m + 1 := ⟨n - i - 1, by omega⟩
      rw [hm, List.range'_succ] at e; cases e
    . omega
  exact this ▸ h2
theorem GJ {f : Str} {p q : Pos} {args : List Expr} {ds : List D} {k : Nat} {B : List D -> Nat -> R1} {v : D × Nat} (ha : aa (bX Φ args sc ρ) (ds, k)) (hv : aa (B ds k) v) (hF : Φ.fn f = none := by rfl) (hI : Φ.itr f = some B := by rfl) (hg : sc.names.lookup f = some .globalImplicit := by rfl) : aa (au Φ (.Call (.Name f p) args [] q) true sc ρ) v := by
  rw [iL, if_pos hg]
  refine aa.bnd ha ?_
  unfold kH
  dsimp only
  rw [hF]
  dsimp only
  rw [if_pos rfl, hI]
  exact hv
theorem Cy {m k : Nat} (h : m <= 1000) : aa (jB [.int (m : Int)] k) (.lst ((List.range m).map fun i => .int (i : Nat)), 0) := ⟨_, rfl, by omega, by show (m : Int) <= ((40000 : Nat) : Int); omega, True.intro⟩
theorem yU {s : Stmt} {fl : Fl} (h : ∃ ρ1, aa (dg Φ s sc ρ) (.nx ρ1) /\ Q ρ1) (k : ∀ ρ1, Q ρ1 -> aa (az Φ ss sc ρ1) fl) : aa (az Φ (s :: ss) sc ρ) fl := by
  obtain ⟨ρ1, h1, h2⟩ := h
  exact cj h1 (k ρ1 h2)
theorem mO {x m : Str} {p ap cp q : Pos} {args : List Expr} {M : List D -> List D -> Nat -> Rs (List D)} {l ds l' : List D} {k : Nat} (ha : aa (bX Φ args sc ρ) (ds, k)) (hx : ρ x = some (.lst l, true)) (h : aa (M l ds k) l') (hm : Φ.mtt m = some M := by rfl) (hp : (ap.endLine == cp.line) = true := by rfl) (hn : fZ x = true := by rfl) : aa (dg Φ (.Expr (.Call (.Attribute (.Name x p) m ap) args [] cp) q) sc ρ) (.nx (bv ρ x (.lst l', true))) := by
  show aa (if (ap.endLine == cp.line) = true then (bX Φ args sc ρ).bnd fun p => (match Φ.mtt m with
      | some M => nO ρ x fun l => (M l p.1 p.2).bnd fun l' => .ok (.nx (bv ρ x (.lst l', true))) []
      | none => .st) else .st) _
  rw [if_pos hp]
  refine aa.bnd ha ?_
  rw [hm]; dsimp only
  unfold nO
  rw [hx]; dsimp only
  rw [if_pos hn]
  exact aa.bnd h cn
theorem fU {a i : Expr} {p : Pos} {it : Bool} {ks : List bI} {ds : List D} {di d : D} {key : bI} {k k2 : Nat} (ha : aa (au Φ a false sc ρ) (.dct ks ds, k)) (hi : aa (au Φ i false sc ρ) (di, k2)) (hk : lM di = some key) (hd : jG ks ds key = some d) : aa (au Φ (.Subscript a i p) it sc ρ) (d, 0) := by
  have key : aa ((au Φ a false sc ρ).bnd fun p => (au Φ i false sc ρ).bnd fun q => iq p q) (d, 0) := by
    refine ha.bnd (hi.bnd ?_)
    unfold iq; dsimp only
    rw [hk]; dsimp only
    rw [hd]; exact cn
  cases i with
  | Slice lo hi st p2 => exact (am hi).elim
  | _ => exact key
theorem DY {a : Expr} {p : Pos} {it : Bool} {i : Int} {k : Nat} (h : aa (au Φ a false sc ρ) (.int i, k)) : aa (au Φ (.UnaryOp .USub a p) it sc ρ) (.int (-i), 0) := aa.bnd h cn
theorem mJ {ks : List bI} {ds : List D} {m : Int} {b : Bool} (h : ej ks (.inl m) = b) : aa (iQ .In (.int m) (.dct ks ds)) b := ⟨[], congrArg (fun b => Rs.ok b []) h, True.intro⟩
theorem nh {l : List D} {d : D} {k : Nat} (h : l.length < bL) (hd : d.lless = true := by rfl) : aa (ky l [d] k) (l ++ [d]) := ⟨_, rfl, .inl hd, h, True.intro⟩
theorem xX {α : Type} {elt tg iter c : Expr} {scope : Scope} {p : Pos} {it : Bool} {d : D} {g f : α -> D} {t : α -> Bool} {l : List α} {k : Nat} (hi : aa (au Φ iter true sc ρ) (d, k)) (hd : items d = some (l.map g)) (hl : l.length <= bL) (hk : ao (l.map g) = true \/ k <= 1)
    (h : ∀ x ∈ l, ∃ ρ' j, bN scope tg (g x) (flt scope ρ) = some ρ' /\ aa (au Φ c false scope ρ') (.bl (t x), j) /\ (t x = true -> aa (au Φ elt false scope ρ') (f x, 0))) (hc : lv sc scope = true := by rfl) (ht : ee iter tg = true := by rfl) : aa (au Φ (.ListComp elt [⟨tg, iter, [c], 0⟩] scope p) it sc ρ) (.lst ((l.filter t).map f), 0) := by
  refine tK hi hd ⟨by rw [List.length_map]; exact hl, hk⟩ (jI fun x hx => ?_) (Nat.zero_le _) hc ht
  obtain ⟨ρ', j, h1, h2, h3⟩ := h x hx
  rw [h1]
  refine aa.bnd (a := t x) (eH h2 (fun e => by rw [e]; exact jD) (fun e => e)) ?_
  cases e : t x with
  | false => exact cn
  | true =>
    show aa ((au Φ elt false scope ρ').bnd fun r => .ok (some r) []) (some (f x, 0))
    exact aa.bnd (h3 e) cn
end
def fx : List Int := [0, 1, 2, 3, 4, 5, 6, 7, 8, 9, 10, 11, 12, 13, 14, 15, 16, 17, 18, 19, 20]
def lh (l : List Int) : List bI := l.map fun d => .inl (d * d)
def sO (l : List Int) : List D := l.map D.int
def qg (l : List Int) (m : Int) : Option Int := l.find? fun d => decide (d * d = m)
theorem qS (m : Int) : ∀ l : List Int, ej (lh l) (.inl m) = (qg l m).isSome
  | [] => rfl
  | d :: l => by
    show (decide ((Sum.inl (d * d) : bI) = .inl m) || ej (lh l) (.inl m)) = _
    rw [qS m l]
    unfold qg
    by_cases e : d * d = m
    . rw [List.find?_cons, decide_eq_true e, decide_eq_true (congrArg Sum.inl e)]; rfl
    . rw [List.find?_cons, decide_eq_false e, decide_eq_false (fun z => e (Sum.inl.inj z))]; rfl
theorem v8 (m : Int) : ∀ l : List Int, jG (lh l) (sO l) (.inl m) = (qg l m).map D.int
  | [] => rfl
  | d :: l => by
    have ih := v8 m l
    unfold jG qg at ih ⊢
    show Option.map _ (List.find? _ ((Sum.inl (d * d), D.int d) :: (lh l).zip (sO l))) = _
    by_cases e : d * d = m
    . rw [List.find?_cons, List.find?_cons, decide_eq_true e, decide_eq_true (congrArg Sum.inl e)]; rfl
    . rw [List.find?_cons, List.find?_cons, decide_eq_false e, decide_eq_false (fun z => e (Sum.inl.inj z))]; exact ih
theorem sN {m d : Int} (h : qg fx m = some d) : d * d = m /\ 0 <= d /\ d <= 20 := by
  have h1 := List.find?_some h
  have h2 := List.mem_of_find?_eq_some h
  have h3 : ∀ x ∈ fx, 0 <= x /\ x <= 20 := by decide
  exact ⟨of_decide_eq_true h1, h3 d h2⟩
def dF (n par : Int) : List Int := ((List.range 41).map fun i : Nat => -20 + (i : Int)).filter fun k => decide (k.fmod 2 = par) && decide (k * k <= 4 * n)
def lm (n a b c : Int) : Int := 4 * n - a * a - b * b - c * c
def iP (n par a b c : Int) : List Qd :=
  match qg fx (lm n a b c) with
  | some d => if d.fmod 2 = par then (a, b, c, d) :: (if 0 < lm n a b c then [(a, b, c, -d)] else []) else []
  | none => []
def uG (n par a b : Int) : List Qd := (dF n par).flatMap (iP n par a b)
def uH (n par a : Int) : List Qd := (dF n par).flatMap (uG n par a)
def uI (n par : Int) : List Qd := (dF n par).flatMap (uH n par)
def ck (n : Int) : List Qd := ([0, 1] : List Int).flatMap (uI n)
theorem jv {α β : Type} {f : α -> List β} {m : Nat} : ∀ (l : List α), (∀ x ∈ l, (f x).length <= m) -> (l.flatMap f).length <= l.length * m
  | [], _ => by simp
  | x :: l, h => by
    rw [List.flatMap_cons, List.length_append, List.length_cons, Nat.add_mul]
    have h1 := h x List.mem_cons_self
    have h2 := jv l fun y hy => h y (List.mem_cons_of_mem _ hy)
    omega
theorem vR {α : Type} {p q : α -> Bool} : ∀ l : List α, (l.filter fun k => p k && q k).length <= (l.filter p).length
  | [] => Nat.le_refl _
  | x :: l => by
    have := vR (p := p) (q := q) l
    rw [List.filter_cons, List.filter_cons]
    cases p x <;> cases q x <;> simp only [Bool.and_true, Bool.and_false, Bool.false_eq_true, if_false, if_true, List.length_cons] <;> omega
theorem p9 {n par : Int} (h : par = 0 \/ par = 1) : (dF n par).length <= 21 := by
  refine Nat.le_trans (vR _) ?_
  rcases h with rfl | rfl <;> decide
theorem ya (n par a b c : Int) : (iP n par a b c).length <= 2 := by
  unfold iP
  split
  . split
    . split <;> simp
    . simp
  . simp
theorem xT (n : Int) : (ck n).length <= 37044 := by
  have k0 : ∀ par : Int, par = 0 \/ par = 1 -> (uI n par).length <= 18522 := fun par h => by
    have s := p9 (n := n) h
    have k2 : ∀ a b, (uG n par a b).length <= 42 := fun a b => Nat.le_trans (jv _ fun c _ => ya n par a b c) (by omega)
    have k1 : ∀ a, (uH n par a).length <= 882 := fun a => Nat.le_trans (jv _ fun b _ => k2 a b) (by omega)
    exact Nat.le_trans (jv _ fun a _ => k1 a) (by omega)
  exact Nat.le_trans (jv (m := 18522) _ fun par h => k0 par (by simpa using h)) (by decide)
theorem e6 {n par k : Int} (h : k ∈ dF n par) : k.fmod 2 = par /\ -20 <= k /\ k <= 20 := by
  unfold dF at h
  rw [List.mem_filter, List.mem_map] at h
  obtain ⟨⟨i, hi, rfl⟩, h2⟩ := h
  rw [Bool.and_eq_true] at h2
  have h3 : i < 41 := by simpa using hi
  exact ⟨of_decide_eq_true h2.1, by omega, by omega⟩
theorem x9 {n par a b c : Int} {q : Qd} (ha : a ∈ dF n par) (hb : b ∈ dF n par) (hc : c ∈ dF n par) (h : q ∈ iP n par a b c) : gQ 5 q /\ ar q = n := by
  obtain ⟨a1, a2, a3⟩ := e6 ha
  obtain ⟨b1, b2, b3⟩ := e6 hb
  obtain ⟨c1, c2, c3⟩ := e6 hc
  unfold iP at h
  split at h
  . rename_i d hd
    obtain ⟨d1, d2, d3⟩ := sN hd
    split at h
    . rename_i hp
      rw [Int.fmod_eq_emod_of_nonneg _ (by decide)] at a1 b1 c1 hp
      have key : ∀ e : Int, e * e = d * d -> e % 2 = d % 2 -> e.natAbs <= 20 -> gQ 5 (a, b, c, e) /\ ar (a, b, c, e) = n := fun e he hp2 h20 => by
        refine ⟨⟨hJ.mpr ⟨by show b % 2 = a % 2; omega, by show c % 2 = a % 2; omega, by show e % 2 = a % 2; omega⟩, by show a.natAbs <= 32; omega, by show b.natAbs <= 32; omega, by show c.natAbs <= 32; omega, by show e.natAbs <= 32; omega⟩, ?_⟩
        show (a * a + (b * b + (c * c + (e * e + 0)))).fdiv 4 = n
        rw [he, d1]
        unfold lm
        rw [show a * a + (b * b + (c * c + (4 * n - a * a - b * b - c * c + 0))) = 4 * n by omega, Qm.fd4]
      rcases List.mem_cons.mp h with rfl | h
      . exact key d rfl rfl (by omega)
      . split at h
        . have := List.mem_singleton.mp h
          subst this
          exact key (-d) (by rw [Int.neg_mul_neg]) (by omega) (by omega)
        . cases h
    . cases h
  . cases h
theorem xS {n : Int} {q : Qd} (h : q ∈ ck n) : gQ 5 q /\ ar q = n := by
  unfold ck at h
  obtain ⟨par, _, h⟩ := List.mem_flatMap.mp h
  unfold uI at h
  obtain ⟨a, ha, h⟩ := List.mem_flatMap.mp h
  unfold uH at h
  obtain ⟨b, hb, h⟩ := List.mem_flatMap.mp h
  unfold uG at h
  obtain ⟨c, hc, h⟩ := List.mem_flatMap.mp h
  exact x9 ha hb hc h
def cY : List Int := [2, 3, 5, 7, 11, 13, 17, 19, 23, 29, 31, 37, 41, 43, 47, 53, 59, 61, 67, 71, 73, 79, 83, 89, 97]
theorem wa : ∀ n ∈ cY, (ck n).isEmpty = false := by decide +kernel
theorem qX {n : Int} (h : n ∈ cY) : 0 < (ck n).length := by
  have := wa n h
  cases e : ck n with
  | nil => rw [e] at this; cases this
  | cons x l => simp
end K
namespace K
open PySem L2 Sp Qm
abbrev Ch (u : Qd) (qs : List Qd) : D := .tup [dq u, .lst (qs.map dq)]
theorem kD {α β : Type} (f : α -> β) : ∀ l : List α, (l.flatMap fun x => [f x]) = l.map f
  | [] => rfl
  | x :: l => by rw [List.flatMap_cons, kD f l]; rfl
theorem xB {α : Type} (d : α) (ws : List α) : ws = (List.range ws.length).map fun i => ws.getD i d := by
  apply List.ext_getElem?
  intro i
  by_cases h : i < ws.length
  . rw [List.getElem?_map, List.getElem?_range h]
    simp [h]
  . rw [List.getElem?_eq_none (by omega), List.getElem?_eq_none (by simp; omega)]
theorem Bq {f : Nat -> D} (n : Nat) : iN 0 ((List.range n).map f) = (List.range n).map fun i => .tup [.int (i : Nat), f i] := by
  rw [kF]
  apply List.ext_getElem?
  intro i
  by_cases h : i < n
  . simp [h]
  . rw [List.getElem?_eq_none (by simp; omega), List.getElem?_eq_none (by simp; omega)]
end K
namespace Sp
open PySem PySem.Spec PyProof.Rows L2
variable {X : Cx}
def M0 (K : W.Frag) (a : Addr) (n : Nat) : It :=
  ⟨fun i H => ∃ xs x, bS K H a xs /\ xs.length = n /\ i < n /\ xs[n - 1 - i]? = some x, fun i H x H' => H' = H /\ ∀ xs, bS K H a xs -> xs[n - 1 - i]? = some x, fun i H => ∃ xs, bS K H a xs /\ xs.length = n /\ n <= i⟩
theorem wR {P : Program} {w : World} {K : W.Frag} {tg : Expr} (a it : Addr) (n : Nat) : L2.Turn P w K tg (M0 K a n) [it] it (fun i h => i <= n /\ h.IsRevIter it a ((n : Int) - 1 - (i : Int))) where
  mem := by simp
  obj := fun i h st b hb => by
    have e : b = it := by simpa using hb
    subst e
    obtain ⟨_, o, e, c, d⟩ := st
    exact ⟨o, e, fun v z => by rw [d] at z; cases z⟩
  keep := fun i h h' st k => ⟨st.1, st.2.at fun o e => k it (by simp) o e⟩
  item := by
    intro X hP hw hK hc i pins s σ H E I hf st hg
    subst hP hw hK
    obtain ⟨xs, x, hq, hn, hi, hx⟩ := hg
    obtain ⟨its, rv, p, hz⟩ := I.list hq
    obtain ⟨u, hu, ru⟩ := rv.get hx
    obtain ⟨f0, f1, f2, f3, f4, f5⟩ := hf it (by simp)
    have e : (n : Int) - 1 - (i : Int) = ((n - 1 - i : Nat) : Int) := by omega
    have st := st.2
    rw [e] at st
    refine wpAny_pyNext_rev_item st p.isList (x := u) (by simpa using hu) fun h' st' sb => ?_
    have I1 : aj X pins σ H { s with heap := h' } := I.turned (t' := s.toks) (fun b o hb e => (sb.2 b hb).trans e) f0 f1 f3 f4 f5
    have e2 : ((n - 1 - i : Nat) : Int) - 1 = (n : Int) - 1 - ((i + 1 : Nat) : Int) := by omega
    rw [e2] at st'
    obtain ⟨o, e, c, d⟩ := id st'
    exact ⟨u, rfl, pv (s := { s with heap := h' }) e c d (by decide) ⟨x, H, I1, ru, ⟨rfl, fun ys hy => by rw [I.list_inj hy hq]; exact hx⟩, ⟨hi, st'⟩, fun b hb => (hf b hb).1⟩⟩
  done := by
    intro X hP hw hK hc i pins s σ H E I hf st hg
    subst hP hw hK
    obtain ⟨xs, hq, hn, hx⟩ := hg
    obtain ⟨f0, f1, f2, f3, f4, f5⟩ := hf it (by simp)
    have e : (n : Int) - 1 - (i : Int) = -1 := by have := st.1; omega
    have st := st.2
    rw [e] at st
    exact wpAny_pyNext_rev_end (I.ok.hd hc) st fun h' eb => ⟨rfl, I.turned (t' := s.toks) (fun b o hb e => eb b o hb e) f0 f1 f3 f4 f5⟩
  self := fun _ _ _ _ _ st h => wpAny_pyIter_revIter st.2 h
def xN (ds : List D) (k : Nat) : R1 :=
  match ds with
  | [.lst a] => .ok (.lst a.reverse, k) [ao a = true]
  | _ => .st
theorem DG {ρ : ai} {tg : Expr} {p pos : Pos} {a : Expr} {l : List D} {k : Nat} (hg : Gl X "reversed") (hm0 : X.mg "reversed" = none) (ha : AD X ρ [a] [.lst l] k) (hst : ∀ y p, a ≠ .Starred y p) (hf : ao l = true) :
    IE X ρ tg (.Call (.Name "reversed" p) [a] [] pos) l.reverse k := by
  intro ow pins s σ H R I ⟨E, q⟩
  refine Call_ (db I hg hm0 (show bootBuiltins "reversed" = some (.type "reversed") by decide +kernel) (PyProof.Rows.callWith_type1 (aM (ha ow pos pins s σ H (fun vs H1 => ay H H1 /\ af X.K H1 (Kp ow H k) [.lst l] vs) I ⟨E, fun vs H1 s1 r1 => ⟨s1, r1⟩⟩) fun us s1 ⟨vs, H1, I1, rv, sm, rp⟩ => ?_) (aV hst) rfl) (by decide +kernel) (by decide +kernel))
  obtain ⟨v, rfl, rv1⟩ := rp.only
  obtain ⟨ta, xs, rfl, hq, rl, hk1⟩ := gW (κ := false) rv1
  replace hq : bS X.K H1 ta xs := hq
  obtain ⟨u, rfl, ru⟩ := dl rv
  cases (show u = Value.ref ta from ru)
  obtain ⟨its, rvs, pt, hz⟩ := I1.list hq
  have hlen : its.length = xs.length := rvs.length.symm
  refine call_reversed_list (show s1.heap.IsList ta its.toArray from pt.isList) ?_
  have isR : (s1.heap.push (revObj ta ((its.toArray.size : Int) - 1))).IsRevIter s1.heap.objs.size ta ((xs.length : Int) - 1 - ((0 : Nat) : Int)) := ⟨_, Heap.get?_push_size _ rfl, rfl, by simp [revObj, hlen]⟩
  refine wpAny_pyIter_revIter isR ?_
  have I2 : aj X pins σ H1 { s1 with heap := s1.heap.push (revObj ta ((its.toArray.size : Int) - 1)) } := I1.kept (t' := s1.toks) fun b o z => Heap.get?_push_of_some _ z
  have f0 : H1 s1.heap.objs.size = none := I1.hok.fresh (Nat.le_refl _)
  refine ⟨s1.heap.objs.size, [s1.heap.objs.size], _, _, H1, rfl, I2, wR ta _ xs.length, ⟨Nat.zero_le _, isR⟩, fun b hb => ?_, q _ H1 sm ?_⟩
  . have eb : b = s1.heap.objs.size := by simpa using hb
    subst eb
    exact I1.fpOk (Nat.le_refl _) f0
  . intro i H2 st
    have rl' : af X.K H1 (Kd ow H k H1) l xs := rl.flat _ hf
    have ll := rl.length
    refine ⟨fun d hd => ?_, fun hle => ?_⟩
    . have hi : i < l.length := by
        have := (List.getElem?_eq_some_iff.mp hd).1
        rwa [List.length_reverse] at this
      rw [List.getElem?_reverse hi] at hd
      obtain ⟨y, hy, ry⟩ := rl'.get hd
      rw [ll] at hy
      refine ⟨⟨xs, y, hk1 st, rfl, by omega, hy⟩, fun x' H3 ⟨e1, e2⟩ => ?_⟩
      have hv := e2 xs (hk1 st)
      rw [hy] at hv; cases hv
      subst e1
      exact ⟨ay.refl _, ry.mono st⟩
    . rw [List.length_reverse] at hle
      exact ⟨xs, hk1 st, rfl, by omega⟩
theorem Ba : iW "reversed" xN := by
  refine ⟨by decide +kernel, fun X ρ p pos args ds k d j l tg o hc hg hm ha hst hlen h hp hl ht => ?_⟩
  unfold xN at h
  split at h
  . cases h
    cases hl
    match args, hlen, ha, hst with
    | [a'], _, ha, hst => exact DG hg hm ha (hst a' List.mem_cons_self) hp.1
  . cases h
end Sp
namespace Sp
open PySem PySem.Spec PyProof.Rows L2
variable {X : Cx}
end Sp
namespace Sp
open PySem PySem.Spec PyProof.Rows L2
section
variable {prog : Program} {w : World} {A : Around} {E : Value -> Shared -> Prop} {s : Shared}
theorem uz : typeLookup (.type "list_reverseiterator") "__len__" = pure none := by rw [typeLookup_type, builtinLookup_eq_fast]; kernel_rfl
theorem xz : typeLookup (.type "list_reverseiterator") "__length_hint__" = pure (some (.builtin "list_reverseiterator.__length_hint__")) := by rw [typeLookup_type, builtinLookup_eq_fast]; kernel_rfl
theorem AR : isSubtype (.type "list_reverseiterator") (.type "list_reverseiterator") = pure true := by kernel_rfl
theorem vM : splitId "list_reverseiterator.__length_hint__" = some ("list_reverseiterator", "__length_hint__") := by decide +kernel
theorem vN {S I l : Nat} {items : Array Value} {res : Value} {R : Result -> Shared -> Prop} (hh : A.in1.handled = none) (n1 : S ≠ I) (n2 : S ≠ l) (n3 : l ≠ I) : ∀ (k : Nat) (s : Shared) (acc : Array Value) (c : Nat), k <= items.size -> s.heap.IsRevIter I l ((k : Int) - 1) -> s.heap.IsList l items -> s.heap.get? S = some (qD acc c) -> acc.size + k <= sizeLine ->
    (∀ h' acc' c', h'.get? S = some (qD acc' c') -> acc'.toList = acc.toList ++ (items.toList.take k).reverse -> (∀ (b : Nat) o, b ≠ S -> b ≠ I -> s.heap.get? b = some o -> h'.get? b = some o) -> R (.ok (.ret res)) { s with heap := h' }) ->
    codeAny (model prog w) A (.builtin "list.extend.loop" ⟨[.ref S, .ref I, res], []⟩) R s
  | 0, s, acc, c, _, st, pl, hS, hz, q => by
    refine tq (wpAny_pyNext_rev_end hh (by simpa using st) fun h' eb => ?_)
    exact q h' acc c (eb _ _ n1 hS) (by simp) fun b o _ hb e => eb b o hb e
  | k + 1, s, acc, c, hk, st, pl, hS, hz, q => by
    have e : ((k + 1 : Nat) : Int) - 1 = (k : Int) := by omega
    rw [e] at st
    have hx : items[k]? = some items[k] := Array.getElem?_eq_getElem (by omega)
    refine tq (wpAny_pyNext_rev_item st pl hx fun h' st' sb => ?_)
    refine ⟨acc, c, (sb.2 _ n1).trans hS, by omega, fun h2 c2 hS2 sb2 => ?_⟩
    have sb2 : Heap.SameBut S h' h2 := sb2
    obtain ⟨o, e1, e2, e3⟩ := st'
    obtain ⟨o2, f1, f2, f3⟩ := pl
    refine vN hh n1 n2 n3 k { s with heap := h2 } (acc.push items[k]) c2 (by omega) ⟨o, (sb2.2 _ (Ne.symm n1)).trans e1, e2, e3⟩ ⟨o2, (sb2.2 _ (Ne.symm n2)).trans ((sb.2 _ n3).trans f1), f2, f3⟩ hS2 (by rw [Array.size_push]; omega) fun h3 acc' c' g1 g2 g3 => ?_
    refine q h3 acc' c' g1 ?_ fun b o hb1 hb2 e => g3 b o hb1 hb2 ((sb2.2 b hb1).trans ((sb.2 b hb2).trans e))
    rw [g2, Array.toList_push, List.take_add_one, List.append_assoc]
    congr 1
    have : items.toList[k]? = some items[k] := by rw [Array.getElem?_toList]; exact hx
    rw [this]
    simp
theorem xC {n l : Nat} {items : Array Value} {Q : Value -> Shared -> Prop} (hh : A.handled = none) (hl : l < n) (st : s.heap.IsRevIter n l ((items.size : Int) - 1)) (pl : s.heap.IsList l items) (sz : s.heap.objs.size = n + 1) (hz : items.size <= sizeLine)
    (go : ∀ h1 acc m, h1.get? (n + 1) = some (qD acc m) -> acc.toList = items.toList.reverse -> (∀ (d : Nat) o, d < n -> s.heap.get? d = some o -> h1.get? d = some o) -> Q (.ref (n + 1)) { s with heap := h1 }) :
    wpAny (model prog w) A (call (.type "list") [.ref n]) Q E s := by
  obtain ⟨h0, gg, dd, t0, oo⟩ := s
  have sz : h0.objs.size = n + 1 := sz
  refine callType_codes (Q₁ := fun ob s₁ => ob = .ref (n + 1) /\ s₁ = ⟨h0.push { cls := .type "list", data := .seq #[] }, gg, dd, t0, oo⟩) F.called_list (F.typeCall_list_1 _) F.entry_list_init (code_list_new _ ⟨by show Value.ref h0.objs.size = _; rw [sz], rfl⟩) fun ob s₁ hq => ?_
  obtain ⟨rfl, rfl⟩ := hq
  have hS : (h0.push { cls := .type "list", data := .seq #[] }).get? (n + 1) = some (qD #[] 0) := by rw [<- sz]; exact Heap.get?_push_size _ rfl
  refine ⟨⟨_, hS, rfl⟩, F.args_list_init_2 _ _, ?_⟩
  show wpAny _ A.in1.in1 (Builtin.List.listItems (.ref (n + 1)) >>= fun old => Builtin.List.listUpdate (.ref (n + 1)) (fun _ => #[]) >>= fun _ => letGo old.toList.reverse >>= fun _ => Builtin.List.listExtendWith (.ref (n + 1)) (.ref n) .none) _ _ _
  unfold Builtin.List.listItems
  refine wpAny_bind (wpAny_bind (wpAny_seqItems hS rfl (wpAny_pure ?_)))
  show wpAny _ A.in1.in1 (updateSeq (n + 1) (fun _ => #[]) >>= _) _ _ _
  refine wpAny_bind (wpAny_updateSeq hS rfl ?_)
  refine wpAny_bind (wpAny_letGo ?_)
  have S1 := Heap.get?_update_self (Obj.mapSeq (fun _ => (#[] : Array Value))) hS rfl
  generalize hr1 : (h0.push { cls := .type "list", data := .seq #[] }).update (n + 1) (Obj.mapSeq fun _ => (#[] : Array Value)) = r1 at S1
  have k1 : ∀ (d : Nat) o, d ≠ n + 1 -> h0.get? d = some o -> r1.get? d = some o := fun d o g e => by rw [<- hr1]; exact (Heap.get?_update_other _ _ (Ne.symm g)).trans (Heap.get?_push_of_some _ e)
  obtain ⟨m1, S1⟩ : ∃ m, r1.get? (n + 1) = some (qD #[] m) := ⟨_, S1⟩
  obtain ⟨o, e1, e2, e3⟩ := st
  obtain ⟨o2, f1, f2, f3⟩ := pl
  have z1 : r1.IsRevIter n l ((items.size : Int) - 1) := ⟨o, k1 _ _ (by omega) e1, e2, e3⟩
  have p1 : r1.IsList l items := ⟨o2, k1 _ _ (by omega) f1, f2, f3⟩
  have ty : Shared.TypeIs ⟨r1, gg, dd, t0, oo⟩ (.ref n) "list_reverseiterator" := ⟨_, k1 _ _ (by omega) e1, e2⟩
  unfold Builtin.List.listExtendWith
  refine wpAny_bind (wpAny_typeOf ty ?_)
  have g1 : Builtin.List.listSameRef (.ref (n + 1)) (.ref n) = false := by simp [Builtin.List.listSameRef]
  have g2 : (Value.type "list_reverseiterator" == Value.type "list") = false := by decide
  have g3 : (Value.type "list_reverseiterator" == Value.type "tuple") = false := by decide
  simp only [g1, g2, g3, Bool.or_false, Bool.false_eq_true, if_false]
  refine wpAny_bind (wpAny_pyIter_revIter z1 (wpAny_bind (wpAny_holding ?_)))
  unfold Builtin.List.listLengthHint
  refine wpAny_bind (wpAny_specialOf ty uz ?_)
  show wpAny _ _ (specialOf (Value.ref n) (Str.ofString "__length_hint__") >>= _) _ _ _
  refine wpAny_bind (wpAny_specialOf ty xz ?_)
  dsimp only
  rw [vM]
  refine wpAny_bind (wpAny_isInstance ty AR ?_)
  rw [if_neg (by decide)]
  rw [if_pos (by decide +kernel)]
  rw [if_neg (by decide)]
  refine wpAny_pure ?_
  rw [if_neg (by decide +kernel)]
  refine wpAny_pure ⟨plainId_quiet F.plain_extend_loop _, ?_⟩
  refine vN (A := A.in1) (S := n + 1) (I := n) (l := l) hh (by omega) (by omega) (by omega) items.size ⟨r1, gg, dd, t0, oo⟩ #[] m1 (Nat.le_refl _) z1 p1 S1 (by simpa using hz) fun h' acc' c' q1 q2 q3 => ?_
  refine ⟨rfl, go h' acc' c' q1 (by rw [q2]; simp; exact List.take_of_length_le (by simp)) fun d o hd e => q3 d o (by omega) (by omega) (k1 _ _ (by omega) e)⟩
end
variable {X : Cx}
theorem tO {ρ : ai} {e : Expr} {f g : Str} {p q r t : Pos} {l : List D} {k : Nat} (hc : X.calm = true) (hf : f = "list") (hg : g = "reversed") (gf : Gl X f) (gg : Gl X g) (mf : X.mg f = none) (mg : X.mg g = none)
    (h : AD X ρ [e] [.lst l] k) (hst : ∀ y ∈ [e], ∀ x p, y ≠ .Starred x p) (fl : ao l = true) : ED X ρ (.Call (.Name f p) [.Call (.Name g q) [e] [] r] [] t) (.lst l.reverse) 0 := by
  intro ow pins s σ H Q I ⟨E, qq⟩
  subst hf hg
  refine wpAny_Call_Name_kw (db I gf mf (u := .type "list") (by decide +kernel) ?_ (by decide +kernel) (by decide +kernel))
  refine PyProof.Rows.callWith_type1 (Calls.spliced_cons (wpAny_Call_Name_kw (db I gg mg (u := .type "reversed") (by decide +kernel) ?_ (by decide +kernel) (by decide +kernel)))) rfl rfl
  have n1 := aV (env := X.env) (es := []) (hst e List.mem_cons_self)
  have n2 : (backTo r (starEach [] X.env)).any (·.1) = false := bY fun x hx => by cases hx
  refine PyProof.Rows.callWith_type1 (aM (h ow r pins s σ H _ I ⟨E, fun vs H1 s1 r1 => (show (fun vs H1 => ay H H1 /\ af X.K H1 (Kp ow H k) [.lst l] vs) vs H1 from ⟨s1, r1⟩)⟩) fun us s1 ⟨vs, H1, I1, rv, sm, rp⟩ => ?_) n1 n2
  obtain ⟨v, rfl, rv1⟩ := rp.only
  obtain ⟨a, xs, rfl, hq, rl, hk1⟩ := gW (κ := false) rv1
  replace hq : bS X.K H1 a xs := hq
  obtain ⟨u, rfl, ru⟩ := dl rv
  cases (show u = Value.ref a from ru)
  obtain ⟨its, rvs, pt, hz⟩ := I1.list hq
  have hh : X.A.handled = none := I.ok.hd hc
  have pl := pt.isList
  refine call_reversed_list pl ?_
  refine Calls.spliced_nil ?_
  obtain ⟨hp, gs, dr, tk, os⟩ := s1
  have pl : hp.IsList a its.toArray := pl
  have el := rvs.length
  have fr : ∀ j : Nat, H1 (hp.objs.size + j) = none := fun j => I1.hok.fresh (Nat.le_add_right _ _)
  have alt : (a : Nat) < hp.objs.size := let ⟨o, e, _⟩ := pl; Heap.lt_size e
  have sR : (hp.push (revObj a (((its.toArray.size : Nat) : Int) - 1))).IsList a its.toArray := let ⟨o, e, c⟩ := pl; ⟨o, Heap.get?_push_of_some _ e, c⟩
  refine xC (n := hp.objs.size) (l := a) (items := its.toArray) hh alt ⟨_, Heap.get?_push_size _ rfl, rfl, rfl⟩ sR (Heap.size_push ..) (by rw [List.size_toArray, <- el]; exact hz) fun h3 acc m S3 eA kp => ?_
  have kk : ∀ b o, hp.get? b = some o -> h3.get? b = some o := fun b o e => kp b o (Heap.lt_size e) (Heap.get?_push_of_some _ e)
  generalize hn : hp.objs.size = n at *
  have hk0 : cZ X.prog X.w H1 h3 := I1.hok.kept kk
  have ob : bA X.prog X.w (aU H1 (n + 1) (.lst xs.reverse)) h3 (n + 1) (.lst xs.reverse) := ⟨by rw [List.length_reverse]; exact hz, acc.toList, m, by rw [eA]; exact rvs.reverse, by rw [Array.toArray_toList]; exact S3⟩
  have hk1 := qR hk0 (fr 1) ob
  generalize hH : aU H1 (n + 1) (.lst xs.reverse) = H4 at hk1
  have g6 : H4 (n + 1) = some (.lst xs.reverse) := by rw [<- hH]; exact aL
  have old : ∀ c : Nat, c < n -> H4 c = H1 c := fun c hc => by rw [<- hH, aC (by show (c : Nat) ≠ n + 1; omega)]
  have inn : ∀ (c : Nat) o, H1 c = some o -> c < n := fun c o e => by
    rcases Nat.lt_or_ge c n with z | z
    . exact z
    . have := fr (c - n); rw [Nat.add_sub_cancel' z] at this; rw [this] at e; cases e
  have s4 : ay H1 H4 := fun c o e => (old c (inn c o e)).trans e
  have I4 : aj X pins σ H4 ⟨h3, gs, dr, tk, os⟩ := I1.un (t' := tk) (sE kk (fun c hc => old c (by rw [<- hn]; exact hc)) fun c o e => by rw [hn]; exact inn c o e) hk1
  refine ⟨.ref (n + 1), H4, I4, rfl, qq _ H4 (sm.trans s4) ?_⟩
  rw [ag]
  exact ⟨n + 1, _, true, rfl, g6, ⟨rfl, sm.free (fr 1)⟩, (af.flat _ fl (rl.same s4)).rev⟩
def IC : Stmt -> Expr
  | .Return (some (.Tuple [e, _] _ _)) _ => e
  | _ => .Name (Str.ofString "") ⟨0, 0, 0, 0⟩
def IB : Stmt -> Expr
  | .Return (some (.Tuple [_, .Call _ [.Call _ [e] _ _] _ _] _ _)) _ => e
  | _ => .Name (Str.ofString "") ⟨0, 0, 0, 0⟩
def iz (Φ : Fx) (sc : Scope) (ps : List Str) (pre : List Stmt) (e1 e2 : Expr) (ds : List D) : Rs D :=
  if ds.length = ps.length then (az Φ pre sc (ey ps ds)).bnd fun
    | .nx ρ1 => (au Φ e1 false sc ρ1).bnd fun p => (bX Φ [e2] sc ρ1).bnd fun q => (match p.2, q.1 with
      | 0, [.lst l] => .ok (.tup [p.1, .lst l.reverse]) [ao l = true]
      | _, _ => .st)
    | _ => .st
  else .st
theorem Bg {P : Program} {w : World} {K : W.Frag} {mg : Str -> Option Value} {base : Heap} {k : Nat} {g qual : Str} {st : Stmt} {f : Addr} {fd : FuncData} {ps : List Str} {Φ : Fx} {pre post : List Stmt} {n1 n2 : Str} {e1 e2 : Expr} {nn : Nat} {p pf pg rr t q : Pos} (Fn : ly K g qual st f fd)
    (S : aJ (aA (ac st)) ps (ac st)) (hΦ : r6 P w K mg base k Φ) (hb : al st = pre ++ .Return (some (.Tuple [e1, .Call (.Name n1 pf) [.Call (.Name n2 pg) [e2] [] rr] [] t] nn p)) q :: post) (hn1 : n1 = "list") (hn2 : n2 = "reversed")
    (gf : (ac st).names.lookup n1 = some .globalImplicit) (gg : (ac st).names.lookup n2 = some .globalImplicit) : ci P w K mg base eT (k + 1) f fd ps (gX K (iz Φ (ac st) ps pre e1 e2)) := by
  refine Fn.ok S (fun vs H Q E h => ?_) (fun cdv A outer s H vs Q E hr h => ?_)
  . obtain ⟨ds, r, l, h1, h2, hp, _⟩ := h
    unfold iz at h2
    split at h2
    . rename_i hl; rw [<- h1.length]; exact hl
    . cases h2
  . obtain ⟨ds, r, l, h1, h2, hp, qq⟩ := h
    have h2 : aa (iz Φ (ac st) ps pre e1 e2 ds) r := ⟨l, h2, hp⟩
    unfold iz at h2
    split at h2
    . rename_i hl
      have G := kB (outer := outer) (H := H) (E := E) S hΦ hr
      obtain ⟨E0, hsl⟩ := mX (P := P) (w := w) (mg := mg) (base := base) (qual := qual) (f := f) (cdv := cdv) (A := A) (outer := outer) (s := s) (E := E) S h1 hl
      have B0 : cT H (fun _ => none) H := fun a o h => ⟨h, rfl⟩
      obtain ⟨fl, h3, h4⟩ := aq h2
      cases fl with
      | nx ρ1 =>
        obtain ⟨⟨d1, k1⟩, h5, h6⟩ := aq h4
        obtain ⟨⟨qs, k2⟩, h7, h8⟩ := aq h6
        dsimp only at h8
        split at h8
        . rename_i l0
          obtain ⟨h9, hfl, _⟩ := bC h8
          subst h9
          obtain ⟨l7, h7, p7⟩ := h7
          obtain ⟨hst, _⟩ := cG h7 p7
          have ad := jC [e2] h7 p7 G
          have ed := tO (p := pf) (q := pg) (r := rr) (t := t) G.calm hn1 hn2 (G.gl n1 gf) (G.gl n2 gg) (by subst hn1; exact G.bl _ (by decide +kernel)) (by subst hn2; exact G.bl _ (by decide +kernel)) ad hst hfl
          have ed1 := (c6 h5 G).ed rfl
          obtain ⟨l5, h5, p5⟩ := h5
          have st1 : ∀ y p, e1 ≠ .Starred y p := fun y p z => by subst z; cases h5
          have E9 : AD _ ρ1 [e1, .Call (.Name n1 pf) [.Call (.Name n2 pg) [e2] [] rr] [] t] [d1, .lst l0.reverse] (kj 0 (kj 0 0)) := fg ed1 (fg ed rM (aV fun _ _ z => nomatch z)) (aV st1)
          have sd := vo (pos := q) (H0 := H) (rg (n := nn) (pos := p) E9 (by show 2 <= 40000; decide)) (.inl (by show kn _ 0 = 0; unfold kn; split <;> rfl))
          rw [hb]
          exact ⟨_, j8 G PassesOwn.never h3 (ir sd fun _ z => nomatch z), fun _ => none, E0, hsl, B0, fun v H' sm rp => qq v H' sm rp⟩
        . exact (am h8).elim
      | rt _ => exact (am h4).elim
      | bk _ => exact (am h4).elim
      | ct _ => exact (am h4).elim
    . exact (am h2).elim
theorem Dd {Φ : Fx} {sc : Scope} {ps : List Str} {pre : List Stmt} {e1 e2 : Expr} {ds l : List D} {k : Nat} {ρ1 : ai} {d1 : D} (h1 : aa (az Φ pre sc (ey ps ds)) (.nx ρ1)) (h2 : aa (au Φ e1 false sc ρ1) (d1, 0)) (h3 : aa (bX Φ [e2] sc ρ1) ([.lst l], k)) (h4 : ao l = true) (hl : ds.length = ps.length := by rfl) : aa (iz Φ sc ps pre e1 e2 ds) (.tup [d1, .lst l.reverse]) := by
  unfold iz
  rw [if_pos hl]
  exact aa.bnd h1 (aa.bnd h2 (aa.bnd h3 ⟨_, rfl, h4, True.intro⟩))
end Sp
namespace K
open PySem L2 Sp Qm
def gv (q : Qd) : Prop := ∀ (k : Qd) (n : Int), ak k -> 1 < n -> q ≠ aR k n
theorem iB (n : Int) : ak (2 * n, 0, 0, 0) := ⟨0, n, 0, 0, 0, .inl rfl, by simp, rfl, rfl, rfl⟩
theorem sG (n : Int) : ar (2 * n, 0, 0, 0) = n * n := by
  show ((2 * n) * (2 * n) + (0 * 0 + (0 * 0 + (0 * 0 + 0)))).fdiv 4 = n * n
  rw [show (2 * n) * (2 * n) + (0 * 0 + (0 * 0 + (0 * 0 + 0))) = 4 * (n * n) by grind, Qm.fd4]
theorem xt {k d : Qd} (n : Int) (hk : ak k) (hd : ak d) : aI (aR k n) d = aR (aI k d) n := by
  rw [<- fi, <- fi, dn (iB n) hk hd]
theorem xp {k d : Qd} (n : Int) (hk : ak k) (hd : ak d) : aI d (aR k n) = aR (aI d k) n := by
  rw [<- cV, <- cV, dn hd hk (iB n)]
theorem gv.left {u d : Qd} (hu : ak u) (hd : ak d) (h : gv (aI u d)) : gv u := fun k n hk hn e => h (aI k d) n (cJ hk hd) hn (by rw [e, xt n hk hd])
theorem gv.ne {q : Qd} (h : gv q) : q ≠ ax := fun e => h ax 2 fY (by decide) (by rw [e]; rfl)
theorem gv.bar {q : Qd} (h : gv q) : gv (bh q) := fun k n hk hn e => h (bh k) n (bZ hk) hn (by
  rw [<- BH q, e]
  unfold bh aR
  exact cv rfl (by simp only [Int.neg_mul]) (by simp only [Int.neg_mul]) (by simp only [Int.neg_mul]))
theorem r8 {A y : Qd} (p : Int) (hA : ak A) (hy : ak y) : ∃ t, ar (bO A (aR y p)) = ar A + p * t := by
  obtain ⟨t1, h1, e1⟩ := cu (e7 hA (eG p hy))
  obtain ⟨t2, h2, e2⟩ := cu hA
  obtain ⟨t3, h3, e3⟩ := cu hy
  obtain ⟨e, x1, x2, x3, x4, he, a1, a2, a3, a4⟩ := hA
  obtain ⟨f, y1, y2, y3, y4, hf, b1, b2, b3, b4⟩ := hy
  rw [e1, e2]
  obtain ⟨A1, A2, A3, A4⟩ := A
  obtain ⟨Y1, Y2, Y3, Y4⟩ := y
  dsimp only at a1 a2 a3 a4 b1 b2 b3 b4 h1 h2 h3
  have hs : A1 * Y1 + A2 * Y2 + A3 * Y3 + A4 * Y4 = 2 * (2 * (x1 * y1 + x2 * y2 + x3 * y3 + x4 * y4) + f * (x1 + x2 + x3 + x4) + e * (y1 + y2 + y3 + y4) + 2 * (e * f)) := by
    rw [a1, a2, a3, a4, b1, b2, b3, b4]; grind
  generalize 2 * (x1 * y1 + x2 * y2 + x3 * y3 + x4 * y4) + f * (x1 + x2 + x3 + x4) + e * (y1 + y2 + y3 + y4) + 2 * (e * f) = t at hs
  refine ⟨t + p * t3, ?_⟩
  have h1' : (A1 + Y1 * p) * (A1 + Y1 * p) + ((A2 + Y2 * p) * (A2 + Y2 * p) + ((A3 + Y3 * p) * (A3 + Y3 * p) + ((A4 + Y4 * p) * (A4 + Y4 * p) + 0))) = 4 * t1 := h1
  have h1'' : (A1 * A1 + (A2 * A2 + (A3 * A3 + (A4 * A4 + 0)))) + 2 * p * (A1 * Y1 + A2 * Y2 + A3 * Y3 + A4 * Y4) + p * p * (Y1 * Y1 + (Y2 * Y2 + (Y3 * Y3 + (Y4 * Y4 + 0)))) = 4 * t1 := by rw [<- h1']; grind
  rw [h2, h3, hs] at h1''
  have : 4 * t2 + 4 * (p * t) + 4 * (p * (p * t3)) = 4 * t1 := by rw [<- h1'']; grind
  have e4 : p * (t + p * t3) = p * t + p * (p * t3) := Int.mul_add _ _ _
  omega
theorem CL : ∀ p ∈ cY, ∀ c ∈ (List.range 98).map (fun i : Nat => (i : Int)), c ≠ 0 -> p % c = 0 -> c = 1 \/ c = p := by decide +kernel
theorem g8 : ∀ p ∈ cY, 1 < p /\ p <= 97 := by decide
theorem CK {p c n : Int} (hp : p ∈ cY) (hc : 0 <= c) (hn : 0 <= n) (e : c * n = p) : c = 1 \/ n = 1 := by
  obtain ⟨p1, p2⟩ := g8 p hp
  have c0 : c ≠ 0 := fun z => by rw [z, Int.zero_mul] at e; omega
  have n0 : n ≠ 0 := fun z => by rw [z, Int.mul_zero] at e; omega
  have cp : c <= p := by
    rw [<- e]
    have := Int.mul_le_mul_of_nonneg_left (show 1 <= n by omega) hc
    omega
  have hm : c ∈ (List.range 98).map (fun i : Nat => (i : Int)) := List.mem_map.mpr ⟨c.toNat, by simp; omega, by omega⟩
  rcases CL p hp c hm c0 (by rw [<- e]; exact Int.mul_emod_right c n) with h | h
  . exact .inl h
  . right
    rw [h] at e
    have : p * (n - 1) = 0 := by rw [Int.mul_sub, e]; omega
    rcases Int.mul_eq_zero.mp this with z | z <;> omega
theorem xQ {r : Qd} {p : Int} {a : d6} (hr : ak r) (pl : gv r) (hp : p ∈ cY) (hd : ∃ c, ar r = p * c) (g : zK true r (2 * p, 0, 0, 0) a) : ar a.1 = p /\ ak a.1 /\ ∃ u, ak u /\ r = aI u a.1 := by
  obtain ⟨u, hu, eu⟩ := g.dp
  obtain ⟨v, hv, ev⟩ := g.dq'
  obtain ⟨d0, hx, hy, hs⟩ := g.ra
  have eu : r = aI u a.1 := eu
  have ev : (2 * p, 0, 0, 0) = aI v a.1 := ev
  have hs : bO (aI a.2.1 r) (aI a.2.2 (2 * p, 0, 0, 0)) = a.1 := hs
  rw [cV] at hs
  obtain ⟨p1, p2⟩ := g8 p hp
  refine ⟨?_, d0, u, hu, eu⟩
  obtain ⟨t, ht⟩ := r8 p (cJ hx hr) hy
  obtain ⟨c, hc⟩ := hd
  rw [hs, eF hx hr, hc] at ht
  have ht : ar a.1 = p * (ar a.2.1 * c + t) := by rw [ht]; grind
  have hv2 : p * p = ar v * ar a.1 := by rw [<- eF hv d0, <- ev, sG]
  have nv := c7 hv
  have na := c7 d0
  generalize ar a.2.1 * c + t = m at ht
  have m0 : 0 <= m := by
    rcases Int.le_total 0 m with h | h
    . exact h
    . rcases Int.lt_or_eq_of_le h with h | h
      . have := Int.mul_neg_of_pos_of_neg (show 0 < p by omega) h; omega
      . omega
  have em : ar v * m = p := by
    have : p * (ar v * m - p) = 0 := by
      rw [Int.mul_sub, hv2, ht]; grind
    rcases Int.mul_eq_zero.mp this with z | z <;> omega
  rcases CK hp nv m0 em with h | h
  . exfalso
    have e1 : a.1 = aR (bh v) p := by
      rw [<- cV, ev, <- dn (bZ hv) hv d0, (f7 hv).2, h]
      exact (qy a.1).symm
    exact pl (aI u (bh v)) p (cJ hu (bZ hv)) p1 (by rw [<- xp p (bZ hv) hu, <- e1]; exact eu)
  . rw [ht, h, Int.mul_one]
def cF (ns : List Int) : Int := ns.foldr (· * ·) 1
theorem cy (n : Int) (ns : List Int) : cF (n :: ns) = n * cF ns := rfl
theorem g7 : ∀ ms ns : List Int, cF (ms ++ ns) = cF ms * cF ns
  | [], ns => (Int.one_mul _).symm
  | m :: ms, ns => by rw [List.cons_append, cy, cy, g7 ms ns, Int.mul_assoc]
theorem nL (n : Int) : cF [n] = n := Int.mul_one n
theorem sI : ∀ (ws : List Qd) (u : Qd), ak u -> (∀ w ∈ ws, ak w) -> ar (ws.foldl aI u) = ar u * cF (ws.map ar)
  | [], u, _, _ => (Int.mul_one _).symm
  | w :: ws, u, hu, h => by
    rw [List.foldl_cons, sI ws _ (cJ hu (h w List.mem_cons_self)) fun x hx => h x (List.mem_cons_of_mem _ hx), eF hu (h w List.mem_cons_self), List.map_cons, cy, Int.mul_assoc]
theorem iJ {q : Qd} {n : Nat} (h : ak q) (g : ar q <= ((2 ^ n : Nat) : Int)) : gQ (n + 2) q := ⟨h, du (jt h g) (by rw [Nat.pow_add]; omega)⟩
end K
namespace K
open PySem L2 Sp Qm
def gN (a b c d : Int) : Bool := decide (b.fmod 2 = a.fmod 2) && (decide (c.fmod 2 = a.fmod 2) && decide (d.fmod 2 = a.fmod 2))
def fV (q : Qd) : Int := cond (gN (q.1.fdiv (gI [q.1, q.2.1, q.2.2.1, q.2.2.2])) (q.2.1.fdiv (gI [q.1, q.2.1, q.2.2.1, q.2.2.2])) (q.2.2.1.fdiv (gI [q.1, q.2.1, q.2.2.1, q.2.2.2])) (q.2.2.2.fdiv (gI [q.1, q.2.1, q.2.2.1, q.2.2.2]))) (gI [q.1, q.2.1, q.2.2.1, q.2.2.2]) ((gI [q.1, q.2.1, q.2.2.1, q.2.2.2]).fdiv 2)
theorem qJ {a b c d : Int} : gN a b c d = true ↔ ak (a, b, c, d) := by
  unfold gN
  simp only [Bool.and_eq_true, decide_eq_true_eq]
  rw [hJ]
  simp only [DM]
theorem sX {q : Qd} (h : q ≠ ax) : ∃ n ∈ [q.1, q.2.1, q.2.2.1, q.2.2.2], n ≠ 0 := by
  obtain ⟨a, b, c, d⟩ := q
  by_cases q1 : a = 0
  . by_cases q2 : b = 0
    . by_cases q3 : c = 0
      . refine ⟨d, by simp, fun q4 => h ?_⟩
        rw [q1, q2, q3, q4]; rfl
      . exact ⟨c, by simp, q3⟩
    . exact ⟨b, by simp, q2⟩
  . exact ⟨a, by simp, q1⟩
theorem rj {q : Qd} (h : q ≠ ax) (hp : ak q) : ∃ (g : Int) (k : Qd), 0 < g /\ g = gI [q.1, q.2.1, q.2.2.1, q.2.2.2] /\ q = aR k g /\ k = (q.1.fdiv g, q.2.1.fdiv g, q.2.2.1.fdiv g, q.2.2.2.fdiv g) /\ (¬ ak k -> ∃ t, g = 2 * t) := by
  obtain ⟨n, hn, n0⟩ := sX h
  have hg := qW hn n0
  have ea := mM (m := q.1) hn n0 (by simp)
  have eb := mM (m := q.2.1) hn n0 (by simp)
  have ec := mM (m := q.2.2.1) hn n0 (by simp)
  have ed := mM (m := q.2.2.2) hn n0 (by simp)
  refine ⟨_, _, hg, rfl, ?_, rfl, fun np => ?_⟩
  . unfold aR
    exact cv (ea.trans (Int.mul_comm _ _)) (eb.trans (Int.mul_comm _ _)) (ec.trans (Int.mul_comm _ _)) (ed.trans (Int.mul_comm _ _))
  . rcases rC (gI [q.1, q.2.1, q.2.2.1, q.2.2.2]) with e | e
    . exact ⟨gI [q.1, q.2.1, q.2.2.1, q.2.2.2] / 2, by rw [DM] at e; omega⟩
    . exfalso
      apply np
      have pm : ∀ m s : Int, m = gI [q.1, q.2.1, q.2.2.1, q.2.2.2] * s -> m % 2 = s % 2 := fun m s hm => by
        rw [hm, Int.mul_emod]
        rw [DM] at e
        rw [e, Int.one_mul, Int.emod_emod_of_dvd _ (Int.dvd_refl 2)]
      have p := hJ.mp hp
      rw [hJ]
      rw [pm _ _ ea, pm _ _ eb, pm _ _ ec, pm _ _ ed] at p
      exact p
theorem zR {q : Qd} (h : q ≠ ax) (hp : ak q) : 0 < fV q /\ ∃ k, ak k /\ q = aR k (fV q) := by
  obtain ⟨g, k, g0, eg, ek, dk, ev⟩ := rj h hp
  unfold fV
  rw [<- eg]
  have hk : gN (q.1.fdiv g) (q.2.1.fdiv g) (q.2.2.1.fdiv g) (q.2.2.2.fdiv g) = true ↔ ak k := by rw [qJ, dk]
  cases hs : gN (q.1.fdiv g) (q.2.1.fdiv g) (q.2.2.1.fdiv g) (q.2.2.2.fdiv g) with
  | true => exact ⟨g0, k, hk.mp hs, ek⟩
  | false =>
    obtain ⟨t, ht⟩ := ev fun z => by rw [hk.mpr z] at hs; cases hs
    have e2 : g.fdiv 2 = t := by rw [ht, Qm.fd2]
    show 0 < g.fdiv 2 /\ ∃ k, ak k /\ q = aR k (g.fdiv 2)
    rw [e2]
    refine ⟨by omega, aR k 2, ⟨0, k.1, k.2.1, k.2.2.1, k.2.2.2, .inl rfl, by unfold aR; simp only; omega, by unfold aR; simp only; omega, by unfold aR; simp only; omega, by unfold aR; simp only; omega⟩, ?_⟩
    rw [ek, ht]
    unfold aR
    exact cv (by simp only [Int.mul_assoc]) (by simp only [Int.mul_assoc]) (by simp only [Int.mul_assoc]) (by simp only [Int.mul_assoc])
theorem Fu {q k : Qd} {n : Int} (h : q ≠ ax) (hk : ak k) (hn : 1 < n) (e : q = aR k n) : 1 < fV q := by
  have k0 : k ≠ ax := fun z => h (by rw [e, z]; unfold aR ax; simp)
  obtain ⟨g, k', g0, eg, ek, dk, ev⟩ := rj k0 hk
  have gq : gI [q.1, q.2.1, q.2.2.1, q.2.2.2] = n * g := by
    rw [eg, e]
    have := DJ (c := n) (by omega) [k.1, k.2.1, k.2.2.1, k.2.2.2]
    simp only [List.map_cons, List.map_nil] at this
    rw [<- this]
    unfold aR
    simp only [Int.mul_comm n]
  have fd : ∀ x : Int, (x * n).fdiv (n * g) = x.fdiv g := fun x => by rw [Int.mul_comm x n]; exact uL (by omega) g0
  have m1 : q.1.fdiv (n * g) = k.1.fdiv g := by rw [e]; exact fd _
  have m2 : q.2.1.fdiv (n * g) = k.2.1.fdiv g := by rw [e]; exact fd _
  have m3 : q.2.2.1.fdiv (n * g) = k.2.2.1.fdiv g := by rw [e]; exact fd _
  have m4 : q.2.2.2.fdiv (n * g) = k.2.2.2.fdiv g := by rw [e]; exact fd _
  unfold fV
  rw [gq, m1, m2, m3, m4]
  have hk : gN (k.1.fdiv g) (k.2.1.fdiv g) (k.2.2.1.fdiv g) (k.2.2.2.fdiv g) = true ↔ ak k' := by rw [qJ, dk]
  cases hs : gN (k.1.fdiv g) (k.2.1.fdiv g) (k.2.2.1.fdiv g) (k.2.2.2.fdiv g) with
  | true =>
    show 1 < n * g
    have := Int.mul_le_mul_of_nonneg_left (show 1 <= g by omega) (show 0 <= n by omega)
    omega
  | false =>
    obtain ⟨t, ht⟩ := ev fun z => by rw [hk.mpr z] at hs; cases hs
    show 1 < (n * g).fdiv 2
    rw [ht, show n * (2 * t) = 2 * (n * t) by grind, Qm.fd2]
    have := Int.mul_le_mul_of_nonneg_left (show 1 <= t by omega) (show 0 <= n by omega)
    omega
theorem sQ {q : Qd} (h : q ≠ ax) (hp : ak q) : gv q ↔ fV q <= 1 := by
  constructor
  . intro pl
    obtain ⟨v0, k, hk, e⟩ := zR h hp
    rcases Int.lt_or_le 1 (fV q) with z | z
    . exact absurd e (pl k _ hk z)
    . exact z
  . intro le k n hk hn e
    have := Fu h hk hn e
    omega
theorem xf {u : Qd} (hu : ak u) (h : ar u = 1) : gv u := fun k n hk hn e => by
  have e2 : u = aI k (2 * n, 0, 0, 0) := by rw [cV]; exact e
  have := eF hk (iB n)
  rw [<- e2, h, sG] at this
  have k0 := c7 hk
  rcases Int.lt_or_eq_of_le k0 with z | z
  . have n2 : 1 < n * n := by have := Int.mul_lt_mul_of_pos_left hn (show 0 < n by omega); omega
    have := Int.mul_le_mul_of_nonneg_right (show 1 <= ar k by omega) (show 0 <= n * n by omega)
    omega
  . rw [<- z, Int.zero_mul] at this; omega
theorem Aw (a b c d : Int) : ((([D.int (a.fmod 2), .int (b.fmod 2), .int (c.fmod 2), .int (d.fmod 2)].any fun z => cO z (.int 0))) && ([D.int (a.fmod 2), .int (b.fmod 2), .int (c.fmod 2), .int (d.fmod 2)].any fun z => cO z (.int 1))) = !gN a b c d := by
  unfold gN
  simp only [List.any_cons, List.any_nil, d9, Bool.or_false]
  rcases rC a with ha | ha <;> rcases rC b with hb | hb <;> rcases rC c with hc | hc <;> rcases rC d with hd | hd <;> rw [ha, hb, hc, hd] <;> decide
end K
namespace K
open PySem L2 Sp Qm
end K
namespace Sp
open PySem PySem.Spec PyProof.Rows L2
variable {X : Cx}
def DO (Φ : Fx) (sc : Scope) (post : List Stmt) (ρ : ai) : Rs D := (az Φ post sc ρ).bnd fun
  | .rt r => .ok r []
  | _ => .st
theorem Bj {Φ : Fx} {sc : Scope} {post : List Stmt} {ρ : ai} {r : D} (h : aa (DO Φ sc post ρ) r) : aa (az Φ post sc ρ) (.rt r) := by
  obtain ⟨fl, h1, h2⟩ := aq h
  cases fl with
  | rt d => cases aG h2; exact h1
  | nx _ => exact (am h2).elim
  | bk _ => exact (am h2).elim
  | ct _ => exact (am h2).elim
theorem sK {H0 : Hp} {ρ : ai} {ss : List Stmt} {fl : Fl} (h : fJ X H0 (dz ρ) ss fl) : fJ X H0 ρ ss fl := fun pins s σ H D I ⟨ow, E, hl, B, q⟩ =>
  h pins s σ H D I ⟨fun _ => none, xY E, hl, fun a o h => ⟨(B a o h).1, rfl⟩, q.keep ⟨fun a o h _ => h, fun _ _ _ _ => rfl⟩⟩
end Sp
namespace Sp
open PySem PySem.Spec PyProof.Rows L2
def iA (Φ : Fx) (sc : Scope) (ps : List Str) (pre post : List Stmt) (ds : List D) : Rs D :=
  if ds.length = ps.length then (az Φ pre sc (ey ps ds)).bnd fun
    | .nx ρ1 => DO Φ sc post (dz ρ1)
    | _ => .st
  else .st
theorem DL {P : Program} {w : World} {K : W.Frag} {mg : Str -> Option Value} {base : Heap} {k : Nat} {g qual : Str} {st : Stmt} {f : Addr} {fd : FuncData} {ps : List Str} {Φ : Fx} {pre post : List Stmt} (Fn : ly K g qual st f fd)
    (S : aJ (aA (ac st)) ps (ac st)) (hΦ : r6 P w K mg base k Φ) (hb : al st = pre ++ post) : ci P w K mg base eT (k + 1) f fd ps (gX K (iA Φ (ac st) ps pre post)) := by
  refine Fn.ok S (fun vs H Q E h => ?_) (fun cdv A outer s H vs Q E hr h => ?_)
  . obtain ⟨ds, r, l, h1, h2, hp, _⟩ := h
    unfold iA at h2
    split at h2
    . rename_i hl; rw [<- h1.length]; exact hl
    . cases h2
  . obtain ⟨ds, r, l, h1, h2, hp, qq⟩ := h
    have h2 : aa (iA Φ (ac st) ps pre post ds) r := ⟨l, h2, hp⟩
    unfold iA at h2
    split at h2
    . rename_i hl
      have G := kB (outer := outer) (H := H) (E := E) S hΦ hr
      obtain ⟨E0, hsl⟩ := mX (P := P) (w := w) (mg := mg) (base := base) (qual := qual) (f := f) (cdv := cdv) (A := A) (outer := outer) (s := s) (E := E) S h1 hl
      have B0 : cT H (fun _ => none) H := fun a o h => ⟨h, rfl⟩
      obtain ⟨fl, h3, h4⟩ := aq h2
      cases fl with
      | nx ρ1 =>
        rw [hb]
        have sp := mN post (H0 := H) (Bj h4) G PassesOwn.never
        exact ⟨_, j8 G PassesOwn.never h3 (sK sp), fun _ => none, E0, hsl, B0, fun v H' sm rp => qq v H' sm rp⟩
      | rt _ => exact (am h4).elim
      | bk _ => exact (am h4).elim
      | ct _ => exact (am h4).elim
    . exact (am h2).elim
theorem Gj {Φ : Fx} {sc : Scope} {ps : List Str} {pre post : List Stmt} {ds : List D} {ρ1 : ai} {r : D} (h1 : aa (az Φ pre sc (ey ps ds)) (.nx ρ1)) (h5 : aa (az Φ post sc (dz ρ1)) (.rt r)) (hl : ds.length = ps.length := by rfl) : aa (iA Φ sc ps pre post ds) r := by
  unfold iA
  rw [if_pos hl]
  exact aa.bnd h1 (aa.bnd h5 ⟨[], rfl, True.intro⟩)
end Sp
namespace Sp
open PySem PySem.Spec PyProof.Rows L2
def nW (x : Int) : List Int -> List Int
  | [] => [x]
  | y :: l => if x <= y then x :: y :: l else y :: nW x l
def eY : List Int -> List Int
  | [] => []
  | x :: l => nW x (eY l)
theorem jz (x : Int) : ∀ l : List Int, (nW x l).Perm (x :: l)
  | [] => List.Perm.refl _
  | y :: l => by
    rw [nW]
    split
    . exact List.Perm.refl _
    . exact ((jz x l).cons y).trans (List.Perm.swap x y l)
theorem fv : ∀ l : List Int, (eY l).Perm l
  | [] => List.Perm.refl _
  | x :: l => (jz x (eY l)).trans ((fv l).cons x)
theorem qQ (x : Int) : ∀ {l : List Int}, l.Pairwise (· <= ·) -> (nW x l).Pairwise (· <= ·)
  | [], _ => List.pairwise_singleton _ _
  | y :: l, h => by
    rw [nW]
    have hh := List.pairwise_cons.mp h
    split
    . rename_i hxy
      exact List.pairwise_cons.mpr ⟨fun z hz => by
        rcases List.mem_cons.mp hz with rfl | hz
        . exact hxy
        . exact Int.le_trans hxy (hh.1 z hz), h⟩
    . rename_i hxy
      refine List.pairwise_cons.mpr ⟨fun z hz => ?_, qQ x hh.2⟩
      rcases List.mem_cons.mp ((jz x l).mem_iff.mp hz) with rfl | hz
      . omega
      . exact hh.1 z hz
theorem pX : ∀ l : List Int, (eY l).Pairwise (· <= ·)
  | [] => List.Pairwise.nil
  | x :: l => qQ x (pX l)
theorem qu : ∀ {a b : List Int}, a.Perm b -> a.Pairwise (· <= ·) -> b.Pairwise (· <= ·) -> a = b
  | [], b, p, _, _ => by rw [List.nil_perm.mp p]
  | x :: a, [], p, _, _ => by have := p.length_eq; cases this
  | x :: a, y :: b, p, ha, hb => by
    have h1 := List.pairwise_cons.mp ha
    have h2 := List.pairwise_cons.mp hb
    have e : x = y := by
      have i1 : x ∈ y :: b := p.mem_iff.mp List.mem_cons_self
      have i2 : y ∈ x :: a := p.mem_iff.mpr List.mem_cons_self
      rcases List.mem_cons.mp i1 with e | i1
      . exact e
      . rcases List.mem_cons.mp i2 with e | i2
        . exact e.symm
        . have := h1.1 y i2; have := h2.1 x i1; omega
    subst e
    rw [qu ((List.perm_cons x).mp p) h1.2 h2.2]
theorem oC {a ns : List Int} (p : a.Perm ns) (h : a.Pairwise (· <= ·)) : a = eY ns := qu (p.trans (fv ns).symm) h (pX ns)
theorem wZ (ns : List Int) : (eY ns).length = ns.length := (fv ns).length_eq
theorem qP : ∀ {ns : List Int} {us : List Value}, aF (ns.map V.int) us -> IntsAre us ns
  | [], us, h => by cases h; exact .nil
  | n :: ns, us, h => by
    cases h with
    | cons r1 r2 => obtain ⟨t, rfl⟩ := r1; exact .cons n t (qP r2)
theorem rJ : ∀ {ns : List Int} {us : List Value}, IntsAre us ns -> aF (ns.map V.int) us
  | _, _, .nil => .nil
  | _, _, .cons n t h => .cons ⟨t, rfl⟩ (rJ h)
theorem oH {K : W.Frag} {H : Hp} {P : aZ} : ∀ {ns : List Int} {vs : List V}, af K H P (ns.map D.int) vs -> vs = ns.map V.int
  | [], vs, h => by rw [List.map_nil, af] at h; exact h
  | n :: ns, vs, h => by
    rw [List.map_cons, af] at h
    obtain ⟨v, r, rfl, h1, h2⟩ := h
    rw [ag] at h1
    rw [oH h2, h1]; rfl
theorem oR {K : W.Frag} {H : Hp} {P : aZ} : ∀ ns : List Int, af K H P (ns.map D.int) (ns.map V.int)
  | [] => af.nil
  | n :: ns => af.cons (by rw [ag]) (oR ns)
variable {X : Cx}
def Dr (b : Bool) (n0 : Nat) (p0 kp : Pos) : List Keyword := cond b [⟨some (Str.ofString "reverse"), .Constant (.bool true) n0 p0, kp⟩] []
def iy (b : Bool) (ns : List Int) : List Int := cond b (eY ns).reverse (eY ns)
theorem D7 {ρ : ai} {e : Expr} {f : Str} {p t p0 kp : Pos} {n0 : Nat} {ns : List Int} {k : Nat} (b : Bool) (hf : f = "sorted") (gf : Gl X f) (mf : X.mg f = none)
    (h : AD X ρ [e] [.lst (ns.map D.int)] k) (hst : ∀ y ∈ [e], ∀ x p, y ≠ .Starred x p) (hn : ns.length < 64) : ED X ρ (.Call (.Name f p) [e] (Dr b n0 p0 kp) t) (.lst ((iy b ns).map D.int)) 0 := by
  intro ow pins s σ H Q I ⟨E, qq⟩
  subst hf
  refine wpAny_Call_Name_kw (db I gf mf (u := .builtin "sorted") (by decide +kernel) ?_ (by decide +kernel) (by decide +kernel))
  have n1 := aV (env := X.env) (es := []) (hst e List.mem_cons_self)
  have n3 : starEach [e] X.env = (false, eval e X.env) :: starEach [] X.env := n1
  have key : ∀ (us : List Value) (s1 : Shared), (∃ vs H1, aj X pins σ H1 s1 /\ aF vs us /\ ay H H1 /\ af X.K H1 (Kp ow H k) [.lst (ns.map D.int)] vs) -> wpAny (model X.prog X.w) X.A (call (.builtin "sorted") us (cond b [(Str.ofString "reverse", .bool true)] [])) (fun v s2 => ∃ x H2, aj X pins σ H2 s2 /\ aP x v /\ Q x H2) X.xe s1 := by
    rintro us s1 ⟨vs, H1, I1, rv, sm, rp⟩
    obtain ⟨v, rfl, rv1⟩ := rp.only
    obtain ⟨a, xs, rfl, hq, rl, hk1⟩ := gW (κ := false) rv1
    replace hq : bS X.K H1 a xs := hq
    obtain ⟨u, rfl, ru⟩ := dl rv
    cases (show u = Value.ref a from ru)
    obtain ⟨its, rvs, pt, hz⟩ := I1.list hq
    have pl := pt.isList
    have ex := oH rl
    subst ex
    have hI := qP rvs
    have el := rvs.length
    rw [List.length_map] at el
    obtain ⟨hp, gs, dr, tk, os⟩ := s1
    have fin : ∀ (out : Array Value) (ns' : List Int), IntsAre out.toList ns' -> ns' = iy b ns -> ∃ x H2, aj X pins σ H2 ⟨sortedAll hp its out, gs, dr, tk, os⟩ /\ aP x (.ref (hp.objs.size + 1)) /\ Q x H2 := by
      intro out ns' a1 e1
      subst e1
      obtain ⟨m, S3⟩ := sortedAll_at hp its out
      have kk : ∀ b o, hp.get? b = some o -> (sortedAll hp its out).get? b = some o := fun b o e => sortedAll_old e
      generalize sortedAll hp its out = h3 at *
      have fr : ∀ j : Nat, H1 (hp.objs.size + j) = none := fun j => I1.hok.fresh (Nat.le_add_right _ _)
      generalize hn' : hp.objs.size = n at *
      have hk0 : cZ X.prog X.w H1 h3 := I1.hok.kept kk
      have lb : (iy b ns).length = ns.length := by cases b <;> simp [iy, wZ]
      have ob : bA X.prog X.w (aU H1 (n + 1) (.lst ((iy b ns).map V.int))) h3 (n + 1) (.lst ((iy b ns).map V.int)) := ⟨by rw [List.length_map, lb, <- List.length_map (f := V.int)]; exact hz, out.toList, m, rJ a1, by rw [Array.toArray_toList]; exact S3⟩
      have hk1 := qR hk0 (fr 1) ob
      generalize hH : aU H1 (n + 1) (.lst ((iy b ns).map V.int)) = H4 at hk1
      have g6 : H4 (n + 1) = some (.lst ((iy b ns).map V.int)) := by rw [<- hH]; exact aL
      have old : ∀ c : Nat, c < n -> H4 c = H1 c := fun c hc => by rw [<- hH, aC (by show (c : Nat) ≠ n + 1; omega)]
      have inn : ∀ (c : Nat) o, H1 c = some o -> c < n := fun c o e => by
        rcases Nat.lt_or_ge c n with z | z
        . exact z
        . have := fr (c - n); rw [Nat.add_sub_cancel' z] at this; rw [this] at e; cases e
      have s4 : ay H1 H4 := fun c o e => (old c (inn c o e)).trans e
      have I4 : aj X pins σ H4 ⟨h3, gs, dr, tk, os⟩ := I1.un (t' := tk) (sE kk (fun c hc => old c (by rw [<- hn']; exact hc)) fun c o e => by rw [hn']; exact inn c o e) hk1
      refine ⟨.ref (n + 1), H4, I4, rfl, qq _ H4 (sm.trans s4) ?_⟩
      rw [ag]
      exact ⟨n + 1, _, true, rfl, g6, ⟨rfl, sm.free (fr 1)⟩, oR _⟩
    cases b with
    | false => exact sorted_ints pl hI (by omega) fun out ns' a1 a2 a3 => fin out ns' a1 (oC a2 a3)
    | true =>
      refine sorted_ints_rev (b := true) pl hI (by omega) fun out ns' a1 a2 a3 => fin out ns' a1 ?_
      have a3 : ns'.Pairwise (· >= ·) := a3
      have := oC (a := ns'.reverse) ((List.reverse_perm ns').trans a2) (List.pairwise_reverse.mpr a3)
      show ns' = (eY ns).reverse
      rw [<- this, List.reverse_reverse]
  cases b with
  | false =>
    refine callWith_kw (kws := []) (aM (h ow t pins s σ H _ I ⟨E, fun vs H1 s1 r1 => (show (fun vs H1 => ay H H1 /\ af X.K H1 (Kp ow H k) [.lst (ns.map D.int)] vs) vs H1 from ⟨s1, r1⟩)⟩) fun us s1 ⟨vs, H1, I1, rv, sm, rp⟩ => kws_nil (key us s1 ⟨vs, H1, I1, rv, sm, rp⟩)) (by rw [n1]; rfl) (bY fun x hx => hst x hx)
  | true =>
    refine callWith_kw (kws := [⟨some (Str.ofString "reverse"), .Constant (.bool true) n0 p0, kp⟩]) (aM (h ow t pins s σ H _ I ⟨E, fun vs H1 s1 r1 => (show (fun vs H1 => ay H H1 /\ af X.K H1 (Kp ow H k) [.lst (ns.map D.int)] vs) vs H1 from ⟨s1, r1⟩)⟩) fun us s1 ⟨vs, H1, I1, rv, sm, rp⟩ => kws_cons (wpAny_pure (kws_nil (key us s1 ⟨vs, H1, I1, rv, sm, rp⟩)))) (by rw [n1]; rfl) (bY fun x hx => hst x hx)
end Sp
namespace Sp
open PySem PySem.Spec PyProof.Rows L2
inductive Xd (Φ : Fx) (sc : Scope) (ρ : ai) : Expr -> D -> Prop where
  | ev {e : Expr} {d : D} (h : aa (au Φ e false sc ρ) (d, 0)) : Xd Φ sc ρ e d
  | lrev {e : Expr} {l : List D} {k : Nat} {f g : Str} {p q r t : Pos} (h : aa (bX Φ [e] sc ρ) ([.lst l], k)) (fl : ao l = true) (hf : f = "list" := by rfl) (hg : g = "reversed" := by rfl) (gf : sc.names.lookup f = some .globalImplicit := by rfl) (gg : sc.names.lookup g = some .globalImplicit := by rfl) : Xd Φ sc ρ (.Call (.Name f p) [.Call (.Name g q) [e] [] r] [] t) (.lst l.reverse)
  | srt (b : Bool) {e : Expr} {ns : List Int} {k n0 : Nat} {f : Str} {p t p0 kp : Pos} (h : aa (bX Φ [e] sc ρ) ([.lst (ns.map D.int)], k)) (hn : ns.length < 64) (hf : f = "sorted" := by rfl) (gf : sc.names.lookup f = some .globalImplicit := by rfl) : Xd Φ sc ρ (.Call (.Name f p) [e] (Dr b n0 p0 kp) t) (.lst ((iy b ns).map D.int))
  | pick4 {e1 e2 e3 e4 i : Expr} {d1 d2 d3 d4 d : D} {j : Int} {k : Nat} {lp p : Pos} (h1 : Xd Φ sc ρ e1 d1) (h2 : Xd Φ sc ρ e2 d2) (h3 : Xd Φ sc ρ e3 d3) (h4 : Xd Φ sc ρ e4 d4) (hi : aa (au Φ i false sc ρ) (.int j, k)) (ha : atI [d1, d2, d3, d4] j = some d) : Xd Φ sc ρ (.Subscript (.List [e1, e2, e3, e4] lp) i p) d
variable {X : Cx}
theorem gy {Φ : Fx} {sc : Scope} {ρ : ai} {e : Expr} {d : D} (h : Xd Φ sc ρ e d) : ∀ y p, e ≠ .Starred y p := by
  cases h with
  | ev h => intro y p z; subst z; obtain ⟨_, h, _⟩ := h; cases h
  | lrev => intro y p z; cases z
  | srt => intro y p z; cases z
  | pick4 => intro y p z; cases z
theorem AN (d : D) : mk d 0 = .ok (d, 0) [] := by unfold mk kn; split <;> rfl
theorem Fr {Φ : Fx} {sc : Scope} {ρ : ai} {e : Expr} {d : D} (G : aT Φ X sc) (h : Xd Φ sc ρ e d) : ED X ρ e d 0 := by
  induction h with
  | ev h => exact (c6 h G).ed rfl
  | lrev h fl hf hg gf gg =>
    obtain ⟨l7, h7, p7⟩ := h
    obtain ⟨hst, _⟩ := cG h7 p7
    exact tO G.calm hf hg (G.gl _ gf) (G.gl _ gg) (by subst hf; exact G.bl _ (by decide +kernel)) (by subst hg; exact G.bl _ (by decide +kernel)) (jC [_] h7 p7 G) hst fl
  | srt b h hn hf gf =>
    obtain ⟨l7, h7, p7⟩ := h
    obtain ⟨hst, _⟩ := cG h7 p7
    exact D7 b hf (G.gl _ gf) (by subst hf; exact G.bl _ (by decide +kernel)) (jC [_] h7 p7 G) hst hn
  | pick4 h1 h2 h3 h4 hi ha i1 i2 i3 i4 =>
    have at4 := fg i1 (fg i2 (fg i3 (fg i4 rM (aV (gy h4))) (aV (gy h3))) (aV (gy h2))) (aV (gy h1))
    obtain ⟨l, hi', pi⟩ := hi
    refine zr (o := []) (tP (k := 0) at4 (Nat.zero_le _) (by show 4 <= 40000; decide)) ((c6 ⟨l, hi', pi⟩ G).ed rfl) (mq hi') ?_
    show (match atI _ _ with | some d => mk d 0 | none => .st) = _
    rw [ha]
    exact AN _
inductive Rn (Φ : Fx) (sc : Scope) : List Stmt -> ai -> D -> Prop where
  | fin {ss : List Stmt} {ρ : ai} {r : D} (h : aa (az Φ ss sc ρ) (.rt r)) : Rn Φ sc ss ρ r
  | cut (n : Nat) {ss : List Stmt} {ρ ρ1 : ai} {r : D} (h : aa (az Φ (ss.take n) sc ρ) (.nx ρ1)) (k : Rn Φ sc (ss.drop n) ρ1 r) : Rn Φ sc ss ρ r
  | dem {ss : List Stmt} {ρ : ai} {r : D} (k : Rn Φ sc ss (dz ρ) r) : Rn Φ sc ss ρ r
  | set {x : Str} {e : Expr} {px q : Pos} {ss : List Stmt} {ρ : ai} {d r : D} (h : Xd Φ sc ρ e d) (k : Rn Φ sc ss (bv ρ x (d, true)) r) (hx : cQ sc x = true := by rfl) (hc : jx e = false := by rfl) : Rn Φ sc (.Assign [.Name x px] e q :: ss) ρ r
theorem F3 {Φ : Fx} {sc : Scope} {H0 : Hp} {ss : List Stmt} {ρ : ai} {r : D} (G : aT Φ X sc) (hp : PassesOwn (model X.prog X.w) X.A X.env X.xe) (h : Rn Φ sc ss ρ r) : fJ X H0 ρ ss (.rt r) := by
  induction h with
  | fin h => exact mN _ h G hp
  | cut n h k ih => rename_i ss' _ _ _; rw [<- List.take_append_drop n ss']; exact j8 G hp h ih
  | dem k ih => exact sK ih
  | set h k hx hc ih => exact lE (qe G hx (Fr G h) (.inl ⟨rfl, rfl⟩) (k7 hc)) ih
def u4 (Φ : Fx) (sc : Scope) (ps : List Str) (ss : List Stmt) (ds : List D) (r : D) : Prop := ds.length = ps.length /\ Rn Φ sc ss (ey ps ds) r
theorem Bi {P : Program} {w : World} {K : W.Frag} {mg : Str -> Option Value} {base : Heap} {k : Nat} {g qual : Str} {st : Stmt} {f : Addr} {fd : FuncData} {ps : List Str} {Φ : Fx} {F : List D -> Rs D} (Fn : ly K g qual st f fd)
    (S : aJ (aA (ac st)) ps (ac st)) (hΦ : r6 P w K mg base k Φ) (hrun : ∀ ds r, aa (F ds) r -> u4 Φ (ac st) ps (al st) ds r) : ci P w K mg base eT (k + 1) f fd ps (gX K F) := by
  refine Fn.ok S (fun vs H Q E h => ?_) (fun cdv A outer s H vs Q E hr h => ?_)
  . obtain ⟨ds, r, l, h1, h2, hp, _⟩ := h
    rw [<- h1.length]
    exact (hrun ds r ⟨l, h2, hp⟩).1
  . obtain ⟨ds, r, l, h1, h2, hp, qq⟩ := h
    obtain ⟨hl, hr'⟩ := hrun ds r ⟨l, h2, hp⟩
    have G := kB (outer := outer) (H := H) (E := E) S hΦ hr
    obtain ⟨E0, hsl⟩ := mX (P := P) (w := w) (mg := mg) (base := base) (qual := qual) (f := f) (cdv := cdv) (A := A) (outer := outer) (s := s) (E := E) S h1 hl
    have B0 : cT H (fun _ => none) H := fun a o h => ⟨h, rfl⟩
    exact ⟨_, F3 (H0 := H) G PassesOwn.never hr', fun _ => none, E0, hsl, B0, fun v H' sm rp => qq v H' sm rp⟩
end Sp
namespace K
open PySem L2 Sp
def ah (i : Nat) : Stmt := PySem.Challenge.pw_spaceturns_k25_many_primes.main.body.getD i (.Pass ⟨0, 0, 0, 0⟩)
local macro_rules | `(tactic| walk_at "leaf") => `(tactic| first | ((with_reducible apply sY); decide) | ((with_reducible apply e8); decide) | ((with_reducible apply BA) <;> decide) | ((with_reducible apply bE) <;> (with_reducible assumption)) | ((with_reducible apply An) <;> decide) | ((with_reducible refine Eq.trans ?_ rfl); exact rfl) | ((with_reducible apply cel_bits); (with_reducible assumption)) | ((with_reducible apply Df); assumption) | exact Nat.le_of_ble_eq_true rfl | exact Or.inl rfl | exact Or.inr rfl | exact Or.inr (Nat.le_refl 1) | exact Or.inr (Nat.zero_le 1) | decide | decide +kernel)
local macro_rules | `(tactic| walk_at "ob") => `(tactic| (repeat' (first | with_reducible exact True.intro | with_reducible exact yt | with_reducible apply uU | with_reducible apply yr | with_reducible apply sr | with_reducible assumption | ((with_reducible apply dP); intro hgd) | walk_at "leaf")))
local macro_rules | `(decl_name%) => `(b0 rfl (by walk_at "ob"))
def BL : List (Str × (List D -> R1)) := [("len", yk), ("tuple", rG), ("list", uR), ("abs", yp), ("all", yo), ("sum", yi), ("isinstance", ym), ("sorted", og), ("int", yn)]
def IL : List (Str × (List D -> Nat -> R1)) := [("range", jB), ("zip", xM), ("enumerate", uD), ("reversed", xN)]
def ML : List (Str × (D -> List D -> R1)) := []
def TL : List (Str × (List D -> List D -> Nat -> Rs (List D))) := [("append", ky)]
def yw : Fx := Tb [] [] BL IL ML TL bT
def yB : List D -> Rs D := bP yw (ac (ah 36)) ["_law_script", "_law_k"] (al (ah 36))
def iT : List D -> Rs D := mi dL dI fun l k => .ok (.int (ij l k)) [y9 l]
theorem sy : ∀ ds r, aa (iT ds) r -> aa (yB ds) r := by
  intro ds r h
  obtain ⟨l, k, rfl, h⟩ := eZ h
  obtain ⟨rfl, ⟨ns, rfl⟩, _⟩ := bC h
  refine cS (bR 1 (b0 rfl True.intro) (ph (b0 rfl True.intro) (fun ht => ?_) (fun hf => ?_)))
  . have hl : (ns.map D.int).length = ns.length := by simp
    have hp : (0 : Int) < ((ns.map D.int).length : Nat) := by simpa using ht
    have hi : L2.atI (ns.map D.int) (k.fmod (((ns.map D.int).length : Nat) : Int)) = some (.int (jJ ns k)) := by
      rw [hl] at hp ⊢
      have hne : ns ≠ [] := by intro z; subst z; simp at hp
      unfold jJ
      rw [if_neg hne]
      exact BQ (Int.fmod_nonneg_of_pos _ hp) (Int.fmod_lt_of_pos _ hp)
    refine cj (cC (d := .int (jJ ns k)) (kE (b0 rfl True.intro) (b0 rfl ⟨Int.ne_of_gt hp, True.intro⟩) rfl hi)) ?_
    refine decl_name%.eq ?_
    unfold ij zx; rw [md]
  . have hp : ns = [] := by
      cases ns with
      | nil => rfl
      | cons n ns => simp at hf
    subst hp
    refine decl_name%.eq ?_
    rfl
def wA : Fx := Tb [] [] BL IL ML TL bT
def jV : List D -> Rs D := bP wA (ac (ah 42)) [] (al (ah 42))
def lY : List Qd := [(2, 0, 0, 0), (-2, 0, 0, 0), (0, 2, 0, 0), (0, -2, 0, 0), (0, 0, 2, 0), (0, 0, -2, 0), (0, 0, 0, 2), (0, 0, 0, -2), (1, 1, 1, 1), (-1, 1, 1, 1), (1, -1, 1, 1), (-1, -1, 1, 1), (1, 1, -1, 1), (-1, 1, -1, 1), (1, -1, -1, 1), (-1, -1, -1, 1), (1, 1, 1, -1), (-1, 1, 1, -1), (1, -1, 1, -1), (-1, -1, 1, -1), (1, 1, -1, -1), (-1, 1, -1, -1), (1, -1, -1, -1), (-1, -1, -1, -1)]
theorem zS : aa (jV []) (.lst (lY.map dq)) := b0 rfl (by walk_at "ob")
theorem oz : ∀ p ∈ lY, p ∈ pp := by decide +kernel
def wC : Fx := Tb [] [] BL IL ML TL bT
def jW : List D -> Rs D := bP wC (ac (ah 43)) ["_law_n"] (al (ah 43))
theorem Bf {n : Int} (hn : n ∈ cY) : aa (jW [.int n]) (.lst ((ck n).map dq)) := by
  have hb : n.natAbs <= 97 := by
    have : ∀ x ∈ cY, x.natAbs <= 97 := by decide
    exact this n hn
  have m4 : bn 4 n := e8 (by decide)
  refine cS (bR 3 decl_name% (MR (Q := Sub (bK [("_law_found", .lst ((ck n).map dq), true)])) 1 ?_ fun ρ1 s => dG s decl_name%))
  refine dY (fc (h := D.int) (g := uI n) (T := ck n) (F := []) (R := []) (fun F ρ => Sub (bK [("_law_n", .int n, false), ("_law_roots", .dct (lh fx) (sO fx), true), ("_law_found", .lst (F.map dq), true)]) ρ) ([0, 1] : List Int) decl_name% rfl (ae rfl (ae rfl (ae rfl aH))) (by simp only [List.nil_append, List.append_nil]; rfl) fun par hpar F R ρ e s => ⟨_, rfl, ?_⟩) fun ρ s => dJ (ae s.get aH)
  have hpar : par = 0 \/ par = 1 := by simpa using hpar
  have s1 := s.put (Str.ofString "_law_parity") (.int par, false)
  refine d8 (cC (d := .lst ((dF n par).map D.int)) (bx s1 (xX (l := (List.range 41).map fun i : Nat => -20 + (i : Int)) (g := D.int) (f := D.int) (t := fun k => decide (k.fmod 2 = par) && decide (k * k <= 4 * n)) decl_name% (by rw [List.map_map]; rfl) (by simp; decide) (.inr (Nat.zero_le _)) fun x hx => ⟨_, 0, rfl, ?_, fun _ => decl_name%⟩))) ?_
  . have hx : -20 <= x /\ x <= 20 := by
      obtain ⟨i, hi, rfl⟩ := List.mem_map.mp hx
      have : i < 41 := by simpa using hi
      omega
    have mx : bn x x := e8 (by omega)
    exact tL (decl_name%.bl (d9 _ _)) decl_name%
  have sl := p9 (n := n) hpar
  have fl := xT n
  have s2 := s1.put (Str.ofString "_law_some") (.lst ((dF n par).map D.int), true)
  refine dY (fc (h := D.int) (g := uH n par) (T := ck n) (F := F) (R := R) (fun F ρ => Sub (bK [("_law_n", .int n, false), ("_law_roots", .dct (lh fx) (sO fx), true), ("_law_found", .lst (F.map dq), true), ("_law_parity", .int par, false), ("_law_some", .lst ((dF n par).map D.int), false)]) ρ) (dF n par) (bx (s2.demote _) decl_name%) rfl (ae (s2.demote _).get (ae (s2.demote _).get (ae (s2.demote _).get (ae (s2.demote _).get (ae (s2.demote _).get aH))))) e fun a ha F R ρ e s => ⟨_, rfl, ?_⟩) fun ρ s => dJ (ae s.get (ae s.get (ae s.get aH)))
  have s3 := s.put (Str.ofString "_law_a") (.int a, false)
  refine dY (fc (h := D.int) (g := uG n par a) (T := ck n) (F := F) (R := R) (fun F ρ => Sub (bK [("_law_n", .int n, false), ("_law_roots", .dct (lh fx) (sO fx), true), ("_law_found", .lst (F.map dq), true), ("_law_parity", .int par, false), ("_law_some", .lst ((dF n par).map D.int), false), ("_law_a", .int a, false)]) ρ) (dF n par) (bx (s3.demote _) decl_name%) rfl (ae (s3.demote _).get (ae (s3.demote _).get (ae (s3.demote _).get (ae (s3.demote _).get (ae (s3.demote _).get (ae (s3.demote _).get aH)))))) e fun b hb F R ρ e s => ⟨_, rfl, ?_⟩) fun ρ s => dJ (ae s.get (ae s.get (ae s.get (ae s.get (ae s.get aH)))))
  have s4 := s.put (Str.ofString "_law_b") (.int b, false)
  refine dY (fc (h := D.int) (g := iP n par a b) (T := ck n) (F := F) (R := R) (fun F ρ => Sub (bK [("_law_n", .int n, false), ("_law_roots", .dct (lh fx) (sO fx), true), ("_law_found", .lst (F.map dq), true), ("_law_parity", .int par, false), ("_law_some", .lst ((dF n par).map D.int), false), ("_law_a", .int a, false), ("_law_b", .int b, false)]) ρ) (dF n par) (bx (s4.demote _) decl_name%) rfl (ae (s4.demote _).get (ae (s4.demote _).get (ae (s4.demote _).get (ae (s4.demote _).get (ae (s4.demote _).get (ae (s4.demote _).get (ae (s4.demote _).get aH))))))) e fun c hc F R ρ e s => ⟨_, rfl, ?_⟩) fun ρ s => dJ (ae s.get (ae s.get (ae s.get (ae s.get (ae s.get (ae s.get aH))))))
  obtain ⟨_, a1, a2⟩ := e6 ha
  obtain ⟨_, b1, b2⟩ := e6 hb
  obtain ⟨_, c1, c2⟩ := e6 hc
  have ma : bn a a := e8 (by omega)
  have mb : bn b b := e8 (by omega)
  have mc : bn c c := e8 (by omega)
  have e0 := e
  have le : F.length + (iP n par a b c).length <= 37044 := by
    have : (F ++ (iP n par a b c ++ R)).length <= 37044 := by rw [e]; exact fl
    simp only [List.length_append] at this
    omega
  have s5 := s.put (Str.ofString "_law_c") (.int c, false)
  have hget := v8 (lm n a b c) fx
  unfold iP at le ⊢
  cases hr : qg fx (lm n a b c) with
  | none =>
    have hin : ej (lh fx) (.inl (lm n a b c)) = false := by rw [qS, hr]; rfl
    refine cK s5 (bR 1 decl_name% (cH (t := false) (k := 0) (dZ (eH (b := false) (k := 0) (eM decl_name% decl_name% (r := false) (mJ hin)) (fun z => by cases z) (fun _ => rfl))) rfl da)) fun ρ' s' => ?_
    simp only [List.append_nil]
    exact ae s'.get (ae s'.get (ae s'.get (ae s'.get (ae s'.get (ae s'.get (ae s'.get aH))))))
  | some d =>
    have hin : ej (lh fx) (.inl (lm n a b c)) = true := by rw [qS, hr]; rfl
    rw [hr] at hget le
    obtain ⟨_, d1, d2⟩ := sN hr
    dsimp only at le ⊢
    by_cases hp : d.fmod 2 = par
    . rw [if_pos hp] at le ⊢
      by_cases hl : 0 < lm n a b c
      . rw [if_pos hl] at le ⊢
        simp only [List.length_cons, List.length_nil] at le
        have l1 : (F.map dq).length < bL := by rw [List.length_map]; show _ < 40000; omega
        have l2 : (F.map dq ++ [dq (a, b, c, d)]).length < bL := by rw [List.length_append, List.length_map]; show _ + 1 < 40000; omega
        refine cK s5 (bR 1 decl_name% (pW (t := true) (k := 0) (dZ (mT (k := 0) (eM decl_name% decl_name% (r := true) (mJ hin)) (mT (k := 0) (eM (re (fU decl_name% decl_name% rfl hget) decl_name% decl_name%) decl_name% (r := true) (decl_name%.eq ((d9 _ _).trans (decide_eq_true hp)))) jD))) rfl (cj (mO (l := F.map dq) (l' := F.map dq ++ [dq (a, b, c, d)]) (aO (rc (aO decl_name% (aO decl_name% (aO decl_name% (aO (fU decl_name% decl_name% rfl hget) cm)))) (Nat.le_of_ble_eq_true rfl)) cm) rfl (nh l1)) (pW (t := decide (0 < lm n a b c)) (k := 0) decl_name% (decide_eq_true hl) (cj (mO (l := F.map dq ++ [dq (a, b, c, d)]) (l' := F.map dq ++ [dq (a, b, c, d)] ++ [dq (a, b, c, -d)]) (aO (rc (aO decl_name% (aO decl_name% (aO decl_name% (aO (DY (fU decl_name% decl_name% rfl hget)) cm)))) (Nat.le_of_ble_eq_true rfl)) cm) rfl (nh l2)) da))))) fun ρ' s' => ?_
        rw [List.map_append]
        exact ae s'.get (ae s'.get (ae (s'.get.trans (by rw [List.append_assoc]; rfl)) (ae s'.get (ae s'.get (ae s'.get (ae s'.get aH))))))
      . rw [if_neg hl] at le ⊢
        simp only [List.length_cons, List.length_nil] at le
        have l1 : (F.map dq).length < bL := by rw [List.length_map]; show _ < 40000; omega
        refine cK s5 (bR 1 decl_name% (pW (t := true) (k := 0) (dZ (mT (k := 0) (eM decl_name% decl_name% (r := true) (mJ hin)) (mT (k := 0) (eM (re (fU decl_name% decl_name% rfl hget) decl_name% decl_name%) decl_name% (r := true) (decl_name%.eq ((d9 _ _).trans (decide_eq_true hp)))) jD))) rfl (cj (mO (l := F.map dq) (l' := F.map dq ++ [dq (a, b, c, d)]) (aO (rc (aO decl_name% (aO decl_name% (aO decl_name% (aO (fU decl_name% decl_name% rfl hget) cm)))) (Nat.le_of_ble_eq_true rfl)) cm) rfl (nh l1)) (cH (t := decide (0 < lm n a b c)) (k := 0) decl_name% (decide_eq_false hl) da)))) fun ρ' s' => ?_
        rw [List.map_append]
        exact ae s'.get (ae s'.get (ae s'.get (ae s'.get (ae s'.get (ae s'.get (ae s'.get aH))))))
    . rw [if_neg hp] at le ⊢
      refine cK s5 (bR 1 decl_name% (cH (t := false) (k := 0) (dZ (mT (k := 0) (eM decl_name% decl_name% (r := true) (mJ hin)) (eH (b := false) (k := 0) (eM (re (fU decl_name% decl_name% rfl hget) decl_name% decl_name%) decl_name% (r := false) (decl_name%.eq ((d9 _ _).trans (decide_eq_false hp)))) (fun z => by cases z) (fun _ => rfl)))) rfl da)) fun ρ' s' => ?_
      simp only [List.append_nil]
      exact ae s'.get (ae s'.get (ae s'.get (ae s'.get (ae s'.get (ae s'.get (ae s'.get aH))))))
def wB : Fx := Tb [] [] BL IL ML TL bT
def wL : List D -> Rs D := bP wB (ac (ah 40)) ["_law_one", "_law_other"] (al (ah 40))
def fB : List D -> Rs D := mi dQ dQ fun p q => .ok (dq (aI p q)) [dj p, dj q]
theorem rS : ∀ ds r, aa (fB ds) r -> aa (wL ds) r := by
  intro ds r h
  obtain ⟨p, q, rfl, h'⟩ := eZ h
  obtain ⟨rfl, ⟨a1, a2, a3, a4⟩, ⟨b1, b2, b3, b4⟩, _⟩ := bC h'
  exact decl_name%
def lw : Fx := Tb [] [] BL IL ML TL bT
def fu : List D -> Rs D := bP lw (ac (ah 44)) ["_law_four"] (al (ah 44))
theorem vS (a b c d G : Int) (f : Bool) (hG : fP G) : aa (az lw ((al (ah 44)).drop 2) (ac (ah 44)) (bK [("_law_four", t4 a b c d, false), ("_law_common", .int G, f)])) (.rt (.int (cond (([D.int ((a.fdiv G).fmod 2), .int ((b.fdiv G).fmod 2), .int ((c.fdiv G).fmod 2), .int ((d.fdiv G).fmod 2)].any fun z => cO z (.int 0)) && ([D.int ((a.fdiv G).fmod 2), .int ((b.fdiv G).fmod 2), .int ((c.fdiv G).fmod 2), .int ((d.fdiv G).fmod 2)].any fun z => cO z (.int 1))) (G.fdiv 2) G))) := by
  refine bR 1 decl_name% (ph (tL decl_name% decl_name%) (fun ht => ?_) (fun hf => ?_))
  . rw [ht]; exact decl_name%
  . rw [hf]; exact decl_name%
theorem Dq {a b c d : Int} (h0 : ¬ (a = 0 /\ b = 0 /\ c = 0 /\ d = 0)) (hb : ∀ n ∈ [a, b, c, d], n.natAbs < 2 ^ 1000) (hB : fP (gI [a, b, c, d])) : aa (fu [t4 a b c d]) (.int (cond (([D.int ((a.fdiv (gI [a, b, c, d])).fmod 2), .int ((b.fdiv (gI [a, b, c, d])).fmod 2), .int ((c.fdiv (gI [a, b, c, d])).fmod 2), .int ((d.fdiv (gI [a, b, c, d])).fmod 2)].any fun z => cO z (.int 0)) && ([D.int ((a.fdiv (gI [a, b, c, d])).fmod 2), .int ((b.fdiv (gI [a, b, c, d])).fmod 2), .int ((c.fdiv (gI [a, b, c, d])).fmod 2), .int ((d.fdiv (gI [a, b, c, d])).fmod 2)].any fun z => cO z (.int 1))) ((gI [a, b, c, d]).fdiv 2) (gI [a, b, c, d]))) := by
  refine cS (bR 1 decl_name% (nI (ds := ([a, b, c, d] : List Int).map D.int) (fun rem ρ => ∃ (r : List Int) (g : Nat) (f : Bool), rem = r.map D.int /\ (∀ n ∈ r, n.natAbs < 2 ^ 1000) /\ df g r = df 0 [a, b, c, d] /\ g < 2 ^ 1000 /\ Sub (bK [("_law_four", t4 a b c d, false), ("_law_common", .int g, f)]) ρ) decl_name% ⟨[a, b, c, d], 0, true, rfl, hb, rfl, Nat.pow_pos (by decide), ae rfl (ae rfl aH)⟩ ?_ ?_))
  . rintro x l ρ ⟨r, g, f, hr, hb', hg, hlt, s⟩
    cases r with
    | nil => cases hr
    | cons n r =>
      cases hr
      have hn := hb' n List.mem_cons_self
      have ea : (if n < 0 then -n else n) = ((n.natAbs : Nat) : Int) := by omega
      refine ⟨_, rfl, d8 (cC (d := .int (n.natAbs : Nat)) (bx (s.put _ _) (decl_name%.eq (by rw [ea])))) (Fs (m := 2002) (fun m ρ => ∃ (x y : Nat) (f1 f2 : Bool), wN x y m /\ x < 2 ^ 1000 /\ y < 2 ^ 1000 /\ Nat.gcd x y = Nat.gcd g n.natAbs /\ Sub (bK [("_law_four", t4 a b c d, false), ("_law_common", .int x, f1), ("_law_rest", .int y, f2)]) ρ) ⟨g, n.natAbs, f, true, DZ hlt hn, hlt, hn, rfl, ae ((s.put _ _).put _ _).get (ae ((s.put _ _).put _ _).get (ae ((s.put _ _).put _ _).get aH))⟩ (by decide) ?_ ?_)⟩
      . rintro m ρ ⟨x, y, f1, f2, hm, hx, hy, hg', s⟩
        refine ⟨decide ((0 : Int) < y), 0, bx s decl_name%, fun ht => ?_⟩
        have h0 : y ≠ 0 := by
          have := of_decide_eq_true ht
          omega
        have hn : (y : Int) ≠ 0 := by omega
        obtain ⟨m', hm', hE⟩ := tM hm h0
        have e := wc x y
        exact j5 hm' (cK s decl_name% fun ρ' s' => ⟨y, x % y, false, false, hE, hy, Nat.lt_trans (Nat.mod_lt _ (by omega)) hy, by rw [<- hg', Nat.gcd_comm x y, Nat.gcd_rec y x, Nat.gcd_comm], ae s'.get (ae s'.get (ae (by rw [<- e]; exact s'.get) aH))⟩)
      . rintro m ρ ⟨x, y, f1, f2, hm, hx, hy, hg', s⟩ ⟨k, hk⟩
        have e := hk.inj (bx s decl_name%)
        have h0 : y = 0 := by
          have e1 : decide ((0 : Int) < y) = false := by injection e with e1 e2; injection e1 with e1; exact e1.symm
          have := of_decide_eq_false e1
          omega
        subst h0
        rw [Nat.gcd_zero_right] at hg'
        exact ⟨r, x, f1, rfl, fun m hm => hb' m (List.mem_cons_of_mem _ hm), by rw [hg']; exact hg, hx, ae s.get (ae s.get aH)⟩
  . rintro ρ ⟨r, g, f, hr, hb', hg, hlt, s⟩
    cases r with
    | nil =>
      have e : (g : Int) = gI [a, b, c, d] := by unfold gI; rw [<- hg]; rfl
      rw [<- e] at hB ⊢
      exact dG s (vS a b c d _ _ hB)
    | cons n r => cases hr
def yv : Fx := Tb [] [] BL IL ML TL bT
def yA : List D -> Rs D := bP yv (ac (ah 39)) ["_law_four"] (al (ah 39))
def iS : List D -> Rs D := pZ dQ fun p => .ok (.int (ar p)) [dj p]
theorem sx : ∀ ds r, aa (iS ds) r -> aa (yA ds) r := by
  intro ds r h
  obtain ⟨p, rfl, h'⟩ := gZ h
  obtain ⟨rfl, hp, _⟩ := bC h'
  obtain ⟨⟨a1, a2, a3, a4⟩, _⟩ := ng hp hp
  exact b0 rfl (by walk_at "ob")
def gn : Fx := Tb [("_law_units", jV), ("_law_fours", jW), ("_law_cell", iT), ("_law_times", fB), ("_law_divisor", fu), ("_law_size", iS)] [] BL IL ML TL bT
def iV : List D -> Rs D := iA gn (ac (ah 46)) ["_law_script", "_law_many"] ((al (ah 46)).take 4) ((al (ah 46)).drop 4)
theorem FO {a b : Qd} (ha : dj a) (hb : dj b) : aa (fB [dq a, dq b]) (dq (aI a b)) := ⟨_, rfl, ha, hb, True.intro⟩
theorem GN {α : Type} {f : α -> D} {l : List α} {c : Int} (h : 0 < l.length) : ∃ x ∈ l, L2.atI (l.map f) (c.fmod ((l.map f).length : Nat)) = some (f x) := by
  rw [List.length_map]
  exact uS (Int.fmod_nonneg_of_pos _ (by omega)) (Int.fmod_lt_of_pos _ (by omega))
theorem E9 {α : Type} {f g : α -> D} {l : List α} {i : Int} (h0 : 0 <= i) (h1 : i < l.length) : ∃ x ∈ l, L2.atI (l.map f) i = some (f x) /\ L2.atI (l.map g) i = some (g x) := by
  obtain ⟨j, rfl⟩ := Int.eq_ofNat_of_zero_le h0
  have hj : j < l.length := by omega
  exact ⟨l[j], List.getElem_mem _, kK (by simp [hj]), kK (by simp [hj])⟩
theorem BB {C ρ : ai} (h : Sub C ρ) : Sub (dz C) (dz ρ) := fun x y e => by
  unfold dz at e ⊢
  cases hc : C x with
  | none => rw [hc] at e; cases e
  | some p => rw [hc] at e; rw [h x p hc]; exact e
theorem Gp {q : Qd} (h : q ≠ ax) (g : gQ 400 q) : aa (fu [dq q]) (.int (fV q)) := by
  have b := g.bd (by decide)
  obtain ⟨n, hn, n0⟩ := sX h
  have hg := qW hn n0
  have hle : ∀ n ∈ [q.1, q.2.1, q.2.2.1, q.2.2.2], n.natAbs <= 2 ^ 400 := by
    intro n hn
    simp only [List.mem_cons, List.not_mem_nil, or_false] at hn
    rcases hn with rfl | rfl | rfl | rfl
    . exact g.2.1
    . exact g.2.2.1
    . exact g.2.2.2.1
    . exact g.2.2.2.2
  have k := Dq (a := q.1) (b := q.2.1) (c := q.2.2.1) (d := q.2.2.2) (fun z => h (cv z.1 z.2.1 z.2.2.1 z.2.2.2)) (fun m hm => Nat.lt_of_le_of_lt (hle m hm) (Nat.pow_lt_pow_right (by decide) (by decide))) ⟨by omega, Nat.lt_of_le_of_lt (Nat.le_trans (zp hn n0) (hle n hn)) (Nat.pow_lt_pow_right (by decide) (by decide))⟩
  rw [Aw] at k
  refine k.eq ?_
  unfold fV
  cases gN _ _ _ _ <;> rfl
theorem Dh {p q : Qd} (hp : ak p) (hq : ak q) (p0 : p ≠ ax) (q0 : q ≠ ax) : aI p q ≠ ax := EY (s := true) hp hq p0 q0
theorem wU {u : Qd} (h : u ∈ lY) : ar u = 1 := (sV (oz u h)).2.1
def tT (q : Qd) (ns : List Int) : Prop := ak q /\ gv q /\ ar q = cF ns /\ (∀ n ∈ ns, n ∈ cY) /\ ar q <= ((2 ^ 253 : Nat) : Int)
theorem AS {L : List D} (hl : y9 L) {ks : List Int} (hk : ∀ k ∈ ks, k ∈ cY) (h5 : ks.length = 5) (i : Nat) {q : Qd} {ns : List Int} {g : Bool} (lg : tT q ns) (hn : ns.length <= i) (hi : i < 61) (ρ : ai) (s : Sub (bK [("_law_script", .lst L, false), ("_law_kinds", .lst (ks.map D.int), false), ("_law_some", .lst (ks.map fun p => .lst ((ck p).map dq)), false), ("_law_whole_here", dq q, g), ("_law_primes", .lst (ns.map D.int), true), ("_law_k", .int (i : Nat), false)]) ρ) :
    ∃ ρ2, aa (az gn (kC ((al (ah 46)).getD 5 (.Pass ⟨0, 0, 0, 0⟩))) (ac (ah 46)) ρ) (.nx ρ2) /\ ∃ (q : Qd) (ns : List Int) (g : Bool), tT q ns /\ ns.length <= i + 1 /\ Sub (bK [("_law_script", .lst L, false), ("_law_kinds", .lst (ks.map D.int), false), ("_law_some", .lst (ks.map fun p => .lst ((ck p).map dq)), false), ("_law_whole_here", dq q, g), ("_law_primes", .lst (ns.map D.int), true)]) ρ2 := by
  obtain ⟨hq, pl, es, hP, hb⟩ := lg
  obtain ⟨p, hp, a1, a2⟩ := E9 (l := ks) (f := fun p => D.lst ((ck p).map dq)) (g := D.int) (i := (ij L (3 + (i : Nat))).fmod 5) (Int.fmod_nonneg_of_pos _ (by decide)) (by rw [h5]; exact Int.fmod_lt_of_pos _ (by decide))
  have pP := hk p hp
  obtain ⟨w, hw, atw⟩ := GN (f := dq) (l := ck p) (c := (ij L (3 + (i : Nat))).fdiv 8) (qX pP)
  obtain ⟨gw, ew⟩ := xS hw
  have gq := iJ hq hb
  have gm := gq.mul gw
  have bq := gq.bd (by decide)
  have bw := gw.bd (by decide)
  have bm := gm.bd (by decide)
  have w0 : w ≠ ax := fun z => by
    have p1 : 1 < p := by revert pP; unfold cY; simp only [List.mem_cons, List.not_mem_nil, or_false]; omega
    rw [z] at ew
    have : ar ax = 0 := rfl
    omega
  have m0 : aI q w ≠ ax := Dh hq gw.1 pl.ne w0
  have kd := Gp m0 (gm.mono (by decide))
  have hne2 : ((((ck p).map dq).length : Nat) : Int) ≠ 0 := by have := qX pP; rw [List.length_map]; omega
  have s2 := s.put (Str.ofString "_law_cell_here") (.int (ij L (3 + (i : Nat))), true)
  have s3 := s2.put (Str.ofString "_law_fours_here") (.lst ((ck p).map dq), false)
  have s4 := s3.put (Str.ofString "_law_more") (dq (aI q w), true)
  have t38 : ((10 : Int) ^ Int.toNat 38).natAbs < cD := jM (m := 127) (by decide) (by decide)
  have mo : bn (10 ^ Int.toNat 38) (10 ^ Int.toNat 38) := .inr (.inr (.inl ⟨t38, t38⟩))
  have l1 : (ns.map D.int).length < bL := by rw [List.length_map]; show _ < 40000; omega
  refine d8 (cC (d := .int (ij L (3 + (i : Nat)))) (bx s decl_name%)) (d8 (Bo (d := .lst ((ck p).map dq)) (bx s2 (kE decl_name% decl_name% rfl a1))) (d8 (cC (d := dq (aI q w)) (bx s3 (bQ (aO decl_name% (aO (kE decl_name% decl_name% rfl atw) cm)) (FO bq bw)))) (dY (pu (t := decide (fV (aI q w) = 1) && decide (ar (aI q w) < 10 ^ 38 * 10 ^ 38)) (k := 0) (bx s4 (dZ (eH (b := decide (fV (aI q w) = 1)) (eM (x := .int (fV (aI q w))) (y := .int 1) (bQ decl_name% kd) decl_name% (decl_name%.eq (d9 _ _))) (fun h1 => eH (b := decide (ar (aI q w) < 10 ^ 38 * 10 ^ 38)) decl_name% (fun h2 => by rw [h1, h2]; exact jD) fun h2 => by rw [h1, h2]; rfl) fun h1 => by rw [h1]; rfl))) (fun ht => ?_) fun hf => dJ ⟨q, ns, g, ⟨hq, pl, es, hP, hb⟩, by omega, (ae s4.get (ae s4.get (ae s4.get (ae s4.get (ae s4.get (aH))))))⟩) fun ρ h => dJ h)))
  rw [Bool.and_eq_true, decide_eq_true_eq, decide_eq_true_eq] at ht
  have e2 : ar (aI q w) = cF (ns ++ [p]) := by rw [eF hq gw.1, g7, nL, es, ew]
  exact cK s4 (cj (cC (d := dq (aI q w)) decl_name%) (cj (mO (l' := (ns ++ [p]).map D.int) (aO (kE decl_name% decl_name% rfl a2) cm) rfl ((nh l1).eq (by rw [List.map_append]; rfl))) da)) fun ρ' s' => ⟨aI q w, ns ++ [p], true, ⟨gm.1, (sQ m0 gm.1).mpr (by omega), e2, fun n hn => by
    rcases List.mem_append.mp hn with hn | hn
    . exact hP n hn
    . rw [List.mem_singleton] at hn; exact hn ▸ pP, Int.le_trans (Int.le_of_lt ht.2) (by decide)⟩, by rw [List.length_append]; show _ + 1 <= _; omega, (ae s'.get (ae s'.get (ae s'.get (ae s'.get (ae s'.get (aH))))))⟩
theorem Dn {L : List D} (hl : y9 L) {m : Nat} (hm : m <= 60) : ∃ (q : Qd) (ns : List Int), tT q ns /\ ns.length <= 60 /\ aa (iV [.lst L, .int m]) (.tup [dq q, .lst (ns.map D.int)]) := by
  obtain ⟨u, hu, hat⟩ := uS (f := dq) (l := lY) (i := (ij L 2).fmod 24) (Int.fmod_nonneg_of_pos _ (by decide)) (Int.fmod_lt_of_pos _ (by decide))
  have gu := GC (oz u hu)
  obtain ⟨ρ1, h1, ks, hk, h5, s1⟩ : ∃ ρ1, aa (az gn ((al (ah 46)).take 4) (ac (ah 46)) (ey ["_law_script", "_law_many"] [.lst L, .int (m : Nat)])) (.nx ρ1) /\ ∃ ks : List Int, (∀ k ∈ ks, k ∈ cY) /\ ks.length = 5 /\ Sub (bK [("_law_script", .lst L, false), ("_law_many", .int (m : Nat), false), ("_law_kinds", .lst (ks.map D.int), true), ("_law_some", .lst (ks.map fun p => .lst ((ck p).map dq)), true), ("_law_whole_here", dq u, true)]) ρ1 := by
    refine d8 (cC (d := dq u) (kE (bQ decl_name% zS) decl_name% rfl hat)) (vD 1 decl_name% (dY (P := fun ρ => ∃ ks : List Int, (∀ k ∈ ks, k ∈ cY) /\ ks.length = 5 /\ Sub (bK [("_law_script", .lst L, false), ("_law_many", .int (m : Nat), false), ("_law_kinds", .lst (ks.map D.int), true), ("_law_whole_here", dq u, true)]) ρ) (pu (t := decide ((ij L 1).fmod 8 = 7)) (k := 0) (decl_name%.bl (d9 _ _)) (fun _ => ⟨_, decl_name%, [3, 17, 53, 5, 97], by decide, rfl, (ae rfl (ae rfl (ae rfl (ae rfl (aH)))))⟩) fun _ => dJ ⟨[3, 5, 7, 11, 13], by decide, rfl, (ae rfl (ae rfl (ae rfl (ae rfl (aH)))))⟩) fun ρ ⟨ks, k1, k2, s⟩ => ?_))
    refine cK s (cj (cC (d := .lst (ks.map fun p => .lst ((ck p).map dq))) (xW (l := ks) (g := D.int) (f := fun p => .lst ((ck p).map dq)) decl_name% rfl (by rw [k2]; show 5 <= 40000; decide) (.inl (mE ks)) fun p hp => ⟨_, rfl, bQ decl_name% (Bf (k1 p hp))⟩)) da) fun ρ' s' => ⟨ks, k1, k2, (ae s'.get (ae s'.get (ae s'.get (ae s'.get (ae s'.get (aH))))))⟩
  have sd := BB s1
  obtain ⟨ρ2, h2, q, ns, g, lg, hn, s2⟩ : ∃ ρ2, aa (az gn (((al (ah 46)).drop 4).take 2) (ac (ah 46)) (dz ρ1)) (.nx ρ2) /\ ∃ (q : Qd) (ns : List Int) (g : Bool), tT q ns /\ ns.length <= m /\ Sub (bK [("_law_script", .lst L, false), ("_law_kinds", .lst (ks.map D.int), false), ("_law_some", .lst (ks.map fun p => .lst ((ck p).map dq)), false), ("_law_whole_here", dq q, g), ("_law_primes", .lst (ns.map D.int), true)]) ρ2 := by
    have sC : Sub (bK [("_law_script", .lst L, false), ("_law_many", .int (m : Nat), false), ("_law_kinds", .lst (ks.map D.int), false), ("_law_some", .lst (ks.map fun p => .lst ((ck p).map dq)), false), ("_law_whole_here", dq u, false)]) (dz ρ1) := (ae sd.get (ae sd.get (ae sd.get (ae sd.get (ae sd.get (aH))))))
    obtain ⟨C', e1, q, ns, g, lg, hn, s'⟩ : ∃ C', aa (az gn (((al (ah 46)).drop 4).take 2) (ac (ah 46)) (bK [("_law_script", .lst L, false), ("_law_many", .int (m : Nat), false), ("_law_kinds", .lst (ks.map D.int), false), ("_law_some", .lst (ks.map fun p => .lst ((ck p).map dq)), false), ("_law_whole_here", dq u, false)])) (.nx C') /\ ∃ (q : Qd) (ns : List Int) (g : Bool), tT q ns /\ ns.length <= m /\ Sub (bK [("_law_script", .lst L, false), ("_law_kinds", .lst (ks.map D.int), false), ("_law_some", .lst (ks.map fun p => .lst ((ck p).map dq)), false), ("_law_whole_here", dq q, g), ("_law_primes", .lst (ns.map D.int), true)]) C' := by
      refine vD 1 decl_name% (dY (DK (n := m) (fun i ρ => ∃ (q : Qd) (ns : List Int) (g : Bool), tT q ns /\ ns.length <= i /\ Sub (bK [("_law_script", .lst L, false), ("_law_kinds", .lst (ks.map D.int), false), ("_law_some", .lst (ks.map fun p => .lst ((ck p).map dq)), false), ("_law_whole_here", dq q, g), ("_law_primes", .lst (ns.map D.int), true)]) ρ) (GJ (B := jB) decl_name% (Cy (by omega))) ⟨u, [], false, ⟨gu.1, xf gu.1 (wU hu), (wU hu).trans rfl, (fun n h => by cases h), by rw [wU hu]; decide⟩, Nat.le_refl 0, (ae rfl (ae rfl (ae rfl (ae rfl (ae rfl (aH))))))⟩ (fun i ρ hi ⟨q, ns, g, lg, hn, s⟩ => ⟨_, rfl, AS hl hk h5 i lg hn (by omega) _ ((ae (s.put (Str.ofString "_law_k") (.int (i : Nat), false)).get (ae (s.put (Str.ofString "_law_k") (.int (i : Nat), false)).get (ae (s.put (Str.ofString "_law_k") (.int (i : Nat), false)).get (ae (s.put (Str.ofString "_law_k") (.int (i : Nat), false)).get (ae (s.put (Str.ofString "_law_k") (.int (i : Nat), false)).get (ae rfl aH)))))))⟩) fun ρ h => h) fun ρ h => dJ h)
    obtain ⟨ρ', e2, s2⟩ := sZ e1 sC
    exact ⟨ρ', e2, q, ns, g, lg, hn, fun x y h => s2 x y (s' x y h)⟩
  exact ⟨q, ns, lg, by omega, Gj h1 (bR 2 h2 (dG s2 decl_name%))⟩
def wz : Fx := Tb [] [] BL IL ML TL bT
def o9 : List D -> Rs D := bP wz (ac (ah 37)) ["_law_x"] (al (ah 37))
def sw : Fx := Tb [("_law_whole", o9)] [] BL IL ML TL bT
def fq : List D -> Rs D := bP sw (ac (ah 38)) ["_law_thing"] (al (ah 38))
theorem Do {a b c d : Int} (hb : b.fmod 2 = a.fmod 2) (hc : c.fmod 2 = a.fmod 2) (hd : d.fmod 2 = a.fmod 2) : aa (fq [t4 a b c d]) (.bl true) := by
  refine cS (cH decl_name% rfl (nI (ds := [.int a, .int b, .int c, .int d]) (fun rem ρ => (∀ x ∈ rem, ∃ t : Int, x = .int t /\ t.fmod 2 = a.fmod 2) /\ Sub (bK [("_law_thing", t4 a b c d, false)]) ρ) decl_name% ⟨?_, ae rfl aH⟩ ?_ ?_))
  . intro x hx
    simp only [List.mem_cons, List.not_mem_nil, or_false] at hx
    rcases hx with rfl | rfl | rfl | rfl
    . exact ⟨_, rfl, rfl⟩
    . exact ⟨_, rfl, hb⟩
    . exact ⟨_, rfl, hc⟩
    . exact ⟨_, rfl, hd⟩
  . rintro x l ρ ⟨hh, s⟩
    obtain ⟨t, rfl, ht⟩ := hh x List.mem_cons_self
    exact ⟨_, rfl, cK (s.put _ _) (cH (dZ (fj decl_name% (fj (decl_name%.bl (uq ht)) mU))) rfl da) fun ρ' s' => ⟨fun y hy => hh y (List.mem_cons_of_mem _ hy), ae s'.get aH⟩⟩
  . rintro ρ ⟨_, s⟩
    exact dG s decl_name%
def gk : Fx := Tb [("_law_times", fB), ("_law_is_four", fq), ("_law_size", iS)] [] BL IL ML TL bT
def eD : List D -> Rs D := bP gk (ac (ah 45)) ["_law_telling", "_law_primes", "_law_four"] (al (ah 45))
theorem vP {q : Qd} (h : ak q) : aa (fq [dq q]) (.bl true) := by
  obtain ⟨x1, x2, x3⟩ := Qm.par_fmod h
  exact Do (a := q.1) (b := q.2.1) (c := q.2.2.1) (d := q.2.2.2) x1 x2 x3
theorem nK : ∀ {l : List Int}, (∀ n ∈ l, n ∈ cY) -> 1 <= cF l
  | [], _ => by decide
  | n :: l, h => by
    have h1 := nK fun m hm => h m (List.mem_cons_of_mem _ hm)
    obtain ⟨p1, _⟩ := g8 n (h n List.mem_cons_self)
    rw [cy]
    have := Int.mul_le_mul_of_nonneg_right (show 1 <= n by omega) (show 0 <= cF l by omega)
    omega
theorem vc {r q : Qd} {ds : List Qd} {ns : List Int} (hr : ak r) (h1 : ar r = 1) (hd : ∀ d ∈ ds, ak d) (es : ds.map ar = ns) (ef : ds.foldl aI r = q) (hns : ∀ n ∈ ns, n ∈ cY) (hl : ns.length <= 100) (hb : cF ns <= ((2 ^ 300 : Nat) : Int)) : aa (eD [Ch r ds, .lst (ns.map D.int), dq q]) (.bl true) := by
  subst es ef
  have ll : ao ((ds.map ar).map D.int) = true := fO (fun _ => rfl) _
  have ld := oM ds
  have br := (iJ (n := 300) hr (by rw [h1]; exact Int.ofNat_le.mpr Nat.one_le_two_pow)).bd (by decide)
  have hlen : (!cO (.int ((ds.map dq).length : Nat)) (.int (((ds.map ar).map D.int).length : Nat))) = false := uq (by simp)
  have hz : List.zipWith (fun x y => D.tup [x, y]) (ds.map dq) ((ds.map ar).map D.int) = ds.map fun d => D.tup [dq d, .int (ar d)] := by
    rw [List.map_map, List.zipWith_map, List.zipWith_self]; rfl
  have pz : ∀ d ∈ ds, ar d ∈ cY := fun d h => hns _ (List.mem_map.mpr ⟨d, h, rfl⟩)
  refine cS (cH (t := false) (k := 0) (dZ (fj decl_name% (fj decl_name% (fj (zq (bQ (aO decl_name% cm) (vP hr)) rfl) mU)))) rfl (cH (t := false) (k := 0) (dZ (fj (decl_name%.bl (uq h1)) (fj decl_name% (fj (decl_name%.bl hlen) mU)))) rfl (bR 1 decl_name% (yU (Q := fun ρ => Sub (bK [("_law_four", dq (ds.foldl aI r), false), ("_law_whole_here", dq (ds.foldl aI r), true)]) ρ) ?_ ?_))))
  . have fa := fc (Φ := gk) (sc := ac (ah 45)) (ρ := bv (ey ["_law_telling", "_law_primes", "_law_four"] [Ch r ds, .lst ((ds.map ar).map D.int), dq (ds.foldl aI r)]) "_law_whole_here" (dq r, true)) (h := fun d : Qd => D.tup [dq d, .int (ar d)]) (g := fun d => [d]) (T := ds) (F := []) (R := []) (k := 1) (fun F ρ => Sub (bK [("_law_four", dq (ds.foldl aI r), false), ("_law_whole_here", dq (F.foldl aI r), true)]) ρ) ds (d := .lst (ds.map fun d => D.tup [dq d, .int (ar d)])) (tg := uJ ((al (ah 45)).getD 3 (.Pass ⟨0, 0, 0, 0⟩))) (it := uK ((al (ah 45)).getD 3 (.Pass ⟨0, 0, 0, 0⟩))) (body := kC ((al (ah 45)).getD 3 (.Pass ⟨0, 0, 0, 0⟩))) (p := ⟨0, 0, 0, 0⟩) (decl_name%.eq (by rw [<- hz]; rfl)) rfl (ae rfl (ae rfl aH)) (by rw [kD]; simp) ?_
    . rw [List.nil_append, kD, List.map_id'] at fa
      exact fa
    . intro d hm F R ρ e s
      have pd := hd d hm
      have hF : ∀ x ∈ F, x ∈ ds := fun x hx => by rw [<- e]; exact List.mem_append_left _ hx
      have nF : ∀ n ∈ F.map ar, n ∈ cY := fun n hn => by obtain ⟨x, hx, rfl⟩ := List.mem_map.mp hn; exact pz x (hF x hx)
      have nR : ∀ n ∈ ([d] ++ R).map ar, n ∈ cY := fun n hn => by obtain ⟨x, hx, rfl⟩ := List.mem_map.mp hn; exact pz x (by rw [<- e]; exact List.mem_append_right _ hx)
      have pF : ∀ x ∈ F, ak x := fun x hx => hd x (hF x hx)
      have zF : ar (F.foldl aI r) <= ((2 ^ 300 : Nat) : Int) := by
        rw [sI F r hr pF, h1, Int.one_mul]
        have e2 : cF (ds.map ar) = cF (F.map ar) * cF (([d] ++ R).map ar) := by rw [<- g7, <- List.map_append, e]
        have a1 := nK nF
        have a2 := nK nR
        have := Int.mul_le_mul_of_nonneg_left a2 (show 0 <= cF (F.map ar) by omega)
        omega
      have bF := (iJ (xU hr pF) zF).bd (by decide)
      obtain ⟨p1, p2⟩ := g8 _ (pz d hm)
      have gd := iJ (n := 8) pd (by omega)
      have bd := gd.bd (by decide)
      obtain ⟨⟨a1, a2, a3, a4⟩, _⟩ := ng bd bd
      obtain ⟨t, ht, et⟩ := cu pd
      have m4 : bn 4 (ar d) := e8 (by decide)
      have hsum : (!cO (.int (d.1 * d.1 + (d.2.1 * d.2.1 + (d.2.2.1 * d.2.2.1 + (d.2.2.2 * d.2.2.2 + 0))))) (.int (4 * ar d))) = false := uq (by rw [ht, et])
      refine ⟨_, rfl, cK ((s.put _ _).put _ _) (cH (t := false) (k := 0) (dZ (fj (zq (bQ decl_name% (vP pd)) rfl) (fj (decl_name%.bl hsum) mU))) rfl decl_name%) fun ρ' s' => ?_⟩
      rw [List.foldl_append]
      exact ae s'.get (ae s'.get aH)
  . intro ρ s
    exact dG s (iu (gh (decl_name%.bl (GL rfl))))
def sv : Fx := Tb [] [] BL IL ML TL bT
def gR : List D -> Rs D := bP sv (ac (ah 30)) ["one", "other"] (al (ah 30))
theorem HP (a b : Nat) (ha : a < 2 ^ 1000) (hb : b < 2 ^ 1000) : aa (gR [.int a, .int b]) (.int (Nat.gcd a b : Nat)) := by
  refine cS (jg (m := 2002) (fun m ρ => ∃ (x y : Nat) (f g : Bool), wN x y m /\ Nat.gcd x y = Nat.gcd a b /\ Sub (bK [("one", .int x, f), ("other", .int y, g)]) ρ) ⟨a, b, false, false, DZ ha hb, rfl, ae rfl (ae rfl aH)⟩ (by decide) ?_ ?_)
  . rintro m ρ ⟨x, y, f, g, hm, hg, s⟩
    refine ⟨!decide ((y : Int) = 0), 0, bx s (decl_name%.bl (by show (!cO (.int y) (.int 0)) = _; rw [d9])), fun ht => ?_⟩
    have h0 : y ≠ 0 := by
      intro z; subst z; exact absurd ht (by decide)
    have hn : (y : Int) ≠ 0 := by omega
    obtain ⟨m', hm', hE⟩ := tM hm h0
    have e := wc x y
    exact j5 hm' (cK s decl_name% fun ρ' s' => ⟨y, x % y, true, true, hE, by rw [<- hg, Nat.gcd_comm x y, Nat.gcd_rec y x, Nat.gcd_comm], ae s'.get (ae (by rw [<- e]; exact s'.get) aH)⟩)
  . rintro m ρ ⟨x, y, f, g, hm, hg, s⟩ ⟨k, hk⟩
    have e := hk.inj (bx s decl_name%)
    have h0 : y = 0 := by
      have e1 : (!cO (.int y) (.int 0)) = false := by injection e with e1 e2; injection e1 with e1; exact e1.symm
      rw [d9] at e1
      have : (y : Int) = 0 := by simpa using e1
      omega
    subst h0
    rw [<- hg, Nat.gcd_zero_right]
    exact dG s decl_name%
def lU : Fx := Tb [("shared_by", gR)] [] BL IL ML TL bT
def lW : List D -> Rs D := bP lU (ac (ah 29)) ["numbers"] (al (ah 29))
def dw : List D -> Rs D
  | [.tup l] => .ok (.int (uF l)) [vz l]
  | _ => .st
theorem i9 : ∀ ds r, aa (dw ds) r -> aa (lW ds) r := by
  intro ds r h
  unfold dw at h
  split at h
  . obtain ⟨rfl, ⟨ns, rfl, hl, hb⟩, _⟩ := bC h
    rw [qV]
    refine cS (bR 1 decl_name% (nI (ds := ns.map D.int) (fun rem ρ => ∃ (r : List Int) (g : Nat), rem = r.map D.int /\ (∀ n ∈ r, n.natAbs < 2 ^ 1000) /\ df g r = df 0 ns /\ g < 2 ^ 1000 /\ Sub (bK [("reached", .int g, true)]) ρ) decl_name% ⟨ns, 0, rfl, hb, rfl, Nat.pow_pos (by decide), ae rfl aH⟩ ?_ ?_ rfl (MX (.tup (ns.map D.int)))))
    . rintro d l ρ ⟨r, g, hr, hb', hg, hlt, s⟩
      cases r with
      | nil => cases hr
      | cons n r =>
        cases hr
        have hn := hb' n List.mem_cons_self
        have ea : (if n < 0 then -n else n) = ((n.natAbs : Nat) : Int) := by omega
        have k := HP g n.natAbs hlt hn
        refine ⟨_, rfl, cK (s.put _ _) (cj (cC (bQ (v := .int (Nat.gcd g n.natAbs : Nat)) (decl_name%.eq (by rw [ea])) k)) da) fun ρ' s' => ⟨r, Nat.gcd g n.natAbs, rfl, fun m hm => hb' m (List.mem_cons_of_mem _ hm), hg, ?_, ae s'.get aH⟩⟩
        rcases Nat.eq_zero_or_pos g with z | z
        . subst z; rw [Nat.gcd_zero_left]; exact hn
        . exact Nat.lt_of_le_of_lt (Nat.le_of_dvd z (Nat.gcd_dvd_left _ _)) hlt
    . rintro ρ ⟨r, g, hr, hb', hg, hlt, s⟩
      cases r with
      | nil =>
        rw [<- hg]
        exact dG s decl_name%
      | cons n r => cases hr
  . exact (am h).elim
def uV : Fx := Tb [] [] BL IL ML TL bT
def nB : List D -> Rs D := bP uV (ac (ah 8)) ["thing"] (al (ah 8))
def wD : Fx := Tb [("is_whole", nB)] [] BL IL ML TL bT
def jX : List D -> Rs D := bP wD (ac (ah 9)) ["thing"] (al (ah 9))
theorem Gu (a b c d : Int) : aa (jX [.tup [.int a, .int b, .int c, .int d]]) (.bl (decide (b.fmod 2 = a.fmod 2) && (decide (c.fmod 2 = a.fmod 2) && decide (d.fmod 2 = a.fmod 2)))) := by
  refine cS (cH decl_name% rfl (cH decl_name% rfl (aa.eq decl_name% ?_)))
  show Fl.rt (.bl ([cO (.int (a.fmod 2)) (.int (a.fmod 2)), cO (.int (b.fmod 2)) (.int (a.fmod 2)), cO (.int (c.fmod 2)) (.int (a.fmod 2)), cO (.int (d.fmod 2)) (.int (a.fmod 2))].all id)) = _
  simp [d9]
def gJ : Fx := Tb [("common_divisor", dw), ("is_four", jX)] [("NOUGHT", .tup [.int 0, .int 0, .int 0, .int 0])] BL IL ML TL bT
def dE : List D -> Rs D := bP gJ (ac (ah 32)) ["four"] (al (ah 32))
def qI (a b c d : Int) : Bool := decide (b.fmod 2 = a.fmod 2) && (decide (c.fmod 2 = a.fmod 2) && decide (d.fmod 2 = a.fmod 2))
theorem zP (a b c d G : Int) (hG : fP G) : aa (az gJ ((al (ah 32)).drop 2) (ac (ah 32)) (bK [("four", t4 a b c d, false), ("common", .int G, true)])) (.rt (.int (cond (qI (a.fdiv G) (b.fdiv G) (c.fdiv G) (d.fdiv G)) G (G.fdiv 2)))) :=
  iu (gh (mV (r := (.int (cond (qI (a.fdiv G) (b.fdiv G) (c.fdiv G) (d.fdiv G)) G (G.fdiv 2)), 0)) (bQ decl_name% (Gu (a.fdiv G) (b.fdiv G) (c.fdiv G) (d.fdiv G))) (fun ht => by rw [show qI (a.fdiv G) (b.fdiv G) (c.fdiv G) (d.fdiv G) = true from ht]; exact decl_name%) (fun hf => by rw [show qI (a.fdiv G) (b.fdiv G) (c.fdiv G) (d.fdiv G) = false from hf]; exact decl_name%)))
theorem G3 {a b c d : Int} (h0 : ¬ (a = 0 /\ b = 0 /\ c = 0 /\ d = 0)) (hT : vz (([a, b, c, d] : List Int).map D.int)) (aB : a.natAbs < cD) (bB : b.natAbs < cD) (cB : c.natAbs < cD) (dB : d.natAbs < cD) : aa (dE [t4 a b c d]) (.int (cond (qI (a.fdiv (gI [a, b, c, d])) (b.fdiv (gI [a, b, c, d])) (c.fdiv (gI [a, b, c, d])) (d.fdiv (gI [a, b, c, d]))) (gI [a, b, c, d]) ((gI [a, b, c, d]).fdiv 2))) := by
  have hd : fP (gI [a, b, c, d]) := by
    have : ∃ n ∈ [a, b, c, d], n ≠ 0 /\ n.natAbs < cD := by
      by_cases q1 : a = 0
      . by_cases q2 : b = 0
        . by_cases q3 : c = 0
          . exact ⟨d, by simp, fun q4 => h0 ⟨q1, q2, q3, q4⟩, dB⟩
          . exact ⟨c, by simp, q3, cB⟩
        . exact ⟨b, by simp, q2, bB⟩
      . exact ⟨a, by simp, q1, aB⟩
    obtain ⟨n, hn, n0, nb⟩ := this
    have := qW hn n0
    exact ⟨by omega, Nat.lt_of_le_of_lt (zp hn n0) nb⟩
  have hne : cO (t4 a b c d) (dq ax) = false := by
    show cO (dq (a, b, c, d)) (dq ax) = false
    rw [uM]
    exact decide_eq_false fun e => h0 (by injection e with e1 e2; injection e2 with e2 e3; injection e3 with e3 e4; exact ⟨e1, e2, e3, e4⟩)
  rw [<- Be] at hd ⊢
  exact cS (cH (decl_name%.bl hne) rfl (bR 1 decl_name% (dG (ae rfl (ae rfl aH)) (zP a b c d _ hd))))
def i0 : Fx := Tb [] [("PRIMES", .tup [.int 2, .int 3, .int 5, .int 7, .int 11, .int 13, .int 17, .int 19, .int 23, .int 29, .int 31, .int 37, .int 41, .int 43, .int 47, .int 53, .int 59, .int 61, .int 67, .int 71, .int 73, .int 79, .int 83, .int 89, .int 97])] BL IL ML TL bT
def fH : List D -> Rs D := bP i0 (ac (ah 34)) ["order", "whole"] (al (ah 34))
theorem GP {n : Int} (h : n ∈ cY) : ((cY.map D.int).any fun y => cO y (.int n)) = true := by
  rw [List.any_eq_true]
  exact ⟨.int n, List.mem_map.mpr ⟨n, h, rfl⟩, by rw [d9]; exact decide_eq_true rfl⟩
theorem D1 (n : Int) : jE (.tup (cY.map D.int)) (.int n) = true := by
  have k : SeqAt.shaped (D.int n).py = true := by rw [D.py]; rfl
  unfold jE
  rw [k]
  decide +kernel
theorem AJ {n : Int} (h : n ∈ cY) : aa (iQ .NotIn (.int n) (.tup (cY.map D.int))) false := aa.eq ⟨_, rfl, D1 n, True.intro⟩ (by rw [GP h]; rfl)
theorem sP : ∀ l : List Int, cF l.reverse = cF l
  | [] => rfl
  | n :: l => by rw [List.reverse_cons, g7, sP l, nL, cy, Int.mul_comm]
theorem Bk {ns : List Int} {w : Int} (h : ∀ n ∈ ns, n ∈ cY) (hn : ns.length <= 100) (hw : cF ns = w) : aa (fH [.lst (ns.map D.int), .int w]) .non := by
  have ll : ao (ns.map D.int) = true := fO (fun _ => rfl) ns
  have ew := xB 0 ns
  have he : iN 0 (ns.map D.int) = (List.range ns.length).map fun i => .tup [.int (i : Nat), .int (ns.getD i 0)] := by
    conv => lhs; rw [ew]
    rw [List.map_map]
    exact Bq _
  refine cS (bR 1 decl_name% (yU (Q := fun ρ => Sub (bK [("order", .lst (ns.map D.int), false), ("whole", .int w, false), ("reached", .int (cF ns), true)]) ρ) ?_ ?_))
  . have fa := fc (Φ := i0) (sc := ac (ah 34)) (ρ := bv (ey ["order", "whole"] [.lst (ns.map D.int), .int w]) "reached" (.int 1, true)) (h := fun i : Nat => D.tup [.int (i : Nat), .int (ns.getD i 0)]) (g := fun i => [ns.getD i 0]) (T := (List.range ns.length).flatMap fun i => [ns.getD i 0]) (F := []) (R := []) (k := 1) (fun F ρ => Sub (bK [("order", .lst (ns.map D.int), false), ("whole", .int w, false), ("reached", .int (cF F), true)]) ρ) (List.range ns.length) (d := .lst (iN 0 (ns.map D.int))) (tg := uJ ((al (ah 34)).getD 1 (.Pass ⟨0, 0, 0, 0⟩))) (it := uK ((al (ah 34)).getD 1 (.Pass ⟨0, 0, 0, 0⟩))) (body := kC ((al (ah 34)).getD 1 (.Pass ⟨0, 0, 0, 0⟩))) (p := ⟨0, 0, 0, 0⟩) decl_name% (by show some (iN 0 _) = _; rw [he]) (ae rfl (ae rfl (ae rfl aH))) (by simp) ?_
    . rw [List.nil_append, kD, <- ew] at fa
      exact fa
    . intro i hi F R ρ e s
      have hi : i < ns.length := by simpa using hi
      have hm : ns.getD i 0 ∈ cY := h _ (by rw [List.getD_eq_getElem?_getD, List.getElem?_eq_getElem hi]; exact List.getElem_mem _)
      obtain ⟨p1, p2⟩ := g8 _ hm
      have mm : bn (cF F) (ns.getD i 0) := sY (by omega)
      refine ⟨_, rfl, cK ((s.put _ _).put _ _) (cH (t := false) (k := 0) (eM decl_name% decl_name% (AJ hm)) rfl decl_name%) fun ρ' s' => ?_⟩
      rw [g7, nL]
      exact ae s'.get (ae s'.get (ae s'.get (aH)))
  . intro ρ s
    exact dG s (iu (gh (mV (r := (.non, 0)) (t := true) (decl_name%.bl ((d9 _ _).trans (decide_eq_true hw))) (fun _ => decl_name%) (fun z => by cases z))))
def Fd : Fx := Tb [] [] BL IL ML TL bT
def Fh : List D -> Rs D := bP Fd (ac (ah 17)) ["four"] (al (ah 17))
def jQ : List D -> Rs D := pZ dQ fun p => .ok (.int (ar p)) [dj p]
theorem wG : ∀ ds r, aa (jQ ds) r -> aa (Fh ds) r := by
  intro ds r h
  obtain ⟨p, rfl, h'⟩ := gZ h
  obtain ⟨rfl, hp, _⟩ := bC h'
  obtain ⟨⟨a1, a2, a3, a4⟩, _⟩ := ng hp hp
  exact b0 rfl (by walk_at "ob")
def lT : Fx := Tb [] [] BL IL ML TL bT
def lV : List D -> Rs D := bP lT (ac (ah 21)) ["side"] (al (ah 21))
def dv : List D -> Rs D := pZ wk fun s => .ok .non []
theorem i8 : ∀ ds r, aa (dv ds) r -> aa (lV ds) r := by
  intro ds r h
  obtain ⟨s, rfl, h'⟩ := gZ h
  obtain ⟨rfl, _⟩ := bC h'
  cases s
  . exact b0 rfl (by walk_at "ob")
  . exact b0 rfl (by walk_at "ob")
def Fe : Fx := Tb [] [] BL IL ML TL bT
def Fi : List D -> Rs D := bP Fe (ac (ah 10)) ["one", "other"] (al (ah 10))
def jU : List D -> Rs D := mi dQ dQ fun p q => .ok (dq (bc p q)) []
theorem wH : ∀ ds r, aa (jU ds) r -> aa (Fi ds) r := by
  intro ds r h
  obtain ⟨p, q, rfl, h'⟩ := eZ h
  obtain ⟨rfl, _⟩ := bC h'
  exact b0 rfl (by walk_at "ob")
def rN : Fx := Tb [] [] BL IL ML TL bT
def rV : List D -> Rs D := bP rN (ac (ah 11)) ["one", "number"] (al (ah 11))
def gp : List D -> Rs D := mi dQ dI fun p n => .ok (dq (aR p n)) [dj p, n.natAbs < cD]
theorem nl : ∀ ds r, aa (gp ds) r -> aa (rV ds) r := by
  intro ds r h
  obtain ⟨p, n, rfl, h'⟩ := eZ h
  obtain ⟨rfl, hp, hn, _⟩ := bC h'
  have m1 := bE hp.1 hn
  have m2 := bE hp.2.1 hn
  have m3 := bE hp.2.2.1 hn
  have m4 := bE hp.2.2.2 hn
  exact b0 rfl (by walk_at "ob")
def ww : Fx := Tb [("size", jQ), ("less", jU), ("many_times", gp)] [] BL IL ML TL bT
def wI : List D -> Rs D := bP ww (ac (ah 24)) ["four", "tried", "number"] (al (ah 24))
def jP : List D -> Rs D := pY dQ dQ dI fun p q n => .ok (.int (eV p q n)) [vA p q n]
theorem rO : ∀ ds r, aa (jP ds) r -> aa (wI ds) r := by
  intro ds r h
  obtain ⟨p, q, n, rfl, h'⟩ := gY h
  obtain ⟨rfl, ⟨h1, h2, h3⟩, _⟩ := bC h'
  exact b0 rfl (by walk_at "ob")
def wy : Fx := Tb [("strayed", jP)] [] BL IL ML TL bT
def wK : List D -> Rs D := bP wy (ac (ah 23)) ["four", "number"] (al (ah 23))
def jT : List D -> Rs D := mi dQ dI fun p n => .ok (dq (dm p n)) [xo p n]
theorem rR : ∀ ds r, aa (jT ds) r -> aa (wK ds) r := by
  intro ds r h
  obtain ⟨p, n, rfl, h'⟩ := eZ h
  obtain ⟨rfl, ⟨h1, h2, h3, h4⟩, _⟩ := bC h'
  have hd : fP (2 * n) := ⟨by omega, h2⟩
  have h3' : vA p ((p.1 + n).fdiv (2 * n) * 2, (p.2.1 + n).fdiv (2 * n) * 2, (p.2.2.1 + n).fdiv (2 * n) * 2, (p.2.2.2 + n).fdiv (2 * n) * 2) n := h3
  have h4' : vA p (p.1.fdiv (2 * n) * 2 + 1, p.2.1.fdiv (2 * n) * 2 + 1, p.2.2.1.fdiv (2 * n) * 2 + 1, p.2.2.2.fdiv (2 * n) * 2 + 1) n := h4
  refine cS (bR 2 decl_name% ?_)
  refine iu (gh (mV (t := decide (eV p (fI p n) n <= eV p (gC p n) n)) decl_name% (fun ht => ?_) (fun hf => ?_)))
  . show aa _ (dq (dm p n), 0)
    unfold dm; rw [if_pos (by simpa using ht)]
    exact b0 rfl (by walk_at "ob")
  . show aa _ (dq (dm p n), 0)
    unfold dm; rw [if_neg (by simpa using hf)]
    exact b0 rfl (by walk_at "ob")
def nj : Fx := Tb [] [] BL IL ML TL bT
def nu : List D -> Rs D := bP nj (ac (ah 14)) ["one", "other"] (al (ah 14))
def eN : List D -> Rs D := mi dQ dQ fun p q => .ok (dq (Jl p q)) [dj p, dj q]
theorem jS : ∀ ds r, aa (eN ds) r -> aa (nu ds) r := by
  intro ds r h
  obtain ⟨p, q, rfl, h⟩ := eZ h
  obtain ⟨rfl, hp, hq, _⟩ := bC h
  obtain ⟨⟨a1, a2, a3, a4⟩, ⟨b1, b2, b3, b4⟩, ⟨c1, c2, c3, c4⟩, d1, d2, d3, d4⟩ := ng hp hq
  exact b0 rfl (by walk_at "ob")
def wx : Fx := Tb [("plain_product", eN)] [] BL IL ML TL bT
def wJ : List D -> Rs D := bP wx (ac (ah 15)) ["one", "other"] (al (ah 15))
def jR : List D -> Rs D := mi dQ dQ fun p q => .ok (dq (aI p q)) [dj p, dj q]
theorem rQ : ∀ ds r, aa (jR ds) r -> aa (wJ ds) r := by
  intro ds r h
  obtain ⟨p, q, rfl, h'⟩ := eZ h
  obtain ⟨rfl, hp, hq, _⟩ := bC h'
  exact b0 rfl (by walk_at "ob")
def yx : Fx := Tb [("product", jR)] [] BL IL ML TL bT
def yC : List D -> Rs D := bP yx (ac (ah 22)) ["one", "other", "side"] (al (ah 22))
def iU : List D -> Rs D := pY dQ dQ wk fun p q s => .ok (dq (aD s p q)) [dj p, dj q]
theorem sA : ∀ ds r, aa (iU ds) r -> aa (yC ds) r := by
  intro ds r h
  obtain ⟨p, q, s, rfl, h'⟩ := gY h
  obtain ⟨rfl, hp, hq, _⟩ := bC h'
  cases s
  . exact b0 rfl (by walk_at "ob")
  . exact b0 rfl (by walk_at "ob")
def oj : Fx := Tb [] [] BL IL ML TL bT
def ol : List D -> Rs D := bP oj (ac (ah 16)) ["four"] (al (ah 16))
def fh : List D -> Rs D := pZ dQ fun p => .ok (dq (bh p)) []
theorem kY : ∀ ds r, aa (fh ds) r -> aa (ol ds) r := by
  intro ds r h
  obtain ⟨p, rfl, h'⟩ := gZ h
  obtain ⟨rfl, _⟩ := bC h'
  exact b0 rfl (by walk_at "ob")
def wE : Fx := Tb [("refuse_no_side", dv), ("nearest", jT), ("beside", iU), ("size", jQ), ("less", jU), ("other_signed", fh)] [("NOUGHT", .tup [.int 0, .int 0, .int 0, .int 0])] BL IL ML TL bT
def wM : List D -> Rs D := bP wE (ac (ah 19)) ["one", "other", "side"] (al (ah 19))
def gK : List D -> Rs D := pY dQ dQ wk fun p q s => .ok (.tup [dq (cI s p q), dq (cP s p q)]) [q ≠ ax, okD s p q]
theorem rT : ∀ ds r, aa (gK ds) r -> aa (wM ds) r := by
  intro ds r h
  obtain ⟨p, q, s, rfl, h'⟩ := gY h
  obtain ⟨rfl, h0, ⟨h1, h2, h3, h4, h5⟩, _⟩ := bC h'
  have hc : cO (dq q) (dq ax) = false := by simp [h0]
  have h5' : dj (dm (aD s p (bh q)) (ar q)) := h5
  cases s
  . exact cS (bR 1 decl_name% (cH decl_name% hc decl_name%))
  . exact cS (bR 1 decl_name% (cH decl_name% hc decl_name%))
def BT : Fx := Tb [("divided", gK)] [("NOUGHT", .tup [.int 0, .int 0, .int 0, .int 0])] BL IL ML TL bT
def BV : List D -> Rs D := bP BT (ac (ah 20)) ["one", "other", "side"] (al (ah 20))
def io : List D -> Rs D := pY dQ dQ wk fun p q s => .ok (nY s p q) [q ≠ ax, okD s p q]
theorem uZ : ∀ ds r, aa (io ds) r -> aa (BV ds) r := by
  intro ds r h
  obtain ⟨p, q, s, rfl, h'⟩ := gY h
  obtain ⟨rfl, h0, hd, _⟩ := bC h'
  clear h h'
  unfold nY
  cases s
  . refine cS (bR 1 decl_name% (iu (gh (mV (t := decide (cP false p q = ax)) (k := 0) (decl_name%.bl (uM _ ax)) (fun z => ?_) (fun z => ?_)))))
    . rw [if_pos (of_decide_eq_true z)]; exact decl_name%
    . rw [if_neg (of_decide_eq_false z)]; exact decl_name%
  . refine cS (bR 1 decl_name% (iu (gh (mV (t := decide (cP true p q = ax)) (k := 0) (decl_name%.bl (uM _ ax)) (fun z => ?_) (fun z => ?_)))))
    . rw [if_pos (of_decide_eq_true z)]; exact decl_name%
    . rw [if_neg (of_decide_eq_false z)]; exact decl_name%
def uW : Fx := Tb [("refuse_no_side", dv), ("divided", gK), ("less", jU), ("beside", iU)] [("ONE", .tup [.int 2, .int 0, .int 0, .int 0]), ("NOUGHT", .tup [.int 0, .int 0, .int 0, .int 0])] BL IL ML TL bT
def u5 : List D -> Rs D := bP uW (ac (ah 26)) ["one", "other", "side"] (al (ah 26))
def fR : List D -> Rs D := pY dQ dQ wk fun p q s => .ok (dR (iH s p q)) [okG p q]
theorem pe : ∀ ds r, aa (fR ds) r -> aa (u5 ds) r := by
  intro ds r h
  obtain ⟨p, q, s, rfl, h'⟩ := gY h
  obtain ⟨rfl, hg, _⟩ := bC h'
  clear h h'
  cases s
  . refine cS (bR 3 decl_name% (jg (m := 801) (fun m ρ => ∃ (E : Nat) (a b : d6), fA false p q m E a b /\ gz false m a b = iH false p q /\ Sub (bK [("one", dq p, false), ("other", dq q, false), ("side", sM false, false), ("older", dR a, true), ("newer", dR b, true)]) ρ) ⟨KN, (p, cw, ax), (q, ax, cw), fA.start hg.1 hg.2.1 hg.2.2.1 hg.2.2.2, rfl, ae rfl (ae rfl (ae rfl (ae rfl (ae rfl aH))))⟩ (by decide) ?_ ?_))
    . rintro m ρ ⟨E, a, b, hw, he, s⟩
      refine ⟨!decide (b.1 = ax), 0, bx s (decl_name%.bl (by show (!cO (dq b.1) (dq ax)) = _; simp)), fun ht => ?_⟩
      have h0 : b.1 ≠ ax := by simpa using ht
      obtain ⟨m', rfl, hw'⟩ := hw.step hg.1 hg.2.1 h0
      obtain ⟨hd, b1, b2, b3⟩ := hw.bd h0
      have b4 := hd.2.2.2.2
      exact j5 (Nat.lt_succ_self _) (cK s decl_name% fun ρ' s' => ⟨_, _, _, hw', by rw [<- he, jf h0], ae s'.get (ae s'.get (ae s'.get (ae s'.get (ae s'.get aH))))⟩)
    . rintro m ρ ⟨E, a, b, hw, he, s⟩ ⟨k, hk⟩
      have e := hk.inj (bx s decl_name%)
      have h0 : b.1 = ax := by
        have e1 : (!cO (dq b.1) (dq ax)) = false := by injection e with e1 e2; injection e1 with e1; exact e1.symm
        simpa using e1
      rw [<- he, lA h0]
      exact dG s decl_name%
  . refine cS (bR 3 decl_name% (jg (m := 801) (fun m ρ => ∃ (E : Nat) (a b : d6), fA true p q m E a b /\ gz true m a b = iH true p q /\ Sub (bK [("one", dq p, false), ("other", dq q, false), ("side", sM true, false), ("older", dR a, true), ("newer", dR b, true)]) ρ) ⟨KN, (p, cw, ax), (q, ax, cw), fA.start hg.1 hg.2.1 hg.2.2.1 hg.2.2.2, rfl, ae rfl (ae rfl (ae rfl (ae rfl (ae rfl aH))))⟩ (by decide) ?_ ?_))
    . rintro m ρ ⟨E, a, b, hw, he, s⟩
      refine ⟨!decide (b.1 = ax), 0, bx s (decl_name%.bl (by show (!cO (dq b.1) (dq ax)) = _; simp)), fun ht => ?_⟩
      have h0 : b.1 ≠ ax := by simpa using ht
      obtain ⟨m', rfl, hw'⟩ := hw.step hg.1 hg.2.1 h0
      obtain ⟨hd, b1, b2, b3⟩ := hw.bd h0
      have b4 := hd.2.2.2.2
      exact j5 (Nat.lt_succ_self _) (cK s decl_name% fun ρ' s' => ⟨_, _, _, hw', by rw [<- he, jf h0], ae s'.get (ae s'.get (ae s'.get (ae s'.get (ae s'.get aH))))⟩)
    . rintro m ρ ⟨E, a, b, hw, he, s⟩ ⟨k, hk⟩
      have e := hk.inj (bx s decl_name%)
      have h0 : b.1 = ax := by
        have e1 : (!cO (dq b.1) (dq ax)) = false := by injection e with e1 e2; injection e1 with e1; exact e1.symm
        simpa using e1
      rw [<- he, lA h0]
      exact dG s decl_name%
def fE : Fx := Tb [("whole_divisor", dE), ("order_fault", fH), ("size", jQ), ("exact", io), ("greatest", fR)] [] BL IL ML TL bT
def fG : List D -> Rs D := iz fE (ac (ah 33)) ["four", "order"] ((al (ah 33)).take 7) (IC ((al (ah 33)).getD 7 (.Pass ⟨0, 0, 0, 0⟩))) (IB ((al (ah 33)).getD 7 (.Pass ⟨0, 0, 0, 0⟩)))
theorem Ft {q : Qd} (h : q ≠ ax) (g : gQ 400 q) : aa (dE [dq q]) (.int (fV q)) := by
  have b := g.bd (by decide)
  exact G3 (a := q.1) (b := q.2.1) (c := q.2.2.1) (d := q.2.2.2) (fun z => h (cv z.1 z.2.1 z.2.2.1 z.2.2.2)) (De (k := 400) (by decide) (by simp) (by
    intro n hn
    simp only [List.mem_cons, List.not_mem_nil, or_false] at hn
    rcases hn with rfl | rfl | rfl | rfl
    . exact g.2.1
    . exact g.2.2.1
    . exact g.2.2.2.1
    . exact g.2.2.2.2)) b.1 b.2.1 b.2.2.1 b.2.2.2
theorem tR {q : Qd} {ns : List Int} (hq : ak q) (pl : gv q) (hb : ar q <= ((2 ^ 300 : Nat) : Int)) (hns : ∀ n ∈ ns, n ∈ cY) (hl : ns.length <= 100) (hs : ar q = cF ns) :
    ∃ (r : Qd) (ds : List Qd), ak r /\ ar r = 1 /\ (∀ d ∈ ds, ak d) /\ ds.map ar = ns /\ ds.foldl aI r = q /\ aa (fG [dq q, .lst (ns.map D.int)]) (Ch r ds) := by
  have gq := iJ hq hb
  have q0 := pl.ne
  have bq := gq.bd (by decide)
  have hw := Ft q0 (gq.mono (by decide))
  have v1 := (sQ q0 hq).mp pl
  have ll : ao (ns.map D.int) = true := fO (fun _ => rfl) ns
  obtain ⟨ρ', h1, F, rest, ds, R', e1, hr, e2, e3, hd, e4, e5, s⟩ : ∃ ρ', aa (az fE ((al (ah 33)).take 7) (ac (ah 33)) (ey ["four", "order"] [dq q, .lst (ns.map D.int)])) (.nx ρ') /\ ∃ (F : List Int) (rest : Qd) (ds : List Qd) (R' : List Int), F = ns.reverse /\ ak rest /\ F ++ R' = ns.reverse /\ ar rest = cF R' /\ (∀ d ∈ ds, ak d) /\ ds.map ar = F /\ ds.reverse.foldl aI rest = q /\ Sub (bK [("rest", dq rest, true), ("parts", .lst (ds.map dq), true)]) ρ' := by
    refine d8 (cC (d := .int (fV q)) (bQ decl_name% hw)) (d8 (cC (d := .non) (bQ (aO decl_name% (aO decl_name% cm)) (Bk hns hl hs.symm))) (dY (P := fun ρ => Sub (bK [("four", dq q, false), ("order", .lst (ns.map D.int), false), ("by", .int (fV q), true)]) ρ) (pu (t := false) (k := 0) decl_name% (fun z => by cases z) (fun _ => dJ (ae rfl (ae rfl (ae rfl aH))))) fun ρ1 s1 => dY (P := fun ρ => Sub (bK [("four", dq q, false), ("order", .lst (ns.map D.int), false)]) ρ) (pu (t := false) (k := 0) (bx s1 (decl_name%.bl (decide_eq_false (by omega)))) (fun z => by cases z) (fun _ => dJ (ae s1.get (ae s1.get aH)))) fun ρ2 s2 => d8 (cC (d := dq q) (bx s2 decl_name%)) (d8 (cC (d := .lst []) (bx (s2.put _ _) decl_name%)) ?_)))
    have s3 := (s2.put (Str.ofString "rest") (dq q, true)).put (Str.ofString "parts") (.lst [], true)
    refine dY (P := fun ρ' => ∃ (F : List Int) (rest : Qd) (ds : List Qd) (R' : List Int), F = ns.reverse /\ ak rest /\ F ++ R' = ns.reverse /\ ar rest = cF R' /\ (∀ d ∈ ds, ak d) /\ ds.map ar = F /\ ds.reverse.foldl aI rest = q /\ Sub (bK [("rest", dq rest, true), ("parts", .lst (ds.map dq), true)]) ρ') ?_ fun ρ h => dJ h
    have fa := fc (Φ := fE) (sc := ac (ah 33)) (ρ := bv (bv ρ2 (Str.ofString "rest") (dq q, true)) (Str.ofString "parts") (.lst [], true)) (h := D.int) (g := fun n : Int => [n]) (T := ns.reverse) (F := []) (R := []) (k := 1) (fun F ρ => ∃ (rest : Qd) (ds : List Qd) (R' : List Int), ak rest /\ gv rest /\ ar rest <= ((2 ^ 300 : Nat) : Int) /\ F ++ R' = ns.reverse /\ ar rest = cF R' /\ (∀ d ∈ ds, ak d) /\ ds.map ar = F /\ ds.reverse.foldl aI rest = q /\ Sub (bK [("rest", dq rest, true), ("parts", .lst (ds.map dq), true)]) ρ) ns.reverse (d := .lst (ns.map D.int).reverse) (tg := uJ ((al (ah 33)).getD 6 (.Pass ⟨0, 0, 0, 0⟩))) (it := uK ((al (ah 33)).getD 6 (.Pass ⟨0, 0, 0, 0⟩))) (body := kC ((al (ah 33)).getD 6 (.Pass ⟨0, 0, 0, 0⟩))) (p := ⟨0, 0, 0, 0⟩) (bx (s3.demote _) decl_name%) (by rw [List.map_reverse]; rfl) ⟨q, [], ns.reverse, hq, pl, hb, rfl, by rw [sP]; exact hs, (fun d h => by cases h), rfl, rfl, ae (s3.demote _).get (ae (s3.demote _).get aH)⟩ (by rw [kD]; simp) ?_
    . obtain ⟨ρ', f1, rest, ds, R', h1, _, _, h2, h3, h4, h5, h6, h7⟩ := fa
      rw [List.nil_append, kD, List.map_id'] at h2 h5
      exact ⟨ρ', f1, _, rest, ds, R', rfl, h1, h2, h3, h4, h5, h6, h7⟩
    . rintro p hp F R ρ e ⟨rest, ds, R', hr, pr, br, e1, e2, hd, e3, e4, s⟩
      have eR : R' = p :: R := List.append_cancel_left (e1.trans e.symm)
      subst eR
      have hpP := hns p (List.mem_reverse.mp hp)
      obtain ⟨p1, p2⟩ := g8 p hpP
      have gr := iJ hr br
      have gP : gQ 302 (2 * p, 0, 0, 0) := ⟨iB p, by show (2 * p).natAbs <= _; exact Nat.le_trans (show (2 * p).natAbs <= 2 ^ 8 by omega) (Nat.pow_le_pow_right (by decide) (by decide)), Nat.zero_le _, Nat.zero_le _, Nat.zero_le _⟩
      have oG : okG rest (2 * p, 0, 0, 0) := gr.okG gP (by decide)
      obtain ⟨sd, pd, u, hu, eu⟩ := xQ hr pr hpP ⟨cF R, e2⟩ (DI (s := true) oG)
      generalize hD : (iH true rest (2 * p, 0, 0, 0)).1 = d at sd pd eu
      have d0 : d ≠ ax := fun z => by rw [z] at sd; have : ar ax = 0 := rfl; omega
      have gd : gQ 302 d := iJ (n := 300) pd (by rw [sd]; exact Int.le_trans (show p <= ((2 ^ 8 : Nat) : Int) by omega) (Int.ofNat_le.mpr (Nat.pow_le_pow_right (by decide) (by decide))))
      have oD : okD true rest d := gr.okD gd d0 (by decide)
      have su : ar u * p = ar rest := by rw [eu, eF hu pd, sd]
      have kx : aa (io [dq rest, dq d, sM true]) (dq u) := by
        have k : aa (io [dq rest, dq d, sM true]) (nY true rest d) := decl_name%
        rw [Bm hu pd d0 (show rest = aD true u d from eu)] at k
        exact k
      have kg : aa (fR [dq rest, .tup [.int (2 * p), .int 0, .int 0, .int 0], sM true]) (dR (iH true rest (2 * p, 0, 0, 0))) := decl_name%
      have lf : F.length <= 100 := by
        have := congrArg List.length e
        simp only [List.length_append, List.length_reverse] at this
        omega
      have l1 : (ds.map dq).length < bL := by
        rw [List.length_map, <- List.length_map (f := ar), e3]; show _ < 40000; omega
      have s4 := s.put (Str.ofString "prime") (.int p, false)
      have s5 := s4.put (Str.ofString "part") (dq d, true)
      have ea : L2.atI [dq (iH true rest (2 * p, 0, 0, 0)).1, dq (iH true rest (2 * p, 0, 0, 0)).2.1, dq (iH true rest (2 * p, 0, 0, 0)).2.2] 0 = some (dq d) := by rw [<- hD]; rfl
      refine ⟨_, rfl, d8 (cC (d := dq d) (bx s4 (kE (bQ decl_name% kg) decl_name% rfl ea))) (d8 (cC (d := dq u) (bx s5 (bQ decl_name% kx))) (cK (s5.put (Str.ofString "rest") (dq u, true)) decl_name% fun ρ' s' => ⟨u, ds ++ [d], R, hu, ?_, ?_, ?_, ?_, ?_, ?_, ?_, ?_⟩))⟩
      . exact gv.left hu pd (eu ▸ pr)
      . have n0 := c7 hu
        have := Int.mul_le_mul_of_nonneg_left (show 1 <= p by omega) n0
        omega
      . rw [List.append_assoc]; exact e
      . rw [cy] at e2
        have : p * (ar u - cF R) = 0 := by rw [Int.mul_sub, <- e2, <- su, Int.mul_comm]; omega
        rcases Int.mul_eq_zero.mp this with z | z <;> omega
      . intro x hx
        rcases List.mem_append.mp hx with hx | hx
        . exact hd x hx
        . rw [List.mem_singleton] at hx; subst hx; exact pd
      . rw [List.map_append, e3]; show F ++ [ar d] = _; rw [sd]
      . rw [List.reverse_append, <- e4, eu]; rfl
      . rw [List.map_append]
        exact ae s'.get (ae s'.get aH)
  subst e1
  have eR : R' = [] := by
    have := congrArg List.length e2
    simp only [List.length_append, List.length_reverse] at this
    exact List.length_eq_zero_iff.mp (by omega)
  subst eR
  refine ⟨rest, ds.reverse, hr, e3, fun d h => hd d (List.mem_reverse.mp h), ?_, e5, ?_⟩
  . rw [List.map_reverse, e4, List.reverse_reverse]
  . show aa _ (D.tup [dq rest, .lst (ds.reverse.map dq)])
    rw [List.map_reverse]
    exact Dd h1 (bx s decl_name%) (aO (bx s decl_name%) cm) (oM ds)
def BS : Fx := Tb [] [] BL IL ML TL bT
def BU : List D -> Rs D := bP BS (ac (ah 41)) ["_law_four"] (al (ah 41))
def kM : List D -> Rs D := pZ dQ fun p => .ok (dq (bh p)) []
theorem uY : ∀ ds r, aa (kM ds) r -> aa (BU ds) r := by
  intro ds r h
  obtain ⟨p, rfl, h'⟩ := gZ h
  obtain ⟨rfl, _⟩ := bC h'
  exact decl_name%
def zB : Fx := Tb [("_law_cell", iT), ("_law_long", iV), ("_law_telling_well", eD), ("taken_apart", fG), ("_law_bar", kM)] [] BL IL ML TL bT
def nA : List D -> Rs D := fun ds => .ok (.bl true) [u4 zB (ac (ah 47)) ["_law_script"] (al (ah 47)) ds (.bl true)]
theorem yz : ∀ ds r, aa (nA ds) r -> u4 zB (ac (ah 47)) ["_law_script"] (al (ah 47)) ds r := by
  rintro ds r ⟨l, h, hp⟩
  cases h
  exact hp.1
theorem zA (a : Qd) : aa (kM [dq a]) (dq (bh a)) := ⟨_, rfl, True.intro⟩
theorem qm {a b : List Int} (h : a.Perm b) : cF a = cF b := by
  induction h with
  | nil => rfl
  | cons x _ ih => rw [cy, cy, ih]
  | swap x y l => rw [cy, cy, cy, cy]; grind
  | trans _ _ h1 h2 => exact h1.trans h2
theorem xF (ns : List Int) (_ : ns.length <= 63) : aa (nA [.lst (ns.map D.int)]) (.bl true) := by
  have hl : y9 (ns.map D.int) := ⟨ns, rfl⟩
  generalize ns.map D.int = L at *
  have c0 := Int.fmod_nonneg_of_pos (ij L 0) (show (0 : Int) < 61 by decide)
  have c1 := Int.fmod_lt_of_pos (ij L 0) (show (0 : Int) < 61 by decide)
  obtain ⟨m, hm⟩ := Int.eq_ofNat_of_zero_le c0
  obtain ⟨q, ps, ⟨hq, pl, es, hP, hb⟩, hn, hL⟩ := Dn hl (m := m) (by omega)
  have hL : aa (iV [.lst L, .int ((ij L 0).fmod 61)]) (.tup [dq q, .lst (ps.map D.int)]) := by rw [hm]; exact hL
  obtain ⟨o, ho, hat⟩ := uS (f := fun l : List Int => D.lst (l.map D.int)) (l := [ps, ps.reverse, eY ps, (eY ps).reverse]) (i := ((ij L 0).fdiv 61).fmod 4) (Int.fmod_nonneg_of_pos _ (by decide)) (Int.fmod_lt_of_pos _ (by decide))
  have po : o.Perm ps := by
    simp only [List.mem_cons, List.not_mem_nil, or_false] at ho
    rcases ho with rfl | rfl | rfl | rfl
    . exact List.Perm.refl _
    . exact List.reverse_perm _
    . exact fv _
    . exact (List.reverse_perm _).trans (fv _)
  have lo : o.length <= 100 := by rw [po.length_eq]; omega
  have oP : ∀ n ∈ o, n ∈ cY := fun n h => hP n (po.mem_iff.mp h)
  have b3 : ar q <= ((2 ^ 300 : Nat) : Int) := Int.le_trans hb (by decide)
  have eo : ar q = cF o := by rw [es, qm po]
  have rP : ∀ n ∈ o.reverse, n ∈ cY := fun n h => oP n (List.mem_reverse.mp h)
  have er : ar (bh q) = cF o.reverse := by rw [j7, eo, qm (List.reverse_perm o)]
  have bb : ar (bh q) <= ((2 ^ 300 : Nat) : Int) := by rw [j7]; exact b3
  obtain ⟨r, ds, g1, g2, g3, g4, g5, hA⟩ := tR hq pl b3 oP lo eo
  have hW := vc g1 g2 g3 g4 g5 oP lo (by rw [<- eo]; exact b3)
  obtain ⟨r', ds', f1, f2, f3, f4, f5, hA'⟩ := tR (bZ hq) pl.bar bb rP (by rw [List.length_reverse]; exact lo) er
  have hW' := vc f1 f2 f3 f4 f5 rP (by rw [List.length_reverse]; exact lo) (by rw [<- er]; exact bb)
  have lp := mE ps
  have lo' := mE o
  have lr := mE o.reverse
  have h64 : ps.length < 64 := by omega
  have m1 : (ps.map D.int).length <= bL := by rw [List.length_map]; show _ <= 40000; omega
  have m2 : (o.map D.int).length <= bL := by rw [List.length_map]; show _ <= 40000; omega
  have m3 : (o.reverse.map D.int).length <= bL := by rw [List.length_map, List.length_reverse]; show _ <= 40000; omega
  refine ⟨_, rfl, ⟨rfl, ?_⟩, True.intro⟩
  refine Rn.cut 2 (cj (cC (d := .int (ij L 0)) decl_name%) (cj (DS (d := (.tup [dq q, .lst (ps.map D.int)], 0)) (bQ decl_name% hL) rfl) da)) (Rn.set (d := .lst (o.map D.int)) (Xd.pick4 (d1 := .lst (ps.map D.int)) (d2 := .lst (ps.reverse.map D.int)) (d3 := .lst ((eY ps).map D.int)) (d4 := .lst ((eY ps).reverse.map D.int)) (Xd.ev decl_name%) (by rw [List.map_reverse]; exact Xd.lrev decl_name% lp) (Xd.srt false (n0 := 0) (p0 := ⟨0, 0, 0, 0⟩) (kp := ⟨0, 0, 0, 0⟩) decl_name% h64) (Xd.srt true decl_name% h64) decl_name% hat) ?_)
  refine Rn.cut 1 (cH (DX (bQ (aO (bQ (aO decl_name% (aO decl_name% cm)) hA) (aO decl_name% (aO decl_name% cm))) hW)) rfl da) (Rn.set (d := .lst (o.reverse.map D.int)) (by rw [List.map_reverse]; exact Xd.lrev decl_name% lo') (Rn.fin ?_))
  exact iu (gh (bQ (aO (bQ (aO (bQ decl_name% (zA q)) (aO decl_name% cm)) hA') (aO decl_name% (aO (bQ decl_name% (zA q)) cm))) hW'))
theorem Ic : aJ (aA (ac (ah 36))) ["_law_script", "_law_k"] (ac (ah 36)) := ⟨rfl, rfl, rfl, by decide +kernel, by decide +kernel, by decide +kernel, by decide +kernel⟩
theorem HW : aJ (aA (ac (ah 42))) [] (ac (ah 42)) := ⟨rfl, rfl, rfl, by decide +kernel, by decide +kernel, by decide +kernel, by decide +kernel⟩
theorem HV : aJ (aA (ac (ah 43))) ["_law_n"] (ac (ah 43)) := ⟨rfl, rfl, rfl, by decide +kernel, by decide +kernel, by decide +kernel, by decide +kernel⟩
theorem HY : aJ (aA (ac (ah 40))) ["_law_one", "_law_other"] (ac (ah 40)) := ⟨rfl, rfl, rfl, by decide +kernel, by decide +kernel, by decide +kernel, by decide +kernel⟩
theorem HU : aJ (aA (ac (ah 44))) ["_law_four"] (ac (ah 44)) := ⟨rfl, rfl, rfl, by decide +kernel, by decide +kernel, by decide +kernel, by decide +kernel⟩
theorem HZ : aJ (aA (ac (ah 39))) ["_law_four"] (ac (ah 39)) := ⟨rfl, rfl, rfl, by decide +kernel, by decide +kernel, by decide +kernel, by decide +kernel⟩
theorem HR : aJ (aA (ac (ah 46))) ["_law_script", "_law_many"] (ac (ah 46)) := ⟨rfl, rfl, rfl, by decide +kernel, by decide +kernel, by decide +kernel, by decide +kernel⟩
theorem Ib : aJ (aA (ac (ah 37))) ["_law_x"] (ac (ah 37)) := ⟨rfl, rfl, rfl, by decide +kernel, by decide +kernel, by decide +kernel, by decide +kernel⟩
theorem Ia : aJ (aA (ac (ah 38))) ["_law_thing"] (ac (ah 38)) := ⟨rfl, rfl, rfl, by decide +kernel, by decide +kernel, by decide +kernel, by decide +kernel⟩
theorem HS : aJ (aA (ac (ah 45))) ["_law_telling", "_law_primes", "_law_four"] (ac (ah 45)) := ⟨rfl, rfl, rfl, by decide +kernel, by decide +kernel, by decide +kernel, by decide +kernel⟩
theorem Ii : aJ (aA (ac (ah 30))) ["one", "other"] (ac (ah 30)) := ⟨rfl, rfl, rfl, by decide +kernel, by decide +kernel, by decide +kernel, by decide +kernel⟩
theorem Ij : aJ (aA (ac (ah 29))) ["numbers"] (ac (ah 29)) := ⟨rfl, rfl, rfl, by decide +kernel, by decide +kernel, by decide +kernel, by decide +kernel⟩
theorem MQ : aJ (aA (ac (ah 8))) ["thing"] (ac (ah 8)) := ⟨rfl, rfl, rfl, by decide +kernel, by decide +kernel, by decide +kernel, by decide +kernel⟩
theorem MP : aJ (aA (ac (ah 9))) ["thing"] (ac (ah 9)) := ⟨rfl, rfl, rfl, by decide +kernel, by decide +kernel, by decide +kernel, by decide +kernel⟩
theorem Ig : aJ (aA (ac (ah 32))) ["four"] (ac (ah 32)) := ⟨rfl, rfl, rfl, by decide +kernel, by decide +kernel, by decide +kernel, by decide +kernel⟩
theorem Id : aJ (aA (ac (ah 34))) ["order", "whole"] (ac (ah 34)) := ⟨rfl, rfl, rfl, by decide +kernel, by decide +kernel, by decide +kernel, by decide +kernel⟩
theorem Iv : aJ (aA (ac (ah 17))) ["four"] (ac (ah 17)) := ⟨rfl, rfl, rfl, by decide +kernel, by decide +kernel, by decide +kernel, by decide +kernel⟩
theorem Iq : aJ (aA (ac (ah 21))) ["side"] (ac (ah 21)) := ⟨rfl, rfl, rfl, by decide +kernel, by decide +kernel, by decide +kernel, by decide +kernel⟩
theorem IA : aJ (aA (ac (ah 10))) ["one", "other"] (ac (ah 10)) := ⟨rfl, rfl, rfl, by decide +kernel, by decide +kernel, by decide +kernel, by decide +kernel⟩
theorem Iz : aJ (aA (ac (ah 11))) ["one", "number"] (ac (ah 11)) := ⟨rfl, rfl, rfl, by decide +kernel, by decide +kernel, by decide +kernel, by decide +kernel⟩
theorem Il : aJ (aA (ac (ah 24))) ["four", "tried", "number"] (ac (ah 24)) := ⟨rfl, rfl, rfl, by decide +kernel, by decide +kernel, by decide +kernel, by decide +kernel⟩
theorem Im : aJ (aA (ac (ah 23))) ["four", "number"] (ac (ah 23)) := ⟨rfl, rfl, rfl, by decide +kernel, by decide +kernel, by decide +kernel, by decide +kernel⟩
theorem Iy : aJ (aA (ac (ah 14))) ["one", "other"] (ac (ah 14)) := ⟨rfl, rfl, rfl, by decide +kernel, by decide +kernel, by decide +kernel, by decide +kernel⟩
theorem Ix : aJ (aA (ac (ah 15))) ["one", "other"] (ac (ah 15)) := ⟨rfl, rfl, rfl, by decide +kernel, by decide +kernel, by decide +kernel, by decide +kernel⟩
theorem Io : aJ (aA (ac (ah 22))) ["one", "other", "side"] (ac (ah 22)) := ⟨rfl, rfl, rfl, by decide +kernel, by decide +kernel, by decide +kernel, by decide +kernel⟩
theorem Iw : aJ (aA (ac (ah 16))) ["four"] (ac (ah 16)) := ⟨rfl, rfl, rfl, by decide +kernel, by decide +kernel, by decide +kernel, by decide +kernel⟩
theorem Iu : aJ (aA (ac (ah 19))) ["one", "other", "side"] (ac (ah 19)) := ⟨rfl, rfl, rfl, by decide +kernel, by decide +kernel, by decide +kernel, by decide +kernel⟩
theorem Ir : aJ (aA (ac (ah 20))) ["one", "other", "side"] (ac (ah 20)) := ⟨rfl, rfl, rfl, by decide +kernel, by decide +kernel, by decide +kernel, by decide +kernel⟩
theorem Ik : aJ (aA (ac (ah 26))) ["one", "other", "side"] (ac (ah 26)) := ⟨rfl, rfl, rfl, by decide +kernel, by decide +kernel, by decide +kernel, by decide +kernel⟩
theorem Ie : aJ (aA (ac (ah 33))) ["four", "order"] (ac (ah 33)) := ⟨rfl, rfl, rfl, by decide +kernel, by decide +kernel, by decide +kernel, by decide +kernel⟩
theorem HX : aJ (aA (ac (ah 41))) ["_law_four"] (ac (ah 41)) := ⟨rfl, rfl, rfl, by decide +kernel, by decide +kernel, by decide +kernel, by decide +kernel⟩
theorem HQ : aJ (aA (ac (ah 47))) ["_law_script"] (ac (ah 47)) := ⟨rfl, rfl, rfl, by decide +kernel, by decide +kernel, by decide +kernel, by decide +kernel⟩
theorem bu : ∀ p ∈ BL, gx p := av (Pr := gx) (BJ) (av (Pr := gx) (wt) (av (Pr := gx) (yj) (av (Pr := gx) (BO) (av (Pr := gx) (BN) (av (Pr := gx) (BI) (av (Pr := gx) (BK) (av (Pr := gx) (uQ) (av (Pr := gx) (BM) (aw)))))))))
theorem bt : ∀ p ∈ IL, oq p := av (Pr := oq) (v5) (av (Pr := oq) (A9) (av (Pr := oq) (xO) (av (Pr := oq) (Ba) (aw))))
theorem bp : ∀ p ∈ ML, Fj p := aw
theorem bo : ∀ p ∈ TL, yE p := av (Pr := yE) (uy) (aw)
theorem cL {P : Program} {w : World} {k0 : W.Frag} {mg : Str -> Option Value} {base : Heap} {j k : Nat} {g : Str} {F : List D -> Rs D} {l : List (Str × (List D -> Rs D))} (h : cg P w k0 mg base j g F) (t : ∀ p ∈ l, zL P w k0 mg base k p) (hj : j <= k := by decide) : ∀ p ∈ (g, F) :: l, zL P w k0 mg base k p := av (Pr := zL P w k0 mg base k) (Or.inl (h.mono hj)) t
theorem all_mk {l : W.OpenLaw} {w : World} {K : W.Frag} {h : Heap} {mg : Str -> Option Value} {fa f36 f42 f43 f40 f44 f39 f46 f37 f38 f45 f30 f29 f8 f9 f32 f34 f17 f21 f10 f11 f24 f23 f14 f15 f22 f16 f19 f20 f26 f33 f41 f47 : Addr} (X : K.In h) (G : h.Ns mainGlobals mg) (hfa : mg "law" = some (.ref fa))
    {Jx Me Jr L8 Jq L7 Jt Ma Jp L6 Ju Mb Jn L4 Jw Md Jv Mc Jo L5 JB Mi JC Mj od8 an8 od9 an9 JA Mh Jy Mf JK Mt JH Mq JP Mz JO Mx JE Mm JF Mn JN Mw JM Mv JG Mp JL Mu JJ Ms JI Mr JD Ml Jz Mg Js L9 Jm Fb : Option Addr} {Hu Hn Hm Hq Hl Hr Hj Ht Hs Hk Hy Hz sl8 sl9 Hx Hv HI HF HN HM HB HC HL HK HE HJ HH HG HA Hw Ho Hi : Array (Option Value)} {J1 KD Lf IS Ey LK JV Kx K9 IM Es LE JU Kw K8 IK Er LD JX Kz Lb IO Eu LG JT Kv K7 IJ Ep LC JY KA Lc IP Ev LH JR Kt K5 IH En LA J0 KC Le IR Ex LJ JZ KB Ld IQ Ew LI JS Ku K6 II Eo LB J5 KH Lj IW EC LO J6 KI Lk IY EE LP oc8 kV8 dc8 pm8 cd8 ct8 oc9 kV9 dc9 pm9 cd9 ct9 J4 KG Li IV EB LN J2 KE Lg IT Ez LL Kg KR Ls Jf EN LX Kc KO Lp Jc EJ LU Kl KY Ly Jk ET L3 Kk KW Lx Jj ES L1 J9 KK Lm I0 EG LR Ka KL Ln Ja EH LS Kj KU Lw Ji ER L0 Ki KT Lv Jh EQ LZ Kb KM Lo Jb EI LT Kh KS Lu Jg EO LY Kf KQ Lr Je EL LW Ke KP Lq Jd EK LV J8 KJ Ll IZ EF LQ J3 KF Lh IU EA LM JW Ky La IN Et LF JQ Dx Eh CM yc Ek : Value}
    (a36 : W.nsIn K mainGlobals "_law_cell" = some (some (.ref f36)))    (l36 : K.lookup f36 = some ⟨J1, Jx, .func (W.fnOf "_law_cell" "_law_cell" (aN (ah 36)) (al (ah 36)) (ac (ah 36)) .none KD Lf IS Me Ey LK), Hu⟩) (c36 : W.codeIn K Ey "_law_cell" = true) (k36 : W.keepIn K (.ref f36) = true)
    (a42 : W.nsIn K mainGlobals "_law_units" = some (some (.ref f42)))    (l42 : K.lookup f42 = some ⟨JV, Jr, .func (W.fnOf "_law_units" "_law_units" (aN (ah 42)) (al (ah 42)) (ac (ah 42)) .none Kx K9 IM L8 Es LE), Hn⟩) (c42 : W.codeIn K Es "_law_units" = true) (k42 : W.keepIn K (.ref f42) = true)
    (a43 : W.nsIn K mainGlobals "_law_fours" = some (some (.ref f43)))    (l43 : K.lookup f43 = some ⟨JU, Jq, .func (W.fnOf "_law_fours" "_law_fours" (aN (ah 43)) (al (ah 43)) (ac (ah 43)) .none Kw K8 IK L7 Er LD), Hm⟩) (c43 : W.codeIn K Er "_law_fours" = true) (k43 : W.keepIn K (.ref f43) = true)
    (a40 : W.nsIn K mainGlobals "_law_times" = some (some (.ref f40)))    (l40 : K.lookup f40 = some ⟨JX, Jt, .func (W.fnOf "_law_times" "_law_times" (aN (ah 40)) (al (ah 40)) (ac (ah 40)) .none Kz Lb IO Ma Eu LG), Hq⟩) (c40 : W.codeIn K Eu "_law_times" = true) (k40 : W.keepIn K (.ref f40) = true)
    (a44 : W.nsIn K mainGlobals "_law_divisor" = some (some (.ref f44)))    (l44 : K.lookup f44 = some ⟨JT, Jp, .func (W.fnOf "_law_divisor" "_law_divisor" (aN (ah 44)) (al (ah 44)) (ac (ah 44)) .none Kv K7 IJ L6 Ep LC), Hl⟩) (c44 : W.codeIn K Ep "_law_divisor" = true) (k44 : W.keepIn K (.ref f44) = true)
    (a39 : W.nsIn K mainGlobals "_law_size" = some (some (.ref f39)))    (l39 : K.lookup f39 = some ⟨JY, Ju, .func (W.fnOf "_law_size" "_law_size" (aN (ah 39)) (al (ah 39)) (ac (ah 39)) .none KA Lc IP Mb Ev LH), Hr⟩) (c39 : W.codeIn K Ev "_law_size" = true) (k39 : W.keepIn K (.ref f39) = true)
    (a46 : W.nsIn K mainGlobals "_law_long" = some (some (.ref f46)))    (l46 : K.lookup f46 = some ⟨JR, Jn, .func (W.fnOf "_law_long" "_law_long" (aN (ah 46)) (al (ah 46)) (ac (ah 46)) .none Kt K5 IH L4 En LA), Hj⟩) (c46 : W.codeIn K En "_law_long" = true) (k46 : W.keepIn K (.ref f46) = true)
    (a37 : W.nsIn K mainGlobals "_law_whole" = some (some (.ref f37)))    (l37 : K.lookup f37 = some ⟨J0, Jw, .func (W.fnOf "_law_whole" "_law_whole" (aN (ah 37)) (al (ah 37)) (ac (ah 37)) .none KC Le IR Md Ex LJ), Ht⟩) (c37 : W.codeIn K Ex "_law_whole" = true) (k37 : W.keepIn K (.ref f37) = true)
    (a38 : W.nsIn K mainGlobals "_law_is_four" = some (some (.ref f38)))    (l38 : K.lookup f38 = some ⟨JZ, Jv, .func (W.fnOf "_law_is_four" "_law_is_four" (aN (ah 38)) (al (ah 38)) (ac (ah 38)) .none KB Ld IQ Mc Ew LI), Hs⟩) (c38 : W.codeIn K Ew "_law_is_four" = true) (k38 : W.keepIn K (.ref f38) = true)
    (a45 : W.nsIn K mainGlobals "_law_telling_well" = some (some (.ref f45)))    (l45 : K.lookup f45 = some ⟨JS, Jo, .func (W.fnOf "_law_telling_well" "_law_telling_well" (aN (ah 45)) (al (ah 45)) (ac (ah 45)) .none Ku K6 II L5 Eo LB), Hk⟩) (c45 : W.codeIn K Eo "_law_telling_well" = true) (k45 : W.keepIn K (.ref f45) = true)
    (a30 : W.nsIn K mainGlobals "shared_by" = some (some (.ref f30)))    (l30 : K.lookup f30 = some ⟨J5, JB, .func (W.fnOf "shared_by" "shared_by" (aN (ah 30)) (al (ah 30)) (ac (ah 30)) .none KH Lj IW Mi EC LO), Hy⟩) (c30 : W.codeIn K EC "shared_by" = true) (k30 : W.keepIn K (.ref f30) = true)
    (a29 : W.nsIn K mainGlobals "common_divisor" = some (some (.ref f29)))    (l29 : K.lookup f29 = some ⟨J6, JC, .func (W.fnOf "common_divisor" "common_divisor" (aN (ah 29)) (al (ah 29)) (ac (ah 29)) .none KI Lk IY Mj EE LP), Hz⟩) (c29 : W.codeIn K EE "common_divisor" = true) (k29 : W.keepIn K (.ref f29) = true)
    (a8 : W.nsIn K mainGlobals "is_whole" = some (some (.ref f8)))    (l8 : K.lookup f8 = some ⟨oc8, od8, .func (W.fnOf "is_whole" "is_whole" (aN (ah 8)) (al (ah 8)) (ac (ah 8)) .none kV8 dc8 pm8 an8 cd8 ct8), sl8⟩) (c8 : W.codeIn K cd8 "is_whole" = true) (k8 : W.keepIn K (.ref f8) = true)
    (a9 : W.nsIn K mainGlobals "is_four" = some (some (.ref f9)))    (l9 : K.lookup f9 = some ⟨oc9, od9, .func (W.fnOf "is_four" "is_four" (aN (ah 9)) (al (ah 9)) (ac (ah 9)) .none kV9 dc9 pm9 an9 cd9 ct9), sl9⟩) (c9 : W.codeIn K cd9 "is_four" = true) (k9 : W.keepIn K (.ref f9) = true)
    (a32 : W.nsIn K mainGlobals "whole_divisor" = some (some (.ref f32)))    (l32 : K.lookup f32 = some ⟨J4, JA, .func (W.fnOf "whole_divisor" "whole_divisor" (aN (ah 32)) (al (ah 32)) (ac (ah 32)) .none KG Li IV Mh EB LN), Hx⟩) (c32 : W.codeIn K EB "whole_divisor" = true) (k32 : W.keepIn K (.ref f32) = true)
    (a34 : W.nsIn K mainGlobals "order_fault" = some (some (.ref f34)))    (l34 : K.lookup f34 = some ⟨J2, Jy, .func (W.fnOf "order_fault" "order_fault" (aN (ah 34)) (al (ah 34)) (ac (ah 34)) .none KE Lg IT Mf Ez LL), Hv⟩) (c34 : W.codeIn K Ez "order_fault" = true) (k34 : W.keepIn K (.ref f34) = true)
    (a17 : W.nsIn K mainGlobals "size" = some (some (.ref f17)))    (l17 : K.lookup f17 = some ⟨Kg, JK, .func (W.fnOf "size" "size" (aN (ah 17)) (al (ah 17)) (ac (ah 17)) .none KR Ls Jf Mt EN LX), HI⟩) (c17 : W.codeIn K EN "size" = true) (k17 : W.keepIn K (.ref f17) = true)
    (a21 : W.nsIn K mainGlobals "refuse_no_side" = some (some (.ref f21)))    (fx : K.lookup f21 = some ⟨Kc, JH, .func (W.fnOf "refuse_no_side" "refuse_no_side" (aN (ah 21)) (al (ah 21)) (ac (ah 21)) .none KO Lp Jc Mq EJ LU), HF⟩) (c21 : W.codeIn K EJ "refuse_no_side" = true) (k21 : W.keepIn K (.ref f21) = true)
    (a10 : W.nsIn K mainGlobals "less" = some (some (.ref f10)))    (l10 : K.lookup f10 = some ⟨Kl, JP, .func (W.fnOf "less" "less" (aN (ah 10)) (al (ah 10)) (ac (ah 10)) .none KY Ly Jk Mz ET L3), HN⟩) (c10 : W.codeIn K ET "less" = true) (k10 : W.keepIn K (.ref f10) = true)
    (a11 : W.nsIn K mainGlobals "many_times" = some (some (.ref f11)))    (l11 : K.lookup f11 = some ⟨Kk, JO, .func (W.fnOf "many_times" "many_times" (aN (ah 11)) (al (ah 11)) (ac (ah 11)) .none KW Lx Jj Mx ES L1), HM⟩) (c11 : W.codeIn K ES "many_times" = true) (k11 : W.keepIn K (.ref f11) = true)
    (a24 : W.nsIn K mainGlobals "strayed" = some (some (.ref f24)))    (l24 : K.lookup f24 = some ⟨J9, JE, .func (W.fnOf "strayed" "strayed" (aN (ah 24)) (al (ah 24)) (ac (ah 24)) .none KK Lm I0 Mm EG LR), HB⟩) (c24 : W.codeIn K EG "strayed" = true) (k24 : W.keepIn K (.ref f24) = true)
    (a23 : W.nsIn K mainGlobals "nearest" = some (some (.ref f23)))    (l23 : K.lookup f23 = some ⟨Ka, JF, .func (W.fnOf "nearest" "nearest" (aN (ah 23)) (al (ah 23)) (ac (ah 23)) .none KL Ln Ja Mn EH LS), HC⟩) (c23 : W.codeIn K EH "nearest" = true) (k23 : W.keepIn K (.ref f23) = true)
    (a14 : W.nsIn K mainGlobals "plain_product" = some (some (.ref f14)))    (l14 : K.lookup f14 = some ⟨Kj, JN, .func (W.fnOf "plain_product" "plain_product" (aN (ah 14)) (al (ah 14)) (ac (ah 14)) .none KU Lw Ji Mw ER L0), HL⟩) (c14 : W.codeIn K ER "plain_product" = true) (k14 : W.keepIn K (.ref f14) = true)
    (a15 : W.nsIn K mainGlobals "product" = some (some (.ref f15)))    (l15 : K.lookup f15 = some ⟨Ki, JM, .func (W.fnOf "product" "product" (aN (ah 15)) (al (ah 15)) (ac (ah 15)) .none KT Lv Jh Mv EQ LZ), HK⟩) (c15 : W.codeIn K EQ "product" = true) (k15 : W.keepIn K (.ref f15) = true)
    (a22 : W.nsIn K mainGlobals "beside" = some (some (.ref f22)))    (l22 : K.lookup f22 = some ⟨Kb, JG, .func (W.fnOf "beside" "beside" (aN (ah 22)) (al (ah 22)) (ac (ah 22)) .none KM Lo Jb Mp EI LT), HE⟩) (c22 : W.codeIn K EI "beside" = true) (k22 : W.keepIn K (.ref f22) = true)
    (a16 : W.nsIn K mainGlobals "other_signed" = some (some (.ref f16)))    (l16 : K.lookup f16 = some ⟨Kh, JL, .func (W.fnOf "other_signed" "other_signed" (aN (ah 16)) (al (ah 16)) (ac (ah 16)) .none KS Lu Jg Mu EO LY), HJ⟩) (c16 : W.codeIn K EO "other_signed" = true) (k16 : W.keepIn K (.ref f16) = true)
    (a19 : W.nsIn K mainGlobals "divided" = some (some (.ref f19)))    (l19 : K.lookup f19 = some ⟨Kf, JJ, .func (W.fnOf "divided" "divided" (aN (ah 19)) (al (ah 19)) (ac (ah 19)) .none KQ Lr Je Ms EL LW), HH⟩) (c19 : W.codeIn K EL "divided" = true) (k19 : W.keepIn K (.ref f19) = true)
    (a20 : W.nsIn K mainGlobals "exact" = some (some (.ref f20)))    (l20 : K.lookup f20 = some ⟨Ke, JI, .func (W.fnOf "exact" "exact" (aN (ah 20)) (al (ah 20)) (ac (ah 20)) .none KP Lq Jd Mr EK LV), HG⟩) (c20 : W.codeIn K EK "exact" = true) (k20 : W.keepIn K (.ref f20) = true)
    (a26 : W.nsIn K mainGlobals "greatest" = some (some (.ref f26)))    (l26 : K.lookup f26 = some ⟨J8, JD, .func (W.fnOf "greatest" "greatest" (aN (ah 26)) (al (ah 26)) (ac (ah 26)) .none KJ Ll IZ Ml EF LQ), HA⟩) (c26 : W.codeIn K EF "greatest" = true) (k26 : W.keepIn K (.ref f26) = true)
    (a33 : W.nsIn K mainGlobals "taken_apart" = some (some (.ref f33)))    (l33 : K.lookup f33 = some ⟨J3, Jz, .func (W.fnOf "taken_apart" "taken_apart" (aN (ah 33)) (al (ah 33)) (ac (ah 33)) .none KF Lh IU Mg EA LM), Hw⟩) (c33 : W.codeIn K EA "taken_apart" = true) (k33 : W.keepIn K (.ref f33) = true)
    (a41 : W.nsIn K mainGlobals "_law_bar" = some (some (.ref f41)))    (l41 : K.lookup f41 = some ⟨JW, Js, .func (W.fnOf "_law_bar" "_law_bar" (aN (ah 41)) (al (ah 41)) (ac (ah 41)) .none Ky La IN L9 Et LF), Ho⟩) (c41 : W.codeIn K Et "_law_bar" = true) (k41 : W.keepIn K (.ref f41) = true)
    (a47 : W.nsIn K mainGlobals "law" = some (some (.ref f47)))    (l47 : K.lookup f47 = some ⟨JQ, Jm, .func (W.fnOf "law" "law" (aN (ah 47)) (al (ah 47)) (ac (ah 47)) .none Dx Eh CM Fb yc Ek), Hi⟩) (c47 : W.codeIn K yc "law" = true) (k47 : W.keepIn K (.ref f47) = true)
    {ca0 : Addr} {dd0 : Option Addr} {ss0 : Array (Option Value)} {nn0 : Nat} {FN FM FL FK : Tok} (g0 : W.nsIn K mainGlobals "NOUGHT" = some (some (.ref ca0))) (m0 : K.lookup ca0 = some ⟨.type "tuple", dd0, .seq #[.int (0) FN, .int (0) FM, .int (0) FL, .int (0) FK] nn0, ss0⟩)
    {ca1 : Addr} {dd1 : Option Addr} {ss1 : Array (Option Value)} {nn1 : Nat} {FJ FI FH FG : Tok} (g1 : W.nsIn K mainGlobals "ONE" = some (some (.ref ca1))) (m1 : K.lookup ca1 = some ⟨.type "tuple", dd1, .seq #[.int (2) FJ, .int (0) FI, .int (0) FH, .int (0) FG] nn1, ss1⟩)
    {ca2 : Addr} {dd2 : Option Addr} {ss2 : Array (Option Value)} {nn2 : Nat} {FF FE FD FC FB FA Fz Fy Fw Fv Cg Cf Ce Cd Cc Cb Ca B9 B8 B7 B6 B5 B4 B3 B2 : Tok} (g2 : W.nsIn K mainGlobals "PRIMES" = some (some (.ref ca2))) (m2 : K.lookup ca2 = some ⟨.type "tuple", dd2, .seq #[.int (2) FF, .int (3) FE, .int (5) FD, .int (7) FC, .int (11) FB, .int (13) FA, .int (17) Fz, .int (19) Fy, .int (23) Fw, .int (29) Fv, .int (31) Cg, .int (37) Cf, .int (41) Ce, .int (43) Cd, .int (47) Cc, .int (53) Cb, .int (59) Ca, .int (61) B9, .int (67) B8, .int (71) B7, .int (73) B6, .int (79) B5, .int (83) B4, .int (89) B3, .int (97) B2] nn2, ss2⟩)
    (z0 : W.nsIn K mainGlobals "len" = some none)    (z1 : W.nsIn K mainGlobals "tuple" = some none)    (z2 : W.nsIn K mainGlobals "list" = some none)    (z3 : W.nsIn K mainGlobals "abs" = some none)    (z4 : W.nsIn K mainGlobals "all" = some none)    (z5 : W.nsIn K mainGlobals "sum" = some none)    (z6 : W.nsIn K mainGlobals "isinstance" = some none)    (z7 : W.nsIn K mainGlobals "set" = some none)    (z8 : W.nsIn K mainGlobals "int" = some none)    (z9 : W.nsIn K mainGlobals "bool" = some none)    (z10 : W.nsIn K mainGlobals "str" = some none)    (z11 : W.nsIn K mainGlobals "range" = some none)    (z12 : W.nsIn K mainGlobals "zip" = some none)    (z13 : W.nsIn K mainGlobals "enumerate" = some none)    (z14 : W.nsIn K mainGlobals "any" = some none)    (z15 : W.nsIn K mainGlobals "sorted" = some none)    (z16 : W.nsIn K mainGlobals "min" = some none)    (z17 : W.nsIn K mainGlobals "max" = some none)    (z18 : W.nsIn K mainGlobals "reversed" = some none) :
    ∃ fd : FuncData, (∀ (s : Shared) (v : Value), BindsTo s fd ⟨[v], []⟩ [("_law_script", v)]) /\ ∀ base : Heap, K.In base -> base.Ns mainGlobals mg -> ci l.prog w K mg base eT 7 fa fd ["_law_script"] (gX K nA) := by
  have e := hfa.symm.trans (W.mg_of X G a47)
  cases e
  have hbl : ∀ n ∈ gj, mg n = none := av (Pr := fun n => mg n = none) (W.mg_none_of X G z0) (av (Pr := fun n => mg n = none) (W.mg_none_of X G z1) (av (Pr := fun n => mg n = none) (W.mg_none_of X G z2) (av (Pr := fun n => mg n = none) (W.mg_none_of X G z3) (av (Pr := fun n => mg n = none) (W.mg_none_of X G z4) (av (Pr := fun n => mg n = none) (W.mg_none_of X G z5) (av (Pr := fun n => mg n = none) (W.mg_none_of X G z6) (av (Pr := fun n => mg n = none) (W.mg_none_of X G z7) (av (Pr := fun n => mg n = none) (W.mg_none_of X G z8) (av (Pr := fun n => mg n = none) (W.mg_none_of X G z9) (av (Pr := fun n => mg n = none) (W.mg_none_of X G z10) (av (Pr := fun n => mg n = none) (W.mg_none_of X G z11) (av (Pr := fun n => mg n = none) (W.mg_none_of X G z12) (av (Pr := fun n => mg n = none) (W.mg_none_of X G z13) (av (Pr := fun n => mg n = none) (W.mg_none_of X G z14) (av (Pr := fun n => mg n = none) (W.mg_none_of X G z15) (av (Pr := fun n => mg n = none) (W.mg_none_of X G z16) (av (Pr := fun n => mg n = none) (W.mg_none_of X G z17) (av (Pr := fun n => mg n = none) (W.mg_none_of X G z18) (aw)))))))))))))))))))
  have F36 := bg (st := (ah 36)) l36 c36 k36
  have b36 := F36.binds (ps := ["_law_script", "_law_k"]) fun _ _ _ _ _ _ us hl => by obtain ⟨x0, x1, rfl⟩ := fD hl; rfl
  have F42 := bg (st := (ah 42)) l42 c42 k42
  have b42 := F42.binds (ps := []) fun _ _ _ _ _ _ us hl => by cases Kr hl; rfl
  have F43 := bg (st := (ah 43)) l43 c43 k43
  have b43 := F43.binds (ps := ["_law_n"]) fun _ _ _ _ _ _ us hl => by obtain ⟨x0, rfl⟩ := eL hl; rfl
  have F40 := bg (st := (ah 40)) l40 c40 k40
  have b40 := F40.binds (ps := ["_law_one", "_law_other"]) fun _ _ _ _ _ _ us hl => by obtain ⟨x0, x1, rfl⟩ := fD hl; rfl
  have F44 := bg (st := (ah 44)) l44 c44 k44
  have b44 := F44.binds (ps := ["_law_four"]) fun _ _ _ _ _ _ us hl => by obtain ⟨x0, rfl⟩ := eL hl; rfl
  have F39 := bg (st := (ah 39)) l39 c39 k39
  have b39 := F39.binds (ps := ["_law_four"]) fun _ _ _ _ _ _ us hl => by obtain ⟨x0, rfl⟩ := eL hl; rfl
  have F46 := bg (st := (ah 46)) l46 c46 k46
  have b46 := F46.binds (ps := ["_law_script", "_law_many"]) fun _ _ _ _ _ _ us hl => by obtain ⟨x0, x1, rfl⟩ := fD hl; rfl
  have F37 := bg (st := (ah 37)) l37 c37 k37
  have b37 := F37.binds (ps := ["_law_x"]) fun _ _ _ _ _ _ us hl => by obtain ⟨x0, rfl⟩ := eL hl; rfl
  have F38 := bg (st := (ah 38)) l38 c38 k38
  have b38 := F38.binds (ps := ["_law_thing"]) fun _ _ _ _ _ _ us hl => by obtain ⟨x0, rfl⟩ := eL hl; rfl
  have F45 := bg (st := (ah 45)) l45 c45 k45
  have b45 := F45.binds (ps := ["_law_telling", "_law_primes", "_law_four"]) fun _ _ _ _ _ _ us hl => by obtain ⟨x0, x1, x2, rfl⟩ := nU hl; rfl
  have F30 := bg (st := (ah 30)) l30 c30 k30
  have b30 := F30.binds (ps := ["one", "other"]) fun _ _ _ _ _ _ us hl => by obtain ⟨x0, x1, rfl⟩ := fD hl; rfl
  have F29 := bg (st := (ah 29)) l29 c29 k29
  have b29 := F29.binds (ps := ["numbers"]) fun _ _ _ _ _ _ us hl => by obtain ⟨x0, rfl⟩ := eL hl; rfl
  have F8 := bg (st := (ah 8)) l8 c8 k8
  have b8 := F8.binds (ps := ["thing"]) fun _ _ _ _ _ _ us hl => by obtain ⟨x0, rfl⟩ := eL hl; rfl
  have F9 := bg (st := (ah 9)) l9 c9 k9
  have b9 := F9.binds (ps := ["thing"]) fun _ _ _ _ _ _ us hl => by obtain ⟨x0, rfl⟩ := eL hl; rfl
  have F32 := bg (st := (ah 32)) l32 c32 k32
  have b32 := F32.binds (ps := ["four"]) fun _ _ _ _ _ _ us hl => by obtain ⟨x0, rfl⟩ := eL hl; rfl
  have F34 := bg (st := (ah 34)) l34 c34 k34
  have b34 := F34.binds (ps := ["order", "whole"]) fun _ _ _ _ _ _ us hl => by obtain ⟨x0, x1, rfl⟩ := fD hl; rfl
  have F17 := bg (st := (ah 17)) l17 c17 k17
  have b17 := F17.binds (ps := ["four"]) fun _ _ _ _ _ _ us hl => by obtain ⟨x0, rfl⟩ := eL hl; rfl
  have F21 := bg (st := (ah 21)) fx c21 k21
  have b21 := F21.binds (ps := ["side"]) fun _ _ _ _ _ _ us hl => by obtain ⟨x0, rfl⟩ := eL hl; rfl
  have F10 := bg (st := (ah 10)) l10 c10 k10
  have b10 := F10.binds (ps := ["one", "other"]) fun _ _ _ _ _ _ us hl => by obtain ⟨x0, x1, rfl⟩ := fD hl; rfl
  have F11 := bg (st := (ah 11)) l11 c11 k11
  have b11 := F11.binds (ps := ["one", "number"]) fun _ _ _ _ _ _ us hl => by obtain ⟨x0, x1, rfl⟩ := fD hl; rfl
  have F24 := bg (st := (ah 24)) l24 c24 k24
  have b24 := F24.binds (ps := ["four", "tried", "number"]) fun _ _ _ _ _ _ us hl => by obtain ⟨x0, x1, x2, rfl⟩ := nU hl; rfl
  have F23 := bg (st := (ah 23)) l23 c23 k23
  have b23 := F23.binds (ps := ["four", "number"]) fun _ _ _ _ _ _ us hl => by obtain ⟨x0, x1, rfl⟩ := fD hl; rfl
  have F14 := bg (st := (ah 14)) l14 c14 k14
  have b14 := F14.binds (ps := ["one", "other"]) fun _ _ _ _ _ _ us hl => by obtain ⟨x0, x1, rfl⟩ := fD hl; rfl
  have F15 := bg (st := (ah 15)) l15 c15 k15
  have b15 := F15.binds (ps := ["one", "other"]) fun _ _ _ _ _ _ us hl => by obtain ⟨x0, x1, rfl⟩ := fD hl; rfl
  have F22 := bg (st := (ah 22)) l22 c22 k22
  have b22 := F22.binds (ps := ["one", "other", "side"]) fun _ _ _ _ _ _ us hl => by obtain ⟨x0, x1, x2, rfl⟩ := nU hl; rfl
  have F16 := bg (st := (ah 16)) l16 c16 k16
  have b16 := F16.binds (ps := ["four"]) fun _ _ _ _ _ _ us hl => by obtain ⟨x0, rfl⟩ := eL hl; rfl
  have F19 := bg (st := (ah 19)) l19 c19 k19
  have b19 := F19.binds (ps := ["one", "other", "side"]) fun _ _ _ _ _ _ us hl => by obtain ⟨x0, x1, x2, rfl⟩ := nU hl; rfl
  have F20 := bg (st := (ah 20)) l20 c20 k20
  have b20 := F20.binds (ps := ["one", "other", "side"]) fun _ _ _ _ _ _ us hl => by obtain ⟨x0, x1, x2, rfl⟩ := nU hl; rfl
  have F26 := bg (st := (ah 26)) l26 c26 k26
  have b26 := F26.binds (ps := ["one", "other", "side"]) fun _ _ _ _ _ _ us hl => by obtain ⟨x0, x1, x2, rfl⟩ := nU hl; rfl
  have F33 := bg (st := (ah 33)) l33 c33 k33
  have b33 := F33.binds (ps := ["four", "order"]) fun _ _ _ _ _ _ us hl => by obtain ⟨x0, x1, rfl⟩ := fD hl; rfl
  have F41 := bg (st := (ah 41)) l41 c41 k41
  have b41 := F41.binds (ps := ["_law_four"]) fun _ _ _ _ _ _ us hl => by obtain ⟨x0, rfl⟩ := eL hl; rfl
  have F47 := bg (st := (ah 47)) l47 c47 k47
  refine ⟨W.fnOf "law" "law" (aN (ah 47)) (al (ah 47)) (ac (ah 47)) .none Dx Eh CM Fb yc Ek, fun s v => .of_eq rfl, fun base _ _ => ?_⟩
  have D36 : cg l.prog w K mg base 1 "_law_cell" iT := bi F36 Ic (W.mg_of X G a36) b36 (by decide +kernel) (bf (aw) (aw) bu bt bp bo aW hbl) sy
  have D42 : cg l.prog w K mg base 1 "_law_units" jV := bi F42 HW (W.mg_of X G a42) b42 (by decide +kernel) (bf (aw) (aw) bu bt bp bo aW hbl) ez.self
  have D43 : cg l.prog w K mg base 1 "_law_fours" jW := bi F43 HV (W.mg_of X G a43) b43 (by decide +kernel) (bf (aw) (aw) bu bt bp bo aW hbl) ez.self
  have D40 : cg l.prog w K mg base 1 "_law_times" fB := bi F40 HY (W.mg_of X G a40) b40 (by decide +kernel) (bf (aw) (aw) bu bt bp bo aW hbl) rS
  have D44 : cg l.prog w K mg base 1 "_law_divisor" fu := bi F44 HU (W.mg_of X G a44) b44 (by decide +kernel) (bf (aw) (aw) bu bt bp bo aW hbl) ez.self
  have D39 : cg l.prog w K mg base 1 "_law_size" iS := bi F39 HZ (W.mg_of X G a39) b39 (by decide +kernel) (bf (aw) (aw) bu bt bp bo aW hbl) sx
  have D46 : cg l.prog w K mg base 2 "_law_long" iV := wb (DL (pre := (al (ah 46)).take 4) (post := (al (ah 46)).drop 4) F46 HR (bf (cL D42 (cL D43 (cL D36 (cL D40 (cL D44 (cL D39 (aw))))))) (aw) bu bt bp bo aW hbl) rfl) (W.mg_of X G a46) k46 b46 (by decide +kernel)
  have D37 : cg l.prog w K mg base 1 "_law_whole" o9 := bi F37 Ib (W.mg_of X G a37) b37 (by decide +kernel) (bf (aw) (aw) bu bt bp bo aW hbl) ez.self
  have D38 : cg l.prog w K mg base 2 "_law_is_four" fq := bi F38 Ia (W.mg_of X G a38) b38 (by decide +kernel) (bf (cL D37 (aw)) (aw) bu bt bp bo aW hbl) ez.self
  have D45 : cg l.prog w K mg base 3 "_law_telling_well" eD := bi F45 HS (W.mg_of X G a45) b45 (by decide +kernel) (bf (cL D40 (cL D38 (cL D39 (aw)))) (aw) bu bt bp bo aW hbl) ez.self
  have D30 : cg l.prog w K mg base 1 "shared_by" gR := bi F30 Ii (W.mg_of X G a30) b30 (by decide +kernel) (bf (aw) (aw) bu bt bp bo aW hbl) ez.self
  have D29 : cg l.prog w K mg base 2 "common_divisor" dw := bi F29 Ij (W.mg_of X G a29) b29 (by decide +kernel) (bf (cL D30 (aw)) (aw) bu bt bp bo aW hbl) i9
  have D8 : cg l.prog w K mg base 1 "is_whole" nB := bi F8 MQ (W.mg_of X G a8) b8 (by decide +kernel) (bf (aw) (aw) bu bt bp bo aW hbl) ez.self
  have D9 : cg l.prog w K mg base 2 "is_four" jX := bi F9 MP (W.mg_of X G a9) b9 (by decide +kernel) (bf (cL D8 (aw)) (aw) bu bt bp bo aW hbl) ez.self
  have D32 : cg l.prog w K mg base 3 "whole_divisor" dE := bi F32 Ig (W.mg_of X G a32) b32 (by decide +kernel) (bf (cL D29 (cL D9 (aw))) (av (Pr := jZ mg K) (fe (ns := [0, 0, 0, 0]) (W.mg_of X G g0) m0 (show 4 <= sizeLine by decide) (.cons ⟨_, rfl⟩ (.cons ⟨_, rfl⟩ (.cons ⟨_, rfl⟩ (.cons ⟨_, rfl⟩ (.nil)))))) (aw)) bu bt bp bo aW hbl) ez.self
  have D34 : cg l.prog w K mg base 1 "order_fault" fH := bi F34 Id (W.mg_of X G a34) b34 (by decide +kernel) (bf (aw) (av (Pr := jZ mg K) (fe (ns := [2, 3, 5, 7, 11, 13, 17, 19, 23, 29, 31, 37, 41, 43, 47, 53, 59, 61, 67, 71, 73, 79, 83, 89, 97]) (W.mg_of X G g2) m2 (show 25 <= sizeLine by decide) (.cons ⟨_, rfl⟩ (.cons ⟨_, rfl⟩ (.cons ⟨_, rfl⟩ (.cons ⟨_, rfl⟩ (.cons ⟨_, rfl⟩ (.cons ⟨_, rfl⟩ (.cons ⟨_, rfl⟩ (.cons ⟨_, rfl⟩ (.cons ⟨_, rfl⟩ (.cons ⟨_, rfl⟩ (.cons ⟨_, rfl⟩ (.cons ⟨_, rfl⟩ (.cons ⟨_, rfl⟩ (.cons ⟨_, rfl⟩ (.cons ⟨_, rfl⟩ (.cons ⟨_, rfl⟩ (.cons ⟨_, rfl⟩ (.cons ⟨_, rfl⟩ (.cons ⟨_, rfl⟩ (.cons ⟨_, rfl⟩ (.cons ⟨_, rfl⟩ (.cons ⟨_, rfl⟩ (.cons ⟨_, rfl⟩ (.cons ⟨_, rfl⟩ (.cons ⟨_, rfl⟩ (.nil))))))))))))))))))))))))))) (aw)) bu bt bp bo aW hbl) ez.self
  have D17 : cg l.prog w K mg base 1 "size" jQ := bi F17 Iv (W.mg_of X G a17) b17 (by decide +kernel) (bf (aw) (aw) bu bt bp bo aW hbl) wG
  have D21 : cg l.prog w K mg base 1 "refuse_no_side" dv := bi F21 Iq (W.mg_of X G a21) b21 (by decide +kernel) (bf (aw) (aw) bu bt bp bo aW hbl) i8
  have D10 : cg l.prog w K mg base 1 "less" jU := bi F10 IA (W.mg_of X G a10) b10 (by decide +kernel) (bf (aw) (aw) bu bt bp bo aW hbl) wH
  have D11 : cg l.prog w K mg base 1 "many_times" gp := bi F11 Iz (W.mg_of X G a11) b11 (by decide +kernel) (bf (aw) (aw) bu bt bp bo aW hbl) nl
  have D24 : cg l.prog w K mg base 2 "strayed" jP := bi F24 Il (W.mg_of X G a24) b24 (by decide +kernel) (bf (cL D17 (cL D10 (cL D11 (aw)))) (aw) bu bt bp bo aW hbl) rO
  have D23 : cg l.prog w K mg base 3 "nearest" jT := bi F23 Im (W.mg_of X G a23) b23 (by decide +kernel) (bf (cL D24 (aw)) (aw) bu bt bp bo aW hbl) rR
  have D14 : cg l.prog w K mg base 1 "plain_product" eN := bi F14 Iy (W.mg_of X G a14) b14 (by decide +kernel) (bf (aw) (aw) bu bt bp bo aW hbl) jS
  have D15 : cg l.prog w K mg base 2 "product" jR := bi F15 Ix (W.mg_of X G a15) b15 (by decide +kernel) (bf (cL D14 (aw)) (aw) bu bt bp bo aW hbl) rQ
  have D22 : cg l.prog w K mg base 3 "beside" iU := bi F22 Io (W.mg_of X G a22) b22 (by decide +kernel) (bf (cL D15 (aw)) (aw) bu bt bp bo aW hbl) sA
  have D16 : cg l.prog w K mg base 1 "other_signed" fh := bi F16 Iw (W.mg_of X G a16) b16 (by decide +kernel) (bf (aw) (aw) bu bt bp bo aW hbl) kY
  have D19 : cg l.prog w K mg base 4 "divided" gK := bi F19 Iu (W.mg_of X G a19) b19 (by decide +kernel) (bf (cL D21 (cL D23 (cL D22 (cL D17 (cL D10 (cL D16 (aw))))))) (av (Pr := jZ mg K) (fe (ns := [0, 0, 0, 0]) (W.mg_of X G g0) m0 (show 4 <= sizeLine by decide) (.cons ⟨_, rfl⟩ (.cons ⟨_, rfl⟩ (.cons ⟨_, rfl⟩ (.cons ⟨_, rfl⟩ (.nil)))))) (aw)) bu bt bp bo aW hbl) rT
  have D20 : cg l.prog w K mg base 5 "exact" io := bi F20 Ir (W.mg_of X G a20) b20 (by decide +kernel) (bf (cL D19 (aw)) (av (Pr := jZ mg K) (fe (ns := [0, 0, 0, 0]) (W.mg_of X G g0) m0 (show 4 <= sizeLine by decide) (.cons ⟨_, rfl⟩ (.cons ⟨_, rfl⟩ (.cons ⟨_, rfl⟩ (.cons ⟨_, rfl⟩ (.nil)))))) (aw)) bu bt bp bo aW hbl) uZ
  have D26 : cg l.prog w K mg base 5 "greatest" fR := bi F26 Ik (W.mg_of X G a26) b26 (by decide +kernel) (bf (cL D21 (cL D19 (cL D10 (cL D22 (aw))))) (av (Pr := jZ mg K) (fe (ns := [2, 0, 0, 0]) (W.mg_of X G g1) m1 (show 4 <= sizeLine by decide) (.cons ⟨_, rfl⟩ (.cons ⟨_, rfl⟩ (.cons ⟨_, rfl⟩ (.cons ⟨_, rfl⟩ (.nil)))))) (av (Pr := jZ mg K) (fe (ns := [0, 0, 0, 0]) (W.mg_of X G g0) m0 (show 4 <= sizeLine by decide) (.cons ⟨_, rfl⟩ (.cons ⟨_, rfl⟩ (.cons ⟨_, rfl⟩ (.cons ⟨_, rfl⟩ (.nil)))))) (aw))) bu bt bp bo aW hbl) pe
  have D33 : cg l.prog w K mg base 6 "taken_apart" fG := wb (Bg (pre := (al (ah 33)).take 7) (post := (al (ah 33)).drop 8) F33 Ie (bf (cL D32 (cL D34 (cL D17 (cL D20 (cL D26 (aw)))))) (aw) bu bt bp bo aW hbl) rfl rfl rfl rfl rfl) (W.mg_of X G a33) k33 b33 (by decide +kernel)
  have D41 : cg l.prog w K mg base 1 "_law_bar" kM := bi F41 HX (W.mg_of X G a41) b41 (by decide +kernel) (bf (aw) (aw) bu bt bp bo aW hbl) uY
  exact Bi F47 HQ (bf (cL D36 (cL D46 (cL D45 (cL D33 (cL D41 (aw)))))) (aw) bu bt bp bo aW hbl) yz
theorem walkX {q : Program} {loose : List Str} {XP : (Str -> Option Value) -> Heap -> Prop} {r : W.RowW} {d : DefRec} {kwd : List (Str × Expr)} {run : Value -> List Value -> Sem Value} {K : Params -> W.Frag} {as : List Addr} {n t : Nat}
    (e : ∀ P, as = (K P).map (·.1)) (h : W.WalkO q loose XP (W.InK K) r d kwd run) : W.WalkX q loose XP (W.X.obsZ as) (W.X.valZ K n t) r d kwd run :=
  fun w _ _ mg mb G y a o pm cd doc dV kV h1 h2 h3 h4 h5 h6 args vals as' L =>
    h w _ _ mg mb G (W.InK.keeps w _ _ (W.X.z_facts e y).2.1 L.keeps) a o pm cd doc dV kV h1 h2 h3 h4 h5 h6 args vals as'
theorem walk {l : W.OpenLaw} {q : Program} {loose : List Str} {XP : (Str -> Option Value) -> Heap -> Prop} {YP : World -> Heap -> Prop} {d : DefRec} {K : Params -> W.Frag} (hn : l.most = some 63) (hdf : d.params.defaults = [])
    (hY : ∀ (w : World) (h : Heap), YP w h -> (K w.params).In h)
    (F : ∀ (w : World) (mg : Str -> Option Value) (fa : Addr) (h : Heap), (K w.params).In h -> h.Ns mainGlobals mg -> mg d.name = some (.ref fa) ->
      ∃ fd : FuncData, (∀ (s : Shared) (u : Value), BindsTo s fd ⟨[u], []⟩ [("_law_script", u)]) /\ ∀ base : Heap, (K w.params).In base -> base.Ns mainGlobals mg -> ci l.prog w (K w.params) mg base eT 7 fa fd ["_law_script"] (gX (K w.params) nA)) :
    W.WalkO q loose XP YP l.row.toRowW d [] (fun f vs => PySem.call f vs) :=
  L2.walk_of (n := 63) (k := 7) (x := "_law_script") (CX := fun _ => eT) (sp := fun w => gX (K w.params) nA) hn (by decide) hdf ⟨rfl, by decide, by decide⟩ hY F (fun _ _ a ns hl hO hS => DH hO hS (xF ns hl)) fun _ _ _ _ _ z => z
end K
theorem PySem.W.Fast.tw4995630558578919744 : True := True.intro
theorem PySem.W.Fast.tw18243843827267613974 : True := True.intro
theorem PySem.W.Fast.tw8819316387153400796 : True := True.intro
theorem PySem.W.Fast.tw17872069770856940006 : True := True.intro
theorem PySem.W.Fast.tw4273135175701957416 : True := True.intro
theorem PySem.W.Fast.tw8386889337109006095 : True := True.intro
theorem PySem.W.Fast.tw14750889163932496199 : True := True.intro
theorem PySem.W.Fast.tw342397094219487778 : True := True.intro
theorem PySem.W.Fast.tw7001465592056698526 : True := True.intro
theorem PySem.W.Fast.tw8042746734487895149 : True := True.intro
theorem PySem.W.Fast.tw13578785694190454274 : True := True.intro
theorem PySem.W.Fast.tw3224372208076490342 : True := True.intro
theorem PySem.W.Fast.tw16914936694604853124 : True := True.intro
theorem PySem.W.Fast.tw2362139743522009857 : True := True.intro
theorem PySem.W.Fast.tw8149853437562919394 : True := True.intro
theorem PySem.W.Fast.tw8525687696006123940 : True := True.intro
theorem PySem.W.Fast.tw15259344602592384786 : True := True.intro
theorem PySem.W.Fast.tw17602211379008821801 : True := True.intro
theorem PySem.W.Fast.tw7580075155201208254 : True := True.intro
theorem PySem.W.Fast.tw5845141796968164110 : True := True.intro
theorem PySem.W.Fast.tw11918964593498841915 : True := True.intro
theorem PySem.W.Fast.tw15569202728324836000 : True := True.intro
theorem PySem.W.Fast.tw13071426653661685005 : True := True.intro
theorem PySem.W.Fast.tw12099113180054227129 : True := True.intro
theorem PySem.W.Fast.tw17876085255173968361 : True := True.intro
theorem PySem.W.Fast.tw9581434845657028967 : True := True.intro
theorem PySem.W.Fast.tw5395038602522887057 : True := True.intro
theorem PySem.W.Fast.tw12915095609189354226 : True := True.intro
theorem PySem.W.Fast.tw17621068667199047296 : True := True.intro
theorem PySem.W.Fast.tw805286319604876165 : True := True.intro
theorem PySem.W.Fast.tw14449476415985187923 : True := True.intro
theorem PySem.W.Fast.tw12333609443254237780 : True := True.intro
theorem PySem.W.Fast.tw12510895402005999634 : True := True.intro
theorem PySem.W.Fast.tw4184557706861333288 : True := True.intro
theorem PySem.W.Fast.tw3557411791787315127 : True := True.intro
theorem PySem.W.Fast.tw8171813770348023988 : True := True.intro
theorem PySem.W.Fast.tw8100296080843179401 : True := True.intro
theorem PySem.W.Fast.tw16818597492907606168 : True := True.intro
theorem PySem.W.Fast.tw3664844022907060373 : True := True.intro
theorem PySem.W.Fast.tw13278060365971839297 : True := True.intro
theorem PySem.W.Fast.tw13110735538052913239 : True := True.intro
theorem PySem.W.Fast.tw15137555817909158420 : True := True.intro
theorem PySem.W.Fast.tw14518759422672263331 : True := True.intro
theorem PySem.W.Fast.tw14322623636260056694 : True := True.intro
theorem PySem.W.Fast.tw2836519977787924376 : True := True.intro
theorem PySem.W.Fast.tw10379426227121088449 : True := True.intro
theorem PySem.W.Fast.tw919365354523065311 : True := True.intro
theorem PySem.W.Fast.tw3331158640439133650 : True := True.intro
theorem PySem.W.Fast.tw10526114993592384801 : True := True.intro
theorem PySem.W.Fast.tw8842143532895943011 : True := True.intro
theorem PySem.W.Fast.tw9459279818381463729 : True := True.intro
theorem PySem.W.Fast.tw5883042978430902715 : True := True.intro
theorem PySem.W.Fast.tw6379357429193094251 : True := True.intro
theorem PySem.W.Fast.tw5422049050130035791 : True := True.intro
theorem PySem.W.Fast.tw9457063688485806350 : True := True.intro
theorem PySem.W.Fast.tw17203886775247598602 : True := True.intro
theorem PySem.W.Fast.tw444254069496614694 : True := True.intro
theorem PySem.W.Fast.tw13860167394401621467 : True := True.intro
theorem PySem.W.Fast.tw10544794281158601004 : True := True.intro
open PySem PySem.W PyProof.Rows
set_option maxRecDepth 100000 in
set_option maxHeartbeats 0 in
theorem PySem.Challenge.cw_spaceturns_k25_many_primes_holds : PySem.Challenge.rw_spaceturns_k25_many_primes.Holds := by
  w_on; o_law; z_head; (case hw => w_witness2)
  k_fill
  refine K.walkX (fun _ => rfl) (K.walk (l := PySem.Challenge.rw_spaceturns_k25_many_primes) rfl rfl (fun w h Y => Y) ?F)
  case F =>
    intro w mg fa h KX G hmg
    refine' K.all_mk KX G hmg ?_ ?_ ?_ ?_ ?_ ?_ ?_ ?_ ?_ ?_ ?_ ?_ ?_ ?_ ?_ ?_ ?_ ?_ ?_ ?_ ?_ ?_ ?_ ?_ ?_ ?_ ?_ ?_ ?_ ?_ ?_ ?_ ?_ ?_ ?_ ?_ ?_ ?_ ?_ ?_ ?_ ?_ ?_ ?_ ?_ ?_ ?_ ?_ ?_ ?_ ?_ ?_ ?_ ?_ ?_ ?_ ?_ ?_ ?_ ?_ ?_ ?_ ?_ ?_ ?_ ?_ ?_ ?_ ?_ ?_ ?_ ?_ ?_ ?_ ?_ ?_ ?_ ?_ ?_ ?_ ?_ ?_ ?_ ?_ ?_ ?_ ?_ ?_ ?_ ?_ ?_ ?_ ?_ ?_ ?_ ?_ ?_ ?_ ?_ ?_ ?_ ?_ ?_ ?_ ?_ ?_ ?_ ?_ ?_ ?_ ?_ ?_ ?_ ?_ ?_ ?_ ?_ ?_ ?_ ?_ ?_ ?_ ?_ ?_ ?_ ?_ ?_ ?_ ?_ ?_ ?_ ?_ ?_ ?_ ?_ ?_ ?_ ?_ ?_ ?_ ?_ ?_ ?_ ?_ ?_ ?_ ?_ ?_ ?_ ?_ ?_ ?_ ?_
    all_goals try first | k_is | kernel_rfl
