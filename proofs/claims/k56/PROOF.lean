import PyProof.Rows.All
import Wide.All
import OpenK.AllK
import Wide.FinOn
import Lean
import PyProof.EqAt
import PyProof.EqKinds
import PyProof.TupleCall
import PySem.Challenge.RW_spaceturns_k56_whole_apart_in_any_order
set_option Elab.async false
set_option linter.all false
set_option maxRecDepth 100000
namespace L2
open PySem PySem.Spec PyProof.Rows
abbrev bY := Sum Int Str
def lL : bY -> Value -> Bool
  | .inl k, v => Value.isInt k v
  | .inr x, v => Value.isStrOf x v
def Mu (w : World) : bY -> Int
  | .inl k => hashInt k
  | .inr x => hashStr w x
theorem cN : ∀ {k : bY} {v : Value}, lL k v = true -> (∃ i t, k = Sum.inl i /\ v = Value.int i t) \/ (∃ x t, k = Sum.inr x /\ v = Value.str x t)
  | .inl i, v, h => by
    obtain ⟨t, e⟩ := Value.isInt_shape (k := i) (v := v) h
    exact .inl ⟨i, t, rfl, e⟩
  | .inr x, v, h => by
    obtain ⟨t, e⟩ := Value.isStrOf_shape (x := x) (v := v) h
    exact .inr ⟨x, t, rfl, e⟩
theorem wN (i : Int) (t : Tok) : lL (.inl i) (.int i t) = true := by simp [lL, Value.isInt]
theorem wM (x : Str) (t : Tok) : lL (.inr x) (.str x t) = true := by simp [lL, Value.isStrOf]
theorem Ex (a b : Int) : decide ((Sum.inl a : bY) = Sum.inl b) = (a == b) := by
  by_cases e : a = b
  . subst e; simp
  . have h : ¬ (Sum.inl a : bY) = Sum.inl b := fun q => e (Sum.inl.inj q)
    rw [decide_eq_false h]
    exact (beq_eq_false_iff_ne.mpr e).symm
theorem Eu (a b : Str) : decide ((Sum.inr a : bY) = Sum.inr b) = decide (a = b) := by
  by_cases e : a = b
  . subst e; simp
  . have h : ¬ (Sum.inr a : bY) = Sum.inr b := fun q => e (Sum.inr.inj q)
    rw [decide_eq_false h, decide_eq_false e]
theorem Ew (a : Int) (b : Str) : decide ((Sum.inl a : bY) = Sum.inr b) = false := decide_eq_false (fun q => nomatch q)
theorem Ev (a : Str) (b : Int) : decide ((Sum.inr a : bY) = Sum.inl b) = false := decide_eq_false (fun q => nomatch q)
def fK (prog : Program) (w : World) : PySem.KeyKind prog w bY where
  is := lL
  hash := Mu w
  inj := fun v a b ha hb => by
    rcases cN ha with ⟨i, t, rfl, rfl⟩ | ⟨x, t, rfl, rfl⟩
    . rcases cN hb with ⟨j, u, rfl, e⟩ | ⟨y, u, rfl, e⟩
      . injection e with e1 _; rw [e1]
      . exact nomatch e
    . rcases cN hb with ⟨j, u, rfl, e⟩ | ⟨y, u, rfl, e⟩
      . exact nomatch e
      . injection e with e1 _; rw [e1]
  byValue := fun k v h => by
    rcases cN h with ⟨i, t, rfl, rfl⟩ | ⟨x, t, rfl, rfl⟩ <;> rfl
  pyHash := fun hv h => by
    rcases cN hv with ⟨i, t, rfl, rfl⟩ | ⟨x, t, rfl, rfl⟩
    . exact wpAny_pyHash_int h
    . exact wpAny_pyHash_str h
  eqBool := fun hu hv h => by
    rcases cN hu with ⟨i, t, rfl, rfl⟩ | ⟨x, t, rfl, rfl⟩
    . rcases cN hv with ⟨j, u, rfl, rfl⟩ | ⟨y, u, rfl, rfl⟩
      . rw [Ex] at h; exact wpAny_eqBool_int h
      . rw [Ew] at h; exact SeqAt.EqAt.int_str i t y u _ _ _ _ h
    . rcases cN hv with ⟨j, u, rfl, rfl⟩ | ⟨y, u, rfl, rfl⟩
      . rw [Ev] at h; exact SeqAt.EqAt.str_int x t j u _ _ _ _ h
      . rw [Eu] at h; exact wpAny_eqBool_str h
  «strs» := fun k x t v h => by
    rcases cN h with ⟨i, u, rfl, e⟩ | ⟨y, u, rfl, e⟩
    . exact nomatch e
    . injection e with e1 _
      subst e1
      cases v <;> rfl
theorem tf (prog : Program) (w : World) (i : Int) (t : Tok) : (fK prog w).is (.inl i) (.int i t) = true := wN i t
theorem sZ (prog : Program) (w : World) (x : Str) (t : Tok) : (fK prog w).is (.inr x) (.str x t) = true := wM x t
end L2
namespace L2
open PySem PySem.Spec PyProof.Rows
inductive V where
  | non | bl (b : Bool) | int (i : Int) | str (x : Str) | byt (b : Array UInt8) | flt (b : UInt64) | ref (a : Addr) | ty (n : String)
  deriving DecidableEq
def aW : V -> Value -> Prop
  | .non, u => u = Value.none
  | .bl b, u => u = Value.bool b
  | .int i, u => ∃ t, u = Value.int i t
  | .str x, u => ∃ t, u = Value.str x t
  | .byt b, u => ∃ t, u = Value.bytes b t
  | .flt b, u => ∃ t, u = Value.float b t
  | .ref a, u => u = Value.ref a
  | .ty n, u => u = Value.type n
abbrev aL : List V -> List Value -> Prop := Paired aW
theorem aL.length {xs : List V} {us : List Value} (r : aL xs us) : xs.length = us.length := Paired.length r
theorem aL.get : ∀ {xs : List V} {us : List Value} {i : Nat} {x : V}, aL xs us -> xs[i]? = some x -> ∃ u, us[i]? = some u /\ aW x u
  | _, _, _, _, .nil, e => by simp at e
  | _, _, 0, _, .cons r _, e => by simp at e; subst e; exact ⟨_, rfl, r⟩
  | _, _, i + 1, x, .cons _ t, e => by
    obtain ⟨u, h1, h2⟩ := aL.get (i := i) (x := x) t (by simpa using e)
    exact ⟨u, by simpa using h1, h2⟩
theorem aL.set {x : V} {u : Value} (r : aW x u) : ∀ {xs : List V} {us : List Value} (i : Nat), aL xs us -> aL (xs.set i x) (us.set i u)
  | _, _, _, .nil => .nil
  | _, _, 0, .cons _ t => .cons r t
  | _, _, i + 1, .cons q t => .cons q (aL.set r i t)
theorem aL.append : ∀ {xs ys : List V} {us ws : List Value}, aL xs us -> aL ys ws -> aL (xs ++ ys) (us ++ ws)
  | _, _, _, _, .nil, s => s
  | _, _, _, _, .cons r t, s => .cons r (aL.append t s)
theorem aL.take : ∀ {xs : List V} {us : List Value} (n : Nat), aL xs us -> aL (xs.take n) (us.take n)
  | _, _, 0, _ => .nil
  | _, _, _ + 1, .nil => .nil
  | _, _, n + 1, .cons r t => .cons r (aL.take n t)
theorem aL.drop : ∀ {xs : List V} {us : List Value} (n : Nat), aL xs us -> aL (xs.drop n) (us.drop n)
  | _, _, 0, r => r
  | _, _, _ + 1, .nil => .nil
  | _, _, n + 1, .cons _ t => aL.drop n t
theorem aL.none_of : ∀ {xs : List V} {us : List Value} {i : Nat}, aL xs us -> xs[i]? = none -> us[i]? = none := fun {xs us i} r e => by
  have h1 := r.length
  have h2 : xs.length <= i := List.getElem?_eq_none_iff.mp e
  exact List.getElem?_eq_none_iff.mpr (by omega)
def fb : Option V -> Option Value -> Prop
  | some v, some u => aW v u
  | none, none => True
  | _, _ => False
def KV {κ : Type} : List (κ × V) -> List (κ × Value) -> Prop := Paired fun (p : κ × V) (q : κ × Value) => p.1 = q.1 /\ aW p.2 q.2
def kV : bY -> V
  | .inl i => .int i
  | .inr x => .str x
inductive HO where
    | lst (xs : List V)
    | tup (xs : List V)
    | dK (kvs : List (bY × V)) | dT (kvs : List (List bY × V))
    | set (S : Int -> Bool) (n : Nat)
    | ins (C dx : Addr) (fs : List (Str × V))
    | own (x : Addr)
    | xd (fs : List (Str × V))
    | met (f x : Addr)
    | rng (lo hi : Int)
    | frz (o : Obj) (u : HO)
    | tbl (ps : Array Value)
    | ext (φ : Heap -> Prop)
abbrev Hp := Addr -> Option HO
def bh (H : Hp) (a : Addr) (o : HO) : Hp := fun b => if b = a then some o else H b
theorem aU {H : Hp} {a : Addr} {o : HO} : bh H a o a = some o := by unfold bh; rw [if_pos rfl]
theorem aO {H : Hp} {a b : Addr} {o : HO} (h : b ≠ a) : bh H a o b = H b := by unfold bh; rw [if_neg h]
theorem lD {H : Hp} {a b : Addr} {o u : HO} (h : H a = some o) (h' : H b = some u) (d : o ≠ u) : a ≠ b := by
  intro e; subst e; rw [h] at h'; exact d (Option.some.inj h')
theorem bH {H : Hp} {a b : Addr} {o : HO} (h : H a = some o) (h' : H b = none) : a ≠ b := by
  intro e; subst e; rw [h] at h'; cases h'
section
variable (P : Program) (w : World)
def cg (H : Hp) (h : Heap) (a : Addr) : HO -> Prop
  | .lst xs => xs.length <= sizeLine /\ ∃ (its : List Value) (n : Nat), aL xs its /\ h.get? a = some { cls := .type "list", data := .seq its.toArray n }
  | .tup xs => xs.length <= sizeLine /\ ∃ its : List Value, aL xs its /\ IsTup h a its.toArray
  | .dK kvs => kvs.length <= sizeLine /\ (a == sysModules) = false /\ ∃ vs, KV kvs vs /\ h.DictOf (fK P w) a vs
  | .dT kvs => kvs.length <= sizeLine /\ (a == sysModules) = false /\ ∃ xs : List (List bY × Addr × Value),
      Paired (fun (p : List bY × V) (q : List bY × Addr × Value) => p.1 = q.1 /\ H q.2.1 = some (.tup (p.1.map kV)) /\ aW p.2 q.2.2) kvs xs /\
      ∃ o es ep, h.get? a = some o /\ o.ExactDict /\ o.data = .dict es ep /\ es.toList = xs.map (entryOfKey (tupleKind (fK P w))) /\ (xs.map (·.1)).Nodup
  | .set S n => h.SetOf (intKind P w) a S n
  | .ins C dx fs => H dx = some (.own a) /\ fs.length <= 1000 /\ dx ≠ a /\ h.get? a = some (W.instObj C dx) /\
      ∃ mA, h.Ns1 dx mA /\ (∀ f, fb (fs.lookup f) (mA f)) /\ PySem.Within mA (fs.map (·.1))
  | .own _ => ∃ o, h.get? a = some o
  | .xd fs => ∃ mA, h.Ns1 a mA /\ ∀ f, fb (fs.lookup f) (mA f)
  | .rng lo hi => ∃ t u v, h.get? a = some { cls := .type "range", data := .fields #[.int lo t, .int hi u, .int 1 v] }
  | .frz o u => h.get? a = some o /\ cg H h a u
  | .tbl ps => h.get? a = some { cls := .none, data := .fields ps }
  | .met f x => h.get? a = some (W.methodObj (.ref f) (.ref x))
  | .ext φ => φ h /\ (∃ o, h.get? a = some o) /\ ∀ h1 h2 : Heap, φ h1 -> (∀ o, h1.get? a = some o -> h2.get? a = some o) -> φ h2
def dH (H : Hp) (h : Heap) : Prop := ∀ a o, H a = some o -> cg P w H h a o
end
section
variable {P : Program} {w : World} {H H' : Hp} {h h' : Heap} {a : Addr} {o : HO}
theorem cg.lt (x : cg P w H h a o) : a < h.objs.size := by
  cases o with
  | lst xs => obtain ⟨_, _, _, _, e⟩ := x; exact Heap.lt_size e
  | tup xs => obtain ⟨_, _, _, p⟩ := x; exact p.lt
  | dK kvs => obtain ⟨_, _, _, _, o, _, _, e, _⟩ := x; exact Heap.lt_size e
  | dT kvs => obtain ⟨_, _, _, _, o, _, _, e, _⟩ := x; exact Heap.lt_size e
  | set S n => obtain ⟨o, _, _, _, e, _⟩ := x; exact Heap.lt_size e
  | ins C dx fs => obtain ⟨_, _, _, e, _⟩ := x; exact Heap.lt_size e
  | own y => obtain ⟨_, e⟩ := x; exact Heap.lt_size e
  | xd fs => obtain ⟨_, ⟨_, _, _, e, _⟩, _⟩ := x; exact Heap.lt_size e
  | rng lo hi => obtain ⟨_, _, _, e⟩ := x; exact Heap.lt_size e
  | frz ob u => obtain ⟨e, _⟩ := x; exact Heap.lt_size e
  | tbl ps => exact Heap.lt_size (show h.get? a = some _ from x)
  | met f y => exact Heap.lt_size (show h.get? a = some _ from x)
  | ext φ => obtain ⟨_, ⟨_, e⟩, _⟩ := x; exact Heap.lt_size e
theorem Paired.mapP {α β : Type} {F G : α -> β -> Prop} : ∀ {l₁ : List α} {l₂ : List β}, Paired F l₁ l₂ -> (∀ a b, F a b -> G a b) -> Paired G l₁ l₂
  | _, _, .nil, _ => .nil
  | _, _, .cons r t, f => .cons (f _ _ r) (Paired.mapP t f)
theorem cg.stay (x : cg P w H h a o) (k : ∀ b u, (b = a \/ H b = some (.own a)) -> h.get? b = some u -> h'.get? b = some u)
    (ho : ∀ b, H b = some (.own a) -> H' b = some (.own a)) (ht : ∀ b xs, H b = some (.tup xs) -> H' b = some (.tup xs)) : cg P w H' h' a o := by
  induction o with
  | lst xs => obtain ⟨z, its, n, r, e⟩ := x; exact ⟨z, its, n, r, k _ _ (.inl rfl) e⟩
  | tup xs => obtain ⟨z, its, r, ob, e, c⟩ := x; exact ⟨z, its, r, ob, k _ _ (.inl rfl) e, c⟩
  | dK kvs => obtain ⟨z, y, vs, r, ob, es, ep, e, c⟩ := x; exact ⟨z, y, vs, r, ob, es, ep, k _ _ (.inl rfl) e, c⟩
  | dT kvs =>
    obtain ⟨z, y, xs, r, ob, es, ep, e, c⟩ := x
    exact ⟨z, y, xs, Paired.mapP r fun p q z => ⟨z.1, ht _ _ z.2.1, z.2.2⟩, ob, es, ep, k _ _ (.inl rfl) e, c⟩
  | set S n => obtain ⟨ob, es, ep, t, e, c⟩ := x; exact ⟨ob, es, ep, t, k _ _ (.inl rfl) e, c⟩
  | ins C dx fs =>
    obtain ⟨d, z, ne, e, mA, ⟨od, es, ep, e2, c⟩, r⟩ := x
    exact ⟨ho _ d, z, ne, k _ _ (.inl rfl) e, mA, ⟨od, es, ep, k _ _ (.inr d) e2, c⟩, r⟩
  | own y => obtain ⟨ob, e⟩ := x; exact ⟨ob, k _ _ (.inl rfl) e⟩
  | xd fs => obtain ⟨mA, ⟨od, es, ep, e, c⟩, r⟩ := x; exact ⟨mA, ⟨od, es, ep, k _ _ (.inl rfl) e, c⟩, r⟩
  | rng lo hi => obtain ⟨t, u, v, e⟩ := x; exact ⟨t, u, v, k _ _ (.inl rfl) e⟩
  | frz ob u ih => obtain ⟨e, q⟩ := x; exact ⟨k _ _ (.inl rfl) e, ih q⟩
  | tbl ps =>
    have e : h.get? a = some { cls := .none, data := .fields ps } := x
    show h'.get? a = some { cls := .none, data := .fields ps }
    exact k a _ (.inl rfl) e
  | met f y =>
    have e : h.get? a = some (W.methodObj (.ref f) (.ref y)) := x
    show h'.get? a = some (W.methodObj (.ref f) (.ref y))
    exact k a _ (.inl rfl) e
  | ext φ => obtain ⟨p, ⟨o, e⟩, st⟩ := x; exact ⟨st _ _ p fun o q => k _ _ (.inl rfl) q, ⟨o, k _ _ (.inl rfl) e⟩, st⟩
theorem dH.lt (x : dH P w H h) (e : H a = some o) : a < h.objs.size := (x a o e).lt
theorem dH.fresh (x : dH P w H h) (e : h.objs.size <= a) : H a = none := by
  cases q : H a with
  | none => rfl
  | some u => exact absurd (Nat.lt_of_lt_of_le (x.lt q) e) (Nat.lt_irrefl _)
theorem dH.kept (x : dH P w H h) (k : ∀ b u, h.get? b = some u -> h'.get? b = some u) : dH P w H h' := fun a o e =>
  (x a o e).stay (fun b u _ q => k b u q) (fun _ q => q) fun _ _ q => q
theorem dH.laid (x : dH P w H h) (k : ∀ b u, h.get? b = some u -> h'.get? b = some u) (hp : h.objs.size <= a) (new : cg P w (bh H a o) h' a o) : dH P w (bh H a o) h' := fun b u e => by
  have hn := x.fresh hp
  by_cases hb : b = a
  . subst hb; rw [aU] at e; cases e; exact new
  . rw [aO hb] at e
    exact (x b u e).stay (fun c v _ q => k c v q) (fun c q => by rw [aO (bH q hn)]; exact q) fun c xs q => by rw [aO (bH q hn)]; exact q
end
def Rd (H : Hp) (a : Addr) (u : HO) : Prop := H a = some u \/ ∃ o, H a = some (.frz o u)
theorem Rd.ok {P : Program} {w : World} {H : Hp} {h : Heap} {a : Addr} {u : HO} (r : Rd H a u) (x : dH P w H h) : cg P w H h a u := by
  rcases r with r | ⟨o, r⟩
  . exact x a u r
  . obtain ⟨_, q⟩ := x a _ r
    exact q
def AN : Option HO -> Prop
  | some (.lst _) => True
  | some (.dK _) => True
  | some (.dT _) => True
  | some (.set _ _) => True
  | some (.ins _ _ _) => True
  | some (.ext _) => True
  | _ => False
section
variable {P : Program} {w : World} {H : Hp} {h h' : Heap} {x e : Addr} {o' : HO}
theorem dH.write (ok : dH P w H h) (mu : AN (H x)) (he : e = x \/ H e = some (.own x)) (k : ∀ b u, b ≠ e -> h.get? b = some u -> h'.get? b = some u) (heo : ∃ u, h'.get? e = some u)
    (new : cg P w (bh H x o') h' x o') : dH P w (bh H x o') h' := fun b u q => by
  have nown : ∀ c y, H c = some (.own y) -> c ≠ x := fun c y r z => by subst z; rw [r] at mu; exact mu
  have ntup : ∀ c xs, H c = some (.tup xs) -> c ≠ x := fun c xs r z => by subst z; rw [r] at mu; exact mu
  by_cases hb : b = x
  . subst hb; rw [aU] at q; cases q; exact new
  . rw [aO hb] at q
    by_cases hbe : b = e
    . have q' : H b = some (.own x) := by
        rcases he with z | z
        . exact absurd (hbe.trans z) hb
        . rw [hbe]; exact z
      rw [q] at q'; cases q'
      obtain ⟨v, hv⟩ := heo
      exact ⟨v, by rw [hbe]; exact hv⟩
    . refine (ok b u q).stay (fun c v hc r => k c v ?_ r) (fun c r => by rw [aO (nown c b r)]; exact r) fun c xs r => by rw [aO (ntup c xs r)]; exact r
      rcases hc with rfl | hc
      . exact hbe
      . rintro rfl
        rcases he with z | z
        . exact nown c b hc z
        . rw [hc] at z; cases z; exact hb rfl
end
structure Un (fs ex : List Addr) (H H' : Hp) (h h' : Heap) : Prop where
  keep : ∀ b o, h.get? b = some o -> H b = none -> b ∉ fs -> b ∉ ex -> h'.get? b = some o
  slot : ∀ b o, h.get? b = some o -> H b = none -> b ∈ fs -> b ∉ ex -> ∃ sl, h'.get? b = some { o with slots := sl }
  free : ∀ b o, h.get? b = some o -> H b = none -> b ∉ ex -> H' b = none
  there : ∀ b o, h.get? b = some o -> b ∉ ex -> ∃ o', h'.get? b = some o'
  tups : ∀ b xs, H b = some (.tup xs) -> H' b = some (.tup xs)
  frzs : ∀ b o u, H b = some (.frz o u) -> H' b = some (.frz o u)
  tbls : ∀ b ps, H b = some (.tbl ps) -> ∃ more, H' b = some (.tbl (ps ++ more))
section
variable {fs fs' ex ex' : List Addr} {H H1 H2 : Hp} {h h1 h2 h' : Heap} {a x e : Addr} {o : HO}
theorem Un.any (u : Un fs ex H H1 h h1) {b : Addr} {ob : Obj} (q : h.get? b = some ob) (n : H b = none) (hx : b ∉ ex) : ∃ sl, h1.get? b = some { ob with slots := sl } := by
  by_cases hb : b ∈ fs
  . exact u.slot b ob q n hb hx
  . exact ⟨ob.slots, u.keep b ob q n hb hx⟩
theorem Un.kept (k : ∀ b u, h.get? b = some u -> h'.get? b = some u) : Un fs ex H H h h' :=
  ⟨fun b ob q _ _ _ => k b ob q, fun b ob q _ _ _ => ⟨ob.slots, k b ob q⟩, fun _ _ _ n _ => n, fun b ob q _ => ⟨ob, k b ob q⟩, fun _ _ q => q, fun _ _ _ q => q, fun _ ps q => ⟨#[], by rw [q]; simp⟩⟩
theorem Un.refl : Un fs ex H H h h := Un.kept fun _ _ q => q
theorem Un.laid (k : ∀ b u, h.get? b = some u -> h'.get? b = some u) (hp : h.objs.size <= a) (hn : H a = none) : Un fs ex H (bh H a o) h h' where
  keep := fun b u q _ _ _ => k b u q
  slot := fun b u q _ _ _ => ⟨u.slots, k b u q⟩
  free := fun b u q n _ => by rw [aO (Nat.ne_of_lt (Nat.lt_of_lt_of_le (Heap.lt_size q) hp))]; exact n
  there := fun b u q _ => ⟨u, k b u q⟩
  tups := fun b xs q => by rw [aO (bH q hn)]; exact q
  frzs := fun b u xs q => by rw [aO (bH q hn)]; exact q
  tbls := fun b ps q => ⟨#[], by rw [aO (bH q hn), q]; simp⟩
theorem Un.write (mu : AN (H x)) (he : e = x \/ H e = some (.own x)) (k : ∀ b u, b ≠ e -> h.get? b = some u -> h'.get? b = some u) (heo : ∃ u, h'.get? e = some u) : Un fs ex H (bh H x o) h h' := by
  have hx : ∀ b, H b = none -> b ≠ x := fun b n z => by subst z; rw [n] at mu; exact mu
  have hb : ∀ b, H b = none -> b ≠ e := fun b n z => by
    subst z
    rcases he with r | r
    . exact hx b n r
    . rw [n] at r; cases r
  have hm : ∀ b u, H b = some u -> ¬ AN (some u) -> b ≠ x := fun b u q nm z => by subst z; rw [q] at mu; exact nm mu
  refine ⟨fun b u q n _ _ => k b u (hb b n) q, fun b u q n _ _ => ⟨u.slots, k b u (hb b n) q⟩, fun b u q n _ => by rw [aO (hx b n)]; exact n, fun b u q _ => ?_,
    fun b xs q => by rw [aO (hm b _ q fun z => z)]; exact q, fun b u xs q => by rw [aO (hm b _ q fun z => z)]; exact q, fun b ps q => ⟨#[], by rw [aO (hm b _ q fun z => z), q]; simp⟩⟩
  by_cases hbe : b = e
  . subst hbe; exact heo
  . exact ⟨u, k b u hbe q⟩
end
def zO (h : Heap) (H : Hp) : List Addr := (List.range h.objs.size).filter fun a => (H a).isSome
def jq (h : Heap) (H : Hp) : Heap := W.hideAll h (zO h H)
theorem wU (h : Heap) (H : Hp) : (jq h H).objs.size = h.objs.size := W.hideAll_size _ _
theorem yQ {h : Heap} {H : Hp} {b : Addr} {o : Obj} (e : h.get? b = some o) (n : H b = none) : (jq h H).get? b = some o :=
  W.hideAll_get _ e fun hm => by
    have q : (H b).isSome = true := (List.mem_filter.mp hm).2
    rw [n] at q; simp at q
theorem BI {h : Heap} {H : Hp} {b : Addr} {o : Obj} (e : (jq h H).get? b = some o) : h.get? b = some o /\ H b = none := by
  have e' : h.get? b = some o := W.of_hideAll (zO h H) e
  refine ⟨e', ?_⟩
  cases q : H b with
  | none => rfl
  | some x =>
    have hm : b ∈ zO h H := List.mem_filter.mpr ⟨List.mem_range.mpr (Heap.lt_size e'), by simp [q]⟩
    have z : (jq h H).get? b = none := W.hideAll_none (zO h H) hm
    rw [z] at e; cases e
def CM (g h : Heap) (L : Addr) : List (Addr × Obj) := (List.range h.objs.size).filterMap fun a => if a = L \/ (g.get? a).isSome = true then none else (h.get? a).map fun o => (a, o)
def rest (g h : Heap) (L d : Addr) : List (Addr × Obj) := (CM g h L).filter fun p => decide (p.1 ≠ d)
end L2
namespace L2
open PySem PySem.Spec PyProof.Rows
structure Mod (K : W.Frag) (mg : Str -> Option Value) (base : Heap) : Prop where
  kin : K.In base
  glob : base.Ns mainGlobals mg
  blt : ∃ mb, base.Ns builtinsNs mb /\ ∀ x : Str, x ≠ "__name__" -> mb x = bootBuiltins x
  nolimit : base.NoLimit
structure Cx where
  prog : Program
  w : World
  K : W.Frag
  mg : Str -> Option Value
  base : Heap
  A : Around
  N : List Str
  s₀ : Shared
  H₀ : Hp
  env : Env
  outer : List Env
  stack : List Env
  ex : List Addr
  fn : Str -> Bool
  calm : Bool
  pn : List (Addr × Obj)
  xe : Value -> Shared -> Prop
def i6 (l : List Env) : List Addr := l.filterMap (·.frame)
abbrev Cx.fs (X : Cx) : List Addr := i6 X.outer
def jH (sc : Scope) (x : Str) : Prop := sc.names.lookup x = some .local \/ sc.names.lookup x = some .cell \/ sc.names.lookup x = some .free
def sV (sc : Scope) (x : Str) : Prop := sc.names.lookup x = some .local \/ sc.names.lookup x = some .cell
def Pl (env : Env) (h : Heap) (m : Str -> Option Value) (x : Str) (u : Value) : Prop :=
  (env.kindOf x = some .local /\ m x = some u) \/ ((env.kindOf x = some .cell \/ env.kindOf x = some .free) /\ ∃ c, env.cells.lookup x = some c /\ h.IsCell c (some u))
structure Cx.Ok (X : Cx) : Prop where
  mod : Mod X.K X.mg X.base
  kind : X.env.scope.kind = .function
  glob : X.env.globals = mainGlobals
  blt : X.env.builtins = builtinsNs
  above : X.s₀.heap.objs.size <= X.env.locals
  inj : ∀ x y c, X.env.cells.lookup x = some c -> X.env.cells.lookup y = some c -> x = y
  has : ∀ x, (X.env.kindOf x = some .cell \/ X.env.kindOf x = some .free) -> ∃ c, X.env.cells.lookup x = some c
  cab : ∀ x c, X.fn x = true -> X.env.cells.lookup x = some c -> X.s₀.heap.objs.size <= c
  hd : X.calm = true -> X.A.handled = none
  frames : X.A.frames = some X.stack
  stk : X.stack = X.outer \/ (X.stack = X.env :: X.outer /\ X.env.frame = some X.env.locals)
  exf : ∀ b ∈ X.ex, b ≠ X.env.locals /\ ∀ x c, X.env.cells.lookup x = some c -> c ≠ b
  bs : ∀ b o, X.base.get? b = some o -> X.s₀.heap.get? b = some o /\ X.H₀ b = none
  bsz : X.base.objs.size <= X.s₀.heap.objs.size
  noex : ∀ b o, X.base.get? b = some o -> b ∉ X.ex
  exfs : ∀ b ∈ X.ex, b ∉ X.fs
  funs : X.s₀.heap.FunFrames X.base X.outer
  frf : ∀ b ∈ X.fs, X.H₀ b = none
structure ak (X : Cx) (pins : List (Addr × Obj)) (σ : List (Option V)) (H : Hp) (s : Shared) : Prop where
  ok : X.Ok
  os : s.os = X.s₀.os
  bare : AllBare s.gens
  base : Un X.fs X.ex X.H₀ H X.s₀.heap s.heap
  loc : ∃ m, s.heap.Ns X.env.locals m /\ ∀ (i : Nat) (x : Str) (v : V), X.N[i]? = some x -> σ[i]? = some (some v) -> jH X.env.scope x -> ∃ u, aW v u /\ Pl X.env s.heap m x u
  cell : ∀ x c, X.env.cells.lookup x = some c -> ∃ v, s.heap.IsCell c v
  free : H X.env.locals = none
  freeC : ∀ x c, X.env.cells.lookup x = some c -> H c = none
  pin : ∀ p ∈ X.pn ++ pins, s.heap.get? p.1 = some p.2 /\ H p.1 = none /\ p.1 ≠ X.env.locals /\ p.1 ∉ X.fs /\ ∀ v, p.2.data ≠ .cell v
  hok : dH X.prog X.w H s.heap
  len : σ.length = X.N.length
section
variable {X : Cx} {pins : List (Addr × Obj)} {σ : List (Option V)} {H H' : Hp} {s : Shared} {h' : Heap}
theorem Cx.Ok.nofr (ok : X.Ok) {b : Addr} {o : Obj} (e : X.base.get? b = some o) : b ∉ X.fs := fun hb => by
  have := (ok.funs.mem hb).1
  rw [e] at this; cases this
theorem ak.bs (I : ak X pins σ H s) : ∀ b o, X.base.get? b = some o -> s.heap.get? b = some o /\ H b = none := fun b o e =>
  ⟨I.base.keep b o (I.ok.bs b o e).1 (I.ok.bs b o e).2 (I.ok.nofr e) (I.ok.noex b o e), I.base.free b o (I.ok.bs b o e).1 (I.ok.bs b o e).2 (I.ok.noex b o e)⟩
theorem ak.bk (I : ak X pins σ H s) : ∀ b o, X.base.get? b = some o -> s.heap.get? b = some o := fun b o e => (I.bs b o e).1
theorem ak.mod (I : ak X pins σ H s) : Mod X.K X.mg X.base := I.ok.mod
theorem ak.kIn (I : ak X pins σ H s) : X.K.In s.heap := I.ok.mod.kin.keeps I.bk
theorem ak.nolimit (I : ak X pins σ H s) : s.heap.NoLimit := I.ok.mod.nolimit.keeps I.bk
theorem ak.lt (I : ak X pins σ H s) : X.env.locals < s.heap.objs.size := let ⟨_, hn, _⟩ := I.loc; hn.lt
theorem ak.sz (I : ak X pins σ H s) : X.s₀.heap.objs.size <= s.heap.objs.size := Nat.le_trans I.ok.above (Nat.le_of_lt I.lt)
theorem ak.nofs (I : ak X pins σ H s) {a : Addr} (h : s.heap.objs.size <= a) : a ∉ X.fs := fun hb => by
  obtain ⟨_, o, ho, _⟩ := I.ok.funs.mem hb
  exact absurd (Nat.lt_of_lt_of_le (Heap.lt_size ho) (Nat.le_trans I.sz h)) (Nat.lt_irrefl _)
theorem ak.cne (I : ak X pins σ H s) : ∀ x c, X.env.cells.lookup x = some c -> c ≠ X.env.locals := fun x c e z => by
  obtain ⟨v, o, ho, hd⟩ := I.cell x c e
  obtain ⟨m, ⟨o', es, ep, ho', hd', _⟩, _⟩ := I.loc
  rw [z, ho'] at ho; cases ho; rw [hd'] at hd; cases hd
theorem ak.funs (I : ak X pins σ H s) : s.heap.FunFrames X.base X.outer := by
  have all : ∀ (l : List Env), (∀ b ∈ i6 l, b ∈ X.fs) -> X.s₀.heap.FunFrames X.base l -> s.heap.FunFrames X.base l := by
    intro l
    induction l with
    | nil => intro _ _; trivial
    | cons env r ih =>
      intro hs hl
      obtain ⟨hk, ⟨L, o, hf, hn, ho, hd⟩, hr⟩ := hl
      have hL : L ∈ X.fs := hs L (by unfold i6; rw [List.filterMap_cons, hf]; exact List.mem_cons_self)
      obtain ⟨sl, e⟩ := I.base.slot L o ho (I.ok.frf L hL) hL fun z => I.ok.exfs L z hL
      exact ⟨hk, ⟨L, _, hf, hn, e, hd⟩, ih (fun b hb => hs b (by unfold i6; rw [List.filterMap_cons, hf]; exact List.mem_cons_of_mem _ hb)) hr⟩
  exact all X.outer (fun _ hb => hb) I.ok.funs
theorem ak.stack (I : ak X pins σ H s) : s.heap.FunFrames X.base X.stack := by
  rcases I.ok.stk with e | ⟨e, hf⟩
  . rw [e]; exact I.funs
  . rw [e]
    obtain ⟨m, hn, _⟩ := I.loc
    refine .cons (by rw [I.ok.kind]; decide) hf hn ?_ I.funs
    exact Heap.get?_none_of_le (Nat.le_trans I.ok.bsz I.ok.above)
theorem ak.stkSub (I : ak X pins σ H s) : ∀ b ∈ i6 X.stack, b ∈ X.env.locals :: X.fs := fun b hb => by
  rcases I.ok.stk with e | ⟨e, hf⟩
  . rw [e] at hb; exact List.mem_cons_of_mem _ hb
  . rw [e] at hb
    unfold i6 at hb
    rw [List.filterMap_cons, hf] at hb
    exact hb
theorem ak.stkFree (I : ak X pins σ H s) : ∀ b ∈ i6 X.stack, H b = none := fun b hb => by
  rcases List.mem_cons.mp (I.stkSub b hb) with e | hb
  . rw [e]; exact I.free
  . obtain ⟨_, o, ho, _⟩ := I.ok.funs.mem hb
    exact I.base.free b o ho (I.ok.frf b hb) fun z => I.ok.exfs b z hb
theorem ak.step {g' : Array GenState} {t' : Nat} {d' : Drawn} {ch : List Addr} (I : ak X pins σ H s)
    (hch : ∀ b ∈ ch, (b ∈ X.ex \/ X.s₀.heap.objs.size <= b) /\ b ≠ X.env.locals /\ (∀ x c, X.env.cells.lookup x = some c -> c ≠ b) /\ ∀ p ∈ X.pn ++ pins, p.1 ≠ b)
    (keep : ∀ b o, b ≠ X.env.locals -> b ∉ X.fs -> b ∉ ch -> s.heap.get? b = some o -> H b = none -> h'.get? b = some o)
    (slot : ∀ b o, b ≠ X.env.locals -> b ∈ X.fs -> b ∉ ch -> s.heap.get? b = some o -> H b = none -> ∃ sl, h'.get? b = some { o with slots := sl }) (free : ∀ b o, b ∉ ch -> s.heap.get? b = some o -> H b = none -> H' b = none)
    (there : ∀ b o, b ∉ ch -> s.heap.get? b = some o -> ∃ o', h'.get? b = some o')
    (tups : ∀ b xs, H b = some (.tup xs) -> H' b = some (.tup xs)) (frzs : ∀ b o u, H b = some (.frz o u) -> H' b = some (.frz o u)) (tbls : ∀ b ps, H b = some (.tbl ps) -> ∃ more, H' b = some (.tbl (ps ++ more)))
    (ns : ∀ m, s.heap.Ns X.env.locals m -> h'.Ns X.env.locals m) (hok : dH X.prog X.w H' h') (hg : AllBare g') :
    ak X pins σ H' { s with heap := h', gens := g', drawn := d', toks := t' } := by
  have neL : ∀ b o, X.s₀.heap.get? b = some o -> b ≠ X.env.locals := fun b o e => Nat.ne_of_lt (Nat.lt_of_lt_of_le (Heap.lt_size e) I.ok.above)
  have neC : ∀ b o, X.s₀.heap.get? b = some o -> b ∉ X.ex -> b ∉ ch := fun b o e hx hb => by
    rcases (hch b hb).1 with z | z
    . exact hx z
    . exact absurd (Nat.lt_of_lt_of_le (Heap.lt_size e) z) (Nat.lt_irrefl _)
  have cellK : ∀ x c, X.env.cells.lookup x = some c -> ∀ v, s.heap.IsCell c v -> h'.IsCell c v := fun x c e v ⟨o, ho, hd⟩ => by
    have nch : c ∉ ch := fun z => (hch c z).2.2.1 x c e rfl
    by_cases hc : c ∈ X.fs
    . obtain ⟨sl, q⟩ := slot c o (I.cne x c e) hc nch ho (I.freeC x c e)
      exact ⟨_, q, hd⟩
    . exact ⟨o, keep c o (I.cne x c e) hc nch ho (I.freeC x c e), hd⟩
  refine ⟨I.ok, I.os, hg, ⟨fun b o e n hb hx => ?_, fun b o e n hb hx => ?_, fun b o e n hx => ?_, fun b o e hx => ?_, fun b xs e => tups b xs (I.base.tups b xs e), fun b o xs e => frzs b o xs (I.base.frzs b o xs e), fun b ps e => ?_⟩, ?_, fun x c e => ?_, ?_, fun x c e => ?_, fun p hp => ?_, hok, I.len⟩
  . exact keep b o (neL b o e) hb (neC b o e hx) (I.base.keep b o e n hb hx) (I.base.free b o e n hx)
  . obtain ⟨sl, e1⟩ := I.base.slot b o e n hb hx
    obtain ⟨sl', e2⟩ := slot b _ (neL b o e) hb (neC b o e hx) e1 (I.base.free b o e n hx)
    exact ⟨sl', e2⟩
  . obtain ⟨o', e1⟩ := I.base.there b o e hx
    exact free b o' (neC b o e hx) e1 (I.base.free b o e n hx)
  . obtain ⟨o', e1⟩ := I.base.there b o e hx
    exact there b o' (neC b o e hx) e1
  . obtain ⟨m1, e1⟩ := I.base.tbls b ps e
    obtain ⟨m2, e2⟩ := tbls b _ e1
    exact ⟨m1 ++ m2, by rw [e2, Array.append_assoc]⟩
  . obtain ⟨m, hn, hl⟩ := I.loc
    refine ⟨m, ns m hn, fun i x v e1 e2 e3 => ?_⟩
    obtain ⟨u, r, l⟩ := hl i x v e1 e2 e3
    refine ⟨u, r, ?_⟩
    rcases l with l | ⟨k, c, e, z⟩
    . exact .inl l
    . exact .inr ⟨k, c, e, cellK x c e _ z⟩
  . obtain ⟨v, z⟩ := I.cell x c e
    exact ⟨v, cellK x c e v z⟩
  . obtain ⟨m, ⟨o, _, _, ho, _⟩, _⟩ := I.loc
    exact free _ o (fun z => (hch _ z).2.1 rfl) ho I.free
  . obtain ⟨v, o, ho, hd⟩ := I.cell x c e
    exact free c o (fun z => (hch c z).2.2.1 x c e rfl) ho (I.freeC x c e)
  . obtain ⟨e, n, ne, nf, d⟩ := I.pin p hp
    have nch : p.1 ∉ ch := fun z => (hch p.1 z).2.2.2 p hp rfl
    exact ⟨keep p.1 p.2 ne nf nch e n, free p.1 p.2 nch e n, ne, nf, d⟩
theorem ak.un {t' : Nat} (I : ak X pins σ H s) (u : Un X.fs [] H H' s.heap h') (hok : dH X.prog X.w H' h') : ak X pins σ H' { s with heap := h', toks := t' } := by
  obtain ⟨m, ⟨o, es, ep, ho, r⟩, _⟩ := id I.loc
  obtain ⟨sl, hL⟩ := u.any ho I.free (by simp)
  exact I.step (g' := s.gens) (d' := s.drawn) (ch := []) (fun _ z => nomatch z) (fun b o _ hb _ e n => u.keep b o e n hb (by simp)) (fun b o _ hb _ e n => u.slot b o e n hb (by simp)) (fun b o _ e n => u.free b o e n (by simp)) (fun b o _ e => u.there b o e (by simp)) u.tups u.frzs u.tbls (fun m' hm => by
    obtain ⟨o', es', ep', ho', r'⟩ := hm
    rw [ho] at ho'; cases ho'
    exact ⟨_, es', ep', hL, r'⟩) hok I.bare
theorem ak.call {g' : Array GenState} {t' : Nat} {d' : Drawn} {ch : List Addr} (I : ak X pins σ H s) (u : Un (i6 X.stack) ch H H' s.heap h') (hok : dH X.prog X.w H' h') (hg : AllBare g')
    (hch : ∀ b ∈ ch, (b ∈ X.ex \/ X.s₀.heap.objs.size <= b) /\ b ≠ X.env.locals /\ (∀ x c, X.env.cells.lookup x = some c -> c ≠ b) /\ ∀ p ∈ X.pn ++ pins, p.1 ≠ b) :
    ak X pins σ H' { s with heap := h', gens := g', drawn := d', toks := t' } := by
  obtain ⟨m, ⟨o, es, ep, ho, r⟩, _⟩ := id I.loc
  obtain ⟨sl, hL⟩ := u.any ho I.free fun z => (hch _ z).2.1 rfl
  exact I.step (ch := ch) hch (fun b o hL hb hc e n => u.keep b o e n (fun z => (List.mem_cons.mp (I.stkSub b z)).elim hL hb) hc) (fun b o _ _ hc e n => u.any e n hc) (fun b o hc e n => u.free b o e n hc) (fun b o hc e => u.there b o e hc) u.tups u.frzs u.tbls (fun m' hm => by
    obtain ⟨o', es', ep', ho', r'⟩ := hm
    rw [ho] at ho'; cases ho'
    exact ⟨_, es', ep', hL, r'⟩) hok hg
theorem ak.turned {t' : Nat} {it : Addr} (I : ak X pins σ H s) (k : ∀ b o, b ≠ it -> s.heap.get? b = some o -> h'.get? b = some o) (hn : H it = none) (hL : it ≠ X.env.locals)
    (h1 : it ∈ X.ex \/ X.s₀.heap.objs.size <= it) (h2 : ∀ x c, X.env.cells.lookup x = some c -> c ≠ it) (h3 : ∀ p ∈ X.pn ++ pins, p.1 ≠ it) : ak X pins σ H { s with heap := h', toks := t' } := by
  have nit : ∀ b u, H b = some u -> b ≠ it := fun b u e z => by rw [z, hn] at e; cases e
  refine I.step (g' := s.gens) (d' := s.drawn) (ch := [it]) (fun b hb => ?_) (fun b o _ _ hc e _ => k b o (fun z => hc (by simp [z])) e) (fun b o _ _ hc e _ => ⟨o.slots, k b o (fun z => hc (by simp [z])) e⟩) (fun _ _ _ _ n => n)
    (fun b o hc e => ⟨o, k b o (fun z => hc (by simp [z])) e⟩) (fun _ _ e => e) (fun _ _ _ e => e) (fun b ps e => ⟨#[], by rw [e]; simp⟩) (fun m hm => ?_) (fun b u e => ?_) I.bare
  . have e : b = it := by simpa using hb
    subst e
    exact ⟨h1, hL, h2, h3⟩
  . obtain ⟨o, es, ep, ho, r⟩ := hm
    exact ⟨o, es, ep, k _ o (Ne.symm hL) ho, r⟩
  . refine (I.hok b u e).stay (fun c v hc q => k c v ?_ q) (fun _ q => q) fun _ _ q => q
    rcases hc with z | z
    . rw [z]; exact nit b u e
    . exact nit c _ z
theorem ak.tok (I : ak X pins σ H s) (t : Nat) : ak X pins σ H { s with toks := t } := I.un (h' := s.heap) (t' := t) Un.refl I.hok
theorem ak.kept {t' : Nat} (I : ak X pins σ H s) (k : ∀ b u, s.heap.get? b = some u -> h'.get? b = some u) : ak X pins σ H { s with heap := h', toks := t' } := I.un (Un.kept k) (I.hok.kept k)
theorem ak.laid {a : Addr} {o : HO} {t' : Nat} (I : ak X pins σ H s) (k : ∀ b u, s.heap.get? b = some u -> h'.get? b = some u) (hp : s.heap.objs.size <= a) (new : cg X.prog X.w (bh H a o) h' a o) :
    ak X pins σ (bh H a o) { s with heap := h', toks := t' } := I.un (Un.laid k hp (I.hok.fresh hp)) (I.hok.laid k hp new)
theorem ak.write {x e : Addr} {o : HO} {t' : Nat} (I : ak X pins σ H s) (mu : AN (H x)) (he : e = x \/ H e = some (.own x)) (k : ∀ b u, b ≠ e -> s.heap.get? b = some u -> h'.get? b = some u) (heo : ∃ u, h'.get? e = some u)
    (new : cg X.prog X.w (bh H x o) h' x o) : ak X pins σ (bh H x o) { s with heap := h', toks := t' } := I.un (Un.write mu he k heo) (I.hok.write mu he k heo new)
theorem ak.pins_of {pins' : List (Addr × Obj)} (I : ak X pins σ H s) (h : ∀ p ∈ pins', s.heap.get? p.1 = some p.2 /\ H p.1 = none /\ p.1 ≠ X.env.locals /\ p.1 ∉ X.fs /\ ∀ v, p.2.data ≠ .cell v) : ak X pins' σ H s :=
  ⟨I.ok, I.os, I.bare, I.base, I.loc, I.cell, I.free, I.freeC, fun p hp => (List.mem_append.mp hp).elim (fun z => I.pin p (List.mem_append_left _ z)) (h p), I.hok, I.len⟩
theorem jn {N : List Str} (hN : N.Nodup) {i j : Nat} {x : Str} (a : N[i]? = some x) (b : N[j]? = some x) : i = j := by
  obtain ⟨h1, e1⟩ := List.getElem?_eq_some_iff.mp a
  obtain ⟨h2, e2⟩ := List.getElem?_eq_some_iff.mp b
  exact (List.getElem_inj hN).mp (e1.trans e2.symm)
theorem v4 {M : Model} {A : Around} {E : Value -> Shared -> Prop} {i : Nat} {x : Str} {v : V} {u : Value} {Q : Unit -> Shared -> Prop} (I : ak X pins σ H s) (hN : X.N.Nodup) (hi : X.N[i]? = some x) (hx : sV X.env.scope x) (r : aW v u)
    (h : ∀ s', ak X pins (σ.set i (some v)) H s' -> (∃ a, Heap.SameBut a s.heap s'.heap /\ (a = X.env.locals \/ X.env.cells.lookup x = some a)) -> Q () s') (hf : X.fn x = true \/ X.env.scope.names.lookup x = some .local := by first | exact .inl rfl | exact .inr rfl | assumption) : wpAny M A (storeName X.env x u) Q E s := by
  obtain ⟨m, hn, hl⟩ := id I.loc
  have hcls : (X.env.scope.kind == .class || (X.env.scope.kind == .module && X.env.locals != X.env.globals)) = false := by rw [I.ok.kind]; rfl
  have hiσ : i < σ.length := by rw [I.len]; exact (List.getElem?_eq_some_iff.mp hi).1
  have cne := I.cne
  have tracked : ∀ {a : Addr} {h' : Heap}, (∃ o, s.heap.get? a = some o /\ H a = none) -> Heap.SameBut a s.heap h' -> dH X.prog X.w H h' := fun {a h'} ha hs b ob e => by
    obtain ⟨_, _, hfree⟩ := ha
    refine (I.hok b ob e).stay (fun c w' hc q => (hs.2 c ?_).trans q) (fun _ q => q) fun _ _ q => q
    rintro rfl
    rcases hc with rfl | hc
    . rw [hfree] at e; cases e
    . rw [hfree] at hc; cases hc
  rcases hx with hk | hk
  . refine wpAny_storeName_local hk hn (fun h' hn' hs => ?_) hcls
    obtain ⟨oL, _, _, hoL, _⟩ := id hn
    refine h _ ⟨I.ok, I.os, I.bare, ⟨fun b o e n hb hx => ?_, fun b o e n hb hx => ?_, I.base.free, fun b o e hx => ?_, I.base.tups, I.base.frzs, I.base.tbls⟩, ⟨_, hn', fun j y v' e1 e2 e3 => ?_⟩, fun y c e => ?_, I.free, I.freeC, fun p hp => ?_, tracked ⟨oL, hoL, I.free⟩ hs, by simpa using I.len⟩ ⟨_, hs, .inl rfl⟩
    . exact (hs.2 b (Nat.ne_of_lt (Nat.lt_of_lt_of_le (Heap.lt_size e) I.ok.above))).trans (I.base.keep b o e n hb hx)
    . obtain ⟨sl, e1⟩ := I.base.slot b o e n hb hx
      exact ⟨sl, (hs.2 b (Nat.ne_of_lt (Nat.lt_of_lt_of_le (Heap.lt_size e) I.ok.above))).trans e1⟩
    . obtain ⟨o', e1⟩ := I.base.there b o e hx
      exact ⟨o', (hs.2 b (Nat.ne_of_lt (Nat.lt_of_lt_of_le (Heap.lt_size e) I.ok.above))).trans e1⟩
    . by_cases hj : j = i
      . subst hj
        rw [hi] at e1; cases e1
        rw [List.getElem?_set_self hiσ] at e2
        cases e2
        exact ⟨u, r, .inl ⟨hk, by simp⟩⟩
      . rw [List.getElem?_set_ne (Ne.symm hj)] at e2
        obtain ⟨u', r', q⟩ := hl j y v' e1 e2 e3
        refine ⟨u', r', ?_⟩
        rcases q with ⟨k, e⟩ | ⟨k, c, e, z⟩
        . refine .inl ⟨k, ?_⟩
          have : y ≠ x := fun e => hj (jn hN e1 (e ▸ hi))
          simp [this, e]
        . exact .inr ⟨k, c, e, z.sameBut hs (cne y c e)⟩
    . obtain ⟨w', z⟩ := I.cell y c e
      exact ⟨w', z.sameBut hs (cne y c e)⟩
    . obtain ⟨e, n, ne, nf, d⟩ := I.pin p hp
      exact ⟨(hs.2 p.1 ne).trans e, n, ne, nf, d⟩
  . have hfn : X.fn x = true := by
      rcases hf with z | z
      . exact z
      . rw [z] at hk; cases hk
    obtain ⟨c, hc⟩ := I.ok.has x (.inl hk)
    obtain ⟨w', z⟩ := I.cell x c hc
    refine wpAny_storeName_cell I.ok.kind hk hc z (fun h' hc' hs => ?_)
    obtain ⟨oc, hoc, hocd⟩ := id z
    refine h { s with heap := h' } ⟨I.ok, I.os, I.bare, ⟨fun b o e n hb hx => ?_, fun b o e n hb hx => ?_, I.base.free, fun b o e hx => ?_, I.base.tups, I.base.frzs, I.base.tbls⟩, ⟨m, hn.sameBut hs (Ne.symm (cne x c hc)), fun j y v' e1 e2 e3 => ?_⟩, fun y c' e => ?_, I.free, I.freeC, fun p hp => ?_, tracked ⟨oc, hoc, I.freeC x c hc⟩ hs, by simpa using I.len⟩ ⟨c, hs, .inr hc⟩
    . exact (hs.2 b (Nat.ne_of_lt (Nat.lt_of_lt_of_le (Heap.lt_size e) (I.ok.cab x c hfn hc)))).trans (I.base.keep b o e n hb hx)
    . obtain ⟨sl, e1⟩ := I.base.slot b o e n hb hx
      exact ⟨sl, (hs.2 b (Nat.ne_of_lt (Nat.lt_of_lt_of_le (Heap.lt_size e) (I.ok.cab x c hfn hc)))).trans e1⟩
    . obtain ⟨o', e1⟩ := I.base.there b o e hx
      exact ⟨o', (hs.2 b (Nat.ne_of_lt (Nat.lt_of_lt_of_le (Heap.lt_size e) (I.ok.cab x c hfn hc)))).trans e1⟩
    . by_cases hj : j = i
      . subst hj
        rw [hi] at e1; cases e1
        rw [List.getElem?_set_self hiσ] at e2
        cases e2
        exact ⟨u, r, .inr ⟨.inl hk, c, hc, hc'⟩⟩
      . rw [List.getElem?_set_ne (Ne.symm hj)] at e2
        obtain ⟨u', r', q⟩ := hl j y v' e1 e2 e3
        refine ⟨u', r', ?_⟩
        rcases q with q | ⟨k, c', e, z'⟩
        . exact .inl q
        . refine .inr ⟨k, c', e, z'.sameBut hs ?_⟩
          rintro rfl
          exact hj (jn hN e1 (I.ok.inj _ _ _ e hc ▸ hi))
    . by_cases hcc : c' = c
      . subst hcc; exact ⟨_, hc'⟩
      . obtain ⟨w2, z2⟩ := I.cell y c' e
        exact ⟨w2, z2.sameBut hs hcc⟩
    . obtain ⟨e, n, ne, nf, d⟩ := I.pin p hp
      refine ⟨(hs.2 p.1 ?_).trans e, n, ne, nf, d⟩
      intro q
      rw [q, hoc] at e
      have q' : oc = p.2 := Option.some.inj e
      exact d w' (by rw [<- q']; exact hocd)
theorem gW {M : Model} {A : Around} {E : Value -> Shared -> Prop} {i : Nat} {x : Str} {v : V} {u : Value} {Q : Unit -> Shared -> Prop} (I : ak X pins σ H s) (hN : X.N.Nodup) (hi : X.N[i]? = some x) (hx : sV X.env.scope x) (r : aW v u)
    (h : ∀ s', ak X pins (σ.set i (some v)) H s' -> Q () s') (hf : X.fn x = true \/ X.env.scope.names.lookup x = some .local := by first | exact .inl rfl | exact .inr rfl | assumption) : wpAny M A (storeName X.env x u) Q E s :=
  v4 I hN hi hx r (fun s' I' _ => h s' I') hf
theorem ak.call' {s' : Shared} {ch : List Addr} (I : ak X pins σ H s) (ho : s'.os = s.os) (u : Un (i6 X.stack) ch H H' s.heap s'.heap) (hok : dH X.prog X.w H' s'.heap) (hg : AllBare s'.gens)
    (hch : ∀ b ∈ ch, (b ∈ X.ex \/ X.s₀.heap.objs.size <= b) /\ b ≠ X.env.locals /\ (∀ x c, X.env.cells.lookup x = some c -> c ≠ b) /\ ∀ p ∈ X.pn ++ pins, p.1 ≠ b) : ak X pins σ H' s' := by
  obtain ⟨h', g', d', t', o'⟩ := s'
  have e : o' = s.os := ho
  subst e
  exact I.call (g' := g') (t' := t') (d' := d') u hok hg hch
end
abbrev XK := Value -> Option Addr -> Hp -> Prop
abbrev St := List (Option V)
abbrev VK := V -> Hp -> Prop
abbrev TE := St -> Hp -> VK -> Prop
abbrev TT := St -> Hp -> (Bool -> Hp -> Prop) -> Prop
abbrev TA := St -> Hp -> (List V -> Hp -> Prop) -> Prop
structure k7 where
  nx : St -> Hp -> Prop
  rt : VK
  bk : St -> Hp -> Prop := fun _ _ => False
  ct : St -> Hp -> Prop := fun _ _ => False
abbrev TS := k7 -> St -> Hp -> Prop
def EP (X : Cx) (pins : List (Addr × Obj)) (σ : St) (Q : VK) (u : Value) (s' : Shared) : Prop := ∃ v H', ak X pins σ H' s' /\ aW v u /\ Q v H'
def TP (X : Cx) (pins : List (Addr × Obj)) (σ : St) (Q : Bool -> Hp -> Prop) (b : Bool) (s' : Shared) : Prop := ∃ H', ak X pins σ H' s' /\ Q b H'
def AP (X : Cx) (pins : List (Addr × Obj)) (σ : St) (Q : List V -> Hp -> Prop) (us : List Value) (s' : Shared) : Prop := ∃ vs H', ak X pins σ H' s' /\ aL vs us /\ Q vs H'
def SP (X : Cx) (pins : List (Addr × Obj)) (D : k7) (f : Flow) (s' : Shared) : Prop :=
  match f with
  | .next => ∃ σ' H', ak X pins σ' H' s' /\ D.nx σ' H'
  | .brk => ∃ σ' H', ak X pins σ' H' s' /\ D.bk σ' H'
  | .cont => ∃ σ' H', ak X pins σ' H' s' /\ D.ct σ' H'
  | .ret u => ∃ v σ' H', ak X pins σ' H' s' /\ aW v u /\ D.rt v H'
def PE (X : Cx) (e : Expr) (t : TE) : Prop :=
  ∀ (pins : List (Addr × Obj)) (s : Shared) (σ : St) (H : Hp) (Q : VK), ak X pins σ H s -> t σ H Q -> wpAny (model X.prog X.w) X.A (eval e X.env) (EP X pins σ Q) X.xe s
def PT (X : Cx) (e : Expr) (t : TT) : Prop :=
  ∀ (pins : List (Addr × Obj)) (s : Shared) (σ : St) (H : Hp) (Q : Bool -> Hp -> Prop), ak X pins σ H s -> t σ H Q -> wpAny (model X.prog X.w) X.A (isTrue e X.env (eval e X.env)) (TP X pins σ Q) X.xe s
def PW (X : Cx) (e : Expr) (t : TT) : Prop :=
  ∀ (whole : Sem Value) (pins : List (Addr × Obj)) (s : Shared) (σ : St) (H : Hp) (Q : Bool -> Hp -> Prop), ak X pins σ H s -> t σ H Q -> wpAny (model X.prog X.w) X.A (isTrue e X.env whole) (TP X pins σ Q) X.xe s
theorem PW.pt {X : Cx} {e : Expr} {t : TT} (h : PW X e t) : PT X e t := h _
def PA (X : Cx) (es : List Expr) (t : TA) : Prop :=
  ∀ (pos : Pos) (pins : List (Addr × Obj)) (s : Shared) (σ : St) (H : Hp) (Q : List V -> Hp -> Prop), ak X pins σ H s -> t σ H Q -> wpAny (model X.prog X.w) X.A (spliced (backTo pos (starEach es X.env))) (AP X pins σ Q) X.xe s
def PS (X : Cx) (st : Stmt) (t : TS) : Prop :=
  ∀ (pins : List (Addr × Obj)) (s : Shared) (σ : St) (H : Hp) (D : k7), ak X pins σ H s -> t D σ H -> wpAny (model X.prog X.w) X.A (exec st X.env) (SP X pins D) X.xe s
def gJ (X : Cx) (st : List Stmt) (t : TS) : Prop :=
  ∀ (pins : List (Addr × Obj)) (s : Shared) (σ : St) (H : Hp) (D : k7), ak X pins σ H s -> t D σ H -> wpAny (model X.prog X.w) X.A (execs st X.env) (SP X pins D) X.xe s
theorem aS {α : Type} {t : Sem α} {Q Q' : α -> Shared -> Prop} {M : Model} {A : Around} {E : Value -> Shared -> Prop} {s : Shared} (h : wpAny M A t Q E s) (hQ : ∀ a s, Q a s -> Q' a s) : wpAny M A t Q' E s := wpAny_mono h hQ fun _ _ x => x
end L2
namespace L2
open PySem PySem.Spec PyProof.Rows
section
variable {X : Cx}
theorem Ii {a b : Expr} {ta tb : TE} (ha : PE X a ta) (hb : PE X b tb) {pins : List (Addr × Obj)} {s : Shared} {σ : St} {H : Hp} {R : V -> V -> Hp -> Prop} (I : ak X pins σ H s) (h : ta σ H fun x H1 => tb σ H1 fun y H2 => R x y H2)
    {α : Type} {Q : α -> Shared -> Prop} {f : Value -> Value -> Sem α}
    (hf : ∀ v u s2 x y H2, ak X pins σ H2 s2 -> aW x v -> aW y u -> R x y H2 -> wpAny (model X.prog X.w) X.A (f v u) Q X.xe s2) :
    wpAny (model X.prog X.w) X.A (eval a X.env) (fun v s₁ => wpAny (model X.prog X.w) X.A (eval b X.env) (fun u s₂ => wpAny (model X.prog X.w) X.A (f v u) Q X.xe s₂) X.xe s₁) X.xe s := by
  refine aS (ha pins s σ H _ I h) fun v s1 ⟨x, H1, I1, r1, q1⟩ => ?_
  refine aS (hb pins s1 σ H1 _ I1 q1) fun u s2 ⟨y, H2, I2, r2, q2⟩ => ?_
  exact hf v u s2 x y H2 I2 r1 r2 q2
def uN (i : Nat) : TE := fun σ H Q => ∃ v, σ[i]? = some (some v) /\ Q v H
def tC (v : V) : TE := fun _ H Q => Q v H
theorem nK {i : Nat} {x : Str} {pos : Pos} (hN : X.N[i]? = some x) (hv : jH X.env.scope x) (hd : (x == ("__debug__" : Str)) = false := by decide) (hcd : (x == ("__classdict__" : Str)) = false := by decide) : PE X (.Name x pos) (uN i) := by
  intro pins s σ H Q I h
  obtain ⟨v, e, h⟩ := h
  obtain ⟨m, hn, hl⟩ := I.loc
  obtain ⟨u, r, l⟩ := hl i x v hN e hv
  have fin : EP X pins σ Q u s := ⟨v, H, I, r, h⟩
  rcases l with ⟨hk, hm⟩ | ⟨hk, c, hc, hcell⟩
  . exact wpAny_Name (wpAny_loadName_local I.ok.kind hk hn hm fin) hd
  . rcases hk with hk | hk
    . exact wpAny_Name (wpAny_loadName_cell I.ok.kind hk hc hcell fin) hd
    . exact wpAny_Name (wpAny_loadName_free I.ok.kind hk hc hcell fin hcd) hd
theorem DY {i j pos} : PE X (.Constant (.int i) j pos) (tC (.int i)) := fun _ _ _ H _ I h => wpAny_Constant_int ⟨.int i, H, I.tok _, ⟨_, rfl⟩, h⟩
theorem Hj {b j pos} : PE X (.Constant (.bool b) j pos) (tC (.bl b)) := fun _ _ _ H _ I h => Constant_bool ⟨.bl b, H, I, rfl, h⟩
theorem DW {j pos} : PE X (.Constant .none j pos) (tC .non) := fun _ _ _ H _ I h => Constant_none ⟨.non, H, I, rfl, h⟩
theorem DT {x j pos} : PE X (.Constant (.str x) j pos) (tC (.str x)) := fun _ _ _ H _ I h => Calls.Constant_str ⟨.str x, H, I.tok _, ⟨_, rfl⟩, h⟩
def Gl (X : Cx) (x : Str) : Prop := X.env.kindOf x = some .globalImplicit
theorem i5 {E : Value -> Shared -> Prop} {pins : List (Addr × Obj)} {s : Shared} {σ : St} {H : Hp} {x : Str} {u : Value} {pos : Pos} {Q : Value -> Shared -> Prop} (I : ak X pins σ H s) (hg : Gl X x) (hm : X.mg x = some u) (h : Q u s)
    (hd : (x == ("__debug__" : Str)) = false := by decide) : wpAny (model X.prog X.w) X.A (eval (.Name x pos) X.env) Q E s :=
  Calls.Name_function_global I.ok.kind hg (Calls.loadGlobal_global (by rw [I.ok.glob]; exact I.mod.glob.keeps I.bk) hm h) hd
theorem dS {E : Value -> Shared -> Prop} {pins : List (Addr × Obj)} {s : Shared} {σ : St} {H : Hp} {x : Str} {u : Value} {pos : Pos} {Q : Value -> Shared -> Prop} (I : ak X pins σ H s) (hg : Gl X x) (hm : X.mg x = none) (hv : bootBuiltins x = some u) (h : Q u s)
    (hn : x ≠ "__name__" := by decide) (hd : (x == ("__debug__" : Str)) = false := by decide) : wpAny (model X.prog X.w) X.A (eval (.Name x pos) X.env) Q E s := by
  obtain ⟨mb, h1, h2⟩ := I.mod.blt
  exact Calls.Name_function_global I.ok.kind hg (Calls.loadGlobal_builtin (by rw [I.ok.glob]; exact I.mod.glob.keeps I.bk) hm (by rw [I.ok.blt]; exact h1.keeps I.bk) ((h2 x hn).trans hv) h) hd
theorem By {x : Str} {v : V} {u : Value} {pos : Pos} (hg : Gl X x) (hm : X.mg x = some u) (r : aW v u) (hd : (x == ("__debug__" : Str)) = false := by decide) : PE X (.Name x pos) (tC v) :=
  fun _ _ _ H _ I h => i5 I hg hm ⟨v, H, I, r, h⟩ hd
theorem BA {x : Str} {v : V} {u : Value} {pos : Pos} (hg : Gl X x) (hm : X.mg x = none) (hv : bootBuiltins x = some u) (r : aW v u) (hn : x ≠ "__name__" := by decide) (hd : (x == ("__debug__" : Str)) = false := by decide) : PE X (.Name x pos) (tC v) :=
  fun _ _ _ H _ I h => dS I hg hm hv ⟨v, H, I, r, h⟩ hn hd
variable {a b : Expr} {ta tb : TE} {pos : Pos}
def tB (t : TE) : TT := fun σ H Q => t σ H fun x H1 => ∃ c, x = .bl c /\ Q c H1
theorem DF {e : Expr} {t : TE} (h : PE X e t) (he : ∀ whole, isTrue e X.env whole = (do let v <- whole; standAt e.pos; holding [v] (truthy v)) := by intro _; rfl) : PT X e (tB t) := by
  intro pins s σ H Q I hw
  refine isTrue_plain (aS (h pins s σ H _ I hw) fun v s1 ⟨x, H1, I1, r1, q1⟩ => ?_) (he _)
  obtain ⟨d, rfl, q⟩ := q1
  cases r1
  exact wpAny_truthy_bool ⟨H1, I1, q⟩
variable {tA tB' : TT} {rest : List Expr}
def IH (t u : TT) : TT := fun σ H Q => t σ H fun c H1 => if c = true then u σ H1 Q else Q false H1
def Pv (t u : TT) : TT := fun σ H Q => t σ H fun c H1 => if c = true then Q true H1 else u σ H1 Q
def Iz (t : TT) : TT := fun σ H Q => t σ H fun c H1 => Q (!c) H1
theorem Bl (ha : PT X a tA) : PW X (.BoolOp .And [a] pos) tA := by
  intro wh pins s σ H Q I h
  refine isTrue_and (aS (ha pins s σ H Q I h) fun c s1 e => ?_)
  cases c with
  | true => exact isTrue_and_nil e
  | false => exact e
theorem DE (ha : PT X a tA) : PW X (.BoolOp .Or [a] pos) tA := by
  intro wh pins s σ H Q I h
  refine isTrue_or (aS (ha pins s σ H Q I h) fun c s1 e => ?_)
  cases c with
  | false => exact isTrue_or_nil e
  | true => exact e
theorem v8 (ha : PT X a tA) (hb : PW X (.BoolOp .And (b :: rest) pos) tB') : PW X (.BoolOp .And (a :: b :: rest) pos) (IH tA tB') := by
  intro wh pins s σ H Q I h
  refine isTrue_and (aS (ha pins s σ H _ I h) fun c s1 ⟨H1, I1, q1⟩ => ?_)
  cases c with
  | true => exact hb wh pins s1 σ H1 Q I1 q1
  | false => exact ⟨H1, I1, q1⟩
theorem Ab (ha : PT X a tA) (hb : PW X (.BoolOp .Or (b :: rest) pos) tB') : PW X (.BoolOp .Or (a :: b :: rest) pos) (Pv tA tB') := by
  intro wh pins s σ H Q I h
  refine isTrue_or (aS (ha pins s σ H _ I h) fun c s1 ⟨H1, I1, q1⟩ => ?_)
  cases c with
  | true => exact ⟨H1, I1, q1⟩
  | false => exact hb wh pins s1 σ H1 Q I1 q1
theorem DG (ha : PT X a tA) : PT X (.UnaryOp .Not a pos) (Iz tA) := by
  intro pins s σ H Q I h
  exact isTrue_not (ha pins s σ H (fun c H1 => Q (!c) H1) I h)
def G7 (ta tb : TE) : TE := fun σ H Q => ta σ H fun x H1 => ∃ c, x = .bl c /\ if c = true then tb σ H1 Q else Q (.bl false) H1
def Iy (ta tb : TE) : TE := fun σ H Q => ta σ H fun x H1 => ∃ c, x = .bl c /\ if c = true then Q (.bl true) H1 else tb σ H1 Q
def G3 (ta : TE) : TE := fun σ H Q => ta σ H fun x H1 => ∃ c, x = .bl c /\ Q (.bl (!c)) H1
theorem DU {op} {t : TE} (h : PE X a t) : PE X (.BoolOp op [a] pos) t := fun pins s σ H Q I hw => BoolOp_one (h pins s σ H Q I hw)
theorem wj (ha : PE X a ta) (hb : PE X (.BoolOp .And (b :: rest) pos) tb) : PE X (.BoolOp .And (a :: b :: rest) pos) (G7 ta tb) := by
  intro pins s σ H Q I h
  refine BoolOp_and (aS (ha pins s σ H _ I h) fun v s1 ⟨x, H1, I1, r1, q1⟩ => ?_)
  obtain ⟨c, rfl, q1⟩ := q1
  cases r1
  refine wpAny_truthy_bool ?_
  cases c with
  | true => exact hb pins s1 σ H1 Q I1 q1
  | false => exact ⟨.bl false, H1, I1, rfl, q1⟩
theorem Ah (ha : PE X a ta) (hb : PE X (.BoolOp .Or (b :: rest) pos) tb) : PE X (.BoolOp .Or (a :: b :: rest) pos) (Iy ta tb) := by
  intro pins s σ H Q I h
  refine BoolOp_or (aS (ha pins s σ H _ I h) fun v s1 ⟨x, H1, I1, r1, q1⟩ => ?_)
  obtain ⟨c, rfl, q1⟩ := q1
  cases r1
  refine wpAny_truthy_bool ?_
  cases c with
  | false => exact hb pins s1 σ H1 Q I1 q1
  | true => exact ⟨.bl true, H1, I1, rfl, q1⟩
theorem DV (ha : PE X a ta) : PE X (.UnaryOp .Not a pos) (G3 ta) := by
  intro pins s σ H Q I h
  refine UnaryOp_ (aS (ha pins s σ H _ I h) fun v s1 ⟨x, H1, I1, r1, q1⟩ => ?_)
  obtain ⟨c, rfl, q1⟩ := q1
  cases r1
  exact not_of (wpAny_truthy_bool ⟨.bl (!c), H1, I1, rfl, q1⟩)
end
end L2
namespace L2
open PySem PySem.Spec PyProof.Rows
def cv (K : W.Frag) (H : Hp) (a : Addr) (xs : List V) : Prop :=
  Rd H a (.lst xs) \/
    ∃ (o : Obj) (its : Array Value) (n : Nat), K.lookup a = some o /\ o.cls = .type "list" /\ o.dict = none /\ o.data = .seq its n /\ its.size <= sizeLine /\ aL xs its.toList
def cu (K : W.Frag) (H : Hp) (a : Addr) (xs : List V) : Prop :=
  Rd H a (.tup xs) \/
    ∃ (o : Obj) (its : Array Value) (n : Nat), K.lookup a = some o /\ o.cls = .type "tuple" /\ o.data = .seq its n /\ its.size <= sizeLine /\ aL xs its.toList
def Pk : Value -> Option V
  | .none => some .non
  | .bool b => some (.bl b)
  | .int i _ => some (.int i)
  | .str x _ => some (.str x)
  | .bytes b _ => some (.byt b)
  | .float b _ => some (.flt b)
  | .ref a => some (.ref a)
  | .type n => some (.ty n)
  | _ => none
theorem aW.abs {x : V} {u : Value} (r : aW x u) : Pk u = some x := by
  cases x with
  | non => cases r; rfl
  | bl _ => cases r; rfl
  | int _ => obtain ⟨t, rfl⟩ := r; rfl
  | str _ => obtain ⟨t, rfl⟩ := r; rfl
  | byt _ => obtain ⟨t, rfl⟩ := r; rfl
  | flt _ => obtain ⟨t, rfl⟩ := r; rfl
  | ref _ => cases r; rfl
  | ty _ => cases r; rfl
theorem aW.inj {x y : V} {u : Value} (r : aW x u) (q : aW y u) : x = y := Option.some.inj (r.abs.symm.trans q.abs)
theorem aL.inj : ∀ {xs ys : List V} {us : List Value}, aL xs us -> aL ys us -> xs = ys
  | _, _, _, .nil, .nil => rfl
  | _, _, _, .cons r t, .cons r' t' => by rw [r.inj r', aL.inj t t']
section
variable {X : Cx} {pins : List (Addr × Obj)} {σ : St} {H : Hp} {s : Shared} {a : Addr} {xs ys : List V}
theorem cv.of {K : W.Frag} (h : H a = some (.lst xs)) : cv K H a xs := .inl (.inl h)
theorem cu.of {K : W.Frag} (h : H a = some (.tup xs)) : cu K H a xs := .inl (.inl h)
theorem ak.list (I : ak X pins σ H s) (h : cv X.K H a xs) : ∃ its : List Value, aL xs its /\ PlainL s.heap a its.toArray /\ xs.length <= sizeLine := by
  rcases h with h | ⟨o, its, n, hk, hc, hd, hs, hz, r⟩
  . obtain ⟨z, its, n, r, e⟩ := h.ok I.hok
    exact ⟨its, r, ⟨_, n, e, rfl, rfl, rfl⟩, z⟩
  . refine ⟨its.toList, r, ⟨o, n, I.kIn a o hk, hc, hd, by simpa using hs⟩, ?_⟩
    have e := r.length
    simp only [Array.length_toList] at e
    omega
theorem ak.tuple (I : ak X pins σ H s) (h : cu X.K H a xs) : ∃ its : List Value, aL xs its /\ IsTup s.heap a its.toArray /\ xs.length <= sizeLine := by
  rcases h with h | ⟨o, its, n, hk, hc, hs, hz, r⟩
  . obtain ⟨z, its, r, p⟩ := h.ok I.hok
    exact ⟨its, r, p, z⟩
  . refine ⟨its.toList, r, ⟨o, I.kIn a o hk, hc, n, by simpa using hs⟩, ?_⟩
    have e := r.length
    simp only [Array.length_toList] at e
    omega
theorem ak.list_inj (I : ak X pins σ H s) (h : cv X.K H a xs) (h' : cv X.K H a ys) : xs = ys := by
  obtain ⟨its, r, ⟨o, n, e, _, _, d⟩, _⟩ := I.list h
  obtain ⟨its', r', ⟨o', n', e', _, _, d'⟩, _⟩ := I.list h'
  rw [e] at e'; cases e'
  rw [d] at d'
  injection d' with d1 _
  have : its = its' := by simpa using congrArg Array.toList d1
  subst this
  exact r.inj r'
theorem ak.tuple_inj (I : ak X pins σ H s) (h : cu X.K H a xs) (h' : cu X.K H a ys) : xs = ys := by
  obtain ⟨its, r, ⟨o, e, _, n, d⟩, _⟩ := I.tuple h
  obtain ⟨its', r', ⟨o', e', _, n', d'⟩, _⟩ := I.tuple h'
  rw [e] at e'; cases e'
  rw [d] at d'
  injection d' with d1 _
  have : its = its' := by simpa using congrArg Array.toList d1
  subst this
  exact r.inj r'
end
abbrev Cx.wish (X : Cx) (E : Value -> Shared -> Prop) : Cx := { X with xe := E }
abbrev Cx.nox (X : Cx) : Cx := X.wish fun _ _ => False
theorem Cx.Ok.wish {X : Cx} (ok : X.Ok) (E : Value -> Shared -> Prop) : (X.wish E).Ok :=
  ⟨ok.mod, ok.kind, ok.glob, ok.blt, ok.above, ok.inj, ok.has, ok.cab, ok.hd, ok.frames, ok.stk, ok.exf, ok.bs, ok.bsz, ok.noex, ok.exfs, ok.funs, ok.frf⟩
theorem Cx.Ok.unwish {X : Cx} {E : Value -> Shared -> Prop} (ok : (X.wish E).Ok) : X.Ok :=
  ⟨ok.mod, ok.kind, ok.glob, ok.blt, ok.above, ok.inj, ok.has, ok.cab, ok.hd, ok.frames, ok.stk, ok.exf, ok.bs, ok.bsz, ok.noex, ok.exfs, ok.funs, ok.frf⟩
section
variable {X : Cx} {pins : List (Addr × Obj)} {σ : St} {H : Hp} {s : Shared} {E : Value -> Shared -> Prop}
theorem ak.wish (I : ak X pins σ H s) (E : Value -> Shared -> Prop) : ak (X.wish E) pins σ H s := ⟨I.ok.wish E, I.os, I.bare, I.base, I.loc, I.cell, I.free, I.freeC, I.pin, I.hok, I.len⟩
theorem ak.unwish (I : ak (X.wish E) pins σ H s) : ak X pins σ H s := ⟨I.ok.unwish, I.os, I.bare, I.base, I.loc, I.cell, I.free, I.freeC, I.pin, I.hok, I.len⟩
theorem SP.unwish {D : k7} {f : Flow} {s' : Shared} (h : SP (X.wish E) pins D f s') : SP X pins D f s' := by
  cases f with
  | next => obtain ⟨σ', H', I, q⟩ := h; exact ⟨σ', H', I.unwish, q⟩
  | brk => obtain ⟨σ', H', I, q⟩ := h; exact ⟨σ', H', I.unwish, q⟩
  | cont => obtain ⟨σ', H', I, q⟩ := h; exact ⟨σ', H', I.unwish, q⟩
  | ret u => obtain ⟨v, σ', H', I, r, q⟩ := h; exact ⟨v, σ', H', I.unwish, r, q⟩
theorem PE.nox {e : Expr} {t : TE} (h : PE X.nox e t) : PE X e t := fun pins s σ H Q I hw =>
  wpAny_mono (h pins s σ H Q (I.wish _) hw) (fun _ _ ⟨v, H', I', r, q⟩ => ⟨v, H', I'.unwish, r, q⟩) fun _ _ z => False.elim z
theorem PT.nox {e : Expr} {t : TT} (h : PT X.nox e t) : PT X e t := fun pins s σ H Q I hw =>
  wpAny_mono (h pins s σ H Q (I.wish _) hw) (fun _ _ ⟨H', I', q⟩ => ⟨H', I'.unwish, q⟩) fun _ _ z => False.elim z
theorem gJ.nox {st : List Stmt} {t : TS} (h : gJ X.nox st t) : gJ X st t := fun pins s σ H D I hw =>
  wpAny_mono (h pins s σ H D (I.wish _) hw) (fun _ _ q => q.unwish) fun _ _ z => False.elim z
end
section
variable {X : Cx} {st : Stmt} {rest : List Stmt} {t u : TS} {e : Expr} {te : TE} {pos : Pos}
def zT : TS := fun D σ H => D.nx σ H
def Iv (t u : TS) : TS := fun D σ H => t { D with nx := u D } σ H
theorem Bo : gJ X [] zT := fun _ _ σ H _ I h => wpAny_execs_nil ⟨σ, H, I, h⟩
theorem rf (h1 : PS X st t) (h2 : gJ X rest u) : gJ X (st :: rest) (Iv t u) := by
  intro pins s σ H D I h
  refine wpAny_execs_cons (aS (h1 pins s σ H { D with nx := u D } I h) fun f s1 q => ?_)
  cases f with
  | next =>
    obtain ⟨σ', H', I', q⟩ := q
    exact h2 pins s1 σ' H' D I' q
  | ret v => exact q
  | brk => exact q
  | cont => exact q
def Dl : TS := fun D σ H => D.bk σ H
def G5 : TS := fun D σ H => D.ct σ H
theorem Bq : PS X (.Pass pos) zT := fun _ _ σ H _ I h => wpAny_Pass ⟨σ, H, I, h⟩
theorem yf : PS X (.Break pos) Dl := fun _ _ σ H _ I h => wpAny_Break ⟨σ, H, I, h⟩
theorem sY : PS X (.Continue pos) G5 := fun _ _ σ H _ I h => wpAny_Continue ⟨σ, H, I, h⟩
theorem ak.quiet {pins : List (Addr × Obj)} {σ : St} {H : Hp} {s : Shared} (I : ak X pins σ H s) : interactive X.env = false := by simp [interactive, I.ok.kind]
def G4 (te : TE) : TS := fun D σ H => te σ H fun _ H1 => D.nx σ H1
theorem oQ (he : PE X e te) (hs : swapsWith e none pos.line X.env = pure false := by rfl) : PS X (.Expr e pos) (G4 te) := by
  intro pins s σ H D I h
  exact wpAny_Expr_any (aS (he pins s σ H _ I h) fun v s1 ⟨x, H1, I1, r1, q1⟩ => ⟨σ, H1, I1, q1⟩) I.quiet hs
def Iw (te : TE) : TS := fun D σ H => te σ H D.rt
theorem DI (he : PE X e te) : PS X (.Return (some e) pos) (Iw te) := by
  intro pins s σ H D I h
  exact wpAny_Return_some (aS (he pins s σ H _ I h) fun v s1 ⟨x, H1, I1, r1, q1⟩ => ⟨x, σ, H1, I1, r1, q1⟩)
def G1 : TS := fun D _ H => D.rt .non H
theorem Bp : PS X (.Return none pos) G1 := fun _ _ σ H _ I h => wpAny_Return_none ⟨.non, σ, H, I, rfl, h⟩
def IB (c : TT) (t u : TS) : TS := fun D σ H => c σ H fun b H1 => if b = true then t D σ H1 else u D σ H1
theorem Ac {c : Expr} {a b : List Stmt} {tc : TT} (hc : PT X c tc) (ha : gJ X a t) (hb : gJ X b u) : PS X (.If c a b pos) (IB tc t u) := by
  intro pins s σ H D I h
  refine wpAny_If (aS (hc pins s σ H _ I h) fun d s1 ⟨H1, I1, q1⟩ => ?_)
  cases d with
  | true => exact ha pins s1 σ H1 D I1 q1
  | false => exact hb pins s1 σ H1 D I1 q1
def Dk : TS := fun _ _ _ => False
theorem j5 {sts : List Stmt} : gJ X sts Dk := fun _ _ _ _ _ _ h => h.elim
end
abbrev TG := V -> St -> Hp -> (St -> Hp -> Prop) -> Prop
abbrev oF := List V -> St -> Hp -> (St -> Hp -> Prop) -> Prop
def PG (X : Cx) (target : Expr) (t : TG) : Prop :=
  ∀ (pins : List (Addr × Obj)) (s : Shared) (σ : St) (H : Hp) (v : V) (u : Value) (Q : St -> Hp -> Prop), ak X pins σ H s -> aW v u -> t v σ H Q ->
    wpAny (model X.prog X.w) X.A (assign target X.env u) (fun _ s' => ∃ σ' H', ak X pins σ' H' s' /\ Q σ' H') X.xe s
def uF (X : Cx) (ts : List Expr) (t : oF) : Prop :=
  ∀ (pins : List (Addr × Obj)) (s : Shared) (σ : St) (H : Hp) (vs : List V) (us : List Value) (Q : St -> Hp -> Prop), ak X pins σ H s -> aL vs us -> t vs σ H Q ->
    wpAny (model X.prog X.w) X.A (assignInOrder ((assignEach ts X.env).map (·.2)) us) (fun _ s' => ∃ σ' H', ak X pins σ' H' s' /\ Q σ' H') X.xe s
abbrev vH := V -> V -> V -> Hp -> (Hp -> Prop) -> Prop
def zG (X : Cx) (t : vH) : Prop :=
  ∀ (pins : List (Addr × Obj)) (s : Shared) (σ : St) (H : Hp) (o i v : V) (ov iv u : Value) (Q : Hp -> Prop), ak X pins σ H s -> aW o ov -> aW i iv -> aW v u -> t o i v H Q ->
    wpAny (model X.prog X.w) X.A (setItem ov iv u) (fun _ s' => ∃ H', ak X pins σ H' s' /\ Q H') X.xe s
abbrev Gp := V -> V -> Hp -> VK -> Prop
def Ij (X : Cx) (op : Operator) (t : Gp) : Prop :=
  ∀ (pins : List (Addr × Obj)) (s : Shared) (σ : St) (H : Hp) (x y : V) (v u : Value) (Q : VK), ak X pins σ H s -> aW x v -> aW y u -> t x y H Q ->
    wpAny (model X.prog X.w) X.A (inplaceOp op v u) (EP X pins σ Q) X.xe s
section
variable {X : Cx} {pos : Pos}
def Ay (i : Nat) : TG := fun v σ H Q => Q (σ.set i (some v)) H
theorem oT {i : Nat} {x : Str} (hN : X.N.Nodup) (hi : X.N[i]? = some x) (hx : sV X.env.scope x) (hf : X.fn x = true \/ X.env.scope.names.lookup x = some .local := by first | exact .inl rfl | exact .inr rfl | assumption) : PG X (.Name x pos) (Ay i) := by
  intro pins s σ H v u Q I r h
  exact wpAny_assign_Name (gW I hN hi hx r (fun s' I' => ⟨_, H, I', h⟩) hf)
def Ng : oF := fun vs σ H Q => vs = [] /\ Q σ H
def HH (t : TG) (u : oF) : oF := fun vs σ H Q => ∃ v r, vs = v :: r /\ t v σ H fun σ' H' => u r σ' H' Q
theorem Bv : uF X [] Ng := by
  intro pins s σ H vs us Q I r h
  obtain ⟨e, h⟩ := h
  subst e
  cases r
  exact assignInOrder_nil ⟨σ, H, I, h⟩
theorem yj {e : Expr} {es : List Expr} {t : TG} {u : oF} (h1 : PG X e t) (h2 : uF X es u)
    (hs : (assignEach (e :: es) X.env).map (·.2) = assign e X.env :: (assignEach es X.env).map (·.2) := by rfl) : uF X (e :: es) (HH t u) := by
  intro pins s σ H vs us Q I r h
  obtain ⟨v, vr, e1, h⟩ := h
  subst e1
  cases r with
  | cons r rr =>
    rw [hs]
    refine assignInOrder_cons (aS (h1 pins s σ H _ _ _ I r h) fun _ s1 ⟨σ1, H1, I1, q1⟩ => ?_)
    exact h2 pins s1 σ1 H1 _ _ Q I1 rr q1
def Nd (K : W.Frag) (n : Nat) (t : oF) : TG := fun v σ H Q => ∃ a xs, v = .ref a /\ cu K H a xs /\ xs.length = n /\ t xs σ H Q
theorem we {es : List Expr} {k : Nat} {t : oF} {n : Nat} (hc : X.calm = true) (h : uF X es t)
    (hn : (assignEach es X.env).length = n := by rfl) (hst : (assignEach es X.env).findIdx? (·.1) = none := by rfl) : PG X (.Tuple es k pos) (Nd X.K n t) := by
  intro pins s σ H v u Q I r hw
  obtain ⟨a, xs, e1, hq, hl, hw⟩ := hw
  subst e1
  cases r
  obtain ⟨its, rv, ht, hz⟩ := I.tuple hq
  refine assign_Tuple_tuple (I.ok.hd hc) ht (by simp [hn, <- hl, rv.length]) hst fun h' hx => ?_
  have I1 : ak X pins σ H { s with heap := h' } := I.kept (t' := s.toks) fun b o e => hx b o (Nat.ne_of_lt (Heap.lt_size e)) e
  exact h pins _ σ H xs _ Q I1 (by simpa using rv) hw
def Nf (to ti : TE) (t : vH) : TG := fun v σ H Q => to σ H fun o H1 => ti σ H1 fun i H2 => t o i v H2 fun H3 => Q σ H3
theorem wf {o i : Expr} {to ti : TE} {t : vH} (ho : PE X o to) (hi : PE X i ti) (hs : zG X t)
    (ha : ∀ v, assign (.Subscript o i pos) X.env v = (do
      let ov <- holding [v] (eval o X.env)
      let iv <- holding [v, ov] (eval i X.env)
      standAt pos
      holding [v, ov, iv] (setItem ov iv v)
      release [v, ov, iv] []) := by intro _; rfl) : PG X (.Subscript o i pos) (Nf to ti t) := by
  intro pins s σ H v u Q I r h
  rw [ha]
  refine wpAny_bind (wpAny_holding (aS (ho pins s σ H _ I h) fun ov s1 ⟨x, H1, I1, r1, q1⟩ => ?_))
  refine wpAny_bind (wpAny_holding (aS (hi pins s1 σ H1 _ I1 q1) fun iv s2 ⟨y, H2, I2, r2, q2⟩ => ?_))
  refine wpAny_bind (wpAny_standAt (wpAny_bind (wpAny_holding (aS (hs pins s2 σ H2 x y v ov iv u _ I2 r1 r2 r q2) fun _ s3 ⟨H3, I3, q3⟩ => ?_))))
  exact wpAny_release ⟨σ, H3, I3, q3⟩
def Dm (te : TE) (g : TG) : TS := fun D σ H => te σ H fun x H1 => g x σ H1 D.nx
theorem nI {tg e : Expr} {te : TE} {g : TG} (he : PE X e te) (hg : PG X tg g) (hs : swapsWithSole [tg] e pos.line X.env = pure false := by rfl) (hw : swappedStores [tg] e X.env = pure none := by rfl)
    (h1 : (assignEach [tg] X.env).map (·.2) = [assign tg X.env] := by rfl) : PS X (.Assign [tg] e pos) (Dm te g) := by
  intro pins s σ H D I h
  refine wpAny_Assign_stores (aS (he pins s σ H _ I h) fun v s1 ⟨x, H1, I1, r1, q1⟩ => ?_) hs hw
  rw [h1]
  exact aS (hg pins s1 σ H1 x v _ I1 r1 q1) fun _ s2 q => q
theorem DH {i : Nat} {x : Str} {e : Expr} {te : TE} {pos' : Pos} (hN : X.N.Nodup) (hi : X.N[i]? = some x) (hx : sV X.env.scope x) (he : PE X e te) (hs : swapsWith e (some (.Name x pos')) pos.line X.env = pure false := by rfl) (hf : X.fn x = true \/ X.env.scope.names.lookup x = some .local := by first | exact .inl rfl | exact .inr rfl | assumption) :
    PS X (.Assign [.Name x pos'] e pos) (Dm te (Ay i)) := by
  intro pins s σ H D I h
  refine wpAny_Assign_Name (aS (he pins s σ H _ I h) fun v s1 ⟨y, H1, I1, r1, q1⟩ => ?_) hs
  exact gW I1 hN hi hx r1 (fun s2 I2 => ⟨_, H1, I2, q1⟩) hf
def Ix (i j : Nat) (ta : TA) : TS := fun D σ H => ta σ H fun vs H1 => ∃ v w, vs = [v, w] /\ D.nx ((σ.set i (some v)).set j (some w)) H1
theorem DJ {i j : Nat} {x y : Str} {a b : Expr} {ta : TA} {px py pt : Pos} {kt k2 pt2} (hc : X.calm = true) (hN : X.N.Nodup) (hi : X.N[i]? = some x) (hj : X.N[j]? = some y) (hij : i ≠ j)
    (hx : X.env.scope.names.lookup x = some .local) (hy : X.env.scope.names.lookup y = some .local) (ha : PA X [a, b] ta)
    (hw : swappedStores [.Tuple [.Name x px, .Name y py] kt pt] (.Tuple [a, b] k2 pt2) X.env = pure (some [x, y]))
    (hs : swapsWithSole [.Tuple [.Name x px, .Name y py] kt pt] (.Tuple [a, b] k2 pt2) pos.line X.env = pure false := by rfl) :
    PS X (.Assign [.Tuple [.Name x px, .Name y py] kt pt] (.Tuple [a, b] k2 pt2) pos) (Ix i j ta) := by
  intro pins s σ H D I h
  rw [exec_Assign_arm]
  refine wpAny_bind (wpAny_standAt ?_)
  rw [hs]
  refine wpAny_bind (wpAny_pure ?_)
  rw [if_neg (by decide)]
  refine wpAny_bind (Tuple_ (aS (ha _ pins s σ H _ I h) fun us s1 ⟨vs, H1, I1, r1, q1⟩ => ?_))
  obtain ⟨v, w, e1, q1⟩ := q1
  subst e1
  obtain ⟨u1, u2, rfl, rv, rw'⟩ : ∃ u1 u2, us = [u1, u2] /\ aW v u1 /\ aW w u2 := by
    cases r1 with
    | cons p q =>
      cases q with
      | cons p' q' =>
        cases q'
        exact ⟨_, _, rfl, p, p'⟩
  refine wpAny_newObj_type ?_ (by show 2 <= sizeLine; decide)
  have I2 : ak X pins σ H1 { s1 with heap := s1.heap.push { cls := .type "tuple", data := .seq [u1, u2].toArray } } := I1.kept (t' := s1.toks) fun b o e => Heap.get?_push_of_some _ e
  rw [hw]
  refine wpAny_bind (wpAny_pure ?_)
  show wpAny (model X.prog X.w) X.A (do rule "assign.swapped-stores"; let items <- unpackItems (.ref s1.heap.objs.size) 2 none; assignInOrder [fun v => bindName X.env y v, fun v => bindName X.env x v] items.reverse; pure Flow.next) _ _ _
  refine wpAny_bind (wpAny_rule (wpAny_bind (unpackItems_tuple (items := #[u1, u2]) (I.ok.hd hc) (IsTup.new s1.heap _) fun h' hx' => ?_)))
  have I3 := I2.kept (h' := h') (t' := s1.toks) fun b o e => hx' b o (Nat.ne_of_lt (Heap.lt_size e)) e
  show wpAny _ _ (assignInOrder [fun v => bindName X.env y v, fun v => bindName X.env x v] [u2, u1] >>= fun _ => pure Flow.next) _ _ _
  refine wpAny_bind (assignInOrder_cons (wpAny_bindName (gW I3 hN hj (.inl hy) rw' (fun s2 I4 => ?_) (.inr hy))))
  refine assignInOrder_cons (wpAny_bindName (gW I4 hN hi (.inl hx) rv (fun s3 I5 => assignInOrder_nil (wpAny_pure ?_)) (.inr hx)))
  rw [List.set_comm _ _ (Ne.symm hij)] at I5
  exact ⟨_, H1, I5, q1⟩
def IG (i : Nat) (te : TE) (ti : Gp) : TS := fun D σ H => ∃ x, σ[i]? = some (some x) /\ te σ H fun y H1 => ti x y H1 fun z H2 => D.nx (σ.set i (some z)) H2
theorem DL {i : Nat} {x : Str} {e : Expr} {te : TE} {op : Operator} {ti : Gp} {pos' : Pos} (hN : X.N.Nodup) (hi : X.N[i]? = some x) (hx : sV X.env.scope x) (he : PE X e te) (ho : Ij X op ti) (hf : X.fn x = true \/ X.env.scope.names.lookup x = some .local := by first | exact .inl rfl | exact .inr rfl | assumption) :
    PS X (.AugAssign (.Name x pos') op e pos) (IG i te ti) := by
  intro pins s σ H D I h
  obtain ⟨v, e1, h⟩ := h
  obtain ⟨m, hn, hl⟩ := I.loc
  have vis : jH X.env.scope x := by rcases hx with k | k; exact .inl k; exact .inr (.inl k)
  obtain ⟨u, r, l⟩ := hl i x v hi e1 vis
  refine wpAny_AugAssign_Name ?_
  have go : wpAny (model X.prog X.w) X.A (eval e X.env) (fun w s₂ => wpAny (model X.prog X.w) X.A (inplaceOp op u w) (fun r s₃ => wpAny (model X.prog X.w) X.A (storeName X.env x r) (fun _ => SP X pins D .next) X.xe s₃) X.xe s₂) X.xe s := by
    refine aS (he pins s σ H _ I h) fun w s1 ⟨y, H1, I1, r1, q1⟩ => ?_
    refine aS (ho pins s1 σ H1 v y u w _ I1 r r1 q1) fun z s2 ⟨zv, H2, I2, r2, q2⟩ => ?_
    exact gW I2 hN hi hx r2 (fun s3 I3 => ⟨_, H2, I3, q2⟩) hf
  rcases l with ⟨hk, hm⟩ | ⟨hk, c, hc, hcell⟩
  . exact wpAny_loadName_local I.ok.kind hk hn hm go
  . rcases hk with hk | hk
    . exact wpAny_loadName_cell I.ok.kind hk hc hcell go
    . rcases hx with k | k
      . have : X.env.scope.names.lookup x = some .free := hk
        rw [k] at this; cases this
      . have : X.env.scope.names.lookup x = some .free := hk
        rw [k] at this; cases this
end
section
variable {X : Cx} {pos : Pos}
def Dj (c : TT) (tb : TS) : TS := fun D σ H => ∃ W : Nat -> St -> Hp -> Prop, (∃ m, W m σ H) /\ ∀ m σ H, W m σ H ->
  c σ H fun b H1 => if b = true then ∃ N : St -> Hp -> Prop, (∀ σ' H', N σ' H' -> ∃ m', m' < m /\ W m' σ' H') /\ tb { D with nx := N, ct := N, bk := D.nx } σ H1 else D.nx σ H1
theorem ye {c : Expr} {body : List Stmt} {tc : TT} {tb : TS} (hp : PassesOwn (model X.prog X.w) X.A X.env X.xe) (hc : PT X c tc) (hb : gJ X body tb) : PS X (.While c body [] pos) (Dj tc tb) := by
  intro pins s σ H D I h
  obtain ⟨W, ⟨m0, w0⟩, turn⟩ := h
  refine wpAny_While (codeAny_whileLoop (fun n s' => ∃ σ' H', ak X pins σ' H' s' /\ W n σ' H') ?_ m0 ⟨σ, H, I, w0⟩)
  rintro n s1 ⟨σ1, H1, I1, w1⟩
  refine wpAny_passesOwn hp (aS (hc pins s1 σ1 H1 _ I1 (turn n σ1 H1 w1)) fun b s2 ⟨H2, I2, q2⟩ => ?_)
  cases b with
  | true =>
    obtain ⟨N, hN, q2⟩ := q2
    rw [if_pos rfl]
    refine wpAny_passesOwn hp (aS (hb pins s2 σ1 H2 _ I2 q2) fun f s3 q3 => ?_)
    cases f with
    | next =>
      obtain ⟨σ3, H3, I3, n3⟩ := q3
      obtain ⟨m', hm, w3⟩ := hN σ3 H3 n3
      exact ⟨m', hm, σ3, H3, I3, w3⟩
    | cont =>
      obtain ⟨σ3, H3, I3, n3⟩ := q3
      obtain ⟨m', hm, w3⟩ := hN σ3 H3 n3
      exact ⟨m', hm, σ3, H3, I3, w3⟩
    | brk => exact q3
    | ret v => exact q3
  | false =>
    rw [if_neg Bool.false_ne_true]
    exact wpAny_execs_nil ⟨σ1, H2, I2, q2⟩
end
structure It where
  go : Nat -> Hp -> Prop
  yld : Nat -> Hp -> V -> Hp -> Prop
  stop : Nat -> Hp -> Prop
def fB (X : Cx) (pins : List (Addr × Obj)) (H : Hp) (b : Addr) : Prop :=
  H b = none /\ b ≠ X.env.locals /\ b ∉ X.fs /\ (b ∈ X.ex \/ X.s₀.heap.objs.size <= b) /\ (∀ x c, X.env.cells.lookup x = some c -> c ≠ b) /\ ∀ p ∈ X.pn ++ pins, p.1 ≠ b
theorem ak.fpOk {X : Cx} {pins : List (Addr × Obj)} {σ : St} {H H' : Hp} {s : Shared} {b : Addr} (I : ak X pins σ H s) (hb : s.heap.objs.size <= b) (hn : H' b = none) : fB X pins H' b := by
  refine ⟨hn, Nat.ne_of_gt (Nat.lt_of_lt_of_le I.lt hb), I.nofs hb, .inr (Nat.le_trans I.sz hb), fun x c e z => ?_, fun p hp z => ?_⟩
  . obtain ⟨v, q⟩ := I.cell x c e
    exact absurd (Nat.lt_of_lt_of_le q.lt (by rw [z]; exact hb)) (Nat.lt_irrefl _)
  . exact absurd (Nat.lt_of_lt_of_le (Heap.lt_size (I.pin p hp).1) (by rw [z]; exact hb)) (Nat.lt_irrefl _)
structure Turn (P : Program) (w : World) (K : W.Frag) (tg : Expr) (J : It) (fp : List Addr) (it : Addr) (tn : Nat -> Heap -> Prop) : Prop where
  mem : it ∈ fp
  obj : ∀ i h, tn i h -> ∀ b ∈ fp, ∃ o, h.get? b = some o /\ ∀ v, o.data ≠ .cell v
  keep : ∀ i h h', tn i h -> (∀ b ∈ fp, ∀ o, h.get? b = some o -> h'.get? b = some o) -> tn i h'
  item : ∀ (X : Cx), X.prog = P -> X.w = w -> X.K = K -> X.calm = true -> ∀ (i : Nat) (pins : List (Addr × Obj)) (s : Shared) (σ : St) (H : Hp) (E : Value -> Shared -> Prop), ak X pins σ H s -> (∀ b ∈ fp, fB X pins H b) -> tn i s.heap -> J.go i H ->
    wpAny (model P w) X.A (pyNext (.ref it)) (fun r s1 => ∃ u, r = some u /\
      wpAny (model P w) X.A (letOwnedTupleGo tg (.ref it) u) (fun _ s2 => ∃ x H', ak X pins σ H' s2 /\ aW x u /\ J.yld i H x H' /\ tn (i + 1) s2.heap /\ ∀ b ∈ fp, H' b = none) E s1) E s
  done : ∀ (X : Cx), X.prog = P -> X.w = w -> X.K = K -> X.calm = true -> ∀ (i : Nat) (pins : List (Addr × Obj)) (s : Shared) (σ : St) (H : Hp) (E : Value -> Shared -> Prop), ak X pins σ H s -> (∀ b ∈ fp, fB X pins H b) -> tn i s.heap -> J.stop i H ->
    wpAny (model P w) X.A (pyNext (.ref it)) (fun r s1 => r = none /\ ak X pins σ H s1) E s
  self : ∀ (A : Around) (i : Nat) (s : Shared) (Q : Value -> Shared -> Prop) (E : Value -> Shared -> Prop), tn i s.heap -> Q (.ref it) s -> wpAny (model P w) A (pyIter (.ref it)) Q E s
abbrev TI := St -> Hp -> (It -> Hp -> Prop) -> Prop
def Ik (X : Cx) (pins : List (Addr × Obj)) (σ : St) (tg : Expr) (R : It -> Hp -> Prop) (itv : Value) (s2 : Shared) : Prop :=
  ∃ (it : Addr) (fp : List Addr) (tn : Nat -> Heap -> Prop) (J : It) (H' : Hp), itv = .ref it /\ ak X pins σ H' s2 /\ Turn X.prog X.w X.K tg J fp it tn /\ tn 0 s2.heap /\ (∀ b ∈ fp, fB X pins H' b) /\ R J H'
def PI (X : Cx) (tg iter : Expr) (wi : TI) : Prop :=
  ∀ (pins : List (Addr × Obj)) (s : Shared) (σ : St) (H : Hp) (R : It -> Hp -> Prop), ak X pins σ H s -> wi σ H R ->
    wpAny (model X.prog X.w) X.A (eval iter X.env) (fun v s1 => wpAny (model X.prog X.w) X.A (pyIter v) (Ik X pins σ tg R) X.xe s1) X.xe s
theorem qu {M : Model} {A : Around} {E : Value -> Shared -> Prop} {s : Shared} {tg : Expr} {it : Addr} {u : Value} {o : Obj} {n : String} {vs : Array Value} {Q : Unit -> Shared -> Prop} (ho : s.heap.get? it = some o) (hc : o.cls = .type n) (hd : o.data = .fields vs)
    (hn : ["enumerate", "zip", "dict_itemiterator", "dict_reverseitemiterator", "odict_iterator", "itertools.zip_longest", "itertools.pairwise"].contains n = false) (hQ : Q () s) : wpAny M A (letOwnedTupleGo tg (.ref it) u) Q E s := by
  unfold letOwnedTupleGo
  cases tg <;> first
    | exact wpAny_pure hQ
    | (cases u <;> first
        | exact wpAny_pure hQ
        | (refine wpAny_bind (wpAny_load ho ?_)
           rw [hc, hd]
           show wpAny M A (if (["enumerate", "zip", "dict_itemiterator", "dict_reverseitemiterator", "odict_iterator", "itertools.zip_longest", "itertools.pairwise"].contains n && vs[0]? == some (rawInt _)) = true then _ else _) Q E s
           rw [if_neg (by intro h; rw [hn, Bool.false_and] at h; cases h)]
           exact wpAny_pure hQ))
def Im (K : W.Frag) (a : Addr) : It :=
  ⟨fun i H => ∃ xs x, cv K H a xs /\ xs[i]? = some x, fun i H x H' => H' = H /\ ∀ xs, cv K H a xs -> xs[i]? = some x, fun i H => ∃ xs, cv K H a xs /\ xs.length <= i⟩
def Il (K : W.Frag) (a : Addr) : It :=
  ⟨fun i H => ∃ xs x, cu K H a xs /\ xs[i]? = some x, fun i H x H' => H' = H /\ ∀ xs, cu K H a xs -> xs[i]? = some x, fun i H => ∃ xs, cu K H a xs /\ xs.length <= i⟩
def AR (lo : Int) (n : Nat) : It := ⟨fun i _ => i < n, fun i H x H' => H' = H /\ x = .int (lo + i), fun i _ => n <= i⟩
theorem vU {P : Program} {w : World} {K : W.Frag} {tg : Expr} (a it : Addr) : Turn P w K tg (Im K a) [it] it (fun i h => h.IsListIter it a i) where
  mem := by simp
  obj := fun i h st b hb => by
    have e : b = it := by simpa using hb
    subst e
    obtain ⟨o, e, c, d⟩ := st
    exact ⟨o, e, fun v z => by rw [d] at z; cases z⟩
  keep := fun i h h' st k => st.at fun o e => k it (by simp) o e
  item := by
    intro X hP hw hK hc i pins s σ H E I hf st hg
    subst hP hw hK
    obtain ⟨xs, x, hq, hx⟩ := hg
    obtain ⟨its, rv, p, hz⟩ := I.list hq
    obtain ⟨u, hu, ru⟩ := rv.get hx
    obtain ⟨f0, f1, f2, f3, f4, f5⟩ := hf it (by simp)
    refine wpAny_pyNext_list_item st p.isList (x := u) (by simpa using hu) fun h' st' sb => ?_
    have I1 : ak X pins σ H { s with heap := h' } := I.turned (t' := s.toks) (fun b o hb e => (sb.2 b hb).trans e) f0 f1 f3 f4 f5
    obtain ⟨o, e, c, d⟩ := id st'
    exact ⟨u, rfl, qu (s := { s with heap := h' }) e c d (by decide) ⟨x, H, I1, ru, ⟨rfl, fun ys hy => by rw [I.list_inj hy hq]; exact hx⟩, st', fun b hb => (hf b hb).1⟩⟩
  done := by
    intro X hP hw hK hc i pins s σ H E I hf st hg
    subst hP hw hK
    obtain ⟨xs, hq, hx⟩ := hg
    obtain ⟨its, rv, p, hz⟩ := I.list hq
    obtain ⟨f0, f1, f2, f3, f4, f5⟩ := hf it (by simp)
    have hl := rv.length
    exact wpAny_pyNext_list_end (I.ok.hd hc) st p.isList (by simp; omega) fun h' eb => ⟨rfl, I.turned (t' := s.toks) (fun b o hb e => eb b o hb e) f0 f1 f3 f4 f5⟩
  self := fun _ _ _ _ _ st h => wpAny_pyIter_listiter st h
theorem uJ {P : Program} {w : World} {K : W.Frag} {tg : Expr} (a it : Addr) : Turn P w K tg (Il K a) [it] it (fun i h => h.IsTupleIter it a i) where
  mem := by simp
  obj := fun i h st b hb => by
    have e : b = it := by simpa using hb
    subst e
    obtain ⟨o, e, c, d⟩ := st
    exact ⟨o, e, fun v z => by rw [d] at z; cases z⟩
  keep := fun i h h' st k => st.at fun o e => k it (by simp) o e
  item := by
    intro X hP hw hK hc i pins s σ H E I hf st hg
    subst hP hw hK
    obtain ⟨xs, x, hq, hx⟩ := hg
    obtain ⟨its, rv, p, hz⟩ := I.tuple hq
    obtain ⟨u, hu, ru⟩ := rv.get hx
    obtain ⟨f0, f1, f2, f3, f4, f5⟩ := hf it (by simp)
    refine wpAny_pyNext_tuple_item st (show s.heap.IsTuple a its.toArray from p) (x := u) (by simpa using hu) fun h' st' sb => ?_
    have I1 : ak X pins σ H { s with heap := h' } := I.turned (t' := s.toks) (fun b o hb e => (sb.2 b hb).trans e) f0 f1 f3 f4 f5
    obtain ⟨o, e, c, d⟩ := id st'
    exact ⟨u, rfl, qu (s := { s with heap := h' }) e c d (by decide) ⟨x, H, I1, ru, ⟨rfl, fun ys hy => by rw [I.tuple_inj hy hq]; exact hx⟩, st', fun b hb => (hf b hb).1⟩⟩
  done := by
    intro X hP hw hK hc i pins s σ H E I hf st hg
    subst hP hw hK
    obtain ⟨xs, hq, hx⟩ := hg
    obtain ⟨its, rv, p, hz⟩ := I.tuple hq
    obtain ⟨f0, f1, f2, f3, f4, f5⟩ := hf it (by simp)
    have hl := rv.length
    exact wpAny_pyNext_tuple_end (I.ok.hd hc) st (show s.heap.IsTuple a its.toArray from p) (by simp; omega) fun h' eb => ⟨rfl, I.turned (t' := s.toks) (fun b o hb e => eb b o hb e) f0 f1 f3 f4 f5⟩
  self := fun _ _ _ _ _ st h => wpAny_pyIter_tupleiter st h
theorem uK {P : Program} {w : World} {K : W.Frag} {tg : Expr} (it : Addr) (lo : Int) (n : Nat) : Turn P w K tg (AR lo n) [it] it (fun i h => IsRangeIter h it (lo + (i : Nat) * 1) ((n : Int) - (i : Nat)) 1) where
  mem := by simp
  obj := fun i h st b hb => by
    have e : b = it := by simpa using hb
    subst e
    exact ⟨_, st, fun v z => by
      have z' : Data.fields _ = Data.cell v := z
      cases z'⟩
  keep := fun i h h' st k => k it (by simp) _ st
  item := by
    intro X hP hw hK hc i pins s σ H E I hf st hg
    subst hP hw hK
    obtain ⟨f0, f1, f2, f3, f4, f5⟩ := hf it (by simp)
    have W := Walks.range (prog := X.prog) (w := X.w) (I.ok.hd hc) it lo 1 n
    refine W.item i s _ _ hg st fun v h' tk hv st' kk => ?_
    obtain ⟨t, rfl⟩ := hv
    have I1 : ak X pins σ H { s with heap := h', toks := tk } := I.turned (fun b o hb e => kk b o (by simpa using hb) e) f0 f1 f3 f4 f5
    refine ⟨_, rfl, qu (s := { s with heap := h', toks := tk }) (n := "range_iterator") st' rfl rfl (by decide) ⟨.int (lo + i), H, I1, ⟨t, ?_⟩, ⟨rfl, rfl⟩, st', fun b hb => (hf b hb).1⟩⟩
    rw [Int.mul_one]
  done := by
    intro X hP hw hK hc i pins s σ H E I hf st hg
    subst hP hw hK
    obtain ⟨f0, f1, f2, f3, f4, f5⟩ := hf it (by simp)
    exact wpAny_pyNext_range_end (I.ok.hd hc) st (by have : n <= i := hg; omega) fun h' eb => ⟨rfl, I.turned (t' := s.toks) (fun b o hb e => eb b o hb e) f0 f1 f3 f4 f5⟩
  self := fun _ _ _ _ _ st h => wpAny_pyIter_rangeiter st h
end L2
namespace L2
open PySem PySem.Spec PyProof.Rows
section
variable {X : Cx} {tg : Expr}
def HF (K : W.Frag) (tl : TE) : TI := fun σ H R => tl σ H fun x H1 => ∃ a, x = .ref a /\ (∃ xs, cv K H1 a xs) /\ R (Im K a) H1
def Nc (K : W.Frag) (tl : TE) : TI := fun σ H R => tl σ H fun x H1 => ∃ a, x = .ref a /\ (∃ xs, cu K H1 a xs) /\ R (Il K a) H1
theorem Bu {l : Expr} {tl : TE} (hl : PE X l tl) : PI X tg l (HF X.K tl) := by
  intro pins s σ H R I h
  refine aS (hl pins s σ H _ I h) fun v s1 ⟨x, H1, I1, r1, q1⟩ => ?_
  obtain ⟨a, e, ⟨xs, hq⟩, q⟩ := q1
  subst e
  cases r1
  obtain ⟨its, rv, p, hz⟩ := I1.list hq
  refine wpAny_pyIter_list p.isList ?_
  refine ⟨s1.heap.objs.size, [s1.heap.objs.size], _, _, H1, rfl, I1.kept (t' := s1.toks) fun b o e => Heap.get?_push_of_some _ e, vU a _, ⟨_, Heap.get?_push_size _ rfl, rfl, rfl⟩, fun b hb => ?_, q⟩
  have e : b = s1.heap.objs.size := by simpa using hb
  subst e
  exact I1.fpOk (Nat.le_refl _) (I1.hok.fresh (Nat.le_refl _))
theorem DQ {l : Expr} {tl : TE} (hl : PE X l tl) : PI X tg l (Nc X.K tl) := by
  intro pins s σ H R I h
  refine aS (hl pins s σ H _ I h) fun v s1 ⟨x, H1, I1, r1, q1⟩ => ?_
  obtain ⟨a, e, ⟨xs, hq⟩, q⟩ := q1
  subst e
  cases r1
  obtain ⟨its, rv, p, hz⟩ := I1.tuple hq
  refine wpAny_pyIter_tuple (show s1.heap.IsTuple a its.toArray from p) ?_
  refine ⟨s1.heap.objs.size, [s1.heap.objs.size], _, _, H1, rfl, I1.kept (t' := s1.toks) fun b o e => Heap.get?_push_of_some _ e, uJ a _, ⟨_, Heap.get?_push_size _ rfl, rfl, rfl⟩, fun b hb => ?_, q⟩
  have e : b = s1.heap.objs.size := by simpa using hb
  subst e
  exact I1.fpOk (Nat.le_refl _) (I1.hok.fresh (Nat.le_refl _))
theorem q9 {pins : List (Addr × Obj)} {σ : St} {H : Hp} {s : Shared} {R : It -> Hp -> Prop} {E : Value -> Shared -> Prop} {lo hi : Int} {t u v : Tok} {tk : Nat} (I : ak X pins σ H s) (h1 : -(2 ^ 62) <= lo) (h2 : lo < 2 ^ 62) (h3 : -(2 ^ 62) <= hi) (h4 : hi < 2 ^ 62)
    (q : R (AR lo (hi - lo).toNat) H) : wpAny (model X.prog X.w) X.A (pyIter (.ref s.heap.objs.size)) (Ik X pins σ tg R) E { s with heap := s.heap.push { cls := .type "range", data := .fields #[.int lo t, .int hi u, .int 1 v] }, toks := tk } := by
  refine wpAny_pyIter_range (IsRange.new ..) (small_one h1 h2 h3 h4) ?_
  have I1 : ak X pins σ H { s with heap := s.heap.push { cls := .type "range", data := .fields #[.int lo t, .int hi u, .int 1 v] }, toks := tk } := I.kept fun b o e => Heap.get?_push_of_some _ e
  refine ⟨(s.heap.push { cls := .type "range", data := .fields #[.int lo t, .int hi u, .int 1 v] }).objs.size, [(s.heap.push { cls := .type "range", data := .fields #[.int lo t, .int hi u, .int 1 v] }).objs.size], _, _, H, rfl,
    I1.kept (t' := tk) fun b o e => Heap.get?_push_of_some _ e, uK _ lo (hi - lo).toNat, ?_, fun b hb => ?_, q⟩
  . have e1 : lo + ((0 : Nat) : Int) * 1 = lo := by simp
    have e2 : (((hi - lo).toNat : Nat) : Int) - ((0 : Nat) : Int) = Builtin.Range.rangeSize lo hi 1 := by rw [rangeSize_one]; split <;> omega
    show IsRangeIter _ _ (lo + ((0 : Nat) : Int) * 1) ((((hi - lo).toNat : Nat) : Int) - ((0 : Nat) : Int)) 1
    rw [e1, e2]
    exact Heap.get?_push_size _ rfl
  . have e : b = (s.heap.push { cls := .type "range", data := .fields #[.int lo t, .int hi u, .int 1 v] }).objs.size := by simpa using hb
    subst e
    exact I1.fpOk (Nat.le_refl _) (I1.hok.fresh (Nat.le_refl _))
def HE (ta : TA) : TI := fun σ H R => ta σ H fun vs H1 => ∃ j : Int, vs = [.int j] /\ -(2 ^ 62) <= j /\ j < 2 ^ 62 /\ R (AR 0 j.toNat) H1
def HD (ta : TA) : TI := fun σ H R => ta σ H fun vs H1 => ∃ i j : Int, vs = [.int i, .int j] /\ (-(2 ^ 62) <= i /\ i < 2 ^ 62 /\ -(2 ^ 62) <= j /\ j < 2 ^ 62) /\ R (AR i (j - i).toNat) H1
theorem wc {a : Expr} {ta : TA} {p pos : Pos} (hg : Gl X "range") (hm : X.mg "range" = none) (ha : PA X [a] ta) (hs : starEach [a] X.env = [(false, eval a X.env)] := by rfl) : PI X tg (.Call (.Name "range" p) [a] [] pos) (HE ta) := by
  intro pins s σ H R I h
  refine Call_ (dS I hg hm boot_range (PyProof.Rows.callWith_type1 (aS (ha pos pins s σ H _ I h) fun us s1 ⟨vs, H1, I1, r1, q1⟩ => ?_) hs rfl))
  obtain ⟨j, e, q1, q2, q⟩ := q1
  subst e
  cases r1 with
  | cons r rr =>
    cases rr
    obtain ⟨t, rfl⟩ := r
    exact call_range_1 (q9 I1 (by omega) (by omega) q1 q2 (by simpa using q))
theorem wb {a b : Expr} {ta : TA} {p pos : Pos} (hg : Gl X "range") (hm : X.mg "range" = none) (ha : PA X [a, b] ta) (hs : starEach [a, b] X.env = [(false, eval a X.env), (false, eval b X.env)] := by rfl) (hs2 : starEach [b] X.env = [(false, eval b X.env)] := by rfl) :
    PI X tg (.Call (.Name "range" p) [a, b] [] pos) (HD ta) := by
  intro pins s σ H R I h
  refine Call_ (dS I hg hm boot_range (PyProof.Rows.callWith_type1 (aS (ha pos pins s σ H _ I h) fun us s1 ⟨vs, H1, I1, r1, q1⟩ => ?_) (by rw [hs, hs2]) (by rw [hs2]; rfl)))
  obtain ⟨i, j, e, ⟨q1, q2, q3, q4⟩, q⟩ := q1
  subst e
  cases r1 with
  | cons r rr =>
    cases rr with
    | cons r' rr =>
      cases rr
      obtain ⟨t, rfl⟩ := r
      obtain ⟨t', rfl⟩ := r'
      exact call_range_2 (q9 I1 q1 q2 q3 q4 q)
def IC (wi : TI) (g : TG) (tb : TS) : TS := fun D σ H => wi σ H fun J H1 => ∃ W : Nat -> Nat -> St -> Hp -> Prop, (∃ m, W 0 m σ H1) /\ ∀ i m σ H, W i m σ H ->
  (J.stop i H /\ D.nx σ H) \/ (J.go i H /\ ∃ N : St -> Hp -> Prop, (∀ σ' H', N σ' H' -> ∃ m', m' < m /\ W (i + 1) m' σ' H') /\ ∀ x H', J.yld i H x H' -> g x σ H' fun σ2 H2 => tb { D with nx := N, ct := N, bk := D.nx } σ2 H2)
def j6 (fp : List Addr) (h : Heap) : List (Addr × Obj) := fp.filterMap fun b => (h.get? b).map fun o => (b, o)
theorem gL {fp : List Addr} {h : Heap} {b : Addr} {o : Obj} (hb : b ∈ fp) (e : h.get? b = some o) : (b, o) ∈ j6 fp h := List.mem_filterMap.mpr ⟨b, hb, by rw [e]; rfl⟩
theorem wo {fp : List Addr} {h : Heap} {p : Addr × Obj} (hp : p ∈ j6 fp h) : p.1 ∈ fp /\ h.get? p.1 = some p.2 := by
  obtain ⟨b, hb, e⟩ := List.mem_filterMap.mp hp
  cases q : h.get? b with
  | none => rw [q] at e; cases e
  | some o =>
    rw [q] at e
    have e' : (b, o) = p := Option.some.inj e
    subst e'
    exact ⟨hb, q⟩
theorem ak.pinned {pins : List (Addr × Obj)} {σ : St} {H : Hp} {s : Shared} {fp : List Addr} (I : ak X pins σ H s) (hf : ∀ b ∈ fp, fB X pins H b) (ho : ∀ b ∈ fp, ∃ o, s.heap.get? b = some o /\ ∀ v, o.data ≠ .cell v) : ak X (pins ++ j6 fp s.heap) σ H s :=
  I.pins_of fun p hp => (List.mem_append.mp hp).elim (fun z => I.pin p (List.mem_append_right _ z)) fun z => by
    obtain ⟨hb, e⟩ := wo z
    obtain ⟨f0, f1, f2, _⟩ := hf p.1 hb
    obtain ⟨o, e', d⟩ := ho p.1 hb
    rw [e] at e'; cases e'
    exact ⟨e, f0, f1, f2, d⟩
theorem ak.unpinned {pins pl : List (Addr × Obj)} {σ : St} {H : Hp} {s : Shared} (I : ak X (pins ++ pl) σ H s) : ak X pins σ H s := I.pins_of fun p hp => I.pin p (List.mem_append_right _ (List.mem_append_left _ hp))
theorem DK {iter : Expr} {body : List Stmt} {wi : TI} {g : TG} {tb : TS} {pos : Pos} (hp : PassesOwn (model X.prog X.w) X.A X.env X.xe) (hc : X.calm = true) (hi : PI X tg iter wi) (hg : PG X tg g) (hb : gJ X body tb)
    (hs : ∀ x, foldedSetIterable iter X.env x = pure x := by intro _; rfl) : PS X (.For tg iter body [] pos) (IC wi g tb) := by
  intro pins s σ H D I h
  refine wpAny_For (aS (hi pins s σ H _ I h) fun v s1 h1 => aS h1 fun itv s2 h2 => ?_) hs
  obtain ⟨it, fp, tn, J, H2, e, I2, T, st2, f2, W, ⟨m0, w0⟩, turn⟩ := h2
  subst e
  have stat : ∀ {H' : Hp}, (∀ b ∈ fp, H' b = none) -> ∀ b ∈ fp, fB X pins H' b := fun hn b hb => ⟨hn b hb, (f2 b hb).2⟩
  refine codeAny_forLoop_any (fun n s' => ∃ i σ' H', ak X pins σ' H' s' /\ tn i s'.heap /\ (∀ b ∈ fp, H' b = none) /\ W i n σ' H') ?_ m0 ⟨0, σ, H2, I2, st2, fun b hb => (f2 b hb).1, w0⟩
  rintro n s3 ⟨i, σ3, H3, I3, st3, fr3, w3⟩
  rcases turn i n σ3 H3 w3 with ⟨stop, qn⟩ | ⟨go, N, hN, step⟩
  . refine wpAny_passesOwn hp (aS (T.done X rfl rfl rfl hc i pins s3 σ3 H3 X.xe I3 (stat fr3) st3 stop) fun r s4 ⟨hr, I4⟩ => ?_)
    subst hr
    exact wpAny_execs_nil ⟨σ3, H3, I4, qn⟩
  . refine wpAny_passesOwn hp (aS (T.item X rfl rfl rfl hc i pins s3 σ3 H3 X.xe I3 (stat fr3) st3 go) fun r s4 ⟨u, hr, h4⟩ => ?_)
    subst hr
    refine wpAny_passesOwn hp (aS h4 fun _ s5 ⟨x, H5, I5, r5, y5, st5, fr5⟩ => ?_)
    have I5' := I5.pinned (stat fr5) (T.obj _ _ st5)
    refine wpAny_passesOwn hp (aS (hg _ s5 σ3 H5 x u _ I5' r5 (step x H5 y5)) fun _ s6 ⟨σ6, H6, I6, q6⟩ => ?_)
    refine wpAny_passesOwn hp (aS (hb _ s6 σ6 H6 _ I6 q6) fun f s7 q7 => ?_)
    have again : ∀ {σ7 : St} {H7 : Hp}, ak X (pins ++ j6 fp s5.heap) σ7 H7 s7 -> N σ7 H7 -> ∃ m, m < n /\ ∃ i σ' H', ak X pins σ' H' s7 /\ tn i s7.heap /\ (∀ b ∈ fp, H' b = none) /\ W i m σ' H' := fun {σ7 H7} I7 n7 => by
      obtain ⟨m', hm, w7⟩ := hN σ7 H7 n7
      refine ⟨m', hm, i + 1, σ7, H7, I7.unpinned, T.keep _ _ _ st5 fun b hb o e => (I7.pin (b, o) (List.mem_append_right _ (List.mem_append_right _ (gL hb e)))).1, fun b hb => ?_, w7⟩
      obtain ⟨o, e, d⟩ := T.obj _ _ st5 b hb
      exact (I7.pin (b, o) (List.mem_append_right _ (List.mem_append_right _ (gL hb e)))).2.1
    cases f with
    | next => obtain ⟨σ7, H7, I7, n7⟩ := q7; exact again I7 n7
    | cont => obtain ⟨σ7, H7, I7, n7⟩ := q7; exact again I7 n7
    | brk => obtain ⟨σ7, H7, I7, q7⟩ := q7; exact ⟨σ7, H7, I7.unpinned, q7⟩
    | ret v => obtain ⟨x7, σ7, H7, I7, r7, q7⟩ := q7; exact ⟨x7, σ7, H7, I7.unpinned, r7, q7⟩
end
end L2
namespace L2
open PySem PySem.Spec PyProof.Rows
abbrev R2 := V -> V -> Hp -> VK -> Prop
def cS (X : Cx) (f : Value -> Value -> Sem Value) (r : R2) : Prop :=
  ∀ (pins : List (Addr × Obj)) (s : Shared) (σ : St) (H : Hp) (x y : V) (v u : Value) (Q : VK), ak X pins σ H s -> aW x v -> aW y u -> r x y H Q ->
    wpAny (model X.prog X.w) X.A (f v u) (EP X pins σ Q) X.xe s
def Go (X : Cx) (f : Value -> Sem Value) (r : V -> Hp -> VK -> Prop) : Prop :=
  ∀ (pins : List (Addr × Obj)) (s : Shared) (σ : St) (H : Hp) (x : V) (v : Value) (Q : VK), ak X pins σ H s -> aW x v -> r x H Q ->
    wpAny (model X.prog X.w) X.A (f v) (EP X pins σ Q) X.xe s
def eh (X : Cx) (f : Value) (r : List V -> Hp -> VK -> Prop) : Prop :=
  ∀ (pins : List (Addr × Obj)) (s : Shared) (σ : St) (H : Hp) (xs : List V) (us : List Value) (Q : VK), ak X pins σ H s -> aL xs us -> r xs H Q ->
    wpAny (model X.prog X.w) X.A (call f us) (EP X pins σ Q) X.xe s
def Id (r : R2) (ta tb : TE) : TE := fun σ H Q => ta σ H fun x H1 => tb σ H1 fun y H2 => r x y H2 Q
def Pt (r : V -> Hp -> VK -> Prop) (ta : TE) : TE := fun σ H Q => ta σ H fun x H1 => r x H1 Q
def rI (C : Int -> Int -> Prop) (g : Int -> Int -> V) : R2 := fun x y H Q => ∃ i j, x = .int i /\ y = .int j /\ C i j /\ Q (g i j) H
def jD (g : Int -> Int -> V) : R2 := fun x y H Q => ∃ i j, x = .int i /\ y = .int j /\ Q (g i j) H
def rU (g : Int -> V) : V -> Hp -> VK -> Prop := fun x H Q => ∃ i, x = .int i /\ Q (g i) H
section
variable {X : Cx} {a b c : Expr} {ta tb tc : TE} {pos : Pos}
theorem Ge (ha : PE X a ta) (hb : PE X b tb) {pins : List (Addr × Obj)} {s : Shared} {σ : St} {H : Hp} {R : V -> V -> Hp -> Prop} (I : ak X pins σ H s)
    (h : ta σ H fun x H1 => tb σ H1 fun y H2 => R x y H2) {Q : Value -> Shared -> Prop} {f : Value -> Value -> Sem Value}
    (hf : ∀ v u s2 x y H2, ak X pins σ H2 s2 -> aW x v -> aW y u -> R x y H2 -> wpAny (model X.prog X.w) X.A (f v u) Q X.xe s2) :
    wpAny (model X.prog X.w) X.A (eval a X.env) (fun v s₁ => wpAny (model X.prog X.w) X.A (eval b X.env) (fun u s₂ => wpAny (model X.prog X.w) X.A (f v u) Q X.xe s₂) X.xe s₁) X.xe s := by
  refine aS (ha pins s σ H _ I h) fun v s1 ⟨x, H1, I1, r1, q1⟩ => ?_
  refine aS (hb pins s1 σ H1 _ I1 q1) fun u s2 ⟨y, H2, I2, r2, q2⟩ => ?_
  exact hf v u s2 x y H2 I2 r1 r2 q2
theorem Hh {op : Operator} {r : R2} (ho : cS X (binaryOp op) r) (ha : PE X a ta) (hb : PE X b tb) : PE X (.BinOp a op b pos) (Id r ta tb) := by
  intro pins s σ H Q I h
  exact wpAny_BinOp (Ge ha hb I h fun v u s2 x y H2 I2 rx ry q => ho pins s2 σ H2 x y v u Q I2 rx ry q)
theorem Hg {op : UnaryOp} {r : V -> Hp -> VK -> Prop} (ho : Go X (unaryOp op) r) (ha : PE X a ta) : PE X (.UnaryOp op a pos) (Pt r ta) := by
  intro pins s σ H Q I h
  exact UnaryOp_ (aS (ha pins s σ H _ I h) fun v s1 ⟨x, H1, I1, r1, q1⟩ => ho pins s1 σ H1 x v Q I1 r1 q1)
theorem t7 {f : Value -> Value -> Sem Value} {C : Int -> Int -> Prop} {g : Int -> Int -> Int}
    (rule : ∀ (i j : Int) (t u : Tok) (s : Shared) (Q : Value -> Shared -> Prop) (E : Value -> Shared -> Prop), C i j -> Q (.int (g i j) s.toks) { s with toks := s.toks + 1 } -> wpAny (model X.prog X.w) X.A (f (.int i t) (.int j u)) Q E s) :
    cS X f (rI C fun i j => .int (g i j)) := by
  intro pins s σ H x y v u Q I rx ry h
  obtain ⟨i, j, rfl, rfl, hc, q⟩ := h
  obtain ⟨t, rfl⟩ := rx
  obtain ⟨t', rfl⟩ := ry
  exact rule i j t t' s _ _ hc ⟨.int (g i j), H, I.tok _, ⟨_, rfl⟩, q⟩
theorem uZ {f : Value -> Value -> Sem Value} {g : Int -> Int -> Int}
    (rule : ∀ (i j : Int) (t u : Tok) (s : Shared) (Q : Value -> Shared -> Prop) (E : Value -> Shared -> Prop), Q (.int (g i j) s.toks) { s with toks := s.toks + 1 } -> wpAny (model X.prog X.w) X.A (f (.int i t) (.int j u)) Q E s) :
    cS X f (jD fun i j => .int (g i j)) := by
  intro pins s σ H x y v u Q I rx ry h
  obtain ⟨i, j, rfl, rfl, q⟩ := h
  obtain ⟨t, rfl⟩ := rx
  obtain ⟨t', rfl⟩ := ry
  exact rule i j t t' s _ _ ⟨.int (g i j), H, I.tok _, ⟨_, rfl⟩, q⟩
theorem u4 {f : Value -> Value -> Sem Value} {g : Int -> Int -> Bool}
    (rule : ∀ (i j : Int) (t u : Tok) (s : Shared) (Q : Value -> Shared -> Prop) (E : Value -> Shared -> Prop), Q (.bool (g i j)) s -> wpAny (model X.prog X.w) X.A (f (.int i t) (.int j u)) Q E s) :
    cS X f (jD fun i j => .bl (g i j)) := by
  intro pins s σ H x y v u Q I rx ry h
  obtain ⟨i, j, rfl, rfl, q⟩ := h
  obtain ⟨t, rfl⟩ := rx
  obtain ⟨t', rfl⟩ := ry
  exact rule i j t t' s _ _ ⟨.bl (g i j), H, I, rfl, q⟩
def Pp (i j : Int) : Prop := 0 <= j /\ j <= 1000000 /\ i.natAbs < 2 ^ 64
theorem Ed : cS X (binaryOp .Add) (jD fun i j => .int (i + j)) := uZ fun _ _ _ _ _ _ _ q => add_int q
theorem Ea : cS X (binaryOp .Sub) (jD fun i j => .int (i - j)) := uZ fun _ _ _ _ _ _ _ q => sub_int q
theorem BF : cS X (binaryOp .Mod) (rI (fun _ j => j ≠ 0) fun i j => .int (i.fmod j)) := t7 fun _ _ _ _ _ _ _ hc q => mod_int' hc q
theorem Eb : cS X (binaryOp .Pow) (rI Pp fun i j => .int (i ^ j.toNat)) := t7 fun _ _ _ _ _ _ _ hc q => pow_int_small hc.1 hc.2.1 hc.2.2 q
theorem B4 : cS X (inplaceOp .Add) (jD fun i j => .int (i + j)) := uZ fun _ _ _ _ _ _ _ q => iadd_int q
theorem B3 : cS X (inplaceOp .Sub) (jD fun i j => .int (i - j)) := uZ fun _ _ _ _ _ _ _ q => isub_int q
theorem Pq {f : Value -> Sem Value} {g : Int -> Int}
    (rule : ∀ (i : Int) (t : Tok) (s : Shared) (Q : Value -> Shared -> Prop) (E : Value -> Shared -> Prop), Q (.int (g i) s.toks) { s with toks := s.toks + 1 } -> wpAny (model X.prog X.w) X.A (f (.int i t)) Q E s) :
    Go X f (rU fun i => .int (g i)) := by
  intro pins s σ H x v Q I rx h
  obtain ⟨i, rfl, q⟩ := h
  obtain ⟨t, rfl⟩ := rx
  exact rule i t s _ _ ⟨.int (g i), H, I.tok _, ⟨_, rfl⟩, q⟩
theorem CW : Go X (unaryOp .USub) (rU fun i => .int (-i)) := Pq fun _ _ _ _ _ q => neg_int q
end
section
variable {X : Cx} {a b c : Expr} {ta tb tc : TE} {pos : Pos}
theorem w4 {pins : List (Addr × Obj)} {σ : St} {H : Hp} {s : Shared} {Q : VK} {k k' : Bool} (I : ak X pins σ H s) (q : Q (.bl k) H) (e : k = k') : EP X pins σ Q (.bool k') s := by
  subst e
  exact ⟨.bl k, H, I, rfl, q⟩
theorem Hk : cS X (compareOp .Lt) (jD fun i j => .bl (decide (i < j))) := u4 fun _ _ _ _ _ _ _ q => lt_int q
theorem Hl : cS X (compareOp .LtE) (jD fun i j => .bl (decide (i <= j))) := u4 fun _ _ _ _ _ _ _ q => le_int q
theorem Hm : cS X (compareOp .Gt) (jD fun i j => .bl (decide (j < i))) := u4 fun _ _ _ _ _ _ _ q => gt_int q
theorem Hn : cS X (compareOp .GtE) (jD fun i j => .bl (decide (j <= i))) := u4 fun _ _ _ _ _ _ _ q => ge_int q
theorem Ec : cS X (compareOp .Is) (fun x y H Q => y = .non /\ Q (.bl (decide (x = .non))) H) := by
  intro pins s σ H x y v u Q I rx ry h
  obtain ⟨rfl, q⟩ := h
  cases ry
  refine is_none_gen (w4 I q ?_)
  cases x <;> first
    | (cases rx; rfl)
    | (obtain ⟨t, rfl⟩ := rx; rfl)
theorem BD : cS X (compareOp .IsNot) (fun x y H Q => y = .non /\ Q (.bl (!decide (x = .non))) H) := by
  intro pins s σ H x y v u Q I rx ry h
  obtain ⟨rfl, q⟩ := h
  cases ry
  refine isnot_none_gen (w4 I q ?_)
  cases x <;> first
    | (cases rx; rfl)
    | (obtain ⟨t, rfl⟩ := rx; rfl)
def G0 (t : TE) : TT := fun σ H Q => t σ H fun x H' => ∃ k, x = .bl k /\ Q k H'
def vY (r r' : R2) (ta tb tc : TE) : TE := fun σ H Q => ta σ H fun x H1 => tb σ H1 fun y H2 => r x y H2 fun z H3 => ∃ k, z = .bl k /\
  (if k = true then tc σ H3 fun w' H4 => r' y w' H4 Q else Q (.bl false) H3)
theorem yn {op op' : CmpOp} {r r' : R2} (ho : cS X (compareOp op) r) (ho' : cS X (compareOp op') r') (ha : PE X a ta) (hb : PE X b tb) (hc : PE X c tc)
    (hm : lastMarks [op, op'] [b, c] = false := by with_unfolding_all rfl) : PE X (.Compare a [op, op'] [b, c] pos) (vY r r' ta tb tc) := by
  intro pins s σ H Q I h
  refine Compare_chain (aS (ha pins s σ H _ I h) fun v s1 ⟨x, H1, I1, r1, q1⟩ => chain_link (aS (hb pins s1 σ H1 _ I1 q1) fun u s2 ⟨y, H2, I2, r2, q2⟩ =>
    aS (ho pins s2 σ H2 x y v u _ I2 r1 r2 q2) fun d s3 ⟨z, H3, I3, r3, k, e, q3⟩ => ?_)) hm
  subst e
  cases r3
  refine wpAny_truthy_bool ?_
  cases k with
  | false => exact ite_ff ⟨.bl false, H3, I3, rfl, q3⟩
  | true => exact ite_tt (chain_last (aS (hc pins s3 σ H3 _ I3 q3) fun w' s4 ⟨z', H4, I4, r4, q4⟩ => ho' pins s4 σ H4 y z' u w' Q I4 r2 r4 q4))
theorem yd {op op' : CmpOp} {r r' : R2} (ho : cS X (compareOp op) r) (ho' : cS X (compareOp op') r') (ha : PE X a ta) (hb : PE X b tb) (hc : PE X c tc)
    (hm : lastMarks [op, op'] [b, c] = false := by with_unfolding_all rfl) : PT X (.Compare a [op, op'] [b, c] pos) (G0 (vY r r' ta tb tc)) := by
  intro pins s σ H Q I h
  refine isTrue_chain (aS (ha pins s σ H _ I h) fun v s1 ⟨x, H1, I1, r1, q1⟩ => test_link (aS (hb pins s1 σ H1 _ I1 q1) fun u s2 ⟨y, H2, I2, r2, q2⟩ =>
    aS (ho pins s2 σ H2 x y v u _ I2 r1 r2 q2) fun d s3 ⟨z, H3, I3, r3, k, e, q3⟩ => ?_)) hm
  subst e
  cases r3
  refine wpAny_truthy_bool ?_
  cases k with
  | false =>
    obtain ⟨k', e', q'⟩ := q3
    cases e'
    exact ite_ff ⟨H3, I3, q'⟩
  | true =>
    refine ite_tt (test_last (aS (hc pins s3 σ H3 _ I3 q3) fun w' s4 ⟨z', H4, I4, r4, q4⟩ => aS (ho' pins s4 σ H4 y z' u w' _ I4 r2 r4 q4) fun d' s5 ⟨z2, H5, I5, r5, k2, e2, q5⟩ => ?_))
    subst e2
    cases r5
    exact wpAny_truthy_bool ⟨H5, I5, q5⟩
theorem ki : (sizeLine : Nat) < 2 ^ 63 := by rw [sizeLine_eq]; decide
theorem eB {x : V} {us : List Value} (r : aL [x] us) : ∃ u, us = [u] /\ aW x u := by
  cases r with
  | cons r1 r2 => cases r2; exact ⟨_, rfl, r1⟩
theorem nl {x y : V} {us : List Value} (r : aL [x, y] us) : ∃ u w', us = [u, w'] /\ aW x u /\ aW y w' := by
  cases r with
  | cons r1 r2 =>
    cases r2 with
    | cons r3 r4 => cases r4; exact ⟨_, _, rfl, r1, r3⟩
theorem zd : eh X (.builtin "abs") (fun xs H Q => ∃ i, xs = [.int i] /\ Q (.int (if i < 0 then -i else i)) H) := by
  intro pins s σ H xs us Q I r h
  obtain ⟨i, rfl, q⟩ := h
  obtain ⟨u, rfl, t, rfl⟩ := eB r
  exact call_abs_int fun u tk => ⟨.int (if i < 0 then -i else i), H, I.tok _, ⟨_, rfl⟩, q⟩
theorem pZ : eh X (.type "int") (fun xs H Q => (∃ i, xs = [.int i] /\ Q (.int i) H) \/ ∃ k, xs = [.bl k] /\ Q (.int (if k then 1 else 0)) H) := by
  intro pins s σ H xs us Q I r h
  rcases h with ⟨i, rfl, q⟩ | ⟨k, rfl, q⟩
  . obtain ⟨u, rfl, t, rfl⟩ := eB r
    exact call_int_int ⟨.int i, H, I, ⟨_, rfl⟩, q⟩
  . obtain ⟨u, rfl, r1⟩ := eB r
    cases r1
    exact call_int_bool ⟨.int (if k then 1 else 0), H, I.tok _, ⟨_, rfl⟩, q⟩
end
end L2
namespace L2
open PySem PySem.Spec PyProof.Rows
structure sS (h : Heap) (x dx C : Addr) (mA : Str -> Option Value) : Prop where
  obj : h.get? x = some (W.instObj C dx)
  ns : h.Ns1 dx mA
  ne : dx ≠ x
theorem wG {h : Heap} {dx : Addr} {mA : Str -> Option Value} (n : h.Ns1 dx mA) : ∃ od, h.get? dx = some od /\ ∀ name, W.lookIn name od = some (mA name) := by
  obtain ⟨o, es, ep, ho, hd, hk, _, hm⟩ := n
  refine ⟨o, ho, fun name => ?_⟩
  have e := hm name
  unfold nsFind findBy at e
  rw [<- Array.find?_toList] at e
  unfold W.lookIn
  rw [hd]
  dsimp only
  split
  . rename_i y q
    rw [q] at e
    exact congrArg some e
  . rename_i q
    rw [q] at e
    have a : es.toList.any (·.refKey) = false := by
      rw [List.any_eq_false]
      intro y hy
      obtain ⟨z, t, hkey⟩ := hk y (Array.mem_toList_iff.mp hy)
      simp [DictEntry.refKey, hkey]
    have a' : ¬ es.toList.any (·.refKey) = true := by rw [a]; exact Bool.false_ne_true
    rw [if_neg a']
    exact congrArg some e
theorem sS.look {h : Heap} {x dx C : Addr} {mA : Str -> Option Value} (I : sS h x dx C mA) : ∃ od, W.InstAt h x (W.instObj C dx) C (some od) /\ ∀ name, W.lookIn name od = some (mA name) :=
  let ⟨od, ho, hl⟩ := wG I.ns
  ⟨od, ⟨I.obj, rfl, rfl, ho⟩, hl⟩
section
variable {prog : Program} {w : World} {A : Around} {E : Value -> Shared -> Prop} {s : Shared} {K : W.Frag} {x dx C f : Addr} {mA : Str -> Option Value} {name : Str} {v : Value}
theorem Cb {expr : Bool} {Q : Value -> Shared -> Prop} (X : K.In s.heap) (I : sS s.heap x dx C mA) (hg : W.plainGet K C name = true) (hh : W.hasDictIn K C = true)
    (ha : W.findIn K (.ref C) name = some none) (hv : mA name = some v) (hv' : W.handedIn v = true) (h : Q v { s with toks := s.toks + 1 }) :
    wpAny (model prog w) A (getAttr (.ref x) name expr) Q E s := by
  obtain ⟨od, J, hl⟩ := I.look
  exact W.get_value X J (W.plainGet_of hg).1 (W.findObj_own hh ha rfl (by rw [hl, hv])) hv' h
theorem yS {pl : Sem Bool} {Q : Value × List Value -> Shared -> Prop} (X : K.In s.heap) (I : sS s.heap x dx C mA) (hg : W.plainGet K C name = true)
    (hf : W.findIn K (.ref C) name = some (some (.ref f))) (ht : W.isFn K (.ref f) = true) (hv : mA name = none) (h : Q (.ref f, [.ref x]) s) :
    wpAny (model prog w) A (getMethod (.ref x) name pl) Q E s := by
  obtain ⟨od, J, hl⟩ := I.look
  exact W.method_fn X J (W.plainGet_of hg).1 (W.plainGet_of hg).2 hf (beq_iff_eq.mp ht) (by show (W.lookIn name od).map (·.isSome) = some false; rw [hl, hv]; rfl) h
theorem yz {R : Result -> Shared -> Prop} {vs : List Value} {kw : List (Str × Value)} (X : K.In s.heap) (hm : W.makesIn K C = true)
    (hi : W.findIn K (.ref C) "__init__" = some (some (.ref f))) (hf : W.typeIn K (.ref f) = some (.type "function"))
    (h : codeAny (model prog w) (A.under (.builtin "type.__call__" ⟨.ref C :: vs, kw⟩)) (.call (.ref f) ⟨.ref (s.heap.objs.size + 1) :: vs, kw⟩) (W.InitBack (s.heap.objs.size + 1) R)
      { s with heap := (s.heap.push W.emptyDict).push (W.instObj C s.heap.objs.size) }) :
    codeAny (model prog w) A (.call (.ref C) ⟨vs, kw⟩) R s := by
  obtain ⟨hh, g, d, t, os⟩ := s
  exact W.make_core (W.makes_of X hm) (W.looks_findIn X hi) (fun self => W.bind_fn X self hf) (.inl rfl) h
end
theorem fb.some_of {v : V} {o : Option Value} (r : fb (some v) o) : ∃ u, o = some u /\ aW v u := by
  cases o with
  | none => exact (show False from r).elim
  | some u => exact ⟨u, rfl, r⟩
theorem fb.none_of {o : Option Value} (r : fb none o) : o = none := by
  cases o with
  | none => rfl
  | some u => exact (show False from r).elim
theorem wV {v : V} {u : Value} (r : aW v u) : W.handedIn u = true := by
  cases v with
  | non => cases (show u = Value.none from r); rfl
  | bl b => cases (show u = Value.bool b from r); rfl
  | int i => obtain ⟨t, e⟩ := (show ∃ t, u = Value.int i t from r); cases e; rfl
  | str x => obtain ⟨t, e⟩ := (show ∃ t, u = Value.str x t from r); cases e; rfl
  | byt b => obtain ⟨t, e⟩ := (show ∃ t, u = Value.bytes b t from r); cases e; rfl
  | flt b => obtain ⟨t, e⟩ := (show ∃ t, u = Value.float b t from r); cases e; rfl
  | ref a => cases (show u = Value.ref a from r); rfl
  | ty n => cases (show u = Value.type n from r); rfl
section
variable {P : Program} {w : World} {H H' : Hp} {h h' : Heap} {a C dx : Addr} {fs fs' : List (Str × V)}
theorem o3 (hok : dH P w H h) (e : H a = some (.ins C dx fs)) : ∃ mA, sS h a dx C mA /\ (∀ f, fb (fs.lookup f) (mA f)) /\ PySem.Within mA (fs.map (·.1)) /\ fs.length <= 1000 /\ H dx = some (.own a) := by
  obtain ⟨d, z, ne, ob, mA, n, r, q⟩ := (show cg P w H h a (.ins C dx fs) from hok a _ e)
  exact ⟨mA, ⟨ob, n, ne⟩, r, q, z, d⟩
end
structure gK (K : W.Frag) (C : Addr) : Prop where
  pg : W.plainGet K C Str.empty = true
  hd : W.hasDictIn K C = true
  po : W.plainOver K C = true
  sa : W.findIn K (.ref C) "__setattr__" = some (some (.builtin "object.__setattr__"))
theorem gK.get {K : W.Frag} {C : Addr} (c : gK K C) (f : Str) : W.plainGet K C f = true := c.pg
def oM (K : W.Frag) (C : Addr) (f : Str) : Prop := W.findIn K (.ref C) f = some none
structure sT (K : W.Frag) (C : Addr) (m : Str) (f : Addr) : Prop where
  at_ : W.findIn K (.ref C) m = some (some (.ref f))
  fn : W.isFn K (.ref f) = true
  kp : W.keepIn K (.ref f) = true
section
variable {X : Cx} {pins : List (Addr × Obj)} {σ : St} {H : Hp} {s : Shared} {a C dx : Addr} {fs : List (Str × V)} {f : Str} {v : V} {A : Around} {E : Value -> Shared -> Prop}
theorem vp {b : Bool} {Q : Value -> Shared -> Prop} (I : ak X pins σ H s) (e : H a = some (.ins C dx fs)) (c : gK X.K C) (n : oM X.K C f) (l : fs.lookup f = some v)
    (h : ∀ u s', ak X pins σ H s' -> aW v u -> Q u s') : wpAny (model X.prog X.w) A (getAttr (.ref a) f b) Q E s := by
  obtain ⟨mA, O, r, _, _, _⟩ := o3 I.hok e
  obtain ⟨u, hu, ru⟩ := fb.some_of (v := v) (o := mA f) (by rw [<- l]; exact r f)
  exact Cb I.kIn O (c.get f) c.hd n hu (wV ru) (h u _ (I.tok _) ru)
theorem nZ {m : Str} {g : Addr} {pl : Sem Bool} {Q : Value × List Value -> Shared -> Prop} (I : ak X pins σ H s) (e : H a = some (.ins C dx fs)) (c : gK X.K C) (k : sT X.K C m g) (l : fs.lookup m = none)
    (h : Q (.ref g, [.ref a]) s) : wpAny (model X.prog X.w) A (getMethod (.ref a) m pl) Q E s := by
  obtain ⟨mA, O, r, _, _, _⟩ := o3 I.hok e
  have hn : mA m = none := fb.none_of (by rw [<- l]; exact r m)
  exact yS I.kIn O (c.get m) k.at_ k.fn hn h
theorem ak.made (I : ak X pins σ H s) : ak X pins σ (bh (bh H s.heap.objs.size (.own (s.heap.objs.size + 1))) (s.heap.objs.size + 1) (.ins C s.heap.objs.size []))
    { s with heap := (s.heap.push W.emptyDict).push (W.instObj C s.heap.objs.size) } := by
  have e1 : (s.heap.push W.emptyDict).get? s.heap.objs.size = some W.emptyDict := Heap.get?_push_size s.heap rfl
  have e2 : ((s.heap.push W.emptyDict).push (W.instObj C s.heap.objs.size)).get? (s.heap.objs.size + 1) = some (W.instObj C s.heap.objs.size) := by
    have := Heap.get?_push_size (s.heap.push W.emptyDict) (o := W.instObj C s.heap.objs.size) rfl
    rwa [Heap.size_push] at this
  have e3 : (s.heap.push W.emptyDict).Ns s.heap.objs.size (fun _ => none) := ⟨W.emptyDict, #[], _, e1, rfl, (fun e he => absurd he (by simp)), fun _ => rfl⟩
  have I1 := I.laid (a := s.heap.objs.size) (o := .own (s.heap.objs.size + 1)) (h' := s.heap.push W.emptyDict) (t' := s.toks) (fun b u q => Heap.get?_push_of_some _ q) (Nat.le_refl _) ⟨_, e1⟩
  refine I1.laid (a := s.heap.objs.size + 1) (o := .ins C s.heap.objs.size []) (t' := s.toks) (fun b u q => Heap.get?_push_of_some _ q) (Nat.le_of_eq (Heap.size_push _ _)) ?_
  have ne : s.heap.objs.size ≠ s.heap.objs.size + 1 := Nat.ne_of_lt (Nat.lt_succ_self _)
  refine ⟨by rw [aO ne, aU], Nat.zero_le _, ne, e2, fun _ => none, (Heap.Ns1.of_empty e3).at fun o q => Heap.get?_push_of_some _ q, fun _ => True.intro, fun y hy => absurd rfl hy⟩
theorem CJ {prog : Program} {w : World} {env : Env} {e : Expr} {f : Str} {pos : Pos} {s : Shared} {Q : Value -> Shared -> Prop} (hb : attributeBase e f env (eval e env) = eval e env)
    (h : wpAny (model prog w) A (eval e env) (fun o s₁ => wpAny (model prog w) A (getAttr o f true) Q E s₁) E s) : wpAny (model prog w) A (eval (.Attribute e f pos) env) Q E s :=
  Attribute_any_ h (by rw [arm_eval_Attribute, hb])
end
def ID (K : W.Frag) (ta : TE) (f : Str) : TE := fun σ H Q => ta σ H fun x H1 => ∃ a C dx fs v, x = .ref a /\ H1 a = some (.ins C dx fs) /\ gK K C /\ oM K C f /\ fs.lookup f = some v /\ Q v H1
section
variable {X : Cx} {o e value : Expr} {f : Str} {pos pos' tpos : Pos} {ta tv : TE}
theorem DZ (he : PE X e ta) (hb : attributeBase e f X.env (eval e X.env) = eval e X.env) : PE X (.Attribute e f pos) (ID X.K ta f) := by
  intro pins s σ H Q I h
  refine CJ hb (aS (he pins s σ H _ I h) fun u s1 ⟨x, H1, I1, rx, a, C, dx, fs, v, ex, ea, c, n, l, q⟩ => ?_)
  subst ex
  obtain rfl : u = Value.ref a := rx
  exact vp I1 ea c n l fun u' s2 I2 ru => ⟨v, H1, I2, ru, q⟩
end
section
variable {X : Cx} {pins : List (Addr × Obj)} {σ : St} {H : Hp} {s : Shared} {A : Around} {E : Value -> Shared -> Prop} {Q : Value -> Shared -> Prop} {c : Value} {b : Bool}
inductive gB (K : W.Frag) (H : Hp) : V -> Value -> Prop where
  | non : gB K H .non (.type "NoneType")
  | bl (x : Bool) : gB K H (.bl x) (.type "bool")
  | int (i : Int) : gB K H (.int i) (.type "int")
  | str (x : Str) : gB K H (.str x) (.type "str")
  | flt (x : UInt64) : gB K H (.flt x) (.type "float")
  | lst {a : Addr} {xs : List V} (e : H a = some (.lst xs)) : gB K H (.ref a) (.type "list")
  | frz {a : Addr} {o : Obj} {xs : List V} (e : H a = some (.frz o (.lst xs))) : gB K H (.ref a) (.type "list")
  | tup {a : Addr} {xs : List V} (e : H a = some (.tup xs)) : gB K H (.ref a) (.type "tuple")
  | dK {a : Addr} {kvs : List (bY × V)} (e : H a = some (.dK kvs)) : gB K H (.ref a) (.type "dict")
  | dT {a : Addr} {kvs : List (List bY × V)} (e : H a = some (.dT kvs)) : gB K H (.ref a) (.type "dict")
  | ins {a C dx : Addr} {fs : List (Str × V)} (e : H a = some (.ins C dx fs)) (cl : gK K C) (ha : W.findIn K (.ref C) "__class__" = some (some (.builtin "object.__class__")))
      (hn : W.specialIn K (.builtin "object.__class__") "__get__" = some (some (.builtin "getset_descriptor.__get__"))) (htk : W.takesIn K (.builtin "object.__class__") = some true)
      (hm : W.mroIn K C (.type "object") = some true) : gB K H (.ref a) (.ref C)
theorem pS {x : V} {u t : Value} (I : ak X pins σ H s) (rx : aW x u) (ty : gB X.K H x t) (e : W.kitOne X.K t c = some b) (h : ∀ tk, Q (.bool b) { s with toks := tk }) :
    wpAny (model X.prog X.w) A (call (.builtin "isinstance") [u, c]) Q E s := by
  cases ty with
  | non => cases (show u = Value.none from rx); exact W.kia_one W.kitx_none I.kIn True.intro e (fun z => nomatch z) h
  | bl y => cases (show u = Value.bool y from rx); exact W.kia_one W.kitx_bool I.kIn True.intro e (fun z => nomatch z) h
  | int i => obtain ⟨t, q⟩ := (show ∃ t, u = Value.int i t from rx); cases q; exact W.kia_one W.kitx_int I.kIn True.intro e (fun z => nomatch z) h
  | str y => obtain ⟨t, q⟩ := (show ∃ t, u = Value.str y t from rx); cases q; exact W.kia_one W.kitx_str I.kIn True.intro e (fun z => nomatch z) h
  | flt y => obtain ⟨t, q⟩ := (show ∃ t, u = Value.float y t from rx); cases q; exact W.kia_one W.kitx_float I.kIn True.intro e (fun z => nomatch z) h
  | @lst a xs ea =>
    cases (show u = Value.ref a from rx)
    obtain ⟨_, _, n, _, h1⟩ := (show cg X.prog X.w H s.heap a (.lst xs) from I.hok a _ ea)
    exact W.kia_one W.kitx_list I.kIn ⟨_, h1, rfl⟩ e (fun z => nomatch z) h
  | @frz a ob xs ea =>
    cases (show u = Value.ref a from rx)
    obtain ⟨_, _, _, n, _, h1⟩ := (show cg X.prog X.w H s.heap a (.frz ob (.lst xs)) from I.hok a _ ea)
    exact W.kia_one W.kitx_list I.kIn ⟨_, h1, rfl⟩ e (fun z => nomatch z) h
  | @tup a xs ea =>
    cases (show u = Value.ref a from rx)
    obtain ⟨_, _, _, p⟩ := (show cg X.prog X.w H s.heap a (.tup xs) from I.hok a _ ea)
    obtain ⟨o, h1, h2, _⟩ := p
    exact W.kia_one W.kitx_tuple I.kIn ⟨o, h1, h2⟩ e (fun z => nomatch z) h
  | @dK a kvs ea =>
    cases (show u = Value.ref a from rx)
    obtain ⟨_, _, vs, _, p⟩ := (show cg X.prog X.w H s.heap a (.dK kvs) from I.hok a _ ea)
    obtain ⟨o, es, ep, h1, h2, _⟩ := p
    exact W.kia_one W.kitx_dict I.kIn ⟨o, h1, h2.1⟩ e (fun z => nomatch z) h
  | @dT a kvs ea =>
    cases (show u = Value.ref a from rx)
    obtain ⟨_, _, xs, _, o, es, ep, h1, h2, _⟩ := (show cg X.prog X.w H s.heap a (.dT kvs) from I.hok a _ ea)
    exact W.kia_one W.kitx_dict I.kIn ⟨o, h1, h2.1⟩ e (fun z => nomatch z) h
  | @ins a C dx fs ea cl ha hn htk hm =>
    cases (show u = Value.ref a from rx)
    obtain ⟨mA, O, _⟩ := o3 I.hok ea
    obtain ⟨od, J, _⟩ := O.look
    exact W.kia_one (W.kitx_own (cl.get _) cl.hd ha hn htk hm) I.kIn J e (fun z => nomatch z) h
end
end L2
namespace L2
open PySem PySem.Spec PyProof.Rows
structure cq (k : Nat) (A : Around) : Prop where
  hd : A.handled = none
  dp : A.depth + 3 * k + 5 < recursionLimit
  un : A.units + 16 * k + 200 < cLine
theorem cq.mono {j k : Nat} {A : Around} (r : cq k A) (h : j <= k) : cq j A := ⟨r.hd, by have := r.dp; omega, by have := r.un; omega⟩
theorem cq.deeper {k : Nat} {A : Around} (r : cq (k + 1) A) (env : Env) : cq k (A.deeper env) :=
  ⟨r.hd, by have := r.dp; show A.depth + 1 + 3 * k + 5 < _; omega, by have := r.un; show A.units + 3 + 16 * k + 200 < _; omega⟩
theorem cq.in1 {k : Nat} {A : Around} (r : cq (k + 1) A) : cq k A.in1 :=
  ⟨r.hd, by have := r.dp; show A.depth + 3 * k + 5 < _; omega, by have := r.un; show A.units + 1 + 16 * k + 200 < _; omega⟩
theorem vf {A : Around} {C : Addr} {us : List Value} {kw : List (Str × Value)} : (A.under (.builtin "type.__call__" ⟨.ref C :: us, kw⟩)).depth = A.depth + 1 := by
  first | rfl | simp [Around.under, Code.weight, Code.isCreation, Code.isGuard, Code.isCaller, Code.frames, Code.isFrame, guardIds]
theorem ve {A : Around} {C : Addr} {us : List Value} {kw : List (Str × Value)} : (A.under (.builtin "type.__call__" ⟨.ref C :: us, kw⟩)).units = A.units + 1 := by
  first | rfl | simp [Around.under, Code.cUnits, Code.frames, Code.isFrame]
theorem cq.make {k : Nat} {A : Around} (r : cq (k + 1) A) (C : Addr) (us : List Value) (kw : List (Str × Value)) : cq k (A.under (.builtin "type.__call__" ⟨.ref C :: us, kw⟩)) :=
  ⟨r.hd, by have := r.dp; rw [vf]; omega, by have := r.un; rw [ve]; omega⟩
theorem cq.depth {k : Nat} {A : Around} (r : cq k A) : A.depth < recursionLimit := by have := r.dp; omega
theorem cq.units {k : Nat} {A : Around} (r : cq k A) : A.units + 64 < cLine := by have := r.un; omega
def uO : TA := fun _ H Q => Q [] H
def G6 (ta : TE) (tr : TA) : TA := fun σ H Q => ta σ H fun x H1 => tr σ H1 fun xs H2 => Q (x :: xs) H2
section
variable {X : Cx} {e : Expr} {es : List Expr} {te : TE} {t : TA} {pos : Pos}
theorem D4 : PA X [] uO := fun _ _ _ _ H Q I h => Calls.spliced_nil ⟨[], H, I, .nil, h⟩
theorem BC (ha : PE X e te) (hr : PA X es t) (hs : starEach (e :: es) X.env = (false, eval e X.env) :: starEach es X.env := by rfl) : PA X (e :: es) (G6 te t) := by
  intro pos pins s σ H Q I h
  rw [hs]
  show wpAny _ _ (spliced ((false, eval e X.env) :: backTo pos (starEach es X.env))) _ _ s
  refine Calls.spliced_cons (aS (ha pins s σ H _ I h) fun u s1 ⟨x, H1, I1, r1, q1⟩ => ?_)
  exact aS (hr pos pins s1 σ H1 _ I1 q1) fun us s2 ⟨xs, H2, I2, r2, q2⟩ => ⟨x :: xs, H2, I2, .cons r1 r2, q2⟩
def Iu (t : TA) : TE := fun σ H Q => t σ H fun xs H1 => xs.length <= sizeLine /\ ∀ p, H1 p = none -> Q (.ref p) (bh H1 p (.tup xs))
def IA (t : TA) : TE := fun σ H Q => t σ H fun xs H1 => xs.length <= sizeLine /\ ∀ p, H1 p = none -> Q (.ref p) (bh H1 p (.lst xs))
theorem DS {x1} (h : PA X es t) : PE X (.Tuple es x1 pos) (Iu t) := by
  intro pins s σ H Q I hq
  refine wpAny_Tuple_spliced (aS (h pos pins s σ H _ I hq) fun us s1 ⟨xs, H1, I1, r, z, q⟩ => ⟨by rw [<- r.length]; exact z, ?_⟩)
  have hf : H1 s1.heap.objs.size = none := I1.hok.fresh (Nat.le_refl _)
  refine ⟨.ref s1.heap.objs.size, bh H1 s1.heap.objs.size (.tup xs), I1.laid (t' := s1.toks) (fun b u e => Heap.get?_push_of_some _ e) (Nat.le_refl _) ?_, rfl, q _ hf⟩
  exact ⟨z, us, r, ⟨_, Heap.get?_push_size _ rfl, rfl, _, rfl⟩⟩
theorem DX (h : PA X es t) : PE X (.List es pos) (IA t) := by
  intro pins s σ H Q I hq
  refine wpAny_List_spliced (aS (h pos pins s σ H _ I hq) fun us s1 ⟨xs, H1, I1, r, z, q⟩ => ⟨by rw [<- r.length]; exact z, ?_⟩)
  have hf : H1 s1.heap.objs.size = none := I1.hok.fresh (Nat.le_refl _)
  refine ⟨.ref s1.heap.objs.size, bh H1 s1.heap.objs.size (.lst xs), I1.laid (t' := s1.toks) (fun b u e => Heap.get?_push_of_some _ e) (Nat.le_refl _) ?_, rfl, q _ hf⟩
  exact ⟨z, us, 0, r, Heap.get?_push_size _ rfl⟩
end
abbrev Sp := List V -> Hp -> VK -> XK -> Prop
abbrev jJ := List Env -> Hp -> Shared -> XK -> Value -> Shared -> Prop
structure iR (P : Program) (w : World) (K : W.Frag) (mg : Str -> Option Value) (base : Heap) (A : Around) (outer : List Env) (s : Shared) (H : Hp) : Prop where
  frames : A.frames = some outer
  mod : Mod K mg base
  bs : ∀ b o, base.get? b = some o -> s.heap.get? b = some o /\ H b = none
  bsz : base.objs.size <= s.heap.objs.size
  funs : s.heap.FunFrames base outer
  frf : ∀ b ∈ i6 outer, H b = none
  hok : dH P w H s.heap
  bare : AllBare s.gens
def CE (outer : List Env) (P : Program) (w : World) (H : Hp) (s : Shared) (Q : VK) (u : Value) (s' : Shared) : Prop :=
  ∃ v H', s'.os = s.os /\ AllBare s'.gens /\ Un (i6 outer) [] H H' s.heap s'.heap /\ dH P w H' s'.heap /\ aW v u /\ Q v H'
def CR (CX : jJ) (outer : List Env) (P : Program) (w : World) (H : Hp) (s : Shared) (Q : VK) (E : XK) (r : Result) (s' : Shared) : Prop :=
  match r with
  | .ok (.ret u) => CE outer P w H s Q u s'
  | .ok _ => False
  | .error e => CX outer H s E e s'
structure cR (P : Program) (w : World) (K : W.Frag) (mg : Str -> Option Value) (base : Heap) (CX : jJ) (k : Nat) (f : Addr) (fd : FuncData) (ps : List Str) (sp : Sp) : Prop where
  len : ∀ vs H Q E, sp vs H Q E -> vs.length = ps.length
  run : ∀ (A : Around) (outer : List Env) (s : Shared) (H : Hp) (args : Args) (us : List Value) (vs : List V) (Q : VK) (E : XK), cq k A -> iR P w K mg base A outer s H -> BindsTo s fd args (ps.zip us) -> aL vs us -> sp vs H Q E ->
    codeAny (model P w) A (.call (.ref f) args) (CR CX outer P w H s Q E) s
theorem cR.mono {P : Program} {w : World} {K : W.Frag} {mg : Str -> Option Value} {base : Heap} {CX : jJ} {j k : Nat} {f : Addr} {fd : FuncData} {ps : List Str} {sp : Sp} (F : cR P w K mg base CX j f fd ps sp) (h : j <= k) :
    cR P w K mg base CX k f fd ps sp := ⟨F.len, fun A outer s H args us vs Q E hr => F.run A outer s H args us vs Q E (hr.mono h)⟩
theorem iR.make {P : Program} {w : World} {K : W.Frag} {mg : Str -> Option Value} {base : Heap} {A : Around} {outer : List Env} {s : Shared} {H : Hp} (e : iR P w K mg base A outer s H) (C : Addr) (us : List Value) (kw : List (Str × Value)) :
    iR P w K mg base (A.under (.builtin "type.__call__" ⟨.ref C :: us, kw⟩)) outer s H := ⟨by first | exact e.frames | (simpa [Around.under, Code.envs, Code.isFrame, pushEnvs] using e.frames), e.mod, e.bs, e.bsz, e.funs, e.frf, e.hok, e.bare⟩
theorem iR.in1 {P : Program} {w : World} {K : W.Frag} {mg : Str -> Option Value} {base : Heap} {A : Around} {outer : List Env} {s : Shared} {H : Hp} (e : iR P w K mg base A outer s H) :
    iR P w K mg base A.in1 outer s H := ⟨e.frames, e.mod, e.bs, e.bsz, e.funs, e.frf, e.hok, e.bare⟩
section
variable {X : Cx} {pins : List (Addr × Obj)} {σ : St} {H : Hp} {s s' : Shared}
theorem ak.env0 (I : ak X pins σ H s) : iR X.prog X.w X.K X.mg X.base X.A X.stack s H :=
  ⟨I.ok.frames, I.ok.mod, I.bs, Nat.le_trans I.ok.bsz I.sz, I.stack, I.stkFree, I.hok, I.bare⟩
theorem ak.after {Q : VK} {u : Value} (I : ak X pins σ H s) (h : CE X.stack X.prog X.w H s Q u s') : EP X pins σ Q u s' := by
  obtain ⟨v, H', os, bare, un, hok, r, q⟩ := h
  obtain ⟨hh, g, d, t, os'⟩ := s'
  obtain rfl : os' = s.os := os
  exact ⟨v, H', I.call (h' := hh) (g' := g) (d' := d) (t' := t) (ch := []) un hok bare (fun b z => absurd z (by simp)), r, q⟩
end
def zW (sp : Sp) (dvs : List V) (E : XK) (t : TA) : TE := fun σ H Q => t σ H fun vs H1 => sp (vs ++ dvs) H1 Q E
def zU (C : Addr) (m : Str) (sp : Sp) (dvs : List V) (E : XK) (ta : TE) (t : TA) : TE := fun σ H Q => ta σ H fun x H1 => ∃ a dx fs, x = .ref a /\ H1 a = some (.ins C dx fs) /\ fs.lookup m = none /\
  t σ H1 fun vs H2 => sp (x :: (vs ++ dvs)) H2 Q E
def zV (C : Addr) (sp : Sp) (dvs : List V) (E : XK) (t : TA) : TE := fun σ H Q => t σ H fun vs H1 => ∀ x dx, H1 x = none -> H1 dx = none -> dx ≠ x ->
  sp (.ref x :: (vs ++ dvs)) (bh (bh H1 dx (.own x)) x (.ins C dx [])) (fun v H2 => v = .non /\ Q (.ref x) H2) E
def cW (K : W.Frag) (fd : FuncData) (ps : List Str) (ds : List Value) : Prop :=
  ∀ (s : Shared) (us : List Value), K.In s.heap -> (us ++ ds).length = ps.length -> BindsTo s fd ⟨us, []⟩ (ps.zip (us ++ ds))
theorem cW.all {K : W.Frag} {fd : FuncData} {ps : List Str} (h : ∀ us : List Value, us.length = ps.length -> bindArgs fd ⟨us, []⟩ = pure (ps.zip us)) : cW K fd ps [] := fun s us _ hl => by
  rw [List.append_nil] at hl ⊢
  exact .of_eq (h us hl)
def fz (CX : jJ) (X : Cx) (E : XK) : Prop := ∀ (pins : List (Addr × Obj)) (σ : St) (H : Hp) (s : Shared) (e : Value) (s' : Shared), ak X pins σ H s -> CX X.stack H s E e s' -> X.xe e s'
section
variable {X : Cx} {CX : jJ} {k : Nat} {f C : Addr} {fd : FuncData} {ps : List Str} {sp : Sp} {dvs : List V} {ds : List Value} {E : XK} {x m : Str} {p pos apos : Pos} {e o : Expr} {es : List Expr} {ta : TE} {t : TA}
theorem nG {pins : List (Addr × Obj)} {σ : St} {H : Hp} {s : Shared} {Q : VK} {us : List Value} {vs : List V} (F : cR X.prog X.w X.K X.mg X.base CX k f fd ps sp) (hr : cq k X.A) (hb : cW X.K fd ps ds) (hd : aL dvs ds) (hx : fz CX X E)
    (I : ak X pins σ H s) (r : aL vs us) (h : sp (vs ++ dvs) H Q E) : wpAny (model X.prog X.w) X.A (call (.ref f) us) (EP X pins σ Q) X.xe s := by
  have r2 : aL (vs ++ dvs) (us ++ ds) := r.append hd
  have hl : (us ++ ds).length = ps.length := by rw [<- r2.length]; exact F.len _ _ _ _ h
  refine wpAny_call (codeAny_mono (F.run X.A X.stack s H ⟨us, []⟩ (us ++ ds) (vs ++ dvs) Q E hr I.env0 (hb s us I.kIn hl) r2 h) fun r s' hq => ?_)
  cases r with
  | error e => exact hx pins σ H s e s' I hq
  | ok fl =>
    cases fl with
    | ret u => exact I.after hq
    | next => exact False.elim hq
    | brk => exact False.elim hq
    | cont => exact False.elim hq
theorem Bz (F : cR X.prog X.w X.K X.mg X.base CX k f fd ps sp) (hr : cq k X.A) (hg : Gl X x) (hm : X.mg x = some (.ref f)) (hk : W.keepIn X.K (.ref f) = true) (hb : cW X.K fd ps ds) (hd : aL dvs ds) (hx : fz CX X E)
    (ha : PA X (e :: es) t) (hdb : (x == ("__debug__" : Str)) = false := by decide) (he : starEach (e :: es) X.env = (false, eval e X.env) :: starEach es X.env := by rfl) (hpl : (backTo pos (starEach es X.env)).any (·.1) = false := by rfl) :
    PE X (.Call (.Name x p) (e :: es) [] pos) (zW sp dvs E t) := by
  intro pins s σ H Q I h
  refine wpAny_Call_Name_kw (i5 I hg hm ?_ hdb)
  refine W.callWith_K (h₀ := X.base) I.ok.mod.kin hk (aS (ha pos pins s σ H _ I h) fun us s1 ⟨vs, H1, I1, r, q⟩ => ⟨I1.kIn, ?_⟩) he hpl
  exact nG F hr hb hd hx I1 r q
theorem yp (F : cR X.prog X.w X.K X.mg X.base CX k f fd ps sp) (hr : cq k X.A) (hg : Gl X x) (hm : X.mg x = some (.ref f)) (hk : W.keepIn X.K (.ref f) = true) (hb : cW X.K fd ps ds) (hd : aL dvs ds) (hx : fz CX X E)
    (hdb : (x == ("__debug__" : Str)) = false := by decide) : PE X (.Call (.Name x p) [] [] pos) (zW sp dvs E uO) := by
  intro pins s σ H Q I h
  refine wpAny_Call_Name_kw (i5 I hg hm ?_ hdb)
  exact W.callWith_K0 I.kIn hk (nG (us := []) F hr hb hd hx I .nil h)
theorem Bw {pl : Sem Bool} (he : PE X o ta) (c : gK X.K C) (hm : sT X.K C m f) (F : cR X.prog X.w X.K X.mg X.base CX k f fd ps sp) (hr : cq k X.A) (hb : cW X.K fd ps ds) (hd : aL dvs ds) (hx : fz CX X E) (ha : PA X (e :: es) t)
    (hst : starEach (e :: es) X.env = (false, eval e X.env) :: starEach es X.env := by rfl) (hpl : (backTo pos (starEach es X.env)).any (·.1) = false := by rfl)
    (ht : eval (.Call (.Attribute o m apos) (e :: es) [] pos) X.env = (do
      let ov <- eval o X.env
      standAt apos.atName
      let (f, first) <- holding [ov] (getMethod ov m pl)
      callWith pos f first (backTo pos (starEach (e :: es) X.env)) (backToKw pos (keywordEach [] X.env))) := by rfl) :
    PE X (.Call (.Attribute o m apos) (e :: es) [] pos) (zU C m sp dvs E ta t) := by
  intro pins s σ H Q I h
  refine W.methodCall_KW (pl := pl) (aS (he pins s σ H _ I h) fun u s1 ⟨x, H1, I1, rx, a, dx, fs, ex, ea, l, q⟩ => ?_) ht
  subst ex
  obtain rfl : u = Value.ref a := rx
  refine nZ I1 ea c hm l ?_
  refine W.callWith_K (first := [.ref a]) (h₀ := X.base) I.ok.mod.kin hm.kp (aS (ha pos pins s1 σ H1 _ I1 q) fun us s2 ⟨vs, H2, I2, r, q2⟩ => ⟨I2.kIn, ?_⟩) hst hpl
  exact nG (us := .ref a :: us) (vs := .ref a :: vs) F hr hb hd hx I2 (.cons rfl r) q2
theorem yk {pl : Sem Bool} (he : PE X o ta) (c : gK X.K C) (hm : sT X.K C m f) (F : cR X.prog X.w X.K X.mg X.base CX k f fd ps sp) (hr : cq k X.A) (hb : cW X.K fd ps ds) (hd : aL dvs ds) (hx : fz CX X E)
    (ht : eval (.Call (.Attribute o m apos) [] [] pos) X.env = (do
      let ov <- eval o X.env
      standAt apos.atName
      let (f, first) <- holding [ov] (getMethod ov m pl)
      callWith pos f first (backTo pos (starEach [] X.env)) (backToKw pos (keywordEach [] X.env))) := by rfl) :
    PE X (.Call (.Attribute o m apos) [] [] pos) (zU C m sp dvs E ta uO) := by
  intro pins s σ H Q I h
  refine W.methodCall_KW (pl := pl) (aS (he pins s σ H _ I h) fun u s1 ⟨x, H1, I1, rx, a, dx, fs, ex, ea, l, q⟩ => ?_) ht
  subst ex
  obtain rfl : u = Value.ref a := rx
  refine nZ I1 ea c hm l ?_
  exact W.callWith_K0 (first := [.ref a]) I1.kIn hm.kp (nG (us := [.ref a]) (vs := [.ref a]) F hr hb hd hx I1 (.cons rfl .nil) q)
structure Mk (K : W.Frag) (C f : Addr) : Prop where
  makes : W.makesIn K C = true
  init : W.findIn K (.ref C) "__init__" = some (some (.ref f))
  fn : W.isFn K (.ref f) = true
  kp : W.keepIn K (.ref C) = true
theorem qW {pins : List (Addr × Obj)} {σ : St} {H : Hp} {s : Shared} {Q : VK} {us : List Value} {vs : List V} (M : Mk X.K C f) (F : cR X.prog X.w X.K X.mg X.base CX k f fd ps sp) (hr : cq (k + 1) X.A) (hb : cW X.K fd ps ds) (hd : aL dvs ds)
    (hx : fz CX X E) (I : ak X pins σ H s) (r : aL vs us)
    (h : ∀ x dx, H x = none -> H dx = none -> dx ≠ x -> sp (.ref x :: (vs ++ dvs)) (bh (bh H dx (.own x)) x (.ins C dx [])) (fun v H2 => v = .non /\ Q (.ref x) H2) E) :
    wpAny (model X.prog X.w) X.A (call (.ref C) us) (EP X pins σ Q) X.xe s := by
  have hq := h (s.heap.objs.size + 1) s.heap.objs.size (I.hok.fresh (Nat.le_succ _)) (I.hok.fresh (Nat.le_refl _)) (Nat.ne_of_lt (Nat.lt_succ_self _))
  have I2 := ak.made (C := C) I
  have r2 : aL (V.ref (s.heap.objs.size + 1) :: (vs ++ dvs)) (Value.ref (s.heap.objs.size + 1) :: (us ++ ds)) := .cons rfl (r.append hd)
  have hl : (Value.ref (s.heap.objs.size + 1) :: us ++ ds).length = ps.length := by
    have e := r2.length
    rw [F.len _ _ _ _ hq] at e
    exact e.symm
  refine wpAny_call (yz (f := f) I.kIn M.makes M.init (beq_iff_eq.mp M.fn) (codeAny_mono (F.run _ X.stack _ _ ⟨Value.ref (s.heap.objs.size + 1) :: us, []⟩ (Value.ref (s.heap.objs.size + 1) :: (us ++ ds)) _ _ E (hr.make C us [])
    (I2.env0.make C us []) (hb _ (Value.ref (s.heap.objs.size + 1) :: us) I2.kIn hl) r2 hq) fun r s' hq' => ?_))
  cases r with
  | error e => exact hx pins σ _ _ e s' I2 hq'
  | ok fl =>
    cases fl with
    | ret u =>
      obtain ⟨v, H', I3, rv, ev, q3⟩ := I2.after hq'
      subst ev
      exact ⟨rv, ⟨V.ref (s.heap.objs.size + 1), H', I3, rfl, q3⟩⟩
    | next => exact False.elim hq'
    | brk => exact False.elim hq'
    | cont => exact False.elim hq'
theorem Bx (M : Mk X.K C f) (F : cR X.prog X.w X.K X.mg X.base CX k f fd ps sp) (hr : cq (k + 1) X.A) (hg : Gl X x) (hm : X.mg x = some (.ref C)) (hb : cW X.K fd ps ds) (hd : aL dvs ds) (hx : fz CX X E)
    (ha : PA X (e :: es) t) (hdb : (x == ("__debug__" : Str)) = false := by decide) (he : starEach (e :: es) X.env = (false, eval e X.env) :: starEach es X.env := by rfl) (hpl : (backTo pos (starEach es X.env)).any (·.1) = false := by rfl) :
    PE X (.Call (.Name x p) (e :: es) [] pos) (zV C sp dvs E t) := by
  intro pins s σ H Q I h
  refine wpAny_Call_Name_kw (i5 I hg hm ?_ hdb)
  refine W.callWith_K (h₀ := X.base) I.ok.mod.kin M.kp (aS (ha pos pins s σ H _ I h) fun us s1 ⟨vs, H1, I1, r, q⟩ => ⟨I1.kIn, ?_⟩) he hpl
  exact qW M F hr hb hd hx I1 r q
theorem ym (M : Mk X.K C f) (F : cR X.prog X.w X.K X.mg X.base CX k f fd ps sp) (hr : cq (k + 1) X.A) (hg : Gl X x) (hm : X.mg x = some (.ref C)) (hb : cW X.K fd ps ds) (hd : aL dvs ds) (hx : fz CX X E)
    (hdb : (x == ("__debug__" : Str)) = false := by decide) : PE X (.Call (.Name x p) [] [] pos) (zV C sp dvs E uO) := by
  intro pins s σ H Q I h
  refine wpAny_Call_Name_kw (i5 I hg hm ?_ hdb)
  exact W.callWith_K0 I.kIn M.kp (qW (us := []) M F hr hb hd hx I .nil h)
end
section
variable {X : Cx} {CX : jJ} {k : Nat} {f C : Addr} {fd : FuncData} {ps ks : List Str} {sp : Sp} {E : XK} {x m : Str} {p pos apos kpos : Pos} {e o : Expr} {es : List Expr} {kws : List Keyword} {te ta : TE} {t tk : TA} {nm : Option Str}
variable {g : List Value -> List Value -> List Value} {gV : List V -> List V -> List V}
end
structure aK (N P : List Str) (sc : Scope) : Prop where
  kind : sc.kind = .function
  co : sc.isCoroutine = false
  gen : sc.isGenerator = false
  nd : N.Nodup
  pre : N.take P.length = P
  par : ∀ x ∈ P, sc.names.lookup x = some .local \/ sc.names.lookup x = some .cell
  nofree : ∀ y ∈ sc.names, y.2 ≠ .free
theorem p9 {kindOf : Str -> Option NameKind} {x : Str} : ∀ {binds : List (Str × Value)} {m : Str -> Option Value}, (∀ v, (x, v) ∉ binds) -> bindL kindOf binds m x = m x
  | [], _, _ => rfl
  | (n, v) :: r, m, h => by
    unfold bindL
    rw [p9 fun w hw => h w (List.mem_cons_of_mem _ hw)]
    split
    . have : x ≠ n := by rintro rfl; exact h v List.mem_cons_self
      simp [this]
    . rfl
theorem qf {kindOf : Str -> Option NameKind} {x : Str} : ∀ {binds : List (Str × Value)} {m : Str -> Option Value}, (∀ v, (x, v) ∉ binds) -> bindC kindOf binds m x = m x
  | [], _, _ => rfl
  | (n, v) :: r, m, h => by
    unfold bindC
    rw [qf fun w hw => h w (List.mem_cons_of_mem _ hw)]
    split
    . rfl
    . have : x ≠ n := by rintro rfl; exact h v List.mem_cons_self
      simp [this]
theorem qe {kindOf : Str -> Option NameKind} {x : Str} {v : Value} : ∀ {P : List Str} {vs : List Value} {i : Nat} {m : Str -> Option Value}, P.Nodup -> P[i]? = some x -> vs[i]? = some v -> kindOf x = some .local ->
    bindL kindOf (P.zip vs) m x = some v
  | [], _, _, _, _, h, _, _ => by simp at h
  | _ :: _, [], _, _, _, _, h, _ => by simp at h
  | p :: P, w :: vs, 0, m, nd, h1, h2, hk => by
    simp at h1 h2; subst h1; subst h2
    show bindL kindOf ((p, w) :: P.zip vs) m p = _
    unfold bindL
    rw [p9 fun v hv => (List.nodup_cons.mp nd).1 (List.of_mem_zip hv).1, if_pos hk]
    simp
  | p :: P, w :: vs, i + 1, m, nd, h1, h2, hk => by
    show bindL kindOf ((p, w) :: P.zip vs) m x = _
    unfold bindL
    exact qe (i := i) (List.nodup_cons.mp nd).2 (by simpa using h1) (by simpa using h2) hk
theorem qg {kindOf : Str -> Option NameKind} {x : Str} {v : Value} : ∀ {P : List Str} {vs : List Value} {i : Nat} {m : Str -> Option Value}, P.Nodup -> P[i]? = some x -> vs[i]? = some v -> kindOf x ≠ some .local ->
    bindC kindOf (P.zip vs) m x = some v
  | [], _, _, _, _, h, _, _ => by simp at h
  | _ :: _, [], _, _, _, _, h, _ => by simp at h
  | p :: P, w :: vs, 0, m, nd, h1, h2, hk => by
    simp at h1 h2; subst h1; subst h2
    show bindC kindOf ((p, w) :: P.zip vs) m p = _
    unfold bindC
    rw [qf fun v hv => (List.nodup_cons.mp nd).1 (List.of_mem_zip hv).1, if_neg hk]
    simp
  | p :: P, w :: vs, i + 1, m, nd, h1, h2, hk => by
    show bindC kindOf ((p, w) :: P.zip vs) m x = _
    unfold bindC
    exact qg (i := i) (List.nodup_cons.mp nd).2 (by simpa using h1) (by simpa using h2) hk
def start (N : List Str) (vs : List V) : St := vs.map some ++ List.replicate (N.length - vs.length) none
def kB (CX : jJ) (P : Program) (w : World) (K : W.Frag) (mg : Str -> Option Value) (base : Heap) (N : List Str) (qual : Str) (scope : Scope) (f : Addr) (cd : Value) (A : Around) (outer : List Env) (s : Shared) (H : Hp) (E : XK) : Cx where
  prog := P
  w := w
  K := K
  mg := mg
  base := base
  A := A.deeper (envOfC qual scope s.heap.objs.size f cd)
  N := N
  s₀ := s
  H₀ := H
  env := envOfC qual scope s.heap.objs.size f cd
  outer := outer
  stack := envOfC qual scope s.heap.objs.size f cd :: outer
  ex := []
  calm := true
  fn := fun _ => true
  pn := []
  xe := fun e s' => wpAny (model P w) (A.deeper (envOfC qual scope s.heap.objs.size f cd)) (leaving (envOfC qual scope s.heap.objs.size f cd) e) (fun _ s'' => CX outer H s E e s'') (fun e' s'' => CX outer H s E e' s'') s'
theorem sA {sc : Scope} {n : Nat} {x : Str} (h : sc.names.lookup x = some .cell) : ∃ c, (cellsFrom n sc.names []).lookup x = some c := by
  have q := W.cellsFrom_some sc.names n [] (.inl h)
  exact Option.isSome_iff_exists.mp q
theorem wR {CX : jJ} {P : Program} {w : World} {K : W.Frag} {mg : Str -> Option Value} {base : Heap} {N ps : List Str} {qual : Str} {scope : Scope} {f : Addr} {cd : Value} {A : Around} {outer : List Env} {s s1 : Shared} {H : Hp} {E : XK} {us : List Value} {vs : List V}
    (S : aK N ps scope) (hd : A.handled = none) (e0 : iR P w K mg base A outer s H) (hl : vs.length = ps.length) (r : aL vs us)
    (x : InCallC s s.heap.objs.size (bindL (envOfC qual scope s.heap.objs.size f cd).kindOf (ps.zip us) fun _ => none) (cellsFrom (s.heap.objs.size + 1) scope.names []) (bindC (envOfC qual scope s.heap.objs.size f cd).kindOf (ps.zip us) fun _ => none) s1) :
    ak (kB CX P w K mg base N qual scope f cd A outer s H E) [] (start N vs) H s1 := by
  have hpl : ps.length <= N.length := by have := congrArg List.length S.pre; rw [List.length_take] at this; omega
  obtain ⟨h1, tk, rfl, hk⟩ := x.done
  have noA : ∀ b : Addr, b ∉ (kB CX P w K mg base N qual scope f cd A outer s H E).ex := fun b z => absurd (show b ∈ ([] : List Addr) from z) (by simp)
  refine ⟨⟨e0.mod, S.kind, rfl, rfl, Nat.le_refl _, fun y z c h1 h2 => ?_, fun y hy => ?_, fun y c _ h => ?_, fun _ => hd, Around.frames_deeper e0.frames, .inr ⟨rfl, rfl⟩, fun b z => absurd z (noA b), e0.bs, e0.bsz, fun b _ _ => noA b, fun b z => absurd z (noA b), e0.funs, e0.frf⟩,
    rfl, e0.bare, Un.kept hk, ⟨_, x.toInCall.ns, fun i y v h1 h2 h3 => ?_⟩, fun y c h => ⟨_, x.cell y c h⟩, e0.hok.fresh (Nat.le_refl _), fun y c h => ?_, fun p hp => absurd (show p ∈ ([] : List (Addr × Obj)) from hp) (by simp), e0.hok.kept hk, ?_⟩
  . exact name_of_addr x.apart (PySem.mem_of_lookup h1) (PySem.mem_of_lookup h2)
  . have hy : scope.names.lookup y = some .cell \/ scope.names.lookup y = some .free := hy
    rcases hy with hy | hy
    . exact sA hy
    . exact absurd rfl (S.nofree _ (PySem.mem_of_lookup hy))
  . exact Nat.le_of_lt (x.above y c (PySem.mem_of_lookup h))
  . have hi : i < vs.length := by
      unfold start at h2
      by_cases hi : i < vs.length
      . exact hi
      . rw [List.getElem?_append_right (by simpa using hi)] at h2
        rw [List.getElem?_replicate] at h2
        split at h2 <;> cases h2
    have ha : vs[i]? = some v := by
      unfold start at h2
      rw [List.getElem?_append_left (by simpa using hi), List.getElem?_map] at h2
      cases e : vs[i]? with
      | none => rw [e] at h2; cases h2
      | some a => rw [e] at h2; cases h2; rfl
    obtain ⟨u, hu, rv⟩ := r.get ha
    have hp : ps[i]? = some y := by
      rw [<- S.pre, List.getElem?_take_of_lt (by omega)]; exact h1
    have ndP : ps.Nodup := by rw [<- S.pre]; exact S.nd.sublist (List.take_sublist _ _)
    refine ⟨u, rv, ?_⟩
    rcases S.par y (List.mem_of_getElem? hp) with k | k
    . exact .inl ⟨k, qe ndP hp hu k⟩
    . obtain ⟨c, e⟩ := sA (n := s.heap.objs.size + 1) k
      refine .inr ⟨.inl k, c, e, ?_⟩
      have q := x.cell y c e
      rw [qg ndP hp hu (by show scope.names.lookup y ≠ _; rw [k]; decide)] at q
      exact q
  . exact e0.hok.fresh (Nat.le_of_lt (x.above y c (PySem.mem_of_lookup h)))
  . unfold start
    show _ = N.length
    rw [List.length_append, List.length_map, List.length_replicate]
    omega
theorem HI {CX : jJ} {P : Program} {w : World} {K : W.Frag} {mg : Str -> Option Value} {base : Heap} {k : Nat} {f : Addr} {name qual : Str} {params : Arguments} {body : List Stmt} {scope : Scope} {dV kV doc pm cdv ct oc : Value} {an od : Option Addr}
    {osl : Array (Option Value)} {N ps : List Str} {sp : Sp} (lk : K.lookup f = some ⟨oc, od, .func (W.fnOf name qual params body scope dV kV doc pm an cdv ct), osl⟩) (hcd : W.codeIn K cdv qual = true) (S : aK N ps scope)
    (len : ∀ vs H Q E, sp vs H Q E -> vs.length = ps.length)
    (hbody : ∀ (A : Around) (outer : List Env) (s : Shared) (H : Hp) (vs : List V) (Q : VK) (E : XK), cq k (A.deeper (envOfC qual scope s.heap.objs.size f cdv)) -> sp vs H Q E ->
      ∃ t, gJ (kB CX P w K mg base N qual scope f cdv A outer s H E) body t /\ t { nx := fun _ H' => Q .non H', rt := Q } (start N vs) H) :
    cR P w K mg base CX (k + 1) f (W.fnOf name qual params body scope dV kV doc pm an cdv ct) ps sp := by
  refine ⟨len, fun A outer s H args us vs Q E hr e0 hb r hsp => ?_⟩
  have hl := len _ _ _ _ hsp
  have KX : K.In s.heap := e0.mod.kin.keeps fun b o e => (e0.bs b o e).1
  have lim : s.heap.NoLimit := e0.mod.nolimit.keeps fun b o e => (e0.bs b o e).1
  have hkind : ∀ y ∈ ps.zip us, scope.names.lookup y.1 = some .local \/ (scope.names.lookup y.1 = some .cell /\ ((cellsFrom (s.heap.objs.size + 1) scope.names []).lookup y.1).isSome = true) := fun ⟨n, v⟩ hy => by
    rcases S.par n (List.of_mem_zip hy).1 with q | q
    . exact .inl q
    . exact .inr ⟨q, W.cellsFrom_some _ _ _ (.inl q)⟩
  refine codeAny_call_function hr.depth (KX _ _ lk) rfl S.co S.gen rfl (W.codeRec_of KX hcd) (hb _ _ _ _ ?_)
  refine wpAny_newFunctionEnv_cells S.kind hkind fun env he s1 x => ?_
  subst he
  refine ⟨lim.keeps x.toInCall.keep, codeAny_func ?_⟩
  obtain ⟨t, ht, hq⟩ := hbody A outer s H vs Q E (hr.deeper _) hsp
  have I : ak (kB CX P w K mg base N qual scope f cdv A outer s H E) [] (start N vs) H s1 := wR S hr.hd e0 hl r x
  refine wpAny_mono (ht [] s1 (start N vs) H _ I hq) (fun fl s' hs => ?_) fun e s' hs => hs
  have fin : ∀ {σ' : St} {H' : Hp} {v : V} {u : Value}, ak (kB CX P w K mg base N qual scope f cdv A outer s H E) [] σ' H' s' -> aW v u -> Q v H' -> CE outer P w H s Q u s' :=
    fun {σ' H' v u} J rv q => ⟨v, H', J.os, J.bare, J.base, J.hok, rv, q⟩
  cases fl with
  | ret u =>
    obtain ⟨v, σ', H', J, rv, q⟩ := hs
    exact fin J rv q
  | next =>
    obtain ⟨σ', H', J, q⟩ := hs
    exact fin (v := V.non) (u := Value.none) J rfl q
  | brk =>
    obtain ⟨_, _, _, q⟩ := hs
    exact False.elim q
  | cont =>
    obtain ⟨_, _, _, q⟩ := hs
    exact False.elim q
end L2
namespace L2
open PySem PySem.Spec PyProof.Rows
section
variable {X : Cx} {x : Str} {p pos : Pos} {e : Expr} {es : List Expr} {t : TA} {id T : String} {r : List V -> Hp -> VK -> Prop}
def Ie (r : List V -> Hp -> VK -> Prop) (t : TA) : TE := fun σ H Q => t σ H fun vs H1 => r vs H1 Q
theorem yo (hc : eh X (.builtin id) r) (hg : Gl X x) (hm : X.mg x = none) (hv : bootBuiltins x = some (.builtin id)) (ha : PA X (e :: es) t) (hn : x ≠ "__name__" := by decide) (hdb : (x == ("__debug__" : Str)) = false := by decide)
    (he : starEach (e :: es) X.env = (false, eval e X.env) :: starEach es X.env := by rfl) (hpl : (backTo pos (starEach es X.env)).any (·.1) = false := by rfl) : PE X (.Call (.Name x p) (e :: es) [] pos) (Ie r t) := by
  intro pins s σ H Q I h
  refine wpAny_Call_Name_kw (dS I hg hm hv ?_ hn hdb)
  exact PyProof.Rows.callWith_builtin1 (aS (ha pos pins s σ H _ I h) fun us s1 ⟨vs, H1, I1, r1, q1⟩ => hc pins s1 σ H1 vs us Q I1 r1 q1) he hpl
theorem wg (hc : eh X (.type T) r) (hg : Gl X x) (hm : X.mg x = none) (hv : bootBuiltins x = some (.type T)) (ha : PA X (e :: es) t) (hn : x ≠ "__name__" := by decide) (hdb : (x == ("__debug__" : Str)) = false := by decide)
    (he : starEach (e :: es) X.env = (false, eval e X.env) :: starEach es X.env := by rfl) (hpl : (backTo pos (starEach es X.env)).any (·.1) = false := by rfl) : PE X (.Call (.Name x p) (e :: es) [] pos) (Ie r t) := by
  intro pins s σ H Q I h
  refine wpAny_Call_Name_kw (dS I hg hm hv ?_ hn hdb)
  exact PyProof.Rows.callWith_type1 (aS (ha pos pins s σ H _ I h) fun us s1 ⟨vs, H1, I1, r1, q1⟩ => hc pins s1 σ H1 vs us Q I1 r1 q1) he hpl
end
end L2
namespace HT
open PySem PyProof.Rows
def lexLt : List Int -> List Int -> Bool
  | [], [] => false
  | [], _ :: _ => true
  | _ :: _, [] => false
  | x :: xs, y :: ys => if x = y then lexLt xs ys else decide (x < y)
section
open PySem.SeqAt
open PySem.AutoSeq1 (wpAny_loadPart')
open PySem.MeetsSeq PySem.MeetsSeq2 PySem.MeetsSeq3
end
section
variable {prog : Program} {w : World} {A : Around} {E : Value -> Shared -> Prop} {s : Shared}
theorem cat_tup {t b : Addr} {vs ws : List Value} {Q : Value -> Shared -> Prop} (ht : IsTup s.heap t vs.toArray) (hb : IsTup s.heap b ws.toArray) (hv : vs ≠ [])
    (h1 : ws = [] -> Q (.ref t) s) (h2 : ws ≠ [] -> Q (.ref s.heap.objs.size) { s with heap := s.heap.push { cls := .type "tuple", data := .seq (vs ++ ws).toArray } })
    (hsz : vs.length + ws.length <= sizeLine) : wpAny (model prog w) A (binaryOp .Add (.ref t) (.ref b)) Q E s := by
  obtain ⟨⟨cls, dd, data, sl⟩, ho, hc, n, hd⟩ := id ht
  obtain ⟨⟨cls2, dd2, data2, sl2⟩, ho2, hc2, n2, hd2⟩ := id hb
  simp only at hc hd hc2 hd2
  subst hc hd hc2 hd2
  have e : vs.toArray ++ ws.toArray = (vs ++ ws).toArray := by simp
  by_cases hw : ws = []
  . exact concat_meets ⟨_, ho, rfl⟩ ⟨_, ho2, rfl⟩ noFill_tuple_add seq_tuple_add PySem.F.slot_tuple_add PySem.F.entry_tuple_add (PySem.F.args_tuple_add_2 _ _)
      (tuple_addW1 t b vs.toArray ws.toArray n n2 dd dd2 sl sl2 (by simpa using hv) (by simp [hw])) ⟨ho, ho2, h1 hw⟩
  . refine concat_meets ⟨_, ho, rfl⟩ ⟨_, ho2, rfl⟩ noFill_tuple_add seq_tuple_add PySem.F.slot_tuple_add PySem.F.entry_tuple_add (PySem.F.args_tuple_add_2 _ _)
      (tuple_addW2 t b vs.toArray ws.toArray n n2 dd dd2 sl sl2 (by simpa using hv) (by simpa using hw) (by rw [List.size_toArray, List.size_toArray]; exact hsz)) ⟨ho, ho2, ?_⟩
    rw [e]
    exact h2 hw
def sIx (n d : Nat) : Option Int -> Nat
  | none => d
  | some v => if v < 0 then (v + (n : Int)).toNat else min v.toNat n
theorem sIx_none (n d : Nat) : sIx n d none = d := rfl
theorem sIx_nat (n d k : Nat) : sIx n d (some (k : Int)) = min k n := by
  show (if (k : Int) < 0 then ((k : Int) + (n : Int)).toNat else min (k : Int).toNat n) = min k n
  rw [if_neg (by omega), Int.toNat_natCast]
theorem DB (n d : Nat) (hd : d <= n) (o : Option Int) : sIx n d o <= n := by
  cases o with
  | none => exact hd
  | some v =>
    show (if v < 0 then (v + (n : Int)).toNat else min v.toNat n) <= n
    by_cases hv : v < 0
    . rw [if_pos hv]; omega
    . rw [if_neg hv]; exact Nat.min_le_right _ _
theorem uC (v : Int) (n d : Nat) : (if v < 0 then max (v + (n : Int)) 0 else min v (n : Int)) = ((sIx n d (some v) : Nat) : Int) := by
  show (if v < 0 then max (v + (n : Int)) 0 else min v (n : Int)) = (((if v < 0 then (v + (n : Int)).toNat else min v.toNat n) : Nat) : Int)
  by_cases hv : v < 0
  . simp only [if_pos hv]; omega
  . simp only [if_neg hv]; omega
theorem vE (lo hi : Option Int) (n : Nat) : Builtin.Slice.sliceAdjust lo hi 1 (n : Int) = (((sIx n 0 lo : Nat) : Int), ((sIx n n hi : Nat) : Int)) := by
  have h1 : ¬ ((1 : Int) < 0) := by omega
  unfold Builtin.Slice.sliceAdjust
  simp only [h1, if_false]
  refine Prod.ext ?_ ?_
  . cases lo with
    | none => rfl
    | some v => exact uC v n 0
  . cases hi with
    | none => rfl
    | some v => exact uC v n n
theorem uT (i j : Nat) : Builtin.Slice.slicePlaces (i : Int) (j : Int) 1 = j - i := by
  unfold Builtin.Slice.slicePlaces
  have h1 : (1 : Int) > 0 := by omega
  simp only [h1, if_true, Int.ediv_one]
  split <;> omega
theorem nD {v : Value} {o : Option Int} {Q : Option Int -> Shared -> Prop} (p : IsPart v o) (h : Q o s) : wpAny (model prog w) A (Builtin.Slice.slicePartIndex v) Q E s := by
  cases p with
  | none => exact slicePart_none h
  | int i t => exact slicePart_int h
theorem mO {sl : Addr} {vl vu : Value} {lo hi : Option Int} {n : Nat} {Q : Int × Int × Nat -> Shared -> Prop} (hs : s.heap.IsSliceOf sl vl vu .none) (pl : IsPart vl lo) (pu : IsPart vu hi)
    (h : Q (((sIx n 0 lo : Nat) : Int), 1, sIx n n hi - sIx n 0 lo) s) : wpAny (model prog w) A (Builtin.Slice.sliceApplied (.ref sl) (pure (n : Int))) Q E s := by
  obtain ⟨os, hos, hcs, hds⟩ := id hs
  unfold Builtin.Slice.sliceApplied Builtin.Slice.sliceFields
  refine wpAny_bind (wpAny_bind (wpAny_field hos hds (x := vl) rfl (wpAny_bind (wpAny_field hos hds (x := vu) rfl (wpAny_bind (wpAny_field hos hds (x := .none) rfl (wpAny_pure ?_)))))))
  refine wpAny_bind (slicePart_none ?_)
  show wpAny _ _ (if ((1 : Int) == 0) = true then _ else _) _ _ s
  rw [if_neg (by decide)]
  refine wpAny_bind (nD pl (wpAny_bind (nD pu (wpAny_bind (wpAny_pure ?_)))))
  show wpAny _ _ (match Builtin.Slice.sliceAdjust lo hi 1 (n : Int) with | (lo, hi) => pure (lo, (1 : Int), Builtin.Slice.slicePlaces lo hi 1)) _ _ s
  rw [vE lo hi n]
  show wpAny _ _ (pure (((sIx n 0 lo : Nat) : Int), (1 : Int), Builtin.Slice.slicePlaces ((sIx n 0 lo : Nat) : Int) ((sIx n n hi : Nat) : Int) 1)) _ _ s
  rw [uT]
  exact wpAny_pure h
theorem yi (xs : Array Value) (i k : Nat) : ((List.range k).filterMap fun (m : Nat) => xs[((i : Int) + (m : Int) * 1).toNat]?).toArray = ((xs.toList.drop i).take k).toArray := by
  have e : (fun (m : Nat) => xs[((i : Int) + (m : Int) * 1).toNat]?) = fun m => xs[i + m]? := by
    funext m
    have : ((i : Int) + (m : Int) * 1).toNat = i + m := by omega
    rw [this]
  rw [e]
  have := pick_run xs i k
  rw [List.filterMap_map] at this
  have e2 : ((fun x => xs[x]?) ∘ fun x => i + x) = fun m => xs[i + m]? := rfl
  rw [e2] at this
  rw [this]
theorem getItem_tuple_cut {t sl : Addr} {items : Array Value} {vl vu : Value} {lo hi : Option Int} {Q : Value -> Shared -> Prop} (ht : IsTup s.heap t items) (hs : s.heap.IsSliceOf sl vl vu .none) (pl : IsPart vl lo) (pu : IsPart vu hi)
    (hw : ¬ (sIx items.size 0 lo = 0 /\ sIx items.size items.size hi = items.size))
    (h : Q (.ref s.heap.objs.size) { s with heap := s.heap.push { cls := .type "tuple", data := .seq ((items.toList.drop (sIx items.size 0 lo)).take (sIx items.size items.size hi - sIx items.size 0 lo)).toArray } })
    (hsz : items.size <= sizeLine) : wpAny (model prog w) A (getItem (.ref t) (.ref sl)) Q E s := by
  have htake : sizeOk (.seq ((items.toList.drop (sIx items.size 0 lo)).take (sIx items.size items.size hi - sIx items.size 0 lo)).toArray) := by
    show ((items.toList.drop (sIx items.size 0 lo)).take (sIx items.size items.size hi - sIx items.size 0 lo)).toArray.size <= sizeLine
    rw [List.size_toArray, List.length_take, List.length_drop, Array.length_toList]
    omega
  have hj : sIx items.size items.size hi <= items.size := DB _ _ (Nat.le_refl _) hi
  obtain ⟨os, hos, hcs, hds⟩ := id hs
  have hTs : s.TypeIs (.ref sl) "slice" := ⟨os, hos, hcs⟩
  unfold getItem
  try with_reducible refine wpAny_holding ?_
  first | refine wpAny_bind (wpAny_pure ?_) | skip
  refine wpAny_bind (wpAny_sequenceKey ht.typeIs (by decide) ?_)
  refine wpAny_bind (wpAny_callSpecial?_slot (name := Str.ofString "__getitem__") ht.typeIs PyProof.Rows.slot_tuple_getitem
    (wpAny_call_entry PyProof.Rows.slot_tuple_getitem ht.typeIs entry_tuple_getitem ?_ (args_tuple_getitem _ _)))
  show wpAny _ _ (Builtin.Tuple.tupleItemsOf (.ref t) >>= _) _ _ s
  refine wpAny_bind (tupleItemsOf_ ht ?_)
  refine wpAny_bind (wpAny_typeOf hTs ?_)
  rw [if_pos (by decide)]
  refine wpAny_bind (mO hs pl pu ?_)
  have hno : ¬ ((((sIx items.size 0 lo : Nat) : Int) == 0 && (1 : Int) == 1 && (sIx items.size items.size hi - sIx items.size 0 lo) == items.size) = true) := by
    intro q
    rw [Bool.and_eq_true, Bool.and_eq_true] at q
    have q1 : ((sIx items.size 0 lo : Nat) : Int) = 0 := eq_of_beq q.1.1
    have q2 : sIx items.size items.size hi - sIx items.size 0 lo = items.size := eq_of_beq q.2
    exact hw ⟨by omega, by omega⟩
  show wpAny _ _ (if (((sIx items.size 0 lo : Nat) : Int) == 0 && (1 : Int) == 1 && (sIx items.size items.size hi - sIx items.size 0 lo) == items.size) = true then _ else _) _ _ s
  rw [if_neg hno, yi]
  first
    | exact wpAny_bind (m := Builtin.Tuple.tupleExact _) (wpAny_newObj_type (wpAny_pure ⟨_, rfl, wpAny_pure h⟩) htake)
    | exact wpAny_bind (m := Builtin.Tuple.tupleExact _) (wpAny_newObj_type (wpAny_bind (wpAny_pure (wpAny_pure ⟨_, rfl, wpAny_pure h⟩))) htake)
    | exact wpAny_bind (wpAny_bind (m := Builtin.Tuple.tupleExact _) (wpAny_newObj_type (wpAny_pure (wpAny_pure ⟨_, rfl, wpAny_pure h⟩)) htake))
    | exact wpAny_bind (wpAny_bind (m := Builtin.Tuple.tupleExact _) (wpAny_newObj_type (wpAny_pure ⟨_, rfl, wpAny_pure h⟩) htake))
end
end HT
namespace L2
open PySem PySem.Spec PyProof.Rows
abbrev TO := St -> Hp -> (Option Int -> Hp -> Prop) -> Prop
def PO (X : Cx) (e : Option Expr) (t : TO) : Prop :=
  ∀ (pins : List (Addr × Obj)) (s : Shared) (σ : St) (H : Hp) (Q : Option Int -> Hp -> Prop), ak X pins σ H s -> t σ H Q ->
    wpAny (model X.prog X.w) X.A (evalPart e X.env) (fun u s' => ∃ o H', ak X pins σ H' s' /\ IsPart u o /\ Q o H') X.xe s
def A7 : TO := fun _ H Q => Q none H
def G2 (t : TE) : TO := fun σ H Q => t σ H fun x H1 => ∃ i, x = .int i /\ Q (some i) H1
section
variable {X : Cx} {e : Expr} {te : TE} {lo hi : Option Expr} {tl th : TO} {pos p2 : Pos}
theorem Bt : PO X none A7 := by
  intro pins s σ H Q I h
  rw [evalPart_none]
  exact wpAny_pure ⟨none, H, I, .none, h⟩
theorem Bs (h : PE X e te) : PO X (some e) (G2 te) := by
  intro pins s σ H Q I hw
  rw [evalPart_some]
  refine aS (h pins s σ H _ I hw) fun u s1 ⟨x, H1, I1, r1, q1⟩ => ?_
  obtain ⟨i, rfl, q⟩ := q1
  obtain ⟨t, rfl⟩ := r1
  exact ⟨some i, H1, I1, .int i t, q⟩
def Gq (X : Cx) (r : V -> Option Int -> Option Int -> Hp -> VK -> Prop) : Prop :=
  ∀ (pins : List (Addr × Obj)) (s : Shared) (σ : St) (H : Hp) (x : V) (v vl vu : Value) (lo hi : Option Int) (sl : Addr) (Q : VK), ak X pins σ H s -> aW x v -> s.heap.IsSliceOf sl vl vu .none -> IsPart vl lo -> IsPart vu hi -> r x lo hi H Q ->
    ∃ T id, typeLookup (.type T) "__getitem__" = pure (some (.builtin id)) /\ s.TypeIs v T /\ wpAny (model X.prog X.w) X.A (getItem v (.ref sl)) (EP X pins σ Q) X.xe s
def Pu (r : V -> Option Int -> Option Int -> Hp -> VK -> Prop) (te : TE) (tl th : TO) : TE := fun σ H Q => te σ H fun x H1 => tl σ H1 fun l H2 => th σ H2 fun u H3 => r x l u H3 Q
theorem rh {r : V -> Option Int -> Option Int -> Hp -> VK -> Prop} (hr : Gq X r) (he : PE X e te) (hl : PO X lo tl) (hu : PO X hi th) : PE X (.Subscript e (.Slice lo hi none p2) pos) (Pu r te tl th) := by
  intro pins s σ H Q I h
  refine Subscript_ (aS (he pins s σ H _ I h) fun v s1 ⟨x, H1, I1, r1, q1⟩ => ?_)
  refine wpAny_Slice (aS (hl pins s1 σ H1 _ I1 q1) fun vl s2 ⟨l, H2, I2, pl, q2⟩ => aS (hu pins s2 σ H2 _ I2 q2) fun vu s3 ⟨u, H3, I3, pu, q3⟩ => ?_)
  rw [evalPart_none]
  refine wpAny_pure ?_
  have I4 : ak X pins σ H3 { s3 with heap := s3.heap.push { cls := .type "slice", data := .fields #[vl, vu, .none] } } := I3.kept (t' := s3.toks) fun b ob q => Heap.get?_push_of_some _ q
  obtain ⟨T, id, hT, ht, hg⟩ := hr pins { s3 with heap := s3.heap.push { cls := .type "slice", data := .fields #[vl, vu, .none] } } σ H3 x v vl vu l u s3.heap.objs.size Q I4 r1 (Heap.IsSliceOf.new ..) pl pu q3
  show wpAny (model X.prog X.w) X.A (subscriptTail e (.Slice lo hi none p2) v (.ref s3.heap.objs.size)) (EP X pins σ Q) X.xe { s3 with heap := s3.heap.push { cls := .type "slice", data := .fields #[vl, vu, .none] } }
  exact tail_any (ops := [.ref s3.heap.objs.size, v]) ht hT hg (by with_unfolding_all rfl)
def iN (xs : List V) (lo hi : Option Int) : List V := (xs.drop (HT.sIx xs.length 0 lo)).take (HT.sIx xs.length xs.length hi - HT.sIx xs.length 0 lo)
theorem mF (xs : List V) (lo hi : Option Int) : (iN xs lo hi).length <= xs.length := by
  unfold iN
  rw [List.length_take, List.length_drop]
  omega
def Ke (K : W.Frag) : V -> Option Int -> Option Int -> Hp -> VK -> Prop := fun x lo hi H Q => ∃ a xs, x = .ref a /\ cu K H a xs /\
  ¬ (HT.sIx xs.length 0 lo = 0 /\ HT.sIx xs.length xs.length hi = xs.length) /\ ∀ p, H p = none -> Q (.ref p) (bh H p (.tup (iN xs lo hi)))
theorem Ds : Gq X (Ke X.K) := by
  intro pins s σ H x v vl vu lo hi sl Q I rx hs pl pu h
  obtain ⟨a, xs, rfl, hx, hw, q⟩ := h
  cases rx
  obtain ⟨its, r, ht, hz⟩ := I.tuple hx
  have hlen : its.toArray.size = xs.length := by rw [List.size_toArray]; exact r.length.symm
  refine ⟨"tuple", _, PyProof.Rows.slot_tuple_getitem.lookup, ht.typeIs, ?_⟩
  refine HT.getItem_tuple_cut ht hs pl pu (by rw [hlen]; exact hw) ?_ (by rw [hlen]; exact hz)
  rw [hlen]
  refine ⟨.ref s.heap.objs.size, _, I.laid (t' := s.toks) (o := .tup (iN xs lo hi)) (fun b ob q => Heap.get?_push_of_some _ q) (Nat.le_refl _) ?_, rfl, q _ (I.hok.fresh (Nat.le_refl _))⟩
  exact ⟨Nat.le_trans (mF xs lo hi) hz, _, (r.drop (HT.sIx xs.length 0 lo)).take (HT.sIx xs.length xs.length hi - HT.sIx xs.length 0 lo), IsTup.new _ _⟩
def rLtT (K : W.Frag) : R2 := fun x y H Q => ∃ a b ns ms, x = .ref a /\ y = .ref b /\ cu K H a (ns.map V.int) /\ cu K H b (ms.map V.int) /\ Q (.bl (HT.lexLt ns ms)) H
def He (K : W.Frag) : R2 := fun x y H Q => ∃ a b xs ys, x = .ref a /\ y = .ref b /\ cu K H a xs /\ cu K H b ys /\ xs ≠ [] /\ xs.length + ys.length <= sizeLine /\
  (ys = [] -> Q (.ref a) H) /\ (ys ≠ [] -> ∀ p, H p = none -> Q (.ref p) (bh H p (.tup (xs ++ ys))))
theorem aL.nil_iff {xs : List V} {us : List Value} (r : aL xs us) : us = [] ↔ xs = [] := by
  cases r with
  | nil => simp
  | cons _ _ => simp
theorem BG : cS X (binaryOp .Add) (He X.K) := by
  intro pins s σ H x y v u Q I rx ry h
  obtain ⟨a, b, xs, ys, rfl, rfl, ha, hb, hx, hz, q1, q2⟩ := h
  cases rx
  cases ry
  obtain ⟨its, r1, p1, _⟩ := I.tuple ha
  obtain ⟨its2, r2, p2, _⟩ := I.tuple hb
  refine HT.cat_tup p1 p2 (fun z => hx (r1.nil_iff.mp z)) (fun z => ⟨.ref a, H, I, rfl, q1 (r2.nil_iff.mp z)⟩) (fun z => ?_) (by rw [<- r1.length, <- r2.length]; exact hz)
  refine ⟨.ref s.heap.objs.size, _, I.laid (t' := s.toks) (o := .tup (xs ++ ys)) (fun b ob q => Heap.get?_push_of_some _ q) (Nat.le_refl _) ?_, rfl, q2 (fun w => z (r2.nil_iff.mpr w)) _ (I.hok.fresh (Nat.le_refl _))⟩
  exact ⟨by rw [List.length_append]; exact hz, _, r1.append r2, IsTup.new _ _⟩
end
end L2
namespace L2
open PySem PySem.Spec PyProof.Rows
def ku (n : Nat) (i : Int) : Option Nat := if 0 <= i then (if i < n then some i.toNat else none) else if -(n : Int) <= i then some (i + n).toNat else none
def atI {α : Type} (xs : List α) (i : Int) : Option α := (ku xs.length i).bind fun j => xs[j]?
theorem uk {n : Nat} {i : Int} {j : Nat} (h : ku n i = some j) : seqIndex? i n = some j /\ j < n /\ -(n : Int) <= i /\ i < n := by
  unfold ku at h
  by_cases h0 : 0 <= i
  . rw [if_pos h0] at h
    by_cases h1 : i < n
    . rw [if_pos h1] at h
      have e : i.toNat = j := Option.some.inj h
      exact ⟨by rw [seqIndex_of h0 h1, e], by omega, by omega, h1⟩
    . rw [if_neg h1] at h; cases h
  . rw [if_neg h0] at h
    by_cases h1 : -(n : Int) <= i
    . rw [if_pos h1] at h
      have e : (i + n).toNat = j := Option.some.inj h
      exact ⟨by rw [seqIndex_neg (by omega) h1, e], by omega, h1, by omega⟩
    . rw [if_neg h1] at h; cases h
theorem uE {α : Type} {xs : List α} {i : Int} {v : α} (h : atI xs i = some v) : ∃ j, seqIndex? i xs.length = some j /\ xs[j]? = some v /\ j < xs.length /\ -(xs.length : Int) <= i /\ i < xs.length := by
  unfold atI at h
  cases e : ku xs.length i with
  | none => rw [e] at h; cases h
  | some j =>
    rw [e] at h
    obtain ⟨h1, h2, h3, h4⟩ := uk e
    exact ⟨j, h1, h, h2, h3, h4⟩
theorem jd {α : Type} {xs : List α} {j : Nat} {v : α} (h : xs[j]? = some v) : atI xs (j : Int) = some v := by
  have hj : j < xs.length := (List.getElem?_eq_some_iff.mp h).1
  have e : ku xs.length (j : Int) = some j := by
    unfold ku
    rw [if_pos (by omega), if_pos (by omega)]; simp
  unfold atI; rw [e]; exact h
def mh (b : Expr) : Prop := ∀ o i, subscripted b false o i = operate [o, i] (getItem o i)
def AQ (X : Cx) (r : R2) : Prop :=
  ∀ (value slice : Expr) (pins : List (Addr × Obj)) (s : Shared) (σ : St) (H : Hp) (x y : V) (v u : Value) (Q : VK), ak X pins σ H s -> aW x v -> aW y u -> r x y H Q ->
    subscripted slice false v u = operate [v, u] (getItem v u) -> wpAny (model X.prog X.w) X.A (subscriptTail value slice v u) (EP X pins σ Q) X.xe s
def Gw (X : Cx) (id : String) (r : V -> List V -> Hp -> VK -> Prop) : Prop :=
  ∀ (pins : List (Addr × Obj)) (s : Shared) (σ : St) (H : Hp) (x : V) (xs : List V) (v : Value) (us : List Value) (Q : VK), ak X pins σ H s -> aW x v -> aL xs us -> r x xs H Q ->
    wpAny (model X.prog X.w) X.A (call (.builtin id) (v :: us)) (EP X pins σ Q) X.xe s
section
variable {X : Cx} {a b : Expr} {ta tb : TE} {pos : Pos}
theorem uU {r : R2} (hr : AQ X r) (ha : PE X a ta) (hb : PE X b tb) (hs : mh b) : PE X (.Subscript a b pos) (Id r ta tb) := by
  intro pins s σ H Q I h
  exact Subscript_ (Ge ha hb I h fun v u s2 x y H2 I2 rx ry q => hr a b pins s2 σ H2 x y v u Q I2 rx ry q (hs _ _))
def Kh (K : W.Frag) : R2 := fun x y H Q => ∃ p xs i v, x = .ref p /\ y = .int i /\ cv K H p xs /\ atI xs i = some v /\ Q v H
def Kg (K : W.Frag) : R2 := fun x y H Q => ∃ p xs i v, x = .ref p /\ y = .int i /\ cu K H p xs /\ atI xs i = some v /\ Q v H
theorem BZ : AQ X (Kh X.K) := by
  intro value slice pins s σ H x y v u Q I rx ry h hs
  obtain ⟨p, xs, i, z, rfl, rfl, hq, he, q⟩ := h
  cases rx
  obtain ⟨t, rfl⟩ := ry
  obtain ⟨its, r, pl, hz⟩ := I.list hq
  obtain ⟨j, h1, h2, h3, h4, h5⟩ := uE he
  obtain ⟨w, ew, rw'⟩ := r.get h2
  have hl := r.length
  have hn := ki
  have fin : EP X pins σ Q w s := ⟨z, H, I, rw', q⟩
  by_cases h0 : 0 <= i
  . have hj : i.toNat = j := by
      rw [seqIndex_of h0 h5] at h1
      exact Option.some.inj h1
    exact item_listR pl.isList h0 (by omega) (by rw [hj]; simpa using ew) fin hs
  . have hj : (i + (its.toArray.size : Int)).toNat = j := by
      rw [seqIndex_neg (by omega) h4] at h1
      rw [List.size_toArray, <- hl]
      exact Option.some.inj h1
    exact subscriptTail_builtinR (x := w) pl.isList.typeIs slot_list_getitem.lookup
      (wpAny_getItem_list_neg (Q := fun r s' => r = w /\ EP X pins σ Q r s') pl.isList (by omega) (by rw [List.size_toArray] <;> omega) (by omega) (by rw [hj]; simpa using ew) ⟨rfl, fin⟩) hs
theorem Ez : AQ X (Kg X.K) := by
  intro value slice pins s σ H x y v u Q I rx ry h hs
  obtain ⟨p, xs, i, z, rfl, rfl, hq, he, q⟩ := h
  cases rx
  obtain ⟨t, rfl⟩ := ry
  obtain ⟨its, r, pl, hz⟩ := I.tuple hq
  obtain ⟨j, h1, h2, h3, h4, h5⟩ := uE he
  obtain ⟨w, ew, rw'⟩ := r.get h2
  have hl := r.length
  have hn := ki
  have fin : EP X pins σ Q w s := ⟨z, H, I, rw', q⟩
  exact subscriptTail_builtinR (x := w) pl.typeIs slot_tuple_getitem.lookup
    (getItem_tuple (j := j) (Q := fun r s' => r = w /\ EP X pins σ Q r s') pl (by omega) (by omega) (by rw [List.size_toArray, <- hl]; exact h1) (by simpa using ew) ⟨rfl, fin⟩) hs
theorem vd (its : List Value) (n j : Nat) (u : Value) : Obj.mapSeq (·.setIfInBounds j u) { cls := .type "list", data := .seq its.toArray n } = { cls := .type "list", data := .seq (its.set j u).toArray n } := by
  simp [Obj.mapSeq]
theorem ak.lst {pins : List (Addr × Obj)} {σ : St} {H : Hp} {s : Shared} {p : Addr} {xs : List V} (I : ak X pins σ H s) (h : H p = some (.lst xs)) :
    ∃ (its : List Value) (n : Nat), aL xs its /\ s.heap.get? p = some { cls := .type "list", data := .seq its.toArray n } /\ xs.length <= sizeLine := by
  obtain ⟨z, its, n, r, e⟩ := I.hok p _ h
  exact ⟨its, n, r, e, z⟩
theorem ak.lstUpd {pins : List (Addr × Obj)} {σ : St} {H : Hp} {s : Shared} {p : Addr} {xs ys : List V} {its its' : List Value} {n n' : Nat} {f : Obj -> Obj} (I : ak X pins σ H s) (h : H p = some (.lst xs))
    (ho : s.heap.get? p = some { cls := .type "list", data := .seq its.toArray n }) (hf : f { cls := .type "list", data := .seq its.toArray n } = { cls := .type "list", data := .seq its'.toArray n' }) (r : aL ys its') (hz : ys.length <= sizeLine) (t : Nat) :
    ak X pins σ (bh H p (.lst ys)) { s with heap := s.heap.update p f, toks := t } := by
  have e : (s.heap.update p f).get? p = some { cls := .type "list", data := .seq its'.toArray n' } := by
    rw [Heap.get?_update_self f ho (by rw [hf] <;> rfl), hf]
  refine I.write (x := p) (e := p) (by rw [h]; trivial) (.inl rfl) (fun b u hb q => (Heap.get?_update_other _ _ (Ne.symm hb)).trans q) ⟨_, e⟩ ?_
  exact ⟨hz, its', n', r, e⟩
def Hc : V -> V -> V -> Hp -> (Hp -> Prop) -> Prop := fun o i v H Q => ∃ p xs k j, o = .ref p /\ i = .int k /\ H p = some (.lst xs) /\ ku xs.length k = some j /\ Q (bh H p (.lst (xs.set j v)))
theorem x8 : zG X Hc := by
  intro pins s σ H o i v ov iv u Q I ro ri rv h
  obtain ⟨p, xs, k, j, rfl, rfl, hp, hj, q⟩ := h
  cases ro
  obtain ⟨t, rfl⟩ := ri
  obtain ⟨its, n, r, ho, hz⟩ := I.lst hp
  obtain ⟨h1, h2, h3, h4⟩ := uk hj
  have hl := r.length
  have hn := ki
  have I' : ak X pins σ (bh H p (.lst (xs.set j v))) { s with heap := s.heap.update p (Obj.mapSeq (·.setIfInBounds j u)) } :=
    I.lstUpd hp ho (vd its n j u) (r.set rv j) (by rw [List.length_set]; exact hz) s.toks
  by_cases h0 : 0 <= k
  . have hk : k.toNat = j := by
      rw [seqIndex_of h0 h4] at h1
      exact Option.some.inj h1
    exact W.ki_setAt ho h0 (by omega) (by rw [List.size_toArray, <- hl]; exact h4) (by rw [hk]; exact ⟨_, I', q⟩)
  . have hk : (k + (its.toArray.size : Int)).toNat = j := by
      rw [seqIndex_neg (by omega) h3] at h1
      rw [List.size_toArray, <- hl]
      exact Option.some.inj h1
    exact W.ki_setBack ho (by omega) (by rw [List.size_toArray, <- hl]; exact h3) (by omega) (by rw [hk]; exact ⟨_, I', q⟩)
theorem qT (lo hi : Option Int) (n : Nat) : (sliceBounds lo hi none n).1 = ((HT.sIx n 0 lo : Nat) : Int) /\ (sliceBounds lo hi none n).2.1 = ((HT.sIx n n hi : Nat) : Int) /\ (sliceBounds lo hi none n).2.2 = 1 := by
  refine ⟨?_, ?_, rfl⟩
  . cases lo with
    | none => simp [sliceBounds, HT.sIx]
    | some i =>
      simp only [sliceBounds, HT.sIx, Option.getD_none, show (1 : Int) > 0 by decide, if_true]
      by_cases h : i < 0
      . simp only [h, if_true] <;> omega
      . simp only [h, if_false] <;> omega
  . cases hi with
    | none => simp [sliceBounds, HT.sIx]
    | some i =>
      simp only [sliceBounds, HT.sIx, Option.getD_none, show (1 : Int) > 0 by decide, if_true]
      by_cases h : i < 0
      . simp only [h, if_true] <;> omega
      . simp only [h, if_false] <;> omega
theorem ql (its : List Value) (lo hi : Option Int) : slicePick its.toArray lo hi none = ((its.drop (HT.sIx its.length 0 lo)).take (HT.sIx its.length its.length hi - HT.sIx its.length 0 lo)).toArray := by
  obtain ⟨h1, h2, h3⟩ := qT lo hi its.toArray.size
  unfold slicePick
  rw [h1, h2, h3]
  simp only [sliceRange_one, pick_run, List.size_toArray] <;> rfl
def Kf (K : W.Frag) : V -> Option Int -> Option Int -> Hp -> VK -> Prop := fun x lo hi H Q => ∃ a xs, x = .ref a /\ cv K H a xs /\ ∀ p, H p = none -> Q (.ref p) (bh H p (.lst (iN xs lo hi)))
theorem Bd : Gq X (Kf X.K) := by
  intro pins s σ H x v vl vu lo hi sl Q I rx hs pl pu h
  obtain ⟨a, xs, rfl, hx, q⟩ := h
  cases rx
  obtain ⟨its, r, ht, hz⟩ := I.list hx
  have hlen := r.length
  refine ⟨"list", _, slot_list_getitem.lookup, ht.isList.typeIs, ?_⟩
  refine wpAny_getItem_list_slice ht.isList hs pl pu .none (by simp) ?_ (by rw [List.size_toArray] <;> omega)
  rw [ql, <- hlen]
  refine ⟨.ref s.heap.objs.size, _, I.laid (t' := s.toks) (o := .lst (iN xs lo hi)) (fun b ob q => Heap.get?_push_of_some _ q) (Nat.le_refl _) ?_, rfl, q _ (I.hok.fresh (Nat.le_refl _))⟩
  exact ⟨Nat.le_trans (mF xs lo hi) hz, _, 0, (r.drop (HT.sIx xs.length 0 lo)).take (HT.sIx xs.length xs.length hi - HT.sIx xs.length 0 lo), Heap.get?_push_size _ rfl⟩
theorem kF : eh X (.builtin "len") (fun xs H Q => ∃ p ys, xs = [.ref p] /\ (cv X.K H p ys \/ cu X.K H p ys) /\ Q (.int ys.length) H) := by
  intro pins s σ H xs us Q I r h
  obtain ⟨p, ys, rfl, hq, q⟩ := h
  obtain ⟨u, rfl, rx⟩ := eB r
  cases rx
  have hn := ki
  rcases hq with hq | hq
  . obtain ⟨its, r', pl, hz⟩ := I.list hq
    have hlen := r'.length
    exact Calls.call_len_list pl.isList (by simp only [List.size_toArray] <;> omega) ⟨.int ys.length, H, I.tok _, ⟨s.toks + 1, by rw [List.size_toArray, hlen]⟩, q⟩
  . obtain ⟨its, r', pl, hz⟩ := I.tuple hq
    have hlen := r'.length
    exact len_tuple pl (by simp only [List.size_toArray] <;> omega) ⟨.int ys.length, H, I.tok _, ⟨s.toks + 1, by rw [List.size_toArray, hlen]⟩, q⟩
theorem kE : eh X (.type "list") (fun xs H Q => ∃ p ys, xs = [.ref p] /\ (cv X.K H p ys \/ cu X.K H p ys) /\ ∀ l, H l = none -> Q (.ref l) (bh H l (.lst ys))) := by
  intro pins s σ H xs us Q I r h
  obtain ⟨p, ys, rfl, hq, q⟩ := h
  obtain ⟨u, rfl, rx⟩ := eB r
  cases rx
  have fin : ∀ (its : List Value), aL ys its -> ys.length <= sizeLine -> ∀ (h' : Heap) (c' : Nat), (∀ b o', s.heap.get? b = some o' -> h'.get? b = some o') ->
      h'.get? s.heap.objs.size = some { cls := .type "list", dict := none, data := .seq its.toArray c', slots := #[] } -> EP X pins σ Q (.ref s.heap.objs.size) { s with heap := h' } := fun its r' hz h' c' kp e =>
    ⟨.ref s.heap.objs.size, _, I.laid (t' := s.toks) kp (Nat.le_refl _) (show cg X.prog X.w _ h' _ (.lst ys) from ⟨hz, its, c', r', e⟩), rfl, q _ (I.hok.fresh (Nat.le_refl _))⟩
  rcases hq with hq | hq
  . obtain ⟨its, r', pl, hz⟩ := I.list hq
    have hlen := r'.length
    obtain ⟨o, ho, hc, n, hd⟩ := pl.isList
    exact call_list_seq p (.inl rfl) ho hc hd (fun h' c' kp e => fin its r' hz h' c' kp e) (by simp only [List.size_toArray] <;> omega)
  . obtain ⟨its, r', pl, hz⟩ := I.tuple hq
    have hlen := r'.length
    obtain ⟨o, ho, hc, n, hd⟩ := pl
    exact call_list_seq p (.inr rfl) ho hc hd (fun h' c' kp e => fin its r' hz h' c' kp e) (by simp only [List.size_toArray] <;> omega)
theorem jF : eh X (.type "tuple") (fun xs H Q => ∃ p ys, xs = [.ref p] /\ ((cv X.K H p ys /\ ∀ l, H l = none -> Q (.ref l) (bh H l (.tup ys))) \/ (cu X.K H p ys /\ Q (.ref p) H))) := by
  intro pins s σ H xs us Q I r h
  obtain ⟨p, ys, rfl, h⟩ := h
  obtain ⟨u, rfl, rx⟩ := eB r
  cases rx
  rcases h with ⟨hq, q⟩ | ⟨hq, q⟩
  . obtain ⟨its, r', pl, hz⟩ := I.list hq
    have hlen := r'.length
    refine call_tuple_list pl.isList (fun h' kp => ?_) (by simp only [List.size_toArray] <;> omega)
    have I1 : ak X pins σ H { s with heap := h' } := I.kept (t' := s.toks) kp
    have I2 : ak X pins σ (bh H h'.objs.size (.tup ys)) { s with heap := h'.push { cls := .type "tuple", data := .seq its.toArray } } :=
      I1.laid (t' := s.toks) (fun b o e => Heap.get?_push_of_some _ e) (Nat.le_refl _) (show cg X.prog X.w _ _ _ (.tup ys) from ⟨hz, its, r', IsTup.new _ _⟩)
    exact ⟨.ref h'.objs.size, _, I2, rfl, q _ (I1.hok.fresh (Nat.le_refl _))⟩
  . obtain ⟨its, r', pl, hz⟩ := I.tuple hq
    exact call_tuple_same pl ⟨.ref p, H, I, rfl, q⟩
def CY (K : W.Frag) (T : String) (x : V) (H : Hp) : Prop := match x with
  | .str _ => T = "str"
  | .int _ => T = "int"
  | .ref p => (T = "list" /\ ∃ xs, cv K H p xs) \/ (T = "tuple" /\ ∃ o, K.lookup p = some o /\ o.cls = .type "tuple" /\ o.dict = none) \/
      (T = "dict" /\ ((∃ kvs, H p = some (.dK kvs)) \/ ∃ kvs, H p = some (.dT kvs))) \/ (T = "set" /\ ∃ S n, H p = some (.set S n))
  | _ => False
theorem vS {pins : List (Addr × Obj)} {σ : St} {H : Hp} {s : Shared} {T : String} {x : V} {v : Value} (I : ak X pins σ H s) (r : aW x v) (ty : CY X.K T x H) :
    s.TypeIs v T /\ ∀ a, v = .ref a -> ∃ ob, s.heap.get? a = some ob /\ ob.dict = none := by
  cases x with
  | str z =>
    obtain ⟨t, rfl⟩ := r
    cases (show T = "str" from ty)
    exact ⟨typeIs_str s z t, fun _ e => nomatch e⟩
  | int i =>
    obtain ⟨t, rfl⟩ := r
    cases (show T = "int" from ty)
    exact ⟨typeIs_int s i t, fun _ e => nomatch e⟩
  | ref p =>
    cases r
    rcases ty with ⟨rfl, xs, hq⟩ | ⟨rfl, o, hk, hc, hd⟩ | ⟨rfl, hk⟩ | ⟨rfl, S, n, hk⟩
    . obtain ⟨its, _, pl, _⟩ := I.list hq
      refine ⟨pl.isList.typeIs, fun a e => ?_⟩
      cases e
      obtain ⟨o, n, e, c, hd, _⟩ := pl
      exact ⟨o, e, hd⟩
    . refine ⟨⟨o, I.kIn p o hk, hc⟩, fun a e => ?_⟩
      cases e
      exact ⟨o, I.kIn _ o hk, hd⟩
    . have z : ∃ o, s.heap.get? p = some o /\ o.ExactDict := by
        rcases hk with ⟨kvs, hk⟩ | ⟨kvs, hk⟩
        . obtain ⟨_, _, _, _, o, _, _, e, ex, _⟩ := I.hok p _ hk
          exact ⟨o, e, ex⟩
        . obtain ⟨_, _, _, _, o, _, _, e, ex, _⟩ := I.hok p _ hk
          exact ⟨o, e, ex⟩
      obtain ⟨o, e, ex⟩ := z
      refine ⟨⟨o, e, ex.1⟩, fun a e2 => ?_⟩
      cases e2
      exact ⟨o, e, ex.2.1⟩
    . obtain ⟨o, _, _, _, e, ex, _⟩ := I.hok p _ hk
      refine ⟨⟨o, e, ex.1⟩, fun a e2 => ?_⟩
      cases e2
      exact ⟨o, e, ex.2.1⟩
  | _ => exact False.elim ty
def IF (K : W.Frag) (T : String) (r : V -> List V -> Hp -> VK -> Prop) (to : TE) : TE := fun σ H Q => to σ H fun x H1 => CY K T x H1 /\ r x [] H1 Q
def Px (K : W.Frag) (T : String) (r : V -> List V -> Hp -> VK -> Prop) (to : TE) (t : TA) : TE := fun σ H Q => to σ H fun x H1 => CY K T x H1 /\ t σ H1 fun xs H2 => r x xs H2 Q
variable {o e : Expr} {es : List Expr} {to : TE} {t : TA} {name : Str} {apos cpos : Pos} {T id : String} {r : V -> List V -> Hp -> VK -> Prop}
theorem D1 (pa : PlainAttrs T) (slot : Slot T name id) (hty : typeOf (.builtin id) = pure (.type "method_descriptor")) (hm : Gw X id r) (ho : PE X o to)
    (hbase : attributeBase o name X.env (eval o X.env) = eval o X.env := by rfl) (hline : (apos.endLine == cpos.line) = true := by rfl) : PE X (.Call (.Attribute o name apos) [] [] cpos) (IF X.K T r to) := by
  intro pins s σ H Q I h
  refine wpAny_Call_method0_late hbase hline (aS (ho pins s σ H _ I h) fun v s1 ⟨x, H1, I1, r1, ty, q1⟩ => ?_)
  obtain ⟨h1, h2⟩ := vS I1 r1 ty
  exact ⟨T, id, pa, slot, hty, h1, h2, Calls.callWith_builtin rfl (PySem.evalArgs_none (hm pins s1 σ H1 x [] v [] Q I1 r1 .nil q1))⟩
theorem Hi (pa : PlainAttrs T) (slot : Slot T name id) (hty : typeOf (.builtin id) = pure (.type "method_descriptor")) (hm : Gw X id r) (ho : PE X o to) (ha : PA X (e :: es) t)
    (hbase : attributeBase o name X.env (eval o X.env) = eval o X.env := by rfl)
    (hfew : ((backTo cpos (starEach (e :: es) X.env)).all (fun x => !x.1) && (backToKw cpos (keywordEach [] X.env)).all (fun x => x.1.isSome)
      && decide ((e :: es).length + ([] : List Keyword).length + (if ([] : List Keyword).isEmpty then 0 else 1) < 30)) = true := by rfl)
    (hline : (apos.endLine == cpos.line) = true := by rfl) (hs : starEach (e :: es) X.env = (false, eval e X.env) :: starEach es X.env := by rfl) (hplain : (backTo cpos (starEach es X.env)).any (·.1) = false := by rfl) :
    PE X (.Call (.Attribute o name apos) (e :: es) [] cpos) (Px X.K T r to t) := by
  intro pins s σ H Q I h
  refine wpAny_Call_method_late hbase hfew hline rfl (aS (ho pins s σ H _ I h) fun v s1 ⟨x, H1, I1, r1, ty, q1⟩ => ?_)
  obtain ⟨h1, h2⟩ := vS I1 r1 ty
  refine ⟨T, id, pa, slot, hty, h1, h2, ?_⟩
  have hA := ha cpos pins s1 σ H1 _ I1 q1
  rw [hs] at hA ⊢
  refine Calls.callWith_builtin (by show (false || (backTo cpos (starEach es X.env)).any (·.1)) = false; rw [hplain] <;> rfl) (Calls.evalArgs_plain ?_)
  exact aS hA fun us s2 ⟨vs, H2, I2, r2, q2⟩ => hm pins s2 σ H2 x vs v us Q I2 r1 r2 q2
/- xs.append(e), list.index on a module's tuple .. are Gw facts of 06m -/
end
end L2
namespace L2
open PySem PySem.Spec PyProof.Rows
def Gx (X : Cx) (id : String) (r : V -> List V -> Hp -> VK -> Prop) : Prop :=
  ∀ (pins : List (Addr × Obj)) (s : Shared) (σ : St) (H : Hp) (x : V) (xs : List V) (v : Value) (us : List Value) (Q : VK), ak X pins σ H s -> aW x v -> aL xs us -> r x xs H Q ->
    wpAny (model X.prog X.w) X.A (call (.builtin id) (v :: us)) (EP X pins σ Q) X.xe s
theorem aL.one : ∀ {x : V} {us : List Value}, aL [x] us -> ∃ u, us = [u] /\ aW x u
  | _, _, .cons r .nil => ⟨_, rfl, r⟩
theorem aL.zero : ∀ {us : List Value}, aL [] us -> us = []
  | _, .nil => rfl
theorem aL.reverse {xs : List V} {us : List Value} (h : aL xs us) : aL xs.reverse us.reverse := by
  induction h with
  | nil => exact .nil
  | cons r t ih => rw [List.reverse_cons, List.reverse_cons]; exact aL.append ih (.cons r .nil)
section
variable {X : Cx} {pins : List (Addr × Obj)} {σ : St} {H : Hp} {s : Shared} {l b : Addr} {xs ys zs : List V}
theorem ak.lset {its its' : List Value} {n : Nat} {f : Array Value -> Array Value} {t' : Nat} (I : ak X pins σ H s) (hH : H l = some (.lst xs))
    (e : s.heap.get? l = some { cls := .type "list", data := .seq its.toArray n }) (hf : f its.toArray = its'.toArray) (hv : aL ys its') (hz : ys.length <= sizeLine) :
    ak X pins σ (bh H l (.lst ys)) { s with heap := s.heap.update l (Obj.mapSeq f), toks := t' } := by
  have q := PySem.IsL.update e f
  rw [hf] at q
  refine I.write (x := l) (e := l) (by rw [hH]; exact trivial) (.inl rfl) (fun b' u hb hu => (Heap.get?_update_other s.heap (Obj.mapSeq f) (Ne.symm hb)).trans hu) ⟨_, q⟩ ?_
  exact ⟨hz, its', _, hv, q⟩
theorem ak.lnew {its : List Value} {t' : Nat} (I : ak X pins σ H s) (hv : aL ys its) (hz : ys.length <= sizeLine) :
    ak X pins σ (bh H s.heap.objs.size (.lst ys)) { s with heap := s.heap.push { cls := .type "list", data := .seq its.toArray }, toks := t' } :=
  I.laid (fun _ _ q => Heap.get?_push_of_some _ q) (Nat.le_refl _) ⟨hz, its, 0, hv, Heap.get?_push_size _ rfl⟩
theorem ak.fresh (I : ak X pins σ H s) : H s.heap.objs.size = none := I.hok.fresh (Nat.le_refl _)
theorem ak.lstM (I : ak X pins σ H s) (hH : H l = some (.lst xs)) : xs.length <= sizeLine /\ ∃ (its : List Value) (n : Nat), aL xs its /\ xs.length = its.length /\ s.heap.get? l = some { cls := .type "list", data := .seq its.toArray n } := by
  obtain ⟨z, its, n, r, e⟩ := I.hok l _ hH
  exact ⟨z, its, n, r, r.length, e⟩
end
section
variable {X : Cx}
def Bk : V -> List V -> Hp -> VK -> Prop := fun x vs H Q => ∃ l xs y, x = .ref l /\ vs = [y] /\ H l = some (.lst xs) /\ xs.length < sizeLine /\ Q .non (bh H l (.lst (xs ++ [y])))
theorem pQ : Gx X "list.append" Bk := by
  intro pins s σ H x vs v us Q I rx rv h
  obtain ⟨l, xs, y, rfl, rfl, hH, hz, q⟩ := h
  cases rx
  obtain ⟨u, rfl, ru⟩ := rv.one
  obtain ⟨z, its, n, r, hl, e⟩ := I.lstM hH
  refine call_meets F.slot_list_append ⟨_, e, rfl⟩ F.entry_list_append (F.args_list_append_2 _ _) (PySem.list_append l its.toArray n u (by rw [List.size_toArray]; omega)) ⟨e, ?_⟩
  refine ⟨.non, _, I.lset (its' := its ++ [u]) hH e (by simp) (r.append (.cons ru .nil)) ?_, rfl, q⟩
  rw [List.length_append, List.length_singleton]
  omega
end
section
variable {prog : Program} {w : World} {A : Around} {E : Value -> Shared -> Prop} {s : Shared}
set_option maxRecDepth 100000 in
end
section
variable {X : Cx}
end
end L2
namespace Att
open PySem PySem.W PySem.Calls PyProof.Rows
theorem nX {P : Params} {h : Heap} : ∀ (ns : List Int) (vs : List Value), WellAll P h vs (ns.map WData.int) -> IntsAre vs ns := by
  intro ns
  induction ns with
  | nil =>
    intro vs w
    rw [List.map_nil] at w
    cases w
    exact .nil
  | cons n ns ih =>
    intro vs w
    rw [List.map_cons] at w
    cases w with
    | cons a b =>
      cases a
      exact .cons _ _ (ih _ b)
theorem v7 {l : OpenLaw} {n : Nat} (hn : l.most = some n) {P : Params} {h : Heap} {args : List WData} {vals : List Value}
    (hpre : l.row.toRowW.claim.pre args = true) (hwl : WellAll P h vals args) :
    ∃ a vs ns, vals = [Value.ref a] /\ args = [WData.list (ns.map WData.int)] /\ h.get? a = some { cls := .type "list", data := .seq vs.toArray } /\ IntsAre vs ns /\ ns.length <= n := by
  have hsh : WShape.hasAll [] args [.list .int] = true := (pre_splitW hpre).1
  have hc : l.pre.holds [] { args := args } = true := (pre_splitW hpre).2
  obtain ⟨d, r, rfl, h1, h2⟩ := hasAllW_cons hsh
  obtain rfl := hasAllW_nil h2
  obtain ⟨xs, rfl, h3⟩ := hasW_list h1
  obtain ⟨ns, rfl⟩ := items_int h3
  have hlen : ns.length <= n := by
    unfold OpenLaw.pre at hc
    have h4 : (WTm.not (.lt (.lit (.int (n : Int))) (.len (.arg 0)))).holds [] { args := [.list (ns.map .int)] } = true := by
      have h4 := (holds_andW hc).1
      rw [hn] at h4
      exact h4
    have h5 := condW_of h4 (w_not (w_lt w_lit (w_len_list (w_arg rfl))))
    rw [List.length_map] at h5
    refine Nat.le_of_not_lt fun q => ?_
    have q' : (n : Int) < ((ns.length : Nat) : Int) := by omega
    first
      | (rw [decide_eq_true q'] at h5; exact absurd h5 (by decide))
      | (simp at h5; omega)
  cases hwl with
  | cons w1 w2 =>
    cases w2
    cases w1 with
    | list ho hall => exact ⟨_, _, ns, rfl, rfl, ho, nX ns _ hall, hlen⟩
theorem wa (l : OpenLaw) (args : List WData) : l.row.toRowW.claim.post args (.bool true) args = true :=
  postW_of (r := l.row.toRowW) (X := (true == true))
    (show WShape.has [] (.bool true) .bool = true by first | rfl | decide | simp [WShape.has, WShape.arms, WShape.armsAll])
    (show (WTm.eq .res (.lit (.bool true))).value [] { args := args, res := some (.bool true), after := args } = some (.bool (true == true)) from w_eq_bool (w_res rfl) w_lit) rfl
theorem attach_call {l : OpenLaw} {n : Nat} {q : Program} {loose : List Str} {XP : (Str -> Option Value) -> Heap -> Prop} {YP : World -> Heap -> Prop} {d : DefRec}
    (hn : l.most = some n) (hdf : d.params.defaults = [])
    (call : ∀ (w : World) (s₀ s₁ : Shared) (mg mb : Str -> Option Value) (fa : Addr) (o : Obj) (pm cd doc : Value) (a : Addr) (vs : List Value) (ns : List Int),
      Ground q loose [] XP w s₀ mg mb s₁.heap -> YP w s₁.heap ->
      s₁.heap.get? fa = some o -> o.data = .func (docDef d.name d.params d.body d.scope pm cd doc) -> s₁.heap.CodeRec cd d.name -> mg d.name = some (.ref fa) ->
      s₁.heap.get? a = some { cls := .type "list", data := .seq vs.toArray } -> IntsAre vs ns -> ns.length <= n -> s₁.gens = #[] ->
      codeAny (model l.prog w) callerA (.call (.ref fa) ⟨[.ref a], []⟩) (fun r s' => r = .ok (.ret (.bool true)) /\ OldK s₁.heap s'.heap /\ s'.os = s₁.os /\ AllBare s'.gens) s₁) :
    WalkO q loose XP YP l.row.toRowW d [] (fun f vs => PySem.call f vs) := by
  intro w s₀ s₁ mg mb G Y fa o pm cd doc dV kV ho hd hcd hD hmg hg args vals as hpre hlay hrd hwl hlo
  obtain rfl : dV = .none := Dflts.none hD hdf
  obtain rfl : kV = .none := Dflts.noKw hD
  obtain ⟨a, vs, ns, rfl, rfl, hobj, hints, hlen⟩ := v7 hn hpre hwl
  refine enter_call (codeAny_mono (call w s₀ s₁ mg mb fa o pm cd doc a vs ns G Y ho (fd_plain hd) hcd hmg hobj hints hlen hg) fun r s' hq => ?_)
  obtain ⟨rfl, h2, h3, h4⟩ := hq
  exact ⟨.inl ⟨.bool true, .bool true, [], rfl, fun _ => rfl, .bool true, wa l _, fun _ => ⟨List.Pairwise.nil, fun _ hm => (nomatch hm)⟩⟩, h2, h3, h4⟩
section
variable {prog : Program} {w : World} {A : Around} {E : Value -> Shared -> Prop} {s : Shared} {K : Frag}
end
end Att
namespace L2
open PySem PySem.Spec PyProof.Rows
theorem pL : ∀ {vs : List Value} {ns : List Int}, IntsAre vs ns -> aL (ns.map V.int) vs
  | _, _, .nil => .nil
  | _, _, .cons n t h => .cons ⟨t, rfl⟩ (pL h)
def vM (H : Hp) : Prop := ∀ b, H b = none \/ ∃ o xs, H b = some (.frz o (.lst xs))
theorem yH {P : Program} {w : World} {K : W.Frag} {mg mb : Str -> Option Value} {CX : jJ} {k : Nat} {fa a : Addr} {fd : FuncData} {x : Str} {sp : Sp} {s₁ : Shared} {vs : List Value} {ns : List Int}
    (KX : K.In s₁.heap) (hns : s₁.heap.Ns mainGlobals mg) (hb : s₁.heap.Ns builtinsNs mb) (hbb : ∀ x : Str, x ≠ "__name__" -> mb x = bootBuiltins x) (hlim : s₁.heap.NoLimit) (hg : s₁.gens = #[])
    (ha : s₁.heap.get? a = some { cls := .type "list", data := .seq vs.toArray }) (hi : IntsAre vs ns) (hl : ns.length <= sizeLine) (hr : cq k callerA)
    (F : ∀ base : Heap, K.In base -> base.Ns mainGlobals mg -> cR P w K mg base CX k fa fd [x] sp) (hbind : ∀ (s : Shared) (u : Value), BindsTo s fd ⟨[u], []⟩ [(x, u)])
    (hsp : ∀ H : Hp, vM H -> cv K H a (ns.map V.int) -> sp [.ref a] H (fun v _ => v = .bl true) fun _ _ _ => False)
    (hCX : ∀ H e s', CX [] H s₁ (fun _ _ _ => False) e s' -> False) :
    codeAny (model P w) callerA (.call (.ref fa) ⟨[.ref a], []⟩) (fun r s' => r = .ok (.ret (.bool true)) /\ OldK s₁.heap s'.heap /\ s'.os = s₁.os /\ AllBare s'.gens) s₁ := by
  have rv := pL hi
  have lenV := hi.length
  have core : ∀ H : Hp, vM H -> cv K H a (ns.map V.int) -> dH P w H s₁.heap -> (∀ b, H b ≠ none -> b = a) -> (H a ≠ none -> K.lookup a = none) ->
      codeAny (model P w) callerA (.call (.ref fa) ⟨[.ref a], []⟩) (fun r s' => r = .ok (.ret (.bool true)) /\ OldK s₁.heap s'.heap /\ s'.os = s₁.os /\ AllBare s'.gens) s₁ := by
    intro H hO hS hok hA hK
    have jb : ∀ {b : Addr} {o : Obj}, s₁.heap.get? b = some o -> H b = none -> (jq s₁.heap H).get? b = some o := fun e n => yQ e n
    have noA : ∀ {b : Addr} {o : Obj} {es : Array DictEntry} {ep : Nat}, s₁.heap.get? b = some o -> o.data = .dict es ep -> H b = none := fun {b o es ep} e d => by
      cases q : H b with
      | none => rfl
      | some u =>
        have e' : b = a := hA b (by rw [q]; simp)
        subst e'
        rw [ha] at e; cases e
        have d' : Data.seq vs.toArray _ = Data.dict es ep := d
        cases d'
    have nsK : ∀ {b : Addr} {m : Str -> Option Value}, s₁.heap.Ns b m -> (jq s₁.heap H).Ns b m := fun {b m} ⟨o, es, ep, e, d, r⟩ => ⟨o, es, ep, jb e (noA e d), d, r⟩
    have hKb : K.In (jq s₁.heap H) := fun b o e => jb (KX b o e) (by
      cases q : H b with
      | none => rfl
      | some u =>
        have e' : b = a := hA b (by rw [q]; simp)
        subst e'
        rw [hK (by rw [q]; simp)] at e; cases e)
    have hM : Mod K mg (jq s₁.heap H) := ⟨hKb, nsK hns, ⟨mb, nsK hb, hbb⟩, let ⟨mc, h1, h2⟩ := hlim; ⟨mc, nsK h1, h2⟩⟩
    have e0 : iR P w K mg (jq s₁.heap H) callerA [] s₁ H := ⟨rfl, hM, fun b o e => BI e, Nat.le_of_eq (wU _ _), trivial, fun b hb => absurd (show b ∈ ([] : List Addr) from hb) (by simp), hok, .of_eq hg⟩
    refine codeAny_mono ((F _ hKb (nsK hns)).run callerA [] s₁ H ⟨[.ref a], []⟩ [.ref a] [.ref a] _ _ hr e0 (hbind s₁ (.ref a)) (.cons rfl .nil) (hsp H hO hS)) fun r s' h => ?_
    cases r with
    | error e => exact (hCX H e s' h).elim
    | ok fl =>
      cases fl with
      | next => exact False.elim h
      | brk => exact False.elim h
      | cont => exact False.elim h
      | ret u =>
        obtain ⟨v, H', os, bare, un, hok', r', q⟩ := h
        have q' : v = .bl true := q
        subst q'
        obtain rfl : u = Value.bool true := r'
        refine ⟨rfl, OldK.of_keep fun b o e => ?_, os, bare⟩
        cases q : H b with
        | none => exact un.keep b o e q (by intro z; exact absurd (show b ∈ ([] : List Addr) from z) (by simp)) (by simp)
        | some u =>
          rcases hO b with z | ⟨ob, xs, z⟩
          . rw [q] at z; cases z
          . have z2 := un.frzs b ob _ z
            obtain ⟨e1, _⟩ := hok b _ z
            obtain ⟨e2, _⟩ := hok' b _ z2
            rw [e] at e1; cases e1
            exact e2
  cases hk : K.lookup a with
  | some o =>
    have e := KX a o hk
    rw [ha] at e
    cases e
    refine core (fun _ => none) (fun _ => .inl rfl) (.inr ⟨_, vs.toArray, _, hk, rfl, rfl, rfl, by rw [List.size_toArray, lenV]; exact hl, by simpa using rv⟩) (fun b u z => by have z' : (none : Option HO) = some u := z; cases z') (fun b z => absurd rfl z) fun z => absurd rfl z
  | none =>
    refine core (fun b => if b = a then some (.frz { cls := .type "list", data := .seq vs.toArray } (.lst (ns.map V.int))) else none) (fun b => ?_) (.inl (.inr ⟨{ cls := .type "list", data := .seq vs.toArray }, if_pos rfl⟩)) (fun b u z => ?_) (fun b z => ?_) fun _ => hk
    . by_cases hb : b = a
      . exact .inr ⟨_, _, if_pos hb⟩
      . exact .inl (if_neg hb)
    . by_cases hb : b = a
      . have z' := (if_pos hb).symm.trans z
        cases z'
        subst hb
        exact ⟨ha, by rw [List.length_map]; exact hl, vs, _, rv, ha⟩
      . have z' := (if_neg hb).symm.trans z
        cases z'
    . by_cases hb : b = a
      . exact hb
      . exact absurd (if_neg hb) z
end L2
namespace L2
open PySem PySem.Spec PyProof.Rows
abbrev KOf {K : W.Frag} {h : Heap} (_ : K.In h) : W.Frag := K
theorem walk_of {l : W.OpenLaw} {n k : Nat} {q : Program} {loose : List Str} {XP : (Str -> Option Value) -> Heap -> Prop} {YP : World -> Heap -> Prop} {d : DefRec} {K : Params -> W.Frag} {CX : World -> jJ} {sp : World -> Sp} {x : Str}
    (hn : l.most = some n) (hn2 : n <= sizeLine) (hdf : d.params.defaults = []) (hr : cq k callerA)
    (hY : ∀ (w : World) (h : Heap), YP w h -> (K w.params).In h)
    (F : ∀ (w : World) (mg : Str -> Option Value) (fa : Addr) (h : Heap), (K w.params).In h -> h.Ns mainGlobals mg -> mg d.name = some (.ref fa) ->
      ∃ fd : FuncData, (∀ (s : Shared) (u : Value), BindsTo s fd ⟨[u], []⟩ [(x, u)]) /\
        ∀ base : Heap, (K w.params).In base -> base.Ns mainGlobals mg -> cR l.prog w (K w.params) mg base (CX w) k fa fd [x] (sp w))
    (hsp : ∀ (w : World) (H : Hp) (a : Addr) (ns : List Int), ns.length <= n -> vM H -> cv (K w.params) H a (ns.map V.int) -> sp w [.ref a] H (fun v _ => v = .bl true) fun _ _ _ => False)
    (hCX : ∀ (w : World) (H : Hp) (s : Shared) (e : Value) (s' : Shared), CX w [] H s (fun _ _ _ => False) e s' -> False) :
    W.WalkO q loose XP YP l.row.toRowW d [] (fun f vs => PySem.call f vs) := by
  refine Att.attach_call hn hdf fun w s₀ s₁ mg mb fa o pm cd doc a vs ns G Y ho hd hcd hmg hobj hints hlen hg => ?_
  have KX := hY w _ Y
  obtain ⟨fd, hb, hF⟩ := F w mg fa _ KX G.T.g hmg
  exact yH KX G.T.g G.T.b G.T.builtins G.T.nolimit hg hobj hints (Nat.le_trans hlen hn2) hr hF hb (fun H hO hS => hsp w H a ns hlen hO hS) fun H e s' => hCX w H s₁ e s'
end L2
/- THE LAST THEOREM (shape; LID, My.* are yours):
   My.Adr: a structure of the addresses that your layer names (classes, functions); My.Txt K t: a structure (Prop) of the equations over K;
   My.txt_mk : {K} {implicit addresses ..} (e1 : nsIn K mainGlobals "law" = some (some (.ref f))) (e2 : K.lookup f = some ⟨oc, od, .func (fnOf "law" "law" params body scope dV kV doc pm an cdv ct), sl⟩) (e3 : codeIn K cdv "law" = true) .. : ∃ t, My.Txt K t
set_option maxRecDepth 100000 in
set_option maxHeartbeats 0 in
theorem PySem.Challenge.cw_LID_holds : PySem.Challenge.rw_LID.Holds := by
  w_on; o_law; k_head; (case hw => w_witness2)
  k_fill
  refine L2.walk_of (l := PySem.Challenge.rw_LID) (n := 63) (k := 40) (x := "script") (CX := fun w => ..) (sp := fun _ => My.sp_law) rfl (by decide) rfl ⟨rfl, by decide, by decide⟩ (fun w h Y => PySem.W.kIn_of Y) ?F ?S ?C
  case F =>
    intro w mg fa h KX G hmg
    have T : ∃ t, My.Txt (L2.KOf KX) t := by
      dsimp only [L2.KOf]                          -- K must stand as «<heap const> w.params» for k_is
      refine' My.txt_mk ?e1 ?e2 ?e3 ..
      (case e1 => PySem.W.k_is)                    -- in the order: a name -> its address -> its object -> its parts
      (case e2 => PySem.W.k_is)
      ..
    obtain ⟨t, T⟩ := T
    have e0 := hmg.symm.trans (PySem.W.mg_of KX G T.law)
    cases e0                                       -- fa is the law's own address
    exact ⟨_, fun s u => .of_eq rfl, fun base kb nb => My.law_fn T kb nb⟩     -- if «.of_eq rfl» comes too early: refine' ⟨_, ?b, fun base kb nb => My.law_fn T kb nb⟩; exact fun s u => .of_eq rfl
  case S => exact fun w H a ns hl hO hS => ..
  case C => exact ..
(the tactic k_is has no namespace: write k_is) -/
namespace L2
open PySem PySem.Spec PyProof.Rows
def aM (s : Stmt) : Arguments := match s with
  | .FunctionDef _ a _ _ _ _ _ _ _ _ => a
  | _ => { posonlyargs := [], args := [], vararg := none, kwonlyargs := [], kw_defaults := [], kwarg := none, defaults := [] }
def ai (s : Stmt) : List Stmt := match s with
  | .FunctionDef _ _ b _ _ _ _ _ _ _ => b
  | _ => []
def aa (s : Stmt) : Scope := match s with
  | .FunctionDef _ _ _ _ _ _ sc _ _ _ => sc
  | _ => { kind := .function, names := [], isGenerator := false, isCoroutine := false }
abbrev gk : jJ := fun _ _ _ _ _ _ => False
abbrev E0 : XK := fun _ _ _ => False
theorem lv {X : Cx} : fz gk X E0 := fun _ _ _ _ _ _ _ h => h.elim
structure qk (K : W.Frag) (x qual : Str) (st : Stmt) (f : Addr) (fd : FuncData) : Prop where
  ex : ∃ (oc : Value) (od : Option Addr) (kV doc pm : Value) (an : Option Addr) (cdv ct : Value) (osl : Array (Option Value)),
    fd = W.fnOf x qual (aM st) (ai st) (aa st) .none kV doc pm an cdv ct /\ K.lookup f = some ⟨oc, od, .func fd, osl⟩ /\ W.codeIn K cdv qual = true
  kp : W.keepIn K (.ref f) = true
section
variable {P : Program} {w : World} {K : W.Frag} {mg : Str -> Option Value} {base : Heap}
theorem qk.ok {x qual : Str} {st : Stmt} {f : Addr} {fd : FuncData} {N ps : List Str} {k : Nat} {sp : Sp} (F : qk K x qual st f fd) (S : aK N ps (aa st)) (len : ∀ vs H Q E, sp vs H Q E -> vs.length = ps.length)
    (hbody : ∀ (cdv : Value) (A : Around) (outer : List Env) (s : Shared) (H : Hp) (vs : List V) (Q : VK) (E : XK), cq k (A.deeper (envOfC qual (aa st) s.heap.objs.size f cdv)) -> sp vs H Q E ->
      ∃ t, gJ (kB gk P w K mg base N qual (aa st) f cdv A outer s H E).nox (ai st) t /\ t { nx := fun _ H' => Q .non H', rt := Q } (start N vs) H) : cR P w K mg base gk (k + 1) f fd ps sp := by
  obtain ⟨oc, od, kV, doc, pm, an, cdv, ct, osl, rfl, lk, hcd⟩ := F.ex
  refine HI lk hcd S len fun A outer s H vs Q E hr hsp => ?_
  obtain ⟨t, h, q⟩ := hbody cdv A outer s H vs Q E hr hsp
  exact ⟨t, h.nox, q⟩
theorem qk.binds {x qual : Str} {st : Stmt} {f : Addr} {fd : FuncData} {ps : List Str} (F : qk K x qual st f fd)
    (h : ∀ (kV doc pm : Value) (an : Option Addr) (cdv ct : Value) (us : List Value), us.length = ps.length -> bindArgs (W.fnOf x qual (aM st) (ai st) (aa st) .none kV doc pm an cdv ct) ⟨us, []⟩ = pure (ps.zip us)) : cW K fd ps [] := by
  obtain ⟨oc, od, kV, doc, pm, an, cdv, ct, osl, rfl, lk, hcd⟩ := F.ex
  exact .all (h kV doc pm an cdv ct)
theorem aY {x qual : Str} {st : Stmt} {f : Addr} {oc : Value} {od an : Option Addr} {osl : Array (Option Value)} {kV doc pm cdv ct : Value} (l : K.lookup f = some ⟨oc, od, .func (W.fnOf x qual (aM st) (ai st) (aa st) .none kV doc pm an cdv ct), osl⟩)
    (c : W.codeIn K cdv qual = true) (k : W.keepIn K (.ref f) = true) : qk K x qual st f (W.fnOf x qual (aM st) (ai st) (aa st) .none kV doc pm an cdv ct) := ⟨⟨oc, od, kV, doc, pm, an, cdv, ct, osl, rfl, l, c⟩, k⟩
end
section
variable {X : Cx}
end
def aF (H H' : Hp) : Prop := ∀ b o, H b = some o -> H' b = some o
theorem aF.refl (H : Hp) : aF H H := fun _ _ h => h
theorem aF.trans {H H1 H2 : Hp} (a : aF H H1) (b : aF H1 H2) : aF H H2 := fun c o h => b c o (a c o h)
theorem aF.free {H H' : Hp} (e : aF H H') {l : Addr} (h : H' l = Option.none) : H l = Option.none := by
  cases q : H l with
  | none => rfl
  | some o =>
    rw [e l o q] at h
    cases h
theorem aF.seq {K : W.Frag} {H H' : Hp} {a : Addr} {xs : List V} (e : aF H H') (h : cv K H a xs) : cv K H' a xs := by
  rcases h with (h | ⟨o, h⟩) | h
  . exact .inl (.inl (e _ _ h))
  . exact .inl (.inr ⟨o, e _ _ h⟩)
  . exact .inr h
end L2
namespace L2
open PySem PySem.Spec PyProof.Rows
section
variable {κ : Type} [DecidableEq κ]
def jg (kvs : List (κ × V)) (k : κ) : Option V := (kvs.find? fun kv => decide (kv.1 = k)).map (·.2)
def iF (kvs : List (κ × V)) (k : κ) (v : V) : List (κ × V) :=
  if (kvs.any fun kv => decide (kv.1 = k)) = true then kvs.map (fun kv => if kv.1 = k then (kv.1, v) else kv) else kvs ++ [(k, v)]
def AE (kvs : List (κ × V)) (k : κ) : List (κ × V) := kvs.filter fun kv => decide (kv.1 ≠ k)
theorem mK {p : κ × V} {r : List (κ × V)} {k : κ} (e : p.1 = k) : jg (p :: r) k = some p.2 := by simp [jg, List.find?_cons, e]
theorem mL {p : κ × V} {r : List (κ × V)} {k : κ} (e : ¬ p.1 = k) : jg (p :: r) k = jg r k := by simp [jg, List.find?_cons, e]
theorem qI (k : κ) : ∀ kvs : List (κ × V), (kvs.any fun kv => decide (kv.1 = k)) = (jg kvs k).isSome
  | [] => rfl
  | p :: r => by
    rw [List.any_cons]
    by_cases e : p.1 = k
    . simp only [mK e, decide_eq_true e, Bool.true_or, Option.isSome_some]
    . rw [mL e, decide_eq_false e, Bool.false_or]; exact qI k r
theorem tj (kvs : List (κ × V)) (k : κ) (v : V) : (iF kvs k v).length <= kvs.length + 1 := by
  unfold iF
  split
  . rw [List.length_map]; omega
  . rw [List.length_append, List.length_cons, List.length_nil]; omega
theorem fb.isSome_eq {o : Option V} {u : Option Value} (r : fb o u) : o.isSome = u.isSome := by
  cases o with
  | none => cases u with
    | none => rfl
    | some _ => exact (show False from r).elim
  | some _ => cases u with
    | none => exact (show False from r).elim
    | some _ => rfl
theorem fb.getD {o : Option V} {u : Option Value} {d : V} {d' : Value} (r : fb o u) (rd : aW d d') : aW (o.getD d) (u.getD d') := by
  cases o with
  | none => cases u with
    | none => exact rd
    | some _ => exact (show False from r).elim
  | some _ => cases u with
    | none => exact (show False from r).elim
    | some _ => exact r
theorem KV.val {kvs : List (κ × V)} {vs : List (κ × Value)} (r : KV kvs vs) (k : κ) : fb (jg kvs k) (valueAt vs k) := by
  unfold KV at r
  induction r with
  | nil => exact True.intro
  | @cons p q ps qs h t ih =>
    obtain ⟨h1, h2⟩ := h
    by_cases e : p.1 = k
    . have e' : q.1 = k := h1.symm.trans e
      have b : valueAt (q :: qs) k = some q.2 := by simp [valueAt, List.find?_cons, e']
      rw [mK e, b]; exact h2
    . have e' : ¬ q.1 = k := fun z => e (h1.trans z)
      have b : valueAt (q :: qs) k = valueAt qs k := by simp [valueAt, List.find?_cons, e']
      rw [mL e, b]; exact ih
theorem KV.any {kvs : List (κ × V)} {vs : List (κ × Value)} (r : KV kvs vs) (k : κ) : (kvs.any fun kv => decide (kv.1 = k)) = vs.any fun kv => decide (kv.1 = k) := by
  unfold KV at r
  induction r with
  | nil => rfl
  | cons h t ih => rw [List.any_cons, List.any_cons, ih, h.1]
theorem KV.repl {kvs : List (κ × V)} {vs : List (κ × Value)} (r : KV kvs vs) (k : κ) {y : V} {u : Value} (ry : aW y u) :
    KV (kvs.map fun kv => if kv.1 = k then (kv.1, y) else kv) (vs.map fun kv => if kv.1 = k then (kv.1, u) else kv) := by
  unfold KV at r ⊢
  induction r with
  | nil => exact .nil
  | @cons p q ps qs h t ih =>
    rw [List.map_cons, List.map_cons]
    refine .cons ?_ ih
    obtain ⟨h1, h2⟩ := h
    by_cases e : p.1 = k
    . rw [if_pos e, if_pos (h1.symm.trans e)]; exact ⟨h1, ry⟩
    . rw [if_neg e, if_neg (fun z => e (h1.trans z))]; exact ⟨h1, h2⟩
theorem KV.put {kvs : List (κ × V)} {vs : List (κ × Value)} (r : KV kvs vs) (k : κ) {y : V} {u : Value} (ry : aW y u) : KV (iF kvs k y) (stored vs k u) := by
  unfold iF stored
  rw [r.any k]
  by_cases e : (vs.any fun kv => decide (kv.1 = k)) = true
  . rw [if_pos e, if_pos e]; exact r.repl k ry
  . rw [if_neg e, if_neg e]; exact Paired.snoc r ⟨rfl, ry⟩
theorem KV.drop {kvs : List (κ × V)} {vs : List (κ × Value)} (r : KV kvs vs) (k : κ) : KV (AE kvs k) (without vs k) := by
  unfold KV at r ⊢
  unfold AE without
  induction r with
  | nil => exact .nil
  | @cons p q ps qs h t ih =>
    obtain ⟨h1, h2⟩ := h
    rw [List.filter_cons, List.filter_cons]
    by_cases e : p.1 = k
    . have a : ¬ decide (p.1 ≠ k) = true := by simp [e]
      have b : ¬ decide (q.1 ≠ k) = true := by simp [h1.symm.trans e]
      rw [if_neg a, if_neg b]; exact ih
    . have e' : ¬ q.1 = k := fun z => e (h1.trans z)
      have a : decide (p.1 ≠ k) = true := by simp [e]
      have b : decide (q.1 ≠ k) = true := by simp [e']
      rw [if_pos a, if_pos b]; exact .cons ⟨h1, h2⟩ ih
theorem KV.length {kvs : List (κ × V)} {vs : List (κ × Value)} (r : KV kvs vs) : kvs.length = vs.length := Paired.length r
end
theorem vk {P : Program} {w : World} {k : bY} {u : Value} (r : aW (kV k) u) : (fK P w).is k u = true := by
  cases k with
  | inl i => obtain ⟨t, e⟩ := (show ∃ t, u = Value.int i t from r); subst e; exact tf P w i t
  | inr x => obtain ⟨t, e⟩ := (show ∃ t, u = Value.str x t from r); subst e; exact sZ P w x t
end L2
set_option maxHeartbeats 4000000
namespace Sp
open PySem PySem.Spec PyProof.Rows L2
inductive D where
  | non | bl (b : Bool) | int (i : Int) | str (x : Str) | dct (ks : List bY) (ds : List D) | tup (l : List D) | lst (l : List D) | typ (n : String) | sn (n : Nat) | obj (n : Str) (ns : List Str) (ds : List D) | cls (n : Str)
mutual
def D.lless : D -> Bool
  | .lst _ => false
  | .dct _ _ => false
  | .tup l => am l
  | _ => true
def am : List D -> Bool
  | [] => true
  | d :: l => d.lless && am l
end
def sU (K : W.Frag) (H : Hp) (a : Addr) (vs : List V) : Bool -> Prop
  | true => H a = some (.lst vs)
  | false => (∃ o, H a = some (.frz o (.lst vs))) \/ ∃ (o : Obj) (its : Array Value) (n : Nat), K.lookup a = some o /\ o.cls = .type "list" /\ o.dict = none /\ o.data = .seq its n /\ its.size <= sizeLine /\ aL vs its.toList
theorem sU.sq {K : W.Frag} {H : Hp} {a : Addr} {vs : List V} : ∀ {b : Bool}, sU K H a vs b -> cv K H a vs
  | true, h => cv.of h
  | false, .inl ⟨o, h⟩ => .inl (.inr ⟨o, h⟩)
  | false, .inr h => .inr h
structure qC (K : W.Frag) (C : Addr) : Prop where
  ha : W.findIn K (.ref C) "__class__" = some (some (.builtin "object.__class__"))
  hn : W.specialIn K (.builtin "object.__class__") "__get__" = some (some (.builtin "getset_descriptor.__get__"))
  ht : W.takesIn K (.builtin "object.__class__") = some true
  hm : W.mroIn K C (.type "object") = some true
def Fw : List Str := ["Deed", "Turn", "HalfTurn", "Mirror"]
def qL (m n : Str) : Bool := decide (m = n) || (decide (n = "Deed") && (decide (m = "Turn") || decide (m = "HalfTurn") || decide (m = "Mirror")))
structure Ic (K : W.Frag) (C : Addr) (n : Str) : Prop where
  all : ∀ m ∈ Fw, ∀ Cm, W.nsIn K mainGlobals m = some (some (.ref Cm)) -> qC K Cm /\ W.kitOne K (.ref Cm) (.ref C) = some (qL m n)
abbrev bx := Addr -> Bool -> Prop
mutual
def ah (K : W.Frag) (H : Hp) (P : bx) : D -> V -> Prop
  | .non, v => v = .non
  | .bl b, v => v = .bl b
  | .int i, v => v = .int i
  | .str x, v => v = .str x
  | .dct ks ds, v => am ds = true /\ ks.length = ds.length /\ ∃ a vs, v = .ref a /\ H a = some (.dK (ks.zip vs)) /\ P a true /\ ag K H P ds vs
  | .typ n, v => v = .ty n
  | .sn n, v => ∃ a S, v = .ref a /\ H a = some (.set S n)
  | .cls n, v => ∃ C o, v = .ref C /\ W.nsIn K mainGlobals n = some (some (.ref C)) /\ K.lookup C = some o /\ o.cls = .type "type" /\ qC K C /\ Ic K C n
  | .obj n ns ds, v => am ds = true /\ ns.length = ds.length /\ ∃ a C dx vs, v = .ref a /\ W.nsIn K mainGlobals n = some (some (.ref C)) /\ gK K C /\ H a = some (.ins C dx (ns.zip vs)) /\ ag K H P ds vs
  | .tup l, v => ∃ a vs, v = .ref a /\ cu K H a vs /\ ag K H P l vs
  | .lst l, v => ∃ a vs b, v = .ref a /\ sU K H a vs b /\ P a b /\ ag K H P l vs
def ag (K : W.Frag) (H : Hp) (P : bx) : List D -> List V -> Prop
  | [], vs => vs = []
  | d :: l, vs => ∃ v r, vs = v :: r /\ ah K H P d v /\ ag K H P l r
end
def nm : HO -> Prop
  | .lst _ => False
  | .dK _ => False
  | _ => True
structure d7 (P P' : bx) (H H' : Hp) : Prop where
  oth : ∀ a o, H a = some o -> nm o -> H' a = some o
  lst : ∀ a o, H a = some o -> P a true -> H' a = some o
  impT : ∀ a o, H a = some o -> P a true -> P' a true
  impF : ∀ a, P a false -> P' a false
theorem d7.sq {P P' : bx} {H H' : Hp} {K : W.Frag} (s : d7 P P' H H') {a : Addr} {vs : List V} (h : cu K H a vs) : cu K H' a vs := by
  rcases h with (h | ⟨o, h⟩) | h
  . exact .inl (.inl (s.oth _ _ h True.intro))
  . exact .inl (.inr ⟨o, s.oth _ _ h True.intro⟩)
  . exact .inr h
theorem d7.ls {P P' : bx} {H H' : Hp} {K : W.Frag} (s : d7 P P' H H') {a : Addr} {vs : List V} : ∀ {b : Bool}, sU K H a vs b -> P a b -> sU K H' a vs b
  | true, h, p => s.lst a _ h p
  | false, .inl ⟨o, h⟩, _ => .inl ⟨o, s.oth _ _ h True.intro⟩
  | false, .inr h, _ => .inr h
theorem d7.imp {P P' : bx} {H H' : Hp} {K : W.Frag} (s : d7 P P' H H') {a : Addr} {vs : List V} : ∀ {b : Bool}, sU K H a vs b -> P a b -> P' a b
  | true, h, p => s.impT a _ h p
  | false, _, p => s.impF a p
mutual
theorem ah.mono {K : W.Frag} {P P' : bx} {H H' : Hp} (s : d7 P P' H H') : ∀ {d : D} {v : V}, ah K H P d v -> ah K H' P' d v
  | .non, v, h => by rw [ah] at h ⊢; exact h
  | .bl b, v, h => by rw [ah] at h ⊢; exact h
  | .int i, v, h => by rw [ah] at h ⊢; exact h
  | .str x, v, h => by rw [ah] at h ⊢; exact h
  | .dct ks ds, v, h => by
    rw [ah] at h ⊢
    obtain ⟨f, e0, a, vs, e, h1, p, r⟩ := h
    exact ⟨f, e0, a, vs, e, s.lst _ _ h1 p, s.impT _ _ h1 p, ag.mono s r⟩
  | .typ n, v, h => by rw [ah] at h ⊢; exact h
  | .sn n, v, h => by
    rw [ah] at h ⊢
    obtain ⟨a, S, e, h⟩ := h
    exact ⟨a, S, e, s.oth _ _ h True.intro⟩
  | .cls n, v, h => by rw [ah] at h ⊢; exact h
  | .obj n ns ds, v, h => by
    rw [ah] at h ⊢
    obtain ⟨f, e0, a, C, dx, vs, e, h1, h2, h3, r⟩ := h
    exact ⟨f, e0, a, C, dx, vs, e, h1, h2, s.oth _ _ h3 True.intro, ag.mono s r⟩
  | .tup l, v, h => by
    rw [ah] at h ⊢
    obtain ⟨a, vs, e, h, r⟩ := h
    exact ⟨a, vs, e, s.sq h, ag.mono s r⟩
  | .lst l, v, h => by
    rw [ah] at h ⊢
    obtain ⟨a, vs, b, e, h, p, r⟩ := h
    exact ⟨a, vs, b, e, s.ls h p, s.imp h p, ag.mono s r⟩
theorem ag.mono {K : W.Frag} {P P' : bx} {H H' : Hp} (s : d7 P P' H H') : ∀ {l : List D} {vs : List V}, ag K H P l vs -> ag K H' P' l vs
  | [], vs, h => by rw [ag] at h ⊢; exact h
  | d :: l, vs, h => by
    rw [ag] at h ⊢
    obtain ⟨v, r, e, h1, h2⟩ := h
    exact ⟨v, r, e, ah.mono s h1, ag.mono s h2⟩
end
theorem d7.same {P P' : bx} {H H' : Hp} (s : aF H H') (i : ∀ a b, P a b -> P' a b) : d7 P P' H H' := ⟨fun a o h _ => s a o h, fun a vs h _ => s a _ h, fun a _ _ p => i a true p, fun a p => i a false p⟩
theorem ah.same {K : W.Frag} {P : bx} {H H' : Hp} (s : aF H H') {d : D} {v : V} (h : ah K H P d v) : ah K H' P d v := h.mono (.same s fun _ _ p => p)
theorem ag.same {K : W.Frag} {P : bx} {H H' : Hp} (s : aF H H') {d : List D} {v : List V} (h : ag K H P d v) : ag K H' P d v := h.mono (.same s fun _ _ p => p)
theorem ah.imp {K : W.Frag} {P P' : bx} {H : Hp} (i : ∀ a b, P a b -> P' a b) {d : D} {v : V} (h : ah K H P d v) : ah K H P' d v := h.mono (.same (aF.refl _) i)
theorem ag.imp {K : W.Frag} {P P' : bx} {H : Hp} (i : ∀ a b, P a b -> P' a b) {d : List D} {v : List V} (h : ag K H P d v) : ag K H P' d v := h.mono (.same (aF.refl _) i)
theorem ah.impH {K : W.Frag} {P P' : bx} {H : Hp} (i : ∀ a o, H a = some o -> P a true -> P' a true) (j : ∀ a, P a false -> P' a false) {d : D} {v : V} (h : ah K H P d v) : ah K H P' d v := h.mono ⟨fun _ _ h _ => h, fun _ _ h _ => h, i, j⟩
theorem ag.impH {K : W.Frag} {P P' : bx} {H : Hp} (i : ∀ a o, H a = some o -> P a true -> P' a true) (j : ∀ a, P a false -> P' a false) {d : List D} {v : List V} (h : ag K H P d v) : ag K H P' d v := h.mono ⟨fun _ _ h _ => h, fun _ _ h _ => h, i, j⟩
mutual
theorem ah.flat {K : W.Frag} {P : bx} (P' : bx) {H : Hp} : ∀ {d : D} {v : V}, d.lless = true -> ah K H P d v -> ah K H P' d v
  | .non, v, _, h => by rw [ah] at h ⊢; exact h
  | .bl b, v, _, h => by rw [ah] at h ⊢; exact h
  | .int i, v, _, h => by rw [ah] at h ⊢; exact h
  | .str x, v, _, h => by rw [ah] at h ⊢; exact h
  | .dct _ _, v, f, h => by rw [D.lless] at f; cases f
  | .typ n, v, _, h => by rw [ah] at h ⊢; exact h
  | .sn n, v, _, h => by rw [ah] at h ⊢; exact h
  | .cls n, v, _, h => by rw [ah] at h ⊢; exact h
  | .obj n ns ds, v, _, h => by
    rw [ah] at h ⊢
    obtain ⟨f, e0, a, C, dx, vs, e, h1, h2, h3, r⟩ := h
    exact ⟨f, e0, a, C, dx, vs, e, h1, h2, h3, ag.flat P' f r⟩
  | .tup l, v, f, h => by
    rw [ah] at h ⊢
    obtain ⟨a, vs, e, h, r⟩ := h
    exact ⟨a, vs, e, h, ag.flat P' (by rw [D.lless] at f; exact f) r⟩
  | .lst l, v, f, h => by rw [D.lless] at f; cases f
theorem ag.flat {K : W.Frag} {P : bx} (P' : bx) {H : Hp} : ∀ {l : List D} {vs : List V}, am l = true -> ag K H P l vs -> ag K H P' l vs
  | [], vs, _, h => by rw [ag] at h ⊢; exact h
  | d :: l, vs, f, h => by
    rw [ag] at h ⊢
    rw [am, Bool.and_eq_true] at f
    obtain ⟨v, r, e, h1, h2⟩ := h
    exact ⟨v, r, e, ah.flat P' f.1 h1, ag.flat P' f.2 h2⟩
end
theorem ag.length {K : W.Frag} {P : bx} {H : Hp} : ∀ {l : List D} {vs : List V}, ag K H P l vs -> l.length = vs.length
  | [], vs, h => by rw [ag] at h; subst h; rfl
  | d :: l, vs, h => by
    rw [ag] at h
    obtain ⟨v, r, e, h1, h2⟩ := h
    subst e
    rw [List.length_cons, List.length_cons, h2.length]
theorem ag.get {K : W.Frag} {P : bx} {H : Hp} : ∀ {l : List D} {vs : List V} {i : Nat} {d : D}, ag K H P l vs -> l[i]? = some d -> ∃ v, vs[i]? = some v /\ ah K H P d v
  | [], vs, i, d, h, e => by simp at e
  | x :: l, vs, 0, d, h, e => by
    rw [ag] at h
    obtain ⟨v, r, rfl, h1, h2⟩ := h
    simp at e; subst e
    exact ⟨v, by simp, h1⟩
  | x :: l, vs, i + 1, d, h, e => by
    rw [ag] at h
    obtain ⟨v, r, rfl, h1, h2⟩ := h
    obtain ⟨u, h3, h4⟩ := ag.get (i := i) h2 (by simpa using e)
    exact ⟨u, by simpa using h3, h4⟩
theorem ag.append {K : W.Frag} {P : bx} {H : Hp} : ∀ {l m : List D} {vs ws : List V}, ag K H P l vs -> ag K H P m ws -> ag K H P (l ++ m) (vs ++ ws)
  | [], m, vs, ws, h, g => by rw [ag] at h; subst h; exact g
  | d :: l, m, vs, ws, h, g => by
    rw [ag] at h
    obtain ⟨v, r, rfl, h1, h2⟩ := h
    show ag K H P (d :: (l ++ m)) (v :: (r ++ ws))
    rw [ag]
    exact ⟨v, _, rfl, h1, ag.append h2 g⟩
theorem ag.one {K : W.Frag} {P : bx} {H : Hp} {d : D} {v : V} (h : ah K H P d v) : ag K H P [d] [v] := by
  rw [ag]; exact ⟨v, [], rfl, h, by rw [ag]⟩
theorem ag.nil {K : W.Frag} {P : bx} {H : Hp} : ag K H P [] [] := by rw [ag]
theorem ag.cons {K : W.Frag} {P : bx} {H : Hp} {d : D} {v : V} {l : List D} {vs : List V} (h : ah K H P d v) (g : ag K H P l vs) : ag K H P (d :: l) (v :: vs) := by
  rw [ag]; exact ⟨v, vs, rfl, h, g⟩
theorem ag.take {K : W.Frag} {P : bx} {H : Hp} : ∀ {l : List D} {vs : List V} (n : Nat), ag K H P l vs -> ag K H P (l.take n) (vs.take n)
  | [], vs, n, h => by rw [ag] at h; subst h; simp; exact ag.nil
  | d :: l, vs, 0, h => by simp; exact ag.nil
  | d :: l, vs, n + 1, h => by
    rw [ag] at h
    obtain ⟨v, r, rfl, h1, h2⟩ := h
    exact ag.cons h1 (ag.take n h2)
theorem ag.drop {K : W.Frag} {P : bx} {H : Hp} : ∀ {l : List D} {vs : List V} (n : Nat), ag K H P l vs -> ag K H P (l.drop n) (vs.drop n)
  | [], vs, n, h => by rw [ag] at h; subst h; simp; exact ag.nil
  | d :: l, vs, 0, h => h
  | d :: l, vs, n + 1, h => by
    rw [ag] at h
    obtain ⟨v, r, rfl, h1, h2⟩ := h
    exact ag.drop n h2
theorem ag.mapInt {K : W.Frag} {P : bx} {H : Hp} : ∀ {ns : List Int} {vs : List V}, ag K H P (ns.map D.int) vs -> vs = ns.map V.int
  | [], vs, h => by rw [List.map_nil, ag] at h; exact h
  | n :: ns, vs, h => by
    rw [List.map_cons, ag] at h
    obtain ⟨v, r, rfl, h1, h2⟩ := h
    rw [ah] at h1
    rw [h1, ag.mapInt h2]; rfl
theorem ag.ofInts {K : W.Frag} {P : bx} {H : Hp} : ∀ {ns : List Int}, ag K H P (ns.map D.int) (ns.map V.int)
  | [] => ag.nil
  | n :: ns => ag.cons (by rw [ah]) ag.ofInts
abbrev Ow := Addr -> Option (Option Str)
def Kp (ow : Ow) (H : Hp) : Nat -> bx
  | 0 => fun a b => b = true /\ H a = none
  | 1 => fun a b => b = true -> ow a = none
  | 2 => fun a b => b = true /\ (ow a ≠ none \/ H a = none)
  | _ => fun _ _ => True
def kj : Nat -> Nat -> Nat
  | 0, k => k
  | k, 0 => k
  | 1, 1 => 1
  | 2, 2 => 2
  | _, _ => 3
def j8 (ow : Ow) (x : Str) : Bool -> bx
  | true => fun a b => b = true /\ ow a = some (some x)
  | false => fun a b => b = true -> ow a = none
def eQ (ow : Ow) (H : Hp) : Prop := ∀ a, ow a ≠ none -> ∃ o, H a = some o
theorem eQ.same {ow : Ow} {H H' : Hp} (o : eQ ow H) (s : aF H H') : eQ ow H' := fun a h => let ⟨x, e⟩ := o a h; ⟨x, s a x e⟩
theorem eQ.free {ow : Ow} {H : Hp} (o : eQ ow H) {a : Addr} (h : H a = none) : ow a = none := by
  cases e : ow a with
  | none => rfl
  | some x => obtain ⟨y, q⟩ := o a (by rw [e]; exact (fun z => nomatch z)); rw [h] at q; cases q
theorem Kp.back {ow : Ow} {H H' : Hp} (s : aF H H') : ∀ (k : Nat) (a : Addr) (b : Bool), Kp ow H' k a b -> Kp ow H k a b
  | 0, a, b, h => ⟨h.1, s.free h.2⟩
  | 1, a, b, h => h
  | 2, a, b, h => ⟨h.1, h.2.imp id fun z => s.free z⟩
  | _ + 3, a, b, h => True.intro
theorem Kp.joinL {ow : Ow} {H : Hp} (o : eQ ow H) : ∀ (k j : Nat) (a : Addr) (b : Bool), Kp ow H k a b -> Kp ow H (kj k j) a b
  | 0, 0, a, b, h => h
  | 0, 1, a, b, h => fun _ => o.free h.2
  | 0, 2, a, b, h => ⟨h.1, .inr h.2⟩
  | 0, _ + 3, a, b, h => True.intro
  | 1, 0, a, b, h => h
  | 1, 1, a, b, h => h
  | 1, 2, a, b, h => True.intro
  | 1, _ + 3, a, b, h => True.intro
  | 2, 0, a, b, h => h
  | 2, 1, a, b, h => True.intro
  | 2, 2, a, b, h => h
  | 2, _ + 3, a, b, h => True.intro
  | _ + 3, 0, a, b, h => True.intro
  | _ + 3, 1, a, b, h => True.intro
  | _ + 3, 2, a, b, h => True.intro
  | _ + 3, _ + 3, a, b, h => True.intro
theorem BX : ∀ k j, kj k j = kj j k
  | 0, 0 | 0, 1 | 0, 2 | 0, _ + 3 | 1, 0 | 1, 1 | 1, 2 | 1, _ + 3 | 2, 0 | 2, 1 | 2, 2 | 2, _ + 3 | _ + 3, 0 | _ + 3, 1 | _ + 3, 2 | _ + 3, _ + 3 => rfl
theorem Kp.joinR {ow : Ow} {H : Hp} (o : eQ ow H) (k j : Nat) (a : Addr) (b : Bool) (h : Kp ow H j a b) : Kp ow H (kj k j) a b := by
  rw [BX]; exact Kp.joinL o j k a b h
abbrev aj := Str -> Option (D × Bool)
structure bc (X : Cx) (ow : Ow) (H : Hp) (σ : L2.St) (ρ : aj) : Prop where
  get : ∀ x d o, ρ x = some (d, o) -> ∃ (i : Nat) (v : V), X.N[i]? = some x /\ jH X.env.scope x /\ σ[i]? = some (some v) /\ ah X.K H (j8 ow x o) d v
  own : eQ ow H
theorem bc.same {X : Cx} {ow : Ow} {H H' : Hp} {σ : L2.St} {ρ : aj} (e : bc X ow H σ ρ) (s : aF H H') : bc X ow H' σ ρ :=
  ⟨fun x d o h => let ⟨i, v, h1, h2, h3, h4⟩ := e.get x d o h; ⟨i, v, h1, h2, h3, h4.same s⟩, e.own.same s⟩
def tD (X : Cx) (ow : Ow) (ρ : aj) (d : D) (k : Nat) : TE := fun σ H Q => bc X ow H σ ρ /\ ∀ v H', aF H H' -> ah X.K H' (Kp ow H k) d v -> Q v H'
def ED (X : Cx) (ρ : aj) (e : Expr) (d : D) (k : Nat) : Prop := ∀ ow, PE X e (tD X ow ρ d k)
def zR (X : Cx) (ow : Ow) (ρ : aj) (b : Bool) : TT := fun σ H Q => bc X ow H σ ρ /\ ∀ H', aF H H' -> Q b H'
def TD (X : Cx) (ρ : aj) (e : Expr) (b : Bool) : Prop := ∀ ow, PT X e (zR X ow ρ b)
def Py (X : Cx) (ow : Ow) (ρ : aj) (ds : List D) (k : Nat) : TA := fun σ H Q => bc X ow H σ ρ /\ ∀ vs H', aF H H' -> ag X.K H' (Kp ow H k) ds vs -> Q vs H'
def AD (X : Cx) (ρ : aj) (es : List Expr) (ds : List D) (k : Nat) : Prop := ∀ ow, PA X es (Py X ow ρ ds k)
theorem bO {X : Cx} {e : Expr} {t t' : TE} (h : PE X e t) (i : ∀ σ H Q, t' σ H Q -> t σ H Q) : PE X e t' := fun pins s σ H Q I q => h pins s σ H Q I (i σ H Q q)
theorem vL {X : Cx} {e : Expr} {t t' : TT} (h : PT X e t) (i : ∀ σ H Q, t' σ H Q -> t σ H Q) : PT X e t' := fun pins s σ H Q I q => h pins s σ H Q I (i σ H Q q)
theorem AL {X : Cx} {e : List Expr} {t t' : TA} (h : PA X e t) (i : ∀ σ H Q, t' σ H Q -> t σ H Q) : PA X e t' := fun pos pins s σ H Q I q => h pos pins s σ H Q I (i σ H Q q)
def kn (d : D) (k : Nat) : Nat := if d.lless = true then 0 else k
theorem ED.kn {X : Cx} {ρ : aj} {e : Expr} {d : D} {k : Nat} (h : ED X ρ e d k) : ED X ρ e d (Sp.kn d k) := by
  unfold Sp.kn
  by_cases f : d.lless = true
  . rw [if_pos f]
    exact fun ow => bO (h ow) fun σ H Q ⟨E, q⟩ => ⟨E, fun v H' s r => q v H' s (r.flat _ f)⟩
  . rw [if_neg f]; exact h
end Sp
namespace Sp
open PySem PySem.Spec PyProof.Rows L2
def Io (K : W.Frag) (J : It) (ds : List D) (P : bx) (H1 : Hp) : Prop :=
  ∀ (i : Nat) (H2 : Hp), d7 P P H1 H2 -> (∀ d, ds[i]? = some d -> J.go i H2 /\ ∀ x H3, J.yld i H2 x H3 -> aF H2 H3 /\ ah K H3 P d x) /\ (ds.length <= i -> J.stop i H2)
def Kd (ow : Ow) (H : Hp) (k : Nat) (H1 : Hp) : bx := fun a b => Kp ow H k a b /\ (b = true -> ∃ o, H1 a = some o)
def tI (X : Cx) (ow : Ow) (ρ : aj) (ds : List D) (k : Nat) : TI := fun σ H R => bc X ow H σ ρ /\ ∀ J H1, aF H H1 -> Io X.K J ds (Kd ow H k H1) H1 -> R J H1
def IE (X : Cx) (ρ : aj) (tg iter : Expr) (ds : List D) (k : Nat) : Prop := ∀ ow, PI X tg iter (tI X ow ρ ds k)
def ia (ifs : List Expr) (env : Env) : Sem Bool := forIn ifs true fun c r => if r = true then do let ok <- isTrue c env (eval c env); pure (ForInStep.yield ok) else pure (ForInStep.yield r)
def xH (X : Cx) (ρ : aj) (ifs : List Expr) (b : Bool) : Prop := ∀ ow (pins : List (Addr × Obj)) (s : Shared) (σ : L2.St) (H : Hp) (Q : Bool -> Hp -> Prop), ak X pins σ H s -> zR X ow ρ b σ H Q -> wpAny (model X.prog X.w) X.A (ia ifs X.env) (TP X pins σ Q) X.xe s
def GD (X : Cx) (ρ : aj) (tg : Expr) (d : D) (ρ' : aj) : Prop := ∃ g : TG, PG X tg g /\ ∀ (ow : Ow) (v : V) (σ : L2.St) (H : Hp) (Q : L2.St -> Hp -> Prop), σ.length = X.N.length -> bc X ow H σ ρ -> ah X.K H (fun a b => b = true -> ow a = none) d v -> (∀ σ', σ'.length = X.N.length -> bc X ow H σ' ρ' -> Q σ' H) -> g v σ H Q
abbrev ky (X : Cx) (scope : Scope) (cl : List (Str × Addr)) (C : Addr) (N' : List Str) (s : Shared) (H : Hp) (fp : List Addr) : Cx :=
  { X with N := N', s₀ := s, H₀ := H, env := compEnvC scope cl C X.env, outer := X.stack, stack := X.stack, ex := fp, fn := fun x => decide (scope.names.lookup x = some .cell), pn := [], xe := fun _ _ => False }
theorem ic {env : Env} : ∀ (names : List (Str × NameKind)) (cs : List (Str × Addr)), (∀ n, (n, NameKind.free) ∈ names -> ∃ c, env.cells.lookup n = some c) ->
    ∃ cl, (forIn names cs (fun (x : Str × NameKind) (r : List (Str × Addr)) => (if (x.2 == NameKind.free) = true then do let a <- cellOf env x.1; pure (ForInStep.yield ((x.1, a) :: r)) else pure (ForInStep.yield r) : Sem (ForInStep (List (Str × Addr)))))) = (pure cl : Sem (List (Str × Addr))) /\
      (∀ x c, cl.lookup x = some c -> (env.cells.lookup x = some c /\ (x, NameKind.free) ∈ names) \/ cs.lookup x = some c) /\ (∀ x, (x, NameKind.free) ∈ names -> ∃ c, cl.lookup x = some c) /\ (∀ x c, cs.lookup x = some c -> ∃ c', cl.lookup x = some c')
  | [], cs, _ => ⟨cs, rfl, fun x c h => .inr h, fun x h => (by cases h), fun x c h => ⟨c, h⟩⟩
  | (n, k) :: r, cs, h => by
    have hr : ∀ n, (n, NameKind.free) ∈ r -> ∃ c, env.cells.lookup n = some c := fun m hm => h m (List.mem_cons_of_mem _ hm)
    by_cases hk : k = .free
    . subst hk
      obtain ⟨c, hc⟩ := h n List.mem_cons_self
      obtain ⟨cl, e, h1, h2, h3⟩ := ic r ((n, c) :: cs) hr
      refine ⟨cl, ?_, fun x c' hx => ?_, fun x hx => ?_, fun x c' hx => ?_⟩
      . rw [List.forIn_cons]
        simp only [beq_self_eq_true, if_true, cellOf, hc]
        rw [pure_bind, pure_bind]
        exact e
      . rcases h1 x c' hx with q | q
        . exact .inl ⟨q.1, List.mem_cons_of_mem _ q.2⟩
        . rw [List.lookup_cons] at q
          split at q
          . rename_i hb
            have : x = n := by simpa using hb
            subst this; cases q; exact .inl ⟨hc, List.mem_cons_self⟩
          . exact .inr q
      . rcases List.mem_cons.mp hx with q | q
        . cases q
          exact h3 n c (by simp)
        . exact h2 x q
      . by_cases hb : x == n
        . exact h3 x c (by rw [List.lookup_cons, hb])
        . exact h3 x c' (by rw [List.lookup_cons]; simp only [hb]; exact hx)
    . obtain ⟨cl, e, h1, h2, h3⟩ := ic r cs hr
      refine ⟨cl, ?_, fun x c hx => (h1 x c hx).imp (fun q => ⟨q.1, List.mem_cons_of_mem _ q.2⟩) id, fun x hx => ?_, h3⟩
      . rw [List.forIn_cons]
        have : (k == NameKind.free) = false := by simpa using hk
        simp only [this, Bool.false_eq_true, if_false]
        rw [pure_bind]
        exact e
      . rcases List.mem_cons.mp hx with q | q
        . cases q; exact absurd rfl hk
        . exact h2 x q
theorem tm {env : Env} {scope : Scope} (h : ∀ n, (n, NameKind.free) ∈ scope.names -> ∃ c, env.cells.lookup n = some c) :
    ∃ cl, closureFor scope env = pure cl /\ (∀ x c, cl.lookup x = some c -> env.cells.lookup x = some c /\ (x, NameKind.free) ∈ scope.names) /\ (∀ x, (x, NameKind.free) ∈ scope.names -> ∃ c, cl.lookup x = some c) := by
  obtain ⟨cl, e, h1, h2, _⟩ := ic scope.names [] h
  refine ⟨cl, ?_, fun x c hx => (h1 x c hx).resolve_right (by simp), h2⟩
  unfold closureFor
  rw [<- e, <- bind_pure (forIn scope.names _ _)]
theorem da {env : Env} : ∀ {names : List (Str × NameKind)} {x : Str}, names.lookup x = some .free ->
    (names.map fun (n, k) => if (k == NameKind.free && env.scope.kind == .function && env.kindOf n == some .cell) then (n, NameKind.cell) else (n, k)).lookup x = some .cell \/
    (names.map fun (n, k) => if (k == NameKind.free && env.scope.kind == .function && env.kindOf n == some .cell) then (n, NameKind.cell) else (n, k)).lookup x = some .free
  | [], _, h => by simp at h
  | (n, k) :: r, x, h => by
    have ih := @da env r x
    show List.lookup x ((if (k == NameKind.free && env.scope.kind == .function && env.kindOf n == some .cell) = true then (n, NameKind.cell) else (n, k)) :: _) = _ \/ List.lookup x ((if (k == NameKind.free && env.scope.kind == .function && env.kindOf n == some .cell) = true then (n, NameKind.cell) else (n, k)) :: _) = _
    cases hx : x == n with
    | true =>
      simp only [List.lookup_cons, hx] at h
      cases h
      by_cases hc : (NameKind.free == NameKind.free && env.scope.kind == .function && env.kindOf n == some .cell) = true
      . rw [if_pos hc]; simp [List.lookup_cons, hx]
      . rw [if_neg hc]; simp [List.lookup_cons, hx]
    | false =>
      simp only [List.lookup_cons, hx] at h
      by_cases hc : (k == NameKind.free && env.scope.kind == .function && env.kindOf n == some .cell) = true
      . rw [if_pos hc]; simp only [List.lookup_cons, hx]; exact ih h
      . rw [if_neg hc]; simp only [List.lookup_cons, hx]; exact ih h
theorem fL {env : Env} : ∀ {names : List (Str × NameKind)} {x : Str} {k : NameKind}, (names.map fun (n, k) => if (k == NameKind.free && env.scope.kind == .function && env.kindOf n == some .cell) then (n, NameKind.cell) else (n, k)).lookup x = some k ->
    names.lookup x = some k \/ (k = .cell /\ names.lookup x = some .free)
  | [], _, _, h => by simp at h
  | (n, j) :: r, x, k, h => by
    have ih := @fL env r x k
    replace h : List.lookup x ((if (j == NameKind.free && env.scope.kind == .function && env.kindOf n == some .cell) = true then (n, NameKind.cell) else (n, j)) :: _) = some k := h
    cases hx : x == n with
    | true =>
      simp only [List.lookup_cons, hx]
      by_cases hc : (j == NameKind.free && env.scope.kind == .function && env.kindOf n == some .cell) = true
      . rw [if_pos hc] at h
        simp only [List.lookup_cons, hx] at h
        cases h
        have : j = .free := by
          have := (Bool.and_eq_true _ _).mp ((Bool.and_eq_true _ _).mp hc).1
          simpa using this.1
        exact .inr ⟨rfl, by rw [this]⟩
      . rw [if_neg hc] at h
        simp only [List.lookup_cons, hx] at h
        exact .inl h
    | false =>
      simp only [List.lookup_cons, hx]
      by_cases hc : (j == NameKind.free && env.scope.kind == .function && env.kindOf n == some .cell) = true
      . rw [if_pos hc] at h; simp only [List.lookup_cons, hx] at h; exact ih h
      . rw [if_neg hc] at h; simp only [List.lookup_cons, hx] at h; exact ih h
structure gn (env : Env) (scope : Scope) (N' : List Str) : Prop where
  kind : scope.kind = .function
  nn : (scope.names.map (·.1)).Nodup
  names : ∀ y ∈ scope.names, y.2 = .local -> scope.names.lookup y.1 = some .local
  nd : N'.Nodup
  fr : ∀ n, (n, NameKind.free) ∈ scope.names -> env.kindOf n = some .cell \/ env.kindOf n = some .free
theorem rF : ∀ {names : List (Str × NameKind)} {x : Str} {k : NameKind}, (names.map (·.1)).Nodup -> (x, k) ∈ names -> names.lookup x = some k
  | [], _, _, _, h => by cases h
  | (n, j) :: r, x, k, nd, h => by
    rw [List.map_cons, List.nodup_cons] at nd
    rcases List.mem_cons.mp h with e | h'
    . cases e; simp
    . have hx : (x == n) = false := by
        cases q : x == n with
        | false => rfl
        | true =>
          have : x = n := by simpa using q
          subst this
          have hm : x ∈ r.map (·.1) := List.mem_map.mpr ⟨(x, k), h', rfl⟩
          exact absurd hm nd.1
      rw [List.lookup_cons, hx]
      exact rF nd.2 h'
theorem ox : ∀ (names : List (Str × NameKind)) (n : Nat) (acc : List (Str × Addr)) {x : Str} {c : Addr}, (cellsFrom n names acc).lookup x = some c -> acc.lookup x = some c \/ (n <= c /\ (x, NameKind.cell) ∈ names)
  | [], _, _, _, _, h => .inl h
  | (y, k) :: r, n, acc, x, c, h => by
    unfold cellsFrom at h
    split at h
    . rename_i hk
      have hk : k = .cell := by simpa using hk
      subst hk
      rcases ox r (n + 1) ((y, n) :: acc) h with q | ⟨q1, q2⟩
      . rw [List.lookup_cons] at q
        split at q
        . rename_i hb
          have : x = y := by simpa using hb
          subst this
          cases q
          exact .inr ⟨Nat.le_refl _, List.mem_cons_self⟩
        . exact .inl q
      . exact .inr ⟨by omega, List.mem_cons_of_mem _ q2⟩
    . rcases ox r n acc h with q | ⟨q1, q2⟩
      . exact .inl q
      . exact .inr ⟨q1, List.mem_cons_of_mem _ q2⟩
theorem sy : ∀ (names : List (Str × NameKind)) (n : Nat) (acc : List (Str × Addr)), (∀ x y c, acc.lookup x = some c -> acc.lookup y = some c -> x = y) -> (∀ x c, acc.lookup x = some c -> c < n) ->
    ∀ x y c, (cellsFrom n names acc).lookup x = some c -> (cellsFrom n names acc).lookup y = some c -> x = y
  | [], _, _, h, _, x, y, c, a, b => h x y c a b
  | (z, k) :: r, n, acc, h, hb, x, y, c, a, b => by
    unfold cellsFrom at a b
    split at a
    . rename_i hk
      rw [if_pos hk] at b
      refine sy r (n + 1) ((z, n) :: acc) (fun u v d p q => ?_) (fun u d p => ?_) x y c a b
      . rw [List.lookup_cons] at p q
        split at p
        . rename_i e1
          split at q
          . rename_i e2
            rw [show u = z by simpa using e1, show v = z by simpa using e2]
          . cases p; exact absurd (hb v _ q) (Nat.lt_irrefl _)
        . split at q
          . cases q; exact absurd (hb u _ p) (Nat.lt_irrefl _)
          . exact h u v d p q
      . rw [List.lookup_cons] at p
        split at p
        . cases p; exact Nat.lt_succ_self _
        . exact Nat.lt_succ_of_lt (hb u d p)
    . rename_i hk
      rw [if_neg hk] at b
      exact sy r n acc h hb x y c a b
theorem pj : ∀ (names : List (Str × NameKind)) (h : Heap) (acc : List (Str × Addr)), (∀ x c, acc.lookup x = some c -> ∃ v, h.IsCell c v) -> ∀ x c, (cellsFrom h.objs.size names acc).lookup x = some c -> ∃ v, (pushCells h names).IsCell c v
  | [], _, _, h, x, c, a => h x c a
  | (z, k) :: r, h, acc, hc, x, c, a => by
    unfold cellsFrom at a
    unfold pushCells
    split at a
    . rename_i hk
      rw [if_pos hk]
      have := pj r (h.push { cls := .type "cell", data := .cell none }) ((z, h.objs.size) :: acc) (fun u d p => ?_) x c
      . rw [Heap.size_push] at this
        exact this a
      . rw [List.lookup_cons] at p
        split at p
        . cases p; exact ⟨none, _, Heap.get?_push_size _ rfl, rfl⟩
        . obtain ⟨v, q⟩ := hc u d p
          exact ⟨v, q.keeps fun b o e => Heap.get?_push_of_some _ e⟩
    . rename_i hk
      rw [if_neg hk]
      exact pj r h acc hc x c a
theorem vP {M : Model} {A : Around} {E : Value -> Shared -> Prop} {s : Shared} {scope : Scope} {globals : Addr} {cl : List (Str × Addr)} {qual : Str} {env : Env} {Q : Env -> Shared -> Prop} (hcl : ∀ x c, cl.lookup x = some c -> ∃ v, s.heap.IsCell c v)
    (h : ∀ h', h'.Ns s.heap.objs.size (fun _ => none) -> (∀ b o, s.heap.get? b = some o -> h'.get? b = some o) -> (∀ x c, (cellsFrom (s.heap.objs.size + 1) scope.names cl).lookup x = some c -> ∃ v, h'.IsCell c v) ->
      Q (newEnv scope s.heap.objs.size globals (cellsFrom (s.heap.objs.size + 1) scope.names cl) qual none .none (some env) builtinsNs) { s with heap := h', toks := s.toks + 0 }) :
    wpAny M A (newFunctionEnv scope globals cl [] qual none .none (some env)) Q E s := by
  simp only [newFunctionEnv, Option.isSome_some, if_true]
  refine wpAny_bind (wpAny_alloc ?_)
  refine wpAny_bind (wpAny_layCells _ (fun name kind cells => by cases hkc : kind == NameKind.cell <;> simp [hkc]) _ _ _ _ ?_)
  rw [show ({ s with heap := s.heap.push { cls := .type "dict", data := .dict #[] } } : Shared).heap.objs.size = s.heap.objs.size + 1 from Heap.size_push ..]
  rw [List.forIn_nil]
  refine wpAny_bind (wpAny_pure (wpAny_pure ?_))
  refine h _ ((Heap.Ns.new s.heap (.type "dict")).keeps (pushCells_keeps _ _)) (fun b o e => pushCells_keeps _ _ b o (Heap.get?_push_of_some _ e)) fun x c hc => ?_
  have := pj scope.names (s.heap.push { cls := .type "dict", data := .dict #[] }) cl (fun u d p => by
    obtain ⟨v, q⟩ := hcl u d p
    exact ⟨v, q.keeps fun b o e => Heap.get?_push_of_some _ e⟩) x c
  rw [Heap.size_push] at this
  exact this hc
structure ml (X : Cx) (scope : Scope) (cl : List (Str × Addr)) (n : Nat) : Prop where
  k1 : ∀ x c, cl.lookup x = some c -> X.env.cells.lookup x = some c \/ (n < c /\ scope.names.lookup x = some .cell)
  k2 : ∀ x, scope.names.lookup x = some .free \/ scope.names.lookup x = some .cell -> ∃ c, cl.lookup x = some c
  k4 : ∀ x y c, cl.lookup x = some c -> cl.lookup y = some c -> x = y
  k5 : ∀ x c, scope.names.lookup x = some .cell -> cl.lookup x = some c -> n <= c
variable {X : Cx}
theorem zb {pins : List (Addr × Obj)} {σ : L2.St} {H : Hp} {s : Shared} {scope : Scope} {cl : List (Str × Addr)} {N' : List Str} (I : ak X pins σ H s) (S : gn X.env scope N')
    (h1 : ∀ x c, cl.lookup x = some c -> X.env.cells.lookup x = some c /\ (x, NameKind.free) ∈ scope.names) (h2 : ∀ x, (x, NameKind.free) ∈ scope.names -> ∃ c, cl.lookup x = some c) :
    ml X scope (cellsFrom (s.heap.objs.size + 1) scope.names cl) s.heap.objs.size where
  k1 := fun x c h => by
    rcases ox _ _ _ h with q | ⟨q1, q2⟩
    . exact .inl (h1 x c q).1
    . exact .inr ⟨q1, rF S.nn q2⟩
  k2 := fun x h => by
    refine Option.isSome_iff_exists.mp (W.cellsFrom_some scope.names _ cl ?_)
    rcases h with h | h
    . obtain ⟨c, hc⟩ := h2 x (PySem.mem_of_lookup h)
      exact .inr (by rw [hc]; rfl)
    . exact .inl h
  k4 := sy scope.names _ cl (fun x y c a b => I.ok.inj x y c (h1 x c a).1 (h1 y c b).1) fun x c a => by
    obtain ⟨v, hv⟩ := I.cell x c (h1 x c a).1
    exact Nat.lt_succ_of_lt hv.lt
  k5 := fun x c hx h => by
    rcases ox _ _ _ h with q | ⟨q1, q2⟩
    . rw [rF S.nn (h1 x c q).2] at hx; cases hx
    . omega
theorem Ho {pins : List (Addr × Obj)} {σ : L2.St} {H : Hp} {s : Shared} {scope : Scope} {cl : List (Str × Addr)} {C : Addr} {N' : List Str} {fp : List Addr} (I : ak X pins σ H s) (S : gn X.env scope N')
    (hC : s.heap.objs.size <= C) (k : ml X scope cl s.heap.objs.size)
    (hf : ∀ b ∈ fp, fB X pins H b) (hfC : ∀ b ∈ fp, b < s.heap.objs.size) : (ky X scope cl C N' s H fp).Ok where
  mod := I.ok.mod
  kind := by show (relabel scope X.env).kind = _; exact S.kind
  glob := I.ok.glob
  blt := I.ok.blt
  above := hC
  inj := k.k4
  has := fun x hx => by
    have hx : (relabel scope X.env).names.lookup x = some .cell \/ (relabel scope X.env).names.lookup x = some .free := hx
    rcases hx with hx | hx
    . rcases fL hx with q | ⟨_, q⟩
      . exact k.k2 x (.inr q)
      . exact k.k2 x (.inl q)
    . rcases fL hx with q | ⟨q, _⟩
      . exact k.k2 x (.inl q)
      . cases q
  cab := fun x c h hc => k.k5 x c (of_decide_eq_true h) hc
  hd := I.ok.hd
  frames := I.ok.frames
  stk := .inl rfl
  exf := fun b hb => ⟨by have := hfC b hb; intro z; subst z; show False; exact absurd (Nat.lt_of_lt_of_le this hC) (Nat.lt_irrefl _), fun x c h => by
    rcases k.k1 x c h with q | ⟨q, _⟩
    . exact (hf b hb).2.2.2.2.1 x c q
    . have := hfC b hb
      intro z; subst z; exact absurd (Nat.lt_trans q this) (Nat.lt_irrefl _)⟩
  bs := I.bs
  bsz := Nat.le_trans I.ok.bsz I.sz
  noex := fun b o e hb => by
    rcases (hf b hb).2.2.2.1 with q | q
    . exact I.ok.noex b o e q
    . exact absurd (Nat.lt_of_lt_of_le (Heap.lt_size e) (Nat.le_trans I.ok.bsz q)) (Nat.lt_irrefl _)
  exfs := fun b hb z => by
    rcases List.mem_cons.mp (I.stkSub b z) with q | q
    . exact (hf b hb).2.1 q
    . exact (hf b hb).2.2.1 q
  funs := I.stack
  frf := I.stkFree
def mP (X : Cx) (scope : Scope) (N' : List Str) (σ : L2.St) : L2.St := N'.map fun x => if scope.names.lookup x = some .free then (σ[X.N.idxOf x]?).join else none
theorem EF {pins : List (Addr × Obj)} {σ : L2.St} {H : Hp} {s s1 : Shared} {scope : Scope} {cl : List (Str × Addr)} {N' : List Str} {fp : List Addr} {m : Str -> Option Value} (I : ak X pins σ H s) (S : gn X.env scope N')
    (k : ml X scope cl s.heap.objs.size) (k6 : ∀ x c, cl.lookup x = some c -> ∃ v, s1.heap.IsCell c v)
    (hf : ∀ b ∈ fp, fB X pins H b) (hfC : ∀ b ∈ fp, b < s.heap.objs.size)
    (es : ∃ h t, s1 = { s with heap := h, toks := t }) (hns : s1.heap.Ns s.heap.objs.size m) (hk : ∀ b o, s.heap.get? b = some o -> s1.heap.get? b = some o) :
    ak (ky X scope cl s.heap.objs.size N' s H fp) [] (mP X scope N' σ) H s1 := by
  obtain ⟨h', t, rfl⟩ := es
  have I1 : ak X pins σ H { s with heap := h', toks := t } := I.kept hk
  refine ⟨Ho I S (Nat.le_refl _) k hf hfC, rfl, I.bare, Un.kept hk, ⟨m, hns, fun i x v e1 e2 e3 => ?_⟩, k6, I.hok.fresh (Nat.le_refl _), fun x c h => (k.k1 x c h).elim (fun q => I.freeC x c q) fun q => I.hok.fresh (Nat.le_of_lt q.1), fun p hp => absurd (show p ∈ ([] : List (Addr × Obj)) from hp) (by simp), I1.hok, ?_⟩
  . have hN : N'[i]? = some x := e1
    unfold mP at e2
    rw [List.getElem?_map, hN] at e2
    simp only [Option.map_some, Option.some.injEq] at e2
    split at e2
    . rename_i hfr
      have hj : σ[X.N.idxOf x]? = some (some v) := by
        cases q : σ[X.N.idxOf x]? with
        | none => rw [q] at e2; cases e2
        | some y => rw [q] at e2; rw [show y = some v from e2]
      have hlt : X.N.idxOf x < X.N.length := by rw [<- I.len]; exact (List.getElem?_eq_some_iff.mp hj).1
      have hx : X.N[X.N.idxOf x]? = some x := by
        rw [List.getElem?_eq_getElem hlt, List.getElem_idxOf hlt]
      have kf := S.fr x (PySem.mem_of_lookup hfr)
      have vis : jH X.env.scope x := .inr (kf.imp id id)
      obtain ⟨m1, hn1, hl1⟩ := I1.loc
      obtain ⟨u, r, l⟩ := hl1 _ x v hx hj vis
      refine ⟨u, r, .inr ⟨?_, ?_⟩⟩
      . exact da hfr
      . rcases l with ⟨hk', _⟩ | ⟨_, c, hc, hcell⟩
        . rcases kf with q | q <;> rw [q] at hk' <;> cases hk'
        . obtain ⟨c', hc'⟩ := k.k2 x (.inl hfr)
          have : c' = c := by
            rcases k.k1 x c' hc' with this | ⟨_, this⟩
            . rw [hc] at this; exact (Option.some.inj this).symm
            . rw [hfr] at this; cases this
          subst this
          exact ⟨c', hc', hcell⟩
    . cases e2
  . unfold mP; simp
def flt (scope : Scope) (ρ : aj) : aj := fun x => if scope.names.lookup x = some .free then ρ x else none
theorem ju {scope : Scope} {ρ : aj} {x : Str} {y : D × Bool} (h : flt scope ρ x = some y) : ρ x = some y /\ scope.names.lookup x = some .free := by
  unfold flt at h
  split at h
  . rename_i e; exact ⟨h, e⟩
  . cases h
theorem Fe {ow : Ow} {H : Hp} {σ : L2.St} {ρ : aj} {scope : Scope} {cl : List (Str × Addr)} {C : Addr} {N' : List Str} {s : Shared} {fp : List Addr} {H0 : Hp} (E : bc X ow H σ ρ) (hN : X.N.Nodup)
    (hsub : ∀ x d o, flt scope ρ x = some (d, o) -> x ∈ N') :
    bc (ky X scope cl C N' s H0 fp) ow H (mP X scope N' σ) (flt scope ρ) := by
  refine ⟨fun x d o h => ?_, E.own⟩
  obtain ⟨h1, h2⟩ := ju h
  obtain ⟨i, v, e1, e2, e3, e4⟩ := E.get x d o h1
  have hx : x ∈ N' := hsub x d o h
  have hi : X.N.idxOf x = i := by
    have hm : x ∈ X.N := List.mem_of_getElem? e1
    have hlt := List.idxOf_lt_length_iff.mpr hm
    exact jn hN (by rw [List.getElem?_eq_getElem hlt, List.getElem_idxOf hlt]) e1
  refine ⟨N'.idxOf x, v, ?_, ?_, ?_, e4⟩
  . have hlt := List.idxOf_lt_length_iff.mpr hx
    show N'[N'.idxOf x]? = some x
    rw [List.getElem?_eq_getElem hlt, List.getElem_idxOf hlt]
  . exact .inr (da h2)
  . have hlt := List.idxOf_lt_length_iff.mpr hx
    unfold mP
    rw [List.getElem?_map, List.getElem?_eq_getElem hlt, List.getElem_idxOf hlt]
    simp only [Option.map_some]
    rw [if_pos h2, hi, e3]; rfl
end Sp
namespace Sp
open PySem PySem.Spec PyProof.Rows L2
variable {X : Cx}
theorem xj {prog : Program} {w : World} {A : Around} {R : Result -> Shared -> Prop} {s : Shared} {elt target iter : Expr} {ifs : List Expr} {scope : Scope} {pos : Pos} {it acc : Value} {env : Env} (J : Nat -> Shared -> Prop)
    (turn : ∀ n s, J n s -> wpAny (model prog w) A (pyNext it) (fun r s₁ => match r with
      | none => R (.ok .next) s₁
      | some v => wpAny (model prog w) A (letOwnedTupleGo target it v) (fun _ s₁ => wpAny (model prog w) A (assign target env v) (fun _ s₂ =>
          wpAny (model prog w) A (ia ifs env) (fun ok s₃ =>
            if ok = true then wpAny (model prog w) A (eval elt env) (fun x s₄ =>
              wpAny (model prog w) A (call (.builtin "list.append") [acc, x]) (fun _ s₅ => ∃ m, m < n /\ J m s₅) (fun _ _ => False) s₄) (fun _ _ => False) s₃
            else ∃ m, m < n /\ J m s₃) (fun _ _ => False) s₂) (fun _ _ => False) s₁) (fun _ _ => False) s₁) (fun _ _ => False) s)
    (n : Nat) (h : J n s) : codeAny (model prog w) A (.compLoop (.ListComp elt [⟨target, iter, ifs, 0⟩] scope pos) 0 it acc env) R s := by
  refine codeAny_loop rfl J (fun n s hI => ?_) n h
  show wpAny _ A ((compTurn (.ListComp elt [⟨target, iter, ifs, 0⟩] scope pos) 0 it acc env).onRaise (fun x => do noteFrame x env; theTreesLotGoes x)) _ _ s
  refine wpAny_noted ?_
  rw [compTurn_list]
  refine wpAny_bind (wpAny_standAt (wpAny_bind (wpAny_mono (turn n s hI) (fun r s₁ h₁ => ?_) fun _ _ h' => h'.elim)))
  cases r with
  | none => exact wpAny_pure h₁
  | some v =>
    refine wpAny_bind (wpAny_mono h₁ (fun _ s₁' h₁' => ?_) fun _ _ h' => h'.elim)
    refine wpAny_bind (wpAny_mono h₁' (fun _ s₂ h₂ => wpAny_bind (wpAny_mono h₂ (fun ok s₃ h₃ => ?_) fun _ _ h' => h'.elim)) fun _ _ h' => h'.elim)
    cases ok with
    | false => exact wpAny_pure ⟨rfl, h₃⟩
    | true =>
      exact wpAny_bind (wpAny_bind (wpAny_mono h₃ (fun x s₄ h₄ => wpAny_bind (wpAny_mono h₄ (fun _ s₅ h₅ => wpAny_pure (wpAny_pure ⟨rfl, h₅⟩)) fun _ _ h' => h'.elim)) fun _ _ h' => h'.elim))
def lY (X : Cx) (ρ : aj) (tg : Expr) (ifs : List Expr) (elt : Expr) (k : Nat) (d : D) (r : Option D) : Prop :=
  ∃ ρ' b, GD X ρ tg d ρ' /\ (∀ x y, ρ x = some y -> ρ' x = some y) /\ xH X ρ' ifs b /\ match r with | some d' => b = true /\ ED X ρ' elt d' k | none => b = false
theorem iu {ow : Ow} {H : Hp} (o : eQ ow H) {a : Addr} : ∀ {k : Nat}, k <= 1 -> Kp ow H k a true -> ow a = none
  | 0, _, p => o.free p.2
  | 1, _, p => p rfl
  | _ + 2, h, _ => absurd h (by omega)
theorem BW {ow : Ow} {H H9 : Hp} {D : Addr} {x : HO} (sm : aF H H9) (hD : H9 D = some x) {a : Addr} {b : Bool} : ∀ {k : Nat}, k <= 1 -> Kp (fun a => if a = D then some none else ow a) H9 k a b -> Kp ow H k a b /\ (b = true -> a ≠ D)
  | 0, _, p => ⟨⟨p.1, sm.free p.2⟩, fun _ z => by subst z; have := p.2; rw [hD] at this; cases this⟩
  | 1, _, p => by
    have p : b = true -> (if a = D then some none else ow a) = none := p
    refine ⟨fun hb => ?_, fun hb hz => ?_⟩
    . have p := p hb
      by_cases hz : a = D
      . rw [if_pos hz] at p; cases p
      . rw [if_neg hz] at p; exact p
    . have p := p hb
      rw [if_pos hz] at p; cases p
  | _ + 2, h, _ => absurd h (by omega)
theorem wL {ow : Ow} {H : Hp} {D : Addr} (o : eQ ow H) (hD : H D = none) : ∀ {k : Nat}, k <= 1 -> Kp ow H k D true
  | 0, _ => ⟨rfl, hD⟩
  | 1, _ => fun _ => o.free hD
  | _ + 2, h => absurd h (by omega)
theorem nT : ∀ {l : List D} {i : Nat} {d : D}, am l = true -> l[i]? = some d -> d.lless = true
  | [], _, _, _, h => by simp at h
  | x :: l, 0, d, f, h => by
    rw [am, Bool.and_eq_true] at f
    simp at h; subst h; exact f.1
  | x :: l, i + 1, d, f, h => by
    rw [am, Bool.and_eq_true] at f
    exact nT (i := i) f.2 (by simpa using h)
structure mj (X : Cx) (pins : List (Addr × Obj)) (σ : L2.St) (H5 : Hp) (s6 : Shared) (C : Addr) (m6 : Str -> Option Value) : Prop where
  inv : ak X pins σ H5 s6
  ns : s6.heap.Ns C m6
  free : H5 C = none
  loc : C ≠ X.env.locals
  old : X.s₀.heap.objs.size <= C
  cell : ∀ x c, X.env.cells.lookup x = some c -> c ≠ C
  pin : ∀ p ∈ X.pn ++ pins, p.1 ≠ C
  fs : C ∉ X.fs
theorem pX {ow : Ow} {use : Option (Value -> Sem Unit)} {Q' : Value -> Shared -> Prop} {pins : List (Addr × Obj)} {s : Shared} {σ : L2.St} {H : Hp} {ρ : aj} {tg elt iter : Expr} {ifs : List Expr} {scope : Scope} {pos pos2 : Pos} {ds : List D} {f : D -> Option D} {k ko : Nat} {N' : List Str}
    (hcalm : X.calm = true) (hN : X.N.Nodup) (hk : am ds = true \/ k <= 1) (hko : ko <= 1) (hlen : ds.length < sizeLine) (S : gn X.env scope N') (hsub : ∀ x d o, flt scope ρ x = some (d, o) -> x ∈ N')
    (hi : IE X ρ tg iter ds k)
    (turn : ∀ cl C s H fp, ∀ d ∈ ds, lY (ky X scope cl C N' s H fp) (flt scope ρ) tg ifs elt ko d (f d))
    (hs : ∀ x, foldedSetIterable iter X.env x = pure x) (I : ak X pins σ H s) (E : bc X ow H σ ρ)
    (fin : ∀ D C s6 H5 m6, mj X pins σ H5 s6 C m6 -> aF H H5 -> ah X.K H5 (Kp ow H ko) (.lst (ds.filterMap f)) (.ref D) -> compPost (model X.prog X.w) X.A X.xe use Q' (.ref D) C (.ok .next) s6) :
    wpAny (model X.prog X.w) X.A (comprehension (.ListComp elt [⟨tg, iter, ifs, 0⟩] scope pos) scope X.env pos2 (newList []) false (eval iter X.env) use) Q' X.xe s := by
  obtain ⟨cl, hclos, h1, h2⟩ := tm (env := X.env) (scope := scope) fun n hn => I.ok.has n (S.fr n hn)
  refine wpAny_comprehension_free rfl hs hclos S.kind S.names ?_
  refine aS (hi ow pins s σ H (fun J H1 => aF H H1 /\ Io X.K J ds (Kd ow H k H1) H1) I ⟨E, fun J H1 a b => ⟨a, b⟩⟩) fun v s1 h1' => aS h1' fun itv s2 h2' => ?_
  obtain ⟨it, fp, tn, J, H2, rfl, I2, T, st2, f2, s12, itd⟩ := h2'
  have hD2 : H2 s2.heap.objs.size = none := I2.hok.fresh (Nat.le_refl _)
  refine wpAny_newObj_type (vP (fun x c hc => (I2.cell x c (h1 x c hc).1).imp fun v q => q.keeps fun b o e => Heap.get?_push_of_some _ e) fun h₁ hns₁ kp0 k60 => ?_)
  have I3 : ak X pins σ (bh H2 s2.heap.objs.size (.lst [])) { s2 with heap := s2.heap.push { cls := .type "list", dict := none, data := .seq ([] : List Value).toArray } } :=
    I2.laid (t' := s2.toks) (fun b u e => Heap.get?_push_of_some _ e) (Nat.le_refl _) ⟨Nat.zero_le _, [], 0, .nil, Heap.get?_push_size _ rfl⟩
  generalize hD : s2.heap.objs.size = D at *
  generalize hs3 : ({ s2 with heap := s2.heap.push { cls := .type "list", dict := none, data := .seq ([] : List Value).toArray } } : Shared) = s3 at *
  have hsz3 : s3.heap.objs.size = D + 1 := by rw [<- hs3]; show (s2.heap.push _).objs.size = _; rw [Heap.size_push, hD]
  have f3 : ∀ b ∈ fp, fB X pins (bh H2 D (.lst [])) b := fun b hb => by
    obtain ⟨g0, g⟩ := f2 b hb
    obtain ⟨o, e, _⟩ := T.obj _ _ st2 b hb
    have hlt := Heap.lt_size e
    rw [hD] at hlt
    exact ⟨by rw [aO (Nat.ne_of_lt hlt)]; exact g0, g⟩
  have fl3 : ∀ b ∈ fp, b < s3.heap.objs.size := fun b hb => by
    obtain ⟨o, e, _⟩ := T.obj _ _ st2 b hb
    have hlt := Heap.lt_size e
    rw [hD] at hlt
    rw [hsz3]; exact Nat.lt_succ_of_lt hlt
  have kp : ∀ b o, s3.heap.get? b = some o -> h₁.get? b = some o := kp0
  have kc : ml X scope (cellsFrom (s3.heap.objs.size + 1) scope.names cl) s3.heap.objs.size := zb I3 S h1 h2
  generalize hcl' : cellsFrom (s3.heap.objs.size + 1) scope.names cl = cl' at *
  have I4 := EF (s1 := { s3 with heap := h₁, toks := s3.toks + 0 }) (N' := N') I3 S kc k60 f3 fl3 ⟨_, _, rfl⟩ hns₁ kp
  have sH2 : ∀ vs, aF H2 (bh H2 D (.lst vs)) := fun vs b o e => by rw [aO (bH e hD2)]; exact e
  let ow' : Ow := fun a => if a = D then some none else ow a
  have ow'D : ow' D = some none := if_pos rfl
  have ow'n : ∀ a, a ≠ D -> ow' a = ow a := fun a h => if_neg h
  have own' : ∀ {H' : Hp} (vs : List V), H' D = some (.lst vs) -> aF H2 H' -> eQ ow' H' := fun {H'} vs hd sm a ha => by
    by_cases hz : a = D
    . subst hz; exact ⟨_, hd⟩
    . rw [ow'n a hz] at ha
      obtain ⟨o, e⟩ := (E.same s12).own a ha
      exact ⟨o, sm a o e⟩
  have E4 : bc (ky X scope cl' s3.heap.objs.size N' s3 (bh H2 D (.lst [])) fp) ow' (bh H2 D (.lst [])) (mP X scope N' σ) (flt scope ρ) := by
    have E3 := Fe (scope := scope) (cl := cl') (C := s3.heap.objs.size) (N' := N') (s := s3) (fp := fp) (H0 := bh H2 D (.lst [])) (E.same s12) hN hsub
    refine ⟨fun x d o h => ?_, own' [] aU (sH2 [])⟩
    obtain ⟨i, v, e1, e2, e3, e4⟩ := E3.get x d o h
    refine ⟨i, v, e1, e2, e3, ah.same (sH2 []) (e4.impH (fun a ob ha p => ?_) fun a p => ?_)⟩
    . have hz : a ≠ D := bH ha hD2
      cases o with
      | true => exact ⟨p.1, (ow'n a hz).trans p.2⟩
      | false => exact fun _ => (ow'n a hz).trans (p rfl)
    . cases o with
      | true => cases p.1
      | false => exact fun z => (by cases z)
  generalize hX' : ky X scope cl' s3.heap.objs.size N' s3 (bh H2 D (.lst [])) fp = X' at *
  have turn' : ∀ d ∈ ds, lY X' (flt scope ρ) tg ifs elt ko d (f d) := fun d hd => by rw [<- hX']; exact turn _ _ _ _ _ d hd
  have eK : X'.K = X.K := by rw [<- hX']
  have eP : X'.prog = X.prog := by rw [<- hX']
  have eW : X'.w = X.w := by rw [<- hX']
  have eA : X'.A = X.A := by rw [<- hX']
  have eE : X'.env = compEnvC scope cl' s3.heap.objs.size X.env := by rw [<- hX']
  have eX : X'.xe = fun _ _ => False := by rw [<- hX']
  have eC : X'.calm = true := by rw [<- hX']; exact hcalm
  have stat : ∀ {H' : Hp}, (∀ b ∈ fp, H' b = none) -> ∀ b ∈ fp, fB X' [] H' b := fun hn b hb => by
    rw [<- hX']
    refine ⟨hn b hb, ?_, ?_, .inl hb, fun x c h => (kc.k1 x c h).elim (fun q => (f3 b hb).2.2.2.2.1 x c q) (fun q z => by subst z; exact absurd (Nat.lt_trans q.1 (fl3 _ hb)) (Nat.lt_irrefl _)), fun p hp => absurd (show p ∈ ([] : List (Addr × Obj)) from hp) (by simp)⟩
    . show b ≠ s3.heap.objs.size
      exact Nat.ne_of_lt (fl3 b hb)
    . intro z
      rcases List.mem_cons.mp (I3.stkSub b z) with q | q
      . exact (f3 b hb).2.1 q
      . exact (f3 b hb).2.2.1 q
  let Pe : bx := fun a b => Kp ow H ko a b /\ (b = true -> a ≠ D)
  have loop : codeAny (model X.prog X.w) X.A (.compLoop (.ListComp elt [⟨tg, iter, ifs, 0⟩] scope pos) 0 (.ref it) (.ref D) (compEnvC scope cl' s3.heap.objs.size X.env)) (compPost (model X.prog X.w) X.A X.xe use Q' (.ref D) s3.heap.objs.size) { s3 with heap := h₁, toks := s3.toks + 0 } := by
    refine xj (fun n s' => ∃ (i : Nat) (σ' : L2.St) (H' : Hp) (vs : List V), ak X' [] σ' H' s' /\ tn i s'.heap /\ (∀ b ∈ fp, H' b = none) /\ bc X' ow' H' σ' (flt scope ρ) /\ H' D = some (.lst vs) /\ aF H2 H' /\
      ag X.K H' Pe ((ds.take i).filterMap f) vs /\ i <= ds.length /\ n = ds.length - i) ?_ ds.length
      ⟨0, mP X scope N' σ, bh H2 D (.lst []), [], I4, ?_, fun b hb => (f3 b hb).1, E4, aU, sH2 [], ?_, Nat.zero_le _, rfl⟩
    . rintro n s5 ⟨i, σ5, H5, vs, I5, st5, fr5, E5, hD5, sm5, rp5, hi5, rfl⟩
      have stay : d7 (Kd ow H k H2) (Kd ow H k H2) H2 H5 := .same sm5 fun _ _ p => p
      have itd5 := itd i H5 stay
      by_cases hlt : i < ds.length
      . obtain ⟨go, yl⟩ := itd5.1 ds[i] (by simp [hlt])
        have Ti := T.item X' eP eW eK eC i [] s5 σ5 H5 (fun _ _ => False) I5 (stat fr5) st5 go
        rw [eA] at Ti
        refine aS Ti fun r s6 ⟨u, hr, h6⟩ => ?_
        subst hr
        refine aS h6 fun _ s7 ⟨x, H7, I7, r7, y7, st7, fr7⟩ => ?_
        obtain ⟨sm7, rx7⟩ := yl x H7 y7
        obtain ⟨ρ', b, ⟨g, hg, hgd⟩, hext, hts, hel⟩ := turn' ds[i] (List.getElem_mem hlt)
        have rx7' : ah X'.K H7 (fun a b => b = true -> ow' a = none) ds[i] x := by
          rw [eK]
          rcases hk with hk | hk
          . exact rx7.flat _ (nT hk (List.getElem?_eq_getElem hlt))
          refine rx7.impH (fun a o ha p _ => ?_) fun a _ z => (by cases z)
          obtain ⟨p, p2⟩ := p
          obtain ⟨o2, ho2⟩ := p2 rfl
          show ow' a = none
          rw [ow'n a (bH ho2 hD2)]
          exact iu E.own hk p
        have E7 := E5.same sm7
        have I7' := I7.pinned (stat fr7) (T.obj _ _ st7)
        have hg' := hg _ s7 σ5 H7 x u (fun σ' H' => bc X' ow' H' σ' ρ' /\ H7 = H') I7' r7 (hgd ow' x σ5 H7 _ I7.len E7 rx7' fun σ' _ e => ⟨e, rfl⟩)
        rw [eP, eW, eA, eE, eX] at hg'
        refine aS hg' fun _ s8 ⟨σ8, H8, I8, E8, eH8⟩ => ?_
        subst eH8
        have ht' := hts ow' _ s8 σ8 H7 (fun c H' => c = b /\ aF H7 H') I8 ⟨E8, fun H' sm => ⟨rfl, sm⟩⟩
        rw [eP, eW, eA, eE, eX] at ht'
        refine aS ht' fun c s9 ⟨H9, I9, ec, sm9⟩ => ?_
        subst ec
        have back : ∀ {H' : Hp} {σ' : L2.St} {s' : Shared}, ak X' ([] ++ j6 fp s7.heap) σ' H' s' -> ak X' [] σ' H' s' /\ tn (i + 1) s'.heap /\ ∀ b ∈ fp, H' b = none := fun {H' σ' s'} J7 => by
          refine ⟨J7.unpinned, T.keep _ _ _ st7 fun b hb o e => (J7.pin (b, o) (List.mem_append_right _ (List.mem_append_right _ (gL hb e)))).1, fun b hb => ?_⟩
          obtain ⟨o, e, d⟩ := T.obj _ _ st7 b hb
          exact (J7.pin (b, o) (List.mem_append_right _ (List.mem_append_right _ (gL hb e)))).2.1
        have envf : ∀ {H' : Hp} {σ' : L2.St}, bc X' ow' H' σ' ρ' -> bc X' ow' H' σ' (flt scope ρ) := fun {H' σ'} e => ⟨fun x d o h => e.get x d o (hext x _ h), e.own⟩
        have tk : (ds.take (i + 1)).filterMap f = (ds.take i).filterMap f ++ (f ds[i]).toList := by
          rw [List.take_add_one]
          simp only [List.getElem?_eq_getElem hlt, Option.toList_some, List.filterMap_append]
          congr 1
        have sm59 : aF H5 H9 := sm7.trans sm9
        cases hc : c with
        | false =>
          rw [if_neg Bool.false_ne_true]
          subst hc
          obtain ⟨I9', st9, fr9⟩ := back I9
          have fn : f ds[i] = none := by
            cases hf : f ds[i] with
            | none => rfl
            | some d' => rw [hf] at hel; cases hel.1
          refine ⟨ds.length - (i + 1), by omega, i + 1, σ8, H9, vs, I9', st9, fr9, envf (E8.same sm9), sm59 _ _ hD5, sm5.trans sm59, ?_, hlt, rfl⟩
          rw [tk, fn, Option.toList_none, List.append_nil]
          exact rp5.same sm59
        | true =>
          rw [if_pos rfl]
          subst hc
          obtain ⟨d', fs, hed⟩ : ∃ d', f ds[i] = some d' /\ ED X' ρ' elt d' ko := by
            cases hf : f ds[i] with
            | none => rw [hf] at hel; cases hel
            | some d' => rw [hf] at hel; exact ⟨d', rfl, hel.2⟩
          have he' := hed ow' _ s9 σ8 H9 (fun v H' => aF H9 H' /\ ah X'.K H' (Kp ow' H9 ko) d' v) I9 ⟨E8.same sm9, fun v H' a r => ⟨a, r⟩⟩
          rw [eP, eW, eA, eE, eX] at he'
          refine aS he' fun y s10 ⟨v10, H10, I10, r10, sm10, rp10⟩ => ?_
          have sm510 := sm59.trans sm10
          have hD10 := sm510 _ _ hD5
          have hlv : vs.length < sizeLine := by
            rw [<- rp5.length]
            refine Nat.lt_of_le_of_lt (List.length_filterMap_le _ _) ?_
            rw [List.length_take]; omega
          have ha' := pQ (X := X') _ s10 σ8 H10 (.ref D) [v10] (.ref D) [y] (fun w H' => bh H10 D (.lst (vs ++ [v10])) = H') I10 rfl (.cons r10 .nil) ⟨D, vs, v10, rfl, rfl, hD10, hlv, rfl⟩
          rw [eP, eW, eA, eX] at ha'
          refine aS ha' fun _ s11 ⟨w11, H11, I11, _, eH11⟩ => ?_
          subst eH11
          obtain ⟨I11', st11, fr11⟩ := back I11
          have s2D : ∀ a o, H2 a = some o -> a ≠ D := fun a o e => bH e hD2
          have stD : d7 Pe Pe H10 (bh H10 D (.lst (vs ++ [v10]))) := ⟨fun a o h hn => by rw [aO (fun z => by subst z; rw [hD10] at h; cases h; exact hn)]; exact h, fun a ws h p => by rw [aO (p.2 rfl)]; exact h, fun _ _ _ p => p, fun _ p => p⟩
          refine ⟨ds.length - (i + 1), by omega, i + 1, σ8, _, vs ++ [v10], I11', st11, fr11, ?_, aU, ?_, ?_, hlt, rfl⟩
          . have E10 := envf ((E8.same sm9).same sm10)
            refine ⟨fun x d o h => ?_, own' _ aU (fun a o e => by rw [aO (s2D a o e)]; exact (sm5.trans sm510) a o e)⟩
            obtain ⟨i', v', e1, e2, e3, e4⟩ := E10.get x d o h
            refine ⟨i', v', e1, e2, e3, e4.mono ⟨fun a o h hn => by rw [aO (fun z => by subst z; rw [hD10] at h; cases h; exact hn)]; exact h, fun a ws h p => ?_, fun _ _ _ p => p, fun _ p => p⟩⟩
            have hz : a ≠ D := by
              intro z; subst z
              cases o with
              | true => have := p.2; rw [ow'D] at this; cases this
              | false => have : ow' a = none := p rfl; rw [ow'D] at this; cases this
            rw [aO hz]; exact h
          . intro a o e
            rw [aO (s2D a o e)]
            exact (sm5.trans sm510) a o e
          . rw [tk, fs, Option.toList_some]
            refine ((rp5.same sm510).mono stD).append (ag.one (ah.mono stD ?_))
            rw [eK] at rp10
            have sH9 : aF H H9 := s12.trans (sm5.trans sm59)
            exact rp10.imp fun a b p => BW sH9 (sm59 _ _ hD5) hko p
      . have hstop := itd5.2 (by omega)
        have Td := T.done X' eP eW eK eC i [] s5 σ5 H5 (fun _ _ => False) I5 (stat fr5) st5 hstop
        rw [eA] at Td
        refine aS Td fun r s6 ⟨hr, I6⟩ => ?_
        subst hr
        have ei : i = ds.length := by omega
        subst ei
        rw [List.take_length] at rp5
        have hC : X'.env.locals = s3.heap.objs.size := by rw [eE]; rfl
        obtain ⟨m6, hn6, _⟩ := I6.loc
        rw [hC] at hn6
        have hfree : H5 s3.heap.objs.size = none := by have := I6.free; rw [hC] at this; exact this
        have IX : ak X pins σ H5 s6 := by
          have b6 := I6.base
          have o6 := I6.os
          have k6 := I6.hok
          have g6 := I6.bare
          rw [<- hX'] at b6 o6 k6
          exact I3.call' o6 b6 k6 g6 fun b hb => ⟨(f3 b hb).2.2.2.1, (f3 b hb).2.1, (f3 b hb).2.2.2.2.1, (f3 b hb).2.2.2.2.2⟩
        have hHD : H D = none := s12.free hD2
        refine fin D _ s6 H5 m6 ⟨IX, hn6, hfree, Nat.ne_of_gt I3.lt, I3.sz, fun x c hc z => ?_, fun p hp z => ?_, I3.nofs (Nat.le_refl _)⟩ (s12.trans sm5) ?_
        . obtain ⟨v, hv⟩ := I3.cell x c hc
          have := hv.lt
          rw [z] at this; exact absurd this (Nat.lt_irrefl _)
        . have := Heap.lt_size (I3.pin p hp).1
          rw [z] at this; exact absurd this (Nat.lt_irrefl _)
        . rw [ah]
          exact ⟨D, vs, true, rfl, hD5, wL E.own hHD hko, rp5.imp fun _ _ p => p.1⟩
    . exact T.keep 0 s2.heap h₁ st2 fun b hb o e => kp b o (by rw [<- hs3]; exact Heap.get?_push_of_some _ e)
    . exact ag.nil
  exact codeAny_compStart_list loop (T.self _ 0 _ _ _ (T.keep 0 s2.heap h₁ st2 fun b hb o e => kp b o (by rw [<- hs3]; exact Heap.get?_push_of_some _ e)) loop)
theorem mj.done {pins : List (Addr × Obj)} {σ : L2.St} {H5 : Hp} {s6 : Shared} {C : Addr} {m6 : Str -> Option Value} (e : mj X pins σ H5 s6 C m6) {h' : Heap} (sb : Heap.SameBut C s6.heap h') : ak X pins σ H5 { s6 with heap := h' } :=
  e.inv.turned (t' := s6.toks) (it := C) (fun b o hb e => sb.extBut b o hb e) e.free e.loc (.inr e.old) e.cell e.pin
theorem Cu {ρ : aj} {tg elt iter : Expr} {ifs : List Expr} {scope : Scope} {pos : Pos} {ds : List D} {f : D -> Option D} {k ko : Nat} {N' : List Str}
    (hcalm : X.calm = true) (hN : X.N.Nodup) (hk : am ds = true \/ k <= 1) (hko : ko <= 1) (hlen : ds.length < sizeLine) (S : gn X.env scope N') (hsub : ∀ x d o, flt scope ρ x = some (d, o) -> x ∈ N')
    (hi : IE X ρ tg iter ds k)
    (turn : ∀ cl C s H fp, ∀ d ∈ ds, lY (ky X scope cl C N' s H fp) (flt scope ρ) tg ifs elt ko d (f d))
    (hs : ∀ x, foldedSetIterable iter X.env x = pure x := by intro _; rfl) :
    ED X ρ (.ListComp elt [⟨tg, iter, ifs, 0⟩] scope pos) (.lst (ds.filterMap f)) ko := by
  intro ow pins s σ H Q I ⟨E, q⟩
  rw [eval_ListComp]
  refine pX hcalm hN hk hko hlen S hsub hi turn hs I E fun D C s6 H5 m6 ce sm rp => ?_
  exact ⟨m6, ce.ns, fun h' sb => ⟨.ref D, H5, ce.done sb, rfl, q (.ref D) H5 sm rp⟩⟩
theorem Br {D0 : k7} {ow : Ow} {x : Str} {px spos : Pos} {pins : List (Addr × Obj)} {s : Shared} {σ : L2.St} {H : Hp} {ρ : aj} {tg elt iter : Expr} {ifs : List Expr} {scope : Scope} {pos : Pos} {ds : List D} {f : D -> Option D} {k ko : Nat} {N' : List Str} {i : Nat}
    (hcalm : X.calm = true) (hN : X.N.Nodup) (hk : am ds = true \/ k <= 1) (hko : ko <= 1) (hlen : ds.length < sizeLine) (S : gn X.env scope N') (hsub : ∀ x d o, flt scope ρ x = some (d, o) -> x ∈ N')
    (hi : IE X ρ tg iter ds k)
    (turn : ∀ cl C s H fp, ∀ d ∈ ds, lY (ky X scope cl C N' s H fp) (flt scope ρ) tg ifs elt ko d (f d))
    (hs : ∀ x, foldedSetIterable iter X.env x = pure x) (I : ak X pins σ H s) (E : bc X ow H σ ρ)
    (hsw : swapsWith (.ListComp elt [⟨tg, iter, ifs, 0⟩] scope pos) (some (.Name x px)) spos.line X.env = pure true)
    (hx : X.N[i]? = some x) (hl : sV X.env.scope x) (hf : X.fn x = true \/ X.env.scope.names.lookup x = some .local)
    (q : ∀ v H', aF H H' -> ah X.K H' (Kp ow H ko) (.lst (ds.filterMap f)) v -> D0.nx (σ.set i (some v)) H') :
    wpAny (model X.prog X.w) X.A (exec (.Assign [.Name x px] (.ListComp elt [⟨tg, iter, ifs, 0⟩] scope pos) spos) X.env) (SP X pins D0) X.xe s := by
  rw [exec_Assign_Name_used _ _ _ _ hsw]
  refine wpAny_bind (wpAny_standAt (wpAny_bind ?_))
  show wpAny _ X.A (do let _ <- comprehension (.ListComp elt [⟨tg, iter, ifs, 0⟩] scope pos) scope X.env _ (newList []) false (eval iter X.env) (some (assign (.Name x px) X.env))) _ _ s
  refine wpAny_bind (wpAny_mono (pX (use := some (assign (.Name x px) X.env)) (Q' := fun _ s' => SP X pins D0 .next s') hcalm hN hk hko hlen S hsub hi turn hs I E fun D C s6 H5 m6 ce sm rp => ?_) (fun _ s' hq => wpAny_pure (wpAny_pure hq)) fun _ _ e => e)
  obtain ⟨o, es, ep, ho, hd, hrest⟩ := id ce.ns
  have Ip : ak X (pins ++ [(C, o)]) σ H5 s6 := ce.inv.pins_of fun p hp => by
    rcases List.mem_append.mp hp with z | z
    . exact ce.inv.pin p (List.mem_append_right _ z)
    . have e : p = (C, o) := by simpa using z
      subst e
      exact ⟨ho, ce.free, ce.loc, ce.fs, fun v z => by rw [hd] at z; cases z⟩
  show wpAny _ X.A (assign (.Name x px) X.env (.ref D)) _ _ _
  refine aS (oT (i := i) hN hx hl hf (pins ++ [(C, o)]) s6 σ H5 (.ref D) (.ref D) (fun σ' H' => σ.set i (some (.ref D)) = σ' /\ H5 = H') Ip rfl ⟨rfl, rfl⟩) fun _ s7 ⟨σ7, H7, I7, e1, e2⟩ => ?_
  subst e1 e2
  have pC := (I7.pin (C, o) (List.mem_append_right _ (List.mem_append_right _ (by simp)))).1
  refine ⟨m6, ⟨o, es, ep, pC, hd, hrest⟩, fun h' sb => ?_⟩
  have ce' : mj X pins (σ.set i (some (.ref D))) H5 s7 C m6 := ⟨I7.unpinned, ⟨o, es, ep, pC, hd, hrest⟩, ce.free, ce.loc, ce.old, ce.cell, ce.pin, ce.fs⟩
  exact ⟨_, H5, ce'.done sb, q (.ref D) H5 sm rp⟩
end Sp
namespace Sp
open PySem PySem.Spec PyProof.Rows L2
mutual
def D.py : D -> PyData
  | .non => .none
  | .bl b => .bool b
  | .int i => .int i
  | .str x => .str x
  | .dct _ _ => .dict []
  | .typ _ => .dict []
  | .sn _ => .dict []
  | .obj _ _ _ => .dict []
  | .cls _ => .dict []
  | .tup l => .tuple (cF l)
  | .lst l => .list (cF l)
def cF : List D -> List PyData
  | [] => []
  | d :: l => d.py :: cF l
end
inductive Rs (α : Type) where
  | ok (a : α) (l : List Prop)
  | st
def aJ : List Prop -> Prop
  | [] => True
  | p :: l => p /\ aJ l
def Rs.bnd {α β : Type} (r : Rs α) (f : α -> Rs β) : Rs β :=
  match r with
  | .st => .st
  | .ok a l => match f a with
    | .st => .st
    | .ok b m => .ok b (l ++ m)
def PL {α : Type} : Option α -> Rs α
  | some a => .ok a []
  | none => .st
def gd (b : Bool) : List Prop -> List Prop
  | [] => []
  | m => [b = true -> aJ m]
abbrev R1 := Rs (D × Nat)
def mk (d : D) (k : Nat) : R1 := .ok (d, kn d k) []
structure Fx where
  fn : Str -> Option (List D -> Rs D)
  con : Str -> Option D
  blt : Str -> Option (List D -> R1)
  itr : Str -> Option (List D -> Nat -> R1)
  mth : Str -> Option (D -> List D -> R1)
  mtt : Str -> Option (List D -> List D -> Nat -> Rs (List D))
  slf : D -> Option Int -> Option Int -> R1 := fun _ _ _ => .st
  fld : Str -> Str -> Bool := fun _ _ => false
  omt : Str -> Str -> Option (List D -> Rs D) := fun _ _ => none
def AF : Const -> Option D
  | .none => some .non
  | .bool b => some (.bl b)
  | .int i => some (.int i)
  | .str x => some (.str x)
  | _ => none
def cX : Nat := 2 ^ 9000
def bK (a b : Int) : Prop := a.natAbs < 2 ^ 64 \/ b.natAbs < 2 ^ 64 \/ (a.natAbs < cX /\ b.natAbs < cX) \/ (Builtin.Int.intBits a <= 2 ^ 22 /\ Builtin.Int.intBits b <= 2 ^ 22)
def fT (b : Int) : Prop := b ≠ 0 /\ b.natAbs < cX
def Ad (a b : Int) : Prop := 0 <= b /\ b <= 1000 /\ a.natAbs < 2 ^ 64
def bE : Nat := 40000
def ze (op : Operator) (a b : Int) : R1 :=
  match op with
  | .Add => .ok (.int (a + b), 0) []
  | .Sub => .ok (.int (a - b), 0) []
  | .Mult => .ok (.int (a * b), 0) [bK a b]
  | .FloorDiv => .ok (.int (a.fdiv b), 0) [fT b]
  | .Mod => .ok (.int (a.fmod b), 0) [b ≠ 0]
  | .Pow => .ok (.int (a ^ b.toNat), 0) [Ad a b]
  | _ => .st
def vm : Operator -> Bool
  | .Add => true
  | _ => false
def kG (op : Operator) (x y : D) (k j : Nat) : R1 :=
  match x, y with
  | .int a, .int b => ze op a b
  | .tup a, .tup b => if vm op = true then .ok (.tup (a ++ b), kn (.tup (a ++ b)) (kj k j)) [a.length + b.length <= bE] else .st
  | .lst a, .lst b => if vm op = true then .ok (.lst (a ++ b), 0) [am (a ++ b) = true, a.length + b.length <= bE] else .st
  | _, _ => .st
def vR (op : UnaryOp) (x : D) : Option D :=
  match op, x with
  | .USub, .int a => some (.int (-a))
  | .Not, .bl b => some (.bl (!b))
  | _, _ => none
def ib (x y : D) : Bool := SeqAt.shaped x.py && SeqAt.shaped y.py
def cA (x y : D) : Bool := PyData.eqv x.py y.py
def dU : List D -> Option (List Int)
  | [] => some []
  | .int i :: l => (dU l).map (i :: ·)
  | _ :: _ => none
def vc (x : D) (l : List D) : Rs Bool := .ok (l.any fun y => cA y x) [ib (.tup l) x = true]
def D.isNon : D -> Bool
  | .non => true
  | _ => false
def eG : D -> Option (List D)
  | .tup l => some l
  | .lst l => some l
  | _ => none
def fN (op : CmpOp) (a b : Int) : Option Bool :=
  match op with
  | .Lt => some (decide (a < b))
  | .LtE => some (decide (a <= b))
  | .Gt => some (decide (b < a))
  | .GtE => some (decide (b <= a))
  | _ => none
def uX (op : CmpOp) (x y : D) : Option Bool :=
  match x, y with
  | .int a, .int b => fN op a b
  | _, _ => none
def Rs.nt : Rs Bool -> Rs Bool
  | .ok b l => .ok (!b) l
  | .st => .st
def mW : D -> Option bY
  | .int i => some (.inl i)
  | .str x => some (.inr x)
  | _ => none
def kA (ks : List bY) (ds : List D) (k : bY) : Option D := ((ks.zip ds).find? fun p => decide (p.1 = k)).map (·.2)
def e8 (ks : List bY) (k : bY) : Bool := ks.any fun j => decide (j = k)
def jx (ks : List bY) (k : bY) : List bY := cond (e8 ks k) ks (ks ++ [k])
def d9 {α : Type} (ks : List bY) (ds : List α) (k : bY) (d : α) : List α := cond (e8 ks k) (List.zipWith (fun j e => if j = k then d else e) ks ds) (ds ++ [d])
def Au (x y : D) : Rs Bool :=
  match y with
  | .tup l => vc x l
  | .lst l => vc x l
  | .dct ks _ => (match mW x with | some k => .ok (e8 ks k) [] | none => .st)
  | _ => .st
def gz (op : CmpOp) (x y : D) : Rs Bool :=
  match op with
  | .Eq => .ok (cA x y) [ib x y = true]
  | .NotEq => .ok (!cA x y) [ib x y = true]
  | .In => Au x y
  | .NotIn => (Au x y).nt
  | .Is => (match y with | .non => .ok x.isNon [] | .bl c => (match x with | .bl b => .ok (b == c) [] | _ => .st) | _ => .st)
  | .IsNot => (match y with | .non => .ok (!x.isNon) [] | .bl c => (match x with | .bl b => .ok (!(b == c)) [] | _ => .st) | _ => .st)
  | op => PL (uX op x y)
def D.ty0 : D -> Option String
  | .non => some "NoneType"
  | .bl _ => some "bool"
  | .int _ => some "int"
  | .str _ => some "str"
  | .dct _ _ => some "dict"
  | .tup _ => some "tuple"
  | .lst _ => some "list"
  | _ => none
def EE (x : D) (T : String) : Option Bool := x.ty0.map fun a => decide (a = T) || decide (a = "bool" /\ T = "int")
def uI (x : Str) : Option String :=
  if x = "int" then some "int" else if x = "bool" then some "bool" else if x = "str" then some "str" else if x = "tuple" then some "tuple" else if x = "list" then some "list" else none
def dg : List D -> Option (List Bool)
  | [] => some []
  | .bl i :: l => (dg l).map (i :: ·)
  | _ :: _ => none
def ii : List Str := ["len", "tuple", "list", "abs", "all", "sum", "isinstance", "set", "int", "bool", "str", "range", "zip", "enumerate", "any", "sorted", "min", "max", "reversed"]
def hJ : Expr -> Bool
  | .Tuple .. => true
  | _ => false
def dZ (e tg : Expr) : Bool :=
  match e with
  | .Call (.Name f _) _ _ _ => if f = "enumerate" \/ f = "zip" then hJ tg else true
  | _ => true
def items : D -> Option (List D)
  | .lst l => some l
  | .tup l => some l
  | _ => none
def bT (ρ : aj) (x : Str) (y : D × Bool) : aj := fun z => if z = x then some y else ρ z
def d6 (sc : Scope) (x : Str) : Bool := sc.names.lookup x == some .local || sc.names.lookup x == some .cell
def aV (sc : Scope) : List Expr -> List D -> aj -> Option aj
  | [], [], ρ => some ρ
  | .Name x _ :: es, d :: ds, ρ => if d6 sc x = true then aV sc es ds (bT ρ x (d, false)) else none
  | _, _, _ => none
def bN (sc : Scope) (tg : Expr) (d : D) (ρ : aj) : Option aj :=
  match tg with
  | .Name x _ => if d6 sc x = true then some (bT ρ x (d, false)) else none
  | .Tuple es _ _ => (match d with | .tup ds => aV sc es ds ρ | _ => none)
  | _ => none
def mG (sc scope : Scope) : Bool :=
  decide (scope.kind = .function) && scope.names.all (fun y => decide (y.2 ≠ .local) || decide (scope.names.lookup y.1 = some .local)) &&
  scope.names.all (fun y => decide (y.2 ≠ .free) || d6 sc y.1 && decide (sc.names.lookup y.1 = some .cell) || decide (sc.names.lookup y.1 = some .free)) && decide ((scope.names.map (·.1)).Nodup)
def fU (step : D -> Rs (Option (D × Nat))) : List D -> Rs (List D × Nat)
  | [] => .ok ([], 0) []
  | d :: l => (step d).bnd fun r => (fU step l).bnd fun q => match r with
    | none => .ok q []
    | some p => .ok (p.1 :: q.1, kj p.2 q.2) []
def rK (x : D) (i : Int) (k : Nat) : R1 :=
  match eG x with
  | some l => (match atI l i with | some d => mk d k | none => .st)
  | none => .st
def jp (p : D × Nat) (f : Int -> R1) : R1 :=
  match p.1 with
  | .int j => f j
  | _ => .st
def ji (p q : D × Nat) : R1 :=
  match p.1 with
  | .dct ks ds => (match mW q.1 with | some k => (match kA ks ds k with | some d => .ok (d, 0) [] | none => .st) | none => .st)
  | x => jp q fun j => rK x j p.2
def fM (l : List D) (lo hi : Option Int) : List D := (l.drop (HT.sIx l.length 0 lo)).take (HT.sIx l.length l.length hi - HT.sIx l.length 0 lo)
def Fu (l : List D) (lo hi : Option Int) : Bool := !(decide (HT.sIx l.length 0 lo = 0) && decide (HT.sIx l.length l.length hi = l.length))
def aR (x : D) (lo hi : Option Int) : R1 :=
  match x with
  | .tup l => .ok (.tup (fM l lo hi), 0) [am l = true, Fu l lo hi = true]
  | .lst l => .ok (.lst (fM l lo hi), 0) [am l = true]
  | _ => .st
def gF (x : Str) : Bool := decide ((x == ("__debug__" : Str)) = false) && decide ((x == ("__classdict__" : Str)) = false)
def vC (b : Bool) (r : Rs Bool) : Rs Bool :=
  match r with
  | .ok c m => .ok (b && c) (gd b m)
  | .st => match b with | false => .ok false [] | true => .st
def Aj (b : Bool) (r : Rs Bool) : Rs Bool :=
  match r with
  | .ok c m => .ok (b || c) (gd (!b) m)
  | .st => match b with | true => .ok true [] | false => .st
mutual
def oZ (b : Bool) : D -> D -> D
  | .int x, .int y => .int (cond b x y)
  | .bl x, .bl y => .bl (cond b x y)
  | .tup x, .tup y => if x.length = y.length then .tup (j9 b x y) else cond b (.tup x) (.tup y)
  | x, y => cond b x y
def j9 (b : Bool) : List D -> List D -> List D
  | x :: l, y :: m => oZ b x y :: j9 b l m
  | l, m => cond b l m
end
def wO (t : Bool) (k j : Nat) : Nat := if k = j then k else cond t k j
def Aw (b : Bool) (r s : R1) : R1 :=
  match r with
  | .st => (match b with | true => .st | false => s)
  | .ok p m => match s with
    | .st => (match b with | true => .ok p m | false => .st)
    | .ok q n => .ok (oZ b p.1 q.1, wO b p.2 q.2) (gd b m ++ gd (!b) n)
def jo (Φ : Fx) (x : Str) (sc : Scope) (ρ : aj) : R1 :=
  if gF x = true then
    (if sc.names.lookup x = some .globalImplicit then (match Φ.con x with | some d => .ok (d, 0) [] | none => match uI x with | some T => .ok (.typ T, 0) [] | none => .st)
    else match ρ x with
      | some p => mk p.1 (cond p.2 2 1)
      | none => .st)
  else .st
def lV (Φ : Fx) (f : Str) (it : Bool) (ds : List D) (k : Nat) : R1 :=
  match Φ.fn f with
  | some F => (F ds).bnd fun d => .ok (d, 0) []
  | none => match (if it = true then Φ.itr f else none) with
    | some B => B ds k
    | none => match Φ.blt f with
      | some B => B ds
      | none => .st
def iB {α : Type} (p : D × Nat) (f : Bool -> Rs α) : Rs α :=
  match p.1 with
  | .bl j => f j
  | _ => .st
def ES (Φ : Fx) (x : D) (f : Str) : R1 :=
  match x with
  | .obj n ns ds => if Φ.fld n f = true then (match (ns.zip ds).lookup f with | some d => .ok (d, 0) [] | none => .st) else .st
  | _ => .st
def jc : Expr -> Bool
  | .Call (.Name _ _) [] [] _ => false
  | _ => true
def yx (Φ : Fx) (a : Expr) (m : Str) (x : D) (ds : List D) : R1 :=
  match x with
  | .obj n ns es => if ns.contains m = false /\ jc a = true /\ ds.length < 29 then (match Φ.omt n m with | some F => (F (.obj n ns es :: ds)).bnd fun d => .ok (d, 0) [] | none => .st) else .st
  | x => if jc a = true then (match Φ.mth m with | some M => M x ds | none => .st) else .st
def Fy (op op2 : CmpOp) (x y z : D) : R1 :=
  match x, y, z with
  | .int a, .int b, .int c => (match fN op a b, fN op2 b c with | some r, some r2 => .ok (.bl (r && r2), 0) [] | _, _ => .st)
  | _, _, _ => .st
mutual
def aA (Φ : Fx) : Expr -> Bool -> Scope -> aj -> R1
  | .Constant c _ _, _, _, _ => (match AF c with | some d => .ok (d, 0) [] | none => .st)
  | .Name x _, _, sc, ρ => jo Φ x sc ρ
  | .BinOp a op b _, _, sc, ρ => (aA Φ a false sc ρ).bnd fun p => (aA Φ b false sc ρ).bnd fun q => kG op p.1 q.1 p.2 q.2
  | .UnaryOp op a _, _, sc, ρ => (aA Φ a false sc ρ).bnd fun p => (match vR op p.1 with | some d => .ok (d, 0) [] | none => .st)
  | .BoolOp op es _, _, sc, ρ => if es.isEmpty = true then .st else (dG Φ op es sc ρ).bnd fun b => .ok (.bl b, 0) []
  | .Compare a [op] [b] _, _, sc, ρ => (aA Φ a false sc ρ).bnd fun p => (aA Φ b false sc ρ).bnd fun q => (gz op p.1 q.1).bnd fun r => .ok (.bl r, 0) []
  | .Compare a [op, op2] [b, c] _, _, sc, ρ => (aA Φ a false sc ρ).bnd fun p => (aA Φ b false sc ρ).bnd fun q => (aA Φ c false sc ρ).bnd fun t => Fy op op2 p.1 q.1 t.1
  | .IfExp c a b _, _, sc, ρ => (aA Φ c false sc ρ).bnd fun p => iB p fun t => Aw t (aA Φ a false sc ρ) (aA Φ b false sc ρ)
  | .Tuple es _ _, _, sc, ρ => (cx Φ es sc ρ).bnd fun p => if p.1.length <= bE then mk (.tup p.1) p.2 else .st
  | .Dict [] [] _, _, _, _ => .ok (.dct [] [], 0) []
  | .List es _, _, sc, ρ => (cx Φ es sc ρ).bnd fun p => if p.1.length <= bE /\ p.2 <= 1 then .ok (.lst p.1, p.2) [] else .st
  | .Subscript a (.Slice lo hi none _) _, _, sc, ρ => (aA Φ a false sc ρ).bnd fun p => (mD Φ lo sc ρ).bnd fun l => (mD Φ hi sc ρ).bnd fun h => Φ.slf p.1 l h
  | .Subscript a i _, _, sc, ρ => (aA Φ a false sc ρ).bnd fun p => (aA Φ i false sc ρ).bnd fun q => ji p q
  | .Call (.Name f _) args [] _, it, sc, ρ =>
    if sc.names.lookup f = some .globalImplicit then (cx Φ args sc ρ).bnd fun p => lV Φ f it p.1 p.2
    else .st
  | .Attribute (.Name x _) f _, _, sc, ρ => (jo Φ x sc ρ).bnd fun p => ES Φ p.1 f
  | .Call (.Attribute a m ap) args [] cp, _, sc, ρ => if (ap.endLine == cp.line) = true then (aA Φ a false sc ρ).bnd fun p => (cx Φ args sc ρ).bnd fun q => yx Φ a m p.1 q.1 else .st
  | .ListComp elt [⟨tg, iter, ifs, 0⟩] scope _, _, sc, ρ =>
    if mG sc scope = true then (aA Φ iter true sc ρ).bnd fun p => (match items p.1 with
      | some ds => if dZ iter tg = true then
          (Rs.ok () [ds.length <= bE, am ds = true \/ p.2 <= 1]).bnd fun _ => (fU (fun d => match bN scope tg d (flt scope ρ) with
            | none => .st
            | some ρ' => (dG Φ .And ifs scope ρ').bnd fun b => cond b ((aA Φ elt false scope ρ').bnd fun r => .ok (some r) []) (.ok none [])) ds).bnd fun q => if q.2 <= 1 then .ok (.lst q.1, q.2) [] else .st
        else .st
      | none => .st)
    else .st
  | _, _, _, _ => .st
def cx (Φ : Fx) : List Expr -> Scope -> aj -> Rs (List D × Nat)
  | [], _, _ => .ok ([], 0) []
  | e :: es, sc, ρ => (aA Φ e false sc ρ).bnd fun p => (cx Φ es sc ρ).bnd fun q => .ok (p.1 :: q.1, kj p.2 q.2) []
def dG (Φ : Fx) : BoolOp -> List Expr -> Scope -> aj -> Rs Bool
  | .And, [], _, _ => .ok true []
  | .Or, [], _, _ => .ok false []
  | .And, e :: es, sc, ρ => (aA Φ e false sc ρ).bnd fun p => iB p fun b => vC b (dG Φ .And es sc ρ)
  | .Or, e :: es, sc, ρ => (aA Φ e false sc ρ).bnd fun p => iB p fun b => Aj b (dG Φ .Or es sc ρ)
def mD (Φ : Fx) : Option Expr -> Scope -> aj -> Rs (Option Int)
  | none, _, _ => .ok none []
  | some e, sc, ρ => (aA Φ e false sc ρ).bnd fun p => (match p.1 with | .int i => .ok (some i) [] | _ => .st)
end
theorem ph {Φ : Fx} {op : BoolOp} {es : List Expr} {p : Pos} {it : Bool} {sc : Scope} {ρ : aj} : aA Φ (.BoolOp op es p) it sc ρ = (if es.isEmpty = true then .st else (dG Φ op es sc ρ).bnd fun b => .ok (.bl b, 0) []) := rfl
theorem jv {Φ : Fx} {f : Str} {args : List Expr} {p q : Pos} {it : Bool} {sc : Scope} {ρ : aj} : aA Φ (.Call (.Name f p) args [] q) it sc ρ = (if sc.names.lookup f = some .globalImplicit then (cx Φ args sc ρ).bnd fun p => lV Φ f it p.1 p.2 else .st) := rfl
theorem si {Φ : Fx} {a : Expr} {m : Str} {args : List Expr} {ap cp : Pos} {it : Bool} {sc : Scope} {ρ : aj} : aA Φ (.Call (.Attribute a m ap) args [] cp) it sc ρ = (if (ap.endLine == cp.line) = true then (aA Φ a false sc ρ).bnd fun p => (cx Φ args sc ρ).bnd fun q => yx Φ a m p.1 q.1 else .st) := rfl
theorem pe {Φ : Fx} {elt tg iter : Expr} {ifs : List Expr} {scope : Scope} {q : Pos} {it : Bool} {sc : Scope} {ρ : aj} : aA Φ (.ListComp elt [⟨tg, iter, ifs, 0⟩] scope q) it sc ρ = (if mG sc scope = true then (aA Φ iter true sc ρ).bnd fun p => (match items p.1 with
      | some ds => if dZ iter tg = true then
          (Rs.ok () [ds.length <= bE, am ds = true \/ p.2 <= 1]).bnd fun _ => (fU (fun d => match bN scope tg d (flt scope ρ) with
            | none => .st
            | some ρ' => (dG Φ .And ifs scope ρ').bnd fun b => cond b ((aA Φ elt false scope ρ').bnd fun r => .ok (some r) []) (.ok none [])) ds).bnd fun q => if q.2 <= 1 then .ok (.lst q.1, q.2) [] else .st
        else .st
      | none => .st)
    else .st) := rfl
end Sp
namespace Sp
open PySem PySem.Spec PyProof.Rows L2
inductive Fl where
  | nx (ρ : aj) | rt (d : D) | bk (ρ : aj) | ct (ρ : aj)
def nV : Expr -> Bool
  | .ListComp .. => true
  | .SetComp .. => true
  | .DictComp .. => true
  | _ => false
def gX (l : List D) (i : Int) (d : D) : Option (List D) := (ku l.length i).map fun j => l.set j d
def ip (f : aj -> Rs Fl) : Fl -> Rs Fl
  | .nx ρ => f ρ
  | .ct ρ => f ρ
  | .bk ρ => .ok (.nx ρ) []
  | .rt d => .ok (.rt d) []
def cZ (bind : D -> aj -> Option aj) (body : aj -> Rs Fl) : List D -> aj -> Rs Fl
  | [], ρ => .ok (.nx ρ) []
  | d :: l, ρ => match bind d ρ with
    | none => .st
    | some ρ1 => (body ρ1).bnd (ip (cZ bind body l))
def mv (test : aj -> Rs Bool) (body : aj -> Rs Fl) : Nat -> aj -> Rs Fl
  | 0, _ => .st
  | n + 1, ρ => (test ρ).bnd fun b => cond b ((body ρ).bnd (ip (mv test body n))) (.ok (.nx ρ) [])
def demX (x : Str) (ρ : aj) : aj := fun y => if y = x then (ρ y).map fun p => (p.1, false) else ρ y
def demA (x : Str) (ρ : aj) : aj := fun y => if y = x then (ρ y).map fun p => (p.1, p.2 && p.1.lless) else ρ y
def demL : List Expr -> aj -> aj
  | [], ρ => ρ
  | .Name x _ :: es, ρ => demL es (demA x ρ)
  | .Subscript (.Name x _) _ _ :: es, ρ => demL es (demA x ρ)
  | _ :: es, ρ => demL es ρ
def demote (e : Expr) (ρ : aj) : aj :=
  match e with
  | .Name x _ => demX x ρ
  | .Subscript (.Name x _) _ _ => demX x ρ
  | .Call _ args _ _ => demL args ρ
  | _ => ρ
def oP (sc : Scope) (x : Str) (p : D × Nat) (ρ : aj) : Rs Fl :=
  if d6 sc x = true then
    match p.2 with
    | 0 => .ok (.nx (bT ρ x (p.1, true))) []
    | 1 => .ok (.nx (bT ρ x (p.1, false))) []
    | _ => .st
  else .st
def oW (ρ : aj) (x : Str) (f : List D -> Rs Fl) : Rs Fl :=
  match ρ x with
  | some (.lst l, true) => if gF x = true then f l else .st
  | _ => .st
def nL (sc : Scope) (x y : Str) (px py : Pos) (a b : Expr) : Bool :=
  sc.names.lookup x == some .local && sc.names.lookup y == some .local && (px.line == py.line) && !decide (x = y) && !([a, b].all (foldedForSure 8)) && !([a, b].all (constantsAlone 8))
def n8 (Φ : Fx) (es : List Expr) (e : Expr) (sc : Scope) (ρ : aj) : Rs Fl :=
  match es, e with
  | [.Name x px, .Name y py], .Tuple [a, b] _ _ => if nL sc x y px py a b = true then (cx Φ [a, b] sc ρ).bnd fun p => (match p.1 with
      | [u, v] => if am [u, v] = true \/ p.2 <= 1 then .ok (.nx (bT (bT ρ x (u, false)) y (v, false))) [] else .st
      | _ => .st) else .st
  | _, _ => .st
def sB (sc : Scope) (es : List Expr) (e : Expr) : Bool :=
  match es, e with
  | [.Name x _, .Name _ _], .Tuple [_, _] _ _ => sc.names.lookup x == some .cell
  | _, _ => false
def tS (sc : Scope) (es : List Expr) (e : Expr) : Bool := hJ e && !sB sc es e
def Dq (_ : Expr) : Bool := true
def mN (ρ : aj) (x : Str) (i d : D) : Rs Fl :=
  match ρ x with
  | some (.lst l, true) => (match i with | .int j => if gF x = true then (match gX l j d with | some l' => .ok (.nx (bT ρ x (.lst l', true))) [am l = true, d.lless = true] | none => .st) else .st | _ => .st)
  | some (.dct ks ds, true) => (match mW i with | some k => if gF x = true then .ok (.nx (bT ρ x (.dct (jx ks k) (d9 ks ds k d), true))) [d.lless = true, ks.length < bE] else .st | none => .st)
  | _ => .st
def og (Φ : Fx) (tgs : List Expr) (e : Expr) (sc : Scope) (ρ : aj) : Rs Fl :=
  match tgs with
  | [.Name x _] => (aA Φ e false sc ρ).bnd fun p => oP sc x p ρ
  | [.Tuple es _ _] => if tS sc es e = true then n8 Φ es e sc ρ else (aA Φ e false sc ρ).bnd fun p => (match eG p.1 with
      | some ds => if am ds = true \/ p.2 <= 1 then (match aV sc es ds ρ with | some ρ' => .ok (.nx ρ') [] | none => .st) else .st
      | none => .st)
  | [.Subscript (.Name x _) i _] => if Dq e = true then (aA Φ e false sc ρ).bnd fun p => (aA Φ i false sc ρ).bnd fun q => mN ρ x q.1 p.1
    else .st
  | _ => .st
def zt (op : Operator) (a b : Int) : R1 :=
  match op with
  | .Add => .ok (.int (a + b), 0) []
  | .Sub => .ok (.int (a - b), 0) []
  | .Mult => .ok (.int (a * b), 0) [bK a b]
  | .FloorDiv => .ok (.int (a.fdiv b), 0) [fT b]
  | _ => .st
def oa (Φ : Fx) (t : Expr) (op : Operator) (e : Expr) (sc : Scope) (ρ : aj) : Rs Fl :=
  match t with
  | .Name x _ => if d6 sc x = true then (match ρ x with
      | some p => jp (p.1, 0) (fun a => (aA Φ e false sc ρ).bnd fun q => jp q fun b => zt op a b) |>.bnd fun r => .ok (.nx (bT ρ x (r.1, true))) []
      | none => .st) else .st
  | _ => .st
def n9 (Φ : Fx) (e : Expr) (sc : Scope) (ρ : aj) : Rs Fl :=
  match e with
  | .Call (.Attribute (.Name x _) m ap) args [] cp => if (ap.endLine == cp.line) = true then (cx Φ args sc ρ).bnd fun p => (match Φ.mtt m with
      | some M => oW ρ x fun l => (M l p.1 p.2).bnd fun l' => .ok (.nx (bT ρ x (.lst l', true))) []
      | none => .st) else .st
  | .Call (.Name f p) args ks cp => (aA Φ (.Call (.Name f p) args ks cp) false sc ρ).bnd fun _ => .ok (.nx ρ) []
  | _ => .st
def Fs (ρ : aj) : aj := fun y => (ρ y).map fun p => (p.1, false)
def Al : Expr -> Bool
  | .ListComp elt _ _ _ => nV elt
  | _ => false
def Ak : Expr -> Bool
  | .Tuple es _ _ => es.any Al
  | e => Al e
def rtR (e : Expr) (ρ : aj) : aj := cond (Ak e) (Fs ρ) ρ
def uR (p : D × Nat) : Rs Fl := if p.2 = 0 \/ p.2 = 2 then .ok (.rt p.1) [] else .st
mutual
def dC (Φ : Fx) : Stmt -> Scope -> aj -> Rs Fl
  | .Return (some e) _, sc, ρ => (aA Φ e false sc ρ).bnd uR
  | .Return none _, _, _ => .ok (.rt .non) []
  | .Pass _, _, ρ => .ok (.nx ρ) []
  | .Break _, _, ρ => .ok (.bk ρ) []
  | .Continue _, _, ρ => .ok (.ct ρ) []
  | .Assign tgs e _, sc, ρ => og Φ tgs e sc ρ
  | .AugAssign t op e _, sc, ρ => oa Φ t op e sc ρ
  | .Expr e _, sc, ρ => n9 Φ e sc ρ
  | .If c a b _, sc, ρ => (aA Φ c false sc ρ).bnd fun p => iB p fun t => cond t (aD Φ a sc ρ) (aD Φ b sc ρ)
  | .For tg it body els _, sc, ρ => if els.isEmpty = true then (aA Φ it true sc (demote it ρ)).bnd fun p => (match items p.1 with
      | some ds => if p.2 <= 1 /\ dZ it tg = true then cZ (bN sc tg) (aD Φ body sc) ds (demote it ρ) else .st
      | none => .st)
    else .st
  | .While c body els _, sc, ρ => if els.isEmpty = true then mv (fun ρ => (aA Φ c false sc ρ).bnd fun p => iB p fun b => .ok b []) (aD Φ body sc) bE ρ else .st
  | _, _, _ => .st
def aD (Φ : Fx) : List Stmt -> Scope -> aj -> Rs Fl
  | [], _, ρ => .ok (.nx ρ) []
  | s :: ss, sc, ρ => (dC Φ s sc ρ).bnd fun
    | .nx ρ' => aD Φ ss sc ρ'
    | f => .ok f []
end
theorem o9 {Φ : Fx} {tg it : Expr} {body els : List Stmt} {q : Pos} {sc : Scope} {ρ : aj} : dC Φ (.For tg it body els q) sc ρ = (if els.isEmpty = true then (aA Φ it true sc (demote it ρ)).bnd fun p => (match items p.1 with
      | some ds => if p.2 <= 1 /\ dZ it tg = true then cZ (bN sc tg) (aD Φ body sc) ds (demote it ρ) else .st
      | none => .st)
    else .st) := rfl
theorem r9 {Φ : Fx} {c : Expr} {body els : List Stmt} {q : Pos} {sc : Scope} {ρ : aj} : dC Φ (.While c body els q) sc ρ = (if els.isEmpty = true then mv (fun ρ => (aA Φ c false sc ρ).bnd fun p => iB p fun b => .ok b []) (aD Φ body sc) bE ρ else .st) := rfl
def e9 : List Str -> List D -> aj
  | p :: ps, d :: ds => fun z => if z = p then some (d, false) else e9 ps ds z
  | _, _ => fun _ => none
def bC (Φ : Fx) (sc : Scope) (ps : List Str) (body : List Stmt) (ds : List D) : Rs D :=
  if ds.length = ps.length then (aD Φ body sc (e9 ps ds)).bnd fun
    | .rt d => .ok d []
    | .nx _ => .ok .non []
    | _ => .st
  else .st
def zm (ds : List D) : R1 :=
  match ds with
  | [.sn n] => .ok (.int n, 0) []
  | [x] => (match eG x with | some l => .ok (.int l.length, 0) [] | none => .st)
  | _ => .st
def lh : List String := ["int", "bool", "str", "tuple", "list", "dict"]
def zn (ds : List D) : R1 :=
  match ds with
  | [.obj m _ _, .cls n] => if m = n then .ok (.bl true, 0) [] else if m ∈ Fw then .ok (.bl (qL m n), 0) [] else .st
  | [x, .typ T] => if T ∈ lh then (match EE x T with | some b => .ok (.bl b, 0) [] | none => .st) else .st
  | _ => .st
def sF (ds : List D) : R1 :=
  match ds with
  | [x] => (match eG x with | some l => .ok (.tup l, 0) [am l = true] | none => .st)
  | _ => .st
def vB (ds : List D) : R1 :=
  match ds with
  | [x] => (match eG x with | some l => .ok (.lst l, 0) [am l = true] | none => .st)
  | _ => .st
def zr (ds : List D) : R1 :=
  match ds with
  | [.int i] => .ok (.int (if i < 0 then -i else i), 0) []
  | _ => .st
def zq (ds : List D) : R1 :=
  match ds with
  | [.lst l] => (match dg l with | some bs => .ok (.bl (bs.all id), 0) [] | none => .st)
  | _ => .st
def zi (ds : List D) : R1 :=
  match ds with
  | [.lst l] => (match dU l with | some ns => .ok (.int ns.sum, 0) [] | none => .st)
  | _ => .st
def zp (ds : List D) : R1 :=
  match ds with
  | [.int i] => .ok (.int i, 0) []
  | [.bl b] => .ok (.int (cond b 1 0), 0) []
  | _ => .st
def f7 (ds : List D) (_ : Nat) : R1 :=
  match ds with
  | [.int j] => .ok (.lst ((List.range j.toNat).map fun i => .int (i : Nat)), 0) [-4611686018427387904 <= j, j <= bE]
  | [.int i, .int j] => .ok (.lst ((List.range (j - i).toNat).map fun m => .int (i + (m : Nat))), 0) [-4611686018427387904 <= i, i <= 4611686018427387000, -4611686018427387904 <= j, j - i <= 800]
  | _ => .st
def gx : Nat -> List D -> List D
  | _, [] => []
  | n, x :: xs => .tup [.int (n : Nat), x] :: gx (n + 1) xs
theorem lT : ∀ (l : List D) (n : Nat), gx n l = l.mapIdx fun i x => .tup [.int ((n + i : Nat) : Int), x]
  | [], _ => rfl
  | x :: l, n => by
    rw [gx, lT l (n + 1), List.mapIdx_cons]
    simp only [Nat.add_zero]
    congr 1
    congr 1
    funext i y
    rw [show n + 1 + i = n + (i + 1) by omega]
def vo (ds : List D) (k : Nat) : R1 :=
  match ds with
  | [.tup a] => .ok (.lst (gx 0 a), 0) [am a = true]
  | [.lst a] => .ok (.lst (gx 0 a), k) [am a = true]
  | _ => .st
def yM (ds : List D) (k : Nat) : R1 :=
  match ds with
  | [.tup a, .tup b] => .ok (.lst (List.zipWith (fun x y => .tup [x, y]) a b), 0) [am a = true, am b = true]
  | [x, y] => (match eG x, eG y with | some a, some b => .ok (.lst (List.zipWith (fun x y => .tup [x, y]) a b), k) [am a = true, am b = true] | _, _ => .st)
  | _ => .st
def lK (l ds : List D) (k : Nat) : Rs (List D) :=
  match ds with
  | [d] => .ok (l ++ [d]) [d.lless = true \/ k = 0, l.length < bE]
  | _ => .st
def Tb (l : List (Str × (List D -> Rs D))) (c : List (Str × D)) (b : List (Str × (List D -> R1))) (i : List (Str × (List D -> Nat -> R1))) (m : List (Str × (D -> List D -> R1))) (t : List (Str × (List D -> List D -> Nat -> Rs (List D)))) (sf : D -> Option Int -> Option Int -> R1) : Fx :=
  { slf := sf, fn := fun g => l.lookup g, con := fun x => c.lookup x, blt := fun x => b.lookup x, itr := fun x => i.lookup x, mth := fun x => m.lookup x, mtt := fun x => t.lookup x }
end Sp
namespace Sp
open PySem PySem.Spec PyProof.Rows L2
variable {X : Cx}
theorem lE {k : Int} {n : Nat} (h : k.natAbs < 2 ^ n) : Builtin.Int.intBits k <= n := by
  unfold Builtin.Int.intBits
  split
  . exact Nat.zero_le _
  . rename_i h0
    have : k.natAbs.log2 < n := by
      rcases Nat.eq_zero_or_pos k.natAbs with h1 | hp
      . exact absurd (by simpa using h1) (by simpa using h0)
      . exact (Nat.log2_lt (Nat.ne_of_gt hp)).mpr h
    omega
theorem dA : ∀ {l m : List Prop}, aJ (l ++ m) ↔ aJ l /\ aJ m
  | [], m => by simp [aJ]
  | p :: l, m => by
    show p /\ aJ (l ++ m) ↔ (p /\ aJ l) /\ aJ m
    rw [dA, and_assoc]
theorem aQ {α β : Type} {r : Rs α} {f : α -> Rs β} {b : β} {l : List Prop} (h : r.bnd f = .ok b l) (hp : aJ l) : ∃ a l1 l2, r = .ok a l1 /\ aJ l1 /\ f a = .ok b l2 /\ aJ l2 := by
  unfold Rs.bnd at h
  split at h
  . cases h
  . rename_i a l1
    split at h
    . cases h
    . rename_i b' m e
      cases h
      obtain ⟨h1, h2⟩ := dA.mp hp
      exact ⟨a, l1, m, rfl, h1, e, h2⟩
theorem n4 {b : Bool} {m : List Prop} (h : aJ (gd b m)) (hb : b = true) : aJ m := by
  cases m with
  | nil => exact True.intro
  | cons p l => exact h.1 hb
theorem Hr {a b : Int} (h : Builtin.Int.intBits a <= 2 ^ 22) (g : Builtin.Int.intBits b <= 2 ^ 22) : IntMulOk a b := by
  have h' : Builtin.Int.intTooBig (Builtin.Int.intBits a + Builtin.Int.intBits b) = false := by
    unfold Builtin.Int.intTooBig bitsLine; exact decide_eq_false (by omega)
  unfold IntMulOk; rw [h']; simp
theorem rA {a b : Int} (h : bK a b) : IntMulOk a b := by
  rcases h with h | h | ⟨h, g⟩ | ⟨h, g⟩
  . exact .of_left (lE h)
  . exact .of_right (lE h)
  . exact IntMulOk.of_bits (Nat.le_trans (lE h) (by decide)) (Nat.le_trans (lE g) (by decide))
  . exact Hr h g
theorem BE : cS X (binaryOp .Mult) (rI (fun i j => bK i j) fun i j => .int (i * j)) := t7 fun _ _ _ _ _ _ _ hc q => mul_int q (rA hc)
theorem yr : cS X (binaryOp .FloorDiv) (rI (fun _ j => j ≠ 0 /\ j.natAbs < cX) fun i j => .int (i.fdiv j)) := t7 fun i j _ _ _ _ _ hc q => floordiv_int hc.1 q (.inl (PyProof.noPylong_of_log2 (by
  rcases Nat.eq_zero_or_pos j.natAbs with h1 | hp
  . exact absurd (by simpa using h1) hc.1
  . exact (Nat.log2_lt (Nat.ne_of_gt hp)).mpr hc.2)))
mutual
theorem du {pins : List (Addr × Obj)} {σ : L2.St} {H : Hp} {s : Shared} (I : ak X pins σ H s) {P : bx} : ∀ {d : D} {v : V} {u : Value}, d.py.canLay0 = true -> ah X.K H P d v -> aW v u -> ∃ as, Reads s.heap u d.py as
  | .non, v, u, _, h, r => by
    rw [ah] at h; subst h; cases (show u = Value.none from r); rw [D.py]; exact ⟨_, .none⟩
  | .bl b, v, u, _, h, r => by rw [ah] at h; subst h; cases (show u = Value.bool b from r); rw [D.py]; exact ⟨_, .bool b⟩
  | .int i, v, u, _, h, r => by rw [ah] at h; subst h; obtain ⟨t, e⟩ := (show ∃ t, u = Value.int i t from r); subst e; rw [D.py]; exact ⟨_, .int i t⟩
  | .str x, v, u, _, h, r => by rw [ah] at h; subst h; obtain ⟨t, e⟩ := (show ∃ t, u = Value.str x t from r); subst e; rw [D.py]; exact ⟨_, .str x t⟩
  | .dct _ _, v, u, c, h, r => by rw [D.py] at c; simp [PyData.canLay0] at c
  | .typ _, v, u, c, h, r => by rw [D.py] at c; simp [PyData.canLay0] at c
  | .sn _, v, u, c, h, r => by rw [D.py] at c; simp [PyData.canLay0] at c
  | .obj _ _ _, v, u, c, h, r => by rw [D.py] at c; simp [PyData.canLay0] at c
  | .cls _, v, u, c, h, r => by rw [D.py] at c; simp [PyData.canLay0] at c
  | .tup l, v, u, c, h, r => by
    rw [ah] at h
    obtain ⟨a, vs, rfl, h, q⟩ := h
    cases (show u = Value.ref a from r)
    obtain ⟨its, rv, ht, _⟩ := I.tuple h
    obtain ⟨o, e1, e2, n, e3⟩ := ht
    rw [D.py] at c ⊢
    obtain ⟨as, ra⟩ := jZ I (by simpa [PyData.canLay0] using c) q rv
    exact ⟨as, .tuple e1 e2 e3 (by simpa using ra)⟩
  | .lst l, v, u, c, h, r => by
    rw [ah] at h
    obtain ⟨a, vs, b, rfl, h, _, q⟩ := h
    cases (show u = Value.ref a from r)
    have hs : cv X.K H a vs := h.sq
    obtain ⟨its, rv, ht, _⟩ := I.list hs
    obtain ⟨o, n, e1, e2, _, e3⟩ := ht
    rw [D.py] at c ⊢
    obtain ⟨as, ra⟩ := jZ I (by simpa [PyData.canLay0] using c) q rv
    exact ⟨_, .list e1 e2 e3 (by simpa using ra)⟩
theorem jZ {pins : List (Addr × Obj)} {σ : L2.St} {H : Hp} {s : Shared} (I : ak X pins σ H s) {P : bx} : ∀ {l : List D} {vs : List V} {us : List Value}, PyData.canLayAll0 (cF l) = true -> ag X.K H P l vs -> aL vs us -> ∃ as, ReadsAll s.heap us (cF l) as
  | [], vs, us, _, h, r => by rw [ag] at h; subst h; cases r; rw [cF]; exact ⟨_, .nil⟩
  | d :: l, vs, us, c, h, r => by
    rw [ag] at h
    obtain ⟨v, vr, rfl, h1, h2⟩ := h
    cases r with
    | cons r1 r2 =>
      rw [cF, PyData.canLayAll0, Bool.and_eq_true] at c
      obtain ⟨as, ra⟩ := du I c.1 h1 r1
      obtain ⟨bs, rb⟩ := jZ I c.2 h2 r2
      rw [cF]
      exact ⟨_, .cons ra rb⟩
end
def AM (X : Cx) (f : Value -> Value -> Sem Value) (x y z : D) (k j l : Nat) : Prop :=
  ∃ r : R2, cS X f r /\ ∀ ow H0 H2 v u (Q : VK), eQ ow H0 -> aF H0 H2 -> ah X.K H2 (Kp ow H0 k) x v -> ah X.K H2 (Kp ow H0 j) y u -> (∀ w H', aF H2 H' -> ah X.K H' (Kp ow H0 l) z w -> Q w H') -> r v u H2 Q
theorem cD {H : Hp} {p : Addr} {o : HO} (h : H p = none) : aF H (bh H p o) := fun b x e => by rw [aO (bH e h)]; exact e
theorem ah.kn {K : W.Frag} {ow : Ow} {H0 H : Hp} {d : D} {k : Nat} {v : V} (h : ah K H (Kp ow H0 k) d v) : ah K H (Kp ow H0 (Sp.kn d k)) d v := by
  unfold Sp.kn
  by_cases f : d.lless = true
  . rw [if_pos f]; exact h.flat _ f
  . rw [if_neg f]; exact h
theorem g8 : bE <= sizeLine := by rw [sizeLine_eq]; decide
theorem ke : bE < sizeLine := by rw [sizeLine_eq]; decide
theorem lB {f : Value -> Value -> Sem Value} {a b : Int} {g : Int -> Int -> Int} {C : Int -> Int -> Prop} {k j : Nat} (h : cS X f (rI C fun i j => .int (g i j))) (hc : C a b) : AM X f (.int a) (.int b) (.int (g a b)) k j 0 :=
  ⟨_, h, fun ow H0 H2 v u Q o s rx ry q => by
    rw [ah] at rx ry; subst rx ry
    exact ⟨a, b, rfl, rfl, hc, q _ _ (aF.refl _) (by rw [ah])⟩⟩
theorem rq {f : Value -> Value -> Sem Value} {a b : Int} {g : Int -> Int -> Int} {k j : Nat} (h : cS X f (jD fun i j => .int (g i j))) : AM X f (.int a) (.int b) (.int (g a b)) k j 0 :=
  ⟨_, h, fun ow H0 H2 v u Q o s rx ry q => by
    rw [ah] at rx ry; subst rx ry
    exact ⟨a, b, rfl, rfl, q _ _ (aF.refl _) (by rw [ah])⟩⟩
theorem jE : ∀ {a b : List D}, am (a ++ b) = (am a && am b)
  | [], b => by simp [am]
  | x :: a, b => by rw [List.cons_append, am, am, jE, Bool.and_assoc]
theorem CB {op : Operator} {a b : Int} {z : D} {k j l : Nat} {o : List Prop} (h : ze op a b = .ok (z, l) o) (hp : aJ o) : AM X (binaryOp op) (.int a) (.int b) z k j l := by
  unfold ze at h
  split at h
  . cases h; exact rq Ed
  . cases h; exact rq Ea
  . cases h; exact lB BE hp.1
  . cases h; exact lB yr hp.1
  . cases h; exact lB BF hp.1
  . cases h
    have c : Ad a b := hp.1
    exact lB Eb ⟨c.1, by have := c.2.1; omega, c.2.2⟩
  . cases h
theorem rR {op : Operator} (h : vm op = true) : op = .Add := by cases op <;> first | rfl | cases h
theorem yt : cS X (binaryOp .Add) (fun x y H Q => ∃ a b ys, x = .ref a /\ y = .ref b /\ cu X.K H a [] /\ cu X.K H b ys /\ Q (.ref b) H) := by
  intro pins s σ H x y v u Q I rx ry h
  obtain ⟨a, b, ys, rfl, rfl, ha, hb, q⟩ := h
  cases rx
  cases ry
  obtain ⟨its, r1, p1, _⟩ := I.tuple ha
  obtain ⟨its2, r2, p2, _⟩ := I.tuple hb
  cases r1
  obtain ⟨⟨cls, dd, data, sl⟩, ho, hc, n, hd⟩ := id p1
  obtain ⟨⟨cls2, dd2, data2, sl2⟩, ho2, hc2, n2, hd2⟩ := id p2
  simp only at hc hd hc2 hd2
  subst hc hd hc2 hd2
  exact concat_meets ⟨_, ho, rfl⟩ ⟨_, ho2, rfl⟩ noFill_tuple_add seq_tuple_add PySem.F.slot_tuple_add PySem.F.entry_tuple_add (PySem.F.args_tuple_add_2 _ _)
    (tuple_addW0 a b _ its2.toArray n n2 dd dd2 sl sl2 (by rfl)) ⟨ho, ho2, ⟨.ref b, H, I, rfl, q⟩⟩
theorem BH : cS X (binaryOp .Add) (fun x y H Q => ∃ l b xs zs, x = .ref l /\ y = .ref b /\ cv X.K H l xs /\ cv X.K H b zs /\ xs.length + zs.length <= sizeLine /\ ∀ p, H p = none -> Q (.ref p) (bh H p (.lst (xs ++ zs)))) := by
  intro pins s σ H x y v u Q I rx ry h
  obtain ⟨l, b, xs, zs, rfl, rfl, hH, hB, hz, q⟩ := h
  cases rx
  cases ry
  obtain ⟨its, r, ⟨⟨cls, dd, data, sl⟩, n, ho, hc, _, hd⟩, z⟩ := I.list hH
  obtain ⟨its2, r2, ⟨⟨cls2, dd2, data2, sl2⟩, n2, ho2, hc2, _, hd2⟩, z2⟩ := I.list hB
  simp only at hc hd hc2 hd2
  subst hc hd hc2 hd2
  have l1 := r.length
  have l2 := r2.length
  refine concat_meets ⟨_, ho, rfl⟩ ⟨_, ho2, rfl⟩ noFill_list_add seq_list_add PySem.F.slot_list_add PySem.F.entry_list_add (PySem.F.args_list_add_2 _ _) (list_addW l b its.toArray its2.toArray n n2 dd dd2 sl sl2 (by rw [List.size_toArray, List.size_toArray]; omega)) ⟨ho, ho2, ?_⟩
  have ea : its.toArray ++ its2.toArray = (its ++ its2).toArray := by simp
  rw [ea]
  exact ⟨.ref _, _, I.lnew (t' := s.toks) (r.append r2) (by rw [List.length_append]; omega), rfl, q _ I.fresh⟩
theorem Gd {op : Operator} {x y z : D} {k j l : Nat} {o : List Prop} (h : kG op x y k j = .ok (z, l) o) (hp : aJ o) : AM X (binaryOp op) x y z k j l := by
  unfold kG at h
  split at h
  . exact CB h hp
  . rename_i a b
    split at h
    . rename_i c
      cases rR c
      cases h
      cases a with
      | nil =>
        refine ⟨_, yt, fun ow H0 H2 v u Q o s rx ry q => ?_⟩
        rw [ah] at rx ry
        obtain ⟨pa, va, rfl, ha, ra⟩ := rx
        obtain ⟨pb, vb, rfl, hb, rb⟩ := ry
        have rb' := rb.imp (Kp.joinR o k j)
        cases ra
        refine ⟨pa, pb, vb, rfl, rfl, ha, hb, q _ _ (aF.refl _) (ah.kn ?_)⟩
        rw [ah]
        exact ⟨pb, vb, rfl, hb, rb'⟩
      | cons a0 a =>
        refine ⟨_, BG, fun ow H0 H2 v u Q o s rx ry q => ?_⟩
        rw [ah] at rx ry
        obtain ⟨pa, va, rfl, ha, ra⟩ := rx
        obtain ⟨pb, vb, rfl, hb, rb⟩ := ry
        have ra' := ra.imp (Kp.joinL o k j)
        have rb' := rb.imp (Kp.joinR o k j)
        have la := ra.length
        have lb := rb.length
        refine ⟨pa, pb, va, vb, rfl, rfl, ha, hb, ?_, ?_, fun e => ?_, fun e p hp' => ?_⟩
        . intro e; subst e; cases la
        . rw [<- la, <- lb]; exact Nat.le_trans hp.1 g8
        . subst e
          have : b = [] := List.length_eq_zero_iff.mp lb
          subst this
          refine q _ _ (aF.refl _) (ah.kn ?_)
          rw [ah]
          exact ⟨pa, va, rfl, ha, by rw [List.append_nil]; exact ra'⟩
        . have sm := cD (o := HO.tup (va ++ vb)) hp'
          refine q _ _ sm (ah.kn ?_)
          rw [ah]
          exact ⟨p, _, rfl, cu.of aU, (ra'.same sm).append (rb'.same sm)⟩
    . cases h
  . rename_i a b
    split at h
    . rename_i c; cases h
      cases rR c
      refine ⟨_, BH, fun ow H0 H2 v u Q o s rx ry q => ?_⟩
      rw [ah] at rx ry
      obtain ⟨pa, va, b1, rfl, ha, qa, ra⟩ := rx
      obtain ⟨pb, vb, b2, rfl, hb, qb, rb⟩ := ry
      have la := ra.length
      have lb := rb.length
      have fl := hp.1
      rw [jE, Bool.and_eq_true] at fl
      refine ⟨pa, pb, va, vb, rfl, rfl, ha.sq, hb.sq, by rw [<- la, <- lb]; exact Nat.le_trans hp.2.1 g8, fun p hp' => ?_⟩
      have sm := cD (o := HO.lst (va ++ vb)) hp'
      refine q _ _ sm ?_
      rw [ah]
      exact ⟨p, _, true, rfl, aU, ⟨rfl, s.free hp'⟩, ((ra.flat _ fl.1).same sm).append ((rb.flat _ fl.2).same sm)⟩
    . cases h
  . cases h
theorem yD {pins : List (Addr × Obj)} {σ : L2.St} {H : Hp} {s : Shared} {P : bx} {l : List D} {v : V} (h : ah X.K H P (.lst l) v) : ∃ a vs, v = .ref a /\ cv X.K H a vs /\ ag X.K H P l vs := by
  rw [ah] at h
  obtain ⟨a, vs, b, rfl, h, _, q⟩ := h
  exact ⟨a, vs, rfl, h.sq, q⟩
theorem pV : ∀ {l : List D} {ns : List Int}, dU l = some ns -> l = ns.map D.int
  | [], ns, h => by rw [dU] at h; cases h; rfl
  | .int i :: l, ns, h => by
    rw [dU] at h
    cases e : dU l with
    | none => rw [e] at h; cases h
    | some m => rw [e] at h; cases h; rw [pV e]; rfl
  | .non :: l, ns, h => by rw [dU] at h <;> first | cases h | (intro z; intro e; cases e)
  | .bl _ :: l, ns, h => by rw [dU] at h <;> first | cases h | (intro z; intro e; cases e)
  | .str _ :: l, ns, h => by rw [dU] at h <;> first | cases h | (intro z; intro e; cases e)
  | .dct _ _ :: l, ns, h => by rw [dU] at h <;> first | cases h | (intro z; intro e; cases e)
  | .typ _ :: l, ns, h => by cases h
  | .sn _ :: l, ns, h => by cases h
  | .obj _ _ _ :: l, ns, h => by cases h
  | .cls _ :: l, ns, h => by cases h
  | .tup _ :: l, ns, h => by rw [dU] at h <;> first | cases h | (intro z; intro e; cases e)
  | .lst _ :: l, ns, h => by rw [dU] at h <;> first | cases h | (intro z; intro e; cases e)
theorem oy : ∀ {l : List D} {ns : List Bool}, dg l = some ns -> l = ns.map D.bl
  | [], ns, h => by rw [dg] at h; cases h; rfl
  | .bl i :: l, ns, h => by
    rw [dg] at h
    cases e : dg l with
    | none => rw [e] at h; cases h
    | some m => rw [e] at h; cases h; rw [oy e]; rfl
  | .non :: l, ns, h => by rw [dg] at h <;> first | cases h | (intro z; intro e; cases e)
  | .int _ :: l, ns, h => by rw [dg] at h <;> first | cases h | (intro z; intro e; cases e)
  | .str _ :: l, ns, h => by rw [dg] at h <;> first | cases h | (intro z; intro e; cases e)
  | .dct _ _ :: l, ns, h => by rw [dg] at h <;> first | cases h | (intro z; intro e; cases e)
  | .typ _ :: l, ns, h => by cases h
  | .sn _ :: l, ns, h => by cases h
  | .obj _ _ _ :: l, ns, h => by cases h
  | .cls _ :: l, ns, h => by cases h
  | .tup _ :: l, ns, h => by rw [dg] at h <;> first | cases h | (intro z; intro e; cases e)
  | .lst _ :: l, ns, h => by rw [dg] at h <;> first | cases h | (intro z; intro e; cases e)
def iS (X : Cx) (op : CmpOp) (x y : D) (r : Bool) : Prop := ∀ (P P' : bx), cS X (compareOp op) (fun v u H Q => ah X.K H P x v /\ ah X.K H P' y u /\ Q (.bl r) H)
theorem kH {x : D} : ∀ {l : List D}, ((cF l).any fun y => PyData.eqv y x.py) = l.any fun y => cA y x
  | [] => by rw [cF]; rfl
  | y :: l => by rw [cF, List.any_cons, List.any_cons, kH]; rfl
theorem lU {op : CmpOp} {a b : Int} {g : Int -> Int -> Bool} (h : cS X (compareOp op) (jD fun i j => .bl (g i j))) : iS X op (.int a) (.int b) (g a b) := fun P P' pins s σ H v u xv yu Q I rx ry ⟨h1, h2, q⟩ => by
  rw [ah] at h1 h2; subst h1 h2
  exact h pins s σ H _ _ xv yu Q I rx ry ⟨a, b, rfl, rfl, q⟩
theorem BV {l : List D} (h : SeqAt.shaped (D.tup l).py = true) : PyData.canLayAll0 (cF l) = true := by
  have := SeqAt.canLay_of_shaped h
  rw [D.py] at this
  simpa [PyData.canLay0] using this
theorem ue {x : D} {l : List D} {r : Bool} {o : List Prop} (hu : X.A.units + 70 < cLine) (h : vc x l = .ok r o) (hp : aJ o) : iS X .In x (.tup l) r /\ iS X .In x (.lst l) r /\ iS X .NotIn x (.tup l) (!r) /\ iS X .NotIn x (.lst l) (!r) := by
  unfold vc at h
  cases h
  . have c := hp.1
    unfold ib at c
    rw [Bool.and_eq_true] at c
    have c1 := BV c.1
    have c2 := SeqAt.canLay_of_shaped c.2
    have dx := SeqAt.depth_of_shaped c.2
    have hm : min (PyData.depthAll (cF l)) x.py.depth <= 64 := Nat.le_trans (Nat.min_le_right _ _) dx
    have ct : (D.tup l).py.canLay0 = true := SeqAt.canLay_of_shaped c.1
    have cl : (D.lst l).py.canLay0 = true := by rw [D.py]; simpa [PyData.canLay0] using c1
    have et : (D.tup l).py = .tuple (cF l) := by rw [D.py]
    have el : (D.lst l).py = .list (cF l) := by rw [D.py]
    refine ⟨?_, ?_, ?_, ?_⟩ <;> intro P P' pins s σ H v u xv yu Q I rx ry ⟨h1, h2, q⟩ <;> obtain ⟨as, r1⟩ := du I c2 h1 rx
    . obtain ⟨bs, r2⟩ := du I ct h2 ry
      rw [et] at r2
      exact SeqAt.in_tuple_reads r2 r1 c1 c2 (by omega) ⟨.bl _, H, I, rfl, by rw [kH]; exact q⟩
    . obtain ⟨bs, r2⟩ := du I cl h2 ry
      rw [el] at r2
      exact SeqAt.in_list_reads r2 r1 c1 c2 (by omega) ⟨.bl _, H, I, rfl, by rw [kH]; exact q⟩
    . obtain ⟨bs, r2⟩ := du I ct h2 ry
      rw [et] at r2
      exact SeqAt.notIn_tuple_reads r2 r1 c1 c2 (by omega) ⟨.bl _, H, I, rfl, by rw [kH]; exact q⟩
    . obtain ⟨bs, r2⟩ := du I cl h2 ry
      rw [el] at r2
      exact SeqAt.notIn_list_reads r2 r1 c1 c2 (by omega) ⟨.bl _, H, I, rfl, by rw [kH]; exact q⟩
theorem Ei {r : Rs Bool} {b : Bool} {o : List Prop} (h : r.nt = .ok b o) : r = .ok (!b) o := by
  cases r with
  | st => cases h
  | ok c l => cases h; simp
theorem t9 {P : bx} {H : Hp} {x : D} {v : V} (h : ah X.K H P x v) : decide (v = .non) = x.isNon := by
  cases x with
  | non => rw [ah] at h; subst h; rfl
  | bl _ => rw [ah] at h; subst h; rfl
  | int _ => rw [ah] at h; subst h; rfl
  | str _ => rw [ah] at h; subst h; rfl
  | dct _ _ => rw [ah] at h; obtain ⟨_, _, a, _, rfl, _⟩ := h; rfl
  | typ _ => rw [ah] at h; subst h; rfl
  | sn _ => rw [ah] at h; obtain ⟨a, _, rfl, _⟩ := h; rfl
  | obj _ _ _ => rw [ah] at h; obtain ⟨_, _, a, _, _, _, rfl, _⟩ := h; rfl
  | cls _ => rw [ah] at h; obtain ⟨_, _, rfl, _⟩ := h; rfl
  | tup _ => rw [ah] at h; obtain ⟨a, _, rfl, _⟩ := h; rfl
  | lst _ => rw [ah] at h; obtain ⟨a, _, _, rfl, _⟩ := h; rfl
theorem eZ {d : D} {l : List D} (h : eG d = some l) : d = .tup l \/ d = .lst l := by
  unfold eG at h
  split at h
  . cases h; exact .inl rfl
  . cases h; exact .inr rfl
  . cases h
theorem Cy {op : CmpOp} {a b : Int} {r : Bool} (h : fN op a b = some r) : iS X op (.int a) (.int b) r := by
  unfold fN at h
  split at h
  . cases h; exact lU Hk
  . cases h; exact lU Hl
  . cases h; exact lU Hm
  . cases h; exact lU Hn
  . cases h
theorem D7 {op : CmpOp} {x y : D} {r : Bool} (hu : X.A.units + 70 < cLine) (h : uX op x y = some r) : iS X op x y r := by
  unfold uX at h
  split at h
  . exact Cy h
  . cases h
theorem AI (b c : Bool) : (Value.bool b == Value.bool c) = (b == c) := by cases b <;> cases c <;> rfl
theorem mV {P : bx} {H : Hp} {d : D} {k : bY} {v : V} (e : mW d = some k) (h : ah X.K H P d v) : v = kV k := by
  cases d <;> first | (cases e; done) | (rw [ah] at h; subst h; injection e with e; subst e; rfl)
theorem tK {ks : List bY} {k : bY} : ∀ {vs : List V}, ks.length = vs.length -> ((ks.zip vs).any fun p => decide (p.1 = k)) = e8 ks k := by
  induction ks with
  | nil => intro vs _; rfl
  | cons j ks ih =>
    intro vs h
    cases vs with
    | nil => cases h
    | cons v vs =>
      show (decide (j = k) || (ks.zip vs).any _) = (decide (j = k) || e8 ks k)
      rw [ih (by simpa using h)]
theorem At {x y : D} {r : Bool} {o : List Prop} (hu : X.A.units + 70 < cLine) (h : Au x y = .ok r o) (hp : aJ o) : iS X .In x y r /\ iS X .NotIn x y (!r) := by
  unfold Au at h
  split at h
  . have m := ue hu h hp; exact ⟨m.1, m.2.2.1⟩
  . have m := ue hu h hp; exact ⟨m.2.1, m.2.2.2⟩
  . rename_i ks ds
    split at h
    . rename_i k e
      cases h
      have key : ∀ {P P' : bx} {pins : List (Addr × Obj)} {s : Shared} {σ : L2.St} {H : Hp} {v u : V} {xv yu : Value}, ak X pins σ H s -> aW v xv -> aW u yu -> ah X.K H P x v -> ah X.K H P' (.dct ks ds) u -> ∃ a vs, yu = .ref a /\ (fK X.prog X.w).is k xv = true /\ (a == sysModules) = false /\ s.heap.DictOf (fK X.prog X.w) a vs /\ (valueAt vs k).isSome = e8 ks k := fun {P P' pins s σ H v u xv yu} I rx ry h1 h2 => by
        have hk := mV e h1
        subst hk
        rw [ah] at h2
        obtain ⟨_, e0, a, vs, rfl, ha, _, rl⟩ := h2
        obtain ⟨z, hd, ws, rel, dd⟩ := (show cg X.prog X.w H s.heap a (.dK (ks.zip vs)) from I.hok a _ ha)
        refine ⟨a, ws, ry, vk rx, hd, dd, ?_⟩
        rw [<- (rel.val k).isSome_eq, <- qI, tK (e0.trans rl.length)]
      refine ⟨?_, ?_⟩ <;> intro P P' pins s σ H v u xv yu Q I rx ry ⟨h1, h2, q⟩ <;> obtain ⟨a, vs, rfl, kk, hd, dd, ev⟩ := key I rx ry h1 h2
      . refine wpAny_in_of kk hd dd.mapOf ?_
        rw [ev]
        exact ⟨.bl _, H, I.tok _, rfl, q⟩
      . refine wpAny_notIn_of kk hd dd.mapOf ?_
        rw [ev]
        exact ⟨.bl _, H, I.tok _, rfl, q⟩
    . cases h
  . cases h
theorem i9 {op : CmpOp} {x y : D} {r : Bool} {o : List Prop} (hu : X.A.units + 70 < cLine) (h : gz op x y = .ok r o) (hp : aJ o) : iS X op x y r := by
  unfold gz at h
  split at h
  . cases h
    have c := hp.1
    unfold ib at c
    rw [Bool.and_eq_true] at c
    intro P P' pins s σ H v u xv yu Q I rx ry ⟨h1, h2, q⟩
    obtain ⟨as, r1⟩ := du I (SeqAt.canLay_of_shaped c.1) h1 rx
    obtain ⟨bs, r2⟩ := du I (SeqAt.canLay_of_shaped c.2) h2 ry
    exact eq_dataH r1 r2 c.1 c.2 (by omega) ⟨.bl _, H, I, rfl, q⟩
  . cases h
    have c := hp.1
    unfold ib at c
    rw [Bool.and_eq_true] at c
    intro P P' pins s σ H v u xv yu Q I rx ry ⟨h1, h2, q⟩
    obtain ⟨as, r1⟩ := du I (SeqAt.canLay_of_shaped c.1) h1 rx
    obtain ⟨bs, r2⟩ := du I (SeqAt.canLay_of_shaped c.2) h2 ry
    exact ne_dataH r1 r2 c.1 c.2 (by omega) ⟨.bl _, H, I, rfl, q⟩
  . exact (At hu h hp).1
  . have := (At hu (Ei h) hp).2; rw [Bool.not_not] at this; exact this
  . split at h
    . cases h
      intro P P' pins s σ H v u xv yu Q I rx ry ⟨h1, h2, q⟩
      rw [ah] at h2
      subst h2
      exact Ec pins s σ H v _ xv yu Q I rx ry ⟨rfl, by rw [t9 h1]; exact q⟩
    . split at h
      . cases h
        intro P P' pins s σ H v u xv yu Q I rx ry ⟨h1, h2, q⟩
        rw [ah] at h1 h2
        subst h1 h2
        cases rx
        cases ry
        exact wpAny_is_plain rfl ⟨.bl _, H, I, rfl, by rw [AI]; exact q⟩
      . cases h
    . cases h
  . split at h
    . cases h
      intro P P' pins s σ H v u xv yu Q I rx ry ⟨h1, h2, q⟩
      rw [ah] at h2
      subst h2
      refine BD pins s σ H v _ xv yu Q I rx ry ⟨rfl, ?_⟩
      rw [t9 h1]
      exact q
    . split at h
      . cases h
        intro P P' pins s σ H v u xv yu Q I rx ry ⟨h1, h2, q⟩
        rw [ah] at h1 h2
        subst h1 h2
        cases rx
        cases ry
        exact wpAny_isNot_plain rfl ⟨.bl _, H, I, rfl, by rw [AI]; exact q⟩
      . cases h
    . cases h
  . cases e : uX op x y with
    | none => rw [e] at h; cases h
    | some b => rw [e] at h; cases h; exact D7 hu e
end Sp
namespace Sp
open PySem PySem.Spec PyProof.Rows L2
variable {X : Cx}
theorem uj (K : W.Frag) {t : Value} : W.kitOne K t t = some true := by unfold W.kitOne; rw [if_pos (beq_self_eq_true t)]
def D.ty : D -> String
  | .non => "NoneType"
  | .bl _ => "bool"
  | .int _ => "int"
  | .str _ => "str"
  | .dct _ _ => "dict"
  | .tup _ => "tuple"
  | .lst _ => "list"
  | .typ _ => "type"
  | .sn _ => "set"
  | .obj _ _ _ => "object"
  | .cls _ => "type"
def D.plain : D -> Bool
  | .typ _ => false
  | .sn _ => false
  | .obj _ _ _ => false
  | .cls _ => false
  | _ => true
theorem EB {x : D} {c : String} {b : Bool} (hpl : x.plain = true) (e : ∀ K, W.kitOne K (.type x.ty) (.type c) = some b) {pins : List (Addr × Obj)} {σ : L2.St} {H : Hp} {s : Shared} {v : V} {u : Value} {P : bx} {Q : Value -> Shared -> Prop} {E : Value -> Shared -> Prop}
    (I : ak X pins σ H s) (h : ah X.K H P x v) (r : aW v u) (q : ∀ tk, Q (.bool b) { s with toks := tk }) : wpAny (model X.prog X.w) X.A (call (.builtin "isinstance") [u, .type c]) Q E s := by
  have e := e X.K
  cases x with
  | non => rw [ah] at h; subst h; cases (show u = Value.none from r); exact W.kia_one W.kitx_none I.kIn True.intro e (fun z => nomatch z) q
  | bl y => rw [ah] at h; subst h; cases (show u = Value.bool y from r); exact W.kia_one W.kitx_bool I.kIn True.intro e (fun z => nomatch z) q
  | int i => rw [ah] at h; subst h; obtain ⟨t, z⟩ := (show ∃ t, u = Value.int i t from r); cases z; exact W.kia_one W.kitx_int I.kIn True.intro e (fun z => nomatch z) q
  | str y => rw [ah] at h; subst h; obtain ⟨t, z⟩ := (show ∃ t, u = Value.str y t from r); cases z; exact W.kia_one W.kitx_str I.kIn True.intro e (fun z => nomatch z) q
  | dct ks ds =>
    rw [ah] at h
    obtain ⟨_, _, a, vs, rfl, ea, _⟩ := h
    cases (show u = Value.ref a from r)
    obtain ⟨_, _, vs, _, p⟩ := (show cg X.prog X.w H s.heap a (.dK _) from I.hok a _ ea)
    obtain ⟨o, es, ep, h1, h2, _⟩ := p
    exact W.kia_one W.kitx_dict I.kIn ⟨o, h1, h2.1⟩ e (fun z => nomatch z) q
  | typ _ => cases hpl
  | sn _ => cases hpl
  | obj _ _ _ => cases hpl
  | cls _ => cases hpl
  | tup l =>
    rw [ah] at h
    obtain ⟨a, vs, rfl, ea, _⟩ := h
    cases (show u = Value.ref a from r)
    obtain ⟨_, _, ⟨o, h1, h2, _⟩, _⟩ := I.tuple ea
    exact W.kia_one W.kitx_tuple I.kIn ⟨o, h1, h2⟩ e (fun z => nomatch z) q
  | lst l =>
    obtain ⟨a, vs, rfl, ea, _⟩ := yD (pins := pins) (σ := σ) (s := s) h
    cases (show u = Value.ref a from r)
    obtain ⟨_, _, ⟨o, n, h1, h2, _⟩, _⟩ := I.list ea
    exact W.kia_one W.kitx_list I.kIn ⟨o, h1, h2⟩ e (fun z => nomatch z) q
theorem kt (K : W.Frag) (a b : String) (r : Bool) (h : (a == b) = false) (h2 : W.kitCls K (.type a) (.type b) = some r) : W.kitOne K (.type a) (.type b) = some r := by
  unfold W.kitOne
  rw [if_neg (by
    intro z
    have : a = b := by simpa using z
    subst this
    simp at h)]
  exact h2
theorem BY : ∀ a ∈ ["NoneType", "bool", "int", "str", "dict", "tuple", "list"], ∀ T ∈ lh, (a == T) = false -> ∀ K, W.kitCls K (.type a) (.type T) = some (decide (a = "bool" /\ T = "int")) := by
  intro a ha T hT
  simp only [List.mem_cons, List.not_mem_nil, or_false, lh] at ha hT
  rcases ha with rfl | rfl | rfl | rfl | rfl | rfl | rfl <;> rcases hT with rfl | rfl | rfl | rfl | rfl | rfl <;> intro h K <;> first | (exact absurd h (by decide)) | kernel_rfl
theorem EC {x : D} {T : String} {b : Bool} (h : EE x T = some b) (hT : T ∈ lh) : x.plain = true /\ ∀ K, W.kitOne K (.type x.ty) (.type T) = some b := by
  have key : ∀ (a : String), a ∈ ["NoneType", "bool", "int", "str", "dict", "tuple", "list"] -> ∀ K, W.kitOne K (.type a) (.type T) = some (decide (a = T) || decide (a = "bool" /\ T = "int")) := fun a ha K => by
    by_cases e : a = T
    . subst e; rw [uj]; simp
    . have e' : (a == T) = false := by simpa using e
      rw [kt K a T _ e' (BY a ha T hT e' K)]; simp [e]
  unfold EE at h
  cases hx : x.ty0 with
  | none => rw [hx] at h; cases h
  | some a =>
    rw [hx] at h
    cases h
    have hp : x.plain = true /\ x.ty = a /\ a ∈ ["NoneType", "bool", "int", "str", "dict", "tuple", "list"] := by
      cases x <;> cases hx <;> exact ⟨rfl, rfl, by decide⟩
    refine ⟨hp.1, fun K => ?_⟩
    rw [hp.2.1]
    exact key a hp.2.2 K
def gO (X : Cx) (f : Value) (ds : List D) (z : D) (l : Nat) : Prop :=
  ∃ r : List V -> Hp -> VK -> Prop, eh X f r /\ ∀ ow H0 H2 vs (P : bx) (Q : VK), eQ ow H0 -> aF H0 H2 -> ag X.K H2 P ds vs -> (∀ w H', aF H2 H' -> ah X.K H' (Kp ow H0 l) z w -> Q w H') -> r vs H2 Q
theorem ag.only {K : W.Frag} {P : bx} {H : Hp} {d : D} {vs : List V} (h : ag K H P [d] vs) : ∃ v, vs = [v] /\ ah K H P d v := by
  rw [ag] at h
  obtain ⟨v, r, rfl, h1, h2⟩ := h
  rw [ag] at h2; subst h2
  exact ⟨v, rfl, h1⟩
theorem im {P : bx} {H : Hp} {l : List D} {v : V} (h : ah X.K H P (.lst l) v) : ∃ a vs, v = .ref a /\ cv X.K H a vs /\ ag X.K H P l vs := by
  rw [ah] at h
  obtain ⟨a, vs, b, rfl, h, _, q⟩ := h
  exact ⟨a, vs, rfl, h.sq, q⟩
theorem eS {P : bx} {H : Hp} {l : List D} {v : V} (h : ah X.K H P (.tup l) v) : ∃ a vs, v = .ref a /\ cu X.K H a vs /\ ag X.K H P l vs := by
  rw [ah] at h; exact h
theorem wI {l : List D} : gO X (.builtin "len") [.tup l] (.int l.length) 0 /\ gO X (.builtin "len") [.lst l] (.int l.length) 0 := by
  constructor
  . refine ⟨_, kF, fun ow H0 H2 vs P Q o s rx q => ?_⟩
    obtain ⟨v, rfl, ry⟩ := rx.only
    obtain ⟨a, ws, rfl, hs, rl⟩ := eS ry
    exact ⟨a, ws, rfl, .inr hs, by rw [<- rl.length]; exact q _ _ (aF.refl _) (by rw [ah])⟩
  . refine ⟨_, kF, fun ow H0 H2 vs P Q o s rx q => ?_⟩
    obtain ⟨v, rfl, ry⟩ := rx.only
    obtain ⟨a, ws, rfl, hs, rl⟩ := im ry
    exact ⟨a, ws, rfl, .inl hs, by rw [<- rl.length]; exact q _ _ (aF.refl _) (by rw [ah])⟩
theorem qK {l : List D} (f : am l = true) : gO X (.type "tuple") [.lst l] (.tup l) 0 /\ gO X (.type "tuple") [.tup l] (.tup l) 0 := by
  constructor
  . refine ⟨_, jF, fun ow H0 H2 vs P Q o s rx q => ?_⟩
    obtain ⟨v, rfl, ry⟩ := rx.only
    obtain ⟨a, ws, rfl, hs, rl⟩ := im ry
    refine ⟨a, ws, rfl, .inl ⟨hs, fun p hp => ?_⟩⟩
    have sm := cD (o := HO.tup ws) hp
    refine q _ _ sm ?_
    rw [ah]
    exact ⟨p, ws, rfl, cu.of aU, (rl.flat _ f).same sm⟩
  . refine ⟨_, jF, fun ow H0 H2 vs P Q o s rx q => ?_⟩
    obtain ⟨v, rfl, ry⟩ := rx.only
    obtain ⟨a, ws, rfl, hs, rl⟩ := eS ry
    refine ⟨a, ws, rfl, .inr ⟨hs, q _ _ (aF.refl _) ?_⟩⟩
    rw [ah]
    exact ⟨a, ws, rfl, hs, rl.flat _ f⟩
theorem ui {l : List D} (f : am l = true) : gO X (.type "list") [.lst l] (.lst l) 0 /\ gO X (.type "list") [.tup l] (.lst l) 0 := by
  constructor
  . refine ⟨_, kE, fun ow H0 H2 vs P Q o s rx q => ?_⟩
    obtain ⟨v, rfl, ry⟩ := rx.only
    obtain ⟨a, ws, rfl, hs, rl⟩ := im ry
    refine ⟨a, ws, rfl, .inl hs, fun p hp => ?_⟩
    have sm := cD (o := HO.lst ws) hp
    refine q _ _ sm ?_
    rw [ah]
    exact ⟨p, ws, true, rfl, aU, ⟨rfl, s.free hp⟩, (rl.flat _ f).same sm⟩
  . refine ⟨_, kE, fun ow H0 H2 vs P Q o s rx q => ?_⟩
    obtain ⟨v, rfl, ry⟩ := rx.only
    obtain ⟨a, ws, rfl, hs, rl⟩ := eS ry
    refine ⟨a, ws, rfl, .inr hs, fun p hp => ?_⟩
    have sm := cD (o := HO.lst ws) hp
    refine q _ _ sm ?_
    rw [ah]
    exact ⟨p, ws, true, rfl, aU, ⟨rfl, s.free hp⟩, (rl.flat _ f).same sm⟩
theorem Gk {i : Int} : gO X (.builtin "abs") [.int i] (.int (if i < 0 then -i else i)) 0 := by
  refine ⟨_, zd, fun ow H0 H2 vs P Q o s rx q => ?_⟩
  obtain ⟨v, rfl, ry⟩ := rx.only
  rw [ah] at ry; subst ry
  exact ⟨i, rfl, q _ _ (aF.refl _) (by rw [ah])⟩
theorem ag.mapBl {K : W.Frag} {P : bx} {H : Hp} : ∀ {ns : List Bool} {vs : List V}, ag K H P (ns.map D.bl) vs -> vs = ns.map V.bl
  | [], vs, h => by rw [List.map_nil, ag] at h; exact h
  | n :: ns, vs, h => by
    rw [List.map_cons, ag] at h
    obtain ⟨v, r, rfl, h1, h2⟩ := h
    rw [ah] at h1
    rw [h1, ag.mapBl h2]; rfl
theorem tL : ∀ {bs : List Bool} {us : List Value}, aL (bs.map V.bl) us -> us = bs.map Value.bool
  | [], us, h => by cases h; rfl
  | b :: bs, us, h => by
    cases h with
    | cons h1 h2 => rw [show _ = Value.bool b from h1, tL h2]; rfl
theorem qH : ∀ {ns : List Int} {us : List Value}, aL (ns.map V.int) us -> (∀ v, v ∈ us -> ∃ a t, v = Value.int a t) /\ numsOf us = ns
  | [], us, h => by cases h; exact ⟨fun _ h => (by cases h), rfl⟩
  | n :: ns, us, h => by
    cases h with
    | cons h1 h2 =>
      obtain ⟨t, rfl⟩ := (show ∃ t, _ = Value.int n t from h1)
      obtain ⟨i1, i2⟩ := qH h2
      refine ⟨fun v hv => ?_, by simp only [numsOf]; rw [i2]⟩
      rcases List.mem_cons.mp hv with rfl | hv
      . exact ⟨_, _, rfl⟩
      . exact i1 v hv
theorem xk (hc : X.calm = true) : eh X (.builtin "sum") (fun xs H Q => ∃ (p : Addr) (ns : List Int), xs = [.ref p] /\ cv X.K H p (ns.map V.int) /\ Q (.int ns.sum) H) := by
  intro pins s σ H xs us Q I r h
  obtain ⟨p, ns, rfl, hq, q⟩ := h
  obtain ⟨u, rfl, rx⟩ := eB r
  cases rx
  obtain ⟨its, rv, pl, hz⟩ := I.list hq
  obtain ⟨hall, hnum⟩ := qH rv
  obtain ⟨xs, e⟩ := AllInts.items (vs := its.toArray) (fun v hv => hall v (by simpa using hv))
  have hl := pl.isList
  rw [e] at hl
  refine sum_intListG (I.ok.hd hc) hl fun h' tk t' hk => ?_
  refine ⟨.int ns.sum, H, I.kept hk, ⟨t', ?_⟩, q⟩
  congr 1
  rw [preSum_eq, List.take_of_length_le (by simp), <- nums_intItems, <- e]
  simp [hnum]
theorem xm (hc : X.calm = true) : eh X (.builtin "all") (fun xs H Q => ∃ (p : Addr) (bs : List Bool), xs = [.ref p] /\ cv X.K H p (bs.map V.bl) /\ Q (.bl (bs.all id)) H) := by
  intro pins s σ H xs us Q I r h
  obtain ⟨p, bs, rfl, hq, q⟩ := h
  obtain ⟨u, rfl, rx⟩ := eB r
  cases rx
  obtain ⟨its, rv, pl, hz⟩ := I.list hq
  have ei := tL rv
  subst ei
  have hl := pl.isList
  have hlt : p < s.heap.objs.size := by obtain ⟨_, e, _⟩ := hl; exact Heap.lt_size e
  refine call_all_walk (wpAny_pyIter_list hl ?_)
  refine ⟨_, _, _, _, _, _, fun i => bs.getD i true, rfl, Walks.list (A := X.A.in1) (by exact I.ok.hd hc) _ p (Nat.ne_of_lt hlt) (bs.map Value.bool).toArray, ⟨⟨_, Heap.get?_push_size _ rfl, rfl, rfl⟩, hl.push _⟩, ?_, fun h' tk hk => ?_⟩
  . intro i v s' Q' E' hP hQ
    have hP : ((bs.map Value.bool).toArray)[i]? = some v := hP
    simp only [List.getElem?_toArray, List.getElem?_map] at hP
    cases e : bs[i]? with
    | none => rw [e] at hP; cases hP
    | some b =>
      rw [e] at hP; cases hP
      refine wpAny_truthy_bool ?_
      have : bs.getD i true = b := by rw [List.getD_eq_getElem?_getD, e]; rfl
      rw [<- this]; exact hQ
  . have : ((List.range (bs.map Value.bool).toArray.size).all fun i => bs.getD i true) = bs.all id := by
      simp only [List.size_toArray, List.length_map]
      rw [Bool.eq_iff_iff, List.all_eq_true, List.all_eq_true]
      constructor
      . intro h x hx
        obtain ⟨i, hi, rfl⟩ := List.mem_iff_getElem.mp hx
        have := h i (List.mem_range.mpr hi)
        rw [List.getD_eq_getElem?_getD, List.getElem?_eq_getElem hi] at this
        exact this
      . intro h i hi
        have hi := List.mem_range.mp hi
        rw [List.getD_eq_getElem?_getD, List.getElem?_eq_getElem hi]
        exact h _ (List.getElem_mem hi)
    rw [this]
    refine ⟨.bl _, H, I.kept (fun b o e => hk b o (fun hm => ?_) (Heap.get?_push_of_some _ e)), rfl, q⟩
    have hb : b = s.heap.objs.size := by simpa using hm
    subst hb
    exact absurd (Heap.lt_size e) (Nat.lt_irrefl _)
theorem xl : eh X (.builtin "len") (fun xs H Q => ∃ (p : Addr) (S : Int -> Bool) (n : Nat), xs = [.ref p] /\ H p = some (.set S n) /\ Q (.int n) H) := by
  intro pins s σ H xs us Q I r h
  obtain ⟨p, S, n, rfl, hp, q⟩ := h
  obtain ⟨u, rfl, rx⟩ := eB r
  cases rx
  obtain ⟨o, es, ep, t, h1, h2, h3, _, _, h4, h5, rfl⟩ := (show s.heap.SetOf (intKind X.prog X.w) p S n from I.hok p _ hp)
  exact call_len_set h1 h2 h3 h5 (by unfold scanBound at h4; omega) ⟨.int _, H, I.tok _, ⟨_, rfl⟩, q⟩
def eY (f : Str) (B : List D -> R1) : Prop := f ∈ ii /\ f ≠ "__name__" /\ (f == ("__debug__" : Str)) = false /\ (B [] = .st) /\ ∀ (X : Cx) (ds : List D) (z : D) (l : Nat) (o : List Prop), X.calm = true -> B ds = .ok (z, l) o -> aJ o ->
  ((∃ id, bootBuiltins f = some (.builtin id) /\ gO X (.builtin id) ds z l) \/ ∃ T, bootBuiltins f = some (.type T) /\ gO X (.type T) ds z l)
theorem CD : eY "len" zm := by
  refine ⟨by decide +kernel, by decide +kernel, by decide +kernel, rfl, fun X ds z l o hc h _ => .inl ⟨"len", by decide +kernel, ?_⟩⟩
  unfold zm at h
  split at h
  . cases h
    refine ⟨_, xl, fun ow H0 H2 vs P Q o s rx q => ?_⟩
    obtain ⟨v, rfl, ry⟩ := rx.only
    rw [ah] at ry
    obtain ⟨a, S, rfl, ha⟩ := ry
    exact ⟨a, S, _, rfl, ha, q _ _ (aF.refl _) (by rw [ah])⟩
  . split at h
    . rename_i m e
      cases h
      rcases eZ e with rfl | rfl
      . exact wI.1
      . exact wI.2
    . cases h
  . cases h
theorem xq : eY "tuple" sF := by
  refine ⟨by decide +kernel, by decide +kernel, by decide +kernel, rfl, fun X ds z l o hc h hp => .inr ⟨"tuple", by decide +kernel, ?_⟩⟩
  unfold sF at h
  split at h
  . split at h
    . rename_i m e
      cases h
      have c := hp.1
      rcases eZ e with rfl | rfl
      . exact (qK c).2
      . exact (qK c).1
    . cases h
  . cases h
theorem zj : eY "list" vB := by
  refine ⟨by decide +kernel, by decide +kernel, by decide +kernel, rfl, fun X ds z l o hc h hp => .inr ⟨"list", by decide +kernel, ?_⟩⟩
  unfold vB at h
  split at h
  . split at h
    . rename_i m e
      cases h
      have c := hp.1
      rcases eZ e with rfl | rfl
      . exact (ui c).2
      . exact (ui c).1
    . cases h
  . cases h
theorem CI : eY "abs" zr := by
  refine ⟨by decide +kernel, by decide +kernel, by decide +kernel, rfl, fun X ds z l o hc h _ => .inl ⟨"abs", by decide +kernel, ?_⟩⟩
  unfold zr at h
  split at h
  . cases h; exact Gk
  . cases h
theorem CH : eY "all" zq := by
  refine ⟨by decide +kernel, by decide +kernel, by decide +kernel, rfl, fun X ds z l o hc h _ => .inl ⟨"all", by decide +kernel, ?_⟩⟩
  unfold zq at h
  split at h
  . split at h
    . rename_i bs e
      cases h
      cases oy e
      refine ⟨_, xm hc, fun ow H0 H2 vs P Q o s rx q => ?_⟩
      obtain ⟨v, rfl, ry⟩ := rx.only
      obtain ⟨a, ws, rfl, hs, rl⟩ := im ry
      exact ⟨a, bs, rfl, by rw [<- rl.mapBl]; exact hs, q _ _ (aF.refl _) (by rw [ah])⟩
    . cases h
  . cases h
theorem CC : eY "sum" zi := by
  refine ⟨by decide +kernel, by decide +kernel, by decide +kernel, rfl, fun X ds z l o hc h _ => .inl ⟨"sum", by decide +kernel, ?_⟩⟩
  unfold zi at h
  split at h
  . split at h
    . rename_i bs e
      cases h
      cases pV e
      refine ⟨_, xk hc, fun ow H0 H2 vs P Q o s rx q => ?_⟩
      obtain ⟨v, rfl, ry⟩ := rx.only
      obtain ⟨a, ws, rfl, hs, rl⟩ := im ry
      exact ⟨a, bs, rfl, by rw [<- rl.mapInt]; exact hs, q _ _ (aF.refl _) (by rw [ah])⟩
    . cases h
  . cases h
theorem B2 (b : Bool) : (if b = true then (1 : Int) else 0) = cond b 1 0 := by cases b <;> rfl
theorem CG : eY "int" zp := by
  refine ⟨by decide +kernel, by decide +kernel, by decide +kernel, rfl, fun X ds z l o hc h hp => .inr ⟨"int", by decide +kernel, ?_⟩⟩
  unfold zp at h
  split at h
  . cases h
    refine ⟨_, pZ, fun ow H0 H2 vs P Q o s rx q => ?_⟩
    obtain ⟨v, rfl, ry⟩ := rx.only
    rw [ah] at ry; subst ry
    exact .inl ⟨_, rfl, q _ _ (aF.refl _) (by rw [ah])⟩
  . cases h
    refine ⟨_, pZ, fun ow H0 H2 vs P Q o s rx q => ?_⟩
    obtain ⟨v, rfl, ry⟩ := rx.only
    rw [ah] at ry; subst ry
    exact .inr ⟨_, rfl, q _ _ (aF.refl _) (by rw [ah, B2])⟩
  . cases h
theorem CF : eY "isinstance" zn := by
  refine ⟨by decide +kernel, by decide +kernel, by decide +kernel, rfl, fun X ds z l o hc h _ => .inl ⟨"isinstance", by decide +kernel, ?_⟩⟩
  unfold zn at h
  split at h
  . rename_i m ns es n
    split at h
    . rename_i hmn
      subst hmn
      cases h
      have cr : eh X (.builtin "isinstance") (fun xs H Q => ∃ a C dx fs, xs = [.ref a, .ref C] /\ H a = some (.ins C dx fs) /\ gK X.K C /\ qC X.K C /\ Q (.bl true) H) := by
        intro pins s σ H xs us Q I r hh
        obtain ⟨a, C, dx, fs, rfl, ea, hc, ho, q⟩ := hh
        obtain ⟨u, u2, rfl, ru, ru2⟩ := nl r
        cases (show u2 = Value.ref C from ru2)
        exact pS I ru (.ins ea hc ho.ha ho.hn ho.ht ho.hm) (uj _) fun tk => ⟨.bl true, H, I.tok tk, rfl, q⟩
      refine ⟨_, cr, fun ow H0 H2 vs P Q o s rx q => ?_⟩
      rw [ag] at rx
      obtain ⟨v, r, rfl, r1, r2⟩ := rx
      obtain ⟨w, rfl, r3⟩ := r2.only
      rw [ah] at r1
      rw [ah] at r3
      obtain ⟨_, _, a, C, dx, vs, rfl, h1, h2, h3, _⟩ := r1
      obtain ⟨C', o', rfl, h4, _, _, h5, _⟩ := r3
      rw [h1] at h4; cases h4
      exact ⟨a, C, dx, _, rfl, h3, h2, h5, q _ _ (aF.refl _) (by rw [ah])⟩
    . split at h
      . rename_i hmn
        cases h
        have cr : eh X (.builtin "isinstance") (fun xs H Q => ∃ a C C' dx fs, xs = [.ref a, .ref C'] /\ H a = some (.ins C dx fs) /\ gK X.K C /\ qC X.K C /\ W.kitOne X.K (.ref C) (.ref C') = some (qL m n) /\ Q (.bl (qL m n)) H) := by
          intro pins s σ H xs us Q I r hh
          obtain ⟨a, C, C', dx, fs, rfl, ea, hc, ho, hk, q⟩ := hh
          obtain ⟨u, u2, rfl, ru, ru2⟩ := nl r
          cases (show u2 = Value.ref C' from ru2)
          exact pS I ru (.ins ea hc ho.ha ho.hn ho.ht ho.hm) hk fun tk => ⟨.bl (qL m n), H, I.tok tk, rfl, q⟩
        refine ⟨_, cr, fun ow H0 H2 vs P Q o s rx q => ?_⟩
        rw [ag] at rx
        obtain ⟨v, r, rfl, r1, r2⟩ := rx
        obtain ⟨w, rfl, r3⟩ := r2.only
        rw [ah] at r1
        rw [ah] at r3
        obtain ⟨_, _, a, C, dx, vs, rfl, h1, h2, h3, _⟩ := r1
        obtain ⟨C', o', rfl, _, _, _, _, h5⟩ := r3
        obtain ⟨h6, h7⟩ := h5.all m hmn C h1
        exact ⟨a, C, C', dx, _, rfl, h3, h2, h6, h7, q _ _ (aF.refl _) (by rw [ah])⟩
      . cases h
  . rename_i x T
    split at h
    . rename_i hT
      split at h
      . rename_i b hb
        cases h
        obtain ⟨h1, h2⟩ := EC hb hT
        have cr : eh X (.builtin "isinstance") (fun xs H Q => ∃ v P, xs = [v, .ty T] /\ ah X.K H P x v /\ Q (.bl b) H) := by
          intro pins s σ H xs us Q I r hh
          obtain ⟨v, P, rfl, rp, q⟩ := hh
          obtain ⟨u, u2, rfl, ru, ru2⟩ := nl r
          cases (show u2 = Value.type T from ru2)
          exact EB h1 h2 I rp ru fun tk => ⟨.bl b, H, I.tok tk, rfl, q⟩
        refine ⟨_, cr, fun ow H0 H2 vs P Q o s rx q => ?_⟩
        rw [ag] at rx
        obtain ⟨v, r, rfl, r1, r2⟩ := rx
        obtain ⟨w, rfl, r3⟩ := r2.only
        rw [ah] at r3; subst r3
        exact ⟨v, P, rfl, r1, q _ _ (aF.refl _) (by rw [ah])⟩
      . cases h
    . cases h
  . cases h
end Sp
namespace Sp
open PySem PySem.Spec PyProof.Rows L2
def jV (K : W.Frag) (F : List D -> Rs D) : Sp := fun vs H Q _ => ∃ ds r l, ag K H (fun _ _ => True) ds vs /\ F ds = .ok r l /\ aJ l /\ ∀ v H', aF H H' -> ah K H' (fun a b => b = true /\ H a = none) r v -> Q v H'
def AU (X : Cx) (g : Str) (F : List D -> Rs D) : Prop := ∃ k f fd ps, cR X.prog X.w X.K X.mg X.base gk k f fd ps (jV X.K F) /\ cq k X.A /\ X.mg g = some (.ref f) /\ W.keepIn X.K (.ref f) = true /\ cW X.K fd ps [] /\ (g == ("__debug__" : Str)) = false
def Ig (K : W.Frag) (n : Str) (F : List D -> Rs D) : Sp := fun vs H Q _ => ∃ x ws C dx ds r l, vs = .ref x :: ws /\ H x = some (.ins C dx []) /\ W.nsIn K mainGlobals n = some (some (.ref C)) /\ gK K C /\ ag K H (fun _ _ => True) ds ws /\ F ds = .ok r l /\ aJ l /\ r.lless = true /\
  ∀ H', (∀ a o, a ≠ x -> H a = some o -> H' a = some o) -> ah K H' (fun _ _ => True) r (.ref x) -> Q .non H'
def Gz (X : Cx) (g : Str) (F : List D -> Rs D) : Prop := ∃ k C f fd ps, (∀ ds r l, F ds = .ok r l -> r.lless = true) /\ Mk X.K C f /\ cR X.prog X.w X.K X.mg X.base gk k f fd ps (Ig X.K g F) /\ cq (k + 1) X.A /\ X.mg g = some (.ref C) /\ W.nsIn X.K mainGlobals g = some (some (.ref C)) /\ gK X.K C /\ cW X.K fd ps [] /\ (g == ("__debug__" : Str)) = false
def Po (X : Cx) (g : Str) (F : List D -> Rs D) : Prop := AU X g F \/ Gz X g F
def GA (X : Cx) (n m : Str) (F : List D -> Rs D) : Prop := ∃ k C f fd ps, W.nsIn X.K mainGlobals n = some (some (.ref C)) /\ gK X.K C /\ sT X.K C m f /\ cR X.prog X.w X.K X.mg X.base gk k f fd ps (jV X.K F) /\ cq k X.A /\ cW X.K fd ps []
def jC (f : Str) (B : List D -> Nat -> R1) : Prop := f ∈ ii /\ ∀ (X : Cx) (ρ : aj) (p pos : Pos) (args : List Expr) (ds : List D) (k : Nat) (d : D) (j : Nat) (l : List D) (tg : Expr) (o : List Prop), X.calm = true -> Gl X f -> X.mg f = none -> AD X ρ args ds k ->
  (∀ e ∈ args, ∀ x p, e ≠ .Starred x p) -> args.length = ds.length -> B ds k = .ok (d, j) o -> aJ o -> items d = some l -> dZ (.Call (.Name f p) args [] pos) tg = true -> IE X ρ tg (.Call (.Name f p) args [] pos) l j
def vO (m : Str) (M : D -> List D -> R1) : Prop := ∀ (X : Cx) (ρ : aj) (a : Expr) (args : List Expr) (ap cp : Pos) (x : D) (k : Nat) (ds : List D) (j : Nat) (z : D) (l : Nat) (o : List Prop), X.calm = true -> X.A.units + 70 < cLine -> ED X ρ a x k -> AD X ρ args ds j ->
  (∀ e ∈ args, ∀ x p, e ≠ .Starred x p) -> args.length = ds.length -> (ap.endLine == cp.line) = true -> jc a = true -> M x ds = .ok (z, l) o -> aJ o -> ED X ρ (.Call (.Attribute a m ap) args [] cp) z l
def mi (m : Str) (M : List D -> List D -> Nat -> Rs (List D)) : Prop := ∀ X : Cx, X.calm = true -> ∃ (id : String) (r : V -> List V -> Hp -> VK -> Prop), Slot "list" m id /\ typeOf (.builtin id) = pure (.type "method_descriptor") /\ Gx X id r /\
  ∀ (ow : Ow) (H0 H : Hp) (l ds l' : List D) (j : Nat) (o : List Prop) (a : Addr) (vs ws : List V), M l ds j = .ok l' o -> aJ o -> ds.length < 29 /\ (∀ (P : bx) (Q : VK), (∀ b c, Kp ow H0 0 b c -> P b c) -> eQ ow H0 -> aF H0 H -> H a = some (.lst vs) -> ag X.K H P l vs -> ag X.K H (Kp ow H0 j) ds ws ->
    (∀ vs' w, ag X.K H P l' vs' -> Q w (bh H a (.lst vs'))) -> r (.ref a) ws H Q)
def Pw (X : Cx) (ow : Ow) (ρ : aj) (o : Option Int) : TO := fun σ H Q => bc X ow H σ ρ /\ ∀ H', aF H H' -> Q o H'
def OD (X : Cx) (ρ : aj) (e : Option Expr) (o : Option Int) : Prop := ∀ ow, PO X e (Pw X ow ρ o)
def qz (F : D -> Option Int -> Option Int -> R1) : Prop := ∀ (X : Cx) (ρ : aj) (a : Expr) (lo hi : Option Expr) (p2 pos : Pos) (x z : D) (l h : Option Int) (k j : Nat) (o : List Prop), ED X ρ a x k -> OD X ρ lo l -> OD X ρ hi h -> F x l h = .ok (z, j) o -> aJ o -> ED X ρ (.Subscript a (.Slice lo hi none p2) pos) z j
structure bg (Φ : Fx) (X : Cx) (sc : Scope) : Prop where
  calm : X.calm = true
  nd : X.N.Nodup
  gl : ∀ x, sc.names.lookup x = some .globalImplicit -> Gl X x
  kc : ∀ x, (sc.names.lookup x = some .cell \/ sc.names.lookup x = some .free) -> X.env.kindOf x = some .cell \/ X.env.kindOf x = some .free
  lc : ∀ x, sc.names.lookup x = some .local -> X.env.scope.names.lookup x = some .local
  cc : ∀ x, sc.names.lookup x = some .cell -> X.env.scope.names.lookup x = some .cell
  fn : ∀ g F, Φ.fn g = some F -> Po X g F
  con : ∀ x d, Φ.con x = some d -> ∃ v u, X.mg x = some u /\ aW v u /\ ∀ H P, ah X.K H P d v
  blt : ∀ f B, Φ.blt f = some B -> eY f B
  itr : ∀ f B, Φ.itr f = some B -> jC f B
  mth : ∀ m M, Φ.mth m = some M -> vO m M
  mtt : ∀ m M, Φ.mtt m = some M -> mi m M
  slf : qz Φ.slf
  fld : ∀ n f, Φ.fld n f = true -> ∀ C, W.nsIn X.K mainGlobals n = some (some (.ref C)) -> oM X.K C f
  omt : ∀ n m F, Φ.omt n m = some F -> GA X n m F
  bl : ∀ f ∈ ii, X.mg f = none
  room : X.A.units + 70 < cLine
  ns : ∀ x, d6 sc x = true -> x ∈ X.N
  ft : ∀ x, sc.names.lookup x = some .cell -> X.fn x = true
variable {X : Cx}
theorem en {x : Str} (h : gF x = true) : (x == ("__debug__" : Str)) = false /\ (x == ("__classdict__" : Str)) = false := by
  unfold gF at h
  rw [Bool.and_eq_true] at h
  exact ⟨of_decide_eq_true h.1, of_decide_eq_true h.2⟩
theorem Cp {ρ : aj} {x : Str} {pos : Pos} {d : D} {o : Bool} (h : ρ x = some (d, o)) (hx : gF x = true) : ED X ρ (.Name x pos) d (kn d (cond o 2 1)) := by
  refine ED.kn fun ow pins s σ H Q I ⟨E, q⟩ => ?_
  obtain ⟨i, v, e1, e2, e3, e4⟩ := E.get x d o h
  refine nK (i := i) e1 e2 (en hx).1 (en hx).2 pins s σ H Q I ⟨v, e3, q v H (aF.refl _) (e4.imp fun a b p => ?_)⟩
  cases o with
  | true => exact ⟨p.1, .inl (by rw [p.2]; exact (fun z => nomatch z))⟩
  | false => exact p
theorem Fo {Φ : Fx} {sc : Scope} {ρ : aj} {x : Str} {pos : Pos} {d : D} (G : bg Φ X sc) (h : Φ.con x = some d) (hg : sc.names.lookup x = some .globalImplicit) (hx : gF x = true) : ED X ρ (.Name x pos) d 0 := by
  obtain ⟨v, u, h1, h2, h3⟩ := G.con x d h
  exact fun ow => bO (By (G.gl x hg) h1 h2 (en hx).1) fun σ H Q ⟨E, q⟩ => q v H (aF.refl _) (h3 H _)
theorem A5 {x : Str} {T : String} (h : uI x = some T) : bootBuiltins x = some (.type T) /\ x ≠ "__name__" /\ (x == ("__debug__" : Str)) = false /\ x ∈ ii := by
  unfold uI at h
  split at h
  . rename_i e; subst e; cases h; exact ⟨by decide +kernel, by decide +kernel, by decide +kernel, by decide +kernel⟩
  split at h
  . rename_i e; subst e; cases h; exact ⟨by decide +kernel, by decide +kernel, by decide +kernel, by decide +kernel⟩
  split at h
  . rename_i e; subst e; cases h; exact ⟨by decide +kernel, by decide +kernel, by decide +kernel, by decide +kernel⟩
  split at h
  . rename_i e; subst e; cases h; exact ⟨by decide +kernel, by decide +kernel, by decide +kernel, by decide +kernel⟩
  split at h
  . rename_i e; subst e; cases h; exact ⟨by decide +kernel, by decide +kernel, by decide +kernel, by decide +kernel⟩
  . cases h
theorem Fh {Φ : Fx} {sc : Scope} {ρ : aj} {x : Str} {pos : Pos} {T : String} (G : bg Φ X sc) (h : uI x = some T) (hg : sc.names.lookup x = some .globalImplicit) : ED X ρ (.Name x pos) (.typ T) 0 := by
  obtain ⟨h1, h2, h3, h4⟩ := A5 h
  exact fun ow => bO (BA (v := .ty T) (G.gl x hg) (G.bl x h4) h1 rfl h2 h3) fun σ H Q ⟨E, q⟩ => q _ H (aF.refl _) (by rw [ah])
theorem Fm {ρ : aj} {c : Const} {n : Nat} {pos : Pos} {d : D} (h : AF c = some d) : ED X ρ (.Constant c n pos) d 0 := by
  intro ow
  unfold AF at h
  split at h
  . cases h; exact bO DW fun σ H Q ⟨E, q⟩ => q _ H (aF.refl _) (by rw [ah])
  . cases h; exact bO Hj fun σ H Q ⟨E, q⟩ => q _ H (aF.refl _) (by rw [ah])
  . cases h; exact bO DY fun σ H Q ⟨E, q⟩ => q _ H (aF.refl _) (by rw [ah])
  . cases h; exact bO DT fun σ H Q ⟨E, q⟩ => q _ H (aF.refl _) (by rw [ah])
  . cases h
theorem Fr {ρ : aj} {a b : Expr} {op : Operator} {pos : Pos} {x y z : D} {k j l : Nat} (ha : ED X ρ a x k) (hb : ED X ρ b y j) {o : List Prop} (h : kG op x y k j = .ok (z, l) o) (hp : aJ o) : ED X ρ (.BinOp a op b pos) z l := by
  obtain ⟨r, h1, h2⟩ := Gd (X := X) h hp
  refine fun ow => bO (Hh h1 (ha ow) (hb ow)) fun σ H Q ⟨E, q⟩ => ⟨E, fun v H1 s1 r1 => ⟨E.same s1, fun u H2 s2 r2 => ?_⟩⟩
  exact h2 ow H H2 v u Q E.own (s1.trans s2) (r1.same s2) (r2.imp (Kp.back s1 j)) fun w H' s3 r3 => q w H' ((s1.trans s2).trans s3) r3
theorem HQ {ρ : aj} {a : Expr} {op : UnaryOp} {pos : Pos} {x z : D} {k : Nat} (ha : ED X ρ a x k) (h : vR op x = some z) : ED X ρ (.UnaryOp op a pos) z 0 := by
  unfold vR at h
  split at h
  . cases h
    refine fun ow => bO (Hg CW (ha ow)) fun σ H Q ⟨E, q⟩ => ⟨E, fun v H1 s1 r1 => ?_⟩
    rw [ah] at r1; subst r1
    exact ⟨_, rfl, q _ H1 s1 (by rw [ah])⟩
  . cases h
    refine fun ow => bO (DV (ha ow)) fun σ H Q ⟨E, q⟩ => ⟨E, fun v H1 s1 r1 => ?_⟩
    rw [ah] at r1; subst r1
    exact ⟨_, rfl, q _ H1 s1 (by rw [ah])⟩
  . cases h
theorem Fp {ρ : aj} {a b : Expr} {op : CmpOp} {pos : Pos} {x y : D} {r : Bool} {k j : Nat} (hu : X.A.units + 70 < cLine) {o : List Prop} (ha : ED X ρ a x k) (hb : ED X ρ b y j) (h : gz op x y = .ok r o) (hp : aJ o) (hm : behindInMarks op b = false) : ED X ρ (.Compare a [op] [b] pos) (.bl r) 0 := by
  have c := i9 hu h hp
  intro ow pins s σ H Q I ⟨E, q⟩
  refine wpAny_Compare1 (Ii (ha ow) (hb ow) I (R := fun v u H2 => aF H H2 /\ ah X.K H2 (fun _ _ => True) x v /\ ah X.K H2 (fun _ _ => True) y u) ⟨E, fun v H1 s1 r1 => ⟨E.same s1, fun u H2 s2 r2 => ⟨s1.trans s2, (r1.imp fun _ _ _ => True.intro).same s2, r2.imp fun _ _ _ => True.intro⟩⟩⟩ fun v u s2 x y H2 I2 rx ry ⟨sm, r1, r2⟩ => ?_) hm
  exact c _ _ pins s2 σ H2 x y v u Q I2 rx ry ⟨r1, r2, q _ H2 sm (by rw [ah])⟩
theorem Cz {op op2 : CmpOp} {x y z : D} {r : D × Nat} {l : List Prop} (h : Fy op op2 x y z = .ok r l) : ∃ a b c r1 r2, x = .int a /\ y = .int b /\ z = .int c /\ fN op a b = some r1 /\ fN op2 b c = some r2 /\ r = (.bl (r1 && r2), 0) := by
  unfold Fy at h
  split at h
  . split at h
    . rename_i h1 h2; cases h; exact ⟨_, _, _, _, _, rfl, rfl, rfl, h1, h2, rfl⟩
    . cases h
  . cases h
theorem ou {op : CmpOp} {a b : Int} {r : Bool} (h : fN op a b = some r) : gz op (.int a) (.int b) = .ok r [] := by
  unfold fN at h
  split at h <;> first | (cases h; rfl) | cases h
theorem y0 {ρ : aj} {a b c : Expr} {op op2 : CmpOp} {pos : Pos} {x y z : Int} {r r2 : Bool} {k j i : Nat} (hu : X.A.units + 70 < cLine) (ha : ED X ρ a (.int x) k) (hb : ED X ρ b (.int y) j) (hc : ED X ρ c (.int z) i) (h : fN op x y = some r) (h2 : fN op2 y z = some r2) (hm : behindInMarks op2 c = false) : ED X ρ (.Compare a [op, op2] [b, c] pos) (.bl (r && r2)) 0 := by
  have c1 := i9 (X := X) hu (ou h) (show aJ [] from True.intro)
  have c2 := i9 (X := X) hu (ou h2) (show aJ [] from True.intro)
  refine fun ow => bO (yn (c1 (fun _ _ => True) (fun _ _ => True)) (c2 (fun _ _ => True) (fun _ _ => True)) (ha ow) (hb ow) (hc ow) hm) fun σ H Q ⟨E, q⟩ => ⟨E, fun v H1 s1 r1 => ⟨E.same s1, fun u H2 s2 r2 => ?_⟩⟩
  rw [ah] at r1 r2
  subst r1 r2
  refine ⟨by rw [ah], by rw [ah], r, rfl, ?_⟩
  cases r with
  | false => exact q _ H2 (s1.trans s2) (by rw [ah]; rfl)
  | true =>
    rw [if_pos rfl]
    refine ⟨(E.same s1).same s2, fun w H3 s3 r3 => ?_⟩
    rw [ah] at r3
    subst r3
    exact ⟨by rw [ah], by rw [ah], q _ H3 ((s1.trans s2).trans s3) (by rw [ah]; rfl)⟩
theorem GZ {ρ : aj} {e : Expr} {b : Bool} {k : Nat} (h : ED X ρ e (.bl b) k) (he : ∀ whole, isTrue e X.env whole = (do let v <- whole; standAt e.pos; holding [v] (truthy v))) : TD X ρ e b :=
  fun ow => vL (DF (h ow) he) fun σ H Q ⟨E, q⟩ => ⟨E, fun v H1 s1 r1 => by rw [ah] at r1; exact ⟨b, r1, q H1 s1⟩⟩
theorem xt {ρ : aj} : AD X ρ [] [] 0 := fun ow => AL D4 fun σ H Q ⟨E, q⟩ => q [] H (aF.refl _) ag.nil
theorem pq {ρ : aj} {e : Expr} {es : List Expr} {d : D} {ds : List D} {k j : Nat} (h1 : ED X ρ e d k) (h2 : AD X ρ es ds j) (hs : starEach (e :: es) X.env = (false, eval e X.env) :: starEach es X.env) : AD X ρ (e :: es) (d :: ds) (kj k j) :=
  fun ow => AL (BC (h1 ow) (h2 ow) hs) fun σ H Q ⟨E, q⟩ => ⟨E, fun v H1 s1 r1 => ⟨E.same s1, fun vs H2 s2 r2 => q _ H2 (s1.trans s2) (ag.cons ((r1.imp (Kp.joinL E.own k j)).same s2) (r2.imp fun a b p => Kp.joinR E.own k j a b (Kp.back s1 j a b p)))⟩⟩
theorem sj {ρ : aj} {es : List Expr} {n : Nat} {pos : Pos} {ds : List D} {k : Nat} (h : AD X ρ es ds k) (hl : ds.length <= bE) : ED X ρ (.Tuple es n pos) (.tup ds) (kn (.tup ds) k) := by
  refine ED.kn fun ow => bO (DS (h ow)) fun σ H Q ⟨E, q⟩ => ⟨E, fun vs H1 s1 r1 => ⟨by rw [<- r1.length]; exact Nat.le_trans hl g8, fun p hp => ?_⟩⟩
  have sm := cD (o := HO.tup vs) hp
  refine q _ _ (s1.trans sm) ?_
  rw [ah]
  exact ⟨p, vs, rfl, cu.of aU, r1.same sm⟩
theorem Fk {ρ : aj} {pos : Pos} : ED X ρ (.Dict [] [] pos) (.dct [] []) 0 := by
  intro ow pins s σ H Q I ⟨E, q⟩
  refine wpAny_Dict_empty ⟨.ref s.heap.objs.size, _, I.laid (t' := s.toks) (o := .dK []) (fun b ob q => Heap.get?_push_of_some _ q) (Nat.le_refl _) ?_, rfl, q _ _ (cD (I.hok.fresh (Nat.le_refl _))) ?_⟩
  . exact ⟨Nat.zero_le _, beq_eq_false_iff_ne.mpr (Nat.ne_of_gt (modules_low I.nolimit)), [], .nil, Heap.DictOf.new _⟩
  . rw [ah]; exact ⟨rfl, rfl, _, [], rfl, aU, ⟨rfl, I.hok.fresh (Nat.le_refl _)⟩, ag.nil⟩
theorem Ct {ρ : aj} {es : List Expr} {pos : Pos} {ds : List D} {k : Nat} (h : AD X ρ es ds k) (hk : k <= 1) (hl : ds.length <= bE) : ED X ρ (.List es pos) (.lst ds) k := by
  refine fun ow => bO (DX (h ow)) fun σ H Q ⟨E, q⟩ => ⟨E, fun vs H1 s1 r1 => ⟨by rw [<- r1.length]; exact Nat.le_trans hl g8, fun p hp => ?_⟩⟩
  have sm := cD (o := HO.lst vs) hp
  refine q _ _ (s1.trans sm) ?_
  rw [ah]
  exact ⟨p, vs, true, rfl, aU, wL E.own (s1.free hp) hk, r1.same sm⟩
theorem AC {ρ : aj} {c a b : Expr} {pos : Pos} {t : Bool} {d : D} {k : Nat} (hc : TD X ρ c t) (h : if t = true then ED X ρ a d k else ED X ρ b d k) : ED X ρ (.IfExp c a b pos) d k := by
  cases t with
  | true =>
    intro ow pins s σ H Q I ⟨E, q⟩
    refine PyProof.Rows.IfExp_ (aS (hc ow pins s σ H (fun t H1 => t = true /\ aF H H1) I ⟨E, fun H1 s1 => ⟨rfl, s1⟩⟩) fun t s1 ⟨H1, I1, e1, s1'⟩ => ?_)
    subst e1
    exact h ow pins s1 σ H1 Q I1 ⟨E.same s1', fun v H2 s2 r2 => q v H2 (s1'.trans s2) (r2.imp (Kp.back s1' k))⟩
  | false =>
    intro ow pins s σ H Q I ⟨E, q⟩
    refine PyProof.Rows.IfExp_ (aS (hc ow pins s σ H (fun t H1 => t = false /\ aF H H1) I ⟨E, fun H1 s1 => ⟨rfl, s1⟩⟩) fun t s1 ⟨H1, I1, e1, s1'⟩ => ?_)
    subst e1
    exact h ow pins s1 σ H1 Q I1 ⟨E.same s1', fun v H2 s2 r2 => q v H2 (s1'.trans s2) (r2.imp (Kp.back s1' k))⟩
end Sp
namespace Sp
open PySem PySem.Spec PyProof.Rows L2
variable {X : Cx}
theorem ag.atI {K : W.Frag} {P : bx} {H : Hp} {l : List D} {vs : List V} {i : Int} {d : D} (h : ag K H P l vs) (e : L2.atI l i = some d) : ∃ v, L2.atI vs i = some v /\ ah K H P d v := by
  unfold L2.atI at e ⊢
  rw [<- h.length]
  cases q : ku l.length i with
  | none => rw [q] at e; cases e
  | some j => rw [q] at e; exact h.get e
theorem HR {ρ : aj} {a b : Expr} {pos : Pos} {x z : D} {i : Int} {k j l : Nat} {o : List Prop} (ha : ED X ρ a x k) (hb : ED X ρ b (.int i) j) (hs : mh b) (h : rK x i k = .ok (z, l) o) : ED X ρ (.Subscript a b pos) z l := by
  unfold rK at h
  split at h
  . rename_i m e0
    split at h
    . rename_i d e
      unfold mk at h
      cases h
      rcases eZ e0 with rfl | rfl
      . refine ED.kn fun ow => bO (uU Ez (ha ow) (hb ow) hs) fun σ H Q ⟨E, q⟩ => ⟨E, fun v H1 s1 r1 => ⟨E.same s1, fun u H2 s2 r2 => ?_⟩⟩
        obtain ⟨p, vs, rfl, hq, rl⟩ := eS (r1.same s2)
        rw [ah] at r2; subst r2
        obtain ⟨w, h1, h2⟩ := rl.atI e
        exact ⟨p, vs, i, w, rfl, rfl, hq, h1, q w H2 (s1.trans s2) h2⟩
      . refine ED.kn fun ow => bO (uU BZ (ha ow) (hb ow) hs) fun σ H Q ⟨E, q⟩ => ⟨E, fun v H1 s1 r1 => ⟨E.same s1, fun u H2 s2 r2 => ?_⟩⟩
        obtain ⟨p, vs, rfl, hq, rl⟩ := im (r1.same s2)
        rw [ah] at r2; subst r2
        obtain ⟨w, h1, h2⟩ := rl.atI e
        exact ⟨p, vs, i, w, rfl, rfl, hq, h1, q w H2 (s1.trans s2) h2⟩
    . cases h
  . cases h
def Ki : R2 := fun x y H Q => ∃ p kvs k v, x = .ref p /\ y = kV k /\ H p = some (.dK kvs) /\ jg kvs k = some v /\ Q v H
theorem B1 : AQ X Ki := by
  intro value slice pins s σ H x y v u Q I rx ry h hs
  obtain ⟨p, kvs, k, z, rfl, rfl, hq, he, q⟩ := h
  cases rx
  obtain ⟨_, hd, vs, rel, dd⟩ := (show cg X.prog X.w H s.heap p (.dK kvs) from I.hok p _ hq)
  obtain ⟨w, hw, rw'⟩ := fb.some_of (v := z) (o := valueAt vs k) (by rw [<- he]; exact rel.val k)
  exact subscriptTail_builtinR (x := w) dd.typeIs PySem.F.slot_dict_getitem.lookup (wpAny_getItem_of (Q := fun r s' => r = w /\ EP X pins σ Q r s') (vk ry) dd.mapOf hw ⟨rfl, z, H, I.tok _, rw', q⟩) hs
theorem sk {K : W.Frag} {P : bx} {H : Hp} {k : bY} {d : D} : ∀ {ks : List bY} {ds : List D} {vs : List V}, ag K H P ds vs -> kA ks ds k = some d -> ∃ v, jg (ks.zip vs) k = some v /\ ah K H P d v /\ d ∈ ds
  | [], ds, vs, _, e => by cases e
  | j :: ks, [], vs, _, e => by cases e
  | j :: ks, x :: ds, vs, h, e => by
    rw [ag] at h
    obtain ⟨v, r, rfl, h1, h2⟩ := h
    by_cases hj : j = k
    . have e' : some x = some d := by rw [<- e]; simp [kA, List.find?_cons, hj]
      cases e'
      exact ⟨v, mK hj, h1, List.mem_cons_self⟩
    . have e' : kA ks ds k = some d := by rw [<- e]; simp [kA, List.find?_cons, hj]
      obtain ⟨w, g1, g2, g3⟩ := sk h2 e'
      exact ⟨w, (mL hj).trans g1, g2, List.mem_cons_of_mem _ g3⟩
theorem pR : ∀ {l : List D} {d : D}, am l = true -> d ∈ l -> d.lless = true
  | x :: l, d, h, m => by
    rw [am, Bool.and_eq_true] at h
    rcases List.mem_cons.mp m with rfl | m
    . exact h.1
    . exact pR h.2 m
theorem Fi {ρ : aj} {a b : Expr} {pos : Pos} {p q r : D × Nat} {o : List Prop} (ha : ED X ρ a p.1 p.2) (hb : ED X ρ b q.1 q.2) (hs : mh b) (h : ji p q = .ok r o) : ED X ρ (.Subscript a b pos) r.1 r.2 := by
  obtain ⟨z, k⟩ := p
  unfold ji at h
  split at h
  . rename_i ks ds e0
    have e0 : z = _ := e0
    subst e0
    split at h
    . rename_i key e
      split at h
      . rename_i d e2
        cases h
        refine fun ow => bO (uU B1 (ha ow) (hb ow) hs) fun σ H Q ⟨E, qq⟩ => ⟨E, fun v H1 s1 r1 => ⟨E.same s1, fun u H2 s2 r2 => ?_⟩⟩
        have r1' := r1.same s2
        rw [ah] at r1'
        obtain ⟨f, e1, p, vs, rfl, hq, _, rl⟩ := r1'
        have hk := mV (X := X) e r2
        obtain ⟨w, g1, g2, g3⟩ := sk rl e2
        exact ⟨p, _, key, w, rfl, hk, hq, g1, qq w H2 (s1.trans s2) (g2.flat _ (pR f g3))⟩
      . cases h
    . cases h
  . unfold jp at h
    split at h
    . rename_i j hj
      rw [hj] at hb
      exact HR ha hb hs h
    . cases h
theorem AK {X : Cx} {e : Option Expr} {t t' : TO} (h : PO X e t) (i : ∀ σ H Q, t' σ H Q -> t σ H Q) : PO X e t' := fun pins s σ H Q I q => h pins s σ H Q I (i σ H Q q)
theorem BK {ρ : aj} : OD X ρ none none := fun ow => AK Bt fun σ H Q ⟨E, q⟩ => q H (aF.refl _)
theorem BJ {ρ : aj} {e : Expr} {i : Int} {k : Nat} (h : ED X ρ e (.int i) k) : OD X ρ (some e) (some i) := fun ow => AK (Bs (h ow)) fun σ H Q ⟨E, q⟩ => ⟨E, fun v H1 s1 r1 => by rw [ah] at r1; exact ⟨i, r1, q H1 s1⟩⟩
theorem ag.cut {K : W.Frag} {P : bx} {H : Hp} {l : List D} {vs : List V} {lo hi : Option Int} (h : ag K H P l vs) : ag K H P (fM l lo hi) (iN vs lo hi) := by
  unfold fM iN
  rw [<- h.length]
  exact (h.drop _).take _
theorem iI : ∀ {l : List D} {n : Nat}, am l = true -> am (l.take n) = true
  | [], n, h => by simp [am]
  | d :: l, 0, h => by simp [am]
  | d :: l, n + 1, h => by
    rw [am, Bool.and_eq_true] at h
    rw [List.take_succ_cons, am, Bool.and_eq_true]; exact ⟨h.1, iI h.2⟩
theorem iJ : ∀ {l : List D} {n : Nat}, am l = true -> am (l.drop n) = true
  | [], n, h => by simp [am]
  | d :: l, 0, h => h
  | d :: l, n + 1, h => by
    rw [am, Bool.and_eq_true] at h
    exact iJ (n := n) h.2
theorem yZ {ρ : aj} {a : Expr} {lo hi : Option Expr} {p2 pos : Pos} {x z : D} {l h : Option Int} {k j : Nat} (ha : ED X ρ a x k) (hl : OD X ρ lo l) (hh : OD X ρ hi h) {o : List Prop} (e : aR x l h = .ok (z, j) o) (hp : aJ o) : ED X ρ (.Subscript a (.Slice lo hi none p2) pos) z j := by
  unfold aR at e
  split at e
  . rename_i m
    . cases e
      have c : am m = true /\ ¬ (HT.sIx m.length 0 l = 0 /\ HT.sIx m.length m.length h = m.length) := ⟨hp.1, by have hx := hp.2.1; unfold Fu at hx; intro z; rw [decide_eq_true z.1, decide_eq_true z.2] at hx; cases hx⟩
      refine fun ow => bO (rh Ds (ha ow) (hl ow) (hh ow)) fun σ H Q ⟨E, q⟩ => ⟨E, fun v H1 s1 r1 => ⟨E.same s1, fun H2 s2 => ⟨(E.same s1).same s2, fun H3 s3 => ?_⟩⟩⟩
      have s13 := s2.trans s3
      obtain ⟨p, vs, rfl, hq, rl⟩ := eS (r1.same s13)
      refine ⟨p, vs, rfl, hq, by rw [<- rl.length]; exact c.2, fun p' hp' => ?_⟩
      have sm := cD (o := HO.tup (iN vs l h)) hp'
      refine q _ _ ((s1.trans s13).trans sm) ?_
      rw [ah]
      exact ⟨p', _, rfl, cu.of aU, ag.flat _ (by unfold fM; exact iI (iJ c.1)) (rl.cut.same sm)⟩
  . rename_i m
    . cases e
      have c : am m = true := hp.1
      refine fun ow => bO (rh Bd (ha ow) (hl ow) (hh ow)) fun σ H Q ⟨E, q⟩ => ⟨E, fun v H1 s1 r1 => ⟨E.same s1, fun H2 s2 => ⟨(E.same s1).same s2, fun H3 s3 => ?_⟩⟩⟩
      have s13 := s2.trans s3
      obtain ⟨p, vs, rfl, hq, rl⟩ := im (r1.same s13)
      refine ⟨p, vs, rfl, hq, fun p' hp' => ?_⟩
      have sm := cD (o := HO.lst (iN vs l h)) hp'
      refine q _ _ ((s1.trans s13).trans sm) ?_
      rw [ah]
      exact ⟨p', _, true, rfl, aU, ⟨rfl, (s1.trans s13).free hp'⟩, ag.flat _ (by unfold fM; exact iI (iJ c)) (rl.cut.same sm)⟩
  . cases e
theorem aG : qz aR := fun X ρ a lo hi p2 pos x z l h k j o ha hl hh e hp => yZ ha hl hh e hp
theorem cM {env : Env} {pos : Pos} : ∀ {es : List Expr}, (∀ e ∈ es, ∀ x p, e ≠ .Starred x p) -> (backTo pos (starEach es env)).any (·.1) = false
  | [], _ => rfl
  | e :: es, h => by
    have ih := cM (env := env) (es := es) (pos := pos) fun x hx => h x (List.mem_cons_of_mem _ hx)
    have he := h e List.mem_cons_self
    cases e <;> first | exact absurd rfl (he _ _) | exact ih
theorem bA {e : Expr} {es : List Expr} {env : Env} (h : ∀ x p, e ≠ .Starred x p) : starEach (e :: es) env = (false, eval e env) :: starEach es env := by
  cases e <;> first | exact absurd rfl (h _ _) | rfl
theorem y6 {Φ : Fx} {sc : Scope} {ρ : aj} {f : Str} {p pos : Pos} {args : List Expr} {F : List D -> Rs D} {ds : List D} {k : Nat} {r : D} {o : List Prop} (G : bg Φ X sc) (hf : AU X f F) (hg : sc.names.lookup f = some .globalImplicit)
    (ha : AD X ρ args ds k) (hst : ∀ e ∈ args, ∀ x p, e ≠ .Starred x p) (hnil : args = [] -> ds = []) (h : F ds = .ok r o) (hp : aJ o) : ED X ρ (.Call (.Name f p) args [] pos) r 0 := by
  obtain ⟨n, fa, fd, ps, hF, hr, hm, hk, hb, hd⟩ := hf
  intro ow
  cases args with
  | nil =>
    refine bO (yp hF hr (G.gl f hg) hm hk hb .nil lv hd) fun σ H Q ⟨E, q⟩ => ?_
    have hds := hnil rfl
    subst hds
    exact ⟨[], r, o, ag.nil, h, hp, fun v H' s1 r1 => q v H' s1 r1⟩
  | cons e es =>
    refine bO (Bz hF hr (G.gl f hg) hm hk hb .nil lv (ha ow) hd (bA (hst e List.mem_cons_self)) (cM fun x hx => hst x (List.mem_cons_of_mem _ hx))) fun σ H Q ⟨E, q⟩ => ⟨E, fun vs H1 s1 r1 => ?_⟩
    refine ⟨ds, r, o, by rw [List.append_nil]; exact r1.imp fun _ _ _ => True.intro, h, hp, fun v H' s2 r2 => q v H' (s1.trans s2) (r2.imp fun a b p => ⟨p.1, s1.free p.2⟩)⟩
theorem jX {H : Hp} {x dx C : Addr} (hx : H x = none) (hd : H dx = none) : aF H (bh (bh H dx (.own x)) x (.ins C dx [])) := fun a o h => by
  rw [aO (fun z => by subst z; rw [hx] at h; cases h), aO (fun z => by subst z; rw [hd] at h; cases h)]
  exact h
theorem Cr {Φ : Fx} {sc : Scope} {ρ : aj} {f : Str} {p pos : Pos} {args : List Expr} {F : List D -> Rs D} {ds : List D} {k : Nat} {r : D} {o : List Prop} (G : bg Φ X sc) (hf : Gz X f F) (hg : sc.names.lookup f = some .globalImplicit)
    (ha : AD X ρ args ds k) (hst : ∀ e ∈ args, ∀ x p, e ≠ .Starred x p) (hnil : args = [] -> ds = []) (h : F ds = .ok r o) (hp : aJ o) : ED X ρ (.Call (.Name f p) args [] pos) r 0 := by
  obtain ⟨n, C, fa, fd, ps, hfl, hM, hF, hr, hm, hns, hc, hb, hd⟩ := hf
  have hl := hfl ds r o h
  intro ow
  cases args with
  | nil =>
    refine bO (ym hM hF hr (G.gl f hg) hm hb .nil lv hd) fun σ H Q ⟨E, q⟩ => ?_
    have hds := hnil rfl
    subst hds
    intro x dx hx hdx ne
    refine ⟨x, [], C, dx, [], r, o, rfl, aU, hns, hc, ag.nil, h, hp, hl, fun H' kp rr => ⟨rfl, q _ H' (fun a ob ha => ?_) (rr.flat _ hl)⟩⟩
    exact kp a ob (fun z => by subst z; rw [hx] at ha; cases ha) (jX hx hdx a ob ha)
  | cons e es =>
    refine bO (Bx hM hF hr (G.gl f hg) hm hb .nil lv (ha ow) hd (bA (hst e List.mem_cons_self)) (cM fun x hx => hst x (List.mem_cons_of_mem _ hx))) fun σ H Q ⟨E, q⟩ => ⟨E, fun vs H1 s1 r1 => ?_⟩
    intro x dx hx hdx ne
    refine ⟨x, vs ++ [], C, dx, ds, r, o, rfl, aU, hns, hc, by rw [List.append_nil]; exact (r1.same (jX hx hdx)).imp fun _ _ _ => True.intro, h, hp, hl, fun H' kp rr => ⟨rfl, q _ H' (s1.trans fun a ob ha => ?_) (rr.flat _ hl)⟩⟩
    exact kp a ob (fun z => by subst z; rw [hx] at ha; cases ha) (jX hx hdx a ob ha)
theorem Cv {Φ : Fx} {sc : Scope} {ρ : aj} {f : Str} {p pos : Pos} {args : List Expr} {F : List D -> Rs D} {ds : List D} {k : Nat} {r : D} {o : List Prop} (G : bg Φ X sc) (hf : Φ.fn f = some F) (hg : sc.names.lookup f = some .globalImplicit)
    (ha : AD X ρ args ds k) (hst : ∀ e ∈ args, ∀ x p, e ≠ .Starred x p) (hnil : args = [] -> ds = []) (h : F ds = .ok r o) (hp : aJ o) : ED X ρ (.Call (.Name f p) args [] pos) r 0 := by
  rcases G.fn f F hf with z | z
  . exact y6 G z hg ha hst hnil h hp
  . exact Cr G z hg ha hst hnil h hp
theorem HG {o : Expr} {name : Str} {apos pos : Pos} {args : List Expr} {env : Env} (hb : attributeBase o name env (eval o env) = eval o env) (hf : methodCallForm (args.length + ([] : List Keyword).length) (backTo pos (starEach args env)) (backToKw pos (keywordEach [] env)) = true)
    (hl : (apos.endLine == pos.line) = true) : eval (.Call (.Attribute o name apos) args [] pos) env = (do
      let ov <- eval o env
      standAt apos.atName
      let (f, first) <- holding [ov] (getMethod ov name (do return (<- importBound o env).getD true))
      callWith pos f first (backTo pos (starEach args env)) (backToKw pos (keywordEach [] env))) := by
  show (do
    let ov <- attributeBase o name env (eval o env)
    standAt apos.atName
    methodCall o name apos pos env ov (args.length + ([] : List Keyword).length) (backTo pos (starEach args env)) (backToKw pos (keywordEach [] env))) = _
  rw [hb]
  unfold methodCall calleeOf methodCallPos
  rw [hf, hl]
  rfl
theorem jb {a : Expr} {m : Str} {env : Env} {t : Sem Value} (h : jc a = true) : attributeBase a m env t = t := by
  unfold attributeBase
  split
  . cases h
  . rfl
theorem ET {env : Env} {pos : Pos} {args : List Expr} (hst : ∀ e ∈ args, ∀ x p, e ≠ .Starred x p) (hn : args.length < 29) : methodCallForm (args.length + ([] : List Keyword).length) (backTo pos (starEach args env)) (backToKw pos (keywordEach [] env)) = true := by
  unfold methodCallForm
  have e1 : (backTo pos (starEach args env)).all (fun x => !x.1) = true := by
    have := cM (env := env) (pos := pos) hst
    rw [List.all_eq_true]
    intro x hx
    have h2 : ¬ (backTo pos (starEach args env)).any (·.1) = true := by rw [this]; exact Bool.false_ne_true
    cases hb : x.1 with
    | false => rfl
    | true => exact absurd (List.any_eq_true.mpr ⟨x, hx, hb⟩) h2
  rw [e1]
  show (true && true && decide (args.length + 0 + 0 < 30)) = true
  simp; omega
theorem qE {ns : List Str} {vs : List V} {m : Str} : ns.contains m = false -> (ns.zip vs).lookup m = none := by
  induction ns generalizing vs with
  | nil => intro _; rfl
  | cons a ns ih =>
    intro h
    cases vs with
    | nil => rfl
    | cons v vs =>
      rw [List.contains_cons, Bool.or_eq_false_iff] at h
      show List.lookup m ((a, v) :: ns.zip vs) = none
      rw [List.lookup_cons, h.1]
      exact ih h.2
theorem Cq {Φ : Fx} {sc : Scope} {ρ : aj} {a : Expr} {n m : Str} {ap pos : Pos} {args : List Expr} {F : List D -> Rs D} {ns : List Str} {es ds : List D} {j k : Nat} {r : D} {o : List Prop} (G : bg Φ X sc) (hf : Φ.omt n m = some F) (he : ED X ρ a (.obj n ns es) j)
    (ha : AD X ρ args ds k) (hst : ∀ e ∈ args, ∀ x p, e ≠ .Starred x p) (hlen : args.length = ds.length) (hn : ns.contains m = false) (hb : jc a = true) (hfew : ds.length < 29) (hl : (ap.endLine == pos.line) = true) (h : F (.obj n ns es :: ds) = .ok r o) (hp : aJ o) : ED X ρ (.Call (.Attribute a m ap) args [] pos) r 0 := by
  obtain ⟨kk, C, fa, fd, ps, hns, hc, hm, hF, hr, hbd⟩ := G.omt n m F hf
  intro ow
  have ht := HG (o := a) (name := m) (apos := ap) (pos := pos) (args := args) (env := X.env) (jb hb) (ET hst (by omega)) hl
  cases args with
  | nil =>
    refine bO (yk (he ow) hc hm hF hr hbd .nil lv ht) fun σ H Q ⟨E, q⟩ => ⟨E, fun v H1 s1 r1 => ?_⟩
    have hds : ds = [] := List.length_eq_zero_iff.mp hlen.symm
    subst hds
    have r0 := r1
    rw [ah] at r1
    obtain ⟨f, e0, x, C', dx, vs, rfl, h1, h2, h3, r2⟩ := r1
    rw [hns] at h1; cases h1
    refine ⟨x, dx, _, rfl, h3, qE hn, [.obj n ns es], r, o, ag.one (r0.imp fun _ _ _ => True.intro), h, hp, fun v H' s2 r2 => q v H' (s1.trans s2) (r2.imp fun a b p => ⟨p.1, s1.free p.2⟩)⟩
  | cons e es' =>
    refine bO (Bw (he ow) hc hm hF hr hbd .nil lv (ha ow) (bA (hst e List.mem_cons_self)) (cM fun x hx => hst x (List.mem_cons_of_mem _ hx)) ht) fun σ H Q ⟨E, q⟩ => ⟨E, fun v H1 s1 r1 => ?_⟩
    have r0 := r1
    rw [ah] at r1
    obtain ⟨f, e0, x, C', dx, vs, rfl, h1, h2, h3, r2⟩ := r1
    rw [hns] at h1; cases h1
    refine ⟨x, dx, _, rfl, h3, qE hn, E.same s1, fun ws H2 s2 rw2 => ?_⟩
    refine ⟨.obj n ns es :: ds, r, o, by rw [List.append_nil]; exact ag.cons ((r0.same s2).imp fun _ _ _ => True.intro) (rw2.imp fun _ _ _ => True.intro), h, hp, fun v H' s3 r3 => q v H' ((s1.trans s2).trans s3) (r3.imp fun a b p => ⟨p.1, s1.free (s2.free p.2)⟩)⟩
theorem qF {K : W.Frag} {H : Hp} {P : bx} {f : Str} {d : D} : ∀ {ns : List Str} {ds : List D} {vs : List V}, ag K H P ds vs -> (ns.zip ds).lookup f = some d -> ∃ v, (ns.zip vs).lookup f = some v /\ ah K H P d v /\ (am ds = true -> d.lless = true)
  | [], ds, vs, _, h => by cases h
  | a :: ns, [], vs, _, h => by cases h
  | a :: ns, e :: ds, vs, r, h => by
    rw [ag] at r
    obtain ⟨v, ws, rfl, r1, r2⟩ := r
    replace h : List.lookup f ((a, e) :: ns.zip ds) = some d := h
    show ∃ u, List.lookup f ((a, v) :: ns.zip ws) = some u /\ _
    rw [List.lookup_cons] at h ⊢
    cases hb : f == a with
    | true =>
      rw [hb] at h; cases h
      exact ⟨v, rfl, r1, fun z => by rw [am, Bool.and_eq_true] at z; exact z.1⟩
    | false =>
      rw [hb] at h
      obtain ⟨u, u1, u2, u3⟩ := qF r2 h
      exact ⟨u, u1, u2, fun z => by rw [am, Bool.and_eq_true] at z; exact u3 z.2⟩
theorem Fj {Φ : Fx} {sc : Scope} {ρ : aj} {a : Expr} {n f : Str} {pos : Pos} {ns : List Str} {ds : List D} {j : Nat} {d : D} (G : bg Φ X sc) (hf : Φ.fld n f = true) (he : ED X ρ a (.obj n ns ds) j) (hb : jc a = true) (h : (ns.zip ds).lookup f = some d) : ED X ρ (.Attribute a f pos) d 0 := by
  intro ow
  refine bO (DZ (he ow) (jb hb)) fun σ H Q ⟨E, q⟩ => ⟨E, fun v H1 s1 r1 => ?_⟩
  rw [ah] at r1
  obtain ⟨fl, e0, x, C, dx, vs, rfl, h1, h2, h3, r2⟩ := r1
  obtain ⟨u, u1, u2, u3⟩ := qF r2 h
  exact ⟨x, C, dx, _, u, rfl, h3, h2, G.fld n f hf C h1, u1, q u H1 s1 (u2.flat _ (u3 fl))⟩
theorem Fq {Φ : Fx} {sc : Scope} {ρ : aj} {f : Str} {B : List D -> R1} {p pos : Pos} {e : Expr} {es : List Expr} {ds : List D} {k l : Nat} {z : D} {o : List Prop} (G : bg Φ X sc) (hB : eY f B) (hg : sc.names.lookup f = some .globalImplicit)
    (ha : AD X ρ (e :: es) ds k) (hst : ∀ x ∈ e :: es, ∀ y p, x ≠ .Starred y p) (h : B ds = .ok (z, l) o) (hp : aJ o) : ED X ρ (.Call (.Name f p) (e :: es) [] pos) z l := by
  obtain ⟨h3, h1, h2, _, h4⟩ := hB
  have h4 := h4 X ds z l o G.calm h hp
  intro ow
  have n1 := bA (env := X.env) (es := es) (hst e List.mem_cons_self)
  have n2 : (backTo pos (starEach es X.env)).any (·.1) = false := cM fun x hx => hst x (List.mem_cons_of_mem _ hx)
  rcases h4 with ⟨id, e1, r, e2, e3⟩ | ⟨T, e1, r, e2, e3⟩
  . refine bO (yo e2 (G.gl f hg) (G.bl f h3) e1 (ha ow) h1 h2 n1 n2) fun σ H Q ⟨E, q⟩ => ⟨E, fun vs H1 s1 r1 => ?_⟩
    exact e3 ow H H1 vs _ Q E.own s1 r1 fun w H' s2 r2 => q w H' (s1.trans s2) r2
  . refine bO (wg e2 (G.gl f hg) (G.bl f h3) e1 (ha ow) h1 h2 n1 n2) fun σ H Q ⟨E, q⟩ => ⟨E, fun vs H1 s1 r1 => ?_⟩
    exact e3 ow H H1 vs _ Q E.own s1 r1 fun w H' s2 r2 => q w H' (s1.trans s2) r2
theorem B6 {ρ : aj} {tg e : Expr} {l : List D} {k : Nat} (h : ED X ρ e (.lst l) k) : IE X ρ tg e l k := by
  intro ow pins s σ H R I ⟨E, q⟩
  refine Bu (tg := tg) (h ow) pins s σ H R I ⟨E, fun v H1 s1 r1 => ?_⟩
  rw [ah] at r1
  obtain ⟨a, vs, b, rfl, hl, hp, rl⟩ := r1
  have rl' : ag X.K H1 (Kd ow H k H1) l vs := rl.impH (fun a o ho p => ⟨p, fun _ => ⟨o, ho⟩⟩) fun a p => ⟨p, fun z => (by cases z)⟩
  have hp' : Kd ow H k H1 a b := ⟨hp, fun hb => by subst hb; exact ⟨_, hl⟩⟩
  have sq : ∀ {H2 : Hp}, sU X.K H2 a vs b -> cv X.K H2 a vs := fun {H2} h => h.sq
  refine ⟨a, rfl, ⟨vs, sq hl⟩, q _ H1 s1 fun i H2 st => ⟨fun d hd => ?_, fun hle => ?_⟩⟩
  . have h2 := sq (st.ls hl hp')
    obtain ⟨w, hw, rw'⟩ := rl'.get hd
    refine ⟨⟨vs, w, h2, hw⟩, fun x H3 ⟨e3, y3⟩ => ?_⟩
    subst e3
    have := y3 vs h2
    rw [hw] at this; cases this
    exact ⟨aF.refl _, rw'.mono st⟩
  . exact ⟨vs, sq (st.ls hl hp'), by rw [<- rl.length]; exact hle⟩
theorem EH {ρ : aj} {tg e : Expr} {l : List D} {k : Nat} (h : ED X ρ e (.tup l) k) : IE X ρ tg e l k := by
  intro ow pins s σ H R I ⟨E, q⟩
  refine DQ (tg := tg) (h ow) pins s σ H R I ⟨E, fun v H1 s1 r1 => ?_⟩
  rw [ah] at r1
  obtain ⟨a, vs, rfl, hl, rl⟩ := r1
  have rl' : ag X.K H1 (Kd ow H k H1) l vs := rl.impH (fun a o ho p => ⟨p, fun _ => ⟨o, ho⟩⟩) fun a p => ⟨p, fun z => (by cases z)⟩
  refine ⟨a, rfl, ⟨vs, hl⟩, q _ H1 s1 fun i H2 st => ⟨fun d hd => ?_, fun hle => ?_⟩⟩
  . have h2 := st.sq hl
    obtain ⟨w, hw, rw'⟩ := rl'.get hd
    refine ⟨⟨vs, w, h2, hw⟩, fun x H3 ⟨e3, y3⟩ => ?_⟩
    subst e3
    have := y3 vs h2
    rw [hw] at this; cases this
    exact ⟨aF.refl _, rw'.mono st⟩
  . exact ⟨vs, st.sq hl, by rw [<- rl.length]; exact hle⟩
theorem HC {ρ : aj} {tg e : Expr} {d : D} {l : List D} {k : Nat} (h : ED X ρ e d k) (hi : items d = some l) : IE X ρ tg e l k := by
  unfold items at hi
  split at hi
  . cases hi; exact B6 h
  . cases hi; exact EH h
  . cases hi
theorem yK {ρ : aj} {tg a : Expr} {p pos : Pos} {j : Int} {k : Nat} (hg : Gl X "range") (hm0 : X.mg "range" = none) (ha : AD X ρ [a] [.int j] k) (hst : ∀ y p, a ≠ .Starred y p) (h1 : -4611686018427387904 <= j) (h2 : j <= bE) :
    IE X ρ tg (.Call (.Name "range" p) [a] [] pos) ((List.range j.toNat).map fun i => .int (i : Nat)) 0 := by
  intro ow pins s σ H R I ⟨E, q⟩
  refine wc (tg := tg) hg hm0 (ha ow) (by rw [bA hst]; rfl) pins s σ H R I ⟨E, fun vs H1 s1 r1 => ?_⟩
  obtain ⟨v, rfl, rv⟩ := r1.only
  rw [ah] at rv; subst rv
  have hm : (bE : Int) < 2 ^ 62 := by decide
  refine ⟨j, rfl, h1, by omega, q _ H1 s1 fun i H2 st => ⟨fun d hd => ?_, fun hle => ?_⟩⟩
  . rw [List.getElem?_map] at hd
    cases e : (List.range j.toNat)[i]? with
    | none => rw [e] at hd; cases hd
    | some n =>
      rw [e] at hd; cases hd
      obtain ⟨hi, hn⟩ := List.getElem?_eq_some_iff.mp e
      rw [List.getElem_range] at hn
      subst hn
      rw [List.length_range] at hi
      refine ⟨hi, fun x H3 ⟨e3, y3⟩ => ?_⟩
      subst e3 y3
      exact ⟨aF.refl _, by rw [ah, Int.zero_add]⟩
  . rw [List.length_map, List.length_range] at hle
    exact hle
theorem wS {ρ : aj} {tg a b : Expr} {p pos : Pos} {j0 j : Int} {k : Nat} (hg : Gl X "range") (hm0 : X.mg "range" = none) (ha : AD X ρ [a, b] [.int j0, .int j] k) (hst : ∀ y p, a ≠ .Starred y p) (hst2 : ∀ y p, b ≠ .Starred y p) (h1 : -4611686018427387904 <= j0) (h2 : j0 <= 4611686018427387000) (h3 : -4611686018427387904 <= j) (h4 : j - j0 <= 800) :
    IE X ρ tg (.Call (.Name "range" p) [a, b] [] pos) ((List.range (j - j0).toNat).map fun i => .int (j0 + (i : Nat))) 0 := by
  intro ow pins s σ H R I ⟨E, q⟩
  refine wb (tg := tg) hg hm0 (ha ow) (by rw [bA hst, bA hst2]; rfl) (by rw [bA hst2]; rfl) pins s σ H R I ⟨E, fun vs H1 s1 r1 => ?_⟩
  rw [ag] at r1
  obtain ⟨v1, r, rfl, r2, r3⟩ := r1
  rw [ag] at r3
  obtain ⟨v2, r', rfl, r4, r5⟩ := r3
  rw [ag] at r5
  rw [ah] at r2 r4
  subst r2 r4 r5
  refine ⟨j0, j, rfl, ⟨h1, by omega, h3, by omega⟩, q _ H1 s1 fun i H2 st => ⟨fun d hd => ?_, fun hle => ?_⟩⟩
  . rw [List.getElem?_map] at hd
    cases e : (List.range (j - j0).toNat)[i]? with
    | none => rw [e] at hd; cases hd
    | some n =>
      rw [e] at hd; cases hd
      obtain ⟨hi, hn⟩ := List.getElem?_eq_some_iff.mp e
      rw [List.getElem_range] at hn
      subst hn
      rw [List.length_range] at hi
      refine ⟨hi, fun x H3 ⟨e3, y3⟩ => ?_⟩
      subst e3 y3
      exact ⟨aF.refl _, by rw [ah]⟩
  . rw [List.length_map, List.length_range] at hle
    exact hle
theorem wT : jC "range" f7 := by
  refine ⟨by decide +kernel, fun X ρ p pos args ds k d j l tg o hc hg hm ha hst hlen h hp hl ht => ?_⟩
  unfold f7 at h
  split at h
  . rename_i n
    cases h
    cases hl
    match args, hlen, ha, hst with
    | [a], _, ha, hst => exact yK hg hm ha (hst a List.mem_cons_self) hp.1 hp.2.1
  . rename_i m n
    cases h
    cases hl
    match args, hlen, ha, hst with
    | [a, b], _, ha, hst => exact wS hg hm ha (hst a List.mem_cons_self) (hst b (List.mem_cons_of_mem _ List.mem_cons_self)) hp.1 hp.2.1 hp.2.2.1 hp.2.2.2.1
  . cases h
end Sp
namespace Sp
open PySem PySem.Spec PyProof.Rows L2
variable {X : Cx}
theorem dy {x : Str} {y : D × Bool} {ρ : aj} (z : Str) : bT ρ x y z = if z = x then some y else ρ z := rfl
theorem fi {ow : Ow} {H : Hp} {σ : L2.St} {ρ : aj} {x : Str} {d : D} {o : Bool} {v : V} {i : Nat} (hN : X.N.Nodup) (hl : σ.length = X.N.length) (E : bc X ow H σ ρ) (hi : X.N[i]? = some x) (hv : jH X.env.scope x) (r : ah X.K H (j8 ow x o) d v) :
    bc X ow H (σ.set i (some v)) (bT ρ x (d, o)) := by
  have hil : i < σ.length := by rw [hl]; exact (List.getElem?_eq_some_iff.mp hi).1
  refine ⟨fun y e o' h => ?_, E.own⟩
  rw [dy] at h
  by_cases hy : y = x
  . subst hy
    rw [if_pos rfl] at h
    cases h
    exact ⟨i, v, hi, hv, by rw [List.getElem?_set_self hil], r⟩
  . rw [if_neg hy] at h
    obtain ⟨j, w, e1, e2, e3, e4⟩ := E.get y e o' h
    have hij : i ≠ j := by intro z; subst z; rw [hi] at e1; cases e1; exact hy rfl
    exact ⟨j, w, e1, e2, by rw [List.getElem?_set_ne hij]; exact e3, e4⟩
theorem g9 {Φ : Fx} {sc : Scope} {x : Str} (G : bg Φ X sc) (h : d6 sc x = true) : sV X.env.scope x /\ jH X.env.scope x /\ (X.fn x = true \/ X.env.scope.names.lookup x = some .local) /\ ∃ i : Nat, X.N[i]? = some x := by
  have hx := G.ns x h
  have hlt := List.idxOf_lt_length_iff.mpr hx
  have hi : ∃ i : Nat, X.N[i]? = some x := ⟨X.N.idxOf x, by rw [List.getElem?_eq_getElem hlt, List.getElem_idxOf hlt]⟩
  unfold d6 at h
  rw [Bool.or_eq_true] at h
  rcases h with h | h
  . have h := G.lc x (by simpa using h)
    exact ⟨.inl h, .inl h, .inr h, hi⟩
  . have h0 : sc.names.lookup x = some .cell := by simpa using h
    have h := G.cc x h0
    exact ⟨.inr h, .inr (.inl h), .inl (G.ft x h0), hi⟩
theorem j7 {Φ : Fx} {sc : Scope} (G : bg Φ X sc) : ∀ {es : List Expr} {ds : List D} {ρ ρ' : aj}, aV sc es ds ρ = some ρ' -> ∃ t, uF X es t /\ (assignEach es X.env).length = ds.length /\ (assignEach es X.env).findIdx? (·.1) = none /\
    ∀ (ow : Ow) (vs : List V) (σ : L2.St) (H : Hp) (Q : L2.St -> Hp -> Prop), σ.length = X.N.length -> bc X ow H σ ρ -> ag X.K H (fun a b => b = true -> ow a = none) ds vs -> (∀ σ', σ'.length = X.N.length -> bc X ow H σ' ρ' -> Q σ' H) -> t vs σ H Q
  | [], [], ρ, ρ', h => by
    rw [aV] at h; cases h
    refine ⟨_, Bv, rfl, rfl, fun ow vs σ H Q hl E r q => ?_⟩
    rw [ag] at r
    exact ⟨r, q σ hl E⟩
  | .Name x p :: es, d :: ds, ρ, ρ', h => by
    rw [aV] at h
    split at h
    . rename_i hx
      obtain ⟨t, h1, h2, h3, h4⟩ := j7 G h
      obtain ⟨g1, g2, g3, i, g4⟩ := g9 G hx
      refine ⟨_, yj (oT (i := i) G.nd g4 g1 g3) h1 rfl, ?_, ?_, fun ow vs σ H Q hl E r q => ?_⟩
      . show (assignEach es X.env).length + 1 = ds.length + 1
        rw [h2]
      . show List.findIdx? (·.1) ((false, _) :: assignEach es X.env) = none
        rw [List.findIdx?_cons, h3]; rfl
      . rw [ag] at r
        obtain ⟨v, vr, rfl, r1, r2⟩ := r
        refine ⟨v, vr, rfl, ?_⟩
        exact h4 ow vr _ H Q (by rw [List.length_set]; exact hl) (fi G.nd hl E g4 g2 r1) r2 q
    . cases h
  | [], _ :: _, ρ, ρ', h => by simp [aV] at h
  | .Name _ _ :: _, [], ρ, ρ', h => by simp [aV] at h
  | .BoolOp .. :: _, ds, ρ, ρ', h => by cases ds <;> simp [aV] at h
  | .NamedExpr .. :: _, ds, ρ, ρ', h => by cases ds <;> simp [aV] at h
  | .BinOp .. :: _, ds, ρ, ρ', h => by cases ds <;> simp [aV] at h
  | .UnaryOp .. :: _, ds, ρ, ρ', h => by cases ds <;> simp [aV] at h
  | .Lambda .. :: _, ds, ρ, ρ', h => by cases ds <;> simp [aV] at h
  | .IfExp .. :: _, ds, ρ, ρ', h => by cases ds <;> simp [aV] at h
  | .Dict .. :: _, ds, ρ, ρ', h => by cases ds <;> simp [aV] at h
  | .Set .. :: _, ds, ρ, ρ', h => by cases ds <;> simp [aV] at h
  | .ListComp .. :: _, ds, ρ, ρ', h => by cases ds <;> simp [aV] at h
  | .SetComp .. :: _, ds, ρ, ρ', h => by cases ds <;> simp [aV] at h
  | .DictComp .. :: _, ds, ρ, ρ', h => by cases ds <;> simp [aV] at h
  | .GeneratorExp .. :: _, ds, ρ, ρ', h => by cases ds <;> simp [aV] at h
  | .Await .. :: _, ds, ρ, ρ', h => by cases ds <;> simp [aV] at h
  | .Yield .. :: _, ds, ρ, ρ', h => by cases ds <;> simp [aV] at h
  | .YieldFrom .. :: _, ds, ρ, ρ', h => by cases ds <;> simp [aV] at h
  | .Compare .. :: _, ds, ρ, ρ', h => by cases ds <;> simp [aV] at h
  | .Call .. :: _, ds, ρ, ρ', h => by cases ds <;> simp [aV] at h
  | .FormattedValue .. :: _, ds, ρ, ρ', h => by cases ds <;> simp [aV] at h
  | .JoinedStr .. :: _, ds, ρ, ρ', h => by cases ds <;> simp [aV] at h
  | .Constant .. :: _, ds, ρ, ρ', h => by cases ds <;> simp [aV] at h
  | .Attribute .. :: _, ds, ρ, ρ', h => by cases ds <;> simp [aV] at h
  | .Subscript .. :: _, ds, ρ, ρ', h => by cases ds <;> simp [aV] at h
  | .Starred .. :: _, ds, ρ, ρ', h => by cases ds <;> simp [aV] at h
  | .List .. :: _, ds, ρ, ρ', h => by cases ds <;> simp [aV] at h
  | .Tuple .. :: _, ds, ρ, ρ', h => by cases ds <;> simp [aV] at h
  | .Slice .. :: _, ds, ρ, ρ', h => by cases ds <;> simp [aV] at h
theorem Ax {Φ : Fx} {sc : Scope} {tg : Expr} {d : D} {ρ ρ' : aj} (G : bg Φ X sc) (h : bN sc tg d ρ = some ρ') : GD X ρ tg d ρ' := by
  unfold bN at h
  split at h
  . split at h
    . rename_i x p hx
      cases h
      obtain ⟨g1, g2, g3, i, g4⟩ := g9 G hx
      exact ⟨_, oT (i := i) G.nd g4 g1 g3, fun ow v σ H Q hl E r q => q _ (by rw [List.length_set]; exact hl) (fi G.nd hl E g4 g2 r)⟩
    . cases h
  . split at h
    . obtain ⟨t, h1, h2, h3, h4⟩ := j7 G h
      refine ⟨_, we (n := _) G.calm h1 h2 h3, fun ow v σ H Q hl E r q => ?_⟩
      obtain ⟨a, vs, rfl, hs, rl⟩ := eS r
      exact ⟨a, vs, rfl, hs, rl.length.symm, h4 ow vs σ H Q hl E rl q⟩
    . cases h
  . cases h
theorem uM {c : Expr} {cs : List Expr} {env : Env} {M : Model} {A : Around} {E : Value -> Shared -> Prop} {s : Shared} {Q : Bool -> Shared -> Prop}
    (h : wpAny M A (isTrue c env (eval c env)) (fun b s' => if b = true then wpAny M A (ia cs env) Q E s' else Q false s') E s) : wpAny M A (ia (c :: cs) env) Q E s := by
  have no : ∀ (l : List Expr) (s : Shared), Q false s -> wpAny M A (forIn l false fun c r => if r = true then do let ok <- isTrue c env (eval c env); pure (ForInStep.yield ok) else pure (ForInStep.yield r)) Q E s := by
    intro l
    induction l with
    | nil => intro s h; exact wpAny_pure h
    | cons x l ih =>
      intro s h
      rw [List.forIn_cons]
      simp only [Bool.false_eq_true, if_false]
      exact wpAny_bind (wpAny_pure (ih s h))
  unfold ia
  rw [List.forIn_cons]
  simp only [if_true]
  refine wpAny_bind (wpAny_bind (wpAny_mono h (fun b s' hb => wpAny_pure ?_) fun _ _ x => x))
  cases b with
  | true => exact hb
  | false => exact no cs s' hb
theorem vW {ρ : aj} : xH X ρ [] true := fun ow pins s σ H Q I ⟨E, q⟩ => wpAny_pure ⟨H, I, q H (aF.refl _)⟩
theorem oN {ρ : aj} {c : Expr} {cs : List Expr} {b b' : Bool} (h : TD X ρ c b) (h' : if b = true then xH X ρ cs b' else b' = false) : xH X ρ (c :: cs) b' := by
  intro ow pins s σ H Q I ⟨E, q⟩
  refine uM (aS (h ow pins s σ H (fun t H1 => t = b /\ aF H H1) I ⟨E, fun H1 s1 => ⟨rfl, s1⟩⟩) fun t s1 ⟨H1, I1, e, sm⟩ => ?_)
  subst e
  cases t with
  | true =>
    rw [if_pos rfl] at h' ⊢
    exact h' ow pins s1 σ H1 Q I1 ⟨E.same sm, fun H2 s2 => q H2 (sm.trans s2)⟩
  | false =>
    rw [if_neg Bool.false_ne_true] at h' ⊢
    subst h'
    exact ⟨H1, I1, q H1 sm⟩
end Sp
namespace Sp
open PySem PySem.Spec PyProof.Rows L2
variable {X : Cx}
structure fk (X : Cx) (ρ : aj) (e : Expr) (it : Bool) (d : D) (k : Nat) : Prop where
  ed : it = false -> ED X ρ e d k
  td : it = false -> ∀ b, d = .bl b -> TD X ρ e b
  ie : it = true -> ∀ tg l, items d = some l -> dZ e tg = true -> IE X ρ tg e l k
theorem fk.of {ρ : aj} {e : Expr} {it : Bool} {d : D} {k : Nat} (h : ED X ρ e d k) (t : ∀ b, d = .bl b -> TD X ρ e b) : fk X ρ e it d k := ⟨fun _ => h, fun _ => t, fun _ tg l hi _ => HC h hi⟩
theorem oq {Φ : Fx} {e : Expr} {it : Bool} {sc : Scope} {ρ : aj} {r : D × Nat} {l : List Prop} (h : aA Φ e it sc ρ = .ok r l) : ∀ x p, e ≠ .Starred x p := by
  intro x p z; subst z; cases h
theorem dX {Φ : Fx} {sc : Scope} {ρ : aj} : ∀ {es : List Expr} {r : List D × Nat} {l : List Prop}, cx Φ es sc ρ = .ok r l -> aJ l -> (∀ e ∈ es, ∀ x p, e ≠ .Starred x p) /\ es.length = r.1.length
  | [], r, l, h, _ => by cases h; exact ⟨fun e he => (by cases he), rfl⟩
  | e :: es, r, l, h, hp => by
    obtain ⟨p, l1, l2, h1, p1, h, p2⟩ := aQ h hp
    obtain ⟨q, l3, l4, h2, p3, h, p4⟩ := aQ h p2
    cases h
    obtain ⟨i1, i2⟩ := dX h2 p3
    refine ⟨fun e' he => ?_, by rw [List.length_cons, List.length_cons, i2]⟩
    rcases List.mem_cons.mp he with rfl | he
    . exact oq h1
    . exact i1 e' he
theorem Hx {d : D} {k : Nat} : kn d k = 0 \/ kn d k = k := by
  unfold kn; split
  . exact .inl rfl
  . exact .inr rfl
theorem xn {sc scope : Scope} (h : mG sc scope = true) : scope.kind = .function /\ (∀ y ∈ scope.names, y.2 = .local -> scope.names.lookup y.1 = some .local) /\
    (∀ y ∈ scope.names, y.2 = .free -> sc.names.lookup y.1 = some .cell \/ sc.names.lookup y.1 = some .free) /\ (scope.names.map (·.1)).Nodup := by
  unfold mG at h
  simp only [Bool.and_eq_true, List.all_eq_true, decide_eq_true_eq, Bool.or_eq_true] at h
  obtain ⟨⟨⟨h1, h3⟩, h4⟩, h5⟩ := h
  refine ⟨h1, fun y hy e => (h3 y hy).resolve_left (fun z => z e), fun y hy e => ?_, h5⟩
  rcases h4 y hy with (q | q) | q
  . exact absurd e q
  . exact .inl q.2
  . exact .inr q
theorem c7 {env : Env} : ∀ {names : List (Str × NameKind)} {x : Str} {k0 : NameKind}, k0 ≠ .free -> names.lookup x = some k0 ->
    (names.map fun (n, k) => if (k == NameKind.free && env.scope.kind == .function && env.kindOf n == some .cell) then (n, NameKind.cell) else (n, k)).lookup x = some k0
  | [], _, _, _, h => by simp at h
  | (n, k) :: r, x, k0, hk, h => by
    have ih := @c7 env r x k0 hk
    show List.lookup x ((if (k == NameKind.free && env.scope.kind == .function && env.kindOf n == some .cell) = true then (n, NameKind.cell) else (n, k)) :: _) = _
    cases hx : x == n with
    | true =>
      simp only [List.lookup_cons, hx] at h
      cases h
      have : (k == NameKind.free) = false := by simpa using hk
      simp [List.lookup_cons, hx, this]
    | false =>
      simp only [List.lookup_cons, hx] at h
      by_cases hc : (k == NameKind.free && env.scope.kind == .function && env.kindOf n == some .cell) = true
      . rw [if_pos hc]; simp only [List.lookup_cons, hx]; exact ih h
      . rw [if_neg hc]; simp only [List.lookup_cons, hx]; exact ih h
theorem nQ {names : List (Str × NameKind)} : ∀ {x : Str} {k : NameKind}, names.lookup x = some k -> x ∈ names.map (·.1) := fun {x k} h => List.mem_map.mpr ⟨_, PySem.mem_of_lookup h, rfl⟩
theorem Ca {Φ : Fx} {sc scope : Scope} {cl : List (Str × Addr)} {C : Addr} {s : Shared} {H : Hp} {fp : List Addr} (G : bg Φ X sc) (h : mG sc scope = true) : bg Φ (ky X scope cl C (scope.names.map (·.1)) s H fp) scope := by
  obtain ⟨h1, h3, h4, h5⟩ := xn h
  refine ⟨G.calm, h5, fun x hx => ?_, fun x hx => ?_, fun x hx => lookup_relabel_local hx, fun x hx => c7 (by decide) hx, fun g F hg => G.fn g F hg, G.con, G.blt, G.itr, G.mth, G.mtt, G.slf, G.fld, G.omt, G.bl, G.room, fun x hx => ?_, fun x hx => decide_eq_true hx⟩
  . exact c7 (by decide) hx
  . rcases hx with hx | hx
    . exact .inl (c7 (by decide) hx)
    . exact da hx
  . unfold d6 at hx
    rw [Bool.or_eq_true] at hx
    rcases hx with hx | hx <;> exact nQ (by simpa using hx)
theorem xi {Φ : Fx} {sc scope : Scope} (G : bg Φ X sc) (h : mG sc scope = true) : gn X.env scope (scope.names.map (·.1)) := by
  obtain ⟨h1, h3, h4, h5⟩ := xn h
  exact ⟨h1, h5, h3, h5, fun n hn => G.kc n (h4 (n, .free) hn rfl)⟩
theorem Hy : ∀ {a b : Nat}, kj a b <= 1 -> a <= kj a b /\ b <= kj a b
  | 0, 0, _ => by decide
  | 0, 1, _ => by decide
  | 0, 2, h => absurd h (by decide)
  | 0, _ + 3, h => by rw [kj] at h; omega
  | 1, 0, _ => by decide
  | 1, 1, _ => by decide
  | 1, 2, h => absurd h (by decide)
  | 1, _ + 3, h => absurd h (by rw [kj] <;> simp)
  | 2, 0, h => absurd h (by decide)
  | 2, 1, h => absurd h (by decide)
  | 2, 2, h => absurd h (by decide)
  | 2, _ + 3, h => absurd h (by rw [kj] <;> simp)
  | _ + 3, 0, h => by rw [kj] at h <;> simp_all <;> omega
  | _ + 3, 1, h => absurd h (by rw [kj] <;> simp)
  | _ + 3, 2, h => absurd h (by rw [kj] <;> simp)
  | _ + 3, _ + 3, h => absurd h (by rw [kj] <;> simp)
theorem Kp.up {ow : Ow} {H : Hp} (o : eQ ow H) {a : Addr} {b : Bool} : ∀ {i j : Nat}, i <= j -> j <= 1 -> Kp ow H i a b -> Kp ow H j a b
  | 0, 0, _, _, p => p
  | 0, 1, _, _, p => fun _ => o.free p.2
  | 1, 1, _, _, p => p
  | 1, 0, h, _, _ => absurd h (by omega)
  | _ + 2, _, h, g, _ => absurd h (by omega)
  | 0, _ + 2, _, g, _ => absurd g (by omega)
  | 1, _ + 2, _, g, _ => absurd g (by omega)
theorem ED.up {ρ : aj} {e : Expr} {d : D} {i j : Nat} (h : ED X ρ e d i) (h1 : i <= j) (h2 : j <= 1) : ED X ρ e d j := fun ow => bO (h ow) fun σ H Q ⟨E, q⟩ => ⟨E, fun v H' s r => q v H' s (r.imp fun a b p => Kp.up E.own h1 h2 p)⟩
def qp (step : D -> Rs (Option (D × Nat))) (d : D) : Option D := match step d with | .ok (some p) _ => some p.1 | _ => none
theorem sx {step : D -> Rs (Option (D × Nat))} : ∀ {ds : List D} {r : List D × Nat} {l : List Prop}, fU step ds = .ok r l -> aJ l ->
    (∀ d ∈ ds, ∃ r l, step d = .ok r l /\ aJ l) /\ r.1 = ds.filterMap (qp step) /\ (r.2 <= 1 -> ∀ d ∈ ds, ∀ p l, step d = .ok (some p) l -> p.2 <= r.2)
  | [], r, l, h, _ => by
    cases h
    exact ⟨fun d hd => (by cases hd), rfl, fun _ d hd => (by cases hd)⟩
  | d :: ds, r, l, h, hp => by
    obtain ⟨x, l1, l2, h1, p1, h, p2⟩ := aQ h hp
    obtain ⟨q, l3, l4, h2, p3, h, p4⟩ := aQ h p2
    obtain ⟨i1, i2, i3⟩ := sx h2 p3
    have i1' : ∀ y ∈ d :: ds, ∃ r l, step y = .ok r l /\ aJ l := fun y hy => by
      rcases List.mem_cons.mp hy with rfl | hy
      . exact ⟨_, _, h1, p1⟩
      . exact i1 y hy
    cases x with
    | none =>
      cases h
      refine ⟨i1', ?_, fun hj x hx y i e => ?_⟩
      . rw [List.filterMap_cons_none (by unfold qp; rw [h1])]; exact i2
      . rcases List.mem_cons.mp hx with rfl | hx
        . rw [h1] at e; cases e
        . exact i3 hj x hx y i e
    | some p =>
      cases h
      refine ⟨i1', ?_, fun hj x hx y i e => ?_⟩
      . rw [List.filterMap_cons_some (by unfold qp; rw [h1]), i2]
      . obtain ⟨a1, a2⟩ := Hy hj
        rcases List.mem_cons.mp hx with rfl | hx
        . rw [h1] at e; cases e; exact a1
        . exact Nat.le_trans (i3 (Nat.le_trans a2 hj) x hx y i e) a2
end Sp
namespace Sp
open PySem PySem.Spec PyProof.Rows L2
theorem bX {X : Cx} {ρ : aj} {e : Expr} {it : Bool} {d : D} {k : Nat} (h : ED X ρ e d k) (he : ∀ whole, isTrue e X.env whole = (do let v <- whole; standAt e.pos; holding [v] (truthy v))) : fk X ρ e it d k := .of h fun b hb => by subst hb; exact GZ h he
theorem Di {X : Cx} {ρ : aj} {a b : Expr} {op : CmpOp} {pos : Pos} {x y : D} {r : Bool} {k j : Nat} {o : List Prop} (hu : X.A.units + 70 < cLine) (ha : ED X ρ a x k) (hb : ED X ρ b y j) (h : gz op x y = .ok r o) (hp : aJ o) (hm : behindInMarks op b = false) : TD X ρ (.Compare a [op] [b] pos) r := by
  have c := i9 (X := X) hu h hp
  intro ow pins s σ H Q I ⟨E, q⟩
  refine wpAny_isTrue_Compare1 (Ii (ha ow) (hb ow) I (R := fun v u H2 => aF H H2 /\ ah X.K H2 (fun _ _ => True) x v /\ ah X.K H2 (fun _ _ => True) y u) ⟨E, fun v H1 s1 r1 => ⟨E.same s1, fun u H2 s2 r2 => ⟨s1.trans s2, (r1.imp fun _ _ _ => True.intro).same s2, r2.imp fun _ _ _ => True.intro⟩⟩⟩ fun v u s2 x y H2 I2 rx ry ⟨sm, r1, r2⟩ => ?_) hm
  refine aS (c _ _ pins s2 σ H2 x y v u (fun w H' => w = .bl r /\ H2 = H') I2 rx ry ⟨r1, r2, rfl, rfl⟩) fun u' s3 ⟨w, H3, I3, r3, e1, e2⟩ => ?_
  subst e1 e2
  cases (show u' = Value.bool r from r3)
  exact wpAny_truthy_bool ⟨H2, I3, q H2 sm⟩
theorem xW {X : Cx} {ρ : aj} {a b c : Expr} {op op2 : CmpOp} {pos : Pos} {x y z : Int} {r r2 : Bool} {k j i : Nat} (hu : X.A.units + 70 < cLine) (ha : ED X ρ a (.int x) k) (hb : ED X ρ b (.int y) j) (hc : ED X ρ c (.int z) i) (h : fN op x y = some r) (h2 : fN op2 y z = some r2) (hm : behindInMarks op2 c = false) : TD X ρ (.Compare a [op, op2] [b, c] pos) (r && r2) := by
  have c1 := i9 (X := X) hu (ou h) (show aJ [] from True.intro)
  have c2 := i9 (X := X) hu (ou h2) (show aJ [] from True.intro)
  refine fun ow => vL (yd (c1 (fun _ _ => True) (fun _ _ => True)) (c2 (fun _ _ => True) (fun _ _ => True)) (ha ow) (hb ow) (hc ow) hm) fun σ H Q ⟨E, q⟩ => ⟨E, fun v H1 s1 r1 => ⟨E.same s1, fun u H2 s2 r2 => ?_⟩⟩
  rw [ah] at r1 r2
  subst r1 r2
  refine ⟨by rw [ah], by rw [ah], r, rfl, ?_⟩
  cases r with
  | false => exact ⟨false, rfl, q H2 (s1.trans s2)⟩
  | true =>
    rw [if_pos rfl]
    refine ⟨(E.same s1).same s2, fun w H3 s3 r3 => ?_⟩
    rw [ah] at r3
    subst r3
    exact ⟨by rw [ah], by rw [ah], _, rfl, q H3 ((s1.trans s2).trans s3)⟩
theorem Dh {X : Cx} {ρ : aj} {a : Expr} {pos : Pos} {b : Bool} (h : TD X ρ a b) : TD X ρ (.UnaryOp .Not a pos) (!b) := fun ow => vL (DG (h ow)) fun σ H Q ⟨E, q⟩ => ⟨E, fun H1 s1 => q H1 s1⟩
structure dY (X : Cx) (ρ : aj) (op : BoolOp) (es : List Expr) (b : Bool) : Prop where
  ed : es ≠ [] -> ∀ pos, ED X ρ (.BoolOp op es pos) (.bl b) 0
  tw : es ≠ [] -> ∀ pos ow, PW X (.BoolOp op es pos) (zR X ow ρ b)
  ts : op = .And -> xH X ρ es b
theorem fV {X : Cx} {ρ : aj} {op : BoolOp} {e : Expr} {b : Bool} {k : Nat} (h : ED X ρ e (.bl b) k) (t : TD X ρ e b) : dY X ρ op [e] b := by
  have h0 : ED X ρ e (.bl b) 0 := by
    have := h.kn
    rw [show kn (.bl b) k = 0 from rfl] at this
    exact this
  refine ⟨fun _ pos ow => DU (h0 ow), fun _ pos ow => ?_, fun _ => oN t (by cases b; rfl; exact vW)⟩
  cases op with
  | And => exact Bl (t ow)
  | Or => exact DE (t ow)
theorem tt {X : Cx} {ρ : aj} {e e2 : Expr} {es : List Expr} {b : Bool} {k : Nat} (h : ED X ρ e (.bl true) k) (t : TD X ρ e true) (r : dY X ρ .And (e2 :: es) b) : dY X ρ .And (e :: e2 :: es) b := by
  refine ⟨fun _ pos ow => ?_, fun _ pos ow => ?_, fun _ => oN t (by rw [if_pos rfl]; exact r.ts rfl)⟩
  . refine bO (wj (h ow) (r.ed (by simp) pos ow)) fun σ H Q ⟨E, q⟩ => ⟨E, fun v H1 s1 r1 => ?_⟩
    rw [ah] at r1
    exact ⟨true, r1, by rw [if_pos rfl]; exact ⟨E.same s1, fun w H2 s2 r2 => q w H2 (s1.trans s2) (r2.imp (Kp.back s1 0))⟩⟩
  . intro wh pins s σ H Q I hq
    exact v8 (t ow) (r.tw (by simp) pos ow) wh pins s σ H Q I ⟨hq.1, fun H1 s1 => by dsimp only; rw [if_pos rfl]; exact ⟨hq.1.same s1, fun H2 s2 => hq.2 H2 (s1.trans s2)⟩⟩
theorem sC {X : Cx} {ρ : aj} {e e2 : Expr} {es : List Expr} {k : Nat} (h : ED X ρ e (.bl false) k) (t : TD X ρ e false) (ne : ∀ pos, ∃ t, PE X (.BoolOp .And (e2 :: es) pos) t) (nw : ∀ pos, ∃ t, PW X (.BoolOp .And (e2 :: es) pos) t) : dY X ρ .And (e :: e2 :: es) false := by
  refine ⟨fun _ pos ow => ?_, fun _ pos ow => ?_, fun _ => oN t (by rw [if_neg Bool.false_ne_true])⟩
  . obtain ⟨t2, h2⟩ := ne pos
    refine bO (wj (h ow) h2) fun σ H Q ⟨E, q⟩ => ⟨E, fun v H1 s1 r1 => ?_⟩
    rw [ah] at r1
    exact ⟨false, r1, by rw [if_neg Bool.false_ne_true]; exact q _ H1 s1 (by rw [ah])⟩
  . obtain ⟨t2, h2⟩ := nw pos
    intro wh pins s σ H Q I hq
    exact v8 (t ow) h2 wh pins s σ H Q I ⟨hq.1, fun H1 s1 => by dsimp only; rw [if_neg Bool.false_ne_true]; exact hq.2 H1 s1⟩
theorem vz {X : Cx} {ρ : aj} {e e2 : Expr} {es : List Expr} {b : Bool} {k : Nat} (h : ED X ρ e (.bl false) k) (t : TD X ρ e false) (r : dY X ρ .Or (e2 :: es) b) : dY X ρ .Or (e :: e2 :: es) b := by
  refine ⟨fun _ pos ow => ?_, fun _ pos ow => ?_, fun z => by cases z⟩
  . refine bO (Ah (h ow) (r.ed (by simp) pos ow)) fun σ H Q ⟨E, q⟩ => ⟨E, fun v H1 s1 r1 => ?_⟩
    rw [ah] at r1
    exact ⟨false, r1, by rw [if_neg Bool.false_ne_true]; exact ⟨E.same s1, fun w H2 s2 r2 => q w H2 (s1.trans s2) (r2.imp (Kp.back s1 0))⟩⟩
  . intro wh pins s σ H Q I hq
    exact Ab (t ow) (r.tw (by simp) pos ow) wh pins s σ H Q I ⟨hq.1, fun H1 s1 => by dsimp only; rw [if_neg Bool.false_ne_true]; exact ⟨hq.1.same s1, fun H2 s2 => hq.2 H2 (s1.trans s2)⟩⟩
theorem tq {X : Cx} {ρ : aj} {e e2 : Expr} {es : List Expr} {k : Nat} (h : ED X ρ e (.bl true) k) (t : TD X ρ e true) (ne : ∀ pos, ∃ t, PE X (.BoolOp .Or (e2 :: es) pos) t) (nw : ∀ pos, ∃ t, PW X (.BoolOp .Or (e2 :: es) pos) t) : dY X ρ .Or (e :: e2 :: es) true := by
  refine ⟨fun _ pos ow => ?_, fun _ pos ow => ?_, fun z => by cases z⟩
  . obtain ⟨t2, h2⟩ := ne pos
    refine bO (Ah (h ow) h2) fun σ H Q ⟨E, q⟩ => ⟨E, fun v H1 s1 r1 => ?_⟩
    rw [ah] at r1
    exact ⟨true, r1, by rw [if_pos rfl]; exact q _ H1 s1 (by rw [ah])⟩
  . obtain ⟨t2, h2⟩ := nw pos
    intro wh pins s σ H Q I hq
    exact Ab (t ow) h2 wh pins s σ H Q I ⟨hq.1, fun H1 s1 => by dsimp only; rw [if_pos rfl]; exact hq.2 H1 s1⟩
theorem rj {X : Cx} {e : Expr} : PE X e (fun _ _ _ => False) := fun _ _ _ _ _ _ h => h.elim
theorem rc {X : Cx} {e : Expr} : PW X e (fun _ _ _ => False) := fun _ _ _ _ _ _ _ h => h.elim
theorem AH {op : CmpOp} {b : Expr} {Φ : Fx} {sc : Scope} {ρ : aj} {r : D × Nat} {it : Bool} {l : List Prop} (h : aA Φ b it sc ρ = .ok r l) : behindInMarks op b = false := by
  cases b <;> first | rfl | cases h
theorem uh {sc : Scope} {x z : Str} (h : d6 sc z = true) (hx : sc.names.lookup x = some .free) : x ≠ z := by
  intro e; subst e
  unfold d6 at h
  rw [hx] at h
  revert h; decide
theorem vA {sc : Scope} : ∀ {es : List Expr} {ds : List D} {ρ ρ' : aj}, aV sc es ds ρ = some ρ' -> ∀ x y, sc.names.lookup x = some .free -> ρ x = some y -> ρ' x = some y := by
  intro es
  induction es with
  | nil =>
    intro ds ρ ρ' h x y hx hl
    cases ds with
    | nil => rw [aV] at h; cases h; exact hl
    | cons d ds => cases h
  | cons e es ih =>
    intro ds ρ ρ' h x y hx hl
    cases ds with
    | nil => cases e <;> cases h
    | cons d ds =>
      cases e with
      | Name z p =>
        rw [aV] at h
        split at h
        . rename_i hz
          exact ih h x y hx (by rw [dy, if_neg (uh hz hx)]; exact hl)
        . cases h
      | _ => cases h
theorem xo {sc : Scope} {tg : Expr} {d : D} {ρ ρ' : aj} (h : bN sc tg d ρ = some ρ') : ∀ x y, sc.names.lookup x = some .free -> ρ x = some y -> ρ' x = some y := by
  intro x y hx hl
  unfold bN at h
  split at h
  . split at h
    . rename_i hz
      cases h
      rw [dy, if_neg (uh hz hx)]; exact hl
    . cases h
  . split at h
    . exact vA h x y hx hl
    . cases h
  . cases h
theorem pW {Φ : Fx} {e : Expr} {it : Bool} {sc : Scope} {ρ : aj} {r : D × Nat} {l : List Prop} {env : Env} (h : aA Φ e it sc ρ = .ok r l) (x : Value) : foldedSetIterable e env x = pure x := by
  cases e <;> first | rfl | cases h
mutual
theorem rB : ∀ x y : D, oZ true x y = x
  | .int _, .int _ => rfl
  | .bl _, .bl _ => rfl
  | .tup l, .tup m => by
    show (if l.length = m.length then D.tup (j9 true l m) else cond true (.tup l) (.tup m)) = .tup l
    split
    . rename_i h; rw [wu l m h]
    . rfl
  | .non, _ => rfl
  | .str _, _ => rfl
  | .dct _ _, _ => rfl
  | .lst _, _ => rfl
  | .typ _, _ => rfl
  | .sn _, _ => rfl
  | .obj _ _ _, _ => rfl
  | .cls _, _ => rfl
  | .int _, .non => rfl
  | .int _, .bl _ => rfl
  | .int _, .str _ => rfl
  | .int _, .dct _ _ => rfl
  | .int _, .typ _ => rfl
  | .int _, .sn _ => rfl
  | .int _, .obj _ _ _ => rfl
  | .int _, .cls _ => rfl
  | .int _, .tup _ => rfl
  | .int _, .lst _ => rfl
  | .bl _, .non => rfl
  | .bl _, .int _ => rfl
  | .bl _, .str _ => rfl
  | .bl _, .dct _ _ => rfl
  | .bl _, .typ _ => rfl
  | .bl _, .sn _ => rfl
  | .bl _, .obj _ _ _ => rfl
  | .bl _, .cls _ => rfl
  | .bl _, .tup _ => rfl
  | .bl _, .lst _ => rfl
  | .tup _, .non => rfl
  | .tup _, .int _ => rfl
  | .tup _, .bl _ => rfl
  | .tup _, .str _ => rfl
  | .tup _, .dct _ _ => rfl
  | .tup _, .typ _ => rfl
  | .tup _, .sn _ => rfl
  | .tup _, .obj _ _ _ => rfl
  | .tup _, .cls _ => rfl
  | .tup _, .lst _ => rfl
theorem wu : ∀ l m : List D, l.length = m.length -> j9 true l m = l
  | [], [], _ => rfl
  | x :: l, y :: m, h => by
    show oZ true x y :: j9 true l m = x :: l
    rw [rB x y, wu l m (by simpa using h)]
  | [], _ :: _, h => by cases h
  | _ :: _, [], h => by cases h
end
mutual
theorem rC : ∀ x y : D, oZ false x y = y
  | .int _, .int _ => rfl
  | .bl _, .bl _ => rfl
  | .tup l, .tup m => by
    show (if l.length = m.length then D.tup (j9 false l m) else cond false (.tup l) (.tup m)) = .tup m
    split
    . rename_i h; rw [wv l m h]
    . rfl
  | .non, _ => rfl
  | .str _, _ => rfl
  | .dct _ _, _ => rfl
  | .lst _, _ => rfl
  | .typ _, _ => rfl
  | .sn _, _ => rfl
  | .obj _ _ _, _ => rfl
  | .cls _, _ => rfl
  | .int _, .non => rfl
  | .int _, .bl _ => rfl
  | .int _, .str _ => rfl
  | .int _, .dct _ _ => rfl
  | .int _, .typ _ => rfl
  | .int _, .sn _ => rfl
  | .int _, .obj _ _ _ => rfl
  | .int _, .cls _ => rfl
  | .int _, .tup _ => rfl
  | .int _, .lst _ => rfl
  | .bl _, .non => rfl
  | .bl _, .int _ => rfl
  | .bl _, .str _ => rfl
  | .bl _, .dct _ _ => rfl
  | .bl _, .typ _ => rfl
  | .bl _, .sn _ => rfl
  | .bl _, .obj _ _ _ => rfl
  | .bl _, .cls _ => rfl
  | .bl _, .tup _ => rfl
  | .bl _, .lst _ => rfl
  | .tup _, .non => rfl
  | .tup _, .int _ => rfl
  | .tup _, .bl _ => rfl
  | .tup _, .str _ => rfl
  | .tup _, .dct _ _ => rfl
  | .tup _, .typ _ => rfl
  | .tup _, .sn _ => rfl
  | .tup _, .obj _ _ _ => rfl
  | .tup _, .cls _ => rfl
  | .tup _, .lst _ => rfl
theorem wv : ∀ l m : List D, l.length = m.length -> j9 false l m = m
  | [], [], _ => rfl
  | x :: l, y :: m, h => by
    show oZ false x y :: j9 false l m = y :: m
    rw [rC x y, wv l m (by simpa using h)]
  | [], _ :: _, h => by cases h
  | _ :: _, [], h => by cases h
end
theorem Ar {k j : Nat} : wO true k j = k := by unfold wO; split <;> rfl
theorem As {k j : Nat} : wO false k j = j := by
  unfold wO; split
  . assumption
  . rfl
theorem ul {t : Bool} {r s : R1} {d : D × Nat} {l : List Prop} (h : Aw t r s = .ok d l) (hp : aJ l) : ∃ m, (if t = true then r else s) = .ok d m /\ aJ m := by
  unfold Aw at h
  split at h
  . cases t with
    | true => cases h
    | false => exact ⟨l, h, hp⟩
  . rename_i p m
    split at h
    . cases t with
      | true => exact ⟨l, h, hp⟩
      | false => cases h
    . rename_i q n
      cases h
      obtain ⟨p1, p2⟩ := dA.mp hp
      cases t with
      | true => exact ⟨m, by rw [rB, Ar]; rfl, n4 p1 rfl⟩
      | false => exact ⟨n, by rw [rC, As]; rfl, n4 p2 rfl⟩
theorem lW {α : Type} {p : D × Nat} {f : Bool -> Rs α} {a : α} {l : List Prop} (h : iB p f = .ok a l) : ∃ b, p.1 = .bl b /\ f b = .ok a l := by
  unfold iB at h
  split at h
  . rename_i b e; exact ⟨b, e, h⟩
  . cases h
theorem yJ {p : D × Nat} {f : Int -> R1} {a : D × Nat} {l : List Prop} (h : jp p f = .ok a l) : ∃ b, p.1 = .int b /\ f b = .ok a l := by
  unfold jp at h
  split at h
  . rename_i b e; exact ⟨b, e, h⟩
  . cases h
structure Ih (Φ : Fx) (n : Nat) : Prop where
  e : ∀ (e : Expr) {it : Bool} {sc : Scope} {ρ : aj} {p : D × Nat} {l : List Prop} {X : Cx}, sizeOf e < n -> aA Φ e it sc ρ = .ok p l -> aJ l -> bg Φ X sc -> fk X ρ e it p.1 p.2
  es : ∀ (es : List Expr) {sc : Scope} {ρ : aj} {p : List D × Nat} {l : List Prop} {X : Cx}, sizeOf es < n -> cx Φ es sc ρ = .ok p l -> aJ l -> bg Φ X sc -> AD X ρ es p.1 p.2
  b : ∀ (op : BoolOp) (es : List Expr) {sc : Scope} {ρ : aj} {b : Bool} {l : List Prop} {X : Cx}, sizeOf es < n -> dG Φ op es sc ρ = .ok b l -> aJ l -> bg Φ X sc -> dY X ρ op es b
  o : ∀ (e : Option Expr) {sc : Scope} {ρ : aj} {o : Option Int} {l : List Prop} {X : Cx}, sizeOf e < n -> mD Φ e sc ρ = .ok o l -> aJ l -> bg Φ X sc -> OD X ρ e o
theorem bj {a b n : Nat} (h : a < b) (hs : b < n + 1) : a < n := Nat.lt_of_lt_of_le h (Nat.le_of_lt_succ hs)
section
variable {Φ : Fx} {n : Nat} {it : Bool} {sc : Scope} {ρ : aj} {r : D × Nat} {l : List Prop} {X : Cx}
theorem A9 {x : Str} {pos : Pos} (h : jo Φ x sc ρ = .ok r l) (G : bg Φ X sc) : fk X ρ (.Name x pos) it r.1 r.2 := by
  unfold jo at h
  split at h
  . rename_i hx
    split at h
    . rename_i hg
      split at h
      . rename_i d hd; cases h; exact bX (Fo G hd hg hx) (fun _ => rfl)
      . split at h
        . rename_i T hT; cases h; exact bX (Fh G hT hg) (fun _ => rfl)
        . cases h
    . split at h
      . rename_i p hl
        unfold mk at h; cases h
        exact bX (Cp (o := p.2) hl hx) (fun _ => rfl)
      . cases h
  . cases h
theorem Dp (I : Ih Φ n) {a b : Expr} {op : Operator} {pos : Pos} (hs : sizeOf (Expr.BinOp a op b pos) < n + 1) (h : aA Φ (.BinOp a op b pos) it sc ρ = .ok r l) (hp : aJ l) (G : bg Φ X sc) : fk X ρ (.BinOp a op b pos) it r.1 r.2 := by
  obtain ⟨p, l1, l2, h1, p1, h, p2⟩ := aQ (show Rs.bnd _ _ = _ from h) hp
  obtain ⟨q, l3, l4, h2, p3, h, p4⟩ := aQ h p2
  exact bX (Fr ((I.e a (bj (by simp <;> omega) hs) h1 p1 G).ed rfl) ((I.e b (bj (by simp <;> omega) hs) h2 p3 G).ed rfl) h p4) (fun _ => rfl)
theorem G9 (I : Ih Φ n) {a : Expr} {op : UnaryOp} {pos : Pos} (hs : sizeOf (Expr.UnaryOp op a pos) < n + 1) (h : aA Φ (.UnaryOp op a pos) it sc ρ = .ok r l) (hp : aJ l) (G : bg Φ X sc) : fk X ρ (.UnaryOp op a pos) it r.1 r.2 := by
  obtain ⟨p, l1, l2, h1, p1, h, p2⟩ := aQ (show Rs.bnd _ _ = _ from h) hp
  split at h
  . rename_i z hu
    cases h
    have c := I.e a (bj (by simp <;> omega) hs) h1 p1 G
    refine .of (HQ (c.ed rfl) hu) fun b hb => ?_
    have hb : z = .bl b := hb
    subst hb
    unfold vR at hu
    split at hu
    . cases hu
    . rename_i e; cases hu; exact Dh (c.td rfl _ e)
    . cases hu
  . cases h
theorem Do (I : Ih Φ n) {a b : Expr} {op : CmpOp} {pos : Pos} (hs : sizeOf (Expr.Compare a [op] [b] pos) < n + 1) (h : aA Φ (.Compare a [op] [b] pos) it sc ρ = .ok r l) (hp : aJ l) (G : bg Φ X sc) : fk X ρ (.Compare a [op] [b] pos) it r.1 r.2 := by
  obtain ⟨p, l1, l2, h1, p1, h, p2⟩ := aQ (show Rs.bnd _ _ = _ from h) hp
  obtain ⟨q, l3, l4, h2, p3, h, p4⟩ := aQ h p2
  obtain ⟨z, l5, l6, hc, p5, h, p6⟩ := aQ h p4
  cases h
  have ca := (I.e a (bj (by simp <;> omega) hs) h1 p1 G).ed rfl
  have cb := (I.e b (bj (by simp <;> omega) hs) h2 p3 G).ed rfl
  exact .of (Fp G.room ca cb hc p5 (AH h2)) fun b' hb' => by cases hb'; exact Di G.room ca cb hc p5 (AH h2)
theorem xZ (I : Ih Φ n) {a b c : Expr} {op op2 : CmpOp} {pos : Pos} (hs : sizeOf (Expr.Compare a [op, op2] [b, c] pos) < n + 1) (h : aA Φ (.Compare a [op, op2] [b, c] pos) it sc ρ = .ok r l) (hp : aJ l) (G : bg Φ X sc) : fk X ρ (.Compare a [op, op2] [b, c] pos) it r.1 r.2 := by
  obtain ⟨p, l1, l2, h1, p1, h, p2⟩ := aQ (show Rs.bnd _ _ = _ from h) hp
  obtain ⟨q, l3, l4, h2, p3, h, p4⟩ := aQ h p2
  obtain ⟨t, l5, l6, h3, p5, h, p6⟩ := aQ h p4
  obtain ⟨x, y, z, r1, r2, e1, e2, e3, k1, k2, rfl⟩ := Cz h
  have ca := (I.e a (bj (by simp <;> omega) hs) h1 p1 G).ed rfl
  have cb := (I.e b (bj (by simp <;> omega) hs) h2 p3 G).ed rfl
  have cc := (I.e c (bj (by simp <;> omega) hs) h3 p5 G).ed rfl
  rw [e1] at ca
  rw [e2] at cb
  rw [e3] at cc
  exact .of (y0 G.room ca cb cc k1 k2 (AH h3)) fun b' hb' => by cases hb'; exact xW G.room ca cb cc k1 k2 (AH h3)
theorem Ha (I : Ih Φ n) {c a b : Expr} {pos : Pos} (hs : sizeOf (Expr.IfExp c a b pos) < n + 1) (h : aA Φ (.IfExp c a b pos) it sc ρ = .ok r l) (hp : aJ l) (G : bg Φ X sc) : fk X ρ (.IfExp c a b pos) it r.1 r.2 := by
  obtain ⟨p, l1, l2, h1, p1, h, p2⟩ := aQ (show Rs.bnd _ _ = _ from h) hp
  obtain ⟨t, ht, h⟩ := lW h
  obtain ⟨m, he, hm⟩ := ul h p2
  have hc := (I.e c (bj (by simp <;> omega) hs) h1 p1 G).td rfl t ht
  cases t with
  | true =>
    rw [if_pos rfl] at he
    have ha := I.e a (bj (by simp <;> omega) hs) he hm G
    refine .of (AC hc (by rw [if_pos rfl]; exact ha.ed rfl)) fun b' hb' => ?_
    intro ow pins s σ H Q I ⟨E, q⟩
    refine isTrue_IfExp (aS (hc ow pins s σ H (fun t H1 => t = true /\ aF H H1) I ⟨E, fun H1 s1 => ⟨rfl, s1⟩⟩) fun t s1 ⟨H1, I1, e1, s1'⟩ => ?_)
    subst e1
    exact ha.td rfl b' hb' ow pins s1 σ H1 Q I1 ⟨E.same s1', fun H2 s2 => q H2 (s1'.trans s2)⟩
  | false =>
    rw [if_neg Bool.false_ne_true] at he
    have hb := I.e b (bj (by simp <;> omega) hs) he hm G
    refine .of (AC hc (by rw [if_neg Bool.false_ne_true]; exact hb.ed rfl)) fun b' hb' => ?_
    intro ow pins s σ H Q I ⟨E, q⟩
    refine isTrue_IfExp (aS (hc ow pins s σ H (fun t H1 => t = false /\ aF H H1) I ⟨E, fun H1 s1 => ⟨rfl, s1⟩⟩) fun t s1 ⟨H1, I1, e1, s1'⟩ => ?_)
    subst e1
    exact hb.td rfl b' hb' ow pins s1 σ H1 Q I1 ⟨E.same s1', fun H2 s2 => q H2 (s1'.trans s2)⟩
theorem uS {Φ : Fx} {e : Expr} {it : Bool} {sc : Scope} {ρ : aj} {r : D × Nat} {l : List Prop} (h : aA Φ e it sc ρ = .ok r l) : mh e := by
  cases e <;> first | (intro _ _; rfl) | cases h
theorem zX (I : Ih Φ n) {a i : Expr} {pos : Pos} (hs : sizeOf (Expr.Subscript a i pos) < n + 1) (h : ((aA Φ a false sc ρ).bnd fun p => (aA Φ i false sc ρ).bnd fun q => ji p q) = .ok r l) (hp : aJ l) (G : bg Φ X sc) : fk X ρ (.Subscript a i pos) it r.1 r.2 := by
  obtain ⟨p, l1, l2, h1, p1, h, p2⟩ := aQ h hp
  obtain ⟨q, l3, l4, h2, p3, h, p4⟩ := aQ h p2
  exact bX (Fi ((I.e a (bj (by simp <;> omega) hs) h1 p1 G).ed rfl) ((I.e i (bj (by simp <;> omega) hs) h2 p3 G).ed rfl) (uS h2) h) (fun _ => rfl)
theorem xY (I : Ih Φ n) {a : Expr} {lo hi : Option Expr} {p2 pos : Pos} (hs : sizeOf (Expr.Subscript a (.Slice lo hi none p2) pos) < n + 1) (h : aA Φ (.Subscript a (.Slice lo hi none p2) pos) it sc ρ = .ok r l) (hp : aJ l) (G : bg Φ X sc) : fk X ρ (.Subscript a (.Slice lo hi none p2) pos) it r.1 r.2 := by
  obtain ⟨p, l1, l2, h1, p1, h, q2⟩ := aQ (show Rs.bnd _ _ = _ from h) hp
  obtain ⟨q, l3, l4, h2, p3, h, p4⟩ := aQ h q2
  obtain ⟨q', l5, l6, h3, p5, h, p6⟩ := aQ h p4
  exact bX (G.slf X ρ a lo hi p2 pos p.1 r.1 q q' p.2 r.2 l6 ((I.e a (bj (by simp <;> omega) hs) h1 p1 G).ed rfl) (I.o lo (bj (by simp <;> omega) hs) h2 p3 G) (I.o hi (bj (by simp <;> omega) hs) h3 p5 G) h p6) (fun _ => rfl)
theorem Dn (I : Ih Φ n) {a i : Expr} {pos : Pos} (hs : sizeOf (Expr.Subscript a i pos) < n + 1) (h : aA Φ (.Subscript a i pos) it sc ρ = .ok r l) (hp : aJ l) (G : bg Φ X sc) : fk X ρ (.Subscript a i pos) it r.1 r.2 := by
  cases i with
  | Slice lo hi st p2 =>
    cases st with
    | none => exact xY I hs h hp G
    | some e => exact zX I hs h hp G
  | _ => exact zX I hs h hp G
theorem Ba (I : Ih Φ n) {f : Str} {p pos : Pos} {args : List Expr} (hs : sizeOf args < n) (hf : sc.names.lookup f = some .globalImplicit) (h0 : ((cx Φ args sc ρ).bnd fun p => lV Φ f it p.1 p.2) = .ok r l) (hp : aJ l) (G : bg Φ X sc) : fk X ρ (.Call (.Name f p) args [] pos) it r.1 r.2 := by
  obtain ⟨q, l1, l2, h1, p1, h, p2⟩ := aQ h0 hp
  clear h0
  have ha := I.es args hs h1 p1 G
  obtain ⟨hst, hlen⟩ := dX h1 p1
  unfold lV at h
  split at h
  . rename_i F hF
    obtain ⟨d, l3, l4, h2, p3, h, p4⟩ := aQ h p2
    cases h
    exact bX (Cv G hF hf ha hst (fun z => by subst z; exact List.length_eq_zero_iff.mp hlen.symm) h2 p3) (fun _ => rfl)
  . split at h
    . rename_i B hB
      split at hB
      . rename_i hit
        have hI := G.itr f B hB
        refine ⟨fun z => (by rw [hit] at z; cases z), fun z => (by rw [hit] at z; cases z), fun _ tg l' hl ht => ?_⟩
        exact hI.2 X ρ p pos args q.1 q.2 r.1 r.2 l' tg l2 G.calm (G.gl f hf) (G.bl f hI.1) ha hst hlen h p2 hl ht
      . cases hB
    . split at h
      . rename_i B hB
        have hb := G.blt f B hB
        cases args with
        | nil =>
          have e0 : q.1 = [] := List.length_eq_zero_iff.mp hlen.symm
          rw [e0, hb.2.2.2.1] at h; cases h
        | cons e es => exact bX (Fq G hb hf ha hst h p2) (fun _ => rfl)
      . cases h
theorem x5 (I : Ih Φ n) {f : Str} {p pos : Pos} {args : List Expr} (hs : sizeOf (Expr.Call (.Name f p) args [] pos) < n + 1) (h : aA Φ (.Call (.Name f p) args [] pos) it sc ρ = .ok r l) (hp : aJ l) (G : bg Φ X sc) : fk X ρ (.Call (.Name f p) args [] pos) it r.1 r.2 := by
  rw [jv] at h
  split at h
  . rename_i hf
    exact Ba I (bj (by simp <;> omega) hs) hf h hp G
  . cases h
theorem x6 (I : Ih Φ n) {a : Expr} {m : Str} {ap pos : Pos} {args : List Expr} (hs : sizeOf (Expr.Call (.Attribute a m ap) args [] pos) < n + 1) (h : aA Φ (.Call (.Attribute a m ap) args [] pos) it sc ρ = .ok r l) (hp : aJ l) (G : bg Φ X sc) : fk X ρ (.Call (.Attribute a m ap) args [] pos) it r.1 r.2 := by
  rw [si] at h
  split at h
  . rename_i hln
    obtain ⟨p, l1, l2, h1, p1, h, p2⟩ := aQ h hp
    obtain ⟨q, l3, l4, h2, p3, h, p4⟩ := aQ h p2
    obtain ⟨hst, hlen⟩ := dX h2 p3
    have hea := (I.e a (bj (by simp <;> omega) hs) h1 p1 G).ed rfl
    have hes := I.es args (bj (by simp <;> omega) hs) h2 p3 G
    obtain ⟨x, kx⟩ := p
    unfold yx at h
    dsimp only at h hea
    split at h
    . rename_i n ns es
      split at h
      . rename_i hc
        split at h
        . rename_i F hF
          obtain ⟨d, l5, l6, h3, p5, h, p6⟩ := aQ h p4
          cases h
          exact bX (Cq G hF hea hes hst hlen hc.1 hc.2.1 hc.2.2 hln h3 p5) (fun _ => rfl)
        . cases h
      . cases h
    . split at h
      . rename_i hb
        split at h
        . rename_i M hM
          exact bX (G.mth m M hM X ρ a args ap pos x kx q.1 q.2 r.1 r.2 l4 G.calm G.room hea hes hst hlen hln hb h p4) (fun _ => rfl)
        . cases h
      . cases h
  . cases h
theorem A6 {elt tg : Expr} {ifs : List Expr} {scope : Scope} {ds : List D} {q : List D × Nat} {m : List Prop} (hE : ∀ {ρ : aj} {p : D × Nat} {l : List Prop} {X : Cx}, aA Φ elt false scope ρ = .ok p l -> aJ l -> bg Φ X scope -> fk X ρ elt false p.1 p.2)
    (hB : ∀ {ρ : aj} {b : Bool} {l : List Prop} {X : Cx}, dG Φ .And ifs scope ρ = .ok b l -> aJ l -> bg Φ X scope -> dY X ρ .And ifs b) (hc : mG sc scope = true) (G : bg Φ X sc)
    (h : fU (fun d => match bN scope tg d (flt scope ρ) with
            | none => .st
            | some ρ' => (dG Φ .And ifs scope ρ').bnd fun b => cond b ((aA Φ elt false scope ρ').bnd fun r => .ok (some r) []) (.ok none [])) ds = .ok q m) (hp : aJ m) (hj : q.2 <= 1) :
    ∃ f : D -> Option D, q.1 = ds.filterMap f /\ ∀ cl C s H fp, ∀ d ∈ ds, lY (ky X scope cl C (scope.names.map (·.1)) s H fp) (flt scope ρ) tg ifs elt q.2 d (f d) := by
  generalize hst : (fun d => match bN scope tg d (flt scope ρ) with
            | none => .st
            | some ρ' => (dG Φ .And ifs scope ρ').bnd fun b => cond b ((aA Φ elt false scope ρ').bnd fun r => .ok (some r) []) (.ok none []) : D -> Rs (Option (D × Nat))) = step at h
  obtain ⟨c1, c2, c3⟩ := sx h hp
  refine ⟨_, c2, fun cl C s H fp d hd => ?_⟩
  have G' := Ca (cl := cl) (C := C) (s := s) (H := H) (fp := fp) G hc
  obtain ⟨x, lx, hx, px⟩ := c1 d hd
  have c3 := c3 hj d hd
  have hs := congrFun hst d
  unfold qp
  rw [hx]
  split at hs
  . rw [<- hs] at hx; cases hx
  . rename_i ρ' hb
    have gd := Ax G' hb
    have ext : ∀ x y, flt scope ρ x = some y -> ρ' x = some y := fun x y hxy => xo hb x y (ju hxy).2 hxy
    have hx0 := hx
    rw [<- hs] at hx
    obtain ⟨b, l3, l4, h2, p3, hx, p4⟩ := aQ hx px
    have ts := (hB h2 p3 G').ts rfl
    cases b with
    | false =>
      cases hx
      exact ⟨ρ', false, gd, ext, ts, rfl⟩
    | true =>
      rw [cond_true] at hx
      obtain ⟨z, l5, l6, h3, p5, hx, p6⟩ := aQ hx p4
      cases hx
      exact ⟨ρ', true, gd, ext, ts, rfl, ((hE h3 p5 G').ed rfl).up (c3 z lx hx0) hj⟩
theorem tT (I : Ih Φ n) {elt tg iter : Expr} {ifs : List Expr} {scope : Scope} {pos : Pos} (hs : sizeOf (Expr.ListComp elt [⟨tg, iter, ifs, 0⟩] scope pos) < n + 1) (h : aA Φ (.ListComp elt [⟨tg, iter, ifs, 0⟩] scope pos) it sc ρ = .ok r l) (hp : aJ l) (G : bg Φ X sc) :
    ∃ ds f k, (am ds = true \/ k <= 1) /\ r.2 <= 1 /\ ds.length < sizeLine /\ gn X.env scope (scope.names.map (·.1)) /\ (∀ x d o, flt scope ρ x = some (d, o) -> x ∈ scope.names.map (·.1)) /\ IE X ρ tg iter ds k /\
      (∀ cl C s H fp, ∀ d ∈ ds, lY (ky X scope cl C (scope.names.map (·.1)) s H fp) (flt scope ρ) tg ifs elt r.2 d (f d)) /\ (∀ x, foldedSetIterable iter X.env x = pure x) /\ r.1 = .lst (ds.filterMap f) := by
  rw [pe] at h
  split at h
  . rename_i hc
    obtain ⟨p, l1, l2, h1, p1, h, p2⟩ := aQ h hp
    split at h
    . rename_i ds hd
      split at h
      . rename_i ht
        obtain ⟨u0, l7, l8, h7, p7, h, p8⟩ := aQ h p2
        cases h7
        have hl := And.intro p7.1 p7.2.1
        obtain ⟨q, l3, l4, h2, p3, h, p4⟩ := aQ h p8
        split at h
        . rename_i hj
          cases h
          obtain ⟨f, e1, t⟩ := A6 (fun a b c => I.e elt (by first | omega | (simp at *; omega)) a b c) (fun a b c => I.b .And ifs (by first | omega | (simp at *; omega)) a b c) hc G h2 p3 hj
          refine ⟨ds, f, p.2, hl.2, hj, Nat.lt_of_le_of_lt hl.1 ke, xi G hc, fun x d o hx => nQ (ju hx).2, (I.e iter (by first | omega | (simp at *; omega)) h1 p1 G).ie rfl tg ds hd ht, t, pW h1, by rw [e1]⟩
        . cases h
      . cases h
    . cases h
  . cases h
theorem o7 {elt : Expr} {gens : List Comprehension} {scope : Scope} {pos : Pos} (h : aA Φ (.ListComp elt gens scope pos) it sc ρ = .ok r l) : ∃ tg iter ifs, gens = [⟨tg, iter, ifs, 0⟩] := by
  match gens, h with
  | [⟨tg, iter, ifs, 0⟩], h => exact ⟨_, _, _, rfl⟩
  | [], h => cases h
  | ⟨_, _, _, .ofNat (n + 1)⟩ :: r, h => cases r <;> cases h
  | ⟨_, _, _, .negSucc n⟩ :: _, h => cases h
  | ⟨_, _, _, 0⟩ :: _ :: _, h => cases h
theorem HK (I : Ih Φ n) (e : Expr) (hs : sizeOf e < n + 1) (h : aA Φ e it sc ρ = .ok r l) (hp : aJ l) (G : bg Φ X sc) : fk X ρ e it r.1 r.2 := by
  cases e with
  | Constant c k p =>
    replace h : (match AF c with | some d => .ok (d, 0) [] | none => .st : R1) = .ok r l := h
    split at h
    . rename_i d hc; cases h; exact bX (Fm hc) (fun _ => rfl)
    . cases h
  | Name x p => exact A9 h G
  | BinOp a op b p => exact Dp I hs h hp G
  | UnaryOp op a p => exact G9 I hs h hp G
  | BoolOp op es p =>
    rw [ph] at h
    split at h
    . cases h
    . rename_i hne
      obtain ⟨b, l1, l2, h1, p1, h, p2⟩ := aQ h hp
      cases h
      have ne : es ≠ [] := fun z => hne (by rw [z]; rfl)
      have c := I.b op es (bj (by simp <;> omega) hs) h1 p1 G
      exact .of (c.ed ne p) fun b' hb' => by cases hb'; exact fun ow => (c.tw ne p ow).pt
  | Compare a ops bs p =>
    match ops, bs, hs, h with
    | [op], [b], hs, h => exact Do I hs h hp G
    | [], bs, _, h => cases h
    | [op], [], _, h => cases h
    | [op], _ :: _ :: _, _, h => cases h
    | [op, op2], [b, c], hs, h => exact xZ I hs h hp G
    | [_, _], [], _, h => cases h
    | [_, _], [_], _, h => cases h
    | [_, _], _ :: _ :: _ :: _, _, h => cases h
    | _ :: _ :: _ :: _, bs, _, h => cases h
  | IfExp c a b p => exact Ha I hs h hp G
  | Tuple es k p =>
    obtain ⟨q, l1, l2, h1, p1, h, p2⟩ := aQ (show Rs.bnd _ _ = _ from h) hp
    split at h
    . rename_i hl
      unfold mk at h; cases h
      exact bX (sj (I.es es (bj (by simp <;> omega) hs) h1 p1 G) hl) (fun _ => rfl)
    . cases h
  | List es p =>
    obtain ⟨q, l1, l2, h1, p1, h, p2⟩ := aQ (show Rs.bnd _ _ = _ from h) hp
    split at h
    . rename_i hl
      cases h
      exact bX (Ct (I.es es (bj (by simp <;> omega) hs) h1 p1 G) hl.2 hl.1) (fun _ => rfl)
    . cases h
  | Attribute a f p =>
    cases a with
    | Name x pn =>
      obtain ⟨q, l1, l2, h1, p1, h, p2⟩ := aQ (show Rs.bnd _ _ = _ from h) hp
      have hea := (I.e (.Name x pn) (bj (by simp <;> omega) hs) (it := false) h1 p1 G).ed rfl
      obtain ⟨d, kd⟩ := q
      unfold ES at h
      dsimp only at h hea
      split at h
      . rename_i n ns ds
        split at h
        . rename_i hf
          split at h
          . rename_i e hl
            cases h
            exact bX (Fj G hf hea rfl hl) (fun _ => rfl)
          . cases h
        . cases h
      . cases h
    | _ => cases h
  | Dict ks vs p =>
    match ks, vs, h with
    | [], [], h => cases h; exact bX Fk (fun _ => rfl)
    | _ :: _, _, h => cases h
    | [], _ :: _, h => cases h
  | Subscript a i p => exact Dn I hs h hp G
  | Call f args kws p =>
    cases f with
    | Name f fp =>
      cases kws with
      | nil => exact x5 I hs h hp G
      | cons _ _ => cases h
    | Attribute a m ap =>
      cases kws with
      | nil => exact x6 I hs h hp G
      | cons _ _ => cases h
    | _ => cases h
  | ListComp elt gens scope p =>
    obtain ⟨tg, iter, ifs, rfl⟩ := o7 h
    obtain ⟨ds, f, k, a1, a2, a3, a4, a5, a6, a7, a8, a9⟩ := tT I hs h hp G
    rw [a9]
    exact bX (Cu G.calm G.nd a1 a2 a3 a4 a5 a6 a7 a8) (fun _ => rfl)
  | _ => cases h
theorem EW (I : Ih Φ n) (es : List Expr) {r : List D × Nat} (hs : sizeOf es < n + 1) (h : cx Φ es sc ρ = .ok r l) (hp : aJ l) (G : bg Φ X sc) : AD X ρ es r.1 r.2 := by
  cases es with
  | nil => cases h; exact xt
  | cons e es =>
    obtain ⟨p, l1, l2, h1, p1, h, p2⟩ := aQ (show Rs.bnd _ _ = _ from h) hp
    obtain ⟨q, l3, l4, h2, p3, h, p4⟩ := aQ h p2
    cases h
    exact pq ((I.e e (bj (by simp <;> omega) hs) h1 p1 G).ed rfl) (I.es es (bj (by simp <;> omega) hs) h2 p3 G) (bA (oq h1))
theorem sI {b c : Bool} {r : Rs Bool} {l : List Prop} (h : vC b r = .ok c l) (hp : aJ l) : (b = true /\ ∃ m, r = .ok c m /\ aJ m) \/ (b = false /\ c = false) := by
  unfold vC at h
  split at h
  . rename_i c' m
    cases h
    cases b with
    | true => exact .inl ⟨rfl, m, rfl, n4 hp rfl⟩
    | false => exact .inr ⟨rfl, rfl⟩
  . cases b with
    | true => cases h
    | false => cases h; exact .inr ⟨rfl, rfl⟩
theorem t6 {b c : Bool} {r : Rs Bool} {l : List Prop} (h : Aj b r = .ok c l) (hp : aJ l) : (b = false /\ ∃ m, r = .ok c m /\ aJ m) \/ (b = true /\ c = true) := by
  unfold Aj at h
  split at h
  . rename_i c' m
    cases h
    cases b with
    | false => exact .inl ⟨rfl, m, rfl, n4 hp rfl⟩
    | true => exact .inr ⟨rfl, rfl⟩
  . cases b with
    | false => cases h
    | true => cases h; exact .inr ⟨rfl, rfl⟩
theorem EY (I : Ih Φ n) (op : BoolOp) (es : List Expr) {b : Bool} (hs : sizeOf es < n + 1) (h : dG Φ op es sc ρ = .ok b l) (hp : aJ l) (G : bg Φ X sc) : dY X ρ op es b := by
  cases es with
  | nil =>
    cases op with
    | And => cases h; exact ⟨fun z => absurd rfl z, fun z => absurd rfl z, fun _ => vW⟩
    | Or => cases h; exact ⟨fun z => absurd rfl z, fun z => absurd rfl z, fun z => (by cases z)⟩
  | cons e es =>
    cases op with
    | And =>
      obtain ⟨p, l1, l2, h1, p1, h, p2⟩ := aQ (show Rs.bnd _ _ = _ from h) hp
      obtain ⟨b', hb, h⟩ := lW h
      have c := I.e e (bj (by simp <;> omega) hs) h1 p1 G
      have ce := c.ed rfl
      rw [hb] at ce
      have ct := c.td rfl b' hb
      rcases sI h p2 with ⟨rfl, m, h, pm⟩ | ⟨rfl, rfl⟩
      . cases es with
        | nil => cases h; exact fV ce ct
        | cons e2 es => exact tt ce ct (I.b .And (e2 :: es) (bj (by simp <;> omega) hs) h pm G)
      . cases es with
        | nil => exact fV ce ct
        | cons e2 es => exact sC ce ct (fun pos => ⟨_, rj⟩) (fun pos => ⟨_, rc⟩)
    | Or =>
      obtain ⟨p, l1, l2, h1, p1, h, p2⟩ := aQ (show Rs.bnd _ _ = _ from h) hp
      obtain ⟨b', hb, h⟩ := lW h
      have c := I.e e (bj (by simp <;> omega) hs) h1 p1 G
      have ce := c.ed rfl
      rw [hb] at ce
      have ct := c.td rfl b' hb
      rcases t6 h p2 with ⟨rfl, m, h, pm⟩ | ⟨rfl, rfl⟩
      . cases es with
        | nil => cases h; exact fV ce ct
        | cons e2 es => exact vz ce ct (I.b .Or (e2 :: es) (bj (by simp <;> omega) hs) h pm G)
      . cases es with
        | nil => exact fV ce ct
        | cons e2 es => exact tq ce ct (fun pos => ⟨_, rj⟩) (fun pos => ⟨_, rc⟩)
theorem EX (I : Ih Φ n) (e : Option Expr) {o : Option Int} (hs : sizeOf e < n + 1) (h : mD Φ e sc ρ = .ok o l) (hp : aJ l) (G : bg Φ X sc) : OD X ρ e o := by
  cases e with
  | none => cases h; exact BK
  | some e =>
    obtain ⟨p, l1, l2, h1, p1, h, p2⟩ := aQ (show Rs.bnd _ _ = _ from h) hp
    have c := (I.e e (bj (by simp <;> omega) hs) h1 p1 G).ed rfl
    split at h
    . rename_i i hi
      cases h
      rw [hi] at c
      exact BJ c
    . cases h
end
theorem hZ (Φ : Fx) : ∀ n, Ih Φ n
  | 0 => ⟨fun _ _ _ _ _ _ _ h => absurd h (Nat.not_lt_zero _), fun _ _ _ _ _ _ h => absurd h (Nat.not_lt_zero _), fun _ _ _ _ _ _ _ h => absurd h (Nat.not_lt_zero _), fun _ _ _ _ _ _ h => absurd h (Nat.not_lt_zero _)⟩
  | n + 1 => ⟨fun e _ _ _ _ _ _ hs h hp G => HK (hZ Φ n) e hs h hp G, fun e _ _ _ _ _ hs h hp G => EW (hZ Φ n) e hs h hp G, fun op e _ _ _ _ _ hs h hp G => EY (hZ Φ n) op e hs h hp G, fun e _ _ _ _ _ hs h hp G => EX (hZ Φ n) e hs h hp G⟩
theorem HL {Φ : Fx} (e : Expr) {it : Bool} {sc : Scope} {ρ : aj} {p : D × Nat} {l : List Prop} {X : Cx} (h : aA Φ e it sc ρ = .ok p l) (hp : aJ l) (G : bg Φ X sc) : fk X ρ e it p.1 p.2 := (hZ Φ _).e e (Nat.lt_succ_self _) h hp G
theorem se {Φ : Fx} (es : List Expr) {sc : Scope} {ρ : aj} {p : List D × Nat} {l : List Prop} {X : Cx} (h : cx Φ es sc ρ = .ok p l) (hp : aJ l) (G : bg Φ X sc) : AD X ρ es p.1 p.2 := (hZ Φ _).es es (Nat.lt_succ_self _) h hp G
end Sp
namespace Sp
open PySem PySem.Spec PyProof.Rows L2
structure bz (ow : Ow) (H : Hp) (ow' : Ow) (H' : Hp) : Prop where
  keep : ∀ a o, H a = some o -> (nm o \/ ow a = none) -> H' a = some o
  low : ∀ a o, H a = some o -> ow a = none -> ow' a = none
theorem bz.refl (ow : Ow) (H : Hp) : bz ow H ow H := ⟨fun _ _ h _ => h, fun _ _ _ h => h⟩
theorem bz.same {ow : Ow} {H H' : Hp} (s : aF H H') : bz ow H ow H' := ⟨fun a o h _ => s a o h, fun _ _ _ h => h⟩
theorem bz.trans {ow ow1 ow2 : Ow} {H H1 H2 : Hp} (a : bz ow H ow1 H1) (b : bz ow1 H1 ow2 H2) : bz ow H ow2 H2 :=
  ⟨fun x o h c => b.keep x o (a.keep x o h c) (c.imp id fun z => a.low x o h z), fun x o h z => b.low x o (a.keep x o h (.inr z)) (a.low x o h z)⟩
def dW (H0 : Hp) (ow : Ow) (H : Hp) : Prop := ∀ a o, H0 a = some o -> H a = some o /\ ow a = none
theorem dW.keep {H0 : Hp} {ow ow' : Ow} {H H' : Hp} (b : dW H0 ow H) (k : bz ow H ow' H') : dW H0 ow' H' := fun a o h => let ⟨h1, h2⟩ := b a o h; ⟨k.keep a o h1 (.inr h2), k.low a o h1 h2⟩
theorem dW.sm {H0 : Hp} {ow : Ow} {H : Hp} (b : dW H0 ow H) : aF H0 H := fun a o h => (b a o h).1
variable {X : Cx}
def pH (X : Cx) (H0 : Hp) (ow : Ow) (H : Hp) (fl : Fl) (D : k7) : Prop :=
  match fl with
  | .nx ρ => ∀ ow' σ' H', bc X ow' H' σ' ρ -> σ'.length = X.N.length -> bz ow H ow' H' -> D.nx σ' H'
  | .bk ρ => ∀ ow' σ' H', bc X ow' H' σ' ρ -> σ'.length = X.N.length -> bz ow H ow' H' -> D.bk σ' H'
  | .ct ρ => ∀ ow' σ' H', bc X ow' H' σ' ρ -> σ'.length = X.N.length -> bz ow H ow' H' -> D.ct σ' H'
  | .rt d => ∀ v H', aF H0 H' -> ah X.K H' (fun a b => b = true /\ H0 a = none) d v -> D.rt v H'
theorem pH.keep {H0 : Hp} {ow ow' : Ow} {H H' : Hp} {fl : Fl} {D : k7} (p : pH X H0 ow H fl D) (k : bz ow H ow' H') : pH X H0 ow' H' fl D := by
  cases fl with
  | nx ρ => exact fun ow2 σ2 H2 a b c => p ow2 σ2 H2 a b (k.trans c)
  | bk ρ => exact fun ow2 σ2 H2 a b c => p ow2 σ2 H2 a b (k.trans c)
  | ct ρ => exact fun ow2 σ2 H2 a b c => p ow2 σ2 H2 a b (k.trans c)
  | rt d => exact p
def zS (X : Cx) (H0 : Hp) (ρ : aj) (fl : Fl) : TS := fun D σ H => ∃ ow, bc X ow H σ ρ /\ σ.length = X.N.length /\ dW H0 ow H /\ pH X H0 ow H fl D
def SD (X : Cx) (H0 : Hp) (ρ : aj) (st : Stmt) (fl : Fl) : Prop := PS X st (zS X H0 ρ fl)
def jf (X : Cx) (H0 : Hp) (ρ : aj) (st : List Stmt) (fl : Fl) : Prop := gJ X st (zS X H0 ρ fl)
theorem Bb {H0 : Hp} {ρ : aj} : jf X H0 ρ [] (.nx ρ) := fun pins s σ H D I ⟨ow, E, hl, B, q⟩ => Bo pins s σ H D I (q ow σ H E hl (bz.refl _ _))
theorem qO {H0 : Hp} {ρ ρ1 : aj} {st : Stmt} {ss : List Stmt} {fl : Fl} (h1 : SD X H0 ρ st (.nx ρ1)) (h2 : jf X H0 ρ1 ss fl) : jf X H0 ρ (st :: ss) fl := fun pins s σ H D I ⟨ow, E, hl, B, q⟩ =>
  rf h1 h2 pins s σ H D I ⟨ow, E, hl, B, fun ow' σ' H' E' hl' k => ⟨ow', E', hl', B.keep k, q.keep k⟩⟩
theorem jj {H0 : Hp} {ρ : aj} {st : Stmt} {ss : List Stmt} {fl : Fl} (h1 : SD X H0 ρ st fl) (hf : ∀ ρ', fl ≠ .nx ρ') : jf X H0 ρ (st :: ss) fl := fun pins s σ H D I ⟨ow, E, hl, B, q⟩ =>
  rf h1 j5 pins s σ H D I ⟨ow, E, hl, B, by
    cases fl with
    | nx ρ' => exact absurd rfl (hf ρ')
    | bk ρ' => exact q
    | ct ρ' => exact q
    | rt d => exact q⟩
theorem v6 {H0 : Hp} {ρ : aj} {e : Expr} {pos : Pos} {d : D} {k : Nat} (h : ED X ρ e d k) (hk : k = 0 \/ k = 2) : SD X H0 ρ (.Return (some e) pos) (.rt d) := fun pins s σ H D I ⟨ow, E, hl, B, q⟩ =>
  DI (h ow) pins s σ H D I ⟨E, fun v H1 s1 r1 => q v H1 (B.sm.trans s1) (r1.imp fun a b p => by
    rcases hk with rfl | rfl
    . exact ⟨p.1, B.sm.free p.2⟩
    . refine ⟨p.1, p.2.elim (fun z => ?_) B.sm.free⟩
      cases e0 : H0 a with
      | none => rfl
      | some o => exact absurd (B a o e0).2 z)⟩
theorem Bh {H0 : Hp} {ρ : aj} {e : Expr} {pos : Pos} {d : D} {k : Nat} (h : ED X ρ e d k) (hc : ∃ f p args ks cp, e = .Call (.Name f p) args ks cp) : SD X H0 ρ (.Expr e pos) (.nx ρ) := fun pins s σ H D I ⟨ow, E, hl, B, q⟩ => by
  obtain ⟨f, p, args, ks, cp, rfl⟩ := hc
  exact oQ (h ow) rfl pins s σ H D I ⟨E, fun v H1 s1 r1 => q ow σ H1 (E.same s1) hl (bz.same s1)⟩
theorem Bf {H0 : Hp} {ρ : aj} {pos : Pos} : SD X H0 ρ (.Return none pos) (.rt .non) := fun pins s σ H D I ⟨ow, E, hl, B, q⟩ => Bp pins s σ H D I (q .non H B.sm (by rw [ah]))
theorem Bg {H0 : Hp} {ρ : aj} {pos : Pos} : SD X H0 ρ (.Pass pos) (.nx ρ) := fun pins s σ H D I ⟨ow, E, hl, B, q⟩ => Bq pins s σ H D I (q ow σ H E hl (bz.refl _ _))
theorem yc {H0 : Hp} {ρ : aj} {pos : Pos} : SD X H0 ρ (.Break pos) (.bk ρ) := fun pins s σ H D I ⟨ow, E, hl, B, q⟩ => yf pins s σ H D I (q ow σ H E hl (bz.refl _ _))
theorem Bj {H0 : Hp} {ρ : aj} {pos : Pos} : SD X H0 ρ (.Continue pos) (.ct ρ) := fun pins s σ H D I ⟨ow, E, hl, B, q⟩ => sY pins s σ H D I (q ow σ H E hl (bz.refl _ _))
theorem Hb {H0 : Hp} {ρ : aj} {c : Expr} {a b : List Stmt} {pos : Pos} {t : Bool} {fl : Fl} (hc : TD X ρ c t) (h : if t = true then jf X H0 ρ a fl else jf X H0 ρ b fl) : SD X H0 ρ (.If c a b pos) fl := by
  cases t with
  | true =>
    intro pins s σ H D I ⟨ow, E, hl, B, q⟩
    exact Ac (hc ow) h j5 pins s σ H D I ⟨E, fun H1 s1 => by
      show if true = true then _ else _
      rw [if_pos rfl]
      exact ⟨ow, E.same s1, hl, B.keep (bz.same s1), q.keep (bz.same s1)⟩⟩
  | false =>
    intro pins s σ H D I ⟨ow, E, hl, B, q⟩
    exact Ac (hc ow) j5 h pins s σ H D I ⟨E, fun H1 s1 => by
      show if false = true then _ else _
      rw [if_neg Bool.false_ne_true]
      exact ⟨ow, E.same s1, hl, B.keep (bz.same s1), q.keep (bz.same s1)⟩⟩
theorem ux {ow : Ow} {H H1 : Hp} {σ : L2.St} {ρ : aj} {x : Str} {d : D} {v : V} {i : Nat} (hN : X.N.Nodup) (hl : σ.length = X.N.length) (E : bc X ow H σ ρ) (sm : aF H H1) (hi : X.N[i]? = some x) (hv : jH X.env.scope x) (r : ah X.K H1 (Kp ow H 0) d v) :
    ∃ ow', bc X ow' H1 (σ.set i (some v)) (bT ρ x (d, true)) /\ bz ow H ow' H1 := by
  classical
  let ow' : Ow := fun a => if H a = none /\ ∃ o, H1 a = some o then some (some x) else ow a
  have o1 : ∀ a o, H a = some o -> ow' a = ow a := fun a o h => if_neg (fun z => by rw [h] at z; cases z.1)
  have E1 : bc X ow' H1 σ ρ := ⟨fun y e o h => by
    obtain ⟨j, w, e1, e2, e3, e4⟩ := E.get y e o h
    refine ⟨j, w, e1, e2, e3, ah.same sm (e4.impH (fun a ob ha p => ?_) fun a p => ?_)⟩
    . cases o with
      | true => exact ⟨p.1, (o1 a ob ha).trans p.2⟩
      | false => exact fun z => (o1 a ob ha).trans (p z)
    . cases o with
      | true => cases p.1
      | false => exact fun z => (by cases z), fun a ha => by
    by_cases hz : H a = none /\ ∃ o, H1 a = some o
    . exact hz.2
    . have : ow' a = ow a := if_neg hz
      rw [this] at ha
      exact (E.own.same sm) a ha⟩
  refine ⟨ow', fi hN hl E1 hi hv (r.impH (fun a o ha p => ⟨rfl, if_pos ⟨p.2, o, ha⟩⟩) fun a p => (by cases p.1)), fun a o h _ => sm a o h, fun a o h z => (o1 a o h).trans z⟩
theorem sX {e : Expr} {t : Option Expr} {n : Nat} {env : Env} (h : nV e = false) : swapsWith e t n env = pure false := by
  cases e <;> first | rfl | cases h
theorem v5 {Φ : Fx} {sc : Scope} {H0 : Hp} {ρ : aj} {e : Expr} {x : Str} {p pos : Pos} {d : D} {k : Nat} {o : Bool} (G : bg Φ X sc) (hx : d6 sc x = true) (h : ED X ρ e d k) (ho : (k = 0 /\ o = true) \/ (k = 1 /\ o = false)) (hs : swapsWith e (some (.Name x p)) pos.line X.env = pure false) :
    SD X H0 ρ (.Assign [.Name x p] e pos) (.nx (bT ρ x (d, o))) := by
  obtain ⟨g1, g2, g3, i, g4⟩ := g9 G hx
  intro pins s σ H D I ⟨ow, E, hl, B, q⟩
  refine DH (i := i) G.nd g4 g1 (h ow) hs g3 pins s σ H D I ⟨E, fun v H1 s1 r1 => ?_⟩
  show D.nx (σ.set i (some v)) H1
  rcases ho with ⟨rfl, rfl⟩ | ⟨rfl, rfl⟩
  . obtain ⟨ow', E', k'⟩ := ux G.nd hl E s1 g4 g2 r1
    exact q ow' _ H1 E' (by rw [List.length_set]; exact hl) k'
  . exact q ow _ H1 (fi G.nd hl (E.same s1) g4 g2 r1) (by rw [List.length_set]; exact hl) (bz.same s1)
theorem jR {e : Expr} {es : List Expr} {n k : Nat} {p : Pos} {env : Env} : swapsWithSole [.Tuple es n p] e k env = pure false := by
  cases e <;> rfl
theorem pM {e a i : Expr} {k : Nat} {p : Pos} {env : Env} : swapsWithSole [.Subscript a i p] e k env = pure false := by
  cases e <;> rfl
def Nh (K : W.Frag) (n : Nat) (t : oF) : TG := fun v σ H Q => ∃ a xs, v = .ref a /\ cv K H a xs /\ xs.length = n /\ t xs σ H Q
theorem DR {es : List Expr} {k : Nat} {t : oF} {n : Nat} {pos : Pos} (hc : X.calm = true) (h : uF X es t)
    (hn : (assignEach es X.env).length = n) (hst : (assignEach es X.env).findIdx? (·.1) = none) : PG X (.Tuple es k pos) (Nh X.K n t) := by
  intro pins s σ H v u Q I r hw
  obtain ⟨a, xs, e1, hq, hl, hw⟩ := hw
  subst e1
  cases r
  obtain ⟨its, rv, pl, hz⟩ := I.list hq
  have hsz : (assignEach es X.env).length = its.toArray.size := by simp [hn, <- hl, rv.length]
  rw [assign_Tuple]
  refine wpAny_bind (wpAny_standAt ?_)
  unfold unpack
  rw [hst, hsz]
  refine wpAny_bind (wpAny_holding (W.kun_itemsOf (I.ok.hd hc) pl.isList fun h' hx => ?_))
  have I1 : ak X pins σ H { s with heap := h' } := I.kept (t' := s.toks) fun b o e => hx b o (Nat.ne_of_lt (Heap.lt_size e)) e
  exact h pins _ σ H xs _ Q I1 (by simpa using rv) hw
theorem nH {ow : Ow} {H H1 : Hp} {ds : List D} {vs : List V} {k : Nat} (o : eQ ow H) (hf : am ds = true \/ k <= 1) (r : ag X.K H1 (Kp ow H k) ds vs) : ag X.K H1 (fun a b => b = true -> ow a = none) ds vs := by
  rcases hf with hf | hf
  . exact r.flat _ hf
  . exact r.imp fun a b p hb => by subst hb; exact iu o hf p
theorem tR {Φ : Fx} {sc : Scope} {es : List Expr} {e : Expr} {n : Nat} {p : Pos} (G : bg Φ X sc) (ht : tS sc es e = false) : swappedStores [.Tuple es n p] e X.env = pure none := by
  unfold tS at ht
  cases hte : hJ e with
  | false => cases e <;> first | rfl | cases hte
  | true =>
    rw [hte] at ht
    have hc : sB sc es e = true := by simpa using ht
    unfold sB at hc
    split at hc
    . rename_i x px y py a b m q
      have k1 : X.env.kindOf x = some .cell := G.cc x (by simpa using hc)
      unfold swappedStores
      dsimp only
      split
      . rfl
      . split
        . rfl
        . rw [if_pos]
          rw [List.filterMap_cons_none (by simp [k1])]
          have : ∀ l : List Str, l.length <= 1 -> (l.length != [Expr.Name x px, Expr.Name y py].length || l.eraseDups.length != l.length) = true := fun l hl => by
            have : (l.length != [Expr.Name x px, Expr.Name y py].length) = true := by simp; omega
            rw [this]; rfl
          exact this _ (Nat.le_trans (List.length_filterMap_le _ _) (Nat.le_refl _))
    . cases hc
theorem Dw {Φ : Fx} {sc : Scope} {H0 : Hp} {ρ ρ' : aj} {es : List Expr} {e : Expr} {n : Nat} {p pos : Pos} {d : D} {ds : List D} {k : Nat} (G : bg Φ X sc) (h : ED X ρ e d k) (hd : eG d = some ds) (hf : am ds = true \/ k <= 1) (hb : aV sc es ds ρ = some ρ') (ht : tS sc es e = false) :
    SD X H0 ρ (.Assign [.Tuple es n p] e pos) (.nx ρ') := by
  obtain ⟨t, h1, h2, h3, h4⟩ := j7 G hb
  intro pins s σ H D I ⟨ow, E, hl, B, q⟩
  have fin : ∀ H1 vs, aF H H1 -> ag X.K H1 (Kp ow H k) ds vs -> t vs σ H1 D.nx := fun H1 vs s1 rl => h4 ow vs σ H1 D.nx hl (E.same s1) (nH E.own hf rl) fun σ' hl' E' => q ow σ' H1 E' hl' (bz.same s1)
  rcases eZ hd with rfl | rfl
  . refine nI (h ow) (we (n := _) G.calm h1 h2 h3) jR (tR G ht) rfl pins s σ H D I ⟨E, fun v H1 s1 r1 => ?_⟩
    obtain ⟨a, vs, rfl, hs, rl⟩ := eS r1
    exact ⟨a, vs, rfl, hs, rl.length.symm, fin H1 vs s1 rl⟩
  . refine nI (h ow) (DR (n := _) G.calm h1 h2 h3) jR (tR G ht) rfl pins s σ H D I ⟨E, fun v H1 s1 r1 => ?_⟩
    obtain ⟨a, vs, rfl, hs, rl⟩ := im r1
    exact ⟨a, vs, rfl, hs, rl.length.symm, fin H1 vs s1 rl⟩
theorem uP {sc : Scope} {Φ : Fx} {x y : Str} {px py p p2 : Pos} {n n2 : Nat} {a b : Expr} (G : bg Φ X sc) (hk : X.env.scope.kind = .function) (h : nL sc x y px py a b = true) (ha : ∀ x p, a ≠ .Starred x p) (hb : ∀ x p, b ≠ .Starred x p) :
    swappedStores [.Tuple [.Name x px, .Name y py] n p] (.Tuple [a, b] n2 p2) X.env = pure (some [x, y]) := by
  unfold nL at h
  simp only [Bool.and_eq_true, Bool.not_eq_true', beq_iff_eq, decide_eq_false_iff_not] at h
  obtain ⟨⟨⟨⟨⟨h1, h2⟩, h3⟩, h4⟩, h5⟩, h6⟩ := h
  have k1 : X.env.kindOf x = some .local := G.lc x h1
  have k2 : X.env.kindOf y = some .local := G.lc y h2
  have bk : X.env.blockKind = .function := by unfold Env.blockKind; rw [hk]; rfl
  have an : ∀ f : Expr -> Bool, (∀ e, (∀ x p, e ≠ .Starred x p) -> f e = false) -> ¬ ([a, b].any f = true) := fun f hf => by simp [hf a ha, hf b hb]
  have fm : ∀ f : Expr -> Option Str, f (.Name x px) = some x -> f (.Name y py) = some y -> [Expr.Name x px, Expr.Name y py].filterMap f = [x, y] := fun f h1 h2 => by simp [h1, h2]
  have ed : [x, y].eraseDups = [x, y] := by
    have e1 : (!(y == x)) = true := by simp; exact fun z => h4 z.symm
    rw [List.eraseDups_cons, List.filter_cons_of_pos (p := fun b => !b == x) e1, List.filter_nil]
    rfl
  unfold swappedStores
  dsimp only
  rw [bk]
  refine (if_neg (by simp)).trans ?_
  refine (if_neg (an _ fun e he => by cases e <;> first | rfl | exact absurd rfl (he _ _))).trans ?_
  rw [fm _ (by show (if (X.env.kindOf x == some NameKind.local && px.line == px.line) = true then some x else none) = some x; rw [k1]; simp) (by show (if (X.env.kindOf y == some NameKind.local && py.line == px.line) = true then some y else none) = some y; rw [k2, h3]; simp)]
  rw [ed]
  refine (if_neg (by simp)).trans ?_
  rw [h5, h6]
  rfl
theorem Dx {Φ : Fx} {sc : Scope} {H0 : Hp} {ρ : aj} {a b : Expr} {x y : Str} {px py p p2 pos : Pos} {n n2 : Nat} {u v : D} {k : Nat} (G : bg Φ X sc) (h : AD X ρ [a, b] [u, v] k) (hf : am [u, v] = true \/ k <= 1) (hp : nL sc x y px py a b = true) (ha : ∀ x p, a ≠ .Starred x p) (hb : ∀ x p, b ≠ .Starred x p) :
    SD X H0 ρ (.Assign [.Tuple [.Name x px, .Name y py] n p] (.Tuple [a, b] n2 p2) pos) (.nx (bT (bT ρ x (u, false)) y (v, false))) := by
  have hp0 := hp
  unfold nL at hp
  simp only [Bool.and_eq_true, Bool.not_eq_true', beq_iff_eq, decide_eq_false_iff_not] at hp
  obtain ⟨⟨⟨⟨⟨l1, l2⟩, _⟩, hxy⟩, _⟩, _⟩ := hp
  obtain ⟨g1, g2, g3, i, g4⟩ := g9 (x := x) G (by unfold d6; rw [l1]; rfl)
  obtain ⟨j1, j2, j3, j, j4⟩ := g9 (x := y) G (by unfold d6; rw [l2]; rfl)
  have hij : i ≠ j := by intro z; subst z; rw [g4] at j4; cases j4; exact hxy rfl
  intro pins s σ H D I ⟨ow, E, hl, B, q⟩
  refine DJ (i := i) (j := j) G.calm G.nd g4 j4 hij (G.lc x l1) (G.lc y l2) (h ow) (uP G I.ok.kind hp0 ha hb) jR pins s σ H D I ⟨E, fun vs H1 s1 r1 => ?_⟩
  have rs := nH E.own hf r1
  rw [ag] at rs
  obtain ⟨v1, r, rfl, rv1, rs⟩ := rs
  obtain ⟨v2, rfl, rv2⟩ := rs.only
  refine ⟨v1, v2, rfl, ?_⟩
  have E1 := fi (o := false) G.nd hl (E.same s1) g4 g2 rv1
  have hl1 : (σ.set i (some v1)).length = X.N.length := by rw [List.length_set]; exact hl
  exact q ow _ H1 (fi (o := false) G.nd hl1 E1 j4 j2 rv2) (by rw [List.length_set]; exact hl1) (bz.same s1)
theorem xa {ow : Ow} {H1 : Hp} {σ : L2.St} {ρ : aj} {x : Str} {l' : List D} {a : Addr} {vs vs' : List V} {i : Nat} (E : bc X ow H1 σ ρ) (hi : X.N[i]? = some x) (hs : σ[i]? = some (some (.ref a)))
    (hv : jH X.env.scope x) (ha : H1 a = some (.lst vs)) (ho : ow a = some (some x)) (f : am l' = true) (r : ag X.K H1 (fun _ _ => True) l' vs') :
    bc X ow (bh H1 a (.lst vs')) σ (bT ρ x (.lst l', true)) := by
  have st : ∀ {P : bx}, (P a true -> False) -> d7 P P H1 (bh H1 a (.lst vs')) := fun {P} h => ⟨fun b o hb hn => by rw [aO (fun z => by subst z; rw [ha] at hb; cases hb; exact hn)]; exact hb, fun b ws hb p => by rw [aO (fun z => by subst z; exact h p)]; exact hb, fun _ _ _ p => p, fun _ p => p⟩
  have r' : ag X.K (bh H1 a (.lst vs')) (j8 ow x true) l' vs' := ag.flat _ f ((r.flat (fun _ _ => False) f).mono (st fun z => z))
  refine ⟨fun y e o h => ?_, fun b hb => ?_⟩
  . rw [dy] at h
    by_cases hy : y = x
    . subst hy
      rw [if_pos rfl] at h
      cases h
      exact ⟨i, .ref a, hi, hv, hs, by rw [ah]; exact ⟨a, vs', true, rfl, aU, ⟨rfl, ho⟩, r'⟩⟩
    . rw [if_neg hy] at h
      obtain ⟨j, w, e1, e2, e3, e4⟩ := E.get y e o h
      refine ⟨j, w, e1, e2, e3, e4.mono (st fun p => ?_)⟩
      cases o with
      | true => have := p.2; rw [ho] at this; cases this; exact hy rfl
      | false => have := p rfl; rw [ho] at this; cases this
  . by_cases hz : b = a
    . subst hz; exact ⟨_, aU⟩
    . rw [aO hz]; exact E.own b hb
theorem D5 {ow : Ow} {H : Hp} {σ : L2.St} {ρ : aj} {x : Str} {l : List D} (E : bc X ow H σ ρ) (h : ρ x = some (.lst l, true)) : ∃ (i : Nat) (a : Addr) (vs : List V), X.N[i]? = some x /\ jH X.env.scope x /\ σ[i]? = some (some (.ref a)) /\ H a = some (.lst vs) /\ ow a = some (some x) /\ ag X.K H (fun _ _ => True) l vs := by
  obtain ⟨i, v, e1, e2, e3, e4⟩ := E.get x _ _ h
  rw [ah] at e4
  obtain ⟨a, vs, b, rfl, hl, hp, rl⟩ := e4
  cases hp.1
  exact ⟨i, a, vs, e1, e2, e3, hl, hp.2, rl.imp fun _ _ _ => True.intro⟩
theorem vj {ow : Ow} {H H1 : Hp} {a : Addr} {vs vs' : List V} {x : Str} (sm : aF H H1) (h0 : H a = some (.lst vs)) (ho : ow a = some (some x)) : bz ow H ow (bh H1 a (.lst vs')) :=
  ⟨fun b o h c => by
    rw [aO (fun z => by
      subst z
      rw [h0] at h; cases h
      rcases c with c | c
      . exact c
      . rw [ho] at c; cases c)]
    exact sm b o h, fun _ _ _ z => z⟩
theorem kr {pins : List (Addr × Obj)} {σ : L2.St} {H : Hp} {s : Shared} (I : ak X pins σ H s) {a : Addr} {o : Obj} (h : X.K.lookup a = some o) : H a = none := (I.bs a o (I.ok.mod.kin a o h)).2
mutual
def D.lsz : D -> Nat
  | .lst l => 1 + iH l
  | .tup l => iH l
  | _ => 0
def iH : List D -> Nat
  | [] => 0
  | d :: l => d.lsz + iH l
end
theorem yB {pins : List (Addr × Obj)} {σ : L2.St} {H : Hp} {s : Shared} (I : ak X pins σ H s) {P : bx} {d : D} {a : Addr} {vs : List V} (ha : H a = some (.lst vs)) (h : ah X.K H P d (.ref a)) : ∃ l, d = .lst l := by
  cases d with
  | lst l => exact ⟨l, rfl⟩
  | tup l =>
    rw [ah] at h
    obtain ⟨a', vs', e, hs, _⟩ := h
    cases e
    rcases hs with (q | ⟨o, q⟩) | ⟨o, its, n, q, _⟩
    . rw [ha] at q; cases q
    . rw [ha] at q; cases q
    . rw [kr I q] at ha; cases ha
  | dct _ _ => rw [ah] at h; obtain ⟨_, _, a', _, e, hl, _⟩ := h; cases e; rw [ha] at hl; cases hl
  | sn m => rw [ah] at h; obtain ⟨a', S, e, hl⟩ := h; cases e; rw [ha] at hl; cases hl
  | obj n ns es => rw [ah] at h; obtain ⟨_, _, a', C, dx, vs', e, _, _, hl, _⟩ := h; cases e; rw [ha] at hl; cases hl
  | cls n => rw [ah] at h; obtain ⟨C, o', e, _, hl, _⟩ := h; cases e; rw [kr I hl] at ha; cases ha
  | _ => rw [ah] at h; cases h
theorem xV {pins : List (Addr × Obj)} {σ : L2.St} {H : Hp} {s : Shared} (I : ak X pins σ H s) {P : bx} (hP : ∀ a b, P a b -> b = true) {d : D} {a : Addr} {vs : List V} (ha : cu X.K H a vs) (h : ah X.K H P d (.ref a)) : ∃ l, d = .tup l /\ ag X.K H P l vs := by
  have no : ∀ o, H a = some o -> (∀ xs, o ≠ .tup xs) -> (∀ p q, o ≠ .frz p q) -> False := fun o e h1 h2 => by
    rcases ha with (q | ⟨o', q⟩) | ⟨o', its, n, q, _⟩
    . rw [e] at q; cases q; exact h1 _ rfl
    . rw [e] at q; cases q; exact h2 _ _ rfl
    . rw [kr I q] at e; cases e
  cases d with
  | lst l =>
    rw [ah] at h
    obtain ⟨a', vs', b, e, hl, p, _⟩ := h
    cases e
    cases hP _ _ p
    exact (no _ hl (fun _ z => nomatch z) fun _ _ z => nomatch z).elim
  | tup l =>
    rw [ah] at h
    obtain ⟨a', vs', e, hs, rl⟩ := h
    cases e
    have := I.tuple_inj ha hs
    subst this
    exact ⟨l, rfl, rl⟩
  | dct _ _ => rw [ah] at h; obtain ⟨_, _, a', _, e, hl, _⟩ := h; cases e; exact (no _ hl (fun _ z => nomatch z) fun _ _ z => nomatch z).elim
  | sn m => rw [ah] at h; obtain ⟨a', S, e, hl⟩ := h; cases e; exact (no _ hl (fun _ z => nomatch z) fun _ _ z => nomatch z).elim
  | obj n ns es => rw [ah] at h; obtain ⟨_, _, a', C, dx, vs', e, _, _, hl, _⟩ := h; cases e; exact (no _ hl (fun _ z => nomatch z) fun _ _ z => nomatch z).elim
  | cls n =>
    rw [ah] at h
    obtain ⟨C, o', e, _, hl, ht, _⟩ := h
    cases e
    rcases ha with (q | ⟨o, q⟩) | ⟨o, its, n, q, hc, _⟩
    . rw [kr I hl] at q; cases q
    . rw [kr I hl] at q; cases q
    . rw [hl] at q; cases q; rw [hc] at ht; injection ht with ht; exact absurd ht (by decide)
  | _ => rw [ah] at h; cases h
mutual
theorem qZ {pins : List (Addr × Obj)} {σ : L2.St} {H : Hp} {s : Shared} (I : ak X pins σ H s) {P : bx} (hP : ∀ a b, P a b -> b = true) : ∀ (d d' : D) (v : V), ah X.K H P d v -> ah X.K H P d' v -> d.lsz <= d'.lsz
  | .tup l, d', v, h, h' => by
    rw [ah] at h
    obtain ⟨a, vs, rfl, hs, rl⟩ := h
    obtain ⟨l', rfl, rl'⟩ := xV I hP hs h'
    rw [D.lsz, D.lsz]; exact jY I hP l l' vs rl rl'
  | .lst l, d', v, h, h' => by
    rw [ah] at h
    obtain ⟨a, vs, b, rfl, hs, p, rl⟩ := h
    cases hP _ _ p
    replace hs : H a = some (.lst vs) := hs
    obtain ⟨l', rfl⟩ := yB I hs h'
    rw [ah] at h'
    obtain ⟨a', vs', b, e, hl, p', rl'⟩ := h'
    cases e
    cases hP _ _ p'
    replace hl : H a = some (.lst vs') := hl
    rw [hs] at hl; cases hl
    rw [D.lsz, D.lsz]
    exact Nat.add_le_add_left (jY I hP l l' vs rl rl') 1
  | .non, _, _, _, _ => Nat.zero_le _
  | .bl _, _, _, _, _ => Nat.zero_le _
  | .int _, _, _, _, _ => Nat.zero_le _
  | .str _, _, _, _, _ => Nat.zero_le _
  | .dct _ _, _, _, _, _ => Nat.zero_le _
  | .typ _, _, _, _, _ => Nat.zero_le _
  | .sn _, _, _, _, _ => Nat.zero_le _
  | .obj _ _ _, _, _, _, _ => Nat.zero_le _
  | .cls _, _, _, _, _ => Nat.zero_le _
theorem jY {pins : List (Addr × Obj)} {σ : L2.St} {H : Hp} {s : Shared} (I : ak X pins σ H s) {P : bx} (hP : ∀ a b, P a b -> b = true) : ∀ (l l' : List D) (vs : List V), ag X.K H P l vs -> ag X.K H P l' vs -> iH l <= iH l'
  | [], l', vs, h, h' => Nat.zero_le _
  | d :: l, l', vs, h, h' => by
    rw [ag] at h
    obtain ⟨v, r, rfl, h1, h2⟩ := h
    cases l' with
    | nil => rw [ag] at h'; cases h'
    | cons d' l' =>
      rw [ag] at h'
      obtain ⟨v', r', e, h1', h2'⟩ := h'
      cases e
      rw [iH, iH]
      exact Nat.add_le_add (qZ I hP d d' v h1 h1') (jY I hP l l' r h2 h2')
end
mutual
theorem DC {pins : List (Addr × Obj)} {σ : L2.St} {H : Hp} {s : Shared} (I : ak X pins σ H s) {P : bx} (hP : ∀ a b, P a b -> b = true) {A : Addr} {l : List D} (hA : ah X.K H P (.lst l) (.ref A)) : ∀ (d : D) (v : V), d.lsz < (D.lst l).lsz -> ah X.K H P d v -> ah X.K H (fun a b => P a b /\ a ≠ A) d v
  | .tup m, v, hs, h => by
    rw [ah] at h ⊢
    obtain ⟨a, vs, e, h1, h2⟩ := h
    exact ⟨a, vs, e, h1, lu I hP hA m vs (by rw [D.lsz] at hs; exact hs) h2⟩
  | .lst m, v, hs, h => by
    have h0 := h
    rw [ah] at h ⊢
    obtain ⟨a, vs, b, e, h1, p, h2⟩ := h
    refine ⟨a, vs, b, e, h1, ⟨p, fun z => ?_⟩, lu I hP hA m vs (by rw [D.lsz] at hs; omega) h2⟩
    subst e z
    have := qZ I hP _ _ _ hA h0
    exact absurd (Nat.lt_of_lt_of_le hs this) (Nat.lt_irrefl _)
  | .non, v, _, h => by rw [ah] at h ⊢; exact h
  | .bl _, v, _, h => by rw [ah] at h ⊢; exact h
  | .int _, v, _, h => by rw [ah] at h ⊢; exact h
  | .str _, v, _, h => by rw [ah] at h ⊢; exact h
  | .dct ks es, v, _, h => by
    rw [ah] at h ⊢
    obtain ⟨f, e0, a, vs, e, h1, p, r⟩ := h
    refine ⟨f, e0, a, vs, e, h1, ⟨p, fun z => ?_⟩, r.flat _ f⟩
    subst z
    rw [ah] at hA
    obtain ⟨a2, vs2, b, e2, hl, p2, _⟩ := hA
    cases e2
    cases hP _ _ p2
    replace hl : H a = some (.lst vs2) := hl
    rw [h1] at hl; cases hl
  | .typ _, v, _, h => by rw [ah] at h ⊢; exact h
  | .sn _, v, _, h => by rw [ah] at h ⊢; exact h
  | .obj n ns es, v, _, h => h.flat _ rfl
  | .cls n, v, _, h => h.flat _ rfl
theorem lu {pins : List (Addr × Obj)} {σ : L2.St} {H : Hp} {s : Shared} (I : ak X pins σ H s) {P : bx} (hP : ∀ a b, P a b -> b = true) {A : Addr} {l : List D} (hA : ah X.K H P (.lst l) (.ref A)) : ∀ (m : List D) (vs : List V), iH m < (D.lst l).lsz -> ag X.K H P m vs -> ag X.K H (fun a b => P a b /\ a ≠ A) m vs
  | [], vs, _, h => by rw [ag] at h ⊢; exact h
  | d :: m, vs, hs, h => by
    rw [ag] at h ⊢
    obtain ⟨v, r, e, h1, h2⟩ := h
    exact ⟨v, r, e, DC I hP hA d v (by rw [iH] at hs; omega) h1, lu I hP hA m r (by rw [iH] at hs; omega) h2⟩
end
theorem D6 {pins : List (Addr × Obj)} {s : Shared} {ow : Ow} {H : Hp} {σ : L2.St} {ρ : aj} {x : Str} {l : List D} (I : ak X pins σ H s) (E : bc X ow H σ ρ) (h : ρ x = some (.lst l, true)) : ∃ (i : Nat) (a : Addr) (vs : List V), X.N[i]? = some x /\ jH X.env.scope x /\ σ[i]? = some (some (.ref a)) /\ H a = some (.lst vs) /\ ow a = some (some x) /\ ag X.K H (fun b c => j8 ow x true b c /\ b ≠ a) l vs := by
  obtain ⟨i, v, e1, e2, e3, e4⟩ := E.get x _ _ h
  have e5 := e4
  rw [ah] at e4
  obtain ⟨a, vs, b, rfl, hl, hp, rl⟩ := e4
  cases hp.1
  exact ⟨i, a, vs, e1, e2, e3, hl, hp.2, lu I (fun _ _ p => p.1) e5 l vs (by rw [D.lsz]; omega) rl⟩
theorem Cj {ow : Ow} {H H1 : Hp} {σ : L2.St} {ρ : aj} {x : Str} {l' : List D} {a : Addr} {vs vs' : List V} {i : Nat} (E : bc X ow H σ ρ) (sm : aF H H1) (hi : X.N[i]? = some x) (hs : σ[i]? = some (some (.ref a)))
    (hv : jH X.env.scope x) (h0 : H a = some (.lst vs)) (ho : ow a = some (some x)) (r : ag X.K H1 (fun b c => (j8 ow x true b c /\ b ≠ a) \/ Kp ow H 0 b c) l' vs') :
    ∃ ow', bc X ow' (bh H1 a (.lst vs')) σ (bT ρ x (.lst l', true)) /\ bz ow H ow' (bh H1 a (.lst vs')) := by
  classical
  let ow' : Ow := fun a => if H a = none /\ ∃ o, H1 a = some o then some (some x) else ow a
  have o1 : ∀ a o, H a = some o -> ow' a = ow a := fun a o h => if_neg (fun z => by rw [h] at z; cases z.1)
  have ha : H1 a = some (.lst vs) := sm _ _ h0
  have ho' : ow' a = some (some x) := (o1 a _ h0).trans ho
  have E1 : bc X ow' H1 σ ρ := ⟨fun y e o h => by
    obtain ⟨j, w, e1, e2, e3, e4⟩ := E.get y e o h
    refine ⟨j, w, e1, e2, e3, ah.same sm (e4.impH (fun a ob ha p => ?_) fun a p => ?_)⟩
    . cases o with
      | true => exact ⟨p.1, (o1 a ob ha).trans p.2⟩
      | false => exact fun z => (o1 a ob ha).trans (p z)
    . cases o with
      | true => cases p.1
      | false => exact fun z => (by cases z), fun a ha => by
    by_cases hz : H a = none /\ ∃ o, H1 a = some o
    . exact hz.2
    . have : ow' a = ow a := if_neg hz
      rw [this] at ha
      exact (E.own.same sm) a ha⟩
  have st : ∀ {P : bx}, (P a true -> False) -> d7 P P H1 (bh H1 a (.lst vs')) := fun {P} h => ⟨fun b o hb hn => by rw [aO (fun z => by subst z; rw [ha] at hb; cases hb; exact hn)]; exact hb, fun b ws hb p => by rw [aO (fun z => by subst z; exact h p)]; exact hb, fun _ _ _ p => p, fun _ p => p⟩
  have r1 : ag X.K H1 (fun b c => j8 ow' x true b c /\ b ≠ a) l' vs' := r.impH (fun b o hb p => by
    rcases p with ⟨p, hne⟩ | p
    . refine ⟨⟨rfl, ?_⟩, hne⟩
      by_cases hz : H b = none /\ ∃ o, H1 b = some o
      . exact if_pos hz
      . exact (if_neg hz).trans p.2
    . exact ⟨⟨rfl, if_pos ⟨p.2, o, hb⟩⟩, fun z => by subst z; rw [p.2] at h0; cases h0⟩) fun b p => by
    rcases p with ⟨p, _⟩ | p
    . cases p.1
    . cases p.1
  have r' : ag X.K (bh H1 a (.lst vs')) (j8 ow' x true) l' vs' := (r1.mono (st fun z => z.2 rfl)).imp fun _ _ p => p.1
  refine ⟨ow', ⟨fun y e o h => ?_, fun b hb => ?_⟩, fun b o h c => ?_, fun b o h z => (o1 b o h).trans z⟩
  . rw [dy] at h
    by_cases hy : y = x
    . subst hy
      rw [if_pos rfl] at h
      cases h
      exact ⟨i, .ref a, hi, hv, hs, by rw [ah]; exact ⟨a, vs', true, rfl, aU, ⟨rfl, ho'⟩, r'⟩⟩
    . rw [if_neg hy] at h
      obtain ⟨j, w, e1, e2, e3, e4⟩ := E1.get y e o h
      refine ⟨j, w, e1, e2, e3, e4.mono (st fun p => ?_)⟩
      cases o with
      | true => have := p.2; rw [ho'] at this; cases this; exact hy rfl
      | false => have := p rfl; rw [ho'] at this; cases this
  . by_cases hz : b = a
    . subst hz; exact ⟨_, aU⟩
    . rw [aO hz]; exact E1.own b hb
  . rw [aO (fun z => by
      subst z
      rw [h0] at h; cases h
      rcases c with c | c
      . exact c
      . rw [ho] at c; cases c)]
    exact sm b o h
theorem nM {env : Env} {pos : Pos} : ∀ {es : List Expr}, (∀ e ∈ es, ∀ x p, e ≠ .Starred x p) -> (backTo pos (starEach es env)).all (fun x => !x.1) = true
  | [], _ => rfl
  | e :: es, h => by
    have ih := nM (env := env) (es := es) (pos := pos) fun x hx => h x (List.mem_cons_of_mem _ hx)
    have he := h e List.mem_cons_self
    cases e <;> first | exact absurd rfl (he _ _) | exact ih
theorem Dy {H0 : Hp} {ρ : aj} {x m : Str} {M : List D -> List D -> Nat -> Rs (List D)} {args : List Expr} {p1 ap cp p4 : Pos} {l l' ds : List D} {k : Nat} {o : List Prop} (hcalm : X.calm = true) (hM : mi m M) (hx : ρ x = some (.lst l, true)) (h : AD X ρ args ds k) (hst : ∀ e ∈ args, ∀ y p, e ≠ .Starred y p) (hlen : args.length = ds.length)
    (hn : gF x = true) (hln : (ap.endLine == cp.line) = true) (hm : M l ds k = .ok l' o) (hp : aJ o) : SD X H0 ρ (.Expr (.Call (.Attribute (.Name x p1) m ap) args [] cp) p4) (.nx (bT ρ x (.lst l', true))) := by
  obtain ⟨id, r, sl, ty, mt, hr⟩ := hM X hcalm
  intro pins s σ H D I ⟨ow, E, hl, B, q⟩
  obtain ⟨i, a, vs, g1, g2, g3, g4, g5, g6⟩ := D6 I E hx
  have pn : PE X (.Name x p1) (uN i) := nK g1 g2 (en hn).1 (en hn).2
  have fin : ∀ (H1 : Hp) (ws : List V), aF H H1 -> ag X.K H1 (Kp ow H k) ds ws -> r (.ref a) ws H1 fun _ H2 => D.nx σ H2 := fun H1 ws s1 r1 =>
    (hr ow H H1 l ds l' k o a vs ws hm hp).2 (fun b c => (j8 ow x true b c /\ b ≠ a) \/ Kp ow H 0 b c) _ (fun _ _ p => .inr p) E.own s1 (s1 _ _ g4) ((g6.same s1).imp fun _ _ p => .inl p) r1 fun vs' _ rv => by
      obtain ⟨ow', E', k'⟩ := Cj E s1 g1 g3 g2 g4 g5 rv
      exact q ow' σ _ E' hl k'
  have few : ds.length < 29 := (hr ow H H l ds l' k o a vs vs hm hp).1
  cases args with
  | nil =>
    have e0 : ds = [] := List.length_eq_zero_iff.mp hlen.symm
    refine oQ (D1 PySem.F.plainAttrs_list sl ty mt pn rfl hln) rfl pins s σ H D I ⟨_, g3, .inl ⟨rfl, _, cv.of g4⟩, ?_⟩
    exact fin H [] (aF.refl _) (by rw [e0]; exact ag.nil)
  | cons e es =>
    have hfew : ((backTo cp (starEach (e :: es) X.env)).all (fun x => !x.1) && (backToKw cp (keywordEach [] X.env)).all (fun x => x.1.isSome) && decide ((e :: es).length + ([] : List Keyword).length + (if ([] : List Keyword).isEmpty then 0 else 1) < 30)) = true := by
      rw [nM hst, hlen]
      have : decide (ds.length + 0 + 0 < 30) = true := by simp; omega
      exact this
    refine oQ (Hi PySem.F.plainAttrs_list sl ty mt pn (h ow) rfl hfew hln (bA (hst e List.mem_cons_self)) (cM fun x hx => hst x (List.mem_cons_of_mem _ hx))) rfl pins s σ H D I ⟨_, g3, .inl ⟨rfl, _, cv.of g4⟩, E, fun ws H1 s1 r1 => ?_⟩
    exact fin H1 ws s1 r1
theorem nS : ∀ {l : List D} {j : Nat} {d : D}, am l = true -> d.lless = true -> am (l.set j d) = true
  | [], j, d, h, f => by simp [am]
  | x :: l, 0, d, h, f => by
    rw [am, Bool.and_eq_true] at h
    rw [List.set_cons_zero, am, Bool.and_eq_true]; exact ⟨f, h.2⟩
  | x :: l, j + 1, d, h, f => by
    rw [am, Bool.and_eq_true] at h
    rw [List.set_cons_succ, am, Bool.and_eq_true]; exact ⟨h.1, nS h.2 f⟩
theorem ag.set {K : W.Frag} {P : bx} {H : Hp} {d : D} {v : V} (r : ah K H P d v) : ∀ {l : List D} {vs : List V} (j : Nat), ag K H P l vs -> ag K H P (l.set j d) (vs.set j v)
  | [], vs, j, h => by rw [ag] at h; subst h; simp; exact ag.nil
  | x :: l, vs, 0, h => by
    rw [ag] at h
    obtain ⟨w, u, rfl, h1, h2⟩ := h
    exact ag.cons r h2
  | x :: l, vs, j + 1, h => by
    rw [ag] at h
    obtain ⟨w, u, rfl, h1, h2⟩ := h
    exact ag.cons h1 (ag.set r j h2)
theorem yb {H0 : Hp} {ρ : aj} {x : Str} {e i : Expr} {p1 p2 pos : Pos} {l l' : List D} {d : D} {j : Int} {k k2 : Nat} (hx : ρ x = some (.lst l, true)) (h : ED X ρ e d k) (hi : ED X ρ i (.int j) k2) (f : am l = true) (fd : d.lless = true) (hn : gF x = true) (hm : gX l j d = some l') (hsl : ∀ a b c p, i ≠ .Slice a b c p) :
    SD X H0 ρ (.Assign [.Subscript (.Name x p1) i p2] e pos) (.nx (bT ρ x (.lst l', true))) := by
  unfold gX at hm
  cases hj : ku l.length j with
  | none => rw [hj] at hm; cases hm
  | some n =>
    rw [hj] at hm; cases hm
    intro pins s σ H D I ⟨ow, E, hl, B, q⟩
    obtain ⟨ix, a, vs, g1, g2, g3, g4, g5, g6⟩ := D5 E hx
    have pn : PE X (.Name x p1) (uN ix) := nK g1 g2 (en hn).1 (en hn).2
    refine nI (h ow) (wf pn (hi ow) x8 (fun v => by cases i <;> first | rfl | exact absurd rfl (hsl _ _ _ _))) pM (by cases e <;> rfl) rfl pins s σ H D I ⟨E, fun v H1 s1 r1 => ?_⟩
    refine ⟨_, g3, E.same s1, fun u H2 s2 r2 => ?_⟩
    rw [ah] at r2; subst r2
    have s12 := s1.trans s2
    refine ⟨a, vs, j, n, rfl, rfl, s12 _ _ g4, by rw [<- g6.length]; exact hj, ?_⟩
    exact q ow σ _ (xa (E.same s12) g1 g3 g2 (s12 _ _ g4) g5 (nS f fd) (ag.set ((r1.imp fun _ _ _ => True.intro).same s2) n (g6.same s12))) hl (vj s12 g4 g5)
def Hd : vH := fun o i v H Q => ∃ p kvs k, o = .ref p /\ i = kV k /\ H p = some (.dK kvs) /\ kvs.length < sizeLine /\ Q (bh H p (.dK (iF kvs k v)))
theorem x9 : zG X Hd := by
  intro pins s σ H o i v ov iv u Q I ro ri rv h
  obtain ⟨p, kvs, k, rfl, rfl, hp, hz, q⟩ := h
  cases ro
  obtain ⟨z, hd, vs, rel, dd⟩ := (show cg X.prog X.w H s.heap p (.dK kvs) from I.hok p _ hp)
  have hz' : vs.length <= sizeLine := by rw [<- rel.length]; exact z
  have hl : (iF kvs k v).length <= sizeLine := by have := tj kvs k v; omega
  refine wpAny_setItem_pairs (hsz := hz') (vk ri) dd fun h' dd' hs => ?_
  have he : ∃ q, h'.get? p = some q := let ⟨q, _, _, hq, _⟩ := dd'; ⟨q, hq⟩
  exact ⟨_, I.write (x := p) (e := p) (by rw [hp]; exact True.intro) (.inl rfl) (fun b q hb z => (hs.2 b hb).trans z) he (show cg X.prog X.w (bh H p (.dK (iF kvs k v))) h' p (.dK (iF kvs k v)) from ⟨hl, hd, _, rel.put k rv, dd'⟩), q⟩
theorem AW {ks : List bY} {k : bY} {v : V} {vs : List V} (h : ks.length = vs.length) : (jx ks k).zip (d9 ks vs k v) = iF (ks.zip vs) k v := by
  unfold jx d9 iF
  rw [tK h]
  cases e8 ks k with
  | true =>
    rw [if_pos rfl]
    show ks.zip (List.zipWith _ ks vs) = _
    induction ks generalizing vs with
    | nil => rfl
    | cons j ks ih =>
      cases vs with
      | nil => cases h
      | cons w vs =>
        show (j, if j = k then v else w) :: ks.zip (List.zipWith _ ks vs) = (if j = k then (j, v) else (j, w)) :: (ks.zip vs).map _
        rw [ih (by simpa using h)]
        split <;> rfl
  | false =>
    rw [if_neg Bool.false_ne_true]
    show (ks ++ [k]).zip (vs ++ [v]) = _
    rw [List.zip_append h]; rfl
theorem Bn {α : Type} {ks : List bY} {k : bY} {v : α} {vs : List α} (h : ks.length = vs.length) : (jx ks k).length = (d9 ks vs k v).length := by
  unfold jx d9
  cases e8 ks k with
  | true => show ks.length = (List.zipWith _ ks vs).length; rw [List.length_zipWith, <- h, Nat.min_self]
  | false => show (ks ++ [k]).length = (vs ++ [v]).length; rw [List.length_append, List.length_append, h]; rfl
theorem Bm {K : W.Frag} {P : bx} {H : Hp} {d : D} {v : V} {k : bY} {ks : List bY} {ds : List D} {vs : List V} (r : ah K H P d v) (rl : ag K H P ds vs) (h : ks.length = ds.length) : ag K H P (d9 ks ds k d) (d9 ks vs k v) := by
  unfold d9
  cases e8 ks k with
  | true =>
    show ag K H P (List.zipWith _ ks ds) (List.zipWith _ ks vs)
    induction ks generalizing ds vs with
    | nil => exact ag.nil
    | cons j ks ih =>
      cases ds with
      | nil => cases h
      | cons x ds =>
        rw [ag] at rl
        obtain ⟨w, u, rfl, h1, h2⟩ := rl
        refine ag.cons ?_ (ih h2 (by simpa using h))
        by_cases hj : j = k
        . simp only [if_pos hj]; exact r
        . simp only [if_neg hj]; exact h1
  | false => exact rl.append (ag.one r)
theorem re {k : bY} {d : D} {ks : List bY} {ds : List D} (f : am ds = true) (fd : d.lless = true) : am (d9 ks ds k d) = true := by
  unfold d9
  cases e8 ks k with
  | true =>
    show am (List.zipWith _ ks ds) = true
    induction ks generalizing ds with
    | nil => rfl
    | cons j ks ih =>
      cases ds with
      | nil => rfl
      | cons x ds =>
        rw [am, Bool.and_eq_true] at f
        show am ((if j = k then d else x) :: List.zipWith _ ks ds) = true
        rw [am, Bool.and_eq_true]
        refine ⟨?_, ih f.2⟩
        split
        . exact fd
        . exact f.1
  | false =>
    show am (ds ++ [d]) = true
    induction ds with
    | nil => show am [d] = true; rw [am, fd]; rfl
    | cons x ds ih =>
      rw [am, Bool.and_eq_true] at f
      show am (x :: (ds ++ [d])) = true
      rw [am, f.1, ih f.2]; rfl
theorem Bi {H0 : Hp} {ρ : aj} {x : Str} {e i : Expr} {p1 p2 pos : Pos} {ks : List bY} {ds : List D} {d di : D} {key : bY} {k k2 : Nat} (hx : ρ x = some (.dct ks ds, true)) (h : ED X ρ e d k) (hi : ED X ρ i di k2) (hk : mW di = some key) (fd : d.lless = true) (hz : ks.length < bE) (hn : gF x = true) (hsl : ∀ a b c p, i ≠ .Slice a b c p) :
    SD X H0 ρ (.Assign [.Subscript (.Name x p1) i p2] e pos) (.nx (bT ρ x (.dct (jx ks key) (d9 ks ds key d), true))) := by
  intro pins s σ H D I ⟨ow, E, hl, B, q⟩
  obtain ⟨ix, v0, g1, g2, g3, g4⟩ := E.get x _ _ hx
  rw [ah] at g4
  obtain ⟨f, e0, a, vs, rfl, ha, hp, rl⟩ := g4
  have ho : ow a = some (some x) := hp.2
  have pn : PE X (.Name x p1) (uN ix) := nK g1 g2 (en hn).1 (en hn).2
  refine nI (h ow) (wf pn (hi ow) x9 (fun v => by cases i <;> first | rfl | exact absurd rfl (hsl _ _ _ _))) pM (by cases e <;> rfl) rfl pins s σ H D I ⟨E, fun v H1 s1 r1 => ?_⟩
  refine ⟨_, g3, E.same s1, fun u H2 s2 r2 => ?_⟩
  have s12 := s1.trans s2
  have el : ks.length = vs.length := e0.trans rl.length
  refine ⟨a, _, key, rfl, mV hk r2, s12 _ _ ha, ?_, ?_⟩
  . rw [List.length_zip, <- el, Nat.min_self]; exact Nat.lt_of_lt_of_le hz g8
  rw [<- AW el]
  have ha2 := s12 _ _ ha
  have st : ∀ {P : bx} {o' : HO}, (P a true -> False) -> d7 P P H2 (bh H2 a o') := fun {P o'} h => ⟨fun b o hb hn => by rw [aO (fun z => by subst z; rw [ha2] at hb; cases hb; exact hn)]; exact hb, fun b ws hb p => by rw [aO (fun z => by subst z; exact h p)]; exact hb, fun _ _ _ p => p, fun _ p => p⟩
  have rr : ag X.K H2 (fun _ _ => False) (d9 ks ds key d) (d9 ks vs key v) := Bm ((r1.same s2).flat _ fd) ((rl.same s12).flat _ f) e0
  refine q ow σ _ ⟨fun y e o h => ?_, fun b hb => ?_⟩ hl ⟨fun b o h c => ?_, fun _ _ _ z => z⟩
  . rw [dy] at h
    by_cases hy : y = x
    . subst hy
      rw [if_pos rfl] at h
      cases h
      exact ⟨ix, .ref a, g1, g2, g3, by rw [ah]; exact ⟨re f fd, Bn e0, a, _, rfl, aU, ⟨rfl, ho⟩, (rr.mono (st fun z => z)).flat _ (re f fd)⟩⟩
    . rw [if_neg hy] at h
      obtain ⟨j, w, e1, e2, e3, e4⟩ := (E.same s12).get y e o h
      refine ⟨j, w, e1, e2, e3, e4.mono (st fun p => ?_)⟩
      cases o with
      | true => have := p.2; rw [ho] at this; cases this; exact hy rfl
      | false => have := p rfl; rw [ho] at this; cases this
  . by_cases hz : b = a
    . subst hz; exact ⟨_, aU⟩
    . rw [aO hz]; exact (E.same s12).own b hb
  . rw [aO (fun z => by
      subst z
      rw [ha] at h; cases h
      rcases c with c | c
      . exact c
      . rw [ho] at c; cases c)]
    exact s12 b o h
theorem HA {op : Operator} {r : R2} (h : cS X (inplaceOp op) r) : Ij X op r := h
theorem yI : cS X (inplaceOp .Mult) (rI (fun i j => bK i j) fun i j => .int (i * j)) := t7 fun _ _ _ _ _ _ _ hc q => imul_int q (rA hc)
theorem wQ : cS X (inplaceOp .FloorDiv) (rI (fun _ j => fT j) fun i j => .int (i.fdiv j)) := t7 fun i j _ _ _ _ _ hc q => ifloordiv_int hc.1 q (.inl (PyProof.noPylong_of_log2 (by
  rcases Nat.eq_zero_or_pos j.natAbs with h1 | hp
  . exact absurd (by simpa using h1) hc.1
  . exact (Nat.log2_lt (Nat.ne_of_gt hp)).mpr hc.2)))
theorem DA {Φ : Fx} {sc : Scope} {H0 : Hp} {ρ : aj} {e : Expr} {x : Str} {p pos : Pos} {op : Operator} {a b : Int} {d : D} {k k2 : Nat} {o : Bool} {l : List Prop} (G : bg Φ X sc) (hx : d6 sc x = true) (ha : ρ x = some (.int a, o)) (h : ED X ρ e (.int b) k) (hr : zt op a b = .ok (d, k2) l) (hp : aJ l) :
    SD X H0 ρ (.AugAssign (.Name x p) op e pos) (.nx (bT ρ x (d, true))) := by
  obtain ⟨g1, g2, g3, i, g4⟩ := g9 G hx
  obtain ⟨r, hr1, hr2⟩ : ∃ r : R2, cS X (inplaceOp op) r /\ d.lless = true /\ ∀ H (Q : VK), (∀ v, ah X.K H (fun _ _ => False) d v -> Q v H) -> r (.int a) (.int b) H Q := by
    unfold zt at hr
    split at hr
    . cases hr; exact ⟨_, B4, rfl, fun H Q q => ⟨a, b, rfl, rfl, q _ (by rw [ah])⟩⟩
    . cases hr; exact ⟨_, B3, rfl, fun H Q q => ⟨a, b, rfl, rfl, q _ (by rw [ah])⟩⟩
    . cases hr; exact ⟨_, yI, rfl, fun H Q q => ⟨a, b, rfl, rfl, hp.1, q _ (by rw [ah])⟩⟩
    . cases hr; exact ⟨_, wQ, rfl, fun H Q q => ⟨a, b, rfl, rfl, hp.1, q _ (by rw [ah])⟩⟩
    . cases hr
  intro pins s σ H D I ⟨ow, E, hl, B, q⟩
  obtain ⟨i2, v, e1, e2, e3, e4⟩ := E.get x _ _ ha
  rw [ah] at e4; subst e4
  have hi : i2 = i := jn G.nd e1 g4
  subst hi
  refine DL (i := i2) G.nd g4 g1 (h ow) (HA hr1) g3 pins s σ H D I ⟨.int a, e3, E, fun v H1 s1 r1 => ?_⟩
  rw [ah] at r1; subst r1
  refine hr2.2 H1 _ fun w rw' => ?_
  exact q ow _ H1 (fi G.nd hl (E.same s1) g4 g2 (rw'.flat _ hr2.1)) (by rw [List.length_set]; exact hl) (bz.same s1)
theorem vh : mi "append" lK := fun X hc => ⟨"list.append", _, PySem.F.slot_list_append, PySem.F.type_list_append, pQ, fun ow H0 H l ds l' j o a vs ws h hp => by
  unfold lK at h
  split at h
  . rename_i d
    cases h
    have c := hp.1
    refine ⟨by simp, fun P Q hP oi sm ha rl rd q => ?_⟩
    obtain ⟨w, rfl, rw'⟩ := rd.only
    refine ⟨a, vs, w, rfl, rfl, ha, ?_, q _ _ (rl.append (ag.one ?_))⟩
    . rw [<- rl.length]; exact Nat.lt_trans hp.2.1 ke
    . rcases c with c | c
      . exact rw'.flat _ c
      . subst c; exact rw'.imp hP
  . cases h⟩
theorem ag.rev {K : W.Frag} {P : bx} {H : Hp} : ∀ {l : List D} {vs : List V}, ag K H P l vs -> ag K H P l.reverse vs.reverse
  | [], vs, h => by rw [ag] at h; subst h; exact ag.nil
  | d :: l, vs, h => by
    rw [ag] at h
    obtain ⟨v, r, rfl, h1, h2⟩ := h
    rw [List.reverse_cons, List.reverse_cons]
    exact (ag.rev h2).append (ag.one h1)
end Sp
namespace Sp
open PySem PySem.Spec PyProof.Rows L2
variable {X : Cx}
theorem m9 {ow : Ow} {H : Hp} {σ : L2.St} {ρ : aj} (x : Str) (E : bc X ow H σ ρ) : ∃ ow', bc X ow' H σ (demX x ρ) /\ bz ow H ow' H := by
  classical
  unfold demX
  let ow' : Ow := fun a => if ow a = some (some x) then none else ow a
  have o1 : ∀ a, ow a = none -> ow' a = none := fun a h => by show (if _ then _ else _) = _; split; rfl; exact h
  refine ⟨ow', ⟨fun y e o h => ?_, fun a ha => ?_⟩, fun a o h _ => h, fun a o h z => o1 a z⟩
  . by_cases hy : y = x
    . subst hy
      simp only [if_true] at h
      cases hd : ρ y with
      | none => rw [hd] at h; cases h
      | some q =>
        obtain ⟨d, o'⟩ := q
        rw [hd] at h
        cases h
        obtain ⟨j, w, e1, e2, e3, e4⟩ := E.get y _ _ hd
        refine ⟨j, w, e1, e2, e3, e4.imp fun a b p z => ?_⟩
        cases o' with
        | true => exact if_pos p.2
        | false => exact o1 a (p z)
    . simp only [if_neg hy] at h
      obtain ⟨j, w, e1, e2, e3, e4⟩ := E.get y e o h
      refine ⟨j, w, e1, e2, e3, e4.imp fun a b p => ?_⟩
      cases o with
      | true => exact ⟨p.1, by show (if _ then _ else _) = _; rw [if_neg (fun z => by rw [p.2] at z; cases z; exact hy rfl)]; exact p.2⟩
      | false => exact fun z => o1 a (p z)
  . refine E.own a fun z => ha (o1 a z)
theorem Cw (x : Str) (ρ : aj) : demA x ρ = ρ \/ demA x ρ = demX x ρ := by
  cases h : ρ x with
  | none => exact .inl (funext fun y => by unfold demA; split; (rename_i e; subst e; rw [h]; rfl); rfl)
  | some p =>
    cases hl : p.1.lless with
    | true => exact .inl (funext fun y => by unfold demA; split; (rename_i e; subst e; rw [h]; show some (p.1, p.2 && p.1.lless) = _; rw [hl, Bool.and_true]); rfl)
    | false => exact .inr (funext fun y => by unfold demA demX; split; (rename_i e; subst e; rw [h]; show some (p.1, p.2 && p.1.lless) = _; rw [hl, Bool.and_false]; rfl); rfl)
theorem jw : ∀ {es : List Expr} {ow : Ow} {H : Hp} {σ : L2.St} {ρ : aj}, bc X ow H σ ρ -> ∃ ow', bc X ow' H σ (demL es ρ) /\ bz ow H ow' H
  | [], ow, H, σ, ρ, E => ⟨ow, E, bz.refl _ _⟩
  | e :: es, ow, H, σ, ρ, E => by
    have one : ∀ x, ∃ ow', bc X ow' H σ (demL es (demA x ρ)) /\ bz ow H ow' H := fun x => by
      rcases Cw x ρ with h | h
      . rw [h]; exact jw E
      . rw [h]
        obtain ⟨ow1, E1, k1⟩ := m9 x E
        obtain ⟨ow2, E2, k2⟩ := jw (es := es) E1
        exact ⟨ow2, E2, k1.trans k2⟩
    unfold demL
    split
    . rename_i z; cases z
    . rename_i z; cases z; exact one _
    . rename_i z; cases z; exact one _
    . rename_i z; cases z; exact jw E
theorem vy {ow : Ow} {H : Hp} {σ : L2.St} {ρ : aj} {e : Expr} (E : bc X ow H σ ρ) : ∃ ow', bc X ow' H σ (demote e ρ) /\ bz ow H ow' H := by
  unfold demote
  split
  . exact m9 _ E
  . exact m9 _ E
  . exact jw E
  . exact ⟨ow, E, bz.refl _ _⟩
def ac {α : Type} (r : Rs α) (a : α) : Prop := ∃ l, r = .ok a l /\ aJ l
theorem av {α β : Type} {r : Rs α} {f : α -> Rs β} {b : β} (h : ac (r.bnd f) b) : ∃ a, ac r a /\ ac (f a) b := by
  obtain ⟨l, h, hp⟩ := h
  obtain ⟨a, l1, l2, h1, p1, h2, p2⟩ := aQ h hp
  exact ⟨a, ⟨l1, h1, p1⟩, l2, h2, p2⟩
theorem ar {α : Type} {a : α} (h : ac (.st) a) : False := by obtain ⟨l, h, _⟩ := h; cases h
theorem aP {α : Type} {a b : α} {l : List Prop} (h : ac (.ok a l) b) : a = b := by obtain ⟨m, h, _⟩ := h; cases h; rfl
theorem Dz {H0 : Hp} {ρ : aj} {tg iter : Expr} {body : List Stmt} {pos : Pos} {bind : D -> aj -> Option aj} {bodyF : aj -> Rs Fl} {ds : List D} {k : Nat} {fl : Fl} (hp : PassesOwn (model X.prog X.w) X.A X.env X.xe) (hcalm : X.calm = true)
    (hi : IE X (demote iter ρ) tg iter ds k) (hk : k <= 1) (hg : ∀ d ρ ρ', bind d ρ = some ρ' -> GD X ρ tg d ρ') (hb : ∀ ρ fl, ac (bodyF ρ) fl -> jf X H0 ρ body fl) (h : ac (cZ bind bodyF ds (demote iter ρ)) fl)
    (hs : ∀ x, foldedSetIterable iter X.env x = pure x) : SD X H0 ρ (.For tg iter body [] pos) fl := by
  intro pins s σ H D0 I ⟨ow0, E0, hl, B0, q0⟩
  obtain ⟨ow, E, k0⟩ := vy (e := iter) E0
  have B := B0.keep k0
  have q := q0.keep k0
  have pb : gJ X body (fun D σ H => ∃ ρ fl, ac (bodyF ρ) fl /\ zS X H0 ρ fl D σ H) := fun pins s σ H D I ⟨ρ1, fl1, h1, h2⟩ => hb ρ1 fl1 h1 pins s σ H D I h2
  have pg : PG X tg (fun v σ H Q => ∃ g : TG, PG X tg g /\ g v σ H Q) := fun pins s σ H v u Q I r ⟨g, h1, h2⟩ => h1 pins s σ H v u Q I r h2
  refine DK hp hcalm (hi ow) pg pb hs pins s σ H D0 I ⟨E, fun J H1 s1 itd => ?_⟩
  refine ⟨fun i m σ' H' => m = ds.length - i /\ i <= ds.length /\ ∃ ow' ρ', bc X ow' H' σ' ρ' /\ σ'.length = X.N.length /\ dW H0 ow' H' /\ bz ow H1 ow' H' /\ ac (cZ bind bodyF (ds.drop i) ρ') fl,
    ⟨ds.length, by simp, Nat.zero_le _, ow, _, E.same s1, hl, B.keep (bz.same s1), bz.refl _ _, h⟩, ?_⟩
  rintro i m σ' H' ⟨rfl, hile, ow', ρ', E', hl', B', k', hf⟩
  have q' : pH X H0 ow' H' fl D0 := q.keep ((bz.same s1).trans k')
  have st : d7 (Kd ow H k H1) (Kd ow H k H1) H1 H' := ⟨fun a o ha hn => k'.keep a o ha (.inl hn), fun a vs ha p => k'.keep a _ ha (.inr (iu E.own hk p.1)), fun _ _ _ p => p, fun _ p => p⟩
  have it := itd i H' st
  by_cases hlt : i < ds.length
  . obtain ⟨go, yl⟩ := it.1 ds[i] (List.getElem?_eq_getElem hlt)
    have hdrop : ds.drop i = ds[i] :: ds.drop (i + 1) := List.drop_eq_getElem_cons hlt
    rw [hdrop, cZ] at hf
    refine .inr ⟨go, fun σ2 H2 => i + 1 <= ds.length /\ ∃ ow2 ρ2, bc X ow2 H2 σ2 ρ2 /\ σ2.length = X.N.length /\ dW H0 ow2 H2 /\ bz ow H1 ow2 H2 /\ ac (cZ bind bodyF (ds.drop (i + 1)) ρ2) fl, fun σ2 H2 n => ⟨ds.length - (i + 1), by omega, rfl, n.1, n.2⟩, fun x H3 y3 => ?_⟩
    obtain ⟨sm3, rx⟩ := yl x H3 y3
    cases hbd : bind ds[i] ρ' with
    | none => rw [hbd] at hf; exact (ar hf).elim
    | some ρ1 =>
      rw [hbd] at hf
      dsimp only at hf
      obtain ⟨g, g1, g2⟩ := hg _ _ _ hbd
      have rx' : ah X.K H3 (fun a b => b = true -> ow' a = none) ds[i] x := rx.impH (fun a o ha p _ => by
        obtain ⟨o1, h1⟩ := p.2 rfl
        exact k'.low a o1 h1 (iu E.own hk p.1)) fun a _ z => (by cases z)
      refine ⟨g, g1, g2 ow' x σ' H3 _ hl' (E'.same sm3) rx' fun σ2 hl2 E2 => ?_⟩
      have k3 : bz ow' H' ow' H3 := bz.same sm3
      obtain ⟨f1, hbo, hf⟩ := av hf
      refine ⟨ρ1, f1, hbo, ow', E2, hl2, B'.keep k3, ?_⟩
      cases f1 with
      | nx ρ2 => exact fun ow2 σ3 H4 a b c => ⟨hlt, ow2, ρ2, a, b, (B'.keep k3).keep c, k'.trans (k3.trans c), hf⟩
      | ct ρ2 => exact fun ow2 σ3 H4 a b c => ⟨hlt, ow2, ρ2, a, b, (B'.keep k3).keep c, k'.trans (k3.trans c), hf⟩
      | bk ρ2 => cases aP hf; exact fun ow2 σ3 H4 a b c => q' ow2 σ3 H4 a b (k3.trans c)
      | rt d => cases aP hf; exact q'
  . have ei : i = ds.length := by omega
    subst ei
    rw [List.drop_length, cZ] at hf
    cases aP hf
    exact .inl ⟨it.2 (Nat.le_refl _), q' ow' σ' H' E' hl' (bz.refl _ _)⟩
theorem ya {H0 : Hp} {c : Expr} {body : List Stmt} {pos : Pos} {test : aj -> Rs Bool} {bodyF : aj -> Rs Fl} {fl : Fl} (hp : PassesOwn (model X.prog X.w) X.A X.env X.xe)
    (hc : ∀ ρ b, ac (test ρ) b -> TD X ρ c b) (hb : ∀ ρ fl, ac (bodyF ρ) fl -> jf X H0 ρ body fl) {n0 : Nat} {ρ0 : aj} (h : ac (mv test bodyF n0 ρ0) fl) : SD X H0 ρ0 (.While c body [] pos) fl := by
  intro pins s σ H D0 I ⟨ow, E, hl, B, q⟩
  have pc : PT X c (fun σ H Q => ∃ ow ρ b, ac (test ρ) b /\ zR X ow ρ b σ H Q) := fun pins s σ H Q I ⟨ow, ρ, b, h1, h2⟩ => hc ρ b h1 ow pins s σ H Q I h2
  have pb : gJ X body (fun D σ H => ∃ ρ fl, ac (bodyF ρ) fl /\ zS X H0 ρ fl D σ H) := fun pins s σ H D I ⟨ρ1, fl1, h1, h2⟩ => hb ρ1 fl1 h1 pins s σ H D I h2
  refine ye hp pc pb pins s σ H D0 I ?_
  refine ⟨fun m σ' H' => ∃ ow' ρ', bc X ow' H' σ' ρ' /\ σ'.length = X.N.length /\ dW H0 ow' H' /\ bz ow H ow' H' /\ ac (mv test bodyF m ρ') fl, ⟨n0, ow, ρ0, E, hl, B, bz.refl _ _, h⟩, ?_⟩
  rintro m σ' H' ⟨ow', ρ', E', hl', B', k', hw⟩
  have q' : pH X H0 ow' H' fl D0 := q.keep k'
  cases m with
  | zero => exact (ar hw).elim
  | succ m =>
    rw [mv] at hw
    obtain ⟨b, ht, hw⟩ := av hw
    refine ⟨ow', ρ', b, ht, E', fun H1 s1 => ?_⟩
    have k1 : bz ow' H' ow' H1 := bz.same s1
    cases b with
    | false =>
      cases aP hw
      exact q' ow' σ' H1 (E'.same s1) hl' k1
    | true =>
      rw [cond_true] at hw
      show if true = true then _ else _
      rw [if_pos rfl]
      refine ⟨fun σ2 H2 => ∃ ow2 ρ2, bc X ow2 H2 σ2 ρ2 /\ σ2.length = X.N.length /\ dW H0 ow2 H2 /\ bz ow H ow2 H2 /\ ac (mv test bodyF m ρ2) fl, fun σ2 H2 z => ⟨m, Nat.lt_succ_self _, z⟩, ?_⟩
      obtain ⟨f1, hbo, hw⟩ := av hw
      refine ⟨ρ', f1, hbo, ow', E'.same s1, hl', B'.keep k1, ?_⟩
      cases f1 with
      | nx ρ2 => exact fun ow2 σ3 H4 a b c => ⟨ow2, ρ2, a, b, (B'.keep k1).keep c, k'.trans (k1.trans c), hw⟩
      | ct ρ2 => exact fun ow2 σ3 H4 a b c => ⟨ow2, ρ2, a, b, (B'.keep k1).keep c, k'.trans (k1.trans c), hw⟩
      | bk ρ2 => cases aP hw; exact fun ow2 σ3 H4 a b c => q' ow2 σ3 H4 a b (k1.trans c)
      | rt d => cases aP hw; exact q'
theorem eH {Φ : Fx} {e : Expr} {it : Bool} {sc : Scope} {ρ : aj} {p : D × Nat} {X : Cx} (h : ac (aA Φ e it sc ρ) p) (G : bg Φ X sc) : fk X ρ e it p.1 p.2 := let ⟨_, h, hp⟩ := h; HL e h hp G
theorem wP {e : Expr} (h : nV e = true) : (∃ a b c d, e = .ListComp a b c d) \/ ∀ (Φ : Fx) (sc : Scope) (ρ : aj), aA Φ e false sc ρ = .st := by
  cases e <;> first | exact .inl ⟨_, _, _, _, rfl⟩ | exact .inr fun _ _ _ => rfl | cases h
theorem pP {Φ : Fx} {sc : Scope} {H0 : Hp} {ρ : aj} {e : Expr} {x : Str} {p pos : Pos} {r : D × Nat} {o : Bool} (G : bg Φ X sc) (hx : d6 sc x = true) (h : ac (aA Φ e false sc ρ) r) (ho : (r.2 = 0 /\ o = true) \/ (r.2 = 1 /\ o = false)) :
    SD X H0 ρ (.Assign [.Name x p] e pos) (.nx (bT ρ x (r.1, o))) := by
  by_cases hc : nV e = true
  . rcases wP hc with ⟨elt, gens, scope, q, rfl⟩ | hno
    rotate_left
    . rw [hno] at h; exact (ar h).elim
    . clear hc
      have hsw : ∃ b, swapsWith (.ListComp elt gens scope q) (some (.Name x p)) pos.line X.env = pure b := ⟨_, rfl⟩
      obtain ⟨b, hsw⟩ := hsw
      cases b with
      | false => exact v5 G hx ((eH h G).ed rfl) ho hsw
      | true =>
        obtain ⟨l, h, hp⟩ := h
        obtain ⟨tg, iter, ifs, rfl⟩ := o7 h
        obtain ⟨ds, f, k1, a1, a2, a3, a4, a5, a6, a7, a8, a9⟩ := tT (hZ Φ _) (Nat.lt_succ_self _) h hp G
        obtain ⟨g1, g2, g3, i, g4⟩ := g9 G hx
        rw [a9]
        intro pins s σ H D0 I ⟨ow, E, hl, B, q⟩
        refine Br (D0 := D0) (i := i) G.calm G.nd a1 a2 a3 a4 a5 a6 a7 a8 I E hsw g4 g1 g3 fun v H1 s1 r1 => ?_
        rcases ho with ⟨ho, rfl⟩ | ⟨ho, rfl⟩ <;> rw [ho] at r1
        . obtain ⟨ow', E', k'⟩ := ux G.nd hl E s1 g4 g2 r1
          exact q ow' _ H1 E' (by rw [List.length_set]; exact hl) k'
        . exact q ow _ H1 (fi G.nd hl (E.same s1) g4 g2 r1) (by rw [List.length_set]; exact hl) (bz.same s1)
  . exact v5 G hx ((eH h G).ed rfl) ho (sX (by simpa using hc))
theorem mE {Φ : Fx} {e : Expr} {it : Bool} {sc : Scope} {ρ : aj} {r : D × Nat} (h : ac (aA Φ e it sc ρ) r) : ∀ a b c p, e ≠ .Slice a b c p := by
  intro a b c p z; subst z; exact (ar h).elim
theorem rn {ρ : aj} {x : Str} {f : List D -> Rs Fl} {fl : Fl} (h : ac (oW ρ x f) fl) : ∃ l, ρ x = some (.lst l, true) /\ gF x = true /\ ac (f l) fl := by
  unfold oW at h
  split at h
  . rename_i l e
    split at h
    . rename_i c
      exact ⟨l, e, c, h⟩
    . exact (ar h).elim
  . exact (ar h).elim
theorem bU {α : Type} {a b : α} {l : List Prop} (h : ac (.ok a l) b) : a = b /\ aJ l := by obtain ⟨m, h, hp⟩ := h; cases h; exact ⟨rfl, hp⟩
theorem qN {ρ : aj} {x : Str} {i d : D} {fl : Fl} (h : ac (mN ρ x i d) fl) : (∃ l j l', ρ x = some (.lst l, true) /\ am l = true /\ gF x = true /\ i = .int j /\ gX l j d = some l' /\ d.lless = true /\ fl = .nx (bT ρ x (.lst l', true))) \/ ∃ ks ds k, ρ x = some (.dct ks ds, true) /\ mW i = some k /\ gF x = true /\ d.lless = true /\ ks.length < bE /\ fl = .nx (bT ρ x (.dct (jx ks k) (d9 ks ds k d), true)) := by
  unfold mN at h
  split at h
  . rename_i l e
    split at h
    . split at h
      . rename_i hn
        split at h
        . rename_i l' hs
          obtain ⟨h9, h1, h2, _⟩ := bU h
          exact .inl ⟨l, _, l', e, h1, hn, rfl, hs, h2, h9.symm⟩
        . exact (ar h).elim
      . exact (ar h).elim
    . exact (ar h).elim
  . rename_i ks ds e
    split at h
    . rename_i k hk
      split at h
      . rename_i hn
        obtain ⟨h9, h1, h2, _⟩ := bU h
        exact .inr ⟨ks, ds, k, e, hk, hn, h1, h2, h9.symm⟩
      . exact (ar h).elim
    . exact (ar h).elim
  . exact (ar h).elim
theorem D3 {Φ : Fx} {es : List Expr} {e : Expr} {n : Nat} {p pos : Pos} {sc : Scope} {ρ : aj} {fl : Fl} {X : Cx} {H0 : Hp} (h : ac (n8 Φ es e sc ρ) fl) (G : bg Φ X sc) : SD X H0 ρ (.Assign [.Tuple es n p] e pos) fl := by
  unfold n8 at h
  split at h
  . split at h
    . rename_i hp
      obtain ⟨q, ⟨lq, h1, hq⟩, h⟩ := av h
      split at h
      . rename_i u v hd
        split at h
        . rename_i hf
          cases aP h
          obtain ⟨n1, _⟩ := dX h1 hq
          have c := se _ h1 hq G
          rw [hd] at c
          exact Dx G c hf hp (n1 _ (by simp)) (n1 _ (by simp))
        . exact (ar h).elim
      . exact (ar h).elim
    . exact (ar h).elim
  . exact (ar h).elim
theorem Gi {Φ : Fx} {tgs : List Expr} {e : Expr} {sc : Scope} {ρ : aj} {fl : Fl} {X : Cx} {H0 : Hp} {pos : Pos} (h : ac (og Φ tgs e sc ρ) fl) (G : bg Φ X sc) : SD X H0 ρ (.Assign tgs e pos) fl := by
  unfold og at h
  split at h
  . obtain ⟨p, h1, h⟩ := av h
    unfold oP at h
    split at h
    . rename_i hx
      split at h
      . rename_i ho; cases aP h; exact pP G hx h1 (.inl ⟨ho, rfl⟩)
      . rename_i ho; cases aP h; exact pP G hx h1 (.inr ⟨ho, rfl⟩)
      . exact (ar h).elim
    . exact (ar h).elim
  . split at h
    . exact D3 h G
    . rename_i ht
      have ht := Bool.eq_false_iff.mpr ht
      obtain ⟨p, h1, h⟩ := av h
      split at h
      . rename_i ds hd
        split at h
        . rename_i hf
          split at h
          . rename_i ρ' hb
            cases aP h
            exact Dw G ((eH h1 G).ed rfl) hd hf hb ht
          . exact (ar h).elim
        . exact (ar h).elim
      . exact (ar h).elim
  . split at h
    . rename_i hc
      obtain ⟨p, h1, h⟩ := av h
      obtain ⟨q, h2, h⟩ := av h
      have c2 := (eH h2 G).ed rfl
      rcases qN h with ⟨l, j, l', a1, a2, a3, hj, hs, hf, rfl⟩ | ⟨ks, ds, k, a1, hk, a3, hf, hz, rfl⟩
      . rw [hj] at c2
        exact yb a1 ((eH h1 G).ed rfl) c2 a2 hf a3 hs (mE h2)
      . exact Bi a1 ((eH h1 G).ed rfl) c2 hk hf hz a3 (mE h2)
    . exact (ar h).elim
  . exact (ar h).elim
theorem oX {p : D × Nat} {f : Int -> R1} {a : D × Nat} (h : ac (jp p f) a) : ∃ b, p.1 = .int b /\ ac (f b) a := by
  obtain ⟨l, h, hp⟩ := h
  obtain ⟨b, h1, h2⟩ := yJ h
  exact ⟨b, h1, l, h2, hp⟩
theorem Gh {Φ : Fx} {t e : Expr} {op : Operator} {sc : Scope} {ρ : aj} {fl : Fl} {X : Cx} {H0 : Hp} {pos : Pos} (h : ac (oa Φ t op e sc ρ) fl) (G : bg Φ X sc) : SD X H0 ρ (.AugAssign t op e pos) fl := by
  unfold oa at h
  split at h
  . split at h
    . rename_i hx
      split at h
      . rename_i p hp
        obtain ⟨r, h1, h⟩ := av h
        cases aP h
        obtain ⟨a, ha, h3⟩ := oX h1
        obtain ⟨q, h2, h4⟩ := av h3
        obtain ⟨b, hb, h5⟩ := oX h4
        obtain ⟨l, h9, hpl⟩ := h5
        have c := (eH h2 G).ed rfl
        rw [hb] at c
        obtain ⟨p1, p2⟩ := p
        have ha : p1 = .int a := ha
        subst ha
        exact DA G hx hp c h9 hpl
      . exact (ar h).elim
    . exact (ar h).elim
  . exact (ar h).elim
theorem EV {Φ : Fx} {e : Expr} {sc : Scope} {ρ : aj} {fl : Fl} {X : Cx} {H0 : Hp} {pos : Pos} (h : ac (n9 Φ e sc ρ) fl) (G : bg Φ X sc) : SD X H0 ρ (.Expr e pos) fl := by
  unfold n9 at h
  split at h
  . split at h
    . rename_i hln
      obtain ⟨p, ⟨lp, h1, hp1⟩, h⟩ := av h
      split at h
      . rename_i M hM
        obtain ⟨l, a1, a3, h⟩ := rn h
        obtain ⟨l', ⟨o, h2, hp2⟩, h⟩ := av h
        cases aP h
        obtain ⟨n1, n2⟩ := dX h1 hp1
        exact Dy G.calm (G.mtt _ M hM) a1 (se _ h1 hp1 G) n1 n2 a3 hln h2 hp2
      . exact (ar h).elim
    . exact (ar h).elim
  . obtain ⟨p, h1, h⟩ := av h
    cases aP h
    exact Bh ((eH h1 G).ed rfl) ⟨_, _, _, _, _, rfl⟩
  . exact (ar h).elim
structure Is (Φ : Fx) (n : Nat) : Prop where
  s : ∀ (st : Stmt) {sc : Scope} {ρ : aj} {fl : Fl} {X : Cx} {H0 : Hp}, sizeOf st < n -> ac (dC Φ st sc ρ) fl -> bg Φ X sc -> PassesOwn (model X.prog X.w) X.A X.env X.xe -> SD X H0 ρ st fl
  ss : ∀ (st : List Stmt) {sc : Scope} {ρ : aj} {fl : Fl} {X : Cx} {H0 : Hp}, sizeOf st < n -> ac (aD Φ st sc ρ) fl -> bg Φ X sc -> PassesOwn (model X.prog X.w) X.A X.env X.xe -> jf X H0 ρ st fl
theorem fZ {p : D × Nat} {α : Type} {f : Bool -> Rs α} {a : α} (h : ac (iB p f) a) : ∃ b, p.1 = .bl b /\ ac (f b) a := by
  obtain ⟨l, h, hp⟩ := h
  obtain ⟨b, h1, h2⟩ := lW h
  exact ⟨b, h1, l, h2, hp⟩
theorem HJ {Φ : Fx} {n : Nat} (I : Is Φ n) (st : Stmt) {sc : Scope} {ρ : aj} {fl : Fl} {X : Cx} {H0 : Hp} (hs : sizeOf st < n + 1) (h : ac (dC Φ st sc ρ) fl) (G : bg Φ X sc) (hp : PassesOwn (model X.prog X.w) X.A X.env X.xe) : SD X H0 ρ st fl := by
  cases st with
  | Return e p =>
    cases e with
    | none => cases aP h; exact Bf
    | some e =>
      obtain ⟨p, h1, h⟩ := av (show ac (Rs.bnd _ _) fl from h)
      unfold uR at h
      split at h
      . rename_i hk
        cases aP h
        exact v6 ((eH h1 G).ed rfl) hk
      . exact (ar h).elim
  | Pass p => cases aP h; exact Bg
  | Break p => cases aP h; exact yc
  | Continue p => cases aP h; exact Bj
  | Assign tgs e p => exact Gi h G
  | AugAssign t op e p => exact Gh h G
  | Expr e p => exact EV h G
  | If c a b p =>
    obtain ⟨p, h1, h⟩ := av (show ac (Rs.bnd _ _) fl from h)
    obtain ⟨t, ht, h⟩ := fZ h
    refine Hb ((eH h1 G).td rfl t ht) ?_
    cases t with
    | true => rw [if_pos rfl]; exact I.ss _ (bj (by simp <;> omega) hs) h G hp
    | false => rw [if_neg Bool.false_ne_true]; exact I.ss _ (bj (by simp <;> omega) hs) h G hp
  | For tg it body els p =>
    rw [o9] at h
    split at h
    . rename_i he
      have he := List.isEmpty_iff.mp he
      subst he
      obtain ⟨p, h1, h⟩ := av h
      split at h
      . rename_i ds hd
        split at h
        . rename_i hk
          obtain ⟨lq, h1', _⟩ := id h1
          exact Dz hp G.calm ((eH h1 G).ie rfl _ ds hd hk.2) hk.1 (fun d ρ ρ' hb => Ax G hb) (fun ρ1 f1 h2 => I.ss _ (bj (by simp <;> omega) hs) h2 G hp) h (pW h1')
        . exact (ar h).elim
      . exact (ar h).elim
    . exact (ar h).elim
  | While c body els p =>
    rw [r9] at h
    split at h
    . rename_i he
      have he := List.isEmpty_iff.mp he
      subst he
      refine ya hp (fun ρ b hb => ?_) (fun ρ1 f1 h2 => I.ss _ (bj (by simp <;> omega) hs) h2 G hp) h
      obtain ⟨p, h1, hb⟩ := av hb
      obtain ⟨t, ht, hb⟩ := fZ hb
      cases aP hb
      exact (eH h1 G).td rfl _ ht
    . exact (ar h).elim
  | _ => exact (ar h).elim
theorem EU {Φ : Fx} {n : Nat} (I : Is Φ n) (ss : List Stmt) {sc : Scope} {ρ : aj} {fl : Fl} {X : Cx} {H0 : Hp} (hs : sizeOf ss < n + 1) (h : ac (aD Φ ss sc ρ) fl) (G : bg Φ X sc) (hp : PassesOwn (model X.prog X.w) X.A X.env X.xe) : jf X H0 ρ ss fl := by
  cases ss with
  | nil => cases aP h; exact Bb
  | cons s ss =>
    obtain ⟨f1, h1, h⟩ := av (show ac (Rs.bnd _ _) fl from h)
    have c := I.s s (H0 := H0) (bj (by simp <;> omega) hs) h1 G hp
    cases f1 with
    | nx ρ' => exact qO c (I.ss ss (bj (by simp <;> omega) hs) h G hp)
    | bk ρ' => cases aP h; exact jj c (fun _ z => (by cases z))
    | ct ρ' => cases aP h; exact jj c (fun _ z => (by cases z))
    | rt d => cases aP h; exact jj c (fun _ z => (by cases z))
theorem nU (Φ : Fx) : ∀ n, Is Φ n
  | 0 => ⟨fun _ _ _ _ _ _ h => absurd h (Nat.not_lt_zero _), fun _ _ _ _ _ _ h => absurd h (Nat.not_lt_zero _)⟩
  | n + 1 => ⟨fun e _ _ _ _ _ hs h G hp => HJ (nU Φ n) e hs h G hp, fun e _ _ _ _ _ hs h G hp => EU (nU Φ n) e hs h G hp⟩
theorem w5 {Φ : Fx} (ss : List Stmt) {sc : Scope} {ρ : aj} {fl : Fl} {X : Cx} {H0 : Hp} (h : ac (aD Φ ss sc ρ) fl) (G : bg Φ X sc) (hp : PassesOwn (model X.prog X.w) X.A X.env X.xe) : jf X H0 ρ ss fl := (nU Φ _).ss ss (Nat.lt_succ_self _) h G hp
end Sp
namespace Sp
open PySem PySem.Spec PyProof.Rows L2
def aC (sc : Scope) : List Str := (sc.names.filter fun y => y.2 == .local || y.2 == .cell).map (·.1)
def cj (P : Program) (w : World) (K : W.Frag) (mg : Str -> Option Value) (base : Heap) (k : Nat) (g : Str) (F : List D -> Rs D) : Prop :=
  ∃ f fd ps, cR P w K mg base gk k f fd ps (jV K F) /\ mg g = some (.ref f) /\ W.keepIn K (.ref f) = true /\ cW K fd ps [] /\ (g == ("__debug__" : Str)) = false
theorem cj.mono {P : Program} {w : World} {K : W.Frag} {mg : Str -> Option Value} {base : Heap} {j k : Nat} {g : Str} {F : List D -> Rs D} (h : cj P w K mg base j g F) (hjk : j <= k) : cj P w K mg base k g F :=
  let ⟨f, fd, ps, h1, h2⟩ := h; ⟨f, fd, ps, h1.mono hjk, h2⟩
def AO (P : Program) (w : World) (K : W.Frag) (mg : Str -> Option Value) (base : Heap) (k : Nat) (g : Str) (F : List D -> Rs D) : Prop :=
  ∃ j C f fd ps, j + 1 <= k /\ (∀ ds r l, F ds = .ok r l -> r.lless = true) /\ Mk K C f /\ cR P w K mg base gk j f fd ps (Ig K g F) /\ mg g = some (.ref C) /\ W.nsIn K mainGlobals g = some (some (.ref C)) /\ gK K C /\ cW K fd ps [] /\ (g == ("__debug__" : Str)) = false
theorem AO.mono {P : Program} {w : World} {K : W.Frag} {mg : Str -> Option Value} {base : Heap} {j k : Nat} {g : Str} {F : List D -> Rs D} (h : AO P w K mg base j g F) (hjk : j <= k) : AO P w K mg base k g F :=
  let ⟨i, C, f, fd, ps, h0, h1⟩ := h; ⟨i, C, f, fd, ps, Nat.le_trans h0 hjk, h1⟩
def Iq (P : Program) (w : World) (K : W.Frag) (mg : Str -> Option Value) (base : Heap) (k : Nat) (g : Str) (F : List D -> Rs D) : Prop := cj P w K mg base k g F \/ AO P w K mg base k g F
def qB (P : Program) (w : World) (K : W.Frag) (mg : Str -> Option Value) (base : Heap) (k : Nat) (n m : Str) (F : List D -> Rs D) : Prop :=
  ∃ C f fd ps, W.nsIn K mainGlobals n = some (some (.ref C)) /\ gK K C /\ sT K C m f /\ cR P w K mg base gk k f fd ps (jV K F) /\ cW K fd ps []
theorem qB.mono {P : Program} {w : World} {K : W.Frag} {mg : Str -> Option Value} {base : Heap} {j k : Nat} {n m : Str} {F : List D -> Rs D} (h : qB P w K mg base j n m F) (hjk : j <= k) : qB P w K mg base k n m F :=
  let ⟨C, f, fd, ps, h1, h2, h3, h4, h5⟩ := h; ⟨C, f, fd, ps, h1, h2, h3, h4.mono hjk, h5⟩
theorem sG : ∀ {ps : List Str} {ds : List D} {x : Str} {d : D} {o : Bool}, e9 ps ds x = some (d, o) -> o = false /\ ∃ i : Nat, ps[i]? = some x /\ ds[i]? = some d
  | [], ds, x, d, o, h => by cases ds <;> cases h
  | p :: ps, [], x, d, o, h => by cases h
  | p :: ps, y :: ds, x, d, o, h => by
    replace h : (if x = p then some (y, false) else e9 ps ds x) = some (d, o) := h
    by_cases e : x = p
    . rw [if_pos e] at h
      cases h; subst e; exact ⟨rfl, 0, rfl, rfl⟩
    . rw [if_neg e] at h
      obtain ⟨h1, i, h2, h3⟩ := sG h
      exact ⟨h1, i + 1, by simpa using h2, by simpa using h3⟩
structure xP (P : Program) (w : World) (K : W.Frag) (mg : Str -> Option Value) (base : Heap) (k : Nat) (Φ : Fx) : Prop where
  fn : ∀ g F, Φ.fn g = some F -> Iq P w K mg base k g F
  con : ∀ x d, Φ.con x = some d -> ∃ v u, mg x = some u /\ aW v u /\ ∀ H P, ah K H P d v
  blt : ∀ f B, Φ.blt f = some B -> eY f B
  itr : ∀ f B, Φ.itr f = some B -> jC f B
  mth : ∀ m M, Φ.mth m = some M -> vO m M
  mtt : ∀ m M, Φ.mtt m = some M -> mi m M
  slf : qz Φ.slf
  fld : ∀ n f, Φ.fld n f = true -> ∀ C, W.nsIn K mainGlobals n = some (some (.ref C)) -> oM K C f
  omt : ∀ n m F, Φ.omt n m = some F -> qB P w K mg base k n m F
  bl : ∀ n ∈ ii, mg n = none
def cQ (Φ : Fx) (sc : Scope) (ps : List Str) (body : List Stmt) (F : List D -> Rs D) : Prop := ∀ ds r, ac (F ds) r -> ac (bC Φ sc ps body ds) r
theorem cQ.self {Φ : Fx} {sc : Scope} {ps : List Str} {body : List Stmt} : cQ Φ sc ps body (bC Φ sc ps body) := fun _ _ h => h
theorem uo {P : Program} {w : World} {K : W.Frag} {mg : Str -> Option Value} {base : Heap} {k : Nat} {qual : Str} {st : Stmt} {f : Addr} {ps : List Str} {Φ : Fx} {cdv : Value} {A : Around} {outer : List Env} {s : Shared} {H : Hp} {E : XK}
    (S : aK (aC (aa st)) ps (aa st)) (hΦ : xP P w K mg base k Φ) (hr : cq k (A.deeper (envOfC qual (aa st) s.heap.objs.size f cdv))) :
    bg Φ (kB gk P w K mg base (aC (aa st)) qual (aa st) f cdv A outer s H E).nox (aa st) := by
  have hun := hr.un
  refine ⟨rfl, S.nd, fun x hx => hx, fun x hx => hx, fun x hx => hx, fun x hx => hx, fun g' F' hg => ?_, hΦ.con, hΦ.blt, hΦ.itr, hΦ.mth, hΦ.mtt, hΦ.slf, hΦ.fld, fun n m F hF => ?_, hΦ.bl, ?_, fun x hx => ?_, fun x _ => rfl⟩
  . rcases hΦ.fn g' F' hg with z | z
    . obtain ⟨f', fd', ps', a1, a2, a3, a4, a5⟩ := z
      exact .inl ⟨k, f', fd', ps', a1, hr, a2, a3, a4, a5⟩
    . obtain ⟨j, C, f', fd', ps', a0, a1, a2, a3, a4⟩ := z
      exact .inr ⟨j, C, f', fd', ps', a1, a2, a3, hr.mono a0, a4⟩
  . obtain ⟨C, f', fd', ps', a1, a2, a3, a4, a5⟩ := hΦ.omt n m F hF
    exact ⟨k, C, f', fd', ps', a1, a2, a3, a4, hr, a5⟩
  . show (A.deeper _).units + 70 < cLine
    omega
  . show x ∈ aC (aa st)
    unfold aC
    unfold d6 at hx
    rw [Bool.or_eq_true] at hx
    rcases hx with hx | hx
    . have hx : (aa st).names.lookup x = some .local := by simpa using hx
      exact List.mem_map.mpr ⟨(x, .local), List.mem_filter.mpr ⟨PySem.mem_of_lookup hx, by simp⟩, rfl⟩
    . have hx : (aa st).names.lookup x = some .cell := by simpa using hx
      exact List.mem_map.mpr ⟨(x, .cell), List.mem_filter.mpr ⟨PySem.mem_of_lookup hx, by simp⟩, rfl⟩
theorem xb {P : Program} {w : World} {K : W.Frag} {mg : Str -> Option Value} {base : Heap} {qual : Str} {st : Stmt} {f : Addr} {ps : List Str} {cdv : Value} {A : Around} {outer : List Env} {s : Shared} {H : Hp} {E : XK} {ds : List D} {vs : List V}
    (S : aK (aC (aa st)) ps (aa st)) (h1 : ag K H (fun _ _ => True) ds vs) (hl : ds.length = ps.length) :
    bc (kB gk P w K mg base (aC (aa st)) qual (aa st) f cdv A outer s H E).nox (fun _ => none) H (start (aC (aa st)) vs) (e9 ps ds) /\ (start (aC (aa st)) vs).length = (aC (aa st)).length := by
  have hpl : ps.length <= (aC (aa st)).length := by have := congrArg List.length S.pre; rw [List.length_take] at this; omega
  have hvl : vs.length = ps.length := by rw [<- h1.length]; exact hl
  refine ⟨⟨fun x d o hx => ?_, fun a ha => absurd rfl ha⟩, by unfold L2.start; rw [List.length_append, List.length_map, List.length_replicate]; omega⟩
  obtain ⟨rfl, i, i1, i2⟩ := sG hx
  obtain ⟨v, i3, i4⟩ := h1.get i2
  have hi : i < ps.length := (List.getElem?_eq_some_iff.mp i1).1
  refine ⟨i, v, ?_, ?_, ?_, i4.imp fun a b _ _ => rfl⟩
  . show (aC (aa st))[i]? = some x
    rw [<- S.pre, List.getElem?_take_of_lt hi] at i1
    exact i1
  . rcases S.par x (List.mem_of_getElem? i1) with z | z
    . exact .inl z
    . exact .inr (.inl z)
  . unfold L2.start
    rw [List.getElem?_append_left (by rw [List.length_map]; omega), List.getElem?_map, i3]; rfl
theorem ur {P : Program} {w : World} {K : W.Frag} {mg : Str -> Option Value} {base : Heap} {k : Nat} {g qual : Str} {st : Stmt} {f : Addr} {fd : FuncData} {ps : List Str} {F : List D -> Rs D} {Φ : Fx} (Fn : qk K g qual st f fd)
    (S : aK (aC (aa st)) ps (aa st)) (hΦ : xP P w K mg base k Φ)
    (hrun : cQ Φ (aa st) ps (ai st) F) : cR P w K mg base gk (k + 1) f fd ps (jV K F) := by
  refine Fn.ok S (fun vs H Q E h => ?_) (fun cdv A outer s H vs Q E hr h => ?_)
  . obtain ⟨ds, r, l, h1, h2, hp, _⟩ := h
    have := hrun ds r ⟨l, h2, hp⟩
    unfold bC at this
    split at this
    . rename_i hl; rw [<- h1.length]; exact hl
    . exact (ar this).elim
  . obtain ⟨ds, r, l, h1, h2, hp, q⟩ := h
    have hr1 := hrun ds r ⟨l, h2, hp⟩
    unfold bC at hr1
    split at hr1
    . rename_i hl
      have G := uo (outer := outer) (H := H) (E := E) S hΦ hr
      obtain ⟨E0, hsl⟩ := xb (P := P) (w := w) (mg := mg) (base := base) (qual := qual) (f := f) (cdv := cdv) (A := A) (outer := outer) (s := s) (E := E) S h1 hl
      have B0 : dW H (fun _ => none) H := fun a o h => ⟨h, rfl⟩
      obtain ⟨fl, hx, hr1⟩ := av hr1
      cases fl with
      | rt d =>
        cases aP hr1
        exact ⟨_, w5 _ (H0 := H) hx G PassesOwn.never, fun _ => none, E0, hsl, B0, fun v H' sm rp => q v H' sm rp⟩
      | nx ρ' =>
        cases aP hr1
        exact ⟨_, w5 _ (H0 := H) hx G PassesOwn.never, fun _ => none, E0, hsl, B0, fun ow' σ' H' _ _ kp => q .non H' (fun a o h => kp.keep a o h (.inr rfl)) (by rw [ah])⟩
      | bk ρ' => exact (ar hr1).elim
      | ct ρ' => exact (ar hr1).elim
    . exact (ar hr1).elim
mutual
def D.noObj : D -> Bool
  | .obj _ _ _ => false
  | .tup l => iY l
  | .lst l => iY l
  | .dct _ l => iY l
  | _ => true
def iY : List D -> Bool
  | [] => true
  | d :: l => d.noObj && iY l
end
mutual
theorem ah.off {K : W.Frag} {P : bx} {H H' : Hp} {x C dx : Addr} {fs : List (Str × V)} (hx : H x = some (.ins C dx fs)) (s : ∀ a o, a ≠ x -> H a = some o -> H' a = some o) : ∀ {d : D} {v : V}, d.noObj = true -> ah K H P d v -> ah K H' P d v
  | .non, v, _, h => by rw [ah] at h ⊢; exact h
  | .bl b, v, _, h => by rw [ah] at h ⊢; exact h
  | .int i, v, _, h => by rw [ah] at h ⊢; exact h
  | .str x, v, _, h => by rw [ah] at h ⊢; exact h
  | .dct ks es, v, f, h => by
    rw [ah] at h ⊢
    obtain ⟨f0, e0, a, vs, e, h1, p, r⟩ := h
    exact ⟨f0, e0, a, vs, e, s _ _ (lD h1 hx (fun z => nomatch z)) h1, p, ag.off hx s (by rw [D.noObj] at f; exact f) r⟩
  | .typ n, v, _, h => by rw [ah] at h ⊢; exact h
  | .sn n, v, _, h => by
    rw [ah] at h ⊢
    obtain ⟨a, S, e, h⟩ := h
    exact ⟨a, S, e, s _ _ (lD h hx (fun z => nomatch z)) h⟩
  | .obj n ns ds, v, f, h => by rw [D.noObj] at f; cases f
  | .cls n, v, _, h => by rw [ah] at h ⊢; exact h
  | .tup l, v, f, h => by
    rw [ah] at h ⊢
    obtain ⟨a, vs, e, h, r⟩ := h
    refine ⟨a, vs, e, ?_, ag.off hx s (by rw [D.noObj] at f; exact f) r⟩
    rcases h with (h | ⟨o, h⟩) | h
    . exact .inl (.inl (s _ _ (lD h hx (fun z => nomatch z)) h))
    . exact .inl (.inr ⟨o, s _ _ (lD h hx (fun z => nomatch z)) h⟩)
    . exact .inr h
  | .lst l, v, f, h => by
    rw [ah] at h ⊢
    obtain ⟨a, vs, b, e, h, p, r⟩ := h
    refine ⟨a, vs, b, e, ?_, p, ag.off hx s (by rw [D.noObj] at f; exact f) r⟩
    cases b with
    | true => exact s _ _ (lD h hx (fun z => nomatch z)) h
    | false =>
      rcases h with ⟨o, h⟩ | h
      . exact .inl ⟨o, s _ _ (lD h hx (fun z => nomatch z)) h⟩
      . exact .inr h
theorem ag.off {K : W.Frag} {P : bx} {H H' : Hp} {x C dx : Addr} {fs : List (Str × V)} (hx : H x = some (.ins C dx fs)) (s : ∀ a o, a ≠ x -> H a = some o -> H' a = some o) : ∀ {l : List D} {vs : List V}, iY l = true -> ag K H P l vs -> ag K H' P l vs
  | [], vs, _, h => by rw [ag] at h ⊢; exact h
  | d :: l, vs, f, h => by
    rw [ag] at h ⊢
    rw [iY, Bool.and_eq_true] at f
    obtain ⟨v, r, e, h1, h2⟩ := h
    exact ⟨v, r, e, ah.off hx s f.1 h1, ag.off hx s f.2 h2⟩
end
theorem bf {P : Program} {w : World} {K : W.Frag} {mg : Str -> Option Value} {base : Heap} {k : Nat} {g qual : Str} {st : Stmt} {f : Addr} {fd : FuncData} {ps : List Str} {F : List D -> Rs D} {Φ : Fx} (Fn : qk K g qual st f fd)
    (S : aK (aC (aa st)) ps (aa st)) (hm : mg g = some (.ref f)) (hb : cW K fd ps []) (hd : (g == ("__debug__" : Str)) = false)
    (hΦ : xP P w K mg base k Φ) (hrun : cQ Φ (aa st) ps (ai st) F) : cj P w K mg base (k + 1) g F :=
  ⟨f, fd, ps, ur Fn S hΦ hrun, hm, Fn.kp, hb, hd⟩
theorem az {α : Type} {Pr : α -> Prop} {x : α} {l : List α} (h1 : Pr x) (h2 : ∀ y ∈ l, Pr y) : ∀ y ∈ x :: l, Pr y := fun y hy => (List.mem_cons.mp hy).elim (fun e => e ▸ h1) (h2 y)
theorem aw {α : Type} {Pr : α -> Prop} : ∀ y ∈ ([] : List α), Pr y := fun y hy => by cases hy
theorem EJ {K : W.Frag} {H : Hp} {a : Addr} {ns : List Int} {F : List D -> Rs D} (hO : vM H) (hS : cv K H a (ns.map V.int)) (h : ac (F [.lst (ns.map D.int)]) (.bl true)) : jV K F [.ref a] H (fun v _ => v = .bl true) fun _ _ _ => False := by
  obtain ⟨l, h, hp⟩ := h
  refine ⟨[.lst (ns.map D.int)], .bl true, l, ag.one ?_, h, hp, fun v H' _ r => by rw [ah] at r; exact r⟩
  rw [ah]
  rcases hS with (hS | hS) | hS
  . rcases hO a with z | ⟨o, xs, z⟩
    . rw [z] at hS; cases hS
    . rw [z] at hS; cases hS
  . exact ⟨a, _, false, rfl, .inl hS, True.intro, ag.ofInts⟩
  . exact ⟨a, _, false, rfl, .inr hS, True.intro, ag.ofInts⟩
abbrev AT (P : Program) (w : World) (K : W.Frag) (mg : Str -> Option Value) (base : Heap) (k : Nat) : Str × (List D -> Rs D) -> Prop := fun p => Iq P w K mg base k p.1 p.2
abbrev gE (mg : Str -> Option Value) (K : W.Frag) : Str × D -> Prop := fun p => ∃ v u, mg p.1 = some u /\ aW v u /\ ∀ H P, ah K H P p.2 v
abbrev iT : Str × (List D -> R1) -> Prop := fun p => eY p.1 p.2
abbrev pJ : Str × (List D -> Nat -> R1) -> Prop := fun p => jC p.1 p.2
abbrev Gv : Str × (D -> List D -> R1) -> Prop := fun p => vO p.1 p.2
abbrev vN : Str × (List D -> List D -> Nat -> Rs (List D)) -> Prop := fun p => mi p.1 p.2
theorem aX {P : Program} {w : World} {K : W.Frag} {mg : Str -> Option Value} {base : Heap} {k : Nat} {l : List (Str × (List D -> Rs D))} {c : List (Str × D)} {b : List (Str × (List D -> R1))} {i : List (Str × (List D -> Nat -> R1))} {m : List (Str × (D -> List D -> R1))} {t : List (Str × (List D -> List D -> Nat -> Rs (List D)))} {sf : D -> Option Int -> Option Int -> R1}
    (hl : ∀ p ∈ l, AT P w K mg base k p) (hc : ∀ p ∈ c, gE mg K p) (hb : ∀ p ∈ b, iT p) (hi : ∀ p ∈ i, pJ p) (hm : ∀ p ∈ m, Gv p) (ht : ∀ p ∈ t, vN p) (hs : qz sf) (hn : ∀ n ∈ ii, mg n = none) : xP P w K mg base k (Tb l c b i m t sf) :=
  ⟨fun g F h => hl (g, F) (PySem.mem_of_lookup h), fun x d h => hc (x, d) (PySem.mem_of_lookup h), fun f B h => hb (f, B) (PySem.mem_of_lookup h), fun f B h => hi (f, B) (PySem.mem_of_lookup h), fun f B h => hm (f, B) (PySem.mem_of_lookup h), fun f B h => ht (f, B) (PySem.mem_of_lookup h), hs, (fun _ _ h => by cases h), (fun _ _ _ h => by cases h), hn⟩
theorem dz {mg : Str -> Option Value} {K : W.Frag} {x : Str} {c : Addr} {dd : Option Addr} {ss : Array (Option Value)} {nn : Nat} {its : Array Value} {ns : List Int} (hm : mg x = some (.ref c)) (hl : K.lookup c = some ⟨.type "tuple", dd, .seq its nn, ss⟩) (hz : its.size <= sizeLine) (hv : aL (ns.map V.int) its.toList) :
    gE mg K (x, .tup (ns.map .int)) := ⟨.ref c, .ref c, hm, rfl, fun H P => by rw [ah]; exact ⟨c, _, rfl, .inr ⟨_, its, nn, hl, rfl, rfl, hz, hv⟩, ag.ofInts⟩⟩
end Sp
namespace Sp
open PySem PySem.Spec PyProof.Rows L2
open AutoSeq1 (wpAny_loadPart')
theorem Ff (tu : Addr) (vs : Array Value) (n : Nat) (dc : Option Addr) (so : Array (Option Value)) :
    Meets (Builtin.«enumerate.__new__» ⟨[.type "enumerate", .ref tu], []⟩) (fun _ R st => st.heap.get? tu = some { cls := .type "tuple", dict := dc, data := .seq vs n, slots := so } /\
      R (.ok (.ret (.ref (st.heap.push { cls := .type "tuple_iterator", data := .fields #[.ref tu, .int 0 0] }).objs.size)))
        { st with heap := (st.heap.push { cls := .type "tuple_iterator", data := .fields #[.ref tu, .int 0 0] }).push { cls := .type "enumerate", data := .fields #[.none, .bool false, .ref st.heap.objs.size, rawInt 0, .none, .none] } }) :=
  .of_wp fun pg wd AA RR st hh => by
    obtain ⟨hp0, gg, dd, tk0, oo⟩ := st; obtain ⟨htu, hh⟩ := hh
    have hsub0 := sub_enumerate
    have hTT : Heap.IsTuple (Shared.heap ⟨hp0, gg, dd, tk0, oo⟩) tu vs := ⟨_, htu, rfl, n, rfl⟩
    wp_walk using wpAny_loadPart' htu
    refine wpAny_stack_any fun stk0 => wpAny_pure ?_
    split
    . rename_i c0 _ _ _ _ _
      cases (c0 == Value.type "enumerate")
      . wp_walk using wpAny_loadPart' htu, wpAny_pyIter_tuple hTT
        exact ⟨_, rfl, hh⟩
      . wp_walk using wpAny_loadPart' htu, wpAny_pyIter_tuple hTT
        exact ⟨_, rfl, hh⟩
    . wp_walk using wpAny_loadPart' htu, wpAny_pyIter_tuple hTT
      exact ⟨_, rfl, hh⟩
section
variable {prog : Program} {w : World} {A : Around} {E : Value -> Shared -> Prop} {s : Shared}
theorem Co {tu : Addr} {vs : Array Value} {Q : Value -> Shared -> Prop} (hT : s.heap.IsTuple tu vs)
    (go : ∀ h1, IsEnum h1 (s.heap.objs.size + 1) s.heap.objs.size 0 .none -> h1.IsTupleIter s.heap.objs.size tu 0 -> h1.objs.size = s.heap.objs.size + 2 -> (∀ b o, s.heap.get? b = some o -> h1.get? b = some o) -> Q (.ref (s.heap.objs.size + 1)) { s with heap := h1 }) :
    wpAny (model prog w) A (call (.type "enumerate") [.ref tu]) Q E s := by
  obtain ⟨⟨cc, dc, dt, so⟩, htu, hcc, n, hdd⟩ := hT
  replace hcc : cc = .type "tuple" := hcc
  replace hdd : dt = .seq vs n := hdd
  subst hcc hdd
  refine callType_new F.called_enumerate (by decide) (F.typeCall_enumerate_1 _) (F.newCall_enumerate_1 _) (fun ob => F.args_object_init_2 ob _) F.entry_enumerate_new (Ff tu vs n dc so) ⟨htu, ?_⟩
  have sz : (s.heap.push { cls := .type "tuple_iterator", data := .fields #[.ref tu, .int 0 0] }).objs.size = s.heap.objs.size + 1 := Heap.size_push ..
  show _ /\ _
  rw [sz]
  have isE : IsEnum ((s.heap.push { cls := .type "tuple_iterator", data := .fields #[.ref tu, .int 0 0] }).push { cls := .type "enumerate", data := .fields #[.none, .bool false, .ref s.heap.objs.size, rawInt 0, .none, .none] }) (s.heap.objs.size + 1) s.heap.objs.size 0 .none := by
    have q := Heap.get?_push_size (s.heap.push { cls := .type "tuple_iterator", data := .fields #[.ref tu, .int 0 0] }) (o := { cls := .type "enumerate", data := .fields #[.none, .bool false, .ref s.heap.objs.size, rawInt 0, .none, .none] }) rfl
    rw [sz] at q; exact q
  refine ⟨⟨_, isE, rfl⟩, go _ isE ⟨_, Heap.get?_push_of_some _ (Heap.get?_push_size _ rfl), rfl, rfl⟩ (by rw [Heap.size_push, sz]) fun b o z => Heap.get?_push_of_some _ (Heap.get?_push_of_some _ z)⟩
theorem tN {it tu : Addr} {i : Nat} {vs : Array Value} {x : Value} {Q : Value -> Shared -> Prop} (hIt : s.heap.IsTupleIter it tu i) (hT : s.heap.IsTuple tu vs) (hx : vs[i]? = some x)
    (go : ∀ h1, h1.IsTupleIter it tu (i + 1) -> Heap.SameBut it s.heap h1 -> Q x { s with heap := h1 }) : wpAny (model prog w) A (Builtin.SmallTypes.nextOf (.ref it)) Q E s := by
  have key := wpAny_pyNext_tuple_item (prog := prog) (w := w) (A := A) (E := E) (Q := fun r s1 => ∃ v, r = some v /\ Q v s1) hIt hT hx (fun h1 a b => ⟨x, rfl, go h1 a b⟩)
  obtain ⟨o, ho, hc, hd⟩ := id hIt
  obtain ⟨ot, hot, _, nt, hdt⟩ := hT
  unfold Builtin.SmallTypes.nextOf
  refine wpAny_bind (wpAny_callSpecial?_slot (name := Str.ofString "__next__") hIt.typeIs F.slot_tuple_iterator_next (wpAny_call_entry F.slot_tuple_iterator_next hIt.typeIs F.entry_tuple_iterator_next ?_ (F.args_tuple_iterator_next_1 _)))
  show wpAny _ _ (field (.ref it) 0 >>= _) _ _ s
  refine wpAny_bind (wpAny_field ho hd (x := .ref tu) rfl ?_)
  show wpAny _ _ (if (Value.ref tu == Value.none) = true then _ else _) _ _ s
  rw [if_neg (show ¬ ((Value.ref tu == Value.none) = true) from Bool.false_ne_true)]
  show wpAny _ _ (field (.ref it) 1 >>= _) _ _ s
  refine wpAny_bind (wpAny_field ho hd (x := Value.int (i : Int) 0) rfl ?_)
  show wpAny _ _ (seqItems? (.ref tu) >>= _) _ _ s
  refine wpAny_bind (wpAny_seqItems hot hdt ?_)
  simp only [Int.toNat_natCast, hx]
  refine wpAny_bind (wpAny_setField ho hd (by simp) (wpAny_pure ⟨x, rfl, wpAny_pure (go _ ?_ (Heap.SameBut.update ..))⟩))
  refine ⟨_, Heap.get?_update_self _ ho (Obj.isFreed_of_fields (Obj.data_mapFields hd _)), (Obj.cls_mapFields ..).trans hc, ?_⟩
  rw [Obj.data_mapFields hd]; simp [rawInt]
theorem vX {it tu : Addr} {i : Nat} {vs : Array Value} {Q : Value -> Shared -> Prop} (hh : A.handled = none) (hIt : s.heap.IsTupleIter it tu i) (hT : s.heap.IsTuple tu vs) (hx : vs[i]? = none)
    (go : ∀ h1 x, Heap.ExtBut it s.heap h1 -> (∃ o, h1.get? x = some o /\ o.cls = .type "StopIteration") -> E (.ref x) { s with heap := h1 }) : wpAny (model prog w) A (Builtin.SmallTypes.nextOf (.ref it)) Q E s := by
  obtain ⟨o, ho, hc, hd⟩ := id hIt
  obtain ⟨ot, hot, _, nt, hdt⟩ := hT
  unfold Builtin.SmallTypes.nextOf
  refine wpAny_bind (wpAny_callSpecial?_slot (name := Str.ofString "__next__") hIt.typeIs F.slot_tuple_iterator_next (wpAny_call_entry F.slot_tuple_iterator_next hIt.typeIs F.entry_tuple_iterator_next ?_ (F.args_tuple_iterator_next_1 _)))
  show wpAny _ _ (field (.ref it) 0 >>= _) _ _ s
  refine wpAny_bind (wpAny_field ho hd (x := .ref tu) rfl ?_)
  show wpAny _ _ (if (Value.ref tu == Value.none) = true then _ else _) _ _ s
  rw [if_neg (show ¬ ((Value.ref tu == Value.none) = true) from Bool.false_ne_true)]
  show wpAny _ _ (field (.ref it) 1 >>= _) _ _ s
  refine wpAny_bind (wpAny_field ho hd (x := Value.int (i : Int) 0) rfl ?_)
  show wpAny _ _ (seqItems? (.ref tu) >>= _) _ _ s
  refine wpAny_bind (wpAny_seqItems hot hdt ?_)
  simp only [Int.toNat_natCast, hx]
  refine wpAny_bind (wpAny_rule (wpAny_bind (wpAny_setField ho hd (by simp) ?_)))
  show wpAny _ _ (newExc (.type "StopIteration") [] >>= _) _ _ _
  refine wpAny_bind ?_
  simp only [newExc, newTuple]
  refine wpAny_bind (wpAny_newObj_type ?_ (by size_fits))
  refine wpAny_bind (m := firstArgMember _ _) (wpAny_of_eq (a := Value.none) (by first | rfl | (simp only [firstArgMember] <;> rfl)) ?_)
  refine wpAny_newObj_type ?_ (by size_fits)
  simp only [raiseNew]
  refine wpAny_bind (wpAny_handled ?_)
  first | rw [show A.in1.handled = none from hh] | rw [hh]
  refine wpAny_bind (wpAny_pure (wpAny_throw ?_))
  exact go _ _ (((Heap.SameBut.update ..).extBut.push _).push _) ⟨_, Heap.get?_push_size _ rfl, rfl⟩
theorem uz {e it : Addr} {i : Nat} {x old : Value} {Q : Value -> Shared -> Prop} {Kn : Heap -> Prop} (isE : IsEnum s.heap e it i old) (hne : e ≠ it)
    (stay : ∀ h1 h2 : Heap, Kn h1 -> (∀ o, h1.get? it = some o -> h2.get? it = some o) -> Kn h2)
    (inner : ∀ (Q1 : Value -> Shared -> Prop), (∀ h1, Kn h1 -> Heap.SameBut it s.heap h1 -> Q1 x { s with heap := h1 }) -> wpAny (model prog w) A.in1 (Builtin.SmallTypes.nextOf (.ref it)) Q1 E s)
    (go : ∀ h1, IsEnumOut h1 e it ((i : Int) + 1) x s.heap.objs.size -> Kn h1 -> h1.get? s.heap.objs.size = some { cls := .type "tuple", data := .seq #[.int i s.toks, x] } -> (∀ b o, b ≠ e -> b ≠ it -> s.heap.get? b = some o -> h1.get? b = some o) -> Q (.ref s.heap.objs.size) { s with heap := h1, toks := s.toks + 1 }) :
    wpAny (model prog w) A.in1 (Builtin.«enumerate.__next__» ⟨[.ref e], []⟩) (fun fin s' => ∃ v, fin = .done (.ret v) /\ Q v s') E s := by
  obtain ⟨h0, gg, dd, t0, oo⟩ := s
  have elt : e < h0.objs.size := Heap.lt_size isE
  show wpAny _ _ (field (.ref e) 2 >>= _) _ _ _
  refine wpAny_bind (wpAny_field isE rfl (x := Value.ref it) rfl (wpAny_bind (inner _ fun h1 k1 b1 => ?_)))
  have b1' : Heap.SameBut it h0 h1 := b1
  have E1 : IsEnum h1 e it i old := (b1'.2 e hne).trans isE
  show wpAny _ _ (field (.ref e) 3 >>= _) _ _ ⟨h1, gg, dd, t0, oo⟩
  refine wpAny_bind (wpAny_field E1 rfl (x := rawInt (i : Int)) rfl ?_)
  show wpAny _ _ (field (.ref e) 4 >>= _) _ _ ⟨h1, gg, dd, t0, oo⟩
  refine wpAny_bind (wpAny_field E1 rfl (x := Value.none) rfl ?_)
  show wpAny _ _ (mkInt i >>= _) _ _ ⟨h1, gg, dd, t0, oo⟩
  refine wpAny_bind (wpAny_mkInt ?_)
  show wpAny _ _ (setField (.ref e) 3 (rawInt ((i : Int) + 1)) >>= _) _ _ ⟨h1, gg, dd, t0 + 1, oo⟩
  refine wpAny_bind (wpAny_setField_rec E1 (by simp) fun h2 E2 b2 => ?_)
  have b2' : Heap.SameBut e h1 h2 := b2
  have E2' : IsEnum h2 e it ((i : Int) + 1) old := E2
  show wpAny _ _ (setField (.ref e) 4 .none >>= _) _ _ ⟨h2, gg, dd, t0 + 1, oo⟩
  refine wpAny_bind (wpAny_setField_rec E2' (by simp) fun h3 E3 b3 => ?_)
  have b3' : Heap.SameBut e h2 h3 := b3
  have E3' : IsEnum h3 e it ((i : Int) + 1) old := E3
  show wpAny _ _ (newTuple [.int i t0, x] >>= _) _ _ ⟨h3, gg, dd, t0 + 1, oo⟩
  refine wpAny_bind (wpAny_newTuple ?_)
  have z3 : h3.objs.size = h0.objs.size := by rw [b3'.1, b2'.1, b1'.1]
  have E4 : IsEnum (h3.push { cls := .type "tuple", data := .seq #[.int i t0, x] }) e it ((i : Int) + 1) old := Heap.get?_push_of_some _ E3'
  have T4 : (h3.push { cls := .type "tuple", data := .seq #[.int i t0, x] }).get? h0.objs.size = some { cls := .type "tuple", data := .seq #[.int i t0, x] } := by rw [<- z3]; exact Heap.get?_push_size _ rfl
  have K4 : ∀ b o, b ≠ e -> b ≠ it -> h0.get? b = some o -> (h3.push { cls := .type "tuple", data := .seq #[.int i t0, x] }).get? b = some o := fun b o n1 n2 q => Heap.get?_push_of_some _ (b3'.extBut b o n1 (b2'.extBut b o n1 (b1'.extBut b o n2 q)))
  have N4 : Kn (h3.push { cls := .type "tuple", data := .seq #[.int i t0, x] }) := stay h1 _ k1 fun o q => Heap.get?_push_of_some _ (b3'.extBut it o (Ne.symm hne) (b2'.extBut it o (Ne.symm hne) q))
  rw [z3]
  generalize h3.push { cls := .type "tuple", data := .seq #[.int i t0, x] } = h4 at E4 T4 K4 N4
  show wpAny _ _ (Builtin.SmallTypes.ownedTupleIsFree (.ref e) >>= _) _ _ ⟨h4, gg, dd, t0 + 1, oo⟩
  refine wpAny_bind ?_
  unfold Builtin.SmallTypes.ownedTupleIsFree
  refine wpAny_bind (wpAny_field E4 rfl (x := Value.none) rfl (wpAny_pure ?_))
  simp only [if_true]
  refine wpAny_bind (wpAny_rule (wpAny_bind (wpAny_field E4 rfl (x := old) rfl ?_)))
  refine wpAny_bind (wpAny_setField_rec E4 (by simp) fun h5 E5 b5 => ?_)
  have b5' : Heap.SameBut e h4 h5 := b5
  have E5' : IsEnum h5 e it ((i : Int) + 1) x := E5
  show wpAny _ _ (Builtin.SmallTypes.ownedTupleHandOut (.ref e) (.ref h0.objs.size) >>= _) _ _ ⟨h5, gg, dd, t0 + 1, oo⟩
  refine wpAny_bind ?_
  unfold Builtin.SmallTypes.ownedTupleHandOut
  refine wpAny_bind (wpAny_setField_rec E5' (by simp) fun h6 E6 b6 => ?_)
  have b6' : Heap.SameBut e h5 h6 := b6
  have E6' : IsEnumOut h6 e it ((i : Int) + 1) x h0.objs.size := E6
  refine wpAny_setField_rec E6' (by simp) fun h7 E7 b7 => ?_
  have b7' : Heap.SameBut e h6 h7 := b7
  have E7' : IsEnumOut h7 e it ((i : Int) + 1) x h0.objs.size := E7
  have far : ∀ b o, b ≠ e -> h4.get? b = some o -> h7.get? b = some o := fun b o n1 q => b7'.extBut b o n1 (b6'.extBut b o n1 (b5'.extBut b o n1 q))
  refine wpAny_bind (wpAny_letGo (wpAny_pure ⟨_, rfl, go h7 E7' ?_ (far _ _ (Nat.ne_of_gt elt) T4) fun b o n1 n2 q => far b o n1 (K4 b o n1 n2 q)⟩))
  exact stay h4 h7 N4 fun o q => far it o (Ne.symm hne) q
theorem Cl {e it tu : Addr} {i : Nat} {vs : Array Value} {x old : Value} {Q : Option Value -> Shared -> Prop} (isE : IsEnum s.heap e it i old) (hIt : s.heap.IsTupleIter it tu i) (hT : s.heap.IsTuple tu vs) (hx : vs[i]? = some x) (hne : e ≠ it)
    (go : ∀ h1, IsEnumOut h1 e it ((i : Int) + 1) x s.heap.objs.size -> h1.IsTupleIter it tu (i + 1) -> h1.get? s.heap.objs.size = some { cls := .type "tuple", data := .seq #[.int i s.toks, x] } -> (∀ b o, b ≠ e -> b ≠ it -> s.heap.get? b = some o -> h1.get? b = some o) -> Q (some (.ref s.heap.objs.size)) { s with heap := h1, toks := s.toks + 1 }) :
    wpAny (model prog w) A (pyNext (.ref e)) Q E s := by
  have tyE : s.TypeIs (.ref e) "enumerate" := ⟨_, isE, rfl⟩
  unfold pyNext
  refine wpAny_bind (wpAny_attempt (wpAny_callSpecial?_slot (name := Str.ofString "__next__") tyE F.slot_enumerate_next (wpAny_call_entry F.slot_enumerate_next tyE F.entry_enumerate_next ?_ (F.args_enumerate_next_1 _))))
  exact uz (Kn := fun h1 => h1.IsTupleIter it tu (i + 1)) isE hne (fun h1 h2 k hk => k.at hk) (fun Q1 q1 => tN hIt hT hx q1) fun h1 a b c d => wpAny_pure (go h1 a b c d)
theorem Fg {e it tu : Addr} {i : Nat} {vs : Array Value} {old : Value} {Q : Option Value -> Shared -> Prop} (hh : A.handled = none) (isE : IsEnum s.heap e it i old) (hIt : s.heap.IsTupleIter it tu i) (hT : s.heap.IsTuple tu vs) (hx : vs[i]? = none)
    (go : ∀ h1, Heap.ExtBut it s.heap h1 -> Q none { s with heap := h1 }) : wpAny (model prog w) A (pyNext (.ref e)) Q E s := by
  have tyE : s.TypeIs (.ref e) "enumerate" := ⟨_, isE, rfl⟩
  unfold pyNext
  refine wpAny_bind (wpAny_attempt (wpAny_callSpecial?_slot (name := Str.ofString "__next__") tyE F.slot_enumerate_next (wpAny_call_entry F.slot_enumerate_next tyE F.entry_enumerate_next ?_ (F.args_enumerate_next_1 _))))
  show wpAny _ _ (field (.ref e) 2 >>= _) _ _ _
  refine wpAny_bind (wpAny_field isE rfl (x := Value.ref it) rfl (wpAny_bind (vX hh hIt hT hx fun h1 xx eb hx' => ?_)))
  obtain ⟨o, ho, hc⟩ := hx'
  exact wpAny_bind (wpAny_isInstance (T := "StopIteration") (b := true) ⟨o, ho, hc⟩ isSubtype_stop (wpAny_pure (go _ eb)))
end
end Sp
namespace Sp
open PySem PySem.Spec PyProof.Rows L2
variable {X : Cx}
theorem iy {pins : List (Addr × Obj)} {σ : L2.St} {H : Hp} {s : Shared} {h2 : Heap} {t2 : Nat} {ch : List Addr} {p : Addr} {o : HO} (I : ak X pins σ H s)
    (k : ∀ b u, b ∉ ch -> s.heap.get? b = some u -> h2.get? b = some u) (hp : s.heap.objs.size <= p) (hn : ∀ b ∈ ch, fB X pins H b) (new : cg X.prog X.w (bh H p o) h2 p o) : ak X pins σ (bh H p o) { s with heap := h2, toks := t2 } := by
  have hH : H p = none := I.hok.fresh hp
  have tr : ∀ b u, H b = some u -> b ∉ ch := fun b u e z => by rw [(hn b z).1] at e; cases e
  have un : Un (i6 X.stack) ch H (bh H p o) s.heap h2 := by
    refine ⟨fun b ob e n _ c => k b ob c e, fun b ob e n _ c => ⟨ob.slots, k b ob c e⟩, fun b ob e n c => ?_, fun b ob e c => ⟨ob, k b ob c e⟩, fun b xs e => ?_, fun b ob u e => ?_, fun b ps e => ⟨#[], ?_⟩⟩
    . rw [aO (Nat.ne_of_lt (Nat.lt_of_lt_of_le (Heap.lt_size e) hp))]; exact n
    . rw [aO (bH e hH)]; exact e
    . rw [aO (bH e hH)]; exact e
    . rw [aO (bH e hH), e]; simp
  refine I.call (g' := s.gens) (d' := s.drawn) un (fun b u e => ?_) I.bare fun b hb => ⟨(hn b hb).2.2.2.1, (hn b hb).2.1, (hn b hb).2.2.2.2.1, (hn b hb).2.2.2.2.2⟩
  by_cases hb : b = p
  . subst hb; rw [aU] at e; cases e; exact new
  . rw [aO hb] at e
    refine (I.hok b u e).stay (fun c v hc q => k c v ?_ q) (fun c q => by rw [aO (bH q hH)]; exact q) fun c xs q => by rw [aO (bH q hH)]; exact q
    rcases hc with z | z
    . rw [z]; exact tr b u e
    . exact tr c _ z
def PQ (K : W.Frag) (a : Addr) : It :=
  ⟨fun i H => ∃ xs x, cu K H a xs /\ xs[i]? = some x, fun i H x H' => ∃ p v, x = .ref p /\ H p = none /\ H' = bh H p (.tup [.int (i : Nat), v]) /\ ∀ xs, cu K H a xs -> xs[i]? = some v, fun i H => ∃ xs, cu K H a xs /\ xs.length <= i⟩
theorem vV {P : Program} {w : World} {K : W.Frag} {es : List Expr} {n1 : Nat} {pos : Pos} (a e it : Addr) (hne : e ≠ it) :
    L2.Turn P w K (.Tuple es n1 pos) (PQ K a) [e, it] e (fun i h => (∃ old, IsEnum h e it ((i : Nat) : Int) old) /\ h.IsTupleIter it a i) where
  mem := by simp
  obj := fun i h st b hb => by
    obtain ⟨⟨old, q⟩, o, q2, c, d⟩ := st
    rcases List.mem_cons.mp hb with rfl | hb
    . exact ⟨_, q, fun v z => by have z' : Data.fields _ = Data.cell v := z; cases z'⟩
    . have eb : b = it := by simpa using hb
      subst eb
      exact ⟨o, q2, fun v z => by rw [d] at z; cases z⟩
  keep := fun i h h' st k => ⟨let ⟨old, q⟩ := st.1; ⟨old, k e (by simp) _ q⟩, st.2.at fun o q => k it (by simp) o q⟩
  item := by
    intro Y hP hw hK hc i pins s σ H E I hf st hg
    subst hP hw hK
    obtain ⟨xs, x, hq, hx⟩ := hg
    obtain ⟨its, rv, p, hz⟩ := I.tuple hq
    obtain ⟨u, hu, ru⟩ := rv.get hx
    obtain ⟨⟨old, isE⟩, hIt⟩ := st
    refine Cl isE hIt (show s.heap.IsTuple a its.toArray from p) (x := u) (by simpa using hu) hne fun h1 eo it1 t1 k1 => ?_
    refine ⟨_, rfl, wpAny_letOwnedTupleGo_enum eo fun h2 e2 sb2 => ?_⟩
    have sb2' : Heap.SameBut e h1 h2 := sb2
    have elt : e < s.heap.objs.size := Heap.lt_size isE
    have k2 : ∀ b o, b ∉ [e, it] -> s.heap.get? b = some o -> h2.get? b = some o := fun b o nb q => by
      have n1 : b ≠ e := fun z => nb (by simp [z])
      have n2 : b ≠ it := fun z => nb (by simp [z])
      exact sb2'.extBut b o n1 (k1 b o n1 n2 q)
    have t2 : h2.get? s.heap.objs.size = some { cls := .type "tuple", data := .seq #[.int i s.toks, u] } := sb2'.extBut _ _ (Nat.ne_of_gt elt) t1
    have hn0 : H s.heap.objs.size = none := I.hok.fresh (Nat.le_refl _)
    refine ⟨.ref s.heap.objs.size, bh H s.heap.objs.size (.tup [.int (i : Nat), x]), iy (s := s) (h2 := h2) (t2 := s.toks + 1) I k2 (Nat.le_refl _) hf ?_, rfl, ⟨_, x, rfl, hn0, rfl, fun ys hy => by rw [I.tuple_inj hy hq]; exact hx⟩, ⟨⟨u, ?_⟩, it1.at fun o q => sb2'.extBut it o (Ne.symm hne) q⟩, fun b hb => ?_⟩
    . exact ⟨by show 2 <= sizeLine; decide, [.int i s.toks, u], .cons ⟨_, rfl⟩ (.cons ru .nil), ⟨_, t2, rfl, _, rfl⟩⟩
    . have q := e2
      rw [show ((i : Nat) : Int) + 1 = ((i + 1 : Nat) : Int) by omega] at q
      exact q
    . have hb' := hf b hb
      have lt : b < s.heap.objs.size := by
        rcases List.mem_cons.mp hb with rfl | hb
        . exact elt
        . have eb : b = it := by simpa using hb
          subst eb
          obtain ⟨o, q, _⟩ := hIt
          exact Heap.lt_size q
      rw [aO (Nat.ne_of_lt lt)]; exact hb'.1
  done := by
    intro Y hP hw hK hc i pins s σ H E I hf st hg
    subst hP hw hK
    obtain ⟨xs, hq, hx⟩ := hg
    obtain ⟨its, rv, p, hz⟩ := I.tuple hq
    obtain ⟨⟨old, isE⟩, hIt⟩ := st
    obtain ⟨f0, f1, f2, f3, f4, f5⟩ := hf it (by simp)
    have hl := rv.length
    exact Fg (I.ok.hd hc) isE hIt (show s.heap.IsTuple a its.toArray from p) (by simp; omega) fun h1 eb => ⟨rfl, I.turned (t' := s.toks) (fun b o hb q => eb b o hb q) f0 f1 f3 f4 f5⟩
  self := fun _ _ _ _ _ st h => let ⟨old, q⟩ := st.1; wpAny_pyIter_enum q h
theorem B7 {ρ : aj} {es : List Expr} {n1 : Nat} {tp p pos : Pos} {a : Expr} {l : List D} {k : Nat} (hg : Gl X "enumerate") (hm0 : X.mg "enumerate" = none) (ha : AD X ρ [a] [.tup l] k) (hst : ∀ y p, a ≠ .Starred y p) (hf : am l = true) :
    IE X ρ (.Tuple es n1 tp) (.Call (.Name "enumerate" p) [a] [] pos) (l.mapIdx fun i x => .tup [.int (i : Nat), x]) 0 := by
  intro ow pins s σ H R I ⟨E, q⟩
  refine Call_ (dS I hg hm0 (show bootBuiltins "enumerate" = some (.type "enumerate") by decide +kernel) (PyProof.Rows.callWith_type1 (aS (ha ow pos pins s σ H (fun vs H1 => aF H H1 /\ ag X.K H1 (Kp ow H k) [.tup l] vs) I ⟨E, fun vs H1 s1 r1 => ⟨s1, r1⟩⟩) fun us s1 ⟨vs, H1, I1, rv, sm, rp⟩ => ?_) (bA hst) rfl) (by decide +kernel) (by decide +kernel))
  obtain ⟨v, rfl, rv1⟩ := rp.only
  obtain ⟨ta, xs, rfl, hq, rl⟩ := eS rv1
  obtain ⟨u, rfl, ru⟩ := eB rv
  cases (show u = Value.ref ta from ru)
  obtain ⟨its, rvs, pt, hz⟩ := I1.tuple hq
  refine Co (show s1.heap.IsTuple ta its.toArray from pt) fun h2 isE hIt sz k2 => ?_
  refine wpAny_pyIter_enum isE ?_
  have I2 : ak X pins σ H1 { s1 with heap := h2 } := I1.kept (t' := s1.toks) k2
  have f0 : H1 s1.heap.objs.size = none := I1.hok.fresh (Nat.le_refl _)
  have f1 : H1 (s1.heap.objs.size + 1) = none := I1.hok.fresh (Nat.le_succ _)
  refine ⟨s1.heap.objs.size + 1, [s1.heap.objs.size + 1, s1.heap.objs.size], _, _, H1, rfl, I2, vV ta _ _ (Nat.ne_of_gt (Nat.lt_succ_self _)), ⟨⟨_, isE⟩, hIt⟩, fun b hb => ?_, q _ H1 sm ?_⟩
  . rcases List.mem_cons.mp hb with rfl | hb
    . exact I1.fpOk (Nat.le_succ _) f1
    . have eb : b = s1.heap.objs.size := by simpa using hb
      subst eb
      exact I1.fpOk (Nat.le_refl _) f0
  . intro i H2 st
    have rl' : ag X.K H1 (Kd ow H 0 H1) l xs := rl.flat _ hf
    refine ⟨fun d hd => ?_, fun hle => ?_⟩
    . rw [List.getElem?_mapIdx] at hd
      cases e : l[i]? with
      | none => rw [e] at hd; cases hd
      | some x =>
        rw [e] at hd; cases hd
        obtain ⟨y, hy, ry⟩ := rl'.get e
        refine ⟨⟨xs, y, st.sq hq, hy⟩, fun x' H3 ⟨p', v', e1, e2, e3, e4⟩ => ?_⟩
        have hv := e4 xs (st.sq hq)
        rw [hy] at hv; cases hv
        subst e1 e3
        have sm3 := cD (o := HO.tup [.int (i : Nat), y]) e2
        refine ⟨sm3, ?_⟩
        rw [ah]
        exact ⟨p', _, rfl, cu.of aU, ag.cons (by rw [ah]) (ag.one ((ry.mono st).same sm3))⟩
    . rw [List.length_mapIdx] at hle
      exact ⟨xs, st.sq hq, by rw [<- rl.length]; exact hle⟩
theorem pT {tg : Expr} (h : hJ tg = true) : ∃ es n p, tg = .Tuple es n p := by
  cases tg <;> first | exact ⟨_, _, _, rfl⟩ | cases h
end Sp
namespace Sp
open PySem PySem.Spec PyProof.Rows L2
open AutoSeq1 (wpAny_loadPart')
structure Wk (prog : Program) (w : World) (i l : Addr) (P : Nat -> Heap -> Prop) (g : Nat -> Option Value) : Prop where
  stay : ∀ k (h h' : Heap), P k h -> (∀ c o, c = i \/ c = l -> h.get? c = some o -> h'.get? c = some o) -> P k h'
  here : ∀ k (h : Heap), P k h -> ∃ o, h.get? i = some o /\ ∀ v, o.data ≠ Data.cell v
  item : ∀ (A : Around) (E : Value -> Shared -> Prop) (s : Shared) (k : Nat) (x : Value) (Q : Value -> Shared -> Prop), P k s.heap -> g k = some x -> (∀ h1, P (k + 1) h1 -> Heap.SameBut i s.heap h1 -> Q x { s with heap := h1 }) -> wpAny (model prog w) A (Builtin.SmallTypes.nextOf (.ref i)) Q E s
  done : ∀ (A : Around) (E : Value -> Shared -> Prop) (s : Shared) (k : Nat) (Q : Value -> Shared -> Prop), A.handled = none -> P k s.heap -> g k = none -> (∀ h1 x, Heap.ExtBut i s.heap h1 -> (∃ o, h1.get? x = some o /\ o.cls = .type "StopIteration") -> E (.ref x) { s with heap := h1 }) -> wpAny (model prog w) A (Builtin.SmallTypes.nextOf (.ref i)) Q E s
theorem jO {prog : Program} {w : World} {i l : Addr} {xs : Array Value} (ne : l ≠ i) : Wk prog w i l (fun k h => h.IsTupleIter i l k /\ h.IsTuple l xs) (fun k => xs[k]?) where
  stay := fun k h h' p q => ⟨p.1.at fun o e => q i o (.inl rfl) e, p.2.at fun o e => q l o (.inr rfl) e⟩
  here := fun k h p => let ⟨o, e, _, d⟩ := p.1; ⟨o, e, fun v z => by rw [d] at z; cases z⟩
  item := fun A E s k x Q p hx q => tN p.1 p.2 hx fun h1 a b => q h1 ⟨a, p.2.extBut b.extBut ne⟩ b
  done := fun A E s k Q hh p hx q => vX hh p.1 p.2 hx q
theorem CU {prog : Program} {w : World} {i l : Addr} {xs : Array Value} (ne : l ≠ i) : Wk prog w i l (fun k h => h.IsListIter i l k /\ h.IsList l xs) (fun k => xs[k]?) where
  stay := fun k h h' p q => ⟨p.1.at fun o e => q i o (.inl rfl) e, p.2.at fun o e => q l o (.inr rfl) e⟩
  here := fun k h p => let ⟨o, e, _, d⟩ := p.1; ⟨o, e, fun v z => by rw [d] at z; cases z⟩
  item := fun A E s k x Q p hx q => wpAny_nextOf_list_item p.1 p.2 hx fun h1 a b => q h1 ⟨a, p.2.extBut b.extBut ne⟩ b
  done := fun A E s k Q hh p hx q => wpAny_nextOf_list_end hh p.1 p.2 hx q
section
variable {prog : Program} {w : World} {A : Around} {E : Value -> Shared -> Prop} {s : Shared}
variable {z TI TO i1 i2 l1 l2 : Addr} {k1 k2 : Nat} {P1 P2 : Nat -> Heap -> Prop} {g1 g2 : Nat -> Option Value} {x y a b : Value}
structure Zs (z TI TO i1 i2 l1 l2 : Addr) (P1 P2 : Nat -> Heap -> Prop) (k : Nat) (h : Heap) : Prop where
  ap : ZipApart z TI TO i1 i2 l1 l2
  rd : IsZip h z TI TO .none
  ins : IsPair h TI (.ref i1) (.ref i2)
  out : ∃ a b, IsPair h TO a b
  fst : P1 k h
  snd : P2 k h
theorem Zs.item {k : Nat} {Q : Value -> Shared -> Prop} (W1 : Wk prog w i1 l1 P1 g1) (W2 : Wk prog w i2 l2 P2 g2) (S : Zs z TI TO i1 i2 l1 l2 P1 P2 k s.heap) (hx : g1 k = some x) (hy : g2 k = some y)
    (go : ∀ h1, (∀ h2, IsZip h2 z TI TO .none -> Heap.SameBut z h1 h2 -> Zs z TI TO i1 i2 l1 l2 P1 P2 (k + 1) h2) -> IsZip h1 z TI TO (rawInt s.heap.objs.size) -> IsPair h1 s.heap.objs.size x y -> (∀ c o, c ∉ [z, TO, i1, i2] -> s.heap.get? c = some o -> h1.get? c = some o) -> Q (.ref s.heap.objs.size) { s with heap := h1 }) :
    wpAny (model prog w) A (Builtin.«zip.__next__» ⟨[.ref z], []⟩) (fun fin s' => ∃ v, fin = .done (.ret v) /\ Q v s') E s := by
  obtain ⟨D, isZ, pI, ⟨a, b, pO⟩, p1, p2⟩ := S
  obtain ⟨h0, gg, dd, t0, oo⟩ := s
  show wpAny _ _ (field (.ref z) 2 >>= _) _ _ ⟨h0, gg, dd, t0, oo⟩
  refine wpAny_bind (wpAny_field isZ rfl (x := Value.bool false) rfl ?_)
  show wpAny _ _ (field (.ref z) 3 >>= _) _ _ ⟨h0, gg, dd, t0, oo⟩
  refine wpAny_bind (wpAny_field isZ rfl (x := Value.ref TI) rfl (wpAny_bind (wpAny_seqItems pI rfl ?_)))
  show wpAny _ _ (Builtin.SmallTypes.ownedTupleIsFree (.ref z) >>= _) _ _ ⟨h0, gg, dd, t0, oo⟩
  unfold Builtin.SmallTypes.ownedTupleIsFree
  refine wpAny_bind (wpAny_bind (wpAny_field isZ rfl (x := Value.none) rfl (wpAny_pure ?_)))
  simp only [if_true]
  refine wpAny_bind (wpAny_rule (wpAny_bind (wpAny_field isZ rfl (x := Value.ref TO) rfl (wpAny_bind (wpAny_setField_rec isZ (by simp) fun q1 Z1 m1 => ?_)))))
  have Z1 : IsZip q1 z TI TO .ellipsis := Z1
  have m1 : Heap.SameBut z h0 q1 := m1
  simp only [List.zipIdx_cons, List.zipIdx_nil, List.forIn_cons, List.forIn_nil]
  refine wpAny_bind (wpAny_bind (wpAny_bind (wpAny_onRaise ?_)))
  show wpAny _ _ (Builtin.SmallTypes.nextOf (.ref i1) >>= _) _ _ ⟨q1, gg, dd, t0, oo⟩
  have e1 : ∀ c o, c ≠ z -> h0.get? c = some o -> q1.get? c = some o := fun c o n u => m1.extBut c o n u
  refine wpAny_bind (W1.item _ _ _ k x _ (W1.stay k _ _ p1 fun c o hc u => e1 c o (by rcases hc with rfl | rfl; exact D.i1z; exact D.l1z) u) hx fun q2 p1' m2 => wpAny_pure ?_)
  have m2 : Heap.SameBut i1 q1 q2 := m2
  have e2 : ∀ c o, c ≠ z -> c ≠ i1 -> h0.get? c = some o -> q2.get? c = some o := fun c o n n' u => m2.extBut c o n' (e1 c o n u)
  have O2 : IsPair q2 TO a b := e2 _ _ D.TOz D.TOi1 pO
  refine wpAny_bind (wpAny_seqItems O2 rfl (wpAny_bind (wpAny_updateSeq_pair O2 fun q3 O3 m3 => wpAny_bind (wpAny_letGo (wpAny_pure ?_)))))
  have O3 : IsPair q3 TO x b := O3
  have m3 : Heap.SameBut TO q2 q3 := m3
  have e3 : ∀ c o, c ≠ z -> c ≠ i1 -> c ≠ TO -> h0.get? c = some o -> q3.get? c = some o := fun c o n n' n'' u => m3.extBut c o n'' (e2 c o n n' u)
  refine wpAny_bind (wpAny_bind (wpAny_onRaise ?_))
  show wpAny _ _ (Builtin.SmallTypes.nextOf (.ref i2) >>= _) _ _ ⟨q3, gg, dd, t0, oo⟩
  refine wpAny_bind (W2.item _ _ _ k y _ (W2.stay k _ _ p2 fun c o hc u => by
    rcases hc with rfl | rfl
    . exact e3 c o D.i2z D.i12.symm D.TOi2.symm u
    . exact e3 c o D.l2z D.l2i1 D.l2TO u) hy fun q4 p2' m4 => wpAny_pure ?_)
  have m4 : Heap.SameBut i2 q3 q4 := m4
  have O4 : IsPair q4 TO x b := m4.extBut _ _ D.TOi2 O3
  refine wpAny_bind (wpAny_seqItems O4 rfl (wpAny_bind (wpAny_updateSeq_pair O4 fun q5 O5 m5 => wpAny_bind (wpAny_letGo (wpAny_pure (wpAny_pure ?_))))))
  have O5 : IsPair q5 TO x y := O5
  have m5 : Heap.SameBut TO q4 q5 := m5
  refine wpAny_bind (wpAny_seqItems O5 rfl (wpAny_bind (wpAny_newTuple ?_)))
  have sz : q5.objs.size = h0.objs.size := by rw [m5.1, m4.1, m3.1, m2.1, m1.1]
  have e5 : ∀ c o, c ≠ z -> c ≠ i1 -> c ≠ TO -> c ≠ i2 -> h0.get? c = some o -> q5.get? c = some o := fun c o n n' n'' n3 u => m5.extBut c o n'' (m4.extBut c o n3 (e3 c o n n' n'' u))
  have Z5 : IsZip q5 z TI TO .ellipsis := m5.extBut _ _ D.TOz.symm (m4.extBut _ _ D.i2z.symm (m3.extBut _ _ D.TOz.symm (m2.extBut _ _ D.i1z.symm Z1)))
  have r1 : P1 (k + 1) q5 := W1.stay _ _ _ p1' fun c o hc u => by
    rcases hc with rfl | rfl
    . exact m5.extBut c o D.TOi1.symm (m4.extBut c o D.i12 (m3.extBut c o D.TOi1.symm u))
    . exact m5.extBut c o D.l1TO (m4.extBut c o D.l1i2 (m3.extBut c o D.l1TO u))
  have r2 : P2 (k + 1) q5 := W2.stay _ _ _ p2' fun c o hc u => by
    rcases hc with rfl | rfl
    . exact m5.extBut c o D.TOi2.symm u
    . exact m5.extBut c o D.l2TO u
  have I5 : IsPair q5 TI (.ref i1) (.ref i2) := e5 _ _ D.TIz D.TIi1 D.TITO D.TIi2 pI
  have zl : z < q5.objs.size := Heap.lt_size Z5
  show wpAny _ _ (Builtin.SmallTypes.ownedTupleHandOut (.ref z) (.ref q5.objs.size) >>= _) _ _ ⟨q5.push { cls := .type "tuple", data := .seq #[x, y] }, gg, dd, t0, oo⟩
  unfold Builtin.SmallTypes.ownedTupleHandOut
  have Z6 : IsZip (q5.push { cls := .type "tuple", data := .seq #[x, y] }) z TI TO .ellipsis := Heap.get?_push_of_some _ Z5
  refine wpAny_bind (wpAny_bind (wpAny_setField_rec Z6 (by simp) fun q7 Z7 m7 => ?_))
  have Z7 : IsZip q7 z TI TO (rawInt q5.objs.size) := Z7
  refine wpAny_setField_rec Z7 (by simp) fun q8 Z8 m8 => ?_
  have Z8 : IsZip q8 z TI TO (rawInt q5.objs.size) := Z8
  have far : ∀ c o, c ≠ z -> q5.get? c = some o -> q8.get? c = some o := fun c o n u => m8.extBut _ _ n (m7.extBut _ _ n (Heap.get?_push_of_some _ u))
  have T8 : IsPair q8 q5.objs.size x y := m8.extBut _ _ (Nat.ne_of_gt zl) (m7.extBut _ _ (Nat.ne_of_gt zl) (Heap.get?_push_size _ rfl))
  refine wpAny_pure ⟨_, rfl, ?_⟩
  show Q (.ref q5.objs.size) _
  rw [sz] at Z8 T8 ⊢
  refine go q8 (fun h2 Zn mn => ⟨D, Zn, mn.extBut _ _ D.TIz (far _ _ D.TIz I5), ⟨x, y, mn.extBut _ _ D.TOz (far _ _ D.TOz O5)⟩, W1.stay _ _ _ r1 fun c o hc u => ?_, W2.stay _ _ _ r2 fun c o hc u => ?_⟩) Z8 T8 fun c o hc u => ?_
  . have n : c ≠ z := by rcases hc with rfl | rfl; exact D.i1z; exact D.l1z
    exact mn.extBut c o n (far c o n u)
  . have n : c ≠ z := by rcases hc with rfl | rfl; exact D.i2z; exact D.l2z
    exact mn.extBut c o n (far c o n u)
  . have c1 : c ≠ z := fun q => hc (by simp [q])
    have c2 : c ≠ TO := fun q => hc (by simp [q])
    have c3 : c ≠ i1 := fun q => hc (by simp [q])
    have c4 : c ≠ i2 := fun q => hc (by simp [q])
    exact far c o c1 (e5 c o c1 c3 c2 c4 u)
theorem Zs.done {k : Nat} {Q : Fin -> Shared -> Prop} (hh : A.handled = none) (W1 : Wk prog w i1 l1 P1 g1) (W2 : Wk prog w i2 l2 P2 g2) (S : Zs z TI TO i1 i2 l1 l2 P1 P2 k s.heap) (hxy : g1 k = none \/ g2 k = none)
    (go : ∀ h1 e, (∀ c o, c ∉ [z, TO, i1, i2] -> s.heap.get? c = some o -> h1.get? c = some o) -> (∃ o, h1.get? e = some o /\ o.cls = .type "StopIteration") -> E (.ref e) { s with heap := h1 }) :
    wpAny (model prog w) A (Builtin.«zip.__next__» ⟨[.ref z], []⟩) Q E s := by
  obtain ⟨D, isZ, pI, ⟨a, b, pO⟩, p1, p2⟩ := S
  obtain ⟨h0, gg, dd, t0, oo⟩ := s
  show wpAny _ _ (field (.ref z) 2 >>= _) _ _ ⟨h0, gg, dd, t0, oo⟩
  refine wpAny_bind (wpAny_field isZ rfl (x := Value.bool false) rfl ?_)
  show wpAny _ _ (field (.ref z) 3 >>= _) _ _ ⟨h0, gg, dd, t0, oo⟩
  refine wpAny_bind (wpAny_field isZ rfl (x := Value.ref TI) rfl (wpAny_bind (wpAny_seqItems pI rfl ?_)))
  show wpAny _ _ (Builtin.SmallTypes.ownedTupleIsFree (.ref z) >>= _) _ _ ⟨h0, gg, dd, t0, oo⟩
  unfold Builtin.SmallTypes.ownedTupleIsFree
  refine wpAny_bind (wpAny_bind (wpAny_field isZ rfl (x := Value.none) rfl (wpAny_pure ?_)))
  simp only [if_true]
  refine wpAny_bind (wpAny_rule (wpAny_bind (wpAny_field isZ rfl (x := Value.ref TO) rfl (wpAny_bind (wpAny_setField_rec isZ (by simp) fun q1 Z1 m1 => ?_)))))
  have Z1 : IsZip q1 z TI TO .ellipsis := Z1
  have m1 : Heap.SameBut z h0 q1 := m1
  simp only [List.zipIdx_cons, List.zipIdx_nil, List.forIn_cons, List.forIn_nil]
  refine wpAny_bind (wpAny_bind (wpAny_bind (wpAny_onRaise ?_)))
  show wpAny _ _ (Builtin.SmallTypes.nextOf (.ref i1) >>= _) _ _ ⟨q1, gg, dd, t0, oo⟩
  have e1 : ∀ c o, c ≠ z -> h0.get? c = some o -> q1.get? c = some o := fun c o n u => m1.extBut c o n u
  have p1 : P1 k q1 := W1.stay k _ _ p1 fun c o hc u => e1 c o (by rcases hc with rfl | rfl; exact D.i1z; exact D.l1z) u
  have nin : ∀ c, c ∉ [z, TO, i1, i2] -> c ≠ z /\ c ≠ TO /\ c ≠ i1 /\ c ≠ i2 := fun c hc => ⟨fun q => hc (by simp [q]), fun q => hc (by simp [q]), fun q => hc (by simp [q]), fun q => hc (by simp [q])⟩
  have last : ∀ (q2 : Heap) (ex : Addr) (oe : Obj), IsZip q2 z TI TO .ellipsis -> (∀ c o, c ∉ [z, TO, i1, i2] -> h0.get? c = some o -> q2.get? c = some o) -> q2.get? ex = some oe -> oe.cls = .type "StopIteration" ->
      wpAny (model prog w) A (setField (.ref z) 0 .none) (fun _ s' => E (.ref ex) s') E ⟨q2, gg, dd, t0, oo⟩ := fun q2 ex oe Z2 k2 ho hc => by
    have hez : ex ≠ z := fun u => by subst u; rw [Z2] at ho; cases ho; simp at hc
    refine wpAny_setField_rec Z2 (by simp) fun q3 _ m3 => go q3 ex (fun c o hc u => ?_) ⟨oe, m3.extBut _ _ hez ho, hc⟩
    exact m3.extBut c o (nin c hc).1 (k2 c o hc u)
  cases hx : g1 k with
  | none =>
    refine wpAny_bind (W1.done _ _ _ k _ hh p1 hx fun q2 ex m2 he => ?_)
    obtain ⟨oe, ho, hc⟩ := he
    have m2 : Heap.ExtBut i1 q1 q2 := m2
    exact last q2 ex oe (m2 _ _ D.i1z.symm Z1) (fun c o hc u => m2 c o (nin c hc).2.2.1 (e1 c o (nin c hc).1 u)) ho hc
  | some x =>
    have hy : g2 k = none := hxy.resolve_left (by rw [hx]; exact fun q => nomatch q)
    refine wpAny_bind (W1.item _ _ _ k x _ p1 hx fun q2 p1' m2 => wpAny_pure ?_)
    have m2 : Heap.SameBut i1 q1 q2 := m2
    have e2 : ∀ c o, c ≠ z -> c ≠ i1 -> h0.get? c = some o -> q2.get? c = some o := fun c o n n' u => m2.extBut c o n' (e1 c o n u)
    have O2 : IsPair q2 TO a b := e2 _ _ D.TOz D.TOi1 pO
    refine wpAny_bind (wpAny_seqItems O2 rfl (wpAny_bind (wpAny_updateSeq_pair O2 fun q3 O3 m3 => wpAny_bind (wpAny_letGo (wpAny_pure ?_)))))
    have m3 : Heap.SameBut TO q2 q3 := m3
    have e3 : ∀ c o, c ≠ z -> c ≠ i1 -> c ≠ TO -> h0.get? c = some o -> q3.get? c = some o := fun c o n n' n'' u => m3.extBut c o n'' (e2 c o n n' u)
    refine wpAny_bind (wpAny_bind (wpAny_onRaise ?_))
    show wpAny _ _ (Builtin.SmallTypes.nextOf (.ref i2) >>= _) _ _ ⟨q3, gg, dd, t0, oo⟩
    refine wpAny_bind (W2.done _ _ _ k _ hh (W2.stay k _ _ p2 fun c o hc u => by
      rcases hc with rfl | rfl
      . exact e3 c o D.i2z D.i12.symm D.TOi2.symm u
      . exact e3 c o D.l2z D.l2i1 D.l2TO u) hy fun q4 ex m4 he => ?_)
    obtain ⟨oe, ho, hc⟩ := he
    have m4 : Heap.ExtBut i2 q3 q4 := m4
    exact last q4 ex oe (m4 _ _ D.i2z.symm (m3.extBut _ _ D.TOz.symm (m2.extBut _ _ D.i1z.symm Z1))) (fun c o hc u => m4 c o (nin c hc).2.2.2 (e3 c o (nin c hc).1 (nin c hc).2.2.1 (nin c hc).2.1 u)) ho hc
theorem Zs.pyItem {k : Nat} {Q : Option Value -> Shared -> Prop} (W1 : Wk prog w i1 l1 P1 g1) (W2 : Wk prog w i2 l2 P2 g2) (S : Zs z TI TO i1 i2 l1 l2 P1 P2 k s.heap) (hx : g1 k = some x) (hy : g2 k = some y)
    (go : ∀ h1, (∀ h2, IsZip h2 z TI TO .none -> Heap.SameBut z h1 h2 -> Zs z TI TO i1 i2 l1 l2 P1 P2 (k + 1) h2) -> IsZip h1 z TI TO (rawInt s.heap.objs.size) -> IsPair h1 s.heap.objs.size x y -> (∀ c o, c ∉ [z, TO, i1, i2] -> s.heap.get? c = some o -> h1.get? c = some o) -> Q (some (.ref s.heap.objs.size)) { s with heap := h1 }) :
    wpAny (model prog w) A (pyNext (.ref z)) Q E s := by
  have ty : s.TypeIs (.ref z) "zip" := ⟨_, S.rd, rfl⟩
  unfold pyNext
  exact wpAny_bind (wpAny_attempt (wpAny_callSpecial?_slot (name := Str.ofString "__next__") ty F.slot_zip_next (wpAny_call_entry F.slot_zip_next ty F.entry_zip_next (S.item W1 W2 hx hy fun h1 a b c d => wpAny_pure (go h1 a b c d)) (F.args_zip_next_1 _))))
theorem Zs.pyDone {k : Nat} {Q : Option Value -> Shared -> Prop} (hh : A.handled = none) (W1 : Wk prog w i1 l1 P1 g1) (W2 : Wk prog w i2 l2 P2 g2) (S : Zs z TI TO i1 i2 l1 l2 P1 P2 k s.heap) (hxy : g1 k = none \/ g2 k = none)
    (go : ∀ h1, (∀ c o, c ∉ [z, TO, i1, i2] -> s.heap.get? c = some o -> h1.get? c = some o) -> Q none { s with heap := h1 }) : wpAny (model prog w) A (pyNext (.ref z)) Q E s := by
  have ty : s.TypeIs (.ref z) "zip" := ⟨_, S.rd, rfl⟩
  unfold pyNext
  refine wpAny_bind (wpAny_attempt (wpAny_callSpecial?_slot (name := Str.ofString "__next__") ty F.slot_zip_next (wpAny_call_entry F.slot_zip_next ty F.entry_zip_next (S.done hh W1 W2 hxy fun h1 e kk he => ?_) (F.args_zip_next_1 _))))
  obtain ⟨oe, ho, hc⟩ := he
  exact wpAny_bind (wpAny_isInstance (T := "StopIteration") (b := true) ⟨oe, ho, hc⟩ isSubtype_stop (wpAny_pure (go h1 kk)))
end
abbrev zK (h : Heap) (a : Addr) : Heap := h.push { cls := .type "tuple_iterator", data := .fields #[.ref a, .int 0 0] }
abbrev zJ (h : Heap) (a b : Addr) : Heap := (zK h a).push { cls := .type "tuple_iterator", data := .fields #[.ref b, .int 0 0] }
abbrev zI (h : Heap) (a b : Addr) : Heap := (zJ h a b).push { cls := .type "tuple", data := .seq #[.ref h.objs.size, .ref (zK h a).objs.size] }
abbrev zH (h : Heap) (a b : Addr) : Heap := (zI h a b).push { cls := .type "tuple", data := .seq #[.none, .none] }
abbrev qD (h : Heap) (a b : Addr) : Heap := (zH h a b).push { cls := .type "zip", data := .fields #[.none, .bool false, .bool false, .ref (zJ h a b).objs.size, .ref (zI h a b).objs.size] }
theorem CS (a b : Addr) (xs ys : Array Value) :
    Meets (Builtin.«zip.__new__» ⟨[.type "zip", .ref a, .ref b], []⟩) (fun _ R s => s.heap.IsTuple a xs /\ s.heap.IsTuple b ys /\ R (.ok (.ret (.ref (zH s.heap a b).objs.size))) { s with heap := qD s.heap a b }) :=
  .of_wp fun pg wd AA RR st hh => by
    obtain ⟨hp0, gg, dd, tk0, oo⟩ := st; obtain ⟨ha, hb, hh⟩ := hh
    have hsub0 := sub_zip
    have T1 : Heap.IsTuple (Shared.heap ⟨hp0, gg, dd, tk0, oo⟩) a xs := ha
    have T2 : Heap.IsTuple (Shared.heap ⟨hp0.push { cls := .type "tuple_iterator", data := .fields #[.ref a, .int 0 0] }, gg, dd, tk0, oo⟩) b ys := hb.at fun o e => Heap.get?_push_of_some _ e
    wp_walk using wpAny_pyIter_tuple T1, wpAny_pyIter_tuple T2
    exact ⟨_, rfl, hh⟩
theorem AV {prog : Program} {w : World} {A : Around} {E : Value -> Shared -> Prop} {s : Shared} {a b : Addr} {xs ys : Array Value} {Q : Value -> Shared -> Prop} (ha : s.heap.IsTuple a xs) (hb : s.heap.IsTuple b ys)
    (go : ∀ h1, Zs (s.heap.objs.size + 4) (s.heap.objs.size + 2) (s.heap.objs.size + 3) s.heap.objs.size (s.heap.objs.size + 1) a b (fun k h => h.IsTupleIter s.heap.objs.size a k /\ h.IsTuple a xs) (fun k h => h.IsTupleIter (s.heap.objs.size + 1) b k /\ h.IsTuple b ys) 0 h1 -> (∀ c o, s.heap.get? c = some o -> h1.get? c = some o) -> Q (.ref (s.heap.objs.size + 4)) { s with heap := h1 }) :
    wpAny (model prog w) A (call (.type "zip") [.ref a, .ref b]) Q E s := by
  refine callType_new F.called_zip (by decide) (F.typeCall_zip_2 _ _) (F.newCall_zip_2 _ _) (fun ob => F.args_object_init_3 ob _ _) F.entry_zip_new (CS a b xs ys) ⟨ha, hb, ?_⟩
  have s1 : (zK s.heap a).objs.size = s.heap.objs.size + 1 := Heap.size_push ..
  have s2 : (zJ s.heap a b).objs.size = s.heap.objs.size + 2 := by rw [Heap.size_push, s1]
  have s3 : (zI s.heap a b).objs.size = s.heap.objs.size + 3 := by rw [Heap.size_push, s2]
  have s4 : (zH s.heap a b).objs.size = s.heap.objs.size + 4 := by rw [Heap.size_push, s3]
  have r5 : (qD s.heap a b).get? (zH s.heap a b).objs.size = some _ := Heap.get?_push_size _ rfl
  have r4 : (qD s.heap a b).get? (zI s.heap a b).objs.size = some _ := Heap.get?_push_of_some _ (Heap.get?_push_size _ rfl)
  have r3 : (qD s.heap a b).get? (zJ s.heap a b).objs.size = some _ := Heap.get?_push_of_some _ (Heap.get?_push_of_some _ (Heap.get?_push_size _ rfl))
  have r2 : (qD s.heap a b).get? (zK s.heap a).objs.size = some _ := Heap.get?_push_of_some _ (Heap.get?_push_of_some _ (Heap.get?_push_of_some _ (Heap.get?_push_size _ rfl)))
  have r1 : (qD s.heap a b).get? s.heap.objs.size = some _ := Heap.get?_push_of_some _ (Heap.get?_push_of_some _ (Heap.get?_push_of_some _ (Heap.get?_push_of_some _ (Heap.get?_push_size _ rfl))))
  have up : ∀ c o, s.heap.get? c = some o -> (qD s.heap a b).get? c = some o := fun c o e => Heap.get?_push_of_some _ (Heap.get?_push_of_some _ (Heap.get?_push_of_some _ (Heap.get?_push_of_some _ (Heap.get?_push_of_some _ e))))
  have la : a < s.heap.objs.size := by obtain ⟨_, e, _⟩ := ha; exact Heap.lt_size e
  have lb : b < s.heap.objs.size := by obtain ⟨_, e, _⟩ := hb; exact Heap.lt_size e
  rw [s2, s3, s4] at r5
  rw [s1, s2] at r3
  rw [s3] at r4
  rw [s1] at r2
  show _ /\ _
  rw [s4]
  have ne : ∀ {m n : Nat}, m < n -> m ≠ n := fun h => Nat.ne_of_lt h
  refine ⟨⟨_, r5, rfl⟩, go _ ⟨?_, r5, r3, ⟨_, _, r4⟩, ⟨⟨_, r1, rfl, rfl⟩, ha.at fun o e => up _ _ e⟩, ⟨⟨_, r2, rfl, rfl⟩, hb.at fun o e => up _ _ e⟩⟩ up⟩
  generalize s.heap.objs.size = n at la lb
  have la' : (a : Nat) < n := la
  have lb' : (b : Nat) < n := lb
  constructor <;> first | exact ne (by omega) | exact (ne (by omega)).symm | exact ne (Nat.lt_of_lt_of_le la (by omega)) | exact ne (Nat.lt_of_lt_of_le lb (by omega)) | exact ne la | exact ne lb
end Sp
namespace Sp
open PySem PySem.Spec PyProof.Rows L2
variable {X : Cx}
theorem nW {pins : List (Addr × Obj)} {σ : L2.St} {H : Hp} {s : Shared} {h2 : Heap} {t2 : Nat} {ch : List Addr} (I : ak X pins σ H s)
    (k : ∀ b u, b ∉ ch -> s.heap.get? b = some u -> h2.get? b = some u) (hn : ∀ b ∈ ch, fB X pins H b) : ak X pins σ H { s with heap := h2, toks := t2 } := by
  have tr : ∀ b u, H b = some u -> b ∉ ch := fun b u e z => by rw [(hn b z).1] at e; cases e
  have un : Un (i6 X.stack) ch H H s.heap h2 := ⟨fun b ob e n _ c => k b ob c e, fun b ob e n _ c => ⟨ob.slots, k b ob c e⟩, fun b ob e n c => n, fun b ob e c => ⟨ob, k b ob c e⟩, fun b xs e => e, fun b ob u e => e, fun b ps e => ⟨#[], by rw [e]; simp⟩⟩
  refine I.call (g' := s.gens) (d' := s.drawn) un (fun b u e => ?_) I.bare fun b hb => ⟨(hn b hb).2.2.2.1, (hn b hb).2.1, (hn b hb).2.2.2.2.1, (hn b hb).2.2.2.2.2⟩
  refine (I.hok b u e).stay (fun c v hc q => k c v ?_ q) (fun c q => q) fun c xs q => q
  rcases hc with z | z
  . rw [z]; exact tr b u e
  . exact tr c _ z
def PP (K : W.Frag) (a b : Addr) : It :=
  ⟨fun i H => ∃ xs ys x y, cu K H a xs /\ xs[i]? = some x /\ cu K H b ys /\ ys[i]? = some y, fun i H x H' => ∃ p u v, x = .ref p /\ H p = none /\ H' = bh H p (.tup [u, v]) /\ (∀ xs, cu K H a xs -> xs[i]? = some u) /\ ∀ ys, cu K H b ys -> ys[i]? = some v, fun i H => ∃ xs ys, cu K H a xs /\ cu K H b ys /\ (xs.length <= i \/ ys.length <= i)⟩
theorem xT {P : Program} {w : World} {K : W.Frag} {es : List Expr} {n1 : Nat} {pos : Pos} (a b z TI TO i1 i2 : Addr) (D : ZipApart z TI TO i1 i2 a b) :
    L2.Turn P w K (.Tuple es n1 pos) (PP K a b) [z, TI, TO, i1, i2] z (fun i h => IsZip h z TI TO .none /\ IsPair h TI (.ref i1) (.ref i2) /\ (∃ u v, IsPair h TO u v) /\ h.IsTupleIter i1 a i /\ h.IsTupleIter i2 b i) where
  mem := by simp
  obj := fun i h st c hc => by
    obtain ⟨q1, q2, ⟨u, v, q3⟩, ⟨o4, q4, c4, d4⟩, ⟨o5, q5, c5, d5⟩⟩ := st
    simp only [List.mem_cons, List.not_mem_nil, or_false] at hc
    rcases hc with rfl | rfl | rfl | rfl | rfl
    . exact ⟨_, q1, fun v e => by have e' : Data.fields _ = Data.cell v := e; cases e'⟩
    . exact ⟨_, q2, fun v e => by have e' : Data.seq _ _ = Data.cell v := e; cases e'⟩
    . exact ⟨_, q3, fun v e => by have e' : Data.seq _ _ = Data.cell v := e; cases e'⟩
    . exact ⟨_, q4, fun v e => by rw [d4] at e; cases e⟩
    . exact ⟨_, q5, fun v e => by rw [d5] at e; cases e⟩
  keep := fun i h h' ⟨q1, q2, ⟨u, v, q3⟩, q4, q5⟩ k => ⟨k _ (by simp) _ q1, k _ (by simp) _ q2, ⟨u, v, k _ (by simp) _ q3⟩, q4.at fun o e => k _ (by simp) o e, q5.at fun o e => k _ (by simp) o e⟩
  item := by
    intro Y hP hw hK hc i pins s σ H E I hf st hg
    subst hP hw hK
    obtain ⟨xs, ys, x, y, hq, hx, hr, hy⟩ := hg
    obtain ⟨its, rv, p1, hz⟩ := I.tuple hq
    obtain ⟨jts, rw', p2, hz'⟩ := I.tuple hr
    obtain ⟨u, hu, ru⟩ := rv.get hx
    obtain ⟨v, hv, rv'⟩ := rw'.get hy
    obtain ⟨q1, q2, q3, q4, q5⟩ := st
    have zlt : z < s.heap.objs.size := Heap.lt_size q1
    refine Zs.pyItem (jO (i := i1) (l := a) (xs := its.toArray) D.l1i1) (jO (i := i2) (l := b) (xs := jts.toArray) D.l2i2) ⟨D, q1, q2, q3, ⟨q4, p1⟩, ⟨q5, p2⟩⟩ (x := u) (y := v) (by simpa using hu) (by simpa using hv) fun h1 ip zo t1 k1 => ?_
    refine ⟨_, rfl, wpAny_letOwnedTupleGo_zip zo fun h2 z2 m2 => ?_⟩
    have m2 : Heap.SameBut z h1 h2 := m2
    have N := ip h2 z2 m2
    have k2 : ∀ c o, c ∉ [z, TI, TO, i1, i2] -> s.heap.get? c = some o -> h2.get? c = some o := fun c o nc q => by
      have n1 : c ≠ z := fun e => nc (by simp [e])
      refine m2.extBut c o n1 (k1 c o (fun e => nc ?_) q)
      simp only [List.mem_cons, List.not_mem_nil, or_false] at e ⊢
      rcases e with e | e | e | e <;> simp [e]
    have t2 : h2.get? s.heap.objs.size = some { cls := .type "tuple", data := .seq #[u, v] } := m2.extBut _ _ (Nat.ne_of_gt zlt) t1
    have hn0 : H s.heap.objs.size = none := I.hok.fresh (Nat.le_refl _)
    refine ⟨.ref s.heap.objs.size, bh H s.heap.objs.size (.tup [x, y]), iy (s := s) (h2 := h2) (t2 := s.toks) I k2 (Nat.le_refl _) hf ?_, rfl, ⟨_, x, y, rfl, hn0, rfl, fun ws hw => by rw [I.tuple_inj hw hq]; exact hx, fun ws hw => by rw [I.tuple_inj hw hr]; exact hy⟩, ⟨N.rd, N.ins, N.out, N.fst.1, N.snd.1⟩, fun c hc => ?_⟩
    . exact ⟨by show 2 <= sizeLine; decide, [u, v], .cons ru (.cons rv' .nil), ⟨_, t2, rfl, _, rfl⟩⟩
    . have hb' := hf c hc
      have lt : c < s.heap.objs.size := by
        obtain ⟨u', v', q3⟩ := q3
        obtain ⟨o4, q4, _⟩ := q4
        obtain ⟨o5, q5, _⟩ := q5
        simp only [List.mem_cons, List.not_mem_nil, or_false] at hc
        rcases hc with rfl | rfl | rfl | rfl | rfl
        . exact zlt
        . exact Heap.lt_size q2
        . exact Heap.lt_size q3
        . exact Heap.lt_size q4
        . exact Heap.lt_size q5
      rw [aO (Nat.ne_of_lt lt)]; exact hb'.1
  done := by
    intro Y hP hw hK hc i pins s σ H E I hf st hg
    subst hP hw hK
    obtain ⟨xs, ys, hq, hr, hl⟩ := hg
    obtain ⟨its, rv, p1, hz⟩ := I.tuple hq
    obtain ⟨jts, rw', p2, hz'⟩ := I.tuple hr
    obtain ⟨q1, q2, q3, q4, q5⟩ := st
    have l1 := rv.length
    have l2 := rw'.length
    refine Zs.pyDone (I.ok.hd hc) (jO (i := i1) (l := a) (xs := its.toArray) D.l1i1) (jO (i := i2) (l := b) (xs := jts.toArray) D.l2i2) ⟨D, q1, q2, q3, ⟨q4, p1⟩, ⟨q5, p2⟩⟩ ?_ fun h1 k1 => ⟨rfl, nW (s := s) (t2 := s.toks) (ch := [z, TI, TO, i1, i2]) I (fun c o nc q => k1 c o (fun e => nc ?_) q) hf⟩
    . rcases hl with hl | hl
      . exact .inl (by simp; omega)
      . exact .inr (by simp; omega)
    . simp only [List.mem_cons, List.not_mem_nil, or_false] at e ⊢
      rcases e with e | e | e | e <;> simp [e]
  self := fun _ _ _ _ _ st h => wpAny_pyIter_zip st.1 h
theorem EG {ρ : aj} {es : List Expr} {n1 : Nat} {tp p pos : Pos} {a b : Expr} {l m : List D} {k : Nat} (hg : Gl X "zip") (hm0 : X.mg "zip" = none) (ha : AD X ρ [a, b] [.tup l, .tup m] k) (hst : ∀ e ∈ [a, b], ∀ y p, e ≠ .Starred y p) (hf : am l = true) (hm : am m = true) :
    IE X ρ (.Tuple es n1 tp) (.Call (.Name "zip" p) [a, b] [] pos) (List.zipWith (fun x y => .tup [x, y]) l m) 0 := by
  intro ow pins s σ H R I ⟨E, q⟩
  have n1' := bA (env := X.env) (es := [b]) (hst a (by simp))
  have n2' : (backTo pos (starEach [b] X.env)).any (·.1) = false := cM fun x hx => hst x (by simp at hx; simp [hx])
  refine Call_ (dS I hg hm0 (show bootBuiltins "zip" = some (.type "zip") by decide +kernel) (PyProof.Rows.callWith_type1 (aS (ha ow pos pins s σ H (fun vs H1 => aF H H1 /\ ag X.K H1 (Kp ow H k) [.tup l, .tup m] vs) I ⟨E, fun vs H1 s1 r1 => ⟨s1, r1⟩⟩) fun us s1 ⟨vs, H1, I1, rv, sm, rp⟩ => ?_) n1' n2') (by decide +kernel) (by decide +kernel))
  rw [ag] at rp
  obtain ⟨v1, vr, rfl, rp1, rp2⟩ := rp
  obtain ⟨v2, rfl, rp3⟩ := rp2.only
  obtain ⟨ta, xs, rfl, hq, rl⟩ := eS rp1
  obtain ⟨tb, ys, rfl, hr, rm⟩ := eS rp3
  obtain ⟨u1, u2, rfl, ru1, ru2⟩ := nl rv
  cases (show u1 = Value.ref ta from ru1)
  cases (show u2 = Value.ref tb from ru2)
  obtain ⟨its, rvs, pt, hz⟩ := I1.tuple hq
  obtain ⟨jts, rvs', pt', hz'⟩ := I1.tuple hr
  refine AV (show s1.heap.IsTuple ta its.toArray from pt) (show s1.heap.IsTuple tb jts.toArray from pt') fun h2 Z k2 => ?_
  refine wpAny_pyIter_zip Z.rd ?_
  have I2 : ak X pins σ H1 { s1 with heap := h2 } := I1.kept (t' := s1.toks) k2
  have fr : ∀ j, fB X pins H1 (s1.heap.objs.size + j) := fun j => I1.fpOk (Nat.le_add_right _ _) (I1.hok.fresh (Nat.le_add_right _ _))
  refine ⟨s1.heap.objs.size + 4, [s1.heap.objs.size + 4, s1.heap.objs.size + 2, s1.heap.objs.size + 3, s1.heap.objs.size, s1.heap.objs.size + 1], _, _, H1, rfl, I2, xT ta tb _ _ _ _ _ Z.ap, ⟨Z.rd, Z.ins, Z.out, Z.fst.1, Z.snd.1⟩, fun c hc => ?_, q _ H1 sm ?_⟩
  . simp only [List.mem_cons, List.not_mem_nil, or_false] at hc
    rcases hc with rfl | rfl | rfl | rfl | rfl
    . exact fr 4
    . exact fr 2
    . exact fr 3
    . exact fr 0
    . exact fr 1
  . intro i H2 st
    have rl' : ag X.K H1 (Kd ow H 0 H1) l xs := rl.flat _ hf
    have rm' : ag X.K H1 (Kd ow H 0 H1) m ys := rm.flat _ hm
    refine ⟨fun d hd => ?_, fun hle => ?_⟩
    . rw [List.getElem?_zipWith] at hd
      cases e : l[i]? with
      | none => rw [e] at hd; cases hd
      | some x =>
        cases e' : m[i]? with
        | none => rw [e, e'] at hd; cases hd
        | some y =>
          rw [e, e'] at hd; cases hd
          obtain ⟨u, hu, ru⟩ := rl'.get e
          obtain ⟨v, hv, rv⟩ := rm'.get e'
          refine ⟨⟨xs, ys, u, v, st.sq hq, hu, st.sq hr, hv⟩, fun x' H3 ⟨p', u', v', e1, e2, e3, e4, e5⟩ => ?_⟩
          have c1 := e4 xs (st.sq hq)
          have c2 := e5 ys (st.sq hr)
          rw [hu] at c1; cases c1
          rw [hv] at c2; cases c2
          subst e1 e3
          have sm3 := cD (o := HO.tup [u, v]) e2
          refine ⟨sm3, ?_⟩
          rw [ah]
          exact ⟨p', _, rfl, cu.of aU, ag.cons ((ru.mono st).same sm3) (ag.one ((rv.mono st).same sm3))⟩
    . rw [List.length_zipWith] at hle
      have l1 := rl.length
      have l2 := rm.length
      exact ⟨xs, ys, st.sq hq, st.sq hr, by omega⟩
end Sp
namespace Sp
open PySem PySem.Spec PyProof.Rows L2
variable {X : Cx}
def gN (κ : Bool) (h : Heap) (i a : Addr) (k : Nat) : Prop := match κ with | true => h.IsTupleIter i a k | false => h.IsListIter i a k
def fA (κ : Bool) (h : Heap) (a : Addr) (xs : Array Value) : Prop := match κ with | true => h.IsTuple a xs | false => h.IsList a xs
def kL (κ : Bool) (K : W.Frag) (H : Hp) (a : Addr) (xs : List V) : Prop := match κ with | true => cu K H a xs | false => cv K H a xs
def jW (κ : Bool) (l : List D) : D := match κ with | true => .tup l | false => .lst l
def EA (κ : Bool) : String := match κ with | true => "tuple_iterator" | false => "list_iterator"
theorem uH (κ : Bool) {prog : Program} {w : World} {i l : Addr} {xs : Array Value} (ne : l ≠ i) : Wk prog w i l (fun k h => gN κ h i l k /\ fA κ h l xs) (fun k => xs[k]?) := by
  cases κ
  . exact CU ne
  . exact jO ne
theorem iw {κ : Bool} {h : Heap} {i a : Addr} {k : Nat} (p : gN κ h i a k) : ∃ o, h.get? i = some o /\ ∀ v, o.data ≠ Data.cell v := by
  cases κ
  . obtain ⟨o, e, _, d⟩ := (show h.IsListIter i a k from p); exact ⟨o, e, fun v z => by rw [d] at z; cases z⟩
  . obtain ⟨o, e, _, d⟩ := (show h.IsTupleIter i a k from p); exact ⟨o, e, fun v z => by rw [d] at z; cases z⟩
theorem rQ {κ : Bool} {h h' : Heap} {i a : Addr} {k : Nat} (p : gN κ h i a k) (q : ∀ o, h.get? i = some o -> h'.get? i = some o) : gN κ h' i a k := by
  cases κ
  . exact (show h.IsListIter i a k from p).at q
  . exact (show h.IsTupleIter i a k from p).at q
theorem rO {κ : Bool} {h h' : Heap} {a : Addr} {xs : Array Value} (p : fA κ h a xs) (q : ∀ o, h.get? a = some o -> h'.get? a = some o) : fA κ h' a xs := by
  cases κ
  . exact (show h.IsList a xs from p).at q
  . exact (show h.IsTuple a xs from p).at q
theorem rN {κ : Bool} {h : Heap} {a : Addr} {xs : Array Value} (p : fA κ h a xs) : a < h.objs.size := by
  cases κ
  . obtain ⟨_, e, _⟩ := (show h.IsList a xs from p); exact Heap.lt_size e
  . obtain ⟨_, e, _⟩ := (show h.IsTuple a xs from p); exact Heap.lt_size e
theorem lM {κ : Bool} {pins : List (Addr × Obj)} {σ : L2.St} {H : Hp} {s : Shared} {a : Addr} {xs : List V} (I : ak X pins σ H s) (h : kL κ X.K H a xs) : ∃ its : List Value, aL xs its /\ fA κ s.heap a its.toArray /\ xs.length <= sizeLine := by
  cases κ
  . obtain ⟨its, r, p, z⟩ := I.list h; exact ⟨its, r, p.isList, z⟩
  . obtain ⟨its, r, p, z⟩ := I.tuple h; exact ⟨its, r, p, z⟩
theorem pU {κ : Bool} {pins : List (Addr × Obj)} {σ : L2.St} {H : Hp} {s : Shared} {a : Addr} {xs ys : List V} (I : ak X pins σ H s) (h : kL κ X.K H a xs) (h' : kL κ X.K H a ys) : xs = ys := by
  cases κ
  . exact I.list_inj h h'
  . exact I.tuple_inj h h'
theorem jU {κ : Bool} {ow : Ow} {H H1 : Hp} {k : Nat} {l : List D} {v : V} (h : ah X.K H1 (Kp ow H k) (jW κ l) v) : ∃ a vs, v = .ref a /\ kL κ X.K H1 a vs /\ ag X.K H1 (Kp ow H k) l vs /\ ∀ {P' : bx} {H2 : Hp}, d7 (Kd ow H k H1) P' H1 H2 -> kL κ X.K H2 a vs := by
  cases κ
  . rw [show jW false l = .lst l from rfl, ah] at h
    obtain ⟨a, vs, b, rfl, hl, hp, rl⟩ := h
    have hp' : Kd ow H k H1 a b := ⟨hp, fun hb => by subst hb; exact ⟨_, hl⟩⟩
    exact ⟨a, vs, rfl, hl.sq, rl, fun st => (st.ls hl hp').sq⟩
  . rw [show jW true l = .tup l from rfl, ah] at h
    obtain ⟨a, vs, rfl, hl, rl⟩ := h
    exact ⟨a, vs, rfl, hl, rl, fun st => st.sq hl⟩
abbrev zN (κ : Bool) (h : Heap) (a : Addr) : Heap := h.push { cls := .type (EA κ), data := .fields #[.ref a, .int 0 0] }
abbrev zM (κ κ' : Bool) (h : Heap) (a b : Addr) : Heap := (zN κ h a).push { cls := .type (EA κ'), data := .fields #[.ref b, .int 0 0] }
abbrev zL (κ κ' : Bool) (h : Heap) (a b : Addr) : Heap := (zM κ κ' h a b).push { cls := .type "tuple", data := .seq #[.ref h.objs.size, .ref (zN κ h a).objs.size] }
abbrev pK (κ κ' : Bool) (h : Heap) (a b : Addr) : Heap := (zL κ κ' h a b).push { cls := .type "tuple", data := .seq #[.none, .none] }
abbrev jN (κ κ' : Bool) (h : Heap) (a b : Addr) : Heap := (pK κ κ' h a b).push { cls := .type "zip", data := .fields #[.none, .bool false, .bool false, .ref (zM κ κ' h a b).objs.size, .ref (zL κ κ' h a b).objs.size] }
theorem jM (a b : Addr) (xs ys : Array Value) :
    Meets (Builtin.«zip.__new__» ⟨[.type "zip", .ref a, .ref b], []⟩) (fun _ R s => s.heap.IsList a xs /\ s.heap.IsList b ys /\ R (.ok (.ret (.ref (pK false false s.heap a b).objs.size))) { s with heap := jN false false s.heap a b }) :=
  .of_wp fun pg wd AA RR st hh => by
    obtain ⟨hp0, gg, dd, tk0, oo⟩ := st; obtain ⟨ha, hb, hh⟩ := hh
    have hsub0 := sub_zip
    have T1 : Heap.IsList (Shared.heap ⟨hp0, gg, dd, tk0, oo⟩) a xs := ha
    have T2 : Heap.IsList (Shared.heap ⟨hp0.push { cls := .type "list_iterator", data := .fields #[.ref a, .int 0 0] }, gg, dd, tk0, oo⟩) b ys := hb.at fun o e => Heap.get?_push_of_some _ e
    wp_walk using wpAny_pyIter_list T1, wpAny_pyIter_list T2
    exact ⟨_, rfl, hh⟩
theorem mq (a b : Addr) (xs ys : Array Value) :
    Meets (Builtin.«zip.__new__» ⟨[.type "zip", .ref a, .ref b], []⟩) (fun _ R s => s.heap.IsList a xs /\ s.heap.IsTuple b ys /\ R (.ok (.ret (.ref (pK false true s.heap a b).objs.size))) { s with heap := jN false true s.heap a b }) :=
  .of_wp fun pg wd AA RR st hh => by
    obtain ⟨hp0, gg, dd, tk0, oo⟩ := st; obtain ⟨ha, hb, hh⟩ := hh
    have hsub0 := sub_zip
    have T1 : Heap.IsList (Shared.heap ⟨hp0, gg, dd, tk0, oo⟩) a xs := ha
    have T2 : Heap.IsTuple (Shared.heap ⟨hp0.push { cls := .type "list_iterator", data := .fields #[.ref a, .int 0 0] }, gg, dd, tk0, oo⟩) b ys := hb.at fun o e => Heap.get?_push_of_some _ e
    wp_walk using wpAny_pyIter_list T1, wpAny_pyIter_tuple T2
    exact ⟨_, rfl, hh⟩
theorem mo (a b : Addr) (xs ys : Array Value) :
    Meets (Builtin.«zip.__new__» ⟨[.type "zip", .ref a, .ref b], []⟩) (fun _ R s => s.heap.IsTuple a xs /\ s.heap.IsList b ys /\ R (.ok (.ret (.ref (pK true false s.heap a b).objs.size))) { s with heap := jN true false s.heap a b }) :=
  .of_wp fun pg wd AA RR st hh => by
    obtain ⟨hp0, gg, dd, tk0, oo⟩ := st; obtain ⟨ha, hb, hh⟩ := hh
    have hsub0 := sub_zip
    have T1 : Heap.IsTuple (Shared.heap ⟨hp0, gg, dd, tk0, oo⟩) a xs := ha
    have T2 : Heap.IsList (Shared.heap ⟨hp0.push { cls := .type "tuple_iterator", data := .fields #[.ref a, .int 0 0] }, gg, dd, tk0, oo⟩) b ys := hb.at fun o e => Heap.get?_push_of_some _ e
    wp_walk using wpAny_pyIter_tuple T1, wpAny_pyIter_list T2
    exact ⟨_, rfl, hh⟩
theorem mI (a b : Addr) (xs ys : Array Value) :
    Meets (Builtin.«zip.__new__» ⟨[.type "zip", .ref a, .ref b], []⟩) (fun _ R s => s.heap.IsTuple a xs /\ s.heap.IsTuple b ys /\ R (.ok (.ret (.ref (pK true true s.heap a b).objs.size))) { s with heap := jN true true s.heap a b }) :=
  .of_wp fun pg wd AA RR st hh => by
    obtain ⟨hp0, gg, dd, tk0, oo⟩ := st; obtain ⟨ha, hb, hh⟩ := hh
    have hsub0 := sub_zip
    have T1 : Heap.IsTuple (Shared.heap ⟨hp0, gg, dd, tk0, oo⟩) a xs := ha
    have T2 : Heap.IsTuple (Shared.heap ⟨hp0.push { cls := .type "tuple_iterator", data := .fields #[.ref a, .int 0 0] }, gg, dd, tk0, oo⟩) b ys := hb.at fun o e => Heap.get?_push_of_some _ e
    wp_walk using wpAny_pyIter_tuple T1, wpAny_pyIter_tuple T2
    exact ⟨_, rfl, hh⟩
theorem CT (κ κ' : Bool) (a b : Addr) (xs ys : Array Value) :
    Meets (Builtin.«zip.__new__» ⟨[.type "zip", .ref a, .ref b], []⟩) (fun _ R s => fA κ s.heap a xs /\ fA κ' s.heap b ys /\ R (.ok (.ret (.ref (pK κ κ' s.heap a b).objs.size))) { s with heap := jN κ κ' s.heap a b }) := by
  cases κ <;> cases κ'
  . exact jM a b xs ys
  . exact mq a b xs ys
  . exact mo a b xs ys
  . exact mI a b xs ys
theorem rP {κ : Bool} {h : Heap} {i a : Addr} (e : h.get? i = some { cls := .type (EA κ), data := .fields #[.ref a, .int 0 0] }) : gN κ h i a 0 := by
  cases κ
  . exact ⟨_, e, rfl, rfl⟩
  . exact ⟨_, e, rfl, rfl⟩
theorem xS {κ κ' : Bool} {prog : Program} {w : World} {A : Around} {E : Value -> Shared -> Prop} {s : Shared} {a b : Addr} {xs ys : Array Value} {Q : Value -> Shared -> Prop} (ha : fA κ s.heap a xs) (hb : fA κ' s.heap b ys)
    (go : ∀ h1, Zs (s.heap.objs.size + 4) (s.heap.objs.size + 2) (s.heap.objs.size + 3) s.heap.objs.size (s.heap.objs.size + 1) a b (fun k h => gN κ h s.heap.objs.size a k /\ fA κ h a xs) (fun k h => gN κ' h (s.heap.objs.size + 1) b k /\ fA κ' h b ys) 0 h1 -> (∀ c o, s.heap.get? c = some o -> h1.get? c = some o) -> Q (.ref (s.heap.objs.size + 4)) { s with heap := h1 }) :
    wpAny (model prog w) A (call (.type "zip") [.ref a, .ref b]) Q E s := by
  refine callType_new F.called_zip (by decide) (F.typeCall_zip_2 _ _) (F.newCall_zip_2 _ _) (fun ob => F.args_object_init_3 ob _ _) F.entry_zip_new (CT κ κ' a b xs ys) ⟨ha, hb, ?_⟩
  have s1 : (zN κ s.heap a).objs.size = s.heap.objs.size + 1 := Heap.size_push ..
  have s2 : (zM κ κ' s.heap a b).objs.size = s.heap.objs.size + 2 := by rw [Heap.size_push, s1]
  have s3 : (zL κ κ' s.heap a b).objs.size = s.heap.objs.size + 3 := by rw [Heap.size_push, s2]
  have s4 : (pK κ κ' s.heap a b).objs.size = s.heap.objs.size + 4 := by rw [Heap.size_push, s3]
  have r5 : (jN κ κ' s.heap a b).get? (pK κ κ' s.heap a b).objs.size = some _ := Heap.get?_push_size _ rfl
  have r4 : (jN κ κ' s.heap a b).get? (zL κ κ' s.heap a b).objs.size = some _ := Heap.get?_push_of_some _ (Heap.get?_push_size _ rfl)
  have r3 : (jN κ κ' s.heap a b).get? (zM κ κ' s.heap a b).objs.size = some _ := Heap.get?_push_of_some _ (Heap.get?_push_of_some _ (Heap.get?_push_size _ rfl))
  have r2 : (jN κ κ' s.heap a b).get? (zN κ s.heap a).objs.size = some _ := Heap.get?_push_of_some _ (Heap.get?_push_of_some _ (Heap.get?_push_of_some _ (Heap.get?_push_size _ rfl)))
  have r1 : (jN κ κ' s.heap a b).get? s.heap.objs.size = some _ := Heap.get?_push_of_some _ (Heap.get?_push_of_some _ (Heap.get?_push_of_some _ (Heap.get?_push_of_some _ (Heap.get?_push_size _ rfl))))
  have up : ∀ c o, s.heap.get? c = some o -> (jN κ κ' s.heap a b).get? c = some o := fun c o e => Heap.get?_push_of_some _ (Heap.get?_push_of_some _ (Heap.get?_push_of_some _ (Heap.get?_push_of_some _ (Heap.get?_push_of_some _ e))))
  have la : a < s.heap.objs.size := rN ha
  have lb : b < s.heap.objs.size := rN hb
  rw [s2, s3, s4] at r5
  rw [s1, s2] at r3
  rw [s3] at r4
  rw [s1] at r2
  show _ /\ _
  rw [s4]
  have ne : ∀ {m n : Nat}, m < n -> m ≠ n := fun h => Nat.ne_of_lt h
  refine ⟨⟨_, r5, rfl⟩, go _ ⟨?_, r5, r3, ⟨_, _, r4⟩, ⟨rP r1, rO ha fun o e => up _ _ e⟩, ⟨rP r2, rO hb fun o e => up _ _ e⟩⟩ up⟩
  generalize s.heap.objs.size = n at la lb
  have la' : (a : Nat) < n := la
  have lb' : (b : Nat) < n := lb
  constructor <;> first | exact ne (by omega) | exact (ne (by omega)).symm | exact ne (Nat.lt_of_lt_of_le la (by omega)) | exact ne (Nat.lt_of_lt_of_le lb (by omega)) | exact ne la | exact ne lb
def Pm (κ κ' : Bool) (K : W.Frag) (a b : Addr) : It :=
  ⟨fun i H => ∃ xs ys x y, kL κ K H a xs /\ xs[i]? = some x /\ kL κ' K H b ys /\ ys[i]? = some y, fun i H x H' => ∃ p u v, x = .ref p /\ H p = none /\ H' = bh H p (.tup [u, v]) /\ (∀ xs, kL κ K H a xs -> xs[i]? = some u) /\ ∀ ys, kL κ' K H b ys -> ys[i]? = some v, fun i H => ∃ xs ys, kL κ K H a xs /\ kL κ' K H b ys /\ (xs.length <= i \/ ys.length <= i)⟩
theorem vT (κ κ' : Bool) {P : Program} {w : World} {K : W.Frag} {es : List Expr} {n1 : Nat} {pos : Pos} (a b z TI TO i1 i2 : Addr) (D : ZipApart z TI TO i1 i2 a b) :
    L2.Turn P w K (.Tuple es n1 pos) (Pm κ κ' K a b) [z, TI, TO, i1, i2] z (fun i h => IsZip h z TI TO .none /\ IsPair h TI (.ref i1) (.ref i2) /\ (∃ u v, IsPair h TO u v) /\ gN κ h i1 a i /\ gN κ' h i2 b i) where
  mem := by simp
  obj := fun i h st c hc => by
    obtain ⟨q1, q2, ⟨u, v, q3⟩, q4, q5⟩ := st
    obtain ⟨o4, q4, d4⟩ := iw q4
    obtain ⟨o5, q5, d5⟩ := iw q5
    simp only [List.mem_cons, List.not_mem_nil, or_false] at hc
    rcases hc with rfl | rfl | rfl | rfl | rfl
    . exact ⟨_, q1, fun v e => by have e' : Data.fields _ = Data.cell v := e; cases e'⟩
    . exact ⟨_, q2, fun v e => by have e' : Data.seq _ _ = Data.cell v := e; cases e'⟩
    . exact ⟨_, q3, fun v e => by have e' : Data.seq _ _ = Data.cell v := e; cases e'⟩
    . exact ⟨_, q4, d4⟩
    . exact ⟨_, q5, d5⟩
  keep := fun i h h' ⟨q1, q2, ⟨u, v, q3⟩, q4, q5⟩ k => ⟨k _ (by simp) _ q1, k _ (by simp) _ q2, ⟨u, v, k _ (by simp) _ q3⟩, rQ q4 fun o e => k _ (by simp) o e, rQ q5 fun o e => k _ (by simp) o e⟩
  item := by
    intro Y hP hw hK hc i pins s σ H E I hf st hg
    subst hP hw hK
    obtain ⟨xs, ys, x, y, hq, hx, hr, hy⟩ := hg
    obtain ⟨its, rv, p1, hz⟩ := lM I hq
    obtain ⟨jts, rw', p2, hz'⟩ := lM I hr
    obtain ⟨u, hu, ru⟩ := rv.get hx
    obtain ⟨v, hv, rv'⟩ := rw'.get hy
    obtain ⟨q1, q2, q3, q4, q5⟩ := st
    have zlt : z < s.heap.objs.size := Heap.lt_size q1
    refine Zs.pyItem (uH κ (i := i1) (l := a) (xs := its.toArray) D.l1i1) (uH κ' (i := i2) (l := b) (xs := jts.toArray) D.l2i2) ⟨D, q1, q2, q3, ⟨q4, p1⟩, ⟨q5, p2⟩⟩ (x := u) (y := v) (by simpa using hu) (by simpa using hv) fun h1 ip zo t1 k1 => ?_
    refine ⟨_, rfl, wpAny_letOwnedTupleGo_zip zo fun h2 z2 m2 => ?_⟩
    have m2 : Heap.SameBut z h1 h2 := m2
    have N := ip h2 z2 m2
    have k2 : ∀ c o, c ∉ [z, TI, TO, i1, i2] -> s.heap.get? c = some o -> h2.get? c = some o := fun c o nc q => by
      have n1 : c ≠ z := fun e => nc (by simp [e])
      refine m2.extBut c o n1 (k1 c o (fun e => nc ?_) q)
      simp only [List.mem_cons, List.not_mem_nil, or_false] at e ⊢
      rcases e with e | e | e | e <;> simp [e]
    have t2 : h2.get? s.heap.objs.size = some { cls := .type "tuple", data := .seq #[u, v] } := m2.extBut _ _ (Nat.ne_of_gt zlt) t1
    have hn0 : H s.heap.objs.size = none := I.hok.fresh (Nat.le_refl _)
    refine ⟨.ref s.heap.objs.size, bh H s.heap.objs.size (.tup [x, y]), iy (s := s) (h2 := h2) (t2 := s.toks) I k2 (Nat.le_refl _) hf ?_, rfl, ⟨_, x, y, rfl, hn0, rfl, fun ws hw => by rw [pU I hw hq]; exact hx, fun ws hw => by rw [pU I hw hr]; exact hy⟩, ⟨N.rd, N.ins, N.out, N.fst.1, N.snd.1⟩, fun c hc => ?_⟩
    . exact ⟨by show 2 <= sizeLine; decide, [u, v], .cons ru (.cons rv' .nil), ⟨_, t2, rfl, _, rfl⟩⟩
    . have hb' := hf c hc
      have lt : c < s.heap.objs.size := by
        obtain ⟨u', v', q3⟩ := q3
        obtain ⟨o4, q4, _⟩ := iw q4
        obtain ⟨o5, q5, _⟩ := iw q5
        simp only [List.mem_cons, List.not_mem_nil, or_false] at hc
        rcases hc with rfl | rfl | rfl | rfl | rfl
        . exact zlt
        . exact Heap.lt_size q2
        . exact Heap.lt_size q3
        . exact Heap.lt_size q4
        . exact Heap.lt_size q5
      rw [aO (Nat.ne_of_lt lt)]; exact hb'.1
  done := by
    intro Y hP hw hK hc i pins s σ H E I hf st hg
    subst hP hw hK
    obtain ⟨xs, ys, hq, hr, hl⟩ := hg
    obtain ⟨its, rv, p1, hz⟩ := lM I hq
    obtain ⟨jts, rw', p2, hz'⟩ := lM I hr
    obtain ⟨q1, q2, q3, q4, q5⟩ := st
    have l1 := rv.length
    have l2 := rw'.length
    refine Zs.pyDone (I.ok.hd hc) (uH κ (i := i1) (l := a) (xs := its.toArray) D.l1i1) (uH κ' (i := i2) (l := b) (xs := jts.toArray) D.l2i2) ⟨D, q1, q2, q3, ⟨q4, p1⟩, ⟨q5, p2⟩⟩ ?_ fun h1 k1 => ⟨rfl, nW (s := s) (t2 := s.toks) (ch := [z, TI, TO, i1, i2]) I (fun c o nc q => k1 c o (fun e => nc ?_) q) hf⟩
    . rcases hl with hl | hl
      . exact .inl (by simp; omega)
      . exact .inr (by simp; omega)
    . simp only [List.mem_cons, List.not_mem_nil, or_false] at e ⊢
      rcases e with e | e | e | e <;> simp [e]
  self := fun _ _ _ _ _ st h => wpAny_pyIter_zip st.1 h
theorem B5 {κ κ' : Bool} {ρ : aj} {es : List Expr} {n1 : Nat} {tp p pos : Pos} {a b : Expr} {l m : List D} {k : Nat} (hg : Gl X "zip") (hm0 : X.mg "zip" = none) (ha : AD X ρ [a, b] [jW κ l, jW κ' m] k) (hst : ∀ e ∈ [a, b], ∀ y p, e ≠ .Starred y p) (hf : am l = true) (hm : am m = true) :
    IE X ρ (.Tuple es n1 tp) (.Call (.Name "zip" p) [a, b] [] pos) (List.zipWith (fun x y => .tup [x, y]) l m) k := by
  intro ow pins s σ H R I ⟨E, q⟩
  have n1' := bA (env := X.env) (es := [b]) (hst a (by simp))
  have n2' : (backTo pos (starEach [b] X.env)).any (·.1) = false := cM fun x hx => hst x (by simp at hx; simp [hx])
  refine Call_ (dS I hg hm0 (show bootBuiltins "zip" = some (.type "zip") by decide +kernel) (PyProof.Rows.callWith_type1 (aS (ha ow pos pins s σ H (fun vs H1 => aF H H1 /\ ag X.K H1 (Kp ow H k) [jW κ l, jW κ' m] vs) I ⟨E, fun vs H1 s1 r1 => ⟨s1, r1⟩⟩) fun us s1 ⟨vs, H1, I1, rv, sm, rp⟩ => ?_) n1' n2') (by decide +kernel) (by decide +kernel))
  rw [ag] at rp
  obtain ⟨v1, vr, rfl, rp1, rp2⟩ := rp
  obtain ⟨v2, rfl, rp3⟩ := rp2.only
  obtain ⟨ta, xs, rfl, hq, rl, hk1⟩ := jU rp1
  obtain ⟨tb, ys, rfl, hr, rm, hk2⟩ := jU rp3
  obtain ⟨u1, u2, rfl, ru1, ru2⟩ := nl rv
  cases (show u1 = Value.ref ta from ru1)
  cases (show u2 = Value.ref tb from ru2)
  obtain ⟨its, rvs, pt, hz⟩ := lM I1 hq
  obtain ⟨jts, rvs', pt', hz'⟩ := lM I1 hr
  refine xS (κ := κ) (κ' := κ') pt pt' fun h2 Z k2 => ?_
  refine wpAny_pyIter_zip Z.rd ?_
  have I2 : ak X pins σ H1 { s1 with heap := h2 } := I1.kept (t' := s1.toks) k2
  have fr : ∀ j, fB X pins H1 (s1.heap.objs.size + j) := fun j => I1.fpOk (Nat.le_add_right _ _) (I1.hok.fresh (Nat.le_add_right _ _))
  refine ⟨s1.heap.objs.size + 4, [s1.heap.objs.size + 4, s1.heap.objs.size + 2, s1.heap.objs.size + 3, s1.heap.objs.size, s1.heap.objs.size + 1], _, _, H1, rfl, I2, vT κ κ' ta tb _ _ _ _ _ Z.ap, ⟨Z.rd, Z.ins, Z.out, Z.fst.1, Z.snd.1⟩, fun c hc => ?_, q _ H1 sm ?_⟩
  . simp only [List.mem_cons, List.not_mem_nil, or_false] at hc
    rcases hc with rfl | rfl | rfl | rfl | rfl
    . exact fr 4
    . exact fr 2
    . exact fr 3
    . exact fr 0
    . exact fr 1
  . intro i H2 st
    have rl' : ag X.K H1 (Kd ow H k H1) l xs := rl.flat _ hf
    have rm' : ag X.K H1 (Kd ow H k H1) m ys := rm.flat _ hm
    refine ⟨fun d hd => ?_, fun hle => ?_⟩
    . rw [List.getElem?_zipWith] at hd
      cases e : l[i]? with
      | none => rw [e] at hd; cases hd
      | some x =>
        cases e' : m[i]? with
        | none => rw [e, e'] at hd; cases hd
        | some y =>
          rw [e, e'] at hd; cases hd
          obtain ⟨u, hu, ru⟩ := rl'.get e
          obtain ⟨v, hv, rv⟩ := rm'.get e'
          refine ⟨⟨xs, ys, u, v, hk1 st, hu, hk2 st, hv⟩, fun x' H3 ⟨p', u', v', e1, e2, e3, e4, e5⟩ => ?_⟩
          have c1 := e4 xs (hk1 st)
          have c2 := e5 ys (hk2 st)
          rw [hu] at c1; cases c1
          rw [hv] at c2; cases c2
          subst e1 e3
          have sm3 := cD (o := HO.tup [u, v]) e2
          refine ⟨sm3, ?_⟩
          rw [ah]
          exact ⟨p', _, rfl, cu.of aU, ag.cons ((ru.mono st).same sm3) (ag.one ((rv.mono st).same sm3))⟩
    . rw [List.length_zipWith] at hle
      have l1 := rl.length
      have l2 := rm.length
      exact ⟨xs, ys, hk1 st, hk2 st, by omega⟩
theorem tV {x : D} {l : List D} (h : eG x = some l) : ∃ κ, x = jW κ l := by
  rcases eZ h with rfl | rfl
  . exact ⟨true, rfl⟩
  . exact ⟨false, rfl⟩
theorem B8 : jC "zip" yM := by
  refine ⟨by decide +kernel, fun X ρ p pos args ds k d j l tg o hc hg hm ha hst hlen h hp hl ht => ?_⟩
  have ht2 : hJ tg = true := by simpa [dZ] using ht
  obtain ⟨es, n1, tp, rfl⟩ := pT ht2
  unfold yM at h
  split at h
  . cases h
    cases hl
    match args, hlen, ha, hst with
    | [a', b'], _, ha, hst => exact EG hg hm ha hst hp.1 hp.2.1
  . split at h
    . rename_i x y _ a b e1 e2
      cases h
      cases hl
      obtain ⟨κ, rfl⟩ := tV e1
      obtain ⟨κ', rfl⟩ := tV e2
      match args, hlen, ha, hst with
      | [a', b'], _, ha, hst => exact B5 hg hm ha hst hp.1 hp.2.1
    . cases h
  . cases h
end Sp
namespace Sp
open PySem PySem.Spec PyProof.Rows L2
open AutoSeq1 (wpAny_loadPart')
variable {X : Cx}
theorem Ck (tu : Addr) (vs : Array Value) (n : Nat) (dc : Option Addr) (so : Array (Option Value)) :
    Meets (Builtin.«enumerate.__new__» ⟨[.type "enumerate", .ref tu], []⟩) (fun _ R st => st.heap.get? tu = some { cls := .type "list", dict := dc, data := .seq vs n, slots := so } /\
      R (.ok (.ret (.ref (st.heap.push { cls := .type "list_iterator", data := .fields #[.ref tu, .int 0 0] }).objs.size)))
        { st with heap := (st.heap.push { cls := .type "list_iterator", data := .fields #[.ref tu, .int 0 0] }).push { cls := .type "enumerate", data := .fields #[.none, .bool false, .ref st.heap.objs.size, rawInt 0, .none, .none] } }) :=
  .of_wp fun pg wd AA RR st hh => by
    obtain ⟨hp0, gg, dd, tk0, oo⟩ := st; obtain ⟨htu, hh⟩ := hh
    have hsub0 := sub_enumerate
    have hTT : Heap.IsList (Shared.heap ⟨hp0, gg, dd, tk0, oo⟩) tu vs := ⟨_, htu, rfl, n, rfl⟩
    wp_walk using wpAny_loadPart' htu
    refine wpAny_stack_any fun stk0 => wpAny_pure ?_
    split
    . rename_i c0 _ _ _ _ _
      cases (c0 == Value.type "enumerate")
      . wp_walk using wpAny_loadPart' htu, wpAny_pyIter_list hTT
        exact ⟨_, rfl, hh⟩
      . wp_walk using wpAny_loadPart' htu, wpAny_pyIter_list hTT
        exact ⟨_, rfl, hh⟩
    . wp_walk using wpAny_loadPart' htu, wpAny_pyIter_list hTT
      exact ⟨_, rfl, hh⟩
section
variable {prog : Program} {w : World} {A : Around} {E : Value -> Shared -> Prop} {s : Shared}
theorem yY {tu : Addr} {vs : Array Value} {Q : Value -> Shared -> Prop} (hT : s.heap.IsList tu vs)
    (go : ∀ h1, IsEnum h1 (s.heap.objs.size + 1) s.heap.objs.size 0 .none -> h1.IsListIter s.heap.objs.size tu 0 -> h1.objs.size = s.heap.objs.size + 2 -> (∀ b o, s.heap.get? b = some o -> h1.get? b = some o) -> Q (.ref (s.heap.objs.size + 1)) { s with heap := h1 }) :
    wpAny (model prog w) A (call (.type "enumerate") [.ref tu]) Q E s := by
  obtain ⟨⟨cc, dc, dt, so⟩, htu, hcc, n, hdd⟩ := hT
  replace hcc : cc = .type "list" := hcc
  replace hdd : dt = .seq vs n := hdd
  subst hcc hdd
  refine callType_new F.called_enumerate (by decide) (F.typeCall_enumerate_1 _) (F.newCall_enumerate_1 _) (fun ob => F.args_object_init_2 ob _) F.entry_enumerate_new (Ck tu vs n dc so) ⟨htu, ?_⟩
  have sz : (s.heap.push { cls := .type "list_iterator", data := .fields #[.ref tu, .int 0 0] }).objs.size = s.heap.objs.size + 1 := Heap.size_push ..
  show _ /\ _
  rw [sz]
  have isE : IsEnum ((s.heap.push { cls := .type "list_iterator", data := .fields #[.ref tu, .int 0 0] }).push { cls := .type "enumerate", data := .fields #[.none, .bool false, .ref s.heap.objs.size, rawInt 0, .none, .none] }) (s.heap.objs.size + 1) s.heap.objs.size 0 .none := by
    have q := Heap.get?_push_size (s.heap.push { cls := .type "list_iterator", data := .fields #[.ref tu, .int 0 0] }) (o := { cls := .type "enumerate", data := .fields #[.none, .bool false, .ref s.heap.objs.size, rawInt 0, .none, .none] }) rfl
    rw [sz] at q; exact q
  refine ⟨⟨_, isE, rfl⟩, go _ isE ⟨_, Heap.get?_push_of_some _ (Heap.get?_push_size _ rfl), rfl, rfl⟩ (by rw [Heap.size_push, sz]) fun b o z => Heap.get?_push_of_some _ (Heap.get?_push_of_some _ z)⟩
theorem yX {e it tu : Addr} {i : Nat} {vs : Array Value} {x old : Value} {Q : Option Value -> Shared -> Prop} (isE : IsEnum s.heap e it i old) (hIt : s.heap.IsListIter it tu i) (hT : s.heap.IsList tu vs) (hx : vs[i]? = some x) (hne : e ≠ it)
    (go : ∀ h1, IsEnumOut h1 e it ((i : Int) + 1) x s.heap.objs.size -> h1.IsListIter it tu (i + 1) -> h1.get? s.heap.objs.size = some { cls := .type "tuple", data := .seq #[.int i s.toks, x] } -> (∀ b o, b ≠ e -> b ≠ it -> s.heap.get? b = some o -> h1.get? b = some o) -> Q (some (.ref s.heap.objs.size)) { s with heap := h1, toks := s.toks + 1 }) :
    wpAny (model prog w) A (pyNext (.ref e)) Q E s := by
  have tyE : s.TypeIs (.ref e) "enumerate" := ⟨_, isE, rfl⟩
  unfold pyNext
  refine wpAny_bind (wpAny_attempt (wpAny_callSpecial?_slot (name := Str.ofString "__next__") tyE F.slot_enumerate_next (wpAny_call_entry F.slot_enumerate_next tyE F.entry_enumerate_next ?_ (F.args_enumerate_next_1 _))))
  exact uz (Kn := fun h1 => h1.IsListIter it tu (i + 1)) isE hne (fun h1 h2 k hk => k.at hk) (fun Q1 q1 => wpAny_nextOf_list_item hIt hT hx q1) fun h1 a b c d => wpAny_pure (go h1 a b c d)
theorem Cn {e it tu : Addr} {i : Nat} {vs : Array Value} {old : Value} {Q : Option Value -> Shared -> Prop} (hh : A.handled = none) (isE : IsEnum s.heap e it i old) (hIt : s.heap.IsListIter it tu i) (hT : s.heap.IsList tu vs) (hx : vs[i]? = none)
    (go : ∀ h1, Heap.ExtBut it s.heap h1 -> Q none { s with heap := h1 }) : wpAny (model prog w) A (pyNext (.ref e)) Q E s := by
  have tyE : s.TypeIs (.ref e) "enumerate" := ⟨_, isE, rfl⟩
  unfold pyNext
  refine wpAny_bind (wpAny_attempt (wpAny_callSpecial?_slot (name := Str.ofString "__next__") tyE F.slot_enumerate_next (wpAny_call_entry F.slot_enumerate_next tyE F.entry_enumerate_next ?_ (F.args_enumerate_next_1 _))))
  show wpAny _ _ (field (.ref e) 2 >>= _) _ _ _
  refine wpAny_bind (wpAny_field isE rfl (x := Value.ref it) rfl (wpAny_bind (wpAny_nextOf_list_end hh hIt hT hx fun h1 xx eb hx' => ?_)))
  obtain ⟨o, ho, hc⟩ := hx'
  exact wpAny_bind (wpAny_isInstance (T := "StopIteration") (b := true) ⟨o, ho, hc⟩ isSubtype_stop (wpAny_pure (go _ eb)))
end
def Pn (K : W.Frag) (a : Addr) : It :=
  ⟨fun i H => ∃ xs x, cv K H a xs /\ xs[i]? = some x, fun i H x H' => ∃ p v, x = .ref p /\ H p = none /\ H' = bh H p (.tup [.int (i : Nat), v]) /\ ∀ xs, cv K H a xs -> xs[i]? = some v, fun i H => ∃ xs, cv K H a xs /\ xs.length <= i⟩
theorem uL {P : Program} {w : World} {K : W.Frag} {es : List Expr} {n1 : Nat} {pos : Pos} (a e it : Addr) (hne : e ≠ it) :
    L2.Turn P w K (.Tuple es n1 pos) (Pn K a) [e, it] e (fun i h => (∃ old, IsEnum h e it ((i : Nat) : Int) old) /\ h.IsListIter it a i) where
  mem := by simp
  obj := fun i h st b hb => by
    obtain ⟨⟨old, q⟩, o, q2, c, d⟩ := st
    rcases List.mem_cons.mp hb with rfl | hb
    . exact ⟨_, q, fun v z => by have z' : Data.fields _ = Data.cell v := z; cases z'⟩
    . have eb : b = it := by simpa using hb
      subst eb
      exact ⟨o, q2, fun v z => by rw [d] at z; cases z⟩
  keep := fun i h h' st k => ⟨let ⟨old, q⟩ := st.1; ⟨old, k e (by simp) _ q⟩, st.2.at fun o q => k it (by simp) o q⟩
  item := by
    intro Y hP hw hK hc i pins s σ H E I hf st hg
    subst hP hw hK
    obtain ⟨xs, x, hq, hx⟩ := hg
    obtain ⟨its, rv, p, hz⟩ := I.list hq
    obtain ⟨u, hu, ru⟩ := rv.get hx
    obtain ⟨⟨old, isE⟩, hIt⟩ := st
    refine yX isE hIt (show s.heap.IsList a its.toArray from p.isList) (x := u) (by simpa using hu) hne fun h1 eo it1 t1 k1 => ?_
    refine ⟨_, rfl, wpAny_letOwnedTupleGo_enum eo fun h2 e2 sb2 => ?_⟩
    have sb2' : Heap.SameBut e h1 h2 := sb2
    have elt : e < s.heap.objs.size := Heap.lt_size isE
    have k2 : ∀ b o, b ∉ [e, it] -> s.heap.get? b = some o -> h2.get? b = some o := fun b o nb q => by
      have n1 : b ≠ e := fun z => nb (by simp [z])
      have n2 : b ≠ it := fun z => nb (by simp [z])
      exact sb2'.extBut b o n1 (k1 b o n1 n2 q)
    have t2 : h2.get? s.heap.objs.size = some { cls := .type "tuple", data := .seq #[.int i s.toks, u] } := sb2'.extBut _ _ (Nat.ne_of_gt elt) t1
    have hn0 : H s.heap.objs.size = none := I.hok.fresh (Nat.le_refl _)
    refine ⟨.ref s.heap.objs.size, bh H s.heap.objs.size (.tup [.int (i : Nat), x]), iy (s := s) (h2 := h2) (t2 := s.toks + 1) I k2 (Nat.le_refl _) hf ?_, rfl, ⟨_, x, rfl, hn0, rfl, fun ys hy => by rw [I.list_inj hy hq]; exact hx⟩, ⟨⟨u, ?_⟩, it1.at fun o q => sb2'.extBut it o (Ne.symm hne) q⟩, fun b hb => ?_⟩
    . exact ⟨by show 2 <= sizeLine; decide, [.int i s.toks, u], .cons ⟨_, rfl⟩ (.cons ru .nil), ⟨_, t2, rfl, _, rfl⟩⟩
    . have q := e2
      rw [show ((i : Nat) : Int) + 1 = ((i + 1 : Nat) : Int) by omega] at q
      exact q
    . have hb' := hf b hb
      have lt : b < s.heap.objs.size := by
        rcases List.mem_cons.mp hb with rfl | hb
        . exact elt
        . have eb : b = it := by simpa using hb
          subst eb
          obtain ⟨o, q, _⟩ := hIt
          exact Heap.lt_size q
      rw [aO (Nat.ne_of_lt lt)]; exact hb'.1
  done := by
    intro Y hP hw hK hc i pins s σ H E I hf st hg
    subst hP hw hK
    obtain ⟨xs, hq, hx⟩ := hg
    obtain ⟨its, rv, p, hz⟩ := I.list hq
    obtain ⟨⟨old, isE⟩, hIt⟩ := st
    obtain ⟨f0, f1, f2, f3, f4, f5⟩ := hf it (by simp)
    have hl := rv.length
    exact Cn (I.ok.hd hc) isE hIt (show s.heap.IsList a its.toArray from p.isList) (by simp; omega) fun h1 eb => ⟨rfl, I.turned (t' := s.toks) (fun b o hb q => eb b o hb q) f0 f1 f3 f4 f5⟩
  self := fun _ _ _ _ _ st h => let ⟨old, q⟩ := st.1; wpAny_pyIter_enum q h
theorem yL {ρ : aj} {es : List Expr} {n1 : Nat} {tp p pos : Pos} {a : Expr} {l : List D} {k : Nat} (hg : Gl X "enumerate") (hm0 : X.mg "enumerate" = none) (ha : AD X ρ [a] [.lst l] k) (hst : ∀ y p, a ≠ .Starred y p) (hf : am l = true) :
    IE X ρ (.Tuple es n1 tp) (.Call (.Name "enumerate" p) [a] [] pos) (l.mapIdx fun i x => .tup [.int (i : Nat), x]) k := by
  intro ow pins s σ H R I ⟨E, q⟩
  refine Call_ (dS I hg hm0 (show bootBuiltins "enumerate" = some (.type "enumerate") by decide +kernel) (PyProof.Rows.callWith_type1 (aS (ha ow pos pins s σ H (fun vs H1 => aF H H1 /\ ag X.K H1 (Kp ow H k) [.lst l] vs) I ⟨E, fun vs H1 s1 r1 => ⟨s1, r1⟩⟩) fun us s1 ⟨vs, H1, I1, rv, sm, rp⟩ => ?_) (bA hst) rfl) (by decide +kernel) (by decide +kernel))
  obtain ⟨v, rfl, rv1⟩ := rp.only
  obtain ⟨ta, xs, rfl, hq, rl, hk1⟩ := jU (κ := false) rv1
  replace hq : cv X.K H1 ta xs := hq
  obtain ⟨u, rfl, ru⟩ := eB rv
  cases (show u = Value.ref ta from ru)
  obtain ⟨its, rvs, pt, hz⟩ := I1.list hq
  refine yY (show s1.heap.IsList ta its.toArray from pt.isList) fun h2 isE hIt sz k2 => ?_
  refine wpAny_pyIter_enum isE ?_
  have I2 : ak X pins σ H1 { s1 with heap := h2 } := I1.kept (t' := s1.toks) k2
  have f0 : H1 s1.heap.objs.size = none := I1.hok.fresh (Nat.le_refl _)
  have f1 : H1 (s1.heap.objs.size + 1) = none := I1.hok.fresh (Nat.le_succ _)
  refine ⟨s1.heap.objs.size + 1, [s1.heap.objs.size + 1, s1.heap.objs.size], _, _, H1, rfl, I2, uL ta _ _ (Nat.ne_of_gt (Nat.lt_succ_self _)), ⟨⟨_, isE⟩, hIt⟩, fun b hb => ?_, q _ H1 sm ?_⟩
  . rcases List.mem_cons.mp hb with rfl | hb
    . exact I1.fpOk (Nat.le_succ _) f1
    . have eb : b = s1.heap.objs.size := by simpa using hb
      subst eb
      exact I1.fpOk (Nat.le_refl _) f0
  . intro i H2 st
    have rl' : ag X.K H1 (Kd ow H k H1) l xs := rl.flat _ hf
    refine ⟨fun d hd => ?_, fun hle => ?_⟩
    . rw [List.getElem?_mapIdx] at hd
      cases e : l[i]? with
      | none => rw [e] at hd; cases hd
      | some x =>
        rw [e] at hd; cases hd
        obtain ⟨y, hy, ry⟩ := rl'.get e
        refine ⟨⟨xs, y, hk1 st, hy⟩, fun x' H3 ⟨p', v', e1, e2, e3, e4⟩ => ?_⟩
        have hv := e4 xs (hk1 st)
        rw [hy] at hv; cases hv
        subst e1 e3
        have sm3 := cD (o := HO.tup [.int (i : Nat), y]) e2
        refine ⟨sm3, ?_⟩
        rw [ah]
        exact ⟨p', _, rfl, cu.of aU, ag.cons (by rw [ah]) (ag.one ((ry.mono st).same sm3))⟩
    . rw [List.length_mapIdx] at hle
      exact ⟨xs, hk1 st, by rw [<- rl.length]; exact hle⟩
theorem yO : jC "enumerate" vo := by
  refine ⟨by decide +kernel, fun X ρ p pos args ds k d j l tg o hc hg hm ha hst hlen h hp hl ht => ?_⟩
  unfold vo at h
  have ht2 : hJ tg = true := by simpa [dZ] using ht
  obtain ⟨es, n1, tp, rfl⟩ := pT ht2
  split at h
  . cases h
    cases hl
    match args, hlen, ha, hst with
    | [a'], _, ha, hst => rw [lT]; simp only [Nat.zero_add]; exact B7 hg hm ha (hst a' List.mem_cons_self) hp.1
  . cases h
    cases hl
    match args, hlen, ha, hst with
    | [a'], _, ha, hst => rw [lT]; simp only [Nat.zero_add]; exact yL hg hm ha (hst a' List.mem_cons_self) hp.1
  . cases h
end Sp
namespace Sp
open PySem PySem.Spec PyProof.Rows L2
open PySem.W (KasT kas_sort kas_ask KatLex KatTups kat_sorted kat_kind kat_lt kat_cons kat_nil kat_go kat_yes kat_no kat_one KasFin)
section
variable {prog : Program} {w : World} {A : Around} {E : Value -> Shared -> Prop} {s : Shared}
end
variable {X : Cx}
end Sp
namespace Sp
open PySem PySem.Spec PyProof.Rows L2
theorem bR {α : Type} {r : Rs α} {a : α} {l : List Prop} (h : r = .ok a l) (hp : aJ l) : ac r a := ⟨l, h, hp⟩
theorem ac.eq {α : Type} {r : Rs α} {a b : α} (h : ac r a) (e : a = b) : ac r b := e ▸ h
theorem ac.bnd {α β : Type} {r : Rs α} {f : α -> Rs β} {a : α} {b : β} (h1 : ac r a) (h2 : ac (f a) b) : ac (r.bnd f) b := by
  obtain ⟨l, rfl, p1⟩ := h1
  obtain ⟨m, h2, p2⟩ := h2
  refine ⟨l ++ m, ?_, dA.mpr ⟨p1, p2⟩⟩
  show (match f a with | .st => (.st : Rs β) | .ok b m => Rs.ok b (l ++ m)) = _
  rw [h2]
theorem ac.inj {α : Type} {r : Rs α} {a b : α} (h : ac r a) (g : ac r b) : a = b := by
  obtain ⟨l, h, _⟩ := h; obtain ⟨m, g, _⟩ := g; rw [h] at g; cases g; rfl
section
variable {Φ : Fx} {sc : Scope} {ρ ρ' : aj} {fl : Fl} {ss : List Stmt}
theorem bM {ps : List Str} {body : List Stmt} {ds : List D} {d : D} (h : ac (aD Φ body sc (e9 ps ds)) (.rt d)) (hl : ds.length = ps.length := by rfl) : ac (bC Φ sc ps body ds) d := by
  unfold bC; rw [if_pos hl]; exact h.bnd ⟨[], rfl, True.intro⟩
theorem dh : ac (aD Φ [] sc ρ) (.nx ρ) := ⟨[], rfl, True.intro⟩
theorem bI {s : Stmt} (h : ac (dC Φ s sc ρ) (.nx ρ')) (h2 : ac (aD Φ ss sc ρ') fl) : ac (aD Φ (s :: ss) sc ρ) fl := ac.bnd h h2
theorem jT {s : Stmt} (h : ac (dC Φ s sc ρ) fl) (hf : ∀ ρ, fl ≠ .nx ρ) : ac (aD Φ (s :: ss) sc ρ) fl := ac.bnd h (by
  cases fl with
  | nx ρ => exact absurd rfl (hf ρ)
  | rt d => exact ⟨[], rfl, True.intro⟩
  | bk ρ => exact ⟨[], rfl, True.intro⟩
  | ct ρ => exact ⟨[], rfl, True.intro⟩)
theorem d8 {s : Stmt} {d : D} (h : ac (dC Φ s sc ρ) (.rt d)) : ac (aD Φ (s :: ss) sc ρ) (.rt d) := jT h fun _ z => by cases z
theorem qP {s : Stmt} (h : ac (aD Φ (s :: ss) sc ρ) fl) : (∃ ρ', ac (dC Φ s sc ρ) (.nx ρ') /\ ac (aD Φ ss sc ρ') fl) \/ ((∀ ρ, fl ≠ .nx ρ) /\ ac (dC Φ s sc ρ) fl) := by
  obtain ⟨f, h1, h2⟩ := av (show ac (Rs.bnd _ _) fl from h)
  cases f with
  | nx ρ' => exact .inl ⟨ρ', h1, h2⟩
  | rt d => cases aP h2; exact .inr ⟨fun _ z => (by cases z), h1⟩
  | bk ρ => cases aP h2; exact .inr ⟨fun _ z => (by cases z), h1⟩
  | ct ρ => cases aP h2; exact .inr ⟨fun _ z => (by cases z), h1⟩
theorem xr : ∀ {a : List Stmt} {ρ : aj}, ac (aD Φ a sc ρ) (.nx ρ') -> ac (aD Φ ss sc ρ') fl -> ac (aD Φ (a ++ ss) sc ρ) fl
  | [], ρ, h, h2 => by cases aP h; exact h2
  | s :: a, ρ, h, h2 => by
    rcases qP h with ⟨ρ1, h3, h4⟩ | ⟨h3, _⟩
    . exact bI h3 (xr h4 h2)
    . exact absurd rfl (h3 _)
theorem pp : ∀ {a : List Stmt} {ρ : aj}, ac (aD Φ (a ++ ss) sc ρ) fl -> (∃ ρ', ac (aD Φ a sc ρ) (.nx ρ') /\ ac (aD Φ ss sc ρ') fl) \/ ((∀ ρ, fl ≠ .nx ρ) /\ ac (aD Φ a sc ρ) fl)
  | [], ρ, h => .inl ⟨ρ, dh, h⟩
  | s :: a, ρ, h => by
    rcases qP h with ⟨ρ1, h3, h4⟩ | ⟨h3, h4⟩
    . rcases pp h4 with ⟨ρ2, h5, h6⟩ | ⟨h5, h6⟩
      . exact .inl ⟨ρ2, bI h3 h5, h6⟩
      . exact .inr ⟨h5, bI h3 h6⟩
    . exact .inr ⟨h3, jT h4 h3⟩
theorem bi (n : Nat) (h : ac (aD Φ (ss.take n) sc ρ) (.nx ρ')) (h2 : ac (aD Φ (ss.drop n) sc ρ') fl) : ac (aD Φ ss sc ρ) fl := by
  rw [<- List.take_append_drop n ss]; exact xr h h2
theorem jk {c : Expr} {a b : List Stmt} {p : Pos} {t : Bool} {k : Nat} (hc : ac (aA Φ c false sc ρ) (.bl t, k)) (h1 : t = true -> ac (aD Φ (a ++ ss) sc ρ) fl) (h2 : t = false -> ac (aD Φ (b ++ ss) sc ρ) fl) : ac (aD Φ (.If c a b p :: ss) sc ρ) fl := by
  have key : ∀ x, ac (cond t (aD Φ a sc ρ) (aD Φ b sc ρ)) x -> ac (dC Φ (.If c a b p) sc ρ) x := fun x hx => ac.bnd hc hx
  cases t with
  | true =>
    rcases pp (h1 rfl) with ⟨ρ1, h3, h4⟩ | ⟨h3, h4⟩
    . exact bI (key _ h3) h4
    . exact jT (key _ h4) h3
  | false =>
    rcases pp (h2 rfl) with ⟨ρ1, h3, h4⟩ | ⟨h3, h4⟩
    . exact bI (key _ h3) h4
    . exact jT (key _ h4) h3
theorem fY {c : Expr} {a b : List Stmt} {p : Pos} {t : Bool} {k : Nat} (hc : ac (aA Φ c false sc ρ) (.bl t, k)) (ht : t = true) (h1 : ac (aD Φ (a ++ ss) sc ρ) fl) : ac (aD Φ (.If c a b p :: ss) sc ρ) fl := jk hc (fun _ => h1) fun z => by rw [ht] at z; cases z
theorem bL {c : Expr} {a b : List Stmt} {p : Pos} {t : Bool} {k : Nat} (hc : ac (aA Φ c false sc ρ) (.bl t, k)) (ht : t = false) (h1 : ac (aD Φ (b ++ ss) sc ρ) fl) : ac (aD Φ (.If c a b p :: ss) sc ρ) fl := jk hc (fun z => by rw [ht] at z; cases z) fun _ => h1
theorem kz {tg it : Expr} {body : List Stmt} {p : Pos} {d : D} {ds : List D} {k : Nat} (hi : ac (aA Φ it true sc (demote it ρ)) (d, k)) (hd : items d = some ds) (hk : k <= 1) (ht : dZ it tg = true) (h : ac (cZ (bN sc tg) (aD Φ body sc) ds (demote it ρ)) fl) : ac (dC Φ (.For tg it body [] p) sc ρ) fl := by
  rw [o9, if_pos (show List.isEmpty ([] : List Stmt) = true from rfl)]
  refine hi.bnd ?_
  dsimp only
  rw [hd]
  dsimp only
  rw [if_pos ⟨hk, ht⟩]
  exact h
theorem r6 {c : Expr} {body : List Stmt} {p : Pos} (h : ac (mv (fun ρ => (aA Φ c false sc ρ).bnd fun p => iB p fun b => .ok b []) (aD Φ body sc) bE ρ) fl) : ac (dC Φ (.While c body [] p) sc ρ) fl := by
  rw [r9, if_pos (show List.isEmpty ([] : List Stmt) = true from rfl)]; exact h
theorem aT {f : Str} {p q : Pos} {args : List Expr} {it : Bool} {ds : List D} {k : Nat} {F : List D -> Rs D} {v : D} (ha : ac (cx Φ args sc ρ) (ds, k)) (hv : ac (F ds) v) (hF : Φ.fn f = some F := by rfl) (hg : sc.names.lookup f = some .globalImplicit := by rfl) : ac (aA Φ (.Call (.Name f p) args [] q) it sc ρ) (v, 0) := by
  rw [jv, if_pos hg]
  refine ha.bnd ?_
  unfold lV
  rw [hF]
  exact hv.bnd ⟨[], rfl, True.intro⟩
theorem cm : ac (cx Φ [] sc ρ) ([], 0) := ⟨[], rfl, True.intro⟩
theorem aN {e : Expr} {es : List Expr} {d : D} {ds : List D} {k j : Nat} (h : ac (aA Φ e false sc ρ) (d, k)) (h2 : ac (cx Φ es sc ρ) (ds, j)) : ac (cx Φ (e :: es) sc ρ) (d :: ds, kj k j) := ac.bnd h (ac.bnd h2 ⟨[], rfl, True.intro⟩)
theorem uu {elt tg iter : Expr} {ifs : List Expr} {scope : Scope} {p : Pos} {it : Bool} {d : D} {ds out : List D} {k j : Nat} (hi : ac (aA Φ iter true sc ρ) (d, k)) (hd : items d = some ds) (hl : ds.length <= bE /\ (am ds = true \/ k <= 1))
    (h : ac (fU (fun d => match bN scope tg d (flt scope ρ) with
            | none => .st
            | some ρ' => (dG Φ .And ifs scope ρ').bnd fun b => cond b ((aA Φ elt false scope ρ').bnd fun r => .ok (some r) []) (.ok none [])) ds) (out, j)) (hj : j <= 1) (hc : mG sc scope = true := by rfl) (ht : dZ iter tg = true := by rfl) : ac (aA Φ (.ListComp elt [⟨tg, iter, ifs, 0⟩] scope p) it sc ρ) (.lst out, j) := by
  rw [pe, if_pos hc]
  refine hi.bnd ?_
  dsimp only
  rw [hd]
  dsimp only
  rw [if_pos ht]
  refine ac.bnd (a := ()) ⟨_, rfl, hl.1, hl.2, True.intro⟩ ?_
  refine h.bnd ?_
  rw [if_pos hj]
  exact ⟨[], rfl, True.intro⟩
theorem dO {a i : Expr} {p : Pos} {it : Bool} {x d : D} {l : List D} {j : Int} {k k2 : Nat} (ha : ac (aA Φ a false sc ρ) (x, k)) (hi : ac (aA Φ i false sc ρ) (.int j, k2)) (hx : eG x = some l) (hd : L2.atI l j = some d) : ac (aA Φ (.Subscript a i p) it sc ρ) (d, kn d k) := by
  have key : ac ((aA Φ a false sc ρ).bnd fun p => (aA Φ i false sc ρ).bnd fun q => ji p q) (d, kn d k) := by
    refine ha.bnd (hi.bnd ?_)
    rcases eZ hx with rfl | rfl
    . show ac (rK (.tup l) j k) _
      unfold rK
      rw [hx]; dsimp only
      rw [hd]; exact ⟨[], rfl, True.intro⟩
    . show ac (rK (.lst l) j k) _
      unfold rK
      rw [hx]; dsimp only
      rw [hd]; exact ⟨[], rfl, True.intro⟩
  cases i with
  | Slice lo hi st p2 => exact (ar hi).elim
  | _ => exact key
theorem b0 {e : Expr} {x : Str} {p q : Pos} {d : D} (h : ac (aA Φ e false sc ρ) (d, 0)) (hx : d6 sc x = true := by rfl) : ac (dC Φ (.Assign [.Name x p] e q) sc ρ) (.nx (bT ρ x (d, true))) := by
  refine ac.bnd h ?_
  unfold oP
  rw [if_pos hx]
  exact ⟨[], rfl, True.intro⟩
theorem dF {e : Expr} {q : Pos} {d : D} {k : Nat} (h : ac (aA Φ e false sc ρ) (d, k)) (hk : k = 0 \/ k = 2 := by exact .inl rfl) (hn : Ak e = false := by rfl) : ac (dC Φ (.Return (some e) q) sc ρ) (.rt d) := by
  refine ac.bnd h ?_
  unfold uR
  rw [if_pos hk]
  exact ⟨[], rfl, True.intro⟩
end
theorem mX {bind : D -> aj -> Option aj} {body : aj -> Rs Fl} (ak : List D -> aj -> Prop) (step : ∀ d l ρ, ak (d :: l) ρ -> ∃ ρ1 ρ2, bind d ρ = some ρ1 /\ (ac (body ρ1) (.nx ρ2) \/ ac (body ρ1) (.ct ρ2)) /\ ak l ρ2) : ∀ {ds : List D} {ρ : aj}, ak ds ρ -> ∃ ρ', ac (cZ bind body ds ρ) (.nx ρ') /\ ak [] ρ'
  | [], ρ, h => ⟨ρ, ⟨[], rfl, True.intro⟩, h⟩
  | d :: l, ρ, h => by
    obtain ⟨ρ1, ρ2, h1, h2, h3⟩ := step d l ρ h
    obtain ⟨ρ', h4, h5⟩ := mX ak step h3
    refine ⟨ρ', ?_, h5⟩
    show ac (match bind d ρ with | none => (.st : Rs Fl) | some ρ1 => (body ρ1).bnd (ip (cZ bind body l))) _
    rw [h1]
    rcases h2 with h2 | h2
    . exact h2.bnd h4
    . exact h2.bnd h4
theorem uq {bind : D -> aj -> Option aj} {body : aj -> Rs Fl} (ak : List D -> aj -> Prop) (R : D -> Prop) (step : ∀ d l ρ, ak (d :: l) ρ -> ∃ ρ1, bind d ρ = some ρ1 /\ ((∃ ρ2, (ac (body ρ1) (.nx ρ2) \/ ac (body ρ1) (.ct ρ2)) /\ ak l ρ2) \/ ∃ r, ac (body ρ1) (.rt r) /\ R r)) : ∀ {ds : List D} {ρ : aj}, ak ds ρ -> (∃ ρ', ac (cZ bind body ds ρ) (.nx ρ') /\ ak [] ρ') \/ ∃ r, ac (cZ bind body ds ρ) (.rt r) /\ R r
  | [], ρ, h => .inl ⟨ρ, ⟨[], rfl, True.intro⟩, h⟩
  | d :: l, ρ, h => by
    obtain ⟨ρ1, h1, h2⟩ := step d l ρ h
    have key : cZ bind body (d :: l) ρ = (body ρ1).bnd (ip (cZ bind body l)) := by
      show (match bind d ρ with | none => (.st : Rs Fl) | some ρ1 => (body ρ1).bnd (ip (cZ bind body l))) = _
      rw [h1]
    rw [key]
    rcases h2 with ⟨ρ2, h2, h3⟩ | ⟨r, h2, h3⟩
    . have go : ∀ x, ac (cZ bind body l ρ2) x -> ac ((body ρ1).bnd (ip (cZ bind body l))) x := fun x hx => by
        rcases h2 with h2 | h2
        . exact h2.bnd hx
        . exact h2.bnd hx
      rcases uq ak R step h3 with ⟨ρ', h4, h5⟩ | ⟨r, h4, h5⟩
      . exact .inl ⟨ρ', go _ h4, h5⟩
      . exact .inr ⟨r, go _ h4, h5⟩
    . exact .inr ⟨r, h2.bnd ⟨[], rfl, True.intro⟩, h3⟩
theorem pY {α : Type} {step : D -> Rs (Option (D × Nat))} {g : α -> D} {f : α -> D} : ∀ {l : List α}, (∀ x ∈ l, ac (step (g x)) (some (f x, 0))) -> ac (fU step (l.map g)) (l.map f, 0)
  | [], _ => ⟨[], rfl, True.intro⟩
  | x :: l, h => ac.bnd (h x List.mem_cons_self) (ac.bnd (pY fun y hy => h y (List.mem_cons_of_mem _ hy)) ⟨[], rfl, True.intro⟩)
theorem kC {α : Type} {step : D -> Rs (Option (D × Nat))} {g : α -> D} {f : α -> D} {c : α -> Bool} : ∀ {l : List α}, (∀ x ∈ l, ac (step (g x)) (cond (c x) (some (f x, 0)) none)) -> ac (fU step (l.map g)) ((l.filter c).map f, 0)
  | [], _ => ⟨[], rfl, True.intro⟩
  | x :: l, h => by
    have h1 := h x List.mem_cons_self
    have h2 := kC (c := c) fun y hy => h y (List.mem_cons_of_mem _ hy)
    cases e : c x with
    | true =>
      rw [e] at h1
      rw [List.filter_cons_of_pos e]
      exact ac.bnd h1 (ac.bnd h2 ⟨[], rfl, True.intro⟩)
    | false =>
      rw [e] at h1
      rw [List.filter_cons_of_neg (by rw [e]; decide)]
      exact ac.bnd h1 (ac.bnd h2 ⟨[], rfl, True.intro⟩)
theorem fJ {a b : Int} (h : a.natAbs < 18446744073709551616) : bK a b := .inl h
theorem lH {a b : Int} (h : b.natAbs < 18446744073709551616) : bK a b := .inr (.inl h)
theorem bV {a b : Int} (h : a.natAbs < cX) (g : b.natAbs < cX) : bK a b := .inr (.inr (.inl ⟨h, g⟩))
theorem Gf {n : Nat} (h : n < 2 ^ 64) : n < cX := Nat.lt_of_lt_of_le h (Nat.pow_le_pow_right (by decide) (by decide))
theorem uA {b : Int} (h0 : b ≠ 0) (h : b.natAbs < 18446744073709551616) : fT b := ⟨h0, Gf h⟩
theorem CK {ns : List Int} {i : Int} (h0 : 0 <= i) (h1 : i < ns.length) : L2.atI (ns.map D.int) i = some (.int (ns.getD i.toNat 0)) := by
  obtain ⟨j, rfl⟩ := Int.eq_ofNat_of_zero_le h0
  have hj : j < ns.length := by omega
  have := jd (xs := ns.map D.int) (j := j) (v := .int (ns.getD j 0)) (by simp [hj])
  simpa using this
theorem zw : aJ [] := True.intro
theorem vD {l m : List Prop} (h : aJ l) (g : aJ m) : aJ (l ++ m) := dA.mpr ⟨h, g⟩
theorem zu {p : Prop} (h : p) : aJ [p] := ⟨h, True.intro⟩
theorem tx {p : Prop} {l : List Prop} (h : p) (g : aJ l) : aJ (p :: l) := ⟨h, g⟩
end Sp
namespace Sp
open PySem PySem.Spec PyProof.Rows L2
def Sub (C ρ : aj) : Prop := ∀ x y, C x = some y -> ρ x = some y
theorem Sub.refl (ρ : aj) : Sub ρ ρ := fun _ _ h => h
theorem Sub.trans {a b c : aj} (h : Sub a b) (g : Sub b c) : Sub a c := fun x y e => g x y (h x y e)
theorem Sub.put {C ρ : aj} (h : Sub C ρ) (x : Str) (y : D × Bool) : Sub (bT C x y) (bT ρ x y) := fun z w e => by
  rw [dy] at e ⊢
  by_cases hz : z = x
  . rw [if_pos hz] at e ⊢; exact e
  . rw [if_neg hz] at e ⊢; exact h z w e
theorem Sub.flt {C ρ : aj} (h : Sub C ρ) (scope : Scope) : Sub (flt scope C) (flt scope ρ) := fun z w e => by
  obtain ⟨e1, e2⟩ := ju e
  unfold Sp.flt
  rw [if_pos e2]; exact h z w e1
theorem Sub.demX {C ρ : aj} (h : Sub C ρ) (x : Str) : Sub (demX x C) (demX x ρ) := by
  unfold Sp.demX
  intro z w hz
  by_cases hx : z = x
  . simp only [if_pos hx] at hz ⊢
    cases hc : C z with
    | none => rw [hc] at hz; cases hz
    | some q => rw [hc] at hz; rw [h z q hc]; exact hz
  . simp only [if_neg hx] at hz ⊢; exact h z w hz
theorem Sub.demA {C ρ : aj} (h : Sub C ρ) (x : Str) : Sub (demA x C) (demA x ρ) := by
  intro z w hz
  unfold Sp.demA at hz ⊢
  by_cases hx : z = x
  . simp only [if_pos hx] at hz ⊢
    cases hc : C z with
    | none => rw [hc] at hz; cases hz
    | some q => rw [hc] at hz; rw [h z q hc]; exact hz
  . simp only [if_neg hx] at hz ⊢; exact h z w hz
theorem Sub.demL : ∀ {es : List Expr} {C ρ : aj}, Sub C ρ -> Sub (demL es C) (demL es ρ)
  | [], _, _, h => h
  | e :: es, C, ρ, h => by
    cases e with
    | Name x p => exact Sub.demL (es := es) (h.demA x)
    | Subscript a i p =>
      cases a with
      | Name x q => exact Sub.demL (es := es) (h.demA x)
      | _ => exact Sub.demL (es := es) h
    | _ => exact Sub.demL (es := es) h
theorem Sub.demote {C ρ : aj} (h : Sub C ρ) (e : Expr) : Sub (demote e C) (demote e ρ) := by
  unfold Sp.demote
  split
  . exact h.demX _
  . exact h.demX _
  . exact h.demL
  . exact h
theorem pN {sc : Scope} : ∀ {es : List Expr} {ds : List D} {C C' ρ : aj}, aV sc es ds C = some C' -> Sub C ρ -> ∃ ρ', aV sc es ds ρ = some ρ' /\ Sub C' ρ' := by
  intro es
  induction es with
  | nil =>
    intro ds C C' ρ h s
    cases ds with
    | nil => cases h; exact ⟨ρ, rfl, s⟩
    | cons d ds => cases h
  | cons e es ih =>
    intro ds C C' ρ h s
    cases ds with
    | nil => cases e <;> cases h
    | cons d ds =>
      cases e with
      | Name z p =>
        rw [aV] at h ⊢
        split at h
        . rename_i hz
          rw [if_pos hz]
          exact ih h (s.put _ _)
        . cases h
      | _ => cases h
theorem qM {sc : Scope} {tg : Expr} {d : D} {C C' ρ : aj} (h : bN sc tg d C = some C') (s : Sub C ρ) : ∃ ρ', bN sc tg d ρ = some ρ' /\ Sub C' ρ' := by
  unfold bN at h ⊢
  split at h
  . split at h
    . rename_i hx; cases h; exact ⟨_, if_pos hx, s.put _ _⟩
    . cases h
  . split at h
    . exact pN h s
    . cases h
  . cases h
theorem eL {b : Bool} {m : List Prop} (h : b = true -> aJ m) : aJ (gd b m) := by
  cases m with
  | nil => exact True.intro
  | cons p l => exact ⟨h, True.intro⟩
theorem sJ {b c : Bool} {r : Rs Bool} (h : b = true -> ac r c) (hf : b = false -> c = false) : ac (vC b r) c := by
  cases b with
  | true =>
    obtain ⟨m, rfl, hm⟩ := h rfl
    exact ⟨_, rfl, eL fun _ => hm⟩
  | false =>
    rw [hf rfl]
    cases r with
    | ok c' m => exact ⟨_, rfl, eL fun z => (by cases z)⟩
    | st => exact ⟨_, rfl, True.intro⟩
theorem uY {b c : Bool} {r : Rs Bool} (h : b = false -> ac r c) (hf : b = true -> c = true) : ac (Aj b r) c := by
  cases b with
  | false =>
    obtain ⟨m, rfl, hm⟩ := h rfl
    exact ⟨_, rfl, eL fun _ => hm⟩
  | true =>
    rw [hf rfl]
    cases r with
    | ok c' m => exact ⟨_, rfl, eL fun z => (by cases z)⟩
    | st => exact ⟨_, rfl, True.intro⟩
theorem Av {t : Bool} {r s : R1} {d : D × Nat} (h : ac (if t = true then r else s) d) : ac (Aw t r s) d := by
  cases t with
  | true =>
    rw [if_pos rfl] at h
    obtain ⟨m, rfl, hm⟩ := h
    cases s with
    | ok q n => exact ⟨_, by show Rs.ok _ _ = Rs.ok _ _; rw [rB, Ar], dA.mpr ⟨eL fun _ => hm, eL fun z => (by cases z)⟩⟩
    | st => exact ⟨m, rfl, hm⟩
  | false =>
    rw [if_neg Bool.false_ne_true] at h
    obtain ⟨m, rfl, hm⟩ := h
    cases r with
    | ok q n => exact ⟨_, by show Rs.ok _ _ = Rs.ok _ _; rw [rC, As], dA.mpr ⟨eL fun z => (by cases z), eL fun _ => hm⟩⟩
    | st => exact ⟨m, rfl, hm⟩
theorem iO {α : Type} {p : D × Nat} {f : Bool -> Rs α} {a : α} {b : Bool} (h : p.1 = .bl b) (h2 : ac (f b) a) : ac (iB p f) a := by
  unfold iB; rw [h]; exact h2
theorem HB {p : D × Nat} {f : Int -> R1} {a : D × Nat} {b : Int} (h : p.1 = .int b) (h2 : ac (f b) a) : ac (jp p f) a := by
  unfold jp; rw [h]; exact h2
structure Mo (Φ : Fx) (n : Nat) : Prop where
  e : ∀ (e : Expr) {it : Bool} {sc : Scope} {C ρ : aj} {p : D × Nat}, sizeOf e < n -> ac (aA Φ e it sc C) p -> Sub C ρ -> ac (aA Φ e it sc ρ) p
  es : ∀ (es : List Expr) {sc : Scope} {C ρ : aj} {p : List D × Nat}, sizeOf es < n -> ac (cx Φ es sc C) p -> Sub C ρ -> ac (cx Φ es sc ρ) p
  b : ∀ (op : BoolOp) (es : List Expr) {sc : Scope} {C ρ : aj} {b : Bool}, sizeOf es < n -> ac (dG Φ op es sc C) b -> Sub C ρ -> ac (dG Φ op es sc ρ) b
  o : ∀ (e : Option Expr) {sc : Scope} {C ρ : aj} {o : Option Int}, sizeOf e < n -> ac (mD Φ e sc C) o -> Sub C ρ -> ac (mD Φ e sc ρ) o
theorem ud {step step2 : D -> Rs (Option (D × Nat))} (h : ∀ d r, ac (step d) r -> ac (step2 d) r) : ∀ {ds : List D} {q : List D × Nat}, ac (fU step ds) q -> ac (fU step2 ds) q
  | [], q, hq => hq
  | d :: ds, q, hq => by
    obtain ⟨r, h1, h2⟩ := av (show ac (Rs.bnd _ _) q from hq)
    obtain ⟨q1, h3, h4⟩ := av h2
    exact ac.bnd (h _ _ h1) (ac.bnd (ud h h3) h4)
section
variable {Φ : Fx} {n : Nat} {it : Bool} {sc : Scope} {C ρ : aj} {p : D × Nat}
theorem Ap (I : Mo Φ n) {a i : Expr} {pos : Pos} (hs : sizeOf (Expr.Subscript a i pos) < n + 1) (h : ac ((aA Φ a false sc C).bnd fun p => (aA Φ i false sc C).bnd fun q => ji p q) p) (s : Sub C ρ) : ac ((aA Φ a false sc ρ).bnd fun p => (aA Φ i false sc ρ).bnd fun q => ji p q) p := by
  obtain ⟨x, h1, h⟩ := av h
  obtain ⟨y, h2, h⟩ := av h
  exact ac.bnd (I.e a (bj (by simp <;> omega) hs) h1 s) (ac.bnd (I.e i (bj (by simp <;> omega) hs) h2 s) h)
theorem Mr (I : Mo Φ n) (e : Expr) (hs : sizeOf e < n + 1) (h : ac (aA Φ e it sc C) p) (s : Sub C ρ) : ac (aA Φ e it sc ρ) p := by
  cases e with
  | Constant c k q => exact h
  | Name x q =>
    replace h : ac (jo Φ x sc C) p := h
    show ac (jo Φ x sc ρ) p
    unfold jo at h ⊢
    split at h
    . rename_i hx
      rw [if_pos hx]
      split at h
      . rename_i hg; rw [if_pos hg]; exact h
      . rename_i hg
        rw [if_neg hg]
        split at h
        . rename_i y hy; rw [s x y hy]; exact h
        . exact (ar h).elim
    . exact (ar h).elim
  | BinOp a op b q =>
    obtain ⟨x, h1, h⟩ := av (show ac (Rs.bnd _ _) p from h)
    obtain ⟨y, h2, h⟩ := av h
    exact ac.bnd (I.e a (bj (by simp <;> omega) hs) h1 s) (ac.bnd (I.e b (bj (by simp <;> omega) hs) h2 s) h)
  | UnaryOp op a q =>
    obtain ⟨x, h1, h⟩ := av (show ac (Rs.bnd _ _) p from h)
    exact ac.bnd (I.e a (bj (by simp <;> omega) hs) h1 s) h
  | BoolOp op es q =>
    rw [ph] at h ⊢
    split at h
    . exact (ar h).elim
    . rename_i hne
      rw [if_neg hne]
      obtain ⟨b, h1, h⟩ := av h
      exact ac.bnd (I.b op es (bj (by simp <;> omega) hs) h1 s) h
  | Compare a ops bs q =>
    match ops, bs, hs, h with
    | [op], [b], hs, h =>
      obtain ⟨x, h1, h⟩ := av (show ac (Rs.bnd _ _) p from h)
      obtain ⟨y, h2, h⟩ := av h
      exact ac.bnd (I.e a (bj (by simp <;> omega) hs) h1 s) (ac.bnd (I.e b (bj (by simp <;> omega) hs) h2 s) h)
    | [], bs, _, h => exact (ar h).elim
    | [op], [], _, h => exact (ar h).elim
    | [op], _ :: _ :: _, _, h => exact (ar h).elim
    | [op, op2], [b, c], hs, h =>
      obtain ⟨x, h1, h⟩ := av (show ac (Rs.bnd _ _) p from h)
      obtain ⟨y, h2, h⟩ := av h
      obtain ⟨z, h3, h⟩ := av h
      exact ac.bnd (I.e a (bj (by simp <;> omega) hs) h1 s) (ac.bnd (I.e b (bj (by simp <;> omega) hs) h2 s) (ac.bnd (I.e c (bj (by simp <;> omega) hs) h3 s) h))
    | [_, _], [], _, h => exact (ar h).elim
    | [_, _], [_], _, h => exact (ar h).elim
    | [_, _], _ :: _ :: _ :: _, _, h => exact (ar h).elim
    | _ :: _ :: _ :: _, bs, _, h => exact (ar h).elim
  | IfExp c a b q =>
    obtain ⟨x, h1, h⟩ := av (show ac (Rs.bnd _ _) p from h)
    obtain ⟨t, ht, h⟩ := fZ h
    obtain ⟨l, h, hp⟩ := h
    obtain ⟨m, h, hm⟩ := ul h hp
    refine ac.bnd (I.e c (bj (by simp <;> omega) hs) h1 s) (iO ht (Av ?_))
    cases t with
    | true => exact I.e a (bj (by simp <;> omega) hs) ⟨m, h, hm⟩ s
    | false => exact I.e b (bj (by simp <;> omega) hs) ⟨m, h, hm⟩ s
  | Tuple es k q =>
    obtain ⟨x, h1, h⟩ := av (show ac (Rs.bnd _ _) p from h)
    exact ac.bnd (I.es es (bj (by simp <;> omega) hs) h1 s) h
  | List es q =>
    obtain ⟨x, h1, h⟩ := av (show ac (Rs.bnd _ _) p from h)
    exact ac.bnd (I.es es (bj (by simp <;> omega) hs) h1 s) h
  | Attribute a f q =>
    cases a with
    | Name x pn =>
      obtain ⟨y, h1, h⟩ := av (show ac (Rs.bnd _ _) p from h)
      exact ac.bnd (I.e (.Name x pn) (it := false) (bj (by simp <;> omega) hs) h1 s) h
    | _ => exact (ar h).elim
  | Dict ks vs q =>
    match ks, vs, h with
    | [], [], h => exact h
    | _ :: _, _, h => exact (ar h).elim
    | [], _ :: _, h => exact (ar h).elim
  | Subscript a i q =>
    cases i with
    | Slice lo hi st p2 =>
      cases st with
      | none =>
        obtain ⟨x, h1, h⟩ := av (show ac (Rs.bnd _ _) p from h)
        obtain ⟨y, h2, h⟩ := av h
        obtain ⟨z, h3, h⟩ := av h
        exact ac.bnd (I.e a (bj (by simp <;> omega) hs) h1 s) (ac.bnd (I.o lo (bj (by simp <;> omega) hs) h2 s) (ac.bnd (I.o hi (bj (by simp <;> omega) hs) h3 s) h))
      | some e => exact Ap I hs h s
    | _ => exact Ap I hs h s
  | Call f args kws q =>
    cases f with
    | Name f fp =>
      cases kws with
      | nil =>
        rw [jv] at h ⊢
        split at h
        . rename_i hf
          rw [if_pos hf]
          obtain ⟨x, h1, h⟩ := av h
          exact ac.bnd (I.es args (bj (by simp <;> omega) hs) h1 s) h
        . exact (ar h).elim
      | cons _ _ => exact (ar h).elim
    | Attribute a m ap =>
      cases kws with
      | nil =>
        rw [si] at h ⊢
        split at h
        . rename_i hf
          rw [if_pos hf]
          obtain ⟨x, h1, h⟩ := av h
          obtain ⟨y, h2, h⟩ := av h
          exact ac.bnd (I.e a (bj (by simp <;> omega) hs) h1 s) (ac.bnd (I.es args (bj (by simp <;> omega) hs) h2 s) h)
        . exact (ar h).elim
      | cons _ _ => exact (ar h).elim
    | _ => exact (ar h).elim
  | ListComp elt gens scope q =>
    obtain ⟨l0, h0, _⟩ := id h
    obtain ⟨tg, iter, ifs, rfl⟩ := o7 h0
    rw [pe] at h ⊢
    split at h
    . rename_i hc
      rw [if_pos hc]
      obtain ⟨x, h1, h⟩ := av h
      refine ac.bnd (I.e iter (by first | omega | (simp at *; omega)) h1 s) ?_
      split at h
      . split at h
        . rename_i hl
          rw [if_pos hl]
          obtain ⟨u0, h0', h⟩ := av h
          obtain ⟨y, h2, h⟩ := av h
          refine ac.bnd h0' (ac.bnd (ud (fun d r hr => ?_) h2) h)
          split at hr
          . exact (ar hr).elim
          . rename_i C' hb
            obtain ⟨ρ', hb', s'⟩ := qM hb (s.flt scope)
            rw [hb']
            obtain ⟨b, h3, hr⟩ := av hr
            refine ac.bnd (I.b .And ifs (by first | omega | (simp at *; omega)) h3 s') ?_
            cases b with
            | false => exact hr
            | true =>
              rw [cond_true] at hr ⊢
              obtain ⟨z, h4, hr⟩ := av hr
              exact ac.bnd (I.e elt (by first | omega | (simp at *; omega)) h4 s') hr
        . exact (ar h).elim
      . exact (ar h).elim
    . exact (ar h).elim
  | _ => exact (ar h).elim
theorem Ht (I : Mo Φ n) (es : List Expr) {p : List D × Nat} (hs : sizeOf es < n + 1) (h : ac (cx Φ es sc C) p) (s : Sub C ρ) : ac (cx Φ es sc ρ) p := by
  cases es with
  | nil => exact h
  | cons e es =>
    obtain ⟨x, h1, h⟩ := av (show ac (Rs.bnd _ _) p from h)
    obtain ⟨y, h2, h⟩ := av h
    exact ac.bnd (I.e e (bj (by simp <;> omega) hs) h1 s) (ac.bnd (I.es es (bj (by simp <;> omega) hs) h2 s) h)
theorem Ms (I : Mo Φ n) (op : BoolOp) (es : List Expr) {b : Bool} (hs : sizeOf es < n + 1) (h : ac (dG Φ op es sc C) b) (s : Sub C ρ) : ac (dG Φ op es sc ρ) b := by
  cases es with
  | nil => cases op <;> exact h
  | cons e es =>
    cases op with
    | And =>
      obtain ⟨x, h1, h⟩ := av (show ac (Rs.bnd _ _) b from h)
      obtain ⟨t, ht, l, h, hp⟩ := fZ h
      refine ac.bnd (I.e e (bj (by simp <;> omega) hs) h1 s) (iO ht ?_)
      rcases sI h hp with ⟨rfl, m, h, pm⟩ | ⟨rfl, rfl⟩
      . exact sJ (fun _ => I.b .And es (bj (by simp <;> omega) hs) ⟨m, h, pm⟩ s) fun z => (by cases z)
      . exact sJ (fun z => (by cases z)) fun _ => rfl
    | Or =>
      obtain ⟨x, h1, h⟩ := av (show ac (Rs.bnd _ _) b from h)
      obtain ⟨t, ht, l, h, hp⟩ := fZ h
      refine ac.bnd (I.e e (bj (by simp <;> omega) hs) h1 s) (iO ht ?_)
      rcases t6 h hp with ⟨rfl, m, h, pm⟩ | ⟨rfl, rfl⟩
      . exact uY (fun _ => I.b .Or es (bj (by simp <;> omega) hs) ⟨m, h, pm⟩ s) fun z => (by cases z)
      . exact uY (fun z => (by cases z)) fun _ => rfl
theorem Mq (I : Mo Φ n) (e : Option Expr) {o : Option Int} (hs : sizeOf e < n + 1) (h : ac (mD Φ e sc C) o) (s : Sub C ρ) : ac (mD Φ e sc ρ) o := by
  cases e with
  | none => exact h
  | some e =>
    obtain ⟨x, h1, h⟩ := av (show ac (Rs.bnd _ _) o from h)
    exact ac.bnd (I.e e (bj (by simp <;> omega) hs) h1 s) h
end
theorem iZ (Φ : Fx) : ∀ n, Mo Φ n
  | 0 => ⟨fun _ _ _ _ _ _ h => absurd h (Nat.not_lt_zero _), fun _ _ _ _ _ h => absurd h (Nat.not_lt_zero _), fun _ _ _ _ _ _ h => absurd h (Nat.not_lt_zero _), fun _ _ _ _ _ h => absurd h (Nat.not_lt_zero _)⟩
  | n + 1 => ⟨fun e _ _ _ _ _ hs h s => Mr (iZ Φ n) e hs h s, fun e _ _ _ _ hs h s => Ht (iZ Φ n) e hs h s, fun op e _ _ _ _ hs h s => Ms (iZ Φ n) op e hs h s, fun e _ _ _ _ hs h s => Mq (iZ Φ n) e hs h s⟩
theorem cY {Φ : Fx} {e : Expr} {it : Bool} {sc : Scope} {C ρ : aj} {p : D × Nat} (h : ac (aA Φ e it sc C) p) (s : Sub C ρ) : ac (aA Φ e it sc ρ) p := (iZ Φ _).e e (Nat.lt_succ_self _) h s
theorem uc {Φ : Fx} {e : List Expr} {sc : Scope} {C ρ : aj} {p : List D × Nat} (h : ac (cx Φ e sc C) p) (s : Sub C ρ) : ac (cx Φ e sc ρ) p := (iZ Φ _).es e (Nat.lt_succ_self _) h s
def zB : Fl -> Fl -> Prop
  | .nx a, .nx b => Sub a b
  | .bk a, .bk b => Sub a b
  | .ct a, .ct b => Sub a b
  | .rt a, .rt b => a = b
  | _, _ => False
theorem cC {α : Type} {a : α} : ac (.ok a []) a := ⟨[], rfl, True.intro⟩
def jI (f : aj -> Rs Fl) : Prop := ∀ C ρ fl, ac (f C) fl -> Sub C ρ -> ∃ fl', ac (f ρ) fl' /\ zB fl fl'
theorem wy {f : aj -> Rs Fl} (h : jI f) {x y z : Fl} (hx : ac (ip f x) z) (s : zB x y) : ∃ z', ac (ip f y) z' /\ zB z z' := by
  cases x <;> cases y <;> first | exact s.elim | skip
  . exact h _ _ _ hx s
  . cases aP hx; cases s; exact ⟨_, cC, rfl⟩
  . cases aP hx; exact ⟨_, cC, s⟩
  . exact h _ _ _ hx s
theorem wz {sc : Scope} {tg : Expr} {body : aj -> Rs Fl} (hb : jI body) : ∀ ds, jI (cZ (bN sc tg) body ds)
  | [] => fun C ρ fl h s => by cases aP h; exact ⟨_, cC, s⟩
  | d :: ds => fun C ρ fl h s => by
    replace h : ac (match bN sc tg d C with | none => (.st : Rs Fl) | some ρ1 => (body ρ1).bnd (ip (cZ (bN sc tg) body ds))) fl := h
    split at h
    . exact (ar h).elim
    . rename_i C1 hC
      obtain ⟨ρ1, hρ, s1⟩ := qM hC s
      obtain ⟨x, h1, h2⟩ := av h
      obtain ⟨y, h3, s2⟩ := hb _ _ _ h1 s1
      obtain ⟨z, h4, s3⟩ := wy (wz hb ds) h2 s2
      refine ⟨z, ?_, s3⟩
      show ac (match bN sc tg d ρ with | none => (.st : Rs Fl) | some ρ1 => (body ρ1).bnd (ip (cZ (bN sc tg) body ds))) z
      rw [hρ]; exact ac.bnd h3 h4
theorem Ao {test : aj -> Rs Bool} {body : aj -> Rs Fl} (ht : ∀ C ρ b, ac (test C) b -> Sub C ρ -> ac (test ρ) b) (hb : jI body) : ∀ n, jI (mv test body n)
  | 0 => fun C ρ fl h s => (ar h).elim
  | n + 1 => fun C ρ fl h s => by
    obtain ⟨b, h1, h2⟩ := av (show ac (Rs.bnd _ _) fl from h)
    have h1' := ht _ _ _ h1 s
    cases b with
    | false => cases aP h2; exact ⟨_, ac.bnd h1' cC, s⟩
    | true =>
      obtain ⟨x, h3, h4⟩ := av (show ac (Rs.bnd _ _) fl from h2)
      obtain ⟨y, h5, s2⟩ := hb _ _ _ h3 s
      obtain ⟨z, h6, s3⟩ := wy (Ao ht hb n) h4 s2
      exact ⟨z, ac.bnd h1' (ac.bnd h5 h6), s3⟩
theorem Eo {Φ : Fx} {tgs : List Expr} {e : Expr} {sc : Scope} : jI (og Φ tgs e sc) := by
  intro C ρ fl h s
  unfold og at h ⊢
  split at h
  . obtain ⟨p, h1, h⟩ := av h
    unfold oP at h
    split at h
    . rename_i hx
      split at h
      . rename_i ho; cases aP h
        exact ⟨.nx _, ac.bnd (cY h1 s) (by unfold oP; rw [if_pos hx, ho]; exact cC), s.put _ _⟩
      . rename_i ho; cases aP h
        exact ⟨.nx _, ac.bnd (cY h1 s) (by unfold oP; rw [if_pos hx, ho]; exact cC), s.put _ _⟩
      . exact (ar h).elim
    . exact (ar h).elim
  . split at h
    . rename_i ht
      rw [if_pos ht]
      unfold n8 at h ⊢
      split at h
      . split at h
        . rename_i hp
          rw [if_pos hp]
          obtain ⟨q, h1, h⟩ := av h
          split at h
          . rename_i u v hd
            split at h
            . rename_i hf
              cases aP h
              refine ⟨.nx _, ac.bnd (uc h1 s) ?_, (s.put _ _).put _ _⟩
              rw [hd]; dsimp only; rw [if_pos hf]; exact cC
            . exact (ar h).elim
          . exact (ar h).elim
        . exact (ar h).elim
      . exact (ar h).elim
    . rename_i ht
      rw [if_neg ht]
      obtain ⟨p, h1, h⟩ := av h
      split at h
      . rename_i ds hd
        split at h
        . rename_i hf
          split at h
          . rename_i C' hb
            cases aP h
            obtain ⟨ρ', hb', s'⟩ := pN hb s
            refine ⟨.nx _, ac.bnd (cY h1 s) ?_, s'⟩
            rw [hd]; dsimp only; rw [if_pos hf, hb']; exact cC
          . exact (ar h).elim
        . exact (ar h).elim
      . exact (ar h).elim
  . split at h
    . rename_i hc
      rw [if_pos hc]
      obtain ⟨p, h1, h⟩ := av h
      obtain ⟨q, h2, h⟩ := av h
      rcases qN h with ⟨l, j, l', a1, a2, a3, hj, hs, hf, rfl⟩ | ⟨ks, ds, k, a1, hk, a3, hf, hz, rfl⟩
      . refine ⟨.nx _, ac.bnd (cY h1 s) (ac.bnd (cY h2 s) ?_), s.put _ _⟩
        rw [hj]; unfold mN; rw [s _ _ a1]; dsimp only; rw [if_pos a3, hs]
        exact ⟨_, rfl, a2, hf, True.intro⟩
      . refine ⟨.nx _, ac.bnd (cY h1 s) (ac.bnd (cY h2 s) ?_), s.put _ _⟩
        unfold mN; rw [s _ _ a1]; dsimp only; rw [hk]; dsimp only; rw [if_pos a3]
        exact ⟨_, rfl, hf, hz, True.intro⟩
    . exact (ar h).elim
  . exact (ar h).elim
theorem En {Φ : Fx} {t e : Expr} {op : Operator} {sc : Scope} : jI (oa Φ t op e sc) := by
  intro C ρ fl h s
  unfold oa at h ⊢
  split at h
  . split at h
    . rename_i hx
      rw [if_pos hx]
      split at h
      . rename_i p hp
        rw [s _ _ hp]
        obtain ⟨r, h1, h⟩ := av h
        cases aP h
        obtain ⟨a, ha, h3⟩ := oX h1
        obtain ⟨q, h2, h4⟩ := av h3
        exact ⟨.nx _, ac.bnd (HB ha (ac.bnd (cY h2 s) h4)) cC, s.put _ _⟩
      . exact (ar h).elim
    . exact (ar h).elim
  . exact (ar h).elim
theorem Em {Φ : Fx} {e : Expr} {sc : Scope} : jI (n9 Φ e sc) := by
  intro C ρ fl h s
  unfold n9 at h ⊢
  split at h
  . split at h
    . rename_i hln
      rw [if_pos hln]
      obtain ⟨p, h1, h⟩ := av h
      split at h
      . rename_i M hM
        obtain ⟨l, a1, a3, h⟩ := rn h
        obtain ⟨l', h2, h⟩ := av h
        cases aP h
        refine ⟨.nx _, ac.bnd (uc h1 s) ?_, s.put _ _⟩
        unfold oW; rw [s _ _ a1]; dsimp only; rw [if_pos a3]; exact ac.bnd h2 cC
      . exact (ar h).elim
    . exact (ar h).elim
  . obtain ⟨p, h1, h⟩ := av h
    cases aP h
    exact ⟨.nx _, ac.bnd (cY h1 s) cC, s⟩
  . exact (ar h).elim
structure Gy (Φ : Fx) (n : Nat) : Prop where
  s : ∀ (st : Stmt) (sc : Scope), sizeOf st < n -> jI (dC Φ st sc)
  ss : ∀ (st : List Stmt) (sc : Scope), sizeOf st < n -> jI (aD Φ st sc)
theorem Hs {Φ : Fx} {n : Nat} (I : Gy Φ n) (st : Stmt) (sc : Scope) (hs : sizeOf st < n + 1) : jI (dC Φ st sc) := by
  intro C ρ fl h s
  cases st with
  | Return e p =>
    cases e with
    | none => cases aP h; exact ⟨_, cC, rfl⟩
    | some e =>
      obtain ⟨p, h1, h⟩ := av (show ac (Rs.bnd _ _) fl from h)
      refine ⟨fl, ac.bnd (cY h1 s) h, ?_⟩
      unfold uR at h
      split at h
      . cases aP h; rfl
      . exact (ar h).elim
  | Pass p => cases aP h; exact ⟨_, cC, s⟩
  | Break p => cases aP h; exact ⟨_, cC, s⟩
  | Continue p => cases aP h; exact ⟨_, cC, s⟩
  | Assign tgs e p => exact Eo C ρ fl h s
  | AugAssign t op e p => exact En C ρ fl h s
  | Expr e p => exact Em C ρ fl h s
  | If c a b p =>
    obtain ⟨p, h1, h⟩ := av (show ac (Rs.bnd _ _) fl from h)
    obtain ⟨t, ht, h⟩ := fZ h
    cases t with
    | true =>
      obtain ⟨z, h2, s2⟩ := I.ss a sc (bj (by simp <;> omega) hs) C ρ fl h s
      exact ⟨z, ac.bnd (cY h1 s) (iO ht h2), s2⟩
    | false =>
      obtain ⟨z, h2, s2⟩ := I.ss b sc (bj (by simp <;> omega) hs) C ρ fl h s
      exact ⟨z, ac.bnd (cY h1 s) (iO ht h2), s2⟩
  | For tg it body els p =>
    rw [o9] at h ⊢
    split at h
    . rename_i he
      rw [if_pos he]
      obtain ⟨p, h1, h⟩ := av h
      split at h
      . rename_i ds hd
        split at h
        . rename_i hk
          obtain ⟨z, h2, s2⟩ := wz (I.ss body sc (bj (by simp <;> omega) hs)) ds _ _ fl h (s.demote it)
          refine ⟨z, ac.bnd (cY h1 (s.demote it)) ?_, s2⟩
          rw [hd]; dsimp only; rw [if_pos hk]; exact h2
        . exact (ar h).elim
      . exact (ar h).elim
    . exact (ar h).elim
  | While c body els p =>
    rw [r9] at h ⊢
    split at h
    . rename_i he
      rw [if_pos he]
      refine Ao (fun C ρ b hb s => ?_) (I.ss body sc (bj (by simp <;> omega) hs)) bE C ρ fl h s
      obtain ⟨q, h1, hb⟩ := av hb
      exact ac.bnd (cY h1 s) hb
    . exact (ar h).elim
  | _ => exact (ar h).elim
theorem El {Φ : Fx} {n : Nat} (I : Gy Φ n) (ss : List Stmt) (sc : Scope) (hs : sizeOf ss < n + 1) : jI (aD Φ ss sc) := by
  intro C ρ fl h s
  cases ss with
  | nil => cases aP h; exact ⟨_, cC, s⟩
  | cons st ss =>
    rcases qP h with ⟨C', h1, h2⟩ | ⟨h1, h2⟩
    . obtain ⟨x, h3, s2⟩ := I.s st sc (bj (by simp <;> omega) hs) C ρ _ h1 s
      cases x with
      | nx ρ' =>
        obtain ⟨z, h4, s3⟩ := I.ss ss sc (bj (by simp <;> omega) hs) C' ρ' fl h2 s2
        exact ⟨z, bI h3 h4, s3⟩
      | rt _ => exact s2.elim
      | bk _ => exact s2.elim
      | ct _ => exact s2.elim
    . obtain ⟨x, h3, s2⟩ := I.s st sc (bj (by simp <;> omega) hs) C ρ _ h2 s
      refine ⟨x, jT h3 fun ρ' z => ?_, s2⟩
      subst z
      cases fl <;> first | exact h1 _ rfl | exact s2
theorem lI (Φ : Fx) : ∀ n, Gy Φ n
  | 0 => ⟨fun _ _ h => absurd h (Nat.not_lt_zero _), fun _ _ h => absurd h (Nat.not_lt_zero _)⟩
  | n + 1 => ⟨fun e sc hs => Hs (lI Φ n) e sc hs, fun e sc hs => El (lI Φ n) e sc hs⟩
theorem BR {Φ : Fx} {ss : List Stmt} {sc : Scope} {C C' ρ : aj} (h : ac (aD Φ ss sc C) (.nx C')) (s : Sub C ρ) : ∃ ρ', ac (aD Φ ss sc ρ) (.nx ρ') /\ Sub C' ρ' := by
  obtain ⟨z, h1, h2⟩ := (lI Φ _).ss ss sc (Nat.lt_succ_self _) C ρ _ h s
  cases z with
  | nx ρ' => exact ⟨ρ', h1, h2⟩
  | rt _ => exact h2.elim
  | bk _ => exact h2.elim
  | ct _ => exact h2.elim
theorem BQ {Φ : Fx} {ss : List Stmt} {sc : Scope} {C ρ : aj} {d : D} (h : ac (aD Φ ss sc C) (.rt d)) (s : Sub C ρ) : ac (aD Φ ss sc ρ) (.rt d) := by
  obtain ⟨z, h1, h2⟩ := (lI Φ _).ss ss sc (Nat.lt_succ_self _) C ρ _ h s
  cases z with
  | rt _ => cases h2; exact h1
  | nx _ => exact h2.elim
  | bk _ => exact h2.elim
  | ct _ => exact h2.elim
def bQ : List (Str × D × Bool) -> aj
  | [] => fun _ => none
  | p :: l => fun z => if z = p.1 then some p.2 else bQ l z
theorem aI {ρ : aj} : Sub (bQ []) ρ := fun _ _ h => by cases h
theorem ae {ρ : aj} {x : Str} {y : D × Bool} {l : List (Str × D × Bool)} (h : ρ x = some y) (g : Sub (bQ l) ρ) : Sub (bQ ((x, y) :: l)) ρ := fun z w e => by
  replace e : (if z = x then some y else bQ l z) = some w := e
  by_cases hz : z = x
  . rw [if_pos hz] at e; cases e; rw [hz]; exact h
  . rw [if_neg hz] at e; exact g z w e
theorem Sub.get {C ρ : aj} {x : Str} {y : D × Bool} (s : Sub C ρ) (h : C x = some y := by rfl) : ρ x = some y := s x y h
end Sp
namespace Sp
open PySem PySem.Spec PyProof.Rows L2
section
variable {Φ : Fx} {sc : Scope} {ρ ρ' : aj} {fl : Fl} {ss : List Stmt}
theorem cw {C C' : aj} {P : aj -> Prop} (s : Sub C ρ) (h : ac (aD Φ ss sc C) (.nx C')) (k : ∀ ρ', Sub C' ρ' -> P ρ') : ∃ ρ', ac (aD Φ ss sc ρ) (.nx ρ') /\ P ρ' :=
  let ⟨ρ', h1, h2⟩ := BR h s; ⟨ρ', h1, k ρ' h2⟩
theorem cE {C : aj} {d : D} (s : Sub C ρ) (h : ac (aD Φ ss sc C) (.rt d)) : ac (aD Φ ss sc ρ) (.rt d) := BQ h s
theorem bD {C : aj} {e : Expr} {it : Bool} {p : D × Nat} (s : Sub C ρ) (h : ac (aA Φ e it sc C) p) : ac (aA Φ e it sc ρ) p := cY h s
theorem li {tg it : Expr} {body : List Stmt} {p : Pos} {d : D} {ds : List D} {k : Nat} (ak : List D -> aj -> Prop) (hi : ac (aA Φ it true sc (demote it ρ)) (d, k)) (h0 : ak ds (demote it ρ))
    (step : ∀ d l ρ, ak (d :: l) ρ -> ∃ ρ1, bN sc tg d ρ = some ρ1 /\ ∃ ρ2, ac (aD Φ body sc ρ1) (.nx ρ2) /\ ak l ρ2) (rest : ∀ ρ', ak [] ρ' -> ac (aD Φ ss sc ρ') fl) (hd : items d = some ds := by rfl) (hk : k <= 1 := by first | exact Nat.le_refl 1 | exact Nat.zero_le 1) (ht : dZ it tg = true := by rfl) : ac (aD Φ (.For tg it body [] p :: ss) sc ρ) fl := by
  obtain ⟨ρ', h1, h2⟩ := mX (bind := bN sc tg) (body := aD Φ body sc) ak (fun d l ρ h => let ⟨ρ1, a, ρ2, b, c⟩ := step d l ρ h; ⟨ρ1, ρ2, a, .inl b, c⟩) h0
  exact bI (kz hi hd hk ht h1) (rest ρ' h2)
theorem Bc {tg it : Expr} {body : List Stmt} {p : Pos} {d : D} {ds : List D} {k : Nat} (ak : List D -> aj -> Prop) (R : D -> Prop) (hi : ac (aA Φ it true sc (demote it ρ)) (d, k)) (h0 : ak ds (demote it ρ))
    (step : ∀ d l ρ, ak (d :: l) ρ -> ∃ ρ1, bN sc tg d ρ = some ρ1 /\ ((∃ ρ2, ac (aD Φ body sc ρ1) (.nx ρ2) /\ ak l ρ2) \/ ∃ r, ac (aD Φ body sc ρ1) (.rt r) /\ R r)) (rest : ∀ ρ', ak [] ρ' -> ∃ r, ac (aD Φ ss sc ρ') (.rt r) /\ R r) (hd : items d = some ds := by rfl) (hk : k <= 1 := by first | exact Nat.le_refl 1 | exact Nat.zero_le 1) (ht : dZ it tg = true := by rfl) : ∃ r, ac (aD Φ (.For tg it body [] p :: ss) sc ρ) (.rt r) /\ R r := by
  rcases uq (bind := bN sc tg) (body := aD Φ body sc) ak R (fun d l ρ h => by
    obtain ⟨ρ1, a, b⟩ := step d l ρ h
    rcases b with ⟨ρ2, b, c⟩ | ⟨r, b, c⟩
    . exact ⟨ρ1, a, .inl ⟨ρ2, .inl b, c⟩⟩
    . exact ⟨ρ1, a, .inr ⟨r, b, c⟩⟩) h0 with ⟨ρ', h1, h2⟩ | ⟨r, h1, h2⟩
  . obtain ⟨r, h3, h4⟩ := rest ρ' h2
    exact ⟨r, bI (kz hi hd hk ht h1) h3, h4⟩
  . exact ⟨r, d8 (kz hi hd hk ht h1), h2⟩
theorem cz {a b : Expr} {op : CmpOp} {p : Pos} {it : Bool} {x y : D} {k j : Nat} {r : Bool} (ha : ac (aA Φ a false sc ρ) (x, k)) (hb : ac (aA Φ b false sc ρ) (y, j)) (h : ac (gz op x y) r) : ac (aA Φ (.Compare a [op] [b] p) it sc ρ) (.bl r, 0) :=
  ac.bnd ha (ac.bnd hb (ac.bnd h cC))
theorem dl {op : BoolOp} {e : Expr} {es : List Expr} {p : Pos} {it : Bool} {b : Bool} (h : ac (dG Φ op (e :: es) sc ρ) b) : ac (aA Φ (.BoolOp op (e :: es) p) it sc ρ) (.bl b, 0) := by
  rw [ph, if_neg (show ¬ (List.isEmpty (e :: es) = true) from Bool.false_ne_true)]; exact ac.bnd h cC
theorem gS {e : Expr} {es : List Expr} {b c : Bool} {k : Nat} (h : ac (aA Φ e false sc ρ) (.bl b, k)) (h1 : b = true -> ac (dG Φ .And es sc ρ) c) (h2 : b = false -> c = false) : ac (dG Φ .And (e :: es) sc ρ) c := ac.bnd h (iO rfl (sJ h1 h2))
theorem sg {e : Expr} {es : List Expr} {b c : Bool} {k : Nat} (h : ac (aA Φ e false sc ρ) (.bl b, k)) (h1 : b = false -> ac (dG Φ .Or es sc ρ) c) (h2 : b = true -> c = true) : ac (dG Φ .Or (e :: es) sc ρ) c := ac.bnd h (iO rfl (uY h1 h2))
theorem oh {e : Expr} {es : List Expr} {c : Bool} {k : Nat} (h : ac (aA Φ e false sc ρ) (.bl true, k)) (h1 : ac (dG Φ .And es sc ρ) c) : ac (dG Φ .And (e :: es) sc ρ) c := gS h (fun _ => h1) fun z => by cases z
theorem db {e : Expr} {es : List Expr} {c : Bool} {k : Nat} (h : ac (aA Φ e false sc ρ) (.bl false, k)) (h1 : ac (dG Φ .Or es sc ρ) c) : ac (dG Φ .Or (e :: es) sc ρ) c := sg h (fun _ => h1) fun z => by cases z
theorem oj : ac (dG Φ .And [] sc ρ) true := cC
theorem fu : ac (dG Φ .Or [] sc ρ) false := cC
theorem ac.bl {r : R1} {b c : Bool} {k : Nat} (h : ac r (.bl b, k)) (e : b = c) : ac r (.bl c, k) := e ▸ h
theorem ol {es : List Expr} {n : Nat} {p : Pos} {it : Bool} {ds : List D} {k : Nat} (h : ac (cx Φ es sc ρ) (ds, k)) (hl : ds.length <= bE) : ac (aA Φ (.Tuple es n p) it sc ρ) (.tup ds, kn (.tup ds) k) := ac.bnd h (by dsimp only; rw [if_pos hl]; exact cC)
theorem E9 {es : List Expr} {p : Pos} {it : Bool} {ds : List D} {k : Nat} (h : ac (cx Φ es sc ρ) (ds, k)) (hl : ds.length <= bE /\ k <= 1) : ac (aA Φ (.List es p) it sc ρ) (.lst ds, k) := ac.bnd h (by dsimp only; rw [if_pos hl]; exact cC)
theorem mY {a : Expr} {lo hi : Option Expr} {p p2 : Pos} {it : Bool} {x : D} {k : Nat} {l h : Option Int} {r : D × Nat} (ha : ac (aA Φ a false sc ρ) (x, k)) (hl : ac (mD Φ lo sc ρ) l) (hh : ac (mD Φ hi sc ρ) h) (hr : ac (Φ.slf x l h) r) : ac (aA Φ (.Subscript a (.Slice lo hi none p2) p) it sc ρ) r := ac.bnd ha (ac.bnd hl (ac.bnd hh hr))
theorem qU {l : List D} {lo hi : Option Int} (h : am l = true) : ac (aR (.lst l) lo hi) (.lst (fM l lo hi), 0) := ⟨_, rfl, h, True.intro⟩
theorem mZ {α : Type} {elt tg iter : Expr} {scope : Scope} {p : Pos} {it : Bool} {d : D} {g f : α -> D} {l : List α} {k : Nat} (hi : ac (aA Φ iter true sc ρ) (d, k)) (hd : items d = some (l.map g)) (hl : l.length <= bE) (hk : am (l.map g) = true \/ k <= 1)
    (h : ∀ x ∈ l, ∃ ρ', bN scope tg (g x) (flt scope ρ) = some ρ' /\ ac (aA Φ elt false scope ρ') (f x, 0)) (hc : mG sc scope = true := by rfl) (ht : dZ iter tg = true := by rfl) : ac (aA Φ (.ListComp elt [⟨tg, iter, [], 0⟩] scope p) it sc ρ) (.lst (l.map f), 0) := by
  refine uu hi hd ⟨by rw [List.length_map]; exact hl, hk⟩ (pY fun x hx => ?_) (Nat.zero_le _) hc ht
  obtain ⟨ρ', h1, h2⟩ := h x hx
  rw [h1]
  refine ac.bnd (a := true) cC ?_
  rw [cond_true]
  exact ac.bnd h2 cC
end
theorem Mt {us : List Value} (h : us.length = 0) : us = [] := List.eq_nil_of_length_eq_zero h
theorem e7 {us : List Value} (h : us.length = 1) : ∃ a, us = [a] := List.length_eq_one_iff.mp h
theorem Es {us : List Value} {n : Nat} (h : us.length = n + 1) : ∃ a r, us = a :: r /\ r.length = n := by
  cases us with
  | nil => cases h
  | cons a r => exact ⟨a, r, rfl, by simpa using h⟩
theorem eN {us : List Value} (h : us.length = 2) : ∃ a b, us = [a, b] := by
  obtain ⟨a, r, e1, h1⟩ := Es h; subst e1; obtain ⟨b, rfl⟩ := e7 h1; exact ⟨a, b, rfl⟩
theorem iK {us : List Value} (h : us.length = 3) : ∃ a b c, us = [a, b, c] := by
  obtain ⟨a, r, e1, h1⟩ := Es h; subst e1; obtain ⟨b, c, rfl⟩ := eN h1; exact ⟨a, b, c, rfl⟩
end Sp
namespace Qm
def oK (a b c d : Int) : Prop := ∃ e x y z w : Int, (e = 0 \/ e = 1) /\ a = 2 * x + e /\ b = 2 * y + e /\ c = 2 * z + e /\ d = 2 * w + e
theorem rk {P Q R S k1 k2 k3 : Int} (h1 : Q = P + 2 * k1) (h2 : R = P + 2 * k2) (h3 : S = P + 2 * k3) : oK P Q R S :=
  ⟨P % 2, P / 2, P / 2 + k1, P / 2 + k2, P / 2 + k3, by omega, by omega, by omega, by omega, by omega⟩
theorem par_fmod {a b c d : Int} (h : oK a b c d) : b.fmod 2 = a.fmod 2 /\ c.fmod 2 = a.fmod 2 /\ d.fmod 2 = a.fmod 2 := by
  obtain ⟨e, x, y, z, w, he, rfl, rfl, rfl, rfl⟩ := h
  simp only [Int.fmod_eq_emod_of_nonneg _ (show (0 : Int) <= 2 by decide)]
  omega
theorem D2 {a b c d : Int} (h : oK a b c d) : ∃ t, a * a + (b * b + (c * c + (d * d + 0))) = 4 * t := by
  obtain ⟨e, x, y, z, w, he, rfl, rfl, rfl, rfl⟩ := h
  rcases he with rfl | rfl
  . exact ⟨x * x + y * y + z * z + w * w, by grind⟩
  . exact ⟨x * x + y * y + z * z + w * w + x + y + z + w + 1, by grind⟩
theorem fd4 (t : Int) : (4 * t).fdiv 4 = t := by rw [Int.fdiv_eq_ediv_of_nonneg _ (by decide)]; omega
theorem fd2 (t : Int) : (2 * t).fdiv 2 = t := by rw [Int.fdiv_eq_ediv_of_nonneg _ (by decide)]; omega
theorem yq {a b c d e f g h : Int} (h1 : oK a b c d) (h2 : oK e f g h) : ∃ P Q R S, a * e - b * f - c * g - d * h = 2 * P /\ a * f + b * e + c * h - d * g = 2 * Q /\ a * g - b * h + c * e + d * f = 2 * R /\ a * h + b * g - c * f + d * e = 2 * S /\ oK P Q R S := by
  obtain ⟨s, x1, x2, x3, x4, _, rfl, rfl, rfl, rfl⟩ := h1
  obtain ⟨u, y1, y2, y3, y4, _, rfl, rfl, rfl, rfl⟩ := h2
  refine ⟨2 * (x1 * y1 - x2 * y2 - x3 * y3 - x4 * y4) + u * (x1 - x2 - x3 - x4) + s * (y1 - y2 - y3 - y4) - s * u,
    2 * (x1 * y2 + x2 * y1 + x3 * y4 - x4 * y3) + u * (x1 + x2 + x3 - x4) + s * (y2 + y1 + y4 - y3) + s * u,
    2 * (x1 * y3 - x2 * y4 + x3 * y1 + x4 * y2) + u * (x1 - x2 + x3 + x4) + s * (y3 - y4 + y1 + y2) + s * u,
    2 * (x1 * y4 + x2 * y3 - x3 * y2 + x4 * y1) + u * (x1 + x2 - x3 + x4) + s * (y4 + y3 - y2 + y1) + s * u, by grind, by grind, by grind, by grind, ?_⟩
  refine rk (k1 := (x1 * y2 + x2 * y1 + x3 * y4 - x4 * y3) - (x1 * y1 - x2 * y2 - x3 * y3 - x4 * y4) + u * (x2 + x3) + s * (y2 + y4) + s * u)
    (k2 := (x1 * y3 - x2 * y4 + x3 * y1 + x4 * y2) - (x1 * y1 - x2 * y2 - x3 * y3 - x4 * y4) + u * (x3 + x4) + s * (y3 + y2) + s * u)
    (k3 := (x1 * y4 + x2 * y3 - x3 * y2 + x4 * y1) - (x1 * y1 - x2 * y2 - x3 * y3 - x4 * y4) + u * (x2 + x4) + s * (y4 + y3) + s * u) ?_ ?_ ?_ <;> grind
theorem HM (a b c d e f g h : Int) : (a * e - b * f - c * g - d * h) * (a * e - b * f - c * g - d * h) + ((a * f + b * e + c * h - d * g) * (a * f + b * e + c * h - d * g) + ((a * g - b * h + c * e + d * f) * (a * g - b * h + c * e + d * f) + ((a * h + b * g - c * f + d * e) * (a * h + b * g - c * f + d * e) + 0))) =
    (a * a + (b * b + (c * c + (d * d + 0)))) * (e * e + (f * f + (g * g + (h * h + 0)))) := by grind
theorem cf {p P : Int} (h : p = 2 * P) : p.fdiv 2 = P := by rw [h, fd2]
end Qm
namespace K
open PySem L2 Sp
structure Dc (α : Type) where
  dec : D -> Option α
  enc : α -> D
  ok : ∀ x a, dec x = some a -> x = enc a
def dI : Dc Int := ⟨fun | .int i => some i | _ => none, .int, fun x a h => by cases x <;> cases h; rfl⟩
def dL : Dc (List D) := ⟨fun | .lst i => some i | _ => none, .lst, fun x a h => by cases x <;> cases h; rfl⟩
def qR {α : Type} (A : Dc α) (f : α -> Rs D) : List D -> Rs D
  | [x] => (match A.dec x with | some a => f a | none => .st)
  | _ => .st
def nC {α β : Type} (A : Dc α) (B : Dc β) (f : α -> β -> Rs D) : List D -> Rs D
  | [x, y] => (match A.dec x with | some a => (match B.dec y with | some b => f a b | none => .st) | none => .st)
  | _ => .st
def qQ {α β γ : Type} (A : Dc α) (B : Dc β) (C : Dc γ) (f : α -> β -> γ -> Rs D) : List D -> Rs D
  | [x, y, z] => (match A.dec x with | some a => (match B.dec y with | some b => (match C.dec z with | some c => f a b c | none => .st) | none => .st) | none => .st)
  | _ => .st
theorem i8 {α β : Type} {A : Dc α} {x : D} {f : α -> Rs β} {r : β} (h : ac (match A.dec x with | some a => f a | none => .st) r) : ∃ a, x = A.enc a /\ ac (f a) r := by
  split at h
  . rename_i a e; exact ⟨a, A.ok _ _ e, h⟩
  . exact (ar h).elim
theorem iV {α : Type} {A : Dc α} {f : α -> Rs D} {ds : List D} {r : D} (h : ac (qR A f ds) r) : ∃ a, ds = [A.enc a] /\ ac (f a) r := by
  unfold qR at h
  split at h
  . obtain ⟨a, e1, h1⟩ := i8 h; exact ⟨a, by rw [e1], h1⟩
  . exact (ar h).elim
theorem fE {α β : Type} {A : Dc α} {B : Dc β} {f : α -> β -> Rs D} {ds : List D} {r : D} (h : ac (nC A B f ds) r) : ∃ a b, ds = [A.enc a, B.enc b] /\ ac (f a b) r := by
  unfold nC at h
  split at h
  . obtain ⟨a, e1, h1⟩ := i8 h
    obtain ⟨b, e2, h2⟩ := i8 h1
    exact ⟨a, b, by rw [e1, e2], h2⟩
  . exact (ar h).elim
theorem iU {α β γ : Type} {A : Dc α} {B : Dc β} {C : Dc γ} {f : α -> β -> γ -> Rs D} {ds : List D} {r : D} (h : ac (qQ A B C f ds) r) : ∃ a b c, ds = [A.enc a, B.enc b, C.enc c] /\ ac (f a b c) r := by
  unfold qQ at h
  split at h
  . obtain ⟨a, e1, h1⟩ := i8 h
    obtain ⟨b, e2, h2⟩ := i8 h1
    obtain ⟨c, e3, h3⟩ := i8 h2
    exact ⟨a, b, c, by rw [e1, e2, e3], h3⟩
  . exact (ar h).elim
def Ps : D -> Int
  | .int i => i
  | _ => 0
def nA (l : List D) : List Int := l.map Ps
theorem nu (ns : List Int) : nA (ns.map D.int) = ns := by
  induction ns with
  | nil => rfl
  | cons n ns ih => show n :: nA (ns.map D.int) = _; rw [ih]
def Eh (l : List D) : Prop := ∃ ns : List Int, l = ns.map D.int
def kD (ns : List Int) (k : Int) : Int := if ns = [] then 0 else ns.getD (k.fmod ns.length).toNat 0
def AG (ns : List Int) (k : Int) : Int :=
  (kD ns k).fdiv 2147483647 * 2147483647 + ((((kD ns k).fmod 2147483647 + 7919 * k + 1) * 48271).fmod 2147483647 * 69621 + k).fmod 2147483647
def ig (l : List D) (k : Int) : Int := AG (nA l) k
abbrev t4 (a b c d : Int) : D := .tup [.int a, .int b, .int c, .int d]
abbrev Qd := Int × Int × Int × Int
def dq (q : Qd) : D := t4 q.1 q.2.1 q.2.2.1 q.2.2.2
def q4 : D -> Option Qd
  | .tup [.int a, .int b, .int c, .int d] => some (a, b, c, d)
  | _ => none
theorem Hf (x : D) (q : Qd) (h : q4 x = some q) : x = dq q := by
  unfold q4 at h
  split at h
  . cases h; rfl
  . cases h
def dQ : Dc Qd := ⟨q4, dq, Hf⟩
abbrev dm (q : Qd) : Prop := q.1.natAbs < cX /\ q.2.1.natAbs < cX /\ q.2.2.1.natAbs < cX /\ q.2.2.2.natAbs < cX
theorem cV {α : Type} {G : α -> D} (h : ∀ x, (G x).lless = true) : ∀ l : List α, am (l.map G) = true
  | [] => rfl
  | x :: l => by rw [List.map_cons, am, h x, cV h l]; rfl
@[simp] theorem eV (a b : Int) : cA (.int a) (.int b) = decide (a = b) := by
  show (a == b) = _
  rw [Bool.eq_iff_iff]; simp
@[simp] theorem fS (p q : Qd) : cA (dq p) (dq q) = decide (p = q) := by
  show (p.1 == q.1 && (p.2.1 == q.2.1 && (p.2.2.1 == q.2.2.1 && (p.2.2.2 == q.2.2.2 && true)))) = _
  obtain ⟨a, b, c, d⟩ := p; obtain ⟨e, f, g, h⟩ := q
  rw [Bool.eq_iff_iff]; simp
theorem cI (qs : List Qd) : am (qs.map dq) = true := by
  induction qs with
  | nil => rfl
  | cons n ns ih => rw [List.map_cons, am, ih]; rfl
end K
namespace Sp
open PySem PySem.Spec PyProof.Rows L2
open AutoSeq1 (wpAny_loadPart')
section
variable {prog : Program} {w : World} {A : Around} {E : Value -> Shared -> Prop} {s : Shared}
variable {n l1 l2 l3 : Nat} {xs ys ws : Array Value} {k : Nat} {x y u : Value} {f0 f1 : Value}
end
end Sp
namespace Sp
open PySem PySem.Spec PyProof.Rows L2
open AutoSeq1 (wpAny_loadPart')
section
variable {prog : Program} {w : World} {A : Around} {E : Value -> Shared -> Prop} {s : Shared}
end
end Sp
namespace Sp
open PySem PySem.Spec PyProof.Rows L2
section
variable {prog : Program} {w : World} {A : Around} {E : Value -> Shared -> Prop} {s : Shared}
abbrev rE (acc : Array Value) (c : Nat) : Obj := { cls := .type "list", dict := none, data := .seq acc c, slots := #[] }
theorem ug {S I : Addr} {res : Value} {R : Result -> Shared -> Prop} (h : wpAny (model prog w) A.in1 (pyNext (.ref I)) (fun r s' => match r with
      | some v => ∃ acc c, s'.heap.get? S = some (rE acc c) /\ acc.size + 1 <= sizeLine /\ ∀ h2 c2, h2.get? S = some (rE (acc.push v) c2) -> Heap.SameBut S s'.heap h2 -> codeAny (model prog w) A (.builtin "list.extend.loop" ⟨[.ref S, .ref I, res], []⟩) R { s' with heap := h2 }
      | none => R (.ok (.ret res)) s') (fun e s' => R (.error e) s') s) : codeAny (model prog w) A (.builtin "list.extend.loop" ⟨[.ref S, .ref I, res], []⟩) R s := by
  refine codeAny_builtin F.entry_extend_loop ?_
  rw [Around.under_plainId F.plain_extend_loop _]
  show wpAny _ A.in1 (pyNext (.ref I) >>= _) _ _ s
  refine wpAny_bind (wpAny_mono h (fun r s' hr => ?_) fun _ _ z => z)
  cases r with
  | none => exact wpAny_pure hr
  | some v =>
    obtain ⟨acc, c, hS, hz, k⟩ := hr
    show wpAny _ A.in1 (updateSeq S (·.push v) >>= _) _ _ _
    refine wpAny_bind (wpAny_updateSeq hS rfl (wpAny_pure ⟨plainId_quiet F.plain_extend_loop _, k _ _ (Heap.get?_update_self _ hS rfl) (Heap.SameBut.update ..)⟩) ?_ ?_)
    . omega
    . show (acc.push v).size <= sizeLine + 1
      rw [Array.size_push]; omega
end
end Sp
namespace Sp
open PySem PySem.Spec PyProof.Rows L2
variable {X : Cx}
theorem yP {P : Program} {w : World} {H : Hp} {h : Heap} {b : Addr} {o : HO} (x : dH P w H h) (hb : H b = none) (new : cg P w (bh H b o) h b o) : dH P w (bh H b o) h := fun c u e => by
  by_cases hc : c = b
  . subst hc; rw [aU] at e; cases e; exact new
  . rw [aO hc] at e
    exact (x c u e).stay (fun d v _ r => r) (fun d r => by rw [aO (bH r hb)]; exact r) (fun d xs r => by rw [aO (bH r hb)]; exact r)
theorem A0 {fs ex : List Addr} {H H' : Hp} {h h' : Heap} (k : ∀ b u, h.get? b = some u -> h'.get? b = some u) (hH : ∀ c, c < h.objs.size -> H' c = H c) (hin : ∀ c o, H c = some o -> c < h.objs.size) : Un fs ex H H' h h' where
  keep := fun b u q _ _ _ => k b u q
  slot := fun b u q _ _ _ => ⟨u.slots, k b u q⟩
  free := fun b u q n _ => (hH b (Heap.lt_size q)).trans n
  there := fun b u q _ => ⟨u, k b u q⟩
  tups := fun b xs r => (hH b (hin b _ r)).trans r
  frzs := fun b o u r => (hH b (hin b _ r)).trans r
  tbls := fun b ps r => ⟨#[], by rw [Array.append_empty]; exact (hH b (hin b _ r)).trans r⟩
theorem tU {Φ : Fx} {sc : Scope} {H0 : Hp} {fl : Fl} {rest : List Stmt} (G : bg Φ X sc) (hp : PassesOwn (model X.prog X.w) X.A X.env X.xe) : ∀ {pre : List Stmt} {ρ ρ1 : aj}, ac (aD Φ pre sc ρ) (.nx ρ1) -> jf X H0 ρ1 rest fl -> jf X H0 ρ (pre ++ rest) fl
  | [], ρ, ρ1, h, k => by cases aP h; exact k
  | st :: ss, ρ, ρ1, h, k => by
    obtain ⟨f1, h1, h2⟩ := av (show ac (Rs.bnd _ _) _ from h)
    cases f1 with
    | nx ρ' => exact qO ((nU Φ _).s st (Nat.lt_succ_self _) h1 G hp) (tU G hp h2 k)
    | rt d => cases aP h2
    | bk ρ' => cases aP h2
    | ct ρ' => cases aP h2
theorem EQ {P : Program} {w : World} {K : W.Frag} {mg : Str -> Option Value} {base : Heap} {k : Nat} {g : Str} {f : Addr} {fd : FuncData} {ps : List Str} {F : List D -> Rs D} (h : cR P w K mg base gk k f fd ps (jV K F)) (hm : mg g = some (.ref f)) (hk : W.keepIn K (.ref f) = true) (hb : cW K fd ps []) (hd : (g == ("__debug__" : Str)) = false) : cj P w K mg base k g F :=
  ⟨f, fd, ps, h, hm, hk, hb, hd⟩
end Sp
namespace Sp
open PySem PySem.Spec PyProof.Rows L2
variable {X : Cx}
end Sp
namespace Sp
open PySem PySem.Spec PyProof.Rows L2
variable {Φ : Fx} {sc : Scope} {ρ ρ' : aj} {fl : Fl} {ss : List Stmt}
theorem r8 {x : Str} {i e : Expr} {p1 p2 q : Pos} {l l' : List D} {d : D} {j : Int} {k k2 : Nat} (hx : ρ x = some (.lst l, true)) (h : ac (aA Φ e false sc ρ) (d, k)) (hi : ac (aA Φ i false sc ρ) (.int j, k2)) (hs : gX l j d = some l') (hl : am l = true) (hd : d.lless = true) (ht : Dq e = true := by rfl) (hn : gF x = true := by rfl) :
    ac (dC Φ (.Assign [.Subscript (.Name x p1) i p2] e q) sc ρ) (.nx (bT ρ x (.lst l', true))) := by
  refine ac.bnd h (ac.bnd hi ?_)
  show ac (mN _ _ _ _) _
  unfold mN
  rw [hx]; dsimp only; rw [if_pos hn, hs]
  exact ⟨_, rfl, hl, hd, True.intro⟩
theorem om {c a b : Expr} {p : Pos} {it : Bool} {t : Bool} {k : Nat} {r : D × Nat} (hc : ac (aA Φ c false sc ρ) (.bl t, k)) (h1 : t = true -> ac (aA Φ a false sc ρ) r) (h2 : t = false -> ac (aA Φ b false sc ρ) r) : ac (aA Φ (.IfExp c a b p) it sc ρ) r := by
  refine ac.bnd hc (iO rfl (Av ?_))
  cases t with
  | true => exact h1 rfl
  | false => exact h2 rfl
theorem qG {test : aj -> Rs Bool} {body : aj -> Rs Fl} (ak : Nat -> aj -> Prop) (step : ∀ m ρ, ak m ρ -> ∃ b, ac (test ρ) b /\ (b = true -> ∃ m' ρ2, m' < m /\ ac (body ρ) (.nx ρ2) /\ ak m' ρ2)) : ∀ {n m : Nat} {ρ : aj}, ak m ρ -> m < n -> ∃ m' ρ', ac (mv test body n ρ) (.nx ρ') /\ ak m' ρ' /\ ac (test ρ') false := by
  intro n
  induction n with
  | zero => intro m ρ _ h; omega
  | succ n ih =>
    intro m ρ hi hm
    obtain ⟨b, hb, h⟩ := step m ρ hi
    cases b with
    | false => exact ⟨m, ρ, ac.bnd hb cC, hi, hb⟩
    | true =>
      obtain ⟨m', ρ2, h1, h2, h3⟩ := h rfl
      obtain ⟨m2, ρ3, h4, h5, h6⟩ := ih h3 (show m' < n by omega)
      exact ⟨m2, ρ3, ac.bnd hb (ac.bnd h2 h4), h5, h6⟩
theorem jS {c : Expr} {body : List Stmt} {p : Pos} {m : Nat} (ak : Nat -> aj -> Prop) (h0 : ak m ρ) (hm : m < bE)
    (step : ∀ m ρ, ak m ρ -> ∃ b k, ac (aA Φ c false sc ρ) (.bl b, k) /\ (b = true -> ∃ m' ρ2, m' < m /\ ac (aD Φ body sc ρ) (.nx ρ2) /\ ak m' ρ2)) (rest : ∀ m ρ', ak m ρ' -> (∃ k, ac (aA Φ c false sc ρ') (.bl false, k)) -> ac (aD Φ ss sc ρ') fl) : ac (aD Φ (.While c body [] p :: ss) sc ρ) fl := by
  obtain ⟨m', ρ', h1, h2, h3⟩ := qG (test := fun ρ => (aA Φ c false sc ρ).bnd fun p => iB p fun b => .ok b []) (body := aD Φ body sc) ak (fun m ρ h => by
    obtain ⟨b, k, a1, a2⟩ := step m ρ h
    exact ⟨b, a1.bnd (iO rfl cC), a2⟩) h0 hm
  obtain ⟨q, h4, h5⟩ := av h3
  obtain ⟨t, ht, h5⟩ := fZ h5
  cases aP h5
  obtain ⟨q1, q2⟩ := q
  have ht : q1 = .bl false := ht
  subst ht
  exact bI (r6 h1) (rest m' ρ' h2 ⟨q2, h4⟩)
theorem lg {m m' : Nat} {A : aj -> Prop} {P : Nat -> aj -> Prop} (h : m' < m) (k : ∃ ρ2, A ρ2 /\ P m' ρ2) : ∃ m' ρ2, m' < m /\ A ρ2 /\ P m' ρ2 := by
  obtain ⟨ρ2, a, b⟩ := k
  exact ⟨m', ρ2, h, a, b⟩
end Sp
namespace K
open PySem L2 Sp
def K1 (p q : Qd) : Qd :=
  (p.1 * q.1 - p.2.1 * q.2.1 - p.2.2.1 * q.2.2.1 - p.2.2.2 * q.2.2.2, p.1 * q.2.1 + p.2.1 * q.1 + p.2.2.1 * q.2.2.2 - p.2.2.2 * q.2.2.1,
    p.1 * q.2.2.1 - p.2.1 * q.2.2.2 + p.2.2.1 * q.1 + p.2.2.2 * q.2.1, p.1 * q.2.2.2 + p.2.1 * q.2.2.1 - p.2.2.1 * q.2.1 + p.2.2.2 * q.1)
theorem oA {p q : Qd} (h : dm p) (g : dm q) : (bK p.1 q.1 /\ bK p.2.1 q.2.1 /\ bK p.2.2.1 q.2.2.1 /\ bK p.2.2.2 q.2.2.2) /\ (bK p.1 q.2.1 /\ bK p.2.1 q.1 /\ bK p.2.2.1 q.2.2.2 /\ bK p.2.2.2 q.2.2.1) /\ (bK p.1 q.2.2.1 /\ bK p.2.1 q.2.2.2 /\ bK p.2.2.1 q.1 /\ bK p.2.2.2 q.2.1) /\ (bK p.1 q.2.2.2 /\ bK p.2.1 q.2.2.1 /\ bK p.2.2.1 q.2.1 /\ bK p.2.2.2 q.1) :=
  ⟨⟨bV h.1 g.1, bV h.2.1 g.2.1, bV h.2.2.1 g.2.2.1, bV h.2.2.2 g.2.2.2⟩, ⟨bV h.1 g.2.1, bV h.2.1 g.1, bV h.2.2.1 g.2.2.2, bV h.2.2.2 g.2.2.1⟩, ⟨bV h.1 g.2.2.1, bV h.2.1 g.2.2.2, bV h.2.2.1 g.1, bV h.2.2.2 g.2.1⟩, ⟨bV h.1 g.2.2.2, bV h.2.1 g.2.2.1, bV h.2.2.1 g.2.1, bV h.2.2.2 g.1⟩⟩
end K
namespace K
open PySem L2 Sp
theorem Mn (q : Qd) : ac (gz .NotEq (dq q) (dq q)) false := by
  refine (bR rfl (by exact ⟨rfl, True.intro⟩)).eq ?_
  show (!(q.1 == q.1 && (q.2.1 == q.2.1 && (q.2.2.1 == q.2.2.1 && (q.2.2.2 == q.2.2.2 && true))))) = _
  simp
theorem Hv (qs : List Qd) : PyData.canLayAll0 (cF (qs.map dq)) = true := by
  induction qs with
  | nil => rfl
  | cons q qs ih => rw [List.map_cons, cF, PyData.canLayAll0, ih]; rfl
theorem HS (q : Qd) : PyData.depth (dq q).py = 1 := by
  simp [dq, D.py, cF, PyData.depth, PyData.depthAll]
theorem HU (qs : List Qd) : PyData.depthAll (cF (qs.map dq)) <= 1 := by
  induction qs with
  | nil => simp [cF, PyData.depthAll]
  | cons q qs ih => rw [List.map_cons, cF, PyData.depthAll, HS]; omega
end K
namespace K
open PySem L2 Sp Qm
abbrev bd (a b c d : Int) : Prop := a.natAbs < cX /\ b.natAbs < cX /\ c.natAbs < cX /\ d.natAbs < cX
theorem HY {a b c d e f g h x y z w P Q R S P2 Q2 R2 S2 U V W X P3 Q3 R3 S3 : Int}
    (hP : a * e - b * f - c * g - d * h = 2 * P) (hQ : a * f + b * e + c * h - d * g = 2 * Q) (hR : a * g - b * h + c * e + d * f = 2 * R) (hS : a * h + b * g - c * f + d * e = 2 * S)
    (kP : P * x - Q * y - R * z - S * w = 2 * P2) (kQ : P * y + Q * x + R * w - S * z = 2 * Q2) (kR : P * z - Q * w + R * x + S * y = 2 * R2) (kS : P * w + Q * z - R * y + S * x = 2 * S2)
    (hU : e * x - f * y - g * z - h * w = 2 * U) (hV : e * y + f * x + g * w - h * z = 2 * V) (hW : e * z - f * w + g * x + h * y = 2 * W) (hX : e * w + f * z - g * y + h * x = 2 * X)
    (lP : a * U - b * V - c * W - d * X = 2 * P3) (lQ : a * V + b * U + c * X - d * W = 2 * Q3) (lR : a * W - b * X + c * U + d * V = 2 * R3) (lS : a * X + b * W - c * V + d * U = 2 * S3) :
    P2 = P3 /\ Q2 = Q3 /\ R2 = R3 /\ S2 = S3 := by
  have e1 : 4 * P2 = (2 * P) * x - (2 * Q) * y - (2 * R) * z - (2 * S) * w := by grind
  have e2 : 4 * Q2 = (2 * P) * y + (2 * Q) * x + (2 * R) * w - (2 * S) * z := by grind
  have e3 : 4 * R2 = (2 * P) * z - (2 * Q) * w + (2 * R) * x + (2 * S) * y := by grind
  have e4 : 4 * S2 = (2 * P) * w + (2 * Q) * z - (2 * R) * y + (2 * S) * x := by grind
  have f1 : 4 * P3 = a * (2 * U) - b * (2 * V) - c * (2 * W) - d * (2 * X) := by grind
  have f2 : 4 * Q3 = a * (2 * V) + b * (2 * U) + c * (2 * X) - d * (2 * W) := by grind
  have f3 : 4 * R3 = a * (2 * W) - b * (2 * X) + c * (2 * U) + d * (2 * V) := by grind
  have f4 : 4 * S3 = a * (2 * X) + b * (2 * W) - c * (2 * V) + d * (2 * U) := by grind
  rw [<- hP, <- hQ, <- hR, <- hS] at e1 e2 e3 e4
  rw [<- hU, <- hV, <- hW, <- hX] at f1 f2 f3 f4
  clear hP hQ hR hS kP kQ kR kS hU hV hW hX lP lQ lR lS
  have m1 : 4 * P2 = 4 * P3 := by rw [e1, f1]; clear e1 e2 e3 e4 f1 f2 f3 f4; grind
  have m2 : 4 * Q2 = 4 * Q3 := by rw [e2, f2]; clear e1 e2 e3 e4 f1 f2 f3 f4; grind
  have m3 : 4 * R2 = 4 * R3 := by rw [e3, f3]; clear e1 e2 e3 e4 f1 f2 f3 f4; grind
  have m4 : 4 * S2 = 4 * S3 := by rw [e4, f4]; clear e1 e2 e3 e4 f1 f2 f3 f4; grind
  omega
def aq (p q : Qd) : Qd :=
  ((p.1 * q.1 - p.2.1 * q.2.1 - p.2.2.1 * q.2.2.1 - p.2.2.2 * q.2.2.2).fdiv 2, (p.1 * q.2.1 + p.2.1 * q.1 + p.2.2.1 * q.2.2.2 - p.2.2.2 * q.2.2.1).fdiv 2,
    (p.1 * q.2.2.1 - p.2.1 * q.2.2.2 + p.2.2.1 * q.1 + p.2.2.2 * q.2.1).fdiv 2, (p.1 * q.2.2.2 + p.2.1 * q.2.2.1 - p.2.2.1 * q.2.1 + p.2.2.2 * q.1).fdiv 2)
def ao (q : Qd) : Int := (q.1 * q.1 + (q.2.1 * q.2.1 + (q.2.2.1 * q.2.2.1 + (q.2.2.2 * q.2.2.2 + 0)))).fdiv 4
def al (q : Qd) : Prop := oK q.1 q.2.1 q.2.2.1 q.2.2.2
def cT (M : Nat) (q : Qd) : Prop := q.1.natAbs <= M /\ q.2.1.natAbs <= M /\ q.2.2.1.natAbs <= M /\ q.2.2.2.natAbs <= M
def aE : Qd := (2, 0, 0, 0)
theorem ck {p q : Qd} (h : al p) (g : al q) : ∃ P Q R S, p.1 * q.1 - p.2.1 * q.2.1 - p.2.2.1 * q.2.2.1 - p.2.2.2 * q.2.2.2 = 2 * P /\ p.1 * q.2.1 + p.2.1 * q.1 + p.2.2.1 * q.2.2.2 - p.2.2.2 * q.2.2.1 = 2 * Q /\
    p.1 * q.2.2.1 - p.2.1 * q.2.2.2 + p.2.2.1 * q.1 + p.2.2.2 * q.2.1 = 2 * R /\ p.1 * q.2.2.2 + p.2.1 * q.2.2.1 - p.2.2.1 * q.2.1 + p.2.2.2 * q.1 = 2 * S /\ oK P Q R S /\ aq p q = (P, Q, R, S) := by
  obtain ⟨P, Q, R, S, h1, h2, h3, h4, h5⟩ := yq h g
  exact ⟨P, Q, R, S, h1, h2, h3, h4, h5, by unfold aq; rw [cf h1, cf h2, cf h3, cf h4]⟩
theorem cK {p q : Qd} (h : al p) (g : al q) : al (aq p q) := by
  obtain ⟨P, Q, R, S, h1, h2, h3, h4, h5, e⟩ := ck h g
  rw [e]; exact h5
theorem fH : al aE := ⟨0, 1, 0, 0, 0, .inl rfl, rfl, rfl, rfl, rfl⟩
theorem dj {p q r : Qd} (h : al p) (g : al q) (k : al r) : aq (aq p q) r = aq p (aq q r) := by
  obtain ⟨P, Q, R, S, hP, hQ, hR, hS, p1, e1⟩ := ck h g
  obtain ⟨U, V, W, X, hU, hV, hW, hX, p2, e2⟩ := ck g k
  obtain ⟨P2, Q2, R2, S2, kP, kQ, kR, kS, p3, e3⟩ := ck (p := (P, Q, R, S)) p1 k
  obtain ⟨P3, Q3, R3, S3, lP, lQ, lR, lS, p4, e4⟩ := ck (q := (U, V, W, X)) h p2
  rw [e1, e2, e3, e4]
  obtain ⟨q1, q2, q3, q4⟩ := HY hP hQ hR hS kP kQ kR kS hU hV hW hX lP lQ lR lS
  rw [q1, q2, q3, q4]
theorem cG (q : Qd) : aq aE q = q := by
  obtain ⟨a, b, c, d⟩ := q
  show (_, _, _, _) = _
  rw [cf (P := a) (by show 2 * a - 0 * b - 0 * c - 0 * d = _; omega), cf (P := b) (by show 2 * b + 0 * a + 0 * d - 0 * c = _; omega), cf (P := c) (by show 2 * c - 0 * d + 0 * a + 0 * b = _; omega), cf (P := d) (by show 2 * d + 0 * c - 0 * b + 0 * a = _; omega)]
theorem e6 (q : Qd) : aq q aE = q := by
  obtain ⟨a, b, c, d⟩ := q
  show (_, _, _, _) = _
  rw [cf (P := a) (by show a * 2 - b * 0 - c * 0 - d * 0 = _; omega), cf (P := b) (by show a * 0 + b * 2 + c * 0 - d * 0 = _; omega), cf (P := c) (by show a * 0 - b * 0 + c * 2 + d * 0 = _; omega), cf (P := d) (by show a * 0 + b * 0 - c * 0 + d * 2 = _; omega)]
theorem rZ {qs : List Qd} {p : Qd} (h : al p) (g : ∀ q ∈ qs, al q) : al (qs.foldl aq p) := by
  induction qs generalizing p with
  | nil => exact h
  | cons q qs ih => exact ih (cK h (g q (by simp))) fun r hr => g r (by simp [hr])
theorem cO {p : Qd} (h : al p) : ∃ t, p.1 * p.1 + (p.2.1 * p.2.1 + (p.2.2.1 * p.2.2.1 + (p.2.2.2 * p.2.2.2 + 0))) = 4 * t /\ ao p = t := by
  obtain ⟨t, ht⟩ := D2 h
  exact ⟨t, ht, by unfold ao; rw [ht, fd4]⟩
theorem fC {p q : Qd} (h : al p) (g : al q) : ao (aq p q) = ao p * ao q := by
  obtain ⟨t1, h1, e1⟩ := cO h
  obtain ⟨t2, h2, e2⟩ := cO g
  obtain ⟨t3, h3, e3⟩ := cO (cK h g)
  rw [e1, e2, e3]
  obtain ⟨P, Q, R, S, hP, hQ, hR, hS, p1, e⟩ := ck h g
  rw [e] at h3
  have eu := HM p.1 p.2.1 p.2.2.1 p.2.2.2 q.1 q.2.1 q.2.2.1 q.2.2.2
  rw [hP, hQ, hR, hS, h1, h2] at eu
  have : 4 * (4 * t3) = 4 * (4 * (t1 * t2)) := by rw [<- h3]; clear e h3 e1 e2 e3 h1 h2 hP hQ hR hS p1 h g; grind
  omega
theorem bJ {a e : Int} {M N : Nat} (h : a.natAbs <= M) (g : e.natAbs <= N) : (a * e).natAbs <= M * N := by
  rw [Int.natAbs_mul]; exact Nat.mul_le_mul h g
theorem PK {x y z w P : Int} {K : Nat} (h1 : x.natAbs <= K) (h2 : y.natAbs <= K) (h3 : z.natAbs <= K) (h4 : w.natAbs <= K) (e : x - y - z - w = 2 * P) : P.natAbs <= 2 * K := by omega
theorem PJ {x y z w P : Int} {K : Nat} (h1 : x.natAbs <= K) (h2 : y.natAbs <= K) (h3 : z.natAbs <= K) (h4 : w.natAbs <= K) (e : x + y + z - w = 2 * P) : P.natAbs <= 2 * K := by omega
theorem PH {x y z w P : Int} {K : Nat} (h1 : x.natAbs <= K) (h2 : y.natAbs <= K) (h3 : z.natAbs <= K) (h4 : w.natAbs <= K) (e : x - y + z + w = 2 * P) : P.natAbs <= 2 * K := by omega
theorem PF {x y z w P : Int} {K : Nat} (h1 : x.natAbs <= K) (h2 : y.natAbs <= K) (h3 : z.natAbs <= K) (h4 : w.natAbs <= K) (e : x + y - z + w = 2 * P) : P.natAbs <= 2 * K := by omega
theorem o0 {p q : Qd} {M N : Nat} (h : cT M p) (g : cT N q) (hp : al p) (hq : al q) : cT (2 * (M * N)) (aq p q) := by
  obtain ⟨P, Q, R, S, hP, hQ, hR, hS, p1, e⟩ := ck hp hq
  rw [e]
  obtain ⟨a1, a2, a3, a4⟩ := h
  obtain ⟨b1, b2, b3, b4⟩ := g
  exact ⟨PK (bJ a1 b1) (bJ a2 b2) (bJ a3 b3) (bJ a4 b4) hP, PJ (bJ a1 b2) (bJ a2 b1) (bJ a3 b4) (bJ a4 b3) hQ,
    PH (bJ a1 b3) (bJ a2 b4) (bJ a3 b1) (bJ a4 b2) hR, PF (bJ a1 b4) (bJ a2 b3) (bJ a3 b2) (bJ a4 b1) hS⟩
theorem er {M : Nat} {q : Qd} (h : cT M q) (hM : M < cX) : bd q.1 q.2.1 q.2.2.1 q.2.2.2 :=
  ⟨Nat.lt_of_le_of_lt h.1 hM, Nat.lt_of_le_of_lt h.2.1 hM, Nat.lt_of_le_of_lt h.2.2.1 hM, Nat.lt_of_le_of_lt h.2.2.2 hM⟩
def bG (q : Qd) : Qd := (q.1, -q.2.1, -q.2.2.1, -q.2.2.2)
def bn (p q : Qd) : Qd := (p.1 - q.1, p.2.1 - q.2.1, p.2.2.1 - q.2.2.1, p.2.2.2 - q.2.2.2)
def ci (p q : Qd) : Qd := (p.1 + q.1, p.2.1 + q.2.1, p.2.2.1 + q.2.2.1, p.2.2.2 + q.2.2.2)
def aZ (q : Qd) (n : Int) : Qd := (q.1 * n, q.2.1 * n, q.2.2.1 * n, q.2.2.2 * n)
def aH (s : Bool) (p q : Qd) : Qd := if s = true then aq p q else aq q p
def au : Qd := (0, 0, 0, 0)
theorem cU {p q : Qd} (h1 : p.1 = q.1) (h2 : p.2.1 = q.2.1) (h3 : p.2.2.1 = q.2.2.1) (h4 : p.2.2.2 = q.2.2.2) : p = q := by
  obtain ⟨a, b, c, d⟩ := p
  obtain ⟨e, f, g, h⟩ := q
  cases h1; cases h2; cases h3; cases h4; rfl
theorem Ag {a b x y e f : Int} (h : a = 2 * x + e) (g : b = 2 * y + f) : a - b = 2 * (x - y) + (e - f) := by omega
theorem t5 {a b x y e f : Int} (h : a = 2 * x + e) (g : b = 2 * y + f) : a + b = 2 * (x + y) + (e + f) := by omega
theorem uV {a b c d x y z w : Int} {n : Int} (h1 : a = 2 * x + n) (h2 : b = 2 * y + n) (h3 : c = 2 * z + n) (h4 : d = 2 * w + n) : oK a b c d := by
  have k : ∀ {u v : Int}, u = 2 * v + n -> u = 2 * (v + n / 2) + n % 2 := by omega
  exact ⟨n % 2, _, _, _, _, Int.emod_two_eq n, k h1, k h2, k h3, k h4⟩
theorem DP {a x e : Int} (h : a = 2 * x + e) : -a = 2 * (-x - e) + e := by omega
theorem dJ {q : Qd} (h : al q) : al (bG q) := by
  obtain ⟨e, x, y, z, w, he, h1, h2, h3, h4⟩ := h
  exact ⟨e, x, _, _, _, he, h1, DP h2, DP h3, DP h4⟩
theorem bW {p q : Qd} (h : al p) (g : al q) : al (bn p q) := by
  obtain ⟨e, x, y, z, w, he, h1, h2, h3, h4⟩ := h
  obtain ⟨e', x', y', z', w', he', g1, g2, g3, g4⟩ := g
  exact uV (Ag h1 g1) (Ag h2 g2) (Ag h3 g3) (Ag h4 g4)
theorem fG {p q : Qd} (h : al p) (g : al q) : al (ci p q) := by
  obtain ⟨e, x, y, z, w, he, h1, h2, h3, h4⟩ := h
  obtain ⟨e', x', y', z', w', he', g1, g2, g3, g4⟩ := g
  exact uV (t5 h1 g1) (t5 h2 g2) (t5 h3 g3) (t5 h4 g4)
theorem Ae {a x e : Int} (he : e = 0 \/ e = 1) (h : a = 2 * x + e) : a % 2 = e := by omega
theorem iX {q : Qd} : al q ↔ q.2.1 % 2 = q.1 % 2 /\ q.2.2.1 % 2 = q.1 % 2 /\ q.2.2.2 % 2 = q.1 % 2 := by
  constructor
  . rintro ⟨e, x, y, z, w, he, h1, h2, h3, h4⟩
    rw [Ae he h1, Ae he h2, Ae he h3, Ae he h4]
    exact ⟨rfl, rfl, rfl⟩
  . rintro ⟨h1, h2, h3⟩
    have k : ∀ a : Int, a = 2 * (a / 2) + a % 2 := fun a => (Int.mul_ediv_add_emod a 2).symm
    exact ⟨q.1 % 2, _, _, _, _, Int.emod_two_eq _, k _, by rw [<- h1]; exact k _, by rw [<- h2]; exact k _, by rw [<- h3]; exact k _⟩
theorem Af {a x e n : Int} (h : a = 2 * x + e) : a * n = 2 * (x * n) + e * n := by rw [h, Int.add_mul, Int.mul_assoc]
theorem fg {q : Qd} (n : Int) (h : al q) : al (aZ q n) := by
  obtain ⟨e, x, y, z, w, he, h1, h2, h3, h4⟩ := h
  exact uV (Af h1) (Af h2) (Af h3) (Af h4)
theorem gY : al au := ⟨0, 0, 0, 0, 0, .inl rfl, rfl, rfl, rfl, rfl⟩
theorem bZ {s : Bool} {p q : Qd} (h : al p) (g : al q) : al (aH s p q) := by
  unfold aH; split
  . exact cK h g
  . exact cK g h
theorem kl {a b c P U P3 : Int} (h : a = 2 * P) (g : b = 2 * U) (k : c = 2 * P3) (e : c = a - b) : P3 = P - U := by omega
theorem mB {p r q : Qd} (h : al p) (k : al r) (g : al q) : aq (bn p r) q = bn (aq p q) (aq r q) := by
  obtain ⟨P, Q, R, S, hP, hQ, hR, hS, _, e1⟩ := ck h g
  obtain ⟨U, V, W, X, hU, hV, hW, hX, _, e2⟩ := ck k g
  obtain ⟨P3, Q3, R3, S3, lP, lQ, lR, lS, _, e3⟩ := ck (bW h k) g
  rw [e1, e2, e3]
  simp only [bn] at *
  clear e1 e2 e3 h k g
  refine cU ?_ ?_ ?_ ?_
  . exact kl hP hU lP (by simp only [Int.sub_mul, Int.mul_sub]; omega)
  . exact kl hQ hV lQ (by simp only [Int.sub_mul, Int.mul_sub]; omega)
  . exact kl hR hW lR (by simp only [Int.sub_mul, Int.mul_sub]; omega)
  . exact kl hS hX lS (by simp only [Int.sub_mul, Int.mul_sub]; omega)
theorem mz {p r q : Qd} (h : al p) (k : al r) (g : al q) : aq q (bn p r) = bn (aq q p) (aq q r) := by
  obtain ⟨P, Q, R, S, hP, hQ, hR, hS, _, e1⟩ := ck g h
  obtain ⟨U, V, W, X, hU, hV, hW, hX, _, e2⟩ := ck g k
  obtain ⟨P3, Q3, R3, S3, lP, lQ, lR, lS, _, e3⟩ := ck g (bW h k)
  rw [e1, e2, e3]
  simp only [bn] at *
  clear e1 e2 e3 h k g
  refine cU ?_ ?_ ?_ ?_
  . exact kl hP hU lP (by simp only [Int.sub_mul, Int.mul_sub]; omega)
  . exact kl hQ hV lQ (by simp only [Int.sub_mul, Int.mul_sub]; omega)
  . exact kl hR hW lR (by simp only [Int.sub_mul, Int.mul_sub]; omega)
  . exact kl hS hX lS (by simp only [Int.sub_mul, Int.mul_sub]; omega)
theorem dw (k : Qd) (n : Int) : aq k (2 * n, 0, 0, 0) = aZ k n := by
  obtain ⟨a, b, c, d⟩ := k
  show (_, _, _, _) = (a * n, b * n, c * n, d * n)
  rw [cf (P := a * n) (by show a * (2 * n) - b * 0 - c * 0 - d * 0 = _; grind), cf (P := b * n) (by show a * 0 + b * (2 * n) + c * 0 - d * 0 = _; grind), cf (P := c * n) (by show a * 0 - b * 0 + c * (2 * n) + d * 0 = _; grind), cf (P := d * n) (by show a * 0 + b * 0 - c * 0 + d * (2 * n) = _; grind)]
theorem fQ (k : Qd) (n : Int) : aq (2 * n, 0, 0, 0) k = aZ k n := by
  obtain ⟨a, b, c, d⟩ := k
  show (_, _, _, _) = (a * n, b * n, c * n, d * n)
  rw [cf (P := a * n) (by show 2 * n * a - 0 * b - 0 * c - 0 * d = _; grind), cf (P := b * n) (by show 2 * n * b + 0 * a + 0 * d - 0 * c = _; grind), cf (P := c * n) (by show 2 * n * c - 0 * d + 0 * a + 0 * b = _; grind), cf (P := d * n) (by show 2 * n * d + 0 * c - 0 * b + 0 * a = _; grind)]
theorem fI {q : Qd} (h : al q) : aq q (bG q) = (2 * ao q, 0, 0, 0) /\ aq (bG q) q = (2 * ao q, 0, 0, 0) := by
  obtain ⟨t, ht, e⟩ := cO h
  obtain ⟨a, b, c, d⟩ := q
  rw [e]
  simp only at ht
  constructor
  . show (_, _, _, _) = _
    rw [cf (P := 2 * t) (by show a * a - b * -b - c * -c - d * -d = _; grind), cf (P := 0) (by show a * -b + b * a + c * -d - d * -c = _; grind), cf (P := 0) (by show a * -c - b * -d + c * a + d * -b = _; grind), cf (P := 0) (by show a * -d + b * -c - c * -b + d * a = _; grind)]
  . show (_, _, _, _) = _
    rw [cf (P := 2 * t) (by show a * a - -b * b - -c * c - -d * d = _; grind), cf (P := 0) (by show a * b + -b * a + -c * d - -d * c = _; grind), cf (P := 0) (by show a * c - -b * d + -c * a + -d * b = _; grind), cf (P := 0) (by show a * d + -b * c - -c * b + -d * a = _; grind)]
theorem tQ (q : Qd) : ao (bG q) = ao q := by unfold ao bG; simp only [Int.neg_mul_neg]
theorem eF (x : Int) : 0 <= x * x := by
  rcases Int.le_total 0 x with h | h
  . exact Int.mul_nonneg h h
  . have := Int.mul_nonneg (show 0 <= -x by omega) (show 0 <= -x by omega); rwa [Int.neg_mul_neg] at this
theorem dD {q : Qd} (h : al q) : 0 <= ao q := by
  obtain ⟨t, ht, e⟩ := cO h
  have := eF q.1; have := eF q.2.1; have := eF q.2.2.1; have := eF q.2.2.2
  omega
theorem ln {x : Int} (h : x * x = 0) : x = 0 := by rcases Int.mul_eq_zero.mp h with h | h <;> exact h
theorem mM {q : Qd} (h : al q) (g : ao q = 0) : q = au := by
  obtain ⟨t, ht, e⟩ := cO h
  have := eF q.1; have := eF q.2.1; have := eF q.2.2.1; have := eF q.2.2.2
  exact cU (ln (by omega)) (ln (by omega)) (ln (by omega)) (ln (by omega))
theorem fe {q : Qd} (h : al q) (g : q ≠ au) : 0 < ao q := by
  have := dD h
  have : ao q ≠ 0 := fun z => g (mM h z)
  omega
def gc (x n : Int) : Int := (x + n).fdiv (2 * n) * 2
def gZ (x n : Int) : Int := x.fdiv (2 * n) * 2 + 1
def gG (q : Qd) (n : Int) : Qd := (gc q.1 n, gc q.2.1 n, gc q.2.2.1 n, gc q.2.2.2 n)
def io (q : Qd) (n : Int) : Qd := (gZ q.1 n, gZ q.2.1 n, gZ q.2.2.1 n, gZ q.2.2.2 n)
def fD (q t : Qd) (n : Int) : Int := ao (bn q (aZ t n))
def dM (q : Qd) (n : Int) : Qd := if fD q (gG q n) n <= fD q (io q n) n then gG q n else io q n
theorem iq {x n : Int} (h : 0 < n) : (x - gc x n * n) * (x - gc x n * n) + (x - gZ x n * n) * (x - gZ x n * n) <= n * n := by
  unfold gc gZ
  rw [Int.fdiv_eq_ediv_of_nonneg _ (by omega), Int.fdiv_eq_ediv_of_nonneg _ (by omega)]
  have e := Int.mul_ediv_add_emod x (2 * n)
  have r0 := Int.emod_nonneg x (show 2 * n ≠ 0 by omega)
  have r1 := Int.emod_lt_of_pos x (show 0 < 2 * n by omega)
  generalize x % (2 * n) = r at *
  generalize hk : x / (2 * n) = k at *
  have hx : x = 2 * n * k + r := by omega
  by_cases hr : r < n
  . have hd : (x + n) / (2 * n) = k := by
      rw [hx, show 2 * n * k + r + n = (r + n) + 2 * n * k by omega, Int.add_mul_ediv_left _ _ (by omega), Int.ediv_eq_zero_of_lt (by omega) (by omega)]; omega
    rw [hd]
    have h1 : x - k * 2 * n = r := by rw [hx]; grind
    have h2 : x - (k * 2 + 1) * n = r - n := by rw [hx]; grind
    rw [h1, h2]
    have := Int.mul_nonneg r0 (show 0 <= n - r by omega)
    have e2 : r * r + (r - n) * (r - n) = n * n - 2 * (r * (n - r)) := by grind
    omega
  . have hd : (x + n) / (2 * n) = k + 1 := by
      rw [hx, show 2 * n * k + r + n = (r - n) + 2 * n * (k + 1) by grind, Int.add_mul_ediv_left _ _ (by omega), Int.ediv_eq_zero_of_lt (by omega) (by omega)]; omega
    rw [hd]
    have h1 : x - (k + 1) * 2 * n = r - 2 * n := by rw [hx]; grind
    have h2 : x - (k * 2 + 1) * n = r - n := by rw [hx]; grind
    rw [h1, h2]
    have := Int.mul_nonneg (show 0 <= r - n by omega) (show 0 <= 2 * n - r by omega)
    have e2 : (r - 2 * n) * (r - 2 * n) + (r - n) * (r - n) = n * n - 2 * ((r - n) * (2 * n - r)) := by grind
    omega
theorem oV (q : Qd) (n : Int) : al (gG q n) := ⟨0, (q.1 + n).fdiv (2 * n), (q.2.1 + n).fdiv (2 * n), (q.2.2.1 + n).fdiv (2 * n), (q.2.2.2 + n).fdiv (2 * n), .inl rfl, by simp only [gG, gc]; omega, by simp only [gG, gc]; omega, by simp only [gG, gc]; omega, by simp only [gG, gc]; omega⟩
theorem oU (q : Qd) (n : Int) : al (io q n) := ⟨1, q.1.fdiv (2 * n), q.2.1.fdiv (2 * n), q.2.2.1.fdiv (2 * n), q.2.2.2.fdiv (2 * n), .inr rfl, by simp only [io, gZ]; omega, by simp only [io, gZ]; omega, by simp only [io, gZ]; omega, by simp only [io, gZ]; omega⟩
theorem BO {q : Qd} {n : Int} (h : al q) (g : 0 < n) : al (dM q n) /\ 2 * fD q (dM q n) n <= n * n := by
  have c1 := iq (x := q.1) g
  have c2 := iq (x := q.2.1) g
  have c3 := iq (x := q.2.2.1) g
  have c4 := iq (x := q.2.2.2) g
  obtain ⟨t1, h1, e1⟩ := cO (bW h (fg n (oV q n)))
  obtain ⟨t2, h2, e2⟩ := cO (bW h (fg n (oU q n)))
  have s1 : fD q (gG q n) n = t1 := e1
  have s2 : fD q (io q n) n = t2 := e2
  simp only [bn, aZ, gG, io] at h1 h2
  have : t1 + t2 <= n * n := by omega
  unfold dM
  split
  . exact ⟨oV q n, by rw [s1] at *; omega⟩
  . exact ⟨oU q n, by rw [s2] at *; omega⟩
theorem u5 {k : Qd} {n : Int} (h : al k) (g : 0 < n) : dM (aZ k n) n = k := by
  have hp := fg n h
  obtain ⟨e, x, y, z, w, he, h1, h2, h3, h4⟩ := h
  have ev : ∀ (a b : Int), a = 2 * b -> gc (a * n) n = a := fun a b hab => by
    unfold gc
    rw [Int.fdiv_eq_ediv_of_nonneg _ (by omega), hab, show 2 * b * n + n = n + 2 * n * b by grind, Int.add_mul_ediv_left _ _ (by omega), Int.ediv_eq_zero_of_lt (by omega) (by omega)]; omega
  have od : ∀ (a b : Int), a = 2 * b + 1 -> gZ (a * n) n = a := fun a b hab => by
    unfold gZ
    rw [Int.fdiv_eq_ediv_of_nonneg _ (by omega), hab, show (2 * b + 1) * n = n + 2 * n * b by grind, Int.add_mul_ediv_left _ _ (by omega), Int.ediv_eq_zero_of_lt (by omega) (by omega)]; omega
  have eo : ∀ (a b : Int), a = 2 * b + 1 -> a * n - gc (a * n) n * n = -n := fun a b hab => by
    unfold gc
    rw [Int.fdiv_eq_ediv_of_nonneg _ (by omega), hab, show (2 * b + 1) * n + n = 0 + 2 * n * (b + 1) by grind, Int.add_mul_ediv_left _ _ (by omega), Int.zero_ediv]; grind
  have zz : fD (aZ k n) k n = 0 := by
    unfold fD bn aZ ao
    simp only [Int.sub_self]; decide
  rcases he with rfl | rfl
  . have hev : gG (aZ k n) n = k := cU (ev _ x (by omega)) (ev _ y (by omega)) (ev _ z (by omega)) (ev _ w (by omega))
    unfold dM
    rw [hev, zz, if_pos]
    exact dD (bW hp (fg n (oU _ n)))
  . have hod : io (aZ k n) n = k := cU (od _ x (by omega)) (od _ y (by omega)) (od _ z (by omega)) (od _ w (by omega))
    obtain ⟨t, ht, e⟩ := cO (bW hp (fg n (oV (aZ k n) n)))
    have s1 : fD (aZ k n) (gG (aZ k n) n) n = t := e
    simp only [bn, gG] at ht
    simp only [aZ] at ht
    rw [eo _ x (by omega), eo _ y (by omega), eo _ z (by omega), eo _ w (by omega), Int.neg_mul_neg] at ht
    have := Int.mul_pos g g
    unfold dM
    rw [hod, zz, s1, if_neg (by omega)]
def cP (s : Bool) (p q : Qd) : Qd := dM (aH s p (bG q)) (ao q)
def df (s : Bool) (p q : Qd) : Qd := bn p (aH s (cP s p q) q)
theorem mR {s : Bool} {p q k : Qd} (hp : al p) (hq : al q) (hk : al k) : aH s (bn p (aH s k q)) (bG q) = bn (aH s p (bG q)) (aZ k (ao q)) := by
  have hb := dJ hq
  unfold aH
  cases s with
  | true =>
    simp only [if_true]
    rw [mB hp (cK hk hq) hb, dj hk hq hb, (fI hq).1, dw]
  | false =>
    simp only [Bool.false_eq_true, if_false]
    rw [mz hp (cK hq hk) hb, <- dj hb hq hk, (fI hq).2, fQ]
theorem ff {s : Bool} {p q : Qd} (hp : al p) (hq : al q) : ao (aH s p q) = ao p * ao q := by
  unfold aH
  split
  . exact fC hp hq
  . rw [fC hq hp, Int.mul_comm]
theorem i7 {s : Bool} {p q : Qd} (hp : al p) (hq : al q) (h0 : q ≠ au) : al (cP s p q) /\ al (df s p q) /\ 2 * ao (df s p q) <= ao q := by
  have hn := fe hq h0
  obtain ⟨hk, hs⟩ := BO (bZ (s := s) hp (dJ hq)) hn
  have hr : al (df s p q) := bW hp (bZ hk hq)
  refine ⟨hk, hr, ?_⟩
  have e := ff (s := s) hr (dJ hq)
  rw [tQ] at e
  have e2 : ao (aH s (df s p q) (bG q)) = fD (aH s p (bG q)) (cP s p q) (ao q) := by
    unfold df fD
    rw [mR (k := cP s p q) hp hq hk]
  rw [e] at e2
  have hs' : 2 * (ao (df s p q) * ao q) <= ao q * ao q := by rw [e2]; exact hs
  have h3 : 2 * ao (df s p q) * ao q <= ao q * ao q := by rw [Int.mul_assoc]; exact hs'
  exact Int.le_of_mul_le_mul_right h3 hn
theorem xc {s : Bool} {p q k : Qd} (hp : al p) (hq : al q) (h0 : q ≠ au) (hk : al k) (h : aH s p (bG q) = aZ k (ao q)) : cP s p q = k /\ df s p q = au := by
  have hn := fe hq h0
  have e1 : cP s p q = k := by unfold cP; rw [h, u5 hk hn]
  have hr : al (df s p q) := bW hp (bZ (by rw [e1]; exact hk) hq)
  refine ⟨e1, mM hr ?_⟩
  have e := ff (s := s) hr (dJ hq)
  have e2 := mR (s := s) hp hq hk
  have e3 : aH s (df s p q) (bG q) = au := by
    unfold df
    rw [e1, e2, h]
    unfold bn au
    simp only [Int.sub_self]
  rw [e3, tQ] at e
  have : ao au = 0 := by decide
  rw [this] at e
  rcases Int.mul_eq_zero.mp e.symm with z | z
  . exact z
  . omega
end K
namespace K
open PySem L2 Sp Qm
abbrev wl (q t : Qd) (n : Int) : Prop := dm t /\ n.natAbs < cX /\ dm (bn q (aZ t n))
abbrev yv (q : Qd) (n : Int) : Prop := 0 < n /\ (2 * n).natAbs < cX /\ wl q (gG q n) n /\ wl q (io q n) n
abbrev okD (s : Bool) (p q : Qd) : Prop := dm p /\ dm q /\ dm (bG q) /\ yv (aH s p (bG q)) (ao q) /\ dm (cP s p q)
theorem dN {M N : Nat} {q : Qd} (h : cT M q) (g : M <= N) : cT N q := ⟨Nat.le_trans h.1 g, Nat.le_trans h.2.1 g, Nat.le_trans h.2.2.1 g, Nat.le_trans h.2.2.2 g⟩
theorem uf {M : Nat} {q : Qd} (h : cT M q) : cT M (bG q) := ⟨h.1, by simp only [bG, Int.natAbs_neg]; exact h.2.1, by simp only [bG, Int.natAbs_neg]; exact h.2.2.1, by simp only [bG, Int.natAbs_neg]; exact h.2.2.2⟩
theorem BT {s : Bool} {M N : Nat} {p q : Qd} (h : cT M p) (g : cT N q) (hp : al p) (hq : al q) : cT (2 * (M * N)) (aH s p q) := by
  unfold aH; split
  . exact o0 h g hp hq
  . rw [Nat.mul_comm M N]; exact o0 g h hq hp
theorem u7 {x y : Int} {M N : Nat} (h : x.natAbs <= M) (g : y.natAbs <= N) : (x - y).natAbs <= M + N := by omega
theorem u6 {x y : Int} {M N : Nat} (h : x.natAbs <= M) (g : y.natAbs <= N) : (x + y).natAbs <= M + N := by omega
theorem mU {M N : Nat} {p q : Qd} (h : cT M p) (g : cT N q) : cT (M + N) (bn p q) := ⟨u7 h.1 g.1, u7 h.2.1 g.2.1, u7 h.2.2.1 g.2.2.1, u7 h.2.2.2 g.2.2.2⟩
theorem BS {M N : Nat} {p q : Qd} (h : cT M p) (g : cT N q) : cT (M + N) (ci p q) := ⟨u6 h.1 g.1, u6 h.2.1 g.2.1, u6 h.2.2.1 g.2.2.1, u6 h.2.2.2 g.2.2.2⟩
theorem rD {M N : Nat} {q : Qd} {n : Int} (h : cT M q) (g : n.natAbs <= N) : cT (M * N) (aZ q n) := ⟨bJ h.1 g, bJ h.2.1 g, bJ h.2.2.1 g, bJ h.2.2.2 g⟩
theorem ut (x : Int) {n : Int} (h : 0 < n) : (x.fdiv n).natAbs <= x.natAbs := by
  rw [Int.fdiv_eq_ediv_of_nonneg _ (by omega)]
  exact Int.natAbs_ediv_le_natAbs x n
theorem wD {M N : Nat} {q : Qd} {n : Int} (h : cT M q) (g : n.natAbs <= N) (hn : 0 < n) : cT (2 * (M + N)) (gG q n) := by
  have k : ∀ x : Int, x.natAbs <= M -> (gc x n).natAbs <= 2 * (M + N) := fun x hx => by
    have := ut (x + n) (show 0 < 2 * n by omega)
    unfold gc; omega
  exact ⟨k _ h.1, k _ h.2.1, k _ h.2.2.1, k _ h.2.2.2⟩
theorem wC {M : Nat} {q : Qd} {n : Int} (h : cT M q) (hn : 0 < n) : cT (2 * M + 1) (io q n) := by
  have k : ∀ x : Int, x.natAbs <= M -> (gZ x n).natAbs <= 2 * M + 1 := fun x hx => by
    have := ut x (show 0 < 2 * n by omega)
    unfold gZ; omega
  exact ⟨k _ h.1, k _ h.2.1, k _ h.2.2.1, k _ h.2.2.2⟩
theorem yA {M N : Nat} {q : Qd} {n : Int} (h : cT M q) (g : n.natAbs <= N) (hn : 0 < n) : cT (2 * (M + N) + 1) (dM q n) := by
  unfold dM; split
  . exact dN (wD h g hn) (by omega)
  . exact dN (wC h hn) (by omega)
theorem v3 {q : Qd} {M : Nat} (h : cT M q) : (ao q).natAbs <= M * M := by
  obtain ⟨a1, a2, a3, a4⟩ := h
  have c1 := bJ a1 a1; have c2 := bJ a2 a2; have c3 := bJ a3 a3; have c4' := bJ a4 a4
  unfold ao
  rw [Int.fdiv_eq_ediv_of_nonneg _ (by decide)]
  generalize q.1 * q.1 = x at *
  generalize q.2.1 * q.2.1 = y at *
  generalize q.2.2.1 * q.2.2.1 = z at *
  generalize q.2.2.2 * q.2.2.2 = w at *
  generalize M * M = K at *
  omega
theorem en {M : Nat} {q : Qd} {n : Int} (h : cT M q) (g : n.natAbs <= M) (hn : 0 < n) (hM : 4 * M + 1 + (4 * M + 1) * M < cX) : yv q n := by
  have hM0 : 4 * M + 1 < cX := Nat.lt_of_le_of_lt (Nat.le_add_right _ _) hM
  have e1 : cT (4 * M + 1) (gG q n) := dN (wD h g hn) (by omega)
  have e2 : cT (4 * M + 1) (io q n) := dN (wC h hn) (by omega)
  refine ⟨hn, by omega, ⟨er e1 hM0, by omega, ?_⟩, er e2 hM0, by omega, ?_⟩
  . exact er (dN (mU h (rD e1 g)) (by omega)) hM
  . exact er (dN (mU h (rD e2 g)) (by omega)) hM
def zf (L : Nat) : Prop := 1 <= L /\ 4 * (2 * (L * L)) + 1 + (4 * (2 * (L * L)) + 1) * (2 * (L * L)) < cX
theorem wn {s : Bool} {L : Nat} {p q : Qd} (hp : al p) (hq : al q) (h0 : q ≠ au) (h : cT L p) (g : cT L q) (hL : zf L) : okD s p q := by
  obtain ⟨h1, hL⟩ := hL
  have hn := fe hq h0
  have hLL : L <= L * L := Nat.le_mul_of_pos_left L h1
  have hb : 4 * (2 * (L * L)) + 1 < cX := Nat.lt_of_le_of_lt (Nat.le_add_right _ _) hL
  have hLb : L < cX := by omega
  have w := BT (s := s) h (uf g) hp (dJ hq)
  have sz := v3 g
  refine ⟨er h hLb, er g hLb, er (uf g) hLb, en w (by omega) hn hL, ?_⟩
  unfold cP
  exact er (dN (yA w (N := 2 * (L * L)) (by omega) hn) (by omega)) hb
theorem sE {n : Nat} (h : n <= 2000) : zf (2 ^ n) := by
  refine ⟨Nat.one_le_two_pow, ?_⟩
  have e : 2 ^ n * 2 ^ n = 2 ^ (n + n) := (Nat.pow_add 2 n n).symm
  rw [e]
  have k : 2 ^ (n + n) <= 2 ^ 4000 := Nat.pow_le_pow_right (by decide) (by omega)
  generalize 2 ^ (n + n) = x at k
  have b1 : (4 * (2 * x) + 1) * (2 * x) <= 9 * 2 ^ 4000 * (2 * 2 ^ 4000) := Nat.mul_le_mul (by have : 1 <= 2 ^ 4000 := Nat.one_le_two_pow; omega) (by omega)
  have b2 : 9 * 2 ^ 4000 * (2 * 2 ^ 4000) = 18 * 2 ^ 8000 := by rw [show (8000 : Nat) = 4000 + 4000 from rfl, Nat.pow_add]; generalize 2 ^ 4000 = y; grind
  have b3 : 2 ^ 4000 <= 2 ^ 8000 := Nat.pow_le_pow_right (by decide) (by decide)
  have b4 : 32 * 2 ^ 8000 = 2 ^ 8005 := by rw [show (8005 : Nat) = 5 + 8000 from rfl, Nat.pow_add 2 5 8000]
  have b5 : 2 ^ 8005 < cX := Nat.pow_lt_pow_right (by decide) (by decide)
  have b6 : 1 <= 2 ^ 8000 := Nat.one_le_two_pow
  rw [b2] at b1
  generalize 2 ^ 4000 = y at *
  generalize 2 ^ 8000 = z at *
  generalize (4 * (2 * x) + 1) * (2 * x) = w at *
  omega
def pi (q : Qd) (n : Int) : Qd := (q.1.fdiv n, q.2.1.fdiv n, q.2.2.1.fdiv n, q.2.2.2.fdiv n)
abbrev Ek (q : Qd) (n : Int) : Prop := q.1.fmod n = 0 /\ q.2.1.fmod n = 0 /\ q.2.2.1.fmod n = 0 /\ q.2.2.2.fmod n = 0
abbrev uW (q : Qd) : Prop := q.2.1.fmod 2 = q.1.fmod 2 /\ q.2.2.1.fmod 2 = q.1.fmod 2 /\ q.2.2.2.fmod 2 = q.1.fmod 2
def w8 (W : Qd) (n : Int) : D := if Ek W n /\ uW (pi W n) then dq (pi W n) else .non
def rH (s : Bool) (p q : Qd) : D := w8 (aH s p (bG q)) (ao q)
theorem mS {q : Qd} : uW q ↔ al q := by
  rw [iX]; unfold uW; simp only [Int.fmod_eq_emod_of_nonneg _ (show (0 : Int) <= 2 by decide)]
theorem cn (a : Int) {n : Int} (h : 0 < n) : (a * n).fmod n = 0 /\ (a * n).fdiv n = a := by
  rw [Int.fmod_eq_emod_of_nonneg _ (by omega), Int.fdiv_eq_ediv_of_nonneg _ (by omega)]
  exact ⟨Int.mul_emod_left _ _, Int.mul_ediv_cancel _ (by omega)⟩
theorem Ci {k W : Qd} {n : Int} (hn : 0 < n) (hk : al k) (h : W = aZ k n) : w8 W n = dq k := by
  subst h
  have hd : pi (aZ k n) n = k := cU (cn _ hn).2 (cn _ hn).2 (cn _ hn).2 (cn _ hn).2
  unfold w8
  rw [hd, if_pos ⟨⟨(cn _ hn).1, (cn _ hn).1, (cn _ hn).1, (cn _ hn).1⟩, mS.mpr hk⟩]
theorem yV {W : Qd} {n : Int} (hn : 0 < n) : (∃ k, al k /\ W = aZ k n /\ w8 W n = dq k) \/ (w8 W n = .non /\ ∀ k, al k -> W ≠ aZ k n) := by
  by_cases h : Ek W n /\ uW (pi W n)
  . refine .inl ⟨pi W n, mS.mp h.2, ?_, if_pos h⟩
    have e : ∀ x : Int, x.fmod n = 0 -> x = x.fdiv n * n := fun x hx => by
      have := Int.mul_fdiv_add_fmod x n
      rw [hx, Int.add_zero, Int.mul_comm] at this; exact this.symm
    exact cU (e _ h.1.1) (e _ h.1.2.1) (e _ h.1.2.2.1) (e _ h.1.2.2.2)
  . refine .inr ⟨if_neg h, fun k hk e => h ?_⟩
    have hd : pi (aZ k n) n = k := cU (cn _ hn).2 (cn _ hn).2 (cn _ hn).2 (cn _ hn).2
    subst e
    exact ⟨⟨(cn _ hn).1, (cn _ hn).1, (cn _ hn).1, (cn _ hn).1⟩, by rw [hd]; exact mS.mpr hk⟩
theorem qo (x : Int) : (x.natAbs : Int) <= x * x := by
  rw [<- Int.natAbs_mul_self' x]
  have : x.natAbs <= x.natAbs * x.natAbs := by
    rcases Nat.eq_zero_or_pos x.natAbs with h | h
    . omega
    . exact Nat.le_mul_of_pos_left _ h
  exact_mod_cast this
theorem kh {q : Qd} {K : Nat} (h : al q) (g : ao q <= K) : cT (4 * K) q := by
  obtain ⟨t, ht, e⟩ := cO h
  rw [e] at g
  have s1 := eF q.1; have s2 := eF q.2.1; have s3 := eF q.2.2.1; have s4 := eF q.2.2.2
  have r1 := qo q.1; have r2 := qo q.2.1; have r3 := qo q.2.2.1; have r4 := qo q.2.2.2
  refine ⟨?_, ?_, ?_, ?_⟩ <;> omega
def iM (s : Bool) (p q : Qd) : D := if df s p q = au then dq (cP s p q) else .non
theorem rJ {p q : Qd} (h : bn p q = au) : p = q := by
  unfold bn au at h
  have h1 := congrArg (·.1) h
  have h2 := congrArg (·.2.1) h
  have h3 := congrArg (·.2.2.1) h
  have h4 := congrArg (·.2.2.2) h
  simp only at h1 h2 h3 h4
  exact cU (by omega) (by omega) (by omega) (by omega)
theorem lG (q : Qd) : aq au q = au /\ aq q au = au := by
  unfold aq au
  simp only [Int.zero_mul, Int.mul_zero, Int.sub_zero, Int.add_zero]
  exact ⟨by decide, by decide⟩
theorem ja (s : Bool) (q : Qd) : aH s au q = au := by
  unfold aH; split
  . exact (lG q).1
  . exact (lG q).2
theorem Ch {s : Bool} {p q : Qd} (hp : al p) (hq : al q) (h0 : q ≠ au) : iM s p q = rH s p q := by
  obtain ⟨d1, d2, _⟩ := i7 (s := s) hp hq h0
  rcases yV (W := aH s p (bG q)) (fe hq h0) with ⟨k, k1, k2, k3⟩ | ⟨k1, k2⟩
  . obtain ⟨e1, e2⟩ := xc hp hq h0 k1 k2
    unfold iM rH
    rw [if_pos e2, e1, k3]
  . unfold rH
    rw [k1]
    refine if_neg fun e => k2 _ d1 (rJ ?_)
    rw [<- mR hp hq d1]
    show aH s (df s p q) (bG q) = _
    rw [e, ja]
theorem zg {s : Bool} {q : Qd} (hq : al q) : aH s q (bG q) = aZ aE (ao q) := by
  have e : aZ aE (ao q) = (2 * ao q, 0, 0, 0) := by unfold aZ aE; simp
  rw [e]
  unfold aH; split
  . exact (fI hq).1
  . exact (fI hq).2
theorem nO {p r q : Qd} (h : al p) (k : al r) (g : al q) : aq (ci p r) q = ci (aq p q) (aq r q) := by
  obtain ⟨P, Q, R, S, hP, hQ, hR, hS, _, e1⟩ := ck h g
  obtain ⟨U, V, W, X, hU, hV, hW, hX, _, e2⟩ := ck k g
  obtain ⟨P3, Q3, R3, S3, lP, lQ, lR, lS, _, e3⟩ := ck (fG h k) g
  rw [e1, e2, e3]
  simp only [ci] at *
  clear e1 e2 e3 h k g
  refine cU ?_ ?_ ?_ ?_
  . show P3 = P + U; grind
  . show Q3 = Q + V; grind
  . show R3 = R + W; grind
  . show S3 = S + X; grind
theorem nN {p r q : Qd} (h : al p) (k : al r) (g : al q) : aq q (ci p r) = ci (aq q p) (aq q r) := by
  obtain ⟨P, Q, R, S, hP, hQ, hR, hS, _, e1⟩ := ck g h
  obtain ⟨U, V, W, X, hU, hV, hW, hX, _, e2⟩ := ck g k
  obtain ⟨P3, Q3, R3, S3, lP, lQ, lR, lS, _, e3⟩ := ck g (fG h k)
  rw [e1, e2, e3]
  simp only [ci] at *
  clear e1 e2 e3 h k g
  refine cU ?_ ?_ ?_ ?_
  . show P3 = P + U; grind
  . show Q3 = Q + V; grind
  . show R3 = R + W; grind
  . show S3 = S + X; grind
theorem qi {s : Bool} {p r q : Qd} (h : al p) (k : al r) (g : al q) : aH s (ci p r) q = ci (aH s p q) (aH s r q) := by
  unfold aH; cases s
  . exact nN h k g
  . exact nO h k g
theorem qh {s : Bool} {p r q : Qd} (h : al p) (k : al r) (g : al q) : aH s q (ci p r) = ci (aH s q p) (aH s q r) := by
  unfold aH; cases s
  . exact nO h k g
  . exact nN h k g
theorem jz {s : Bool} {p r q : Qd} (h : al p) (k : al r) (g : al q) : aH s (bn p r) q = bn (aH s p q) (aH s r q) := by
  unfold aH; cases s
  . exact mz h k g
  . exact mB h k g
theorem ge {s : Bool} {p q r : Qd} (h : al p) (g : al q) (k : al r) : aH s (aH s p q) r = aH s p (aH s q r) := by
  unfold aH; cases s
  . exact (dj k g h).symm
  . exact dj h g k
theorem lX (s : Bool) (q : Qd) : aH s aE q = q := by
  unfold aH; cases s
  . exact e6 q
  . exact cG q
theorem zh (s : Bool) (q : Qd) : aH s q au = au := by
  unfold aH; split
  . exact (lG q).2
  . exact (lG q).1
abbrev eU := Qd × Qd × Qd
structure me (s : Bool) (p q : Qd) (r : eU) : Prop where
  h0 : al r.1
  h1 : al r.2.1
  h2 : al r.2.2
  sum : ci (aH s r.2.1 p) (aH s r.2.2 q) = r.1
def qt (s : Bool) (a b : eU) : eU := (bn a.1 (aH s (cP s a.1 b.1) b.1), bn a.2.1 (aH s (cP s a.1 b.1) b.2.1), bn a.2.2 (aH s (cP s a.1 b.1) b.2.2))
theorem BN {s : Bool} {p q : Qd} {a b : eU} (hp : al p) (hq : al q) (ha : me s p q a) (hb : me s p q b) (h0 : b.1 ≠ au) : me s p q (qt s a b) := by
  obtain ⟨d1, d2, _⟩ := i7 (s := s) ha.h0 hb.h0 h0
  refine ⟨bW ha.h0 (bZ d1 hb.h0), bW ha.h1 (bZ d1 hb.h1), bW ha.h2 (bZ d1 hb.h2), ?_⟩
  show ci (aH s (bn a.2.1 (aH s (cP s a.1 b.1) b.2.1)) p) (aH s (bn a.2.2 (aH s (cP s a.1 b.1) b.2.2)) q) = bn a.1 (aH s (cP s a.1 b.1) b.1)
  generalize cP s a.1 b.1 = k at *
  rw [jz ha.h1 (bZ d1 hb.h1) hp, jz ha.h2 (bZ d1 hb.h2) hq, ge d1 hb.h1 hp, ge d1 hb.h2 hq]
  rw [<- ha.sum]
  conv => rhs; rw [<- hb.sum]
  rw [qh (bZ hb.h1 hp) (bZ hb.h2 hq) d1]
  unfold ci bn
  exact cU (by simp only; omega) (by simp only; omega) (by simp only; omega) (by simp only; omega)
def qy (s : Bool) (p a b : Qd) : Prop := ∃ u v, al u /\ al v /\ p = ci (aH s u a) (aH s v b)
theorem nB {s : Bool} {p a b k : Qd} (ha : al a) (hb : al b) (hk : al k) (h : qy s p a b) : qy s p b (bn a (aH s k b)) := by
  obtain ⟨u, v, hu, hv, rfl⟩ := h
  refine ⟨ci (aH s u k) v, u, fG (bZ hu hk) hv, hu, ?_⟩
  rw [qi (bZ hu hk) hv hb, ge hu hk hb]
  have e : aH s u a = ci (aH s u (aH s k b)) (aH s u (bn a (aH s k b))) := by
    rw [<- qh (bZ hk hb) (bW ha (bZ hk hb)) hu]
    congr 1
    unfold ci bn
    exact cU (by simp only; omega) (by simp only; omega) (by simp only; omega) (by simp only; omega)
  rw [e]
  unfold ci
  exact cU (by simp only; omega) (by simp only; omega) (by simp only; omega) (by simp only; omega)
theorem tP {p q : Qd} (hp : al p) (hq : al q) : ao (bn p q) <= 2 * ao p + 2 * ao q := by
  obtain ⟨t1, h1, e1⟩ := cO hp
  obtain ⟨t2, h2, e2⟩ := cO hq
  obtain ⟨t3, h3, e3⟩ := cO (bW hp hq)
  rw [e1, e2, e3]
  simp only [bn] at h3
  have k : ∀ x y : Int, (x - y) * (x - y) <= 2 * (x * x) + 2 * (y * y) := fun x y => by
    have := eF (x + y)
    have e : (x - y) * (x - y) = 2 * (x * x) + 2 * (y * y) - (x + y) * (x + y) := by grind
    omega
  have := k p.1 q.1; have := k p.2.1 q.2.1; have := k p.2.2.1 q.2.2.1; have := k p.2.2.2 q.2.2.2
  omega
theorem DD {s : Bool} {a b : Qd} (ha : al a) (hb : al b) (h0 : b ≠ au) : ao (cP s a b) * ao b <= 2 * ao a + ao b := by
  obtain ⟨d1, d2, d3⟩ := i7 (s := s) ha hb h0
  rw [<- ff (s := s) d1 hb]
  have e : aH s (cP s a b) b = bn a (df s a b) := by unfold df bn; exact cU (by simp only; omega) (by simp only; omega) (by simp only; omega) (by simp only; omega)
  rw [e]
  have := tP ha d2
  omega
structure Gr (E A B Na Nb : Int) : Prop where
  a : A <= E
  b : B <= E
  ba : B * Na <= E
  ab : A * Nb <= E
  bb : B * Nb <= E
theorem um {s : Bool} {a b x y : Qd} {E : Int} (ha : al a) (hb : al b) (hx : al x) (hy : al y) (h0 : b ≠ au) (hE : 0 <= E) (g : Gr E (ao x) (ao y) (ao a) (ao b)) :
    Gr (8 * E) (ao y) (ao (bn x (aH s (cP s a b) y))) (ao b) (ao (df s a b)) := by
  obtain ⟨d1, d2, d3⟩ := i7 (s := s) ha hb h0
  have nb := fe hb h0
  have nx := dD hx; have ny := dD hy; have nr := dD d2; have na := dD ha
  have q1 := DD (s := s) ha hb h0
  have l1 := tP hx (bZ (s := s) d1 hy)
  rw [ff d1 hy] at l1
  have nz := dD (bW hx (bZ (s := s) d1 hy))
  generalize ao (bn x (aH s (cP s a b) y)) = z at *
  generalize ao (cP s a b) = k at *
  generalize ao (df s a b) = r at *
  generalize ao a = Na at *
  generalize ao b = Nb at *
  generalize ao x = X at *
  generalize ao y = Y at *
  obtain ⟨g1, g2, g3, g4, g5⟩ := g
  have m1 : k * Y * Nb <= 2 * (Y * Na) + Y * Nb := by
    have := Int.mul_le_mul_of_nonneg_left q1 ny
    have e1 : Y * (k * Nb) = k * Y * Nb := by grind
    have e2 : Y * (2 * Na + Nb) = 2 * (Y * Na) + Y * Nb := by grind
    omega
  have m2 : z * Nb <= 8 * E := by
    have := Int.mul_le_mul_of_nonneg_right l1 (show 0 <= Nb by omega)
    have e1 : (2 * X + 2 * (k * Y)) * Nb = 2 * (X * Nb) + 2 * (k * Y * Nb) := by grind
    omega
  have m3 : z <= z * Nb := by
    have := Int.mul_le_mul_of_nonneg_left (show 1 <= Nb by omega) nz
    omega
  have m4 : Y * r <= Y * Nb := Int.mul_le_mul_of_nonneg_left (by omega) ny
  have m5 : z * r <= z * Nb := Int.mul_le_mul_of_nonneg_left (by omega) nz
  exact ⟨by omega, by omega, m2, by omega, by omega⟩
def KN : Nat := 2 ^ 800
def EM : Nat := 2 ^ 3400
theorem Gg : zf (4 * KN) := by
  have : 4 * KN = 2 ^ 802 := by unfold KN; rw [show (802 : Nat) = 2 + 800 from rfl, Nat.pow_add]
  rw [this]; exact sE (by decide)
theorem xR : 4 * EM < cX := by
  have : 4 * EM = 2 ^ 3402 := by unfold EM; rw [show (3402 : Nat) = 2 + 3400 from rfl, Nat.pow_add]
  rw [this]; exact Nat.pow_lt_pow_right (by decide) (by decide)
theorem GB : 1 <= KN := Nat.one_le_two_pow
theorem Ib : KN * 8 ^ 801 <= EM := by
  unfold KN EM
  rw [show (8 : Nat) = 2 ^ 3 from rfl, <- Nat.pow_mul, <- Nat.pow_add]
  exact Nat.pow_le_pow_right (by decide) (by decide)
structure gh (s : Bool) (p q : Qd) (m E : Nat) (a b : eU) : Prop where
  ra : me s p q a
  rb : me s p q b
  sp : qy s p a.1 b.1
  sq : qy s q a.1 b.1
  lt : ao b.1 < ((2 ^ m : Nat) : Int)
  ka : ao a.1 <= (KN : Nat)
  kb : ao b.1 <= (KN : Nat)
  gs : Gr (E : Nat) (ao a.2.1) (ao b.2.1) (ao a.1) (ao b.1)
  gt : Gr (E : Nat) (ao a.2.2) (ao b.2.2) (ao a.1) (ao b.1)
  em : E * 8 ^ m <= EM
theorem gh.step {s : Bool} {p q : Qd} {m E : Nat} {a b : eU} (hp : al p) (hq : al q) (h : gh s p q m E a b) (h0 : b.1 ≠ au) : ∃ m', m = m' + 1 /\ gh s p q m' (8 * E) b (qt s a b) := by
  obtain ⟨d1, d2, d3⟩ := i7 (s := s) h.ra.h0 h.rb.h0 h0
  have nb := fe h.rb.h0 h0
  have hm : m ≠ 0 := fun z => by have := h.lt; subst z; simp at this; omega
  obtain ⟨m', rfl⟩ : ∃ k, m = k + 1 := ⟨m - 1, by omega⟩
  refine ⟨m', rfl, h.rb, BN hp hq h.ra h.rb h0, nB h.ra.h0 h.rb.h0 d1 h.sp, nB h.ra.h0 h.rb.h0 d1 h.sq, ?_, h.kb, ?_, ?_, ?_, ?_⟩
  . show ao (df s a.1 b.1) < _
    have := h.lt
    rw [Nat.pow_succ] at this
    omega
  . show ao (df s a.1 b.1) <= _
    have := h.kb
    omega
  . have := um (s := s) h.ra.h0 h.rb.h0 h.ra.h1 h.rb.h1 h0 (Int.natCast_nonneg E) h.gs
    rw [Int.natCast_mul]; exact this
  . have := um (s := s) h.ra.h0 h.rb.h0 h.ra.h2 h.rb.h2 h0 (Int.natCast_nonneg E) h.gt
    rw [Int.natCast_mul]; exact this
  . have := h.em
    rw [Nat.pow_succ] at this
    rw [show 8 * E * 8 ^ m' = E * (8 ^ m' * 8) by grind]; exact this
theorem gh.E_le {s : Bool} {p q : Qd} {m E : Nat} {a b : eU} (h : gh s p q m E a b) : E <= EM := Nat.le_trans (Nat.le_mul_of_pos_right E (Nat.pow_pos (by decide))) h.em
theorem gh.bd {s : Bool} {p q : Qd} {m E : Nat} {a b : eU} (h : gh s p q m E a b) (h0 : b.1 ≠ au) : okD s a.1 b.1 /\ dm b.1 /\ dm b.2.1 /\ dm b.2.2 := by
  have la := kh h.ra.h0 h.ka
  have lb := kh h.rb.h0 h.kb
  have k := wn (s := s) h.ra.h0 h.rb.h0 h0 la lb Gg
  have e := h.E_le
  have b1 := h.gs.b
  have b2 := h.gt.b
  exact ⟨k, k.2.1, er (kh (K := EM) h.rb.h1 (by omega)) xR, er (kh (K := EM) h.rb.h2 (by omega)) xR⟩
theorem gh.start {s : Bool} {p q : Qd} (hp : al p) (hq : al q) (kp : ao p <= (KN : Nat)) (kq : ao q <= (KN : Nat)) : gh s p q 801 KN (p, aE, au) (q, au, aE) := by
  have hk := GB
  have s1 : ao aE = 1 := by decide
  have s0 : ao au = 0 := by decide
  have np := dD hp
  have nq := dD hq
  refine ⟨⟨hp, fH, gY, ?_⟩, ⟨hq, gY, fH, ?_⟩, ⟨aE, au, fH, gY, ?_⟩, ⟨au, aE, gY, fH, ?_⟩, ?_, kp, kq, ?_, ?_, Ib⟩
  . show ci (aH s aE p) (aH s au q) = p
    rw [lX, ja]; unfold ci au; exact cU (by simp) (by simp) (by simp) (by simp)
  . show ci (aH s au p) (aH s aE q) = q
    rw [lX, ja]; unfold ci au; exact cU (by simp) (by simp) (by simp) (by simp)
  . show p = ci (aH s aE p) (aH s au q)
    rw [lX, ja]; unfold ci au; exact cU (by simp) (by simp) (by simp) (by simp)
  . show q = ci (aH s au p) (aH s aE q)
    rw [lX, ja]; unfold ci au; exact cU (by simp) (by simp) (by simp) (by simp)
  . show ao q < ((2 ^ 801 : Nat) : Int)
    have : KN < 2 ^ 801 := Nat.pow_lt_pow_right (by decide) (by decide)
    omega
  . show Gr _ (ao aE) (ao au) (ao p) (ao q)
    rw [s1, s0]
    exact ⟨by omega, by omega, by omega, by omega, by omega⟩
  . show Gr _ (ao au) (ao aE) (ao p) (ao q)
    rw [s1, s0]
    exact ⟨by omega, by omega, by omega, by omega, by omega⟩
structure AS (s : Bool) (p q : Qd) (a : eU) : Prop where
  ra : me s p q a
  dp : ∃ u, al u /\ p = aH s u a.1
  dq' : ∃ u, al u /\ q = aH s u a.1
  k0 : ao a.1 <= (KN : Nat)
  k1 : ao a.2.1 <= (EM : Nat)
  k2 : ao a.2.2 <= (EM : Nat)
theorem gh.fin {s : Bool} {p q : Qd} {m E : Nat} {a b : eU} (h : gh s p q m E a b) (h0 : b.1 = au) : AS s p q a := by
  have sp := h.sp
  have sq := h.sq
  rw [h0] at sp sq
  have e := h.E_le
  have b1 := h.gs.a
  have b2 := h.gt.a
  have z : ∀ u v : Qd, ci (aH s u a.1) (aH s v au) = aH s u a.1 := fun u v => by
    rw [zh]; unfold ci au; exact cU (by simp) (by simp) (by simp) (by simp)
  obtain ⟨u, v, hu, hv, e1⟩ := sp
  obtain ⟨u', v', hu', hv', e2⟩ := sq
  exact ⟨h.ra, ⟨u, hu, by rw [e1, z]⟩, ⟨u', hu', by rw [e2, z]⟩, h.ka, by omega, by omega⟩
theorem wB (n : Int) : aZ aE n = (2 * n, 0, 0, 0) := by unfold aZ aE; simp
theorem yF {s : Bool} {p d u : Qd} (hu : al u) (hd : al d) (h0 : d ≠ au) (h : p = aH s u d) : rH s p d = dq u := by
  unfold rH
  refine Ci (fe hd h0) hu ?_
  rw [h, ge hu hd (dJ hd), zg hd, wB]
  unfold aH; split
  . exact dw u _
  . exact fQ u _
end K
namespace K
open PySem L2 Sp Qm
def Pz (s : Bool) : Str := match s with | true => "right" | false => "left"
def qV (x : Str) : Option Bool := if x = Str.ofString "right" then some true else if x = Str.ofString "left" then some false else none
def nE (s : Bool) : D := .str (Pz s)
def xf : Dc Bool := ⟨fun | .str x => qV x | _ => none, nE, fun x a h => by
  cases x <;> try cases h
  rename_i x
  replace h : qV x = some a := h
  unfold qV at h
  split at h
  . rename_i e; cases h; rw [e]; rfl
  . split at h
    . rename_i e; cases h; rw [e]; rfl
    . cases h⟩
theorem sD (c : Int) : c.fmod 2 = 0 \/ c.fmod 2 = 1 := by
  have g0 := Int.fmod_nonneg_of_pos c (show (0 : Int) < 2 by decide)
  have g1 := Int.fmod_lt_of_pos c (show (0 : Int) < 2 by decide)
  omega
end K
namespace K
open PySem L2 Sp Qm
def dR (r : eU) : D := .tup [dq r.1, dq r.2.1, dq r.2.2]
def il (s : Bool) : Nat -> eU -> eU -> eU
  | 0, a, _ => a
  | n + 1, a, b => if b.1 = au then a else il s n b (qt s a b)
def jr (s : Bool) (p q : Qd) : eU := il s 801 (p, aE, au) (q, au, aE)
theorem mJ {s : Bool} {m : Nat} {a b : eU} (h : b.1 = au) : il s m a b = a := by
  cases m with
  | zero => rfl
  | succ m => exact if_pos h
theorem jP {s : Bool} {m : Nat} {a b : eU} (h : b.1 ≠ au) : il s (m + 1) a b = il s m b (qt s a b) := if_neg h
theorem AY {s : Bool} {p q : Qd} (hp : al p) (hq : al q) : ∀ {m E : Nat} {a b : eU}, gh s p q m E a b -> AS s p q (il s m a b) := by
  intro m
  induction m with
  | zero =>
    intro E a b h
    by_cases h0 : b.1 = au
    . exact h.fin h0
    . obtain ⟨m', z, _⟩ := h.step hp hq h0; cases z
  | succ m ih =>
    intro E a b h
    by_cases h0 : b.1 = au
    . rw [mJ h0]; exact h.fin h0
    . obtain ⟨m', z, h1⟩ := h.step hp hq h0
      cases z
      rw [jP h0]
      exact ih h1
def okG (p q : Qd) : Prop := al p /\ al q /\ ao p <= (KN : Nat) /\ ao q <= (KN : Nat)
theorem EK {s : Bool} {p q : Qd} (h : okG p q) : AS s p q (jr s p q) := AY h.1 h.2.1 (gh.start h.1 h.2.1 h.2.2.1 h.2.2.2)
def Dv (s : Bool) (d p : Qd) : Prop := ∃ u, al u /\ p = aH s u d
theorem Dv.sum {s : Bool} {d p q : Qd} (hd : al d) (h : Dv s d p) (g : Dv s d q) : Dv s d (ci p q) := by
  obtain ⟨u, hu, rfl⟩ := h
  obtain ⟨v, hv, rfl⟩ := g
  exact ⟨ci u v, fG hu hv, (qi hu hv hd).symm⟩
theorem Dv.less {s : Bool} {d p q : Qd} (hd : al d) (h : Dv s d p) (g : Dv s d q) : Dv s d (bn p q) := by
  obtain ⟨u, hu, rfl⟩ := h
  obtain ⟨v, hv, rfl⟩ := g
  exact ⟨bn u v, bW hu hv, (jz hu hv hd).symm⟩
theorem Dv.mul {s : Bool} {d p k : Qd} (hd : al d) (hk : al k) (h : Dv s d p) : Dv s d (aH s k p) := by
  obtain ⟨u, hu, rfl⟩ := h
  exact ⟨aH s k u, bZ hk hu, (ge hk hu hd).symm⟩
theorem G8 {q : Qd} {n : Nat} (h : ao q <= ((2 ^ n : Nat) : Int)) (hn : n <= 800) : ao q <= (KN : Nat) := by
  have : 2 ^ n <= KN := Nat.pow_le_pow_right (by decide) hn
  omega
theorem mT {a b : Int} (h : a = b) : (!cA (.int a) (.int b)) = false := by rw [h]; simp
end K
namespace K
open PySem L2 Sp Qm
theorem Am {a b : Int} (h : a ≠ b) : (!cA (.int a) (.int b)) = true := by simp [h]
theorem AB {p q : Qd} (h : p = q) : cA (dq p) (dq q) = true := by simp [h]
end K
namespace K
open PySem L2 Sp Qm
theorem ga {Φ : Fx} {sc : Scope} {ρ : aj} {a b : Expr} {op : Operator} {p : Pos} {it : Bool} {x y : D} {k j : Nat} {r : D × Nat} (ha : ac (aA Φ a false sc ρ) (x, k)) (hb : ac (aA Φ b false sc ρ) (y, j)) (h : ac (kG op x y k j) r) : ac (aA Φ (.BinOp a op b p) it sc ρ) r := ac.bnd ha (ac.bnd hb h)
theorem Du {α : Type} {f : α -> D} {l : List α} {i : Int} (h0 : 0 <= i) (h1 : i < l.length) (x : α) : gX (l.map f) i (f x) = some ((l.set i.toNat x).map f) := by
  unfold gX ku
  rw [if_pos h0, if_pos (by rw [List.length_map]; exact h1)]
  simp
theorem oB {α : Type} {f : α -> D} {l : List α} {i : Int} (h0 : 0 <= i) (h1 : i < l.length) : ∃ x ∈ l, L2.atI (l.map f) i = some (f x) := by
  obtain ⟨j, rfl⟩ := Int.eq_ofNat_of_zero_le h0
  have hj : j < l.length := by omega
  exact ⟨l[j], List.getElem_mem _, jd (by simp [hj])⟩
def gQ (n : Nat) (q : Qd) : Prop := al q /\ cT (2 ^ n) q
theorem gQ.mono {m n : Nat} {q : Qd} (h : gQ m q) (g : m <= n) : gQ n q := ⟨h.1, dN h.2 (Nat.pow_le_pow_right (by decide) g)⟩
theorem gQ.bd {n : Nat} {q : Qd} (h : gQ n q) (g : n < 9000) : dm q := er h.2 (Nat.pow_lt_pow_right (by decide) g)
theorem gQ.mul {m n : Nat} {p q : Qd} (h : gQ m p) (g : gQ n q) : gQ (m + n + 1) (aq p q) := by
  refine ⟨cK h.1 g.1, ?_⟩
  have := o0 h.2 g.2 h.1 g.1
  rwa [show 2 * (2 ^ m * 2 ^ n) = 2 ^ (m + n + 1) by rw [Nat.pow_succ, Nat.pow_add]; omega] at this
theorem gQ.sum {n : Nat} {p q : Qd} (h : gQ n p) (g : gQ n q) : gQ (n + 1) (ci p q) := ⟨fG h.1 g.1, by rw [Nat.pow_succ, Nat.mul_two]; exact BS h.2 g.2⟩
theorem gQ.less {n : Nat} {p q : Qd} (h : gQ n p) (g : gQ n q) : gQ (n + 1) (bn p q) := ⟨bW h.1 g.1, by rw [Nat.pow_succ, Nat.mul_two]; exact mU h.2 g.2⟩
end K
namespace K
open PySem L2 Sp Qm
def uG (Φ : Fx) (sc : Scope) (tg : Expr) (body ss : List Stmt) (r : D) : List D -> aj -> Prop
  | [], ρ => ac (aD Φ ss sc ρ) (.rt r)
  | d :: l, ρ => ∃ ρ1, bN sc tg d ρ = some ρ1 /\ ((∃ ρ2, ac (aD Φ body sc ρ1) (.nx ρ2) /\ uG Φ sc tg body ss r l ρ2) \/ ac (aD Φ body sc ρ1) (.rt r))
theorem lj {Φ : Fx} {sc : Scope} {ρ : aj} {ss : List Stmt} {tg it : Expr} {body : List Stmt} {p : Pos} {d r : D} (ds : List D) {k : Nat} (hi : ac (aA Φ it true sc (demote it ρ)) (d, k)) (h : uG Φ sc tg body ss r ds (demote it ρ)) (hd : items d = some ds := by rfl) (hk : k <= 1 := by first | exact Nat.le_refl 1 | exact Nat.zero_le 1) (ht : dZ it tg = true := by rfl) : ac (aD Φ (.For tg it body [] p :: ss) sc ρ) (.rt r) := by
  obtain ⟨r', h1, rfl⟩ := Bc (ds := ds) (fun ds ρ => uG Φ sc tg body ss r ds ρ) (fun r' => r' = r) hi h (fun d l ρ ⟨ρ1, h1, h2⟩ => ⟨ρ1, h1, by
    rcases h2 with h2 | h2
    . exact .inl h2
    . exact .inr ⟨r, h2, rfl⟩⟩) (fun ρ' h => ⟨r, h, rfl⟩) hd hk ht
  exact h1
theorem oz {n m : Nat} (h : n <= 2 ^ m) (hm : m < 9000) : n < cX := Nat.lt_of_le_of_lt h (Nat.pow_lt_pow_right (by decide) hm)
end K
namespace K
open PySem L2 Sp Qm
open Builtin.Int (intBits)
end K
namespace K
open PySem L2 Sp Qm
def dE : Nat -> List Int -> Nat
  | g, [] => g
  | g, n :: r => dE (Nat.gcd g n.natAbs) r
@[irreducible] def vq (l : List D) : Int := (dE 0 (nA l) : Nat)
def wk (l : List D) : Prop := ∃ ns : List Int, l = ns.map D.int /\ ns.length <= 100 /\ ∀ n ∈ ns, n.natAbs < 2 ^ 1000
theorem Eg {l : List D} (h : wk l) : wk l := h
theorem rW (ns : List Int) : vq (ns.map D.int) = (dE 0 ns : Nat) := by unfold vq; rw [nu]
theorem js : ∀ (ns : List Int) (g : Nat), dE g ns ∣ g /\ ∀ n ∈ ns, dE g ns ∣ n.natAbs
  | [], g => ⟨Nat.dvd_refl _, fun n h => by cases h⟩
  | n :: r, g => by
    obtain ⟨h1, h2⟩ := js r (Nat.gcd g n.natAbs)
    refine ⟨Nat.dvd_trans h1 (Nat.gcd_dvd_left _ _), fun m hm => ?_⟩
    rcases List.mem_cons.mp hm with rfl | hm
    . exact Nat.dvd_trans h1 (Nat.gcd_dvd_right _ _)
    . exact h2 m hm
theorem wX {ns : List Int} {n : Int} (h : n ∈ ns) : ((dE 0 ns : Nat) : Int) ∣ n := Int.ofNat_dvd_left.mpr ((js ns 0).2 n h)
theorem rT {ns : List Int} {n : Int} (h : n ∈ ns) (h0 : n ≠ 0) : 0 < dE 0 ns := by
  rcases Nat.eq_zero_or_pos (dE 0 ns) with e | e
  . have := (js ns 0).2 n h
    rw [e] at this
    have := Nat.eq_zero_of_zero_dvd this
    omega
  . exact e
theorem NV {ns : List Int} {n m : Int} (h : n ∈ ns) (h0 : n ≠ 0) (hm : m ∈ ns) : m = (dE 0 ns : Nat) * m.fdiv (dE 0 ns : Nat) := by
  obtain ⟨u, e⟩ := wX hm
  have hp := rT h h0
  generalize dE 0 ns = g at *
  rw [e, Int.mul_fdiv_cancel_left _ (by omega)]
theorem rV (c : Nat) : ∀ (ns : List Int) (g : Nat), dE (c * g) (ns.map fun m => (c : Int) * m) = c * dE g ns
  | [], g => rfl
  | n :: r, g => by
    show dE (Nat.gcd (c * g) ((c : Int) * n).natAbs) _ = _
    rw [Int.natAbs_mul, Int.natAbs_natCast, Nat.gcd_mul_left]
    exact rV c r _
theorem Cc {ns : List Int} {n : Int} (h : n ∈ ns) (h0 : n ≠ 0) : dE 0 ns <= n.natAbs := Nat.le_of_dvd (by omega) ((js ns 0).2 n h)
theorem PN (d : D) : kn d 1 <= 1 := by rcases Hx (d := d) (k := 1) with q | q <;> omega
def xQ (a b m : Nat) : Prop := (b <= a /\ a * b < 2 ^ m) \/ (a < b /\ a * b < 2 ^ (m - 1) /\ 1 <= m)
theorem uw {a b m : Nat} (h : xQ a b m) (h0 : b ≠ 0) : ∃ m', m' < m /\ xQ b (a % b) m' := by
  rcases h with ⟨h1, h2⟩ | ⟨h1, h2, h3⟩
  . have hm : 1 <= m := by
      rcases Nat.eq_zero_or_pos m with e | e
      . subst e
        have : 1 * 1 <= a * b := Nat.mul_le_mul (by omega) (by omega)
        omega
      . exact e
    refine ⟨m - 1, by omega, .inl ⟨Nat.le_of_lt (Nat.mod_lt _ (by omega)), ?_⟩⟩
    have e : 2 ^ m = 2 * 2 ^ (m - 1) := by rw [<- Nat.pow_succ']; congr 1; omega
    rw [e] at h2
    have hk : b + a % b <= a := by
      have := Nat.div_add_mod a b
      have q : 1 <= a / b := (Nat.one_le_div_iff (by omega)).mpr h1
      have := Nat.mul_le_mul_left b q
      omega
    have hlt := Nat.mod_lt a (show 0 < b by omega)
    have : b * (a % b) + b * (a % b) <= a * b := by
      rw [<- Nat.mul_add, Nat.mul_comm a b]
      exact Nat.mul_le_mul_left b (by omega)
    omega
  . refine ⟨m - 1, by omega, .inl ?_⟩
    rw [Nat.mod_eq_of_lt h1, Nat.mul_comm]
    exact ⟨Nat.le_of_lt h1, h2⟩
theorem Fa {a b : Nat} (ha : a < 2 ^ 1000) (hb : b < 2 ^ 1000) : xQ a b 2002 := by
  have h : a * b < 2 ^ 2001 := Nat.lt_of_lt_of_le (Nat.mul_lt_mul'' ha hb) (by rw [<- Nat.pow_add]; exact Nat.pow_le_pow_right (by decide) (by decide))
  rcases Nat.lt_or_ge a b with q | q
  . exact .inr ⟨q, h, by decide⟩
  . exact .inl ⟨q, Nat.lt_trans h (Nat.pow_lt_pow_right (by decide) (by decide))⟩
theorem wZ (a b : Nat) : (a : Int).fmod b = ((a % b : Nat) : Int) := by
  rw [Int.fmod_eq_emod_of_nonneg _ (by omega)]; rfl
theorem GC {Φ : Fx} {sc : Scope} {ρ : aj} {c : Expr} {body : List Stmt} {p : Pos} {m : Nat} {P : aj -> Prop} (ak : Nat -> aj -> Prop) (h0 : ak m ρ) (hm : m < bE)
    (step : ∀ m ρ, ak m ρ -> ∃ b k, ac (aA Φ c false sc ρ) (.bl b, k) /\ (b = true -> ∃ m' ρ2, m' < m /\ ac (aD Φ body sc ρ) (.nx ρ2) /\ ak m' ρ2)) (rest : ∀ m ρ', ak m ρ' -> (∃ k, ac (aA Φ c false sc ρ') (.bl false, k)) -> P ρ') : ∃ ρ', ac (aD Φ [.While c body [] p] sc ρ) (.nx ρ') /\ P ρ' := by
  obtain ⟨m', ρ', h1, h2, h3⟩ := qG (test := fun ρ => (aA Φ c false sc ρ).bnd fun p => iB p fun b => .ok b []) (body := aD Φ body sc) ak (fun m ρ h => by
    obtain ⟨b, k, a1, a2⟩ := step m ρ h
    exact ⟨b, a1.bnd (iO rfl cC), a2⟩) h0 hm
  obtain ⟨q, h4, h5⟩ := av h3
  obtain ⟨t, ht, h5⟩ := fZ h5
  cases aP h5
  obtain ⟨q1, q2⟩ := q
  have ht : q1 = .bl false := ht
  subst ht
  exact ⟨ρ', bI (r6 h1) dh, rest m' ρ' h2 ⟨q2, h4⟩⟩
end K
namespace K
open PySem L2 Sp Qm
theorem w6 {Φ : Fx} {sc : Scope} {ρ ρ' : aj} {es : List Expr} {e : Expr} {n : Nat} {p q : Pos} {d : D} {ds : List D} {k : Nat} (h : ac (aA Φ e false sc ρ) (d, k)) (hs : eG d = some ds) (hk : am ds = true \/ k <= 1) (hb : aV sc es ds ρ = some ρ') (ht : hJ e = false := by rfl) : ac (dC Φ (.Assign [.Tuple es n p] e q) sc ρ) (.nx ρ') := by
  show ac (if tS sc es e = true then n8 Φ es e sc ρ else _) _
  rw [if_neg (by unfold tS; rw [ht]; exact Bool.false_ne_true)]
  refine ac.bnd h ?_
  dsimp only
  rw [hs]; dsimp only
  rw [if_pos hk, hb]
  exact cC
def gI (ns : List Int) : Int := (dE 0 ns : Nat)
theorem Cd (ns : List Int) : vq (ns.map D.int) = gI ns := rW ns
theorem rX {ns : List Int} {n : Int} (h : n ∈ ns) (h0 : n ≠ 0) : 0 < gI ns := by have := rT h h0; unfold gI; omega
theorem n5 {ns : List Int} {n m : Int} (h : n ∈ ns) (h0 : n ≠ 0) (hm : m ∈ ns) : m = gI ns * m.fdiv (gI ns) := NV h h0 hm
theorem EL {c : Int} (hc : 0 < c) (ns : List Int) : gI (ns.map fun m => c * m) = c * gI ns := by
  obtain ⟨k, rfl⟩ := Int.eq_ofNat_of_zero_le (Int.le_of_lt hc)
  have := rV k ns 0
  unfold gI
  rw [Nat.mul_zero] at this
  rw [this]; simp
theorem Az {ns : List Int} {n : Int} (h : n ∈ ns) (h0 : n ≠ 0) : (gI ns).natAbs <= n.natAbs := by
  have := Cc h h0
  unfold gI; omega
theorem vx {c x g : Int} (hc : 0 < c) (hg : 0 < g) : (c * x).fdiv (c * g) = x.fdiv g := Int.mul_fdiv_mul_of_pos x g hc
theorem Ef {ns : List Int} {k : Nat} (hk : k <= 999) (hl : ns.length <= 100) (h : ∀ n ∈ ns, n.natAbs <= 2 ^ k) : wk (ns.map D.int) :=
  ⟨ns, rfl, hl, fun n hn => Nat.lt_of_le_of_lt (h n hn) (Nat.pow_lt_pow_right (by decide) (by omega))⟩
end K
namespace K
open PySem L2 Sp Qm
def qr : List Qd := [(-2, 0, 0, 0), (-1, -1, -1, -1), (-1, -1, -1, 1), (-1, -1, 1, -1), (-1, -1, 1, 1), (-1, 1, -1, -1), (-1, 1, -1, 1), (-1, 1, 1, -1), (-1, 1, 1, 1), (0, -2, 0, 0), (0, 0, -2, 0), (0, 0, 0, -2), (0, 0, 0, 2), (0, 0, 2, 0), (0, 2, 0, 0), (1, -1, -1, -1), (1, -1, -1, 1), (1, -1, 1, -1), (1, -1, 1, 1), (1, 1, -1, -1), (1, 1, -1, 1), (1, 1, 1, -1), (1, 1, 1, 1), (2, 0, 0, 0)]
theorem rk {p : Qd} (h : p.1 % 2 = p.2.1 % 2 /\ p.1 % 2 = p.2.2.1 % 2 /\ p.1 % 2 = p.2.2.2 % 2) : al p :=
  ⟨p.1 % 2, p.1 / 2, p.2.1 / 2, p.2.2.1 / 2, p.2.2.2 / 2, by omega, by omega, by omega, by omega, by omega⟩
theorem rz : ∀ p ∈ qr, (p.1 % 2 = p.2.1 % 2 /\ p.1 % 2 = p.2.2.1 % 2 /\ p.1 % 2 = p.2.2.2 % 2) /\ ao p = 1 /\ p.1.natAbs <= 2 /\ p.2.1.natAbs <= 2 /\ p.2.2.1.natAbs <= 2 /\ p.2.2.2.natAbs <= 2 := by decide +kernel
theorem gR {p : Qd} (h : p ∈ qr) : al p /\ ao p = 1 /\ dm p := by
  obtain ⟨h1, h2, h3, h4, h5, h6⟩ := rz p h
  exact ⟨rk h1, h2, oz (m := 1) h3 (by decide), oz (m := 1) h4 (by decide), oz (m := 1) h5 (by decide), oz (m := 1) h6 (by decide)⟩
theorem iz {p : Qd} (hp : p ∈ qr) : gQ 1 p := ⟨(gR hp).1, (rz p hp).2.2⟩
end K
namespace K
open PySem PySem.Spec PyProof.Rows L2 Sp Qm
theorem ER (u : Int) : u.fmod 2 = u % 2 := Int.fmod_eq_emod_of_nonneg u (by decide)
end K
namespace K
open PySem PySem.Spec PyProof.Rows L2 Sp Qm
end K
namespace K
open PySem L2 Sp Qm
section
variable {Φ : Fx} {sc : Scope} {ρ ρ1 : aj} {ss : List Stmt}
theorem vn {c : Expr} {a b : List Stmt} {p : Pos} {t : Bool} {k : Nat} {P : aj -> Prop} (hc : ac (aA Φ c false sc ρ) (.bl t, k)) (h1 : t = true -> ∃ ρ', ac (aD Φ a sc ρ) (.nx ρ') /\ P ρ') (h2 : t = false -> ∃ ρ', ac (aD Φ b sc ρ) (.nx ρ') /\ P ρ') : ∃ ρ', ac (dC Φ (.If c a b p) sc ρ) (.nx ρ') /\ P ρ' := by
  have key : ∀ x, ac (cond t (aD Φ a sc ρ) (aD Φ b sc ρ)) x -> ac (dC Φ (.If c a b p) sc ρ) x := fun x hx => ac.bnd hc hx
  cases t with
  | true => obtain ⟨ρ', h, q⟩ := h1 rfl; exact ⟨ρ', key _ h, q⟩
  | false => obtain ⟨ρ', h, q⟩ := h2 rfl; exact ⟨ρ', key _ h, q⟩
theorem eT {P : aj -> Prop} (h : P ρ) : ∃ ρ', ac (aD Φ [] sc ρ) (.nx ρ') /\ P ρ' := ⟨ρ, dh, h⟩
theorem fq {s : Stmt} {P Q : aj -> Prop} (h : ∃ ρ1, ac (dC Φ s sc ρ) (.nx ρ1) /\ P ρ1) (k : ∀ ρ1, P ρ1 -> ∃ ρ2, ac (aD Φ ss sc ρ1) (.nx ρ2) /\ Q ρ2) : ∃ ρ2, ac (aD Φ (s :: ss) sc ρ) (.nx ρ2) /\ Q ρ2 := by
  obtain ⟨ρ1, h1, h2⟩ := h
  obtain ⟨ρ2, h3, h4⟩ := k ρ1 h2
  exact ⟨ρ2, bI h1 h3, h4⟩
theorem eI {s : Stmt} {Q : aj -> Prop} (h : ac (dC Φ s sc ρ) (.nx ρ1)) (k : ∃ ρ2, ac (aD Φ ss sc ρ1) (.nx ρ2) /\ Q ρ2) : ∃ ρ2, ac (aD Φ (s :: ss) sc ρ) (.nx ρ2) /\ Q ρ2 := by
  obtain ⟨ρ2, h3, h4⟩ := k
  exact ⟨ρ2, bI h h3, h4⟩
theorem wp (n : Nat) {Q : aj -> Prop} (h : ac (aD Φ (ss.take n) sc ρ) (.nx ρ1)) (k : ∃ ρ2, ac (aD Φ (ss.drop n) sc ρ1) (.nx ρ2) /\ Q ρ2) : ∃ ρ2, ac (aD Φ ss sc ρ) (.nx ρ2) /\ Q ρ2 := by
  obtain ⟨ρ2, h3, h4⟩ := k
  exact ⟨ρ2, bi n h h3, h4⟩
theorem uv {a b : Expr} {p : Pos} {it : Bool} {s t : Bool} {k j : Nat} (h : ac (aA Φ a false sc ρ) (.bl s, k)) (g : ac (aA Φ b false sc ρ) (.bl t, j)) : ac (aA Φ (.BoolOp .And [a, b] p) it sc ρ) (.bl (s && t), 0) := by
  refine dl (gS h (fun e => ?_) (fun e => ?_))
  . subst e
    refine gS g (fun e => ?_) (fun e => ?_)
    . subst e; exact oj
    . subst e; rfl
  . subst e; rfl
theorem sh {a b : Expr} {p : Pos} {it : Bool} {s t : Bool} {k j : Nat} (h : ac (aA Φ a false sc ρ) (.bl s, k)) (g : ac (aA Φ b false sc ρ) (.bl t, j)) : ac (aA Φ (.BoolOp .Or [a, b] p) it sc ρ) (.bl (s || t), 0) := by
  refine dl (sg h (fun e => ?_) (fun e => ?_))
  . subst e
    refine sg g (fun e => ?_) (fun e => ?_)
    . subst e; exact fu
    . subst e; rfl
  . subst e; rfl
end
theorem Aq (qs : List Qd) : am (qs.map dq) = true := by
  induction qs with
  | nil => rfl
  | cons n ns ih => exact ih
theorem HN (ms ns : List Int) : PyData.eqvAll (cF (ms.map D.int)) (cF (ns.map D.int)) = decide (ms = ns) := by
  induction ms generalizing ns with
  | nil =>
    cases ns with
    | nil => rfl
    | cons n ns => rfl
  | cons m ms ih =>
    cases ns with
    | nil => rfl
    | cons n ns =>
      rw [List.map_cons, List.map_cons, cF, cF, PyData.eqvAll, ih]
      show (m == n && decide (ms = ns)) = _
      rw [Bool.eq_iff_iff]
      simp
theorem Hw (ns : List Int) : PyData.canLayAll0 (cF (ns.map D.int)) = true := by
  induction ns with
  | nil => rfl
  | cons q qs ih => rw [List.map_cons, cF, PyData.canLayAll0, ih]; rfl
theorem HV (ns : List Int) : PyData.depthAll (cF (ns.map D.int)) = 0 := by
  induction ns with
  | nil => simp [cF, PyData.depthAll]
  | cons q qs ih => rw [List.map_cons, cF, PyData.depthAll, ih]; simp [D.py, PyData.depth]
theorem zZ (ns : List Int) : SeqAt.shaped (D.lst (ns.map D.int)).py = true := by
  unfold SeqAt.shaped
  rw [Bool.and_eq_true_iff]
  constructor
  . rw [D.py, PyData.canLay0]; exact Hw ns
  . rw [D.py, PyData.depth, HV]; rfl
theorem Hq (ms ns : List Int) : ac (gz .NotEq (.lst (ms.map D.int)) (.lst (ns.map D.int))) (!decide (ms = ns)) := by
  have e : cA (.lst (ms.map D.int)) (.lst (ns.map D.int)) = decide (ms = ns) := by
    show PyData.eqv (D.lst (ms.map D.int)).py (D.lst (ns.map D.int)).py = _
    rw [D.py, D.py, PyData.eqv]; exact HN ms ns
  exact ac.eq (bR rfl (by exact ⟨by unfold ib; rw [zZ, zZ]; rfl, True.intro⟩)) (by rw [e])
def jh (f : Qd) (os : List Int) (e : Qd) (qs : List Qd) : Bool := !(!decide (ao e = 1) || !decide (qs.map ao = os)) && decide (qs.foldl aq e = f)
def t8 : Qd -> List Qd -> Prop
  | _, [] => True
  | r, q :: qs => dm r /\ dm q /\ t8 (aq r q) qs
theorem wm {qs : List Qd} {p : Qd} {m n : Nat} (h : gQ m p) (g : ∀ q ∈ qs, gQ n q) (hl : m + (n + 1) * qs.length < 9000) (hn : n < 9000) : t8 p qs := by
  induction qs generalizing p m with
  | nil => exact True.intro
  | cons q qs ih =>
    rw [List.length_cons, Nat.mul_succ] at hl
    exact ⟨h.bd (by omega), (g q (by simp)).bd hn, ih (h.mul (g q (by simp))) (fun r hr => g r (by simp [hr])) (by omega)⟩
end K
namespace Sp
open PySem PySem.Spec PyProof.Rows L2
variable {X : Cx}
end Sp
namespace K
open PySem L2 Sp Qm
section
variable {Φ : Fx} {sc : Scope} {ρ ρ1 : aj} {ss : List Stmt}
theorem gQ.okD {s : Bool} {n : Nat} {p q : Qd} (h : gQ n p) (g : gQ n q) (h0 : q ≠ au) (hn : n <= 2000) : okD s p q := wn h.1 g.1 h0 h.2 g.2 (sE hn)
theorem gQ.szl {n : Nat} {p : Qd} (h : gQ n p) (hn : n + n <= 800) : ao p <= (KN : Nat) := by
  have := v3 h.2
  rw [<- Nat.pow_add] at this
  exact G8 (n := n + n) (by omega) hn
theorem gQ.okG {n : Nat} {p q : Qd} (h : gQ n p) (g : gQ n q) (hn : n + n <= 800) : okG p q := ⟨h.1, g.1, h.szl hn, g.szl hn⟩
theorem o8 {s : Bool} {p q k : Qd} (hk : al k) (hq : al q) (h0 : q ≠ au) (h : p = aH s k q) : iM s p q = dq k := by
  rw [Ch (h ▸ bZ hk hq) hq h0]
  exact yF hk hq h0 h
theorem vZ {p : Qd} (hp : al p) (h : p ≠ au) : ao p ≠ 0 := fun z => h (mM hp z)
theorem xp {s : Bool} {p q : Qd} (hp : al p) (hq : al q) (h : p ≠ au) (g : q ≠ au) : aH s p q ≠ au := fun z => by
  have e := ff (s := s) hp hq
  rw [z] at e
  rcases Int.mul_eq_zero.mp e.symm with e | e
  . exact vZ hp h e
  . exact vZ hq g e
end
end K
namespace K
open PySem L2 Sp Qm
section
variable {Φ : Fx} {sc : Scope} {ρ ρ1 : aj} {ss : List Stmt} {P Q : aj -> Prop}
def jt : Stmt -> Expr
  | .For t _ _ _ _ => t
  | _ => .Name (Str.ofString "") ⟨0, 0, 0, 0⟩
def lN : Stmt -> Expr
  | .For _ i _ _ _ => i
  | _ => .Name (Str.ofString "") ⟨0, 0, 0, 0⟩
def fh : Stmt -> List Stmt
  | .For _ _ b _ _ => b
  | _ => []
theorem lO {a : Expr} {p : Pos} {it : Bool} {b c : Bool} {k : Nat} (h : ac (aA Φ a false sc ρ) (.bl b, k)) (e : (!b) = c) : ac (aA Φ (.UnaryOp .Not a p) it sc ρ) (.bl c, 0) := by
  subst e
  exact (show ac (Rs.bnd (aA Φ a false sc ρ) fun p => (match vR .Not p.1 with | some d => .ok (d, 0) [] | none => .st)) (.bl (!b), 0) from ac.bnd h cC)
theorem PM (n : Nat) (h : ∃ ρ1, ac (aD Φ (ss.take n) sc ρ) (.nx ρ1) /\ Q ρ1) (k : ∀ ρ1, Q ρ1 -> ∃ ρ2, ac (aD Φ (ss.drop n) sc ρ1) (.nx ρ2) /\ P ρ2) : ∃ ρ2, ac (aD Φ ss sc ρ) (.nx ρ2) /\ P ρ2 := by
  obtain ⟨ρ1, h1, q⟩ := h
  obtain ⟨ρ2, h2, p⟩ := k ρ1 q
  exact ⟨ρ2, bi n h1 h2, p⟩
theorem PD {d : D} (n : Nat) (h : ∃ ρ1, ac (aD Φ (ss.take n) sc ρ) (.nx ρ1) /\ Q ρ1) (k : ∀ ρ1, Q ρ1 -> ac (aD Φ (ss.drop n) sc ρ1) (.rt d)) : ac (aD Φ ss sc ρ) (.rt d) := by
  obtain ⟨ρ1, h1, q⟩ := h
  exact bi n h1 (k ρ1 q)
theorem xu {α β : Type} {h : α -> D} {g : α -> List β} {T : List β} {bind : D -> aj -> Option aj} {body : aj -> Rs Fl} (Q : List β -> aj -> Prop) : ∀ (xs : List α) (F R : List β) (ρ : aj), (∀ x ∈ xs, ∀ F R ρ, F ++ (g x ++ R) = T -> Q F ρ -> ∃ ρ1, bind (h x) ρ = some ρ1 /\ ∃ ρ2, ac (body ρ1) (.nx ρ2) /\ Q (F ++ g x) ρ2) -> F ++ (xs.flatMap g ++ R) = T -> Q F ρ -> ∃ ρ', ac (cZ bind body (xs.map h) ρ) (.nx ρ') /\ Q (F ++ xs.flatMap g) ρ'
  | [], F, R, ρ, _, _, q => ⟨ρ, cC, by simpa using q⟩
  | x :: xs, F, R, ρ, st, e, q => by
    rw [List.flatMap_cons, List.append_assoc] at e
    obtain ⟨ρ1, h1, ρ2, h2, q2⟩ := st x List.mem_cons_self F _ ρ e q
    obtain ⟨ρ', h3, q3⟩ := xu Q xs (F ++ g x) R ρ2 (fun y hy => st y (List.mem_cons_of_mem _ hy)) (by rw [<- e]; simp only [List.append_assoc]) q2
    refine ⟨ρ', ?_, by rw [List.flatMap_cons, <- List.append_assoc]; exact q3⟩
    rw [List.map_cons, cZ, h1]
    exact ac.bnd h2 h3
theorem eJ {α β : Type} {h : α -> D} {g : α -> List β} {T : List β} {tg it : Expr} {body : List Stmt} {p : Pos} {d : D} {k : Nat} (Q : List β -> aj -> Prop) (xs : List α) {F R : List β} (hi : ac (aA Φ it true sc (demote it ρ)) (d, k)) (hd : items d = some (xs.map h)) (q : Q F (demote it ρ)) (e : F ++ (xs.flatMap g ++ R) = T) (st : ∀ x ∈ xs, ∀ F R ρ, F ++ (g x ++ R) = T -> Q F ρ -> ∃ ρ1, bN sc tg (h x) ρ = some ρ1 /\ ∃ ρ2, ac (aD Φ body sc ρ1) (.nx ρ2) /\ Q (F ++ g x) ρ2)
    (hk : k <= 1 := by first | exact Nat.le_refl 1 | exact Nat.zero_le 1) (ht : dZ it tg = true := by rfl) : ∃ ρ', ac (dC Φ (.For tg it body [] p) sc ρ) (.nx ρ') /\ Q (F ++ xs.flatMap g) ρ' := by
  obtain ⟨ρ', h1, h2⟩ := xu (bind := bN sc tg) (body := aD Φ body sc) Q xs F R _ st e q
  exact ⟨ρ', kz hi hd hk ht h1, h2⟩
theorem EN {tg it : Expr} {body : List Stmt} {p : Pos} {n : Nat} (ak : Nat -> aj -> Prop) (hi : ac (aA Φ it true sc (demote it ρ)) (.lst ((List.range n).map fun i => .int (i : Nat)), 0)) (h0 : ak 0 (demote it ρ))
    (step : ∀ i ρ, i < n -> ak i ρ -> ∃ ρ1, bN sc tg (.int (i : Nat)) ρ = some ρ1 /\ ∃ ρ2, ac (aD Φ body sc ρ1) (.nx ρ2) /\ ak (i + 1) ρ2) (rest : ∀ ρ', ak n ρ' -> P ρ') (ht : dZ it tg = true := by rfl) : ∃ ρ', ac (dC Φ (.For tg it body [] p) sc ρ) (.nx ρ') /\ P ρ' := by
  obtain ⟨ρ', h1, i, hi', e, h2⟩ := mX (bind := bN sc tg) (body := aD Φ body sc) (fun rem ρ => ∃ i, i <= n /\ rem = (List.range' i (n - i)).map (fun i => D.int (i : Nat)) /\ ak i ρ) (fun d l ρ ⟨i, hi, e, h⟩ => by
    have hlt : i < n := by
      rcases Nat.lt_or_ge i n with h | h
      . exact h
      . rw [show n - i = 0 by omega] at e; cases e
    obtain ⟨m, hm⟩ : ∃ m, n - i = m + 1 := ⟨n - i - 1, by omega⟩
    rw [hm, List.range'_succ, List.map_cons] at e
    cases e
    obtain ⟨ρ1, h1, ρ2, h2, h3⟩ := step i ρ hlt h
    exact ⟨ρ1, ρ2, h1, .inl h2, i + 1, hlt, by rw [show n - (i + 1) = m by omega], h3⟩) (ds := (List.range n).map fun i => D.int (i : Nat)) ⟨0, Nat.zero_le _, by rw [List.range_eq_range']; simp, h0⟩
  refine ⟨ρ', kz hi rfl (Nat.zero_le 1) ht h1, rest ρ' ?_⟩
  have : i = n := by
    rcases Nat.lt_or_ge i n with h | h
    . obtain ⟨m, hm⟩ : ∃ m, n - i = m + 1 := ⟨n - i - 1, by omega⟩
      rw [hm, List.range'_succ] at e; cases e
    . omega
  exact this ▸ h2
theorem qv {f : Str} {p q : Pos} {args : List Expr} {ds : List D} {k : Nat} {B : List D -> Nat -> R1} {v : D × Nat} (ha : ac (cx Φ args sc ρ) (ds, k)) (hv : ac (B ds k) v) (hF : Φ.fn f = none := by rfl) (hI : Φ.itr f = some B := by rfl) (hg : sc.names.lookup f = some .globalImplicit := by rfl) : ac (aA Φ (.Call (.Name f p) args [] q) true sc ρ) v := by
  rw [jv, if_pos hg]
  refine ac.bnd ha ?_
  unfold lV
  dsimp only
  rw [hF]
  dsimp only
  rw [if_pos rfl, hI]
  exact hv
theorem qY {m k : Nat} (h : m <= 1000) : ac (f7 [.int (m : Int)] k) (.lst ((List.range m).map fun i => .int (i : Nat)), 0) := ⟨_, rfl, by omega, by show (m : Int) <= ((40000 : Nat) : Int); omega, True.intro⟩
theorem uQ {s : Stmt} {fl : Fl} (h : ∃ ρ1, ac (dC Φ s sc ρ) (.nx ρ1) /\ Q ρ1) (k : ∀ ρ1, Q ρ1 -> ac (aD Φ ss sc ρ1) fl) : ac (aD Φ (s :: ss) sc ρ) fl := by
  obtain ⟨ρ1, h1, h2⟩ := h
  exact bI h1 (k ρ1 h2)
theorem qw {a b : List D} {k j : Nat} (h : am (a ++ b) = true) (hl : a.length + b.length <= bE) : ac (kG .Add (.lst a) (.lst b) k j) (.lst (a ++ b), 0) := ⟨_, rfl, h, hl, True.intro⟩
theorem n6 {x m : Str} {p ap cp q : Pos} {args : List Expr} {M : List D -> List D -> Nat -> Rs (List D)} {l ds l' : List D} {k : Nat} (ha : ac (cx Φ args sc ρ) (ds, k)) (hx : ρ x = some (.lst l, true)) (h : ac (M l ds k) l') (hm : Φ.mtt m = some M := by rfl) (hp : (ap.endLine == cp.line) = true := by rfl) (hn : gF x = true := by rfl) : ac (dC Φ (.Expr (.Call (.Attribute (.Name x p) m ap) args [] cp) q) sc ρ) (.nx (bT ρ x (.lst l', true))) := by
  show ac (if (ap.endLine == cp.line) = true then (cx Φ args sc ρ).bnd fun p => (match Φ.mtt m with
      | some M => oW ρ x fun l => (M l p.1 p.2).bnd fun l' => .ok (.nx (bT ρ x (.lst l', true))) []
      | none => .st) else .st) _
  rw [if_pos hp]
  refine ac.bnd ha ?_
  rw [hm]; dsimp only
  unfold oW
  rw [hx]; dsimp only
  rw [if_pos hn]
  exact ac.bnd h cC
theorem gT {a i : Expr} {p : Pos} {it : Bool} {ks : List bY} {ds : List D} {di d : D} {key : bY} {k k2 : Nat} (ha : ac (aA Φ a false sc ρ) (.dct ks ds, k)) (hi : ac (aA Φ i false sc ρ) (di, k2)) (hk : mW di = some key) (hd : kA ks ds key = some d) : ac (aA Φ (.Subscript a i p) it sc ρ) (d, 0) := by
  have key : ac ((aA Φ a false sc ρ).bnd fun p => (aA Φ i false sc ρ).bnd fun q => ji p q) (d, 0) := by
    refine ha.bnd (hi.bnd ?_)
    unfold ji; dsimp only
    rw [hk]; dsimp only
    rw [hd]; exact cC
  cases i with
  | Slice lo hi st p2 => exact (ar hi).elim
  | _ => exact key
theorem EZ {a : Expr} {p : Pos} {it : Bool} {i : Int} {k : Nat} (h : ac (aA Φ a false sc ρ) (.int i, k)) : ac (aA Φ (.UnaryOp .USub a p) it sc ρ) (.int (-i), 0) := ac.bnd h cC
theorem nY {ks : List bY} {ds : List D} {m : Int} {b : Bool} (h : e8 ks (.inl m) = b) : ac (gz .In (.int m) (.dct ks ds)) b := ⟨[], congrArg (fun b => Rs.ok b []) h, True.intro⟩
theorem sH {l : List D} {d : D} {k : Nat} (h : l.length < bE) (hd : d.lless = true := by rfl) : ac (lK l [d] k) (l ++ [d]) := ⟨_, rfl, .inl hd, h, True.intro⟩
theorem yW {α : Type} {elt tg iter c : Expr} {scope : Scope} {p : Pos} {it : Bool} {d : D} {g f : α -> D} {t : α -> Bool} {l : List α} {k : Nat} (hi : ac (aA Φ iter true sc ρ) (d, k)) (hd : items d = some (l.map g)) (hl : l.length <= bE) (hk : am (l.map g) = true \/ k <= 1)
    (h : ∀ x ∈ l, ∃ ρ' j, bN scope tg (g x) (flt scope ρ) = some ρ' /\ ac (aA Φ c false scope ρ') (.bl (t x), j) /\ (t x = true -> ac (aA Φ elt false scope ρ') (f x, 0))) (hc : mG sc scope = true := by rfl) (ht : dZ iter tg = true := by rfl) : ac (aA Φ (.ListComp elt [⟨tg, iter, [c], 0⟩] scope p) it sc ρ) (.lst ((l.filter t).map f), 0) := by
  refine uu hi hd ⟨by rw [List.length_map]; exact hl, hk⟩ (kC fun x hx => ?_) (Nat.zero_le _) hc ht
  obtain ⟨ρ', j, h1, h2, h3⟩ := h x hx
  rw [h1]
  refine ac.bnd (a := t x) (gS h2 (fun e => by rw [e]; exact oj) (fun e => e)) ?_
  cases e : t x with
  | false => exact cC
  | true =>
    show ac ((aA Φ elt false scope ρ').bnd fun r => .ok (some r) []) (some (f x, 0))
    exact ac.bnd (h3 e) cC
end
def f6 : List Int := [0, 1, 2, 3, 4, 5, 6, 7, 8, 9, 10, 11, 12, 13, 14, 15, 16, 17, 18, 19, 20]
def mw (l : List Int) : List bY := l.map fun d => .inl (d * d)
def tX (l : List Int) : List D := l.map D.int
def qX (l : List Int) (m : Int) : Option Int := l.find? fun d => decide (d * d = m)
theorem rS (m : Int) : ∀ l : List Int, e8 (mw l) (.inl m) = (qX l m).isSome
  | [] => rfl
  | d :: l => by
    show (decide ((Sum.inl (d * d) : bY) = .inl m) || e8 (mw l) (.inl m)) = _
    rw [rS m l]
    unfold qX
    by_cases e : d * d = m
    . rw [List.find?_cons, decide_eq_true e, decide_eq_true (congrArg Sum.inl e)]; rfl
    . rw [List.find?_cons, decide_eq_false e, decide_eq_false (fun z => e (Sum.inl.inj z))]; rfl
theorem wW (m : Int) : ∀ l : List Int, kA (mw l) (tX l) (.inl m) = (qX l m).map D.int
  | [] => rfl
  | d :: l => by
    have ih := wW m l
    unfold kA qX at ih ⊢
    show Option.map _ (List.find? _ ((Sum.inl (d * d), D.int d) :: (mw l).zip (tX l))) = _
    by_cases e : d * d = m
    . rw [List.find?_cons, List.find?_cons, decide_eq_true e, decide_eq_true (congrArg Sum.inl e)]; rfl
    . rw [List.find?_cons, List.find?_cons, decide_eq_false e, decide_eq_false (fun z => e (Sum.inl.inj z))]; exact ih
theorem tW {m d : Int} (h : qX f6 m = some d) : d * d = m /\ 0 <= d /\ d <= 20 := by
  have h1 := List.find?_some h
  have h2 := List.mem_of_find?_eq_some h
  have h3 : ∀ x ∈ f6, 0 <= x /\ x <= 20 := by decide
  exact ⟨of_decide_eq_true h1, h3 d h2⟩
def ej (n par : Int) : List Int := ((List.range 41).map fun i : Nat => -20 + (i : Int)).filter fun k => decide (k.fmod 2 = par) && decide (k * k <= 4 * n)
def mC (n a b c : Int) : Int := 4 * n - a * a - b * b - c * c
def jy (n par a b c : Int) : List Qd :=
  match qX f6 (mC n a b c) with
  | some d => if d.fmod 2 = par then (a, b, c, d) :: (if 0 < mC n a b c then [(a, b, c, -d)] else []) else []
  | none => []
def vt (n par a b : Int) : List Qd := (ej n par).flatMap (jy n par a b)
def vv (n par a : Int) : List Qd := (ej n par).flatMap (vt n par a)
def vw (n par : Int) : List Qd := (ej n par).flatMap (vv n par)
def eO (n : Int) : List Qd := ([0, 1] : List Int).flatMap (vw n)
theorem km {α β : Type} {f : α -> List β} {m : Nat} : ∀ (l : List α), (∀ x ∈ l, (f x).length <= m) -> (l.flatMap f).length <= l.length * m
  | [], _ => by simp
  | x :: l, h => by
    rw [List.flatMap_cons, List.length_append, List.length_cons, Nat.add_mul]
    have h1 := h x List.mem_cons_self
    have h2 := km l fun y hy => h y (List.mem_cons_of_mem _ hy)
    omega
theorem wJ {α : Type} {p q : α -> Bool} : ∀ l : List α, (l.filter fun k => p k && q k).length <= (l.filter p).length
  | [] => Nat.le_refl _
  | x :: l => by
    have := wJ (p := p) (q := q) l
    rw [List.filter_cons, List.filter_cons]
    cases p x <;> cases q x <;> simp only [Bool.and_true, Bool.and_false, Bool.false_eq_true, if_false, if_true, List.length_cons] <;> omega
theorem qS {n par : Int} (h : par = 0 \/ par = 1) : (ej n par).length <= 21 := by
  refine Nat.le_trans (wJ _) ?_
  rcases h with rfl | rfl <;> decide
theorem za (n par a b c : Int) : (jy n par a b c).length <= 2 := by
  unfold jy
  split
  . split
    . split <;> simp
    . simp
  . simp
theorem yU (n : Int) : (eO n).length <= 37044 := by
  have k0 : ∀ par : Int, par = 0 \/ par = 1 -> (vw n par).length <= 18522 := fun par h => by
    have s := qS (n := n) h
    have k2 : ∀ a b, (vt n par a b).length <= 42 := fun a b => Nat.le_trans (km _ fun c _ => za n par a b c) (by omega)
    have k1 : ∀ a, (vv n par a).length <= 882 := fun a => Nat.le_trans (km _ fun b _ => k2 a b) (by omega)
    exact Nat.le_trans (km _ fun a _ => k1 a) (by omega)
  exact Nat.le_trans (km (m := 18522) _ fun par h => k0 par (by simpa using h)) (by decide)
theorem fF {n par k : Int} (h : k ∈ ej n par) : k.fmod 2 = par /\ -20 <= k /\ k <= 20 := by
  unfold ej at h
  rw [List.mem_filter, List.mem_map] at h
  obtain ⟨⟨i, hi, rfl⟩, h2⟩ := h
  rw [Bool.and_eq_true] at h2
  have h3 : i < 41 := by simpa using hi
  exact ⟨of_decide_eq_true h2.1, by omega, by omega⟩
theorem y9 {n par a b c : Int} {q : Qd} (ha : a ∈ ej n par) (hb : b ∈ ej n par) (hc : c ∈ ej n par) (h : q ∈ jy n par a b c) : gQ 5 q /\ ao q = n := by
  obtain ⟨a1, a2, a3⟩ := fF ha
  obtain ⟨b1, b2, b3⟩ := fF hb
  obtain ⟨c1, c2, c3⟩ := fF hc
  unfold jy at h
  split at h
  . rename_i d hd
    obtain ⟨d1, d2, d3⟩ := tW hd
    split at h
    . rename_i hp
      rw [Int.fmod_eq_emod_of_nonneg _ (by decide)] at a1 b1 c1 hp
      have key : ∀ e : Int, e * e = d * d -> e % 2 = d % 2 -> e.natAbs <= 20 -> gQ 5 (a, b, c, e) /\ ao (a, b, c, e) = n := fun e he hp2 h20 => by
        refine ⟨⟨iX.mpr ⟨by show b % 2 = a % 2; omega, by show c % 2 = a % 2; omega, by show e % 2 = a % 2; omega⟩, by show a.natAbs <= 32; omega, by show b.natAbs <= 32; omega, by show c.natAbs <= 32; omega, by show e.natAbs <= 32; omega⟩, ?_⟩
        show (a * a + (b * b + (c * c + (e * e + 0)))).fdiv 4 = n
        rw [he, d1]
        unfold mC
        rw [show a * a + (b * b + (c * c + (4 * n - a * a - b * b - c * c + 0))) = 4 * n by omega, Qm.fd4]
      rcases List.mem_cons.mp h with rfl | h
      . exact key d rfl rfl (by omega)
      . split at h
        . have := List.mem_singleton.mp h
          subst this
          exact key (-d) (by rw [Int.neg_mul_neg]) (by omega) (by omega)
        . cases h
    . cases h
  . cases h
theorem yT {n : Int} {q : Qd} (h : q ∈ eO n) : gQ 5 q /\ ao q = n := by
  unfold eO at h
  obtain ⟨par, _, h⟩ := List.mem_flatMap.mp h
  unfold vw at h
  obtain ⟨a, ha, h⟩ := List.mem_flatMap.mp h
  unfold vv at h
  obtain ⟨b, hb, h⟩ := List.mem_flatMap.mp h
  unfold vt at h
  obtain ⟨c, hc, h⟩ := List.mem_flatMap.mp h
  exact y9 ha hb hc h
def de : List Int := [2, 3, 5, 7, 11, 13, 17, 19, 23, 29, 31, 37, 41, 43, 47, 53, 59, 61, 67, 71, 73, 79, 83, 89, 97]
theorem wY : ∀ n ∈ de, (eO n).isEmpty = false := by decide +kernel
theorem rY {n : Int} (h : n ∈ de) : 0 < (eO n).length := by
  have := wY n h
  cases e : eO n with
  | nil => rw [e] at this; cases this
  | cons x l => simp
end K
namespace K
open PySem L2 Sp Qm
theorem Fb (p q : Qd) : PyData.eqv (dq p).py (dq q).py = decide (p = q) := fS p q
theorem w9 : ∀ ps qs : List Qd, PyData.eqvAll (cF (ps.map dq)) (cF (qs.map dq)) = decide (ps = qs)
  | [], [] => by rw [List.map_nil, cF, PyData.eqvAll]; rfl
  | [], q :: qs => by rw [List.map_nil, List.map_cons, cF, cF]; simp [PyData.eqvAll]
  | p :: ps, [] => by rw [List.map_nil, List.map_cons, cF, cF]; simp [PyData.eqvAll]
  | p :: ps, q :: qs => by
    rw [List.map_cons, List.map_cons, cF, cF, PyData.eqvAll, Fb, w9 ps qs]
    by_cases h : p = q
    . by_cases g : ps = qs
      . simp [h, g]
      . simp [h, g]
    . simp [h]
theorem zY (qs : List Qd) : SeqAt.shaped (D.lst (qs.map dq)).py = true := by
  unfold SeqAt.shaped
  rw [Bool.and_eq_true_iff]
  constructor
  . rw [D.py, PyData.canLay0]; exact Hv qs
  . rw [D.py, PyData.depth]; have := HU qs; exact decide_eq_true (by omega)
theorem HP (ps qs : List Qd) : cA (.lst (ps.map dq)) (.lst (qs.map dq)) = decide (ps = qs) := by
  show PyData.eqv (D.lst (ps.map dq)).py (D.lst (qs.map dq)).py = _
  rw [D.py, D.py, PyData.eqv]; exact w9 ps qs
theorem Fc (ps qs : List Qd) : ib (.lst (ps.map dq)) (.lst (qs.map dq)) = true := by unfold ib; rw [zY, zY]; rfl
theorem uB (ps qs : List Qd) : ac (gz .Eq (.lst (ps.map dq)) (.lst (qs.map dq))) (decide (ps = qs)) := ac.eq ⟨_, rfl, Fc ps qs, True.intro⟩ (HP ps qs)
abbrev jQ (u : Qd) (qs : List Qd) : D := .tup [dq u, .lst (qs.map dq)]
theorem fR {α β : Type} (f : α -> β) : ∀ l : List α, (l.flatMap fun x => [f x]) = l.map f
  | [] => rfl
  | x :: l => by rw [List.flatMap_cons, fR f l]; rfl
theorem EO {Φ : Fx} {sc : Scope} {ρ : aj} {α : Type} {h : α -> D} {tg it : Expr} {body : List Stmt} {p : Pos} {d : D} {k : Nat} (Q : List α -> aj -> Prop) (xs : List α) (hi : ac (aA Φ it true sc (demote it ρ)) (d, k)) (hd : items d = some (xs.map h)) (q : Q [] (demote it ρ)) (st : ∀ x ∈ xs, ∀ F R ρ, F ++ x :: R = xs -> Q F ρ -> ∃ ρ1, bN sc tg (h x) ρ = some ρ1 /\ ∃ ρ2, ac (aD Φ body sc ρ1) (.nx ρ2) /\ Q (F ++ [x]) ρ2)
    (hk : k <= 1 := by first | exact Nat.le_refl 1 | exact Nat.zero_le 1) (ht : dZ it tg = true := by rfl) : ∃ ρ', ac (dC Φ (.For tg it body [] p) sc ρ) (.nx ρ') /\ Q xs ρ' := by
  have fa := eJ (g := fun x => [x]) (T := xs) (F := []) (R := []) (p := p) (body := body) Q xs hi hd q (by rw [fR]; simp) (fun x hx F R ρ e s => st x hx F R ρ e s) hk ht
  rw [List.nil_append, fR, List.map_id'] at fa
  exact fa
theorem rG {α : Type} (d : α) (ws : List α) : ws = (List.range ws.length).map fun i => ws.getD i d := by
  apply List.ext_getElem?
  intro i
  by_cases h : i < ws.length
  . rw [List.getElem?_map, List.getElem?_range h]
    simp [h]
  . rw [List.getElem?_eq_none (by omega), List.getElem?_eq_none (by simp; omega)]
theorem uy {f : Nat -> D} (n : Nat) : gx 0 ((List.range n).map f) = (List.range n).map fun i => .tup [.int (i : Nat), f i] := by
  rw [lT]
  apply List.ext_getElem?
  intro i
  by_cases h : i < n
  . simp [h]
  . rw [List.getElem?_eq_none (by simp; omega), List.getElem?_eq_none (by simp; omega)]
end K
namespace Sp
open PySem PySem.Spec PyProof.Rows L2
variable {X : Cx}
def PR (K : W.Frag) (a : Addr) (n : Nat) : It :=
  ⟨fun i H => ∃ xs x, cv K H a xs /\ xs.length = n /\ i < n /\ xs[n - 1 - i]? = some x, fun i H x H' => H' = H /\ ∀ xs, cv K H a xs -> xs[n - 1 - i]? = some x, fun i H => ∃ xs, cv K H a xs /\ xs.length = n /\ n <= i⟩
theorem xU {P : Program} {w : World} {K : W.Frag} {tg : Expr} (a it : Addr) (n : Nat) : L2.Turn P w K tg (PR K a n) [it] it (fun i h => i <= n /\ h.IsRevIter it a ((n : Int) - 1 - (i : Int))) where
  mem := by simp
  obj := fun i h st b hb => by
    have e : b = it := by simpa using hb
    subst e
    obtain ⟨_, o, e, c, d⟩ := st
    exact ⟨o, e, fun v z => by rw [d] at z; cases z⟩
  keep := fun i h h' st k => ⟨st.1, st.2.at fun o e => k it (by simp) o e⟩
  item := by
    intro X hP hw hK hc i pins s σ H E I hf st hg
    subst hP hw hK
    obtain ⟨xs, x, hq, hn, hi, hx⟩ := hg
    obtain ⟨its, rv, p, hz⟩ := I.list hq
    obtain ⟨u, hu, ru⟩ := rv.get hx
    obtain ⟨f0, f1, f2, f3, f4, f5⟩ := hf it (by simp)
    have e : (n : Int) - 1 - (i : Int) = ((n - 1 - i : Nat) : Int) := by omega
    have st := st.2
    rw [e] at st
    refine wpAny_pyNext_rev_item st p.isList (x := u) (by simpa using hu) fun h' st' sb => ?_
    have I1 : ak X pins σ H { s with heap := h' } := I.turned (t' := s.toks) (fun b o hb e => (sb.2 b hb).trans e) f0 f1 f3 f4 f5
    have e2 : ((n - 1 - i : Nat) : Int) - 1 = (n : Int) - 1 - ((i + 1 : Nat) : Int) := by omega
    rw [e2] at st'
    obtain ⟨o, e, c, d⟩ := id st'
    exact ⟨u, rfl, qu (s := { s with heap := h' }) e c d (by decide) ⟨x, H, I1, ru, ⟨rfl, fun ys hy => by rw [I.list_inj hy hq]; exact hx⟩, ⟨hi, st'⟩, fun b hb => (hf b hb).1⟩⟩
  done := by
    intro X hP hw hK hc i pins s σ H E I hf st hg
    subst hP hw hK
    obtain ⟨xs, hq, hn, hx⟩ := hg
    obtain ⟨f0, f1, f2, f3, f4, f5⟩ := hf it (by simp)
    have e : (n : Int) - 1 - (i : Int) = -1 := by have := st.1; omega
    have st := st.2
    rw [e] at st
    exact wpAny_pyNext_rev_end (I.ok.hd hc) st fun h' eb => ⟨rfl, I.turned (t' := s.toks) (fun b o hb e => eb b o hb e) f0 f1 f3 f4 f5⟩
  self := fun _ _ _ _ _ st h => wpAny_pyIter_revIter st.2 h
def yN (ds : List D) (k : Nat) : R1 :=
  match ds with
  | [.lst a] => .ok (.lst a.reverse, k) [am a = true]
  | _ => .st
theorem EI {ρ : aj} {tg : Expr} {p pos : Pos} {a : Expr} {l : List D} {k : Nat} (hg : Gl X "reversed") (hm0 : X.mg "reversed" = none) (ha : AD X ρ [a] [.lst l] k) (hst : ∀ y p, a ≠ .Starred y p) (hf : am l = true) :
    IE X ρ tg (.Call (.Name "reversed" p) [a] [] pos) l.reverse k := by
  intro ow pins s σ H R I ⟨E, q⟩
  refine Call_ (dS I hg hm0 (show bootBuiltins "reversed" = some (.type "reversed") by decide +kernel) (PyProof.Rows.callWith_type1 (aS (ha ow pos pins s σ H (fun vs H1 => aF H H1 /\ ag X.K H1 (Kp ow H k) [.lst l] vs) I ⟨E, fun vs H1 s1 r1 => ⟨s1, r1⟩⟩) fun us s1 ⟨vs, H1, I1, rv, sm, rp⟩ => ?_) (bA hst) rfl) (by decide +kernel) (by decide +kernel))
  obtain ⟨v, rfl, rv1⟩ := rp.only
  obtain ⟨ta, xs, rfl, hq, rl, hk1⟩ := jU (κ := false) rv1
  replace hq : cv X.K H1 ta xs := hq
  obtain ⟨u, rfl, ru⟩ := eB rv
  cases (show u = Value.ref ta from ru)
  obtain ⟨its, rvs, pt, hz⟩ := I1.list hq
  have hlen : its.length = xs.length := rvs.length.symm
  refine call_reversed_list (show s1.heap.IsList ta its.toArray from pt.isList) ?_
  have isR : (s1.heap.push (revObj ta ((its.toArray.size : Int) - 1))).IsRevIter s1.heap.objs.size ta ((xs.length : Int) - 1 - ((0 : Nat) : Int)) := ⟨_, Heap.get?_push_size _ rfl, rfl, by simp [revObj, hlen]⟩
  refine wpAny_pyIter_revIter isR ?_
  have I2 : ak X pins σ H1 { s1 with heap := s1.heap.push (revObj ta ((its.toArray.size : Int) - 1)) } := I1.kept (t' := s1.toks) fun b o z => Heap.get?_push_of_some _ z
  have f0 : H1 s1.heap.objs.size = none := I1.hok.fresh (Nat.le_refl _)
  refine ⟨s1.heap.objs.size, [s1.heap.objs.size], _, _, H1, rfl, I2, xU ta _ xs.length, ⟨Nat.zero_le _, isR⟩, fun b hb => ?_, q _ H1 sm ?_⟩
  . have eb : b = s1.heap.objs.size := by simpa using hb
    subst eb
    exact I1.fpOk (Nat.le_refl _) f0
  . intro i H2 st
    have rl' : ag X.K H1 (Kd ow H k H1) l xs := rl.flat _ hf
    have ll := rl.length
    refine ⟨fun d hd => ?_, fun hle => ?_⟩
    . have hi : i < l.length := by
        have := (List.getElem?_eq_some_iff.mp hd).1
        rwa [List.length_reverse] at this
      rw [List.getElem?_reverse hi] at hd
      obtain ⟨y, hy, ry⟩ := rl'.get hd
      rw [ll] at hy
      refine ⟨⟨xs, y, hk1 st, rfl, by omega, hy⟩, fun x' H3 ⟨e1, e2⟩ => ?_⟩
      have hv := e2 xs (hk1 st)
      rw [hy] at hv; cases hv
      subst e1
      exact ⟨aF.refl _, ry.mono st⟩
    . rw [List.length_reverse] at hle
      exact ⟨xs, hk1 st, rfl, by omega⟩
theorem B9 : jC "reversed" yN := by
  refine ⟨by decide +kernel, fun X ρ p pos args ds k d j l tg o hc hg hm ha hst hlen h hp hl ht => ?_⟩
  unfold yN at h
  split at h
  . cases h
    cases hl
    match args, hlen, ha, hst with
    | [a'], _, ha, hst => exact EI hg hm ha (hst a' List.mem_cons_self) hp.1
  . cases h
end Sp
namespace Sp
open PySem PySem.Spec PyProof.Rows L2
variable {X : Cx}
def Kj : V -> List V -> Hp -> VK -> Prop := fun x vs H Q => ∃ l xs i y, x = .ref l /\ vs = [.int i, y] /\ H l = some (.lst xs) /\ 0 <= i /\ i <= (xs.length : Nat) /\ xs.length < sizeLine /\ Q .non (bh H l (.lst (xs.take i.toNat ++ y :: xs.drop i.toNat)))
theorem aL.takeD {xs : List V} {us : List Value} (r : aL xs us) (n : Nat) {y : V} {u : Value} (ry : aW y u) : aL (xs.take n ++ y :: xs.drop n) (us.take n ++ u :: us.drop n) := (r.take n).append (.cons ry (r.drop n))
theorem wt : Gx X "list.insert" Kj := by
  intro pins s σ H x vs v us Q I rx rv h
  obtain ⟨l, xs, i, y, rfl, rfl, hH, h0, h1, hz, q⟩ := h
  cases rx
  cases rv with
  | cons r1 rv =>
    cases rv with
    | cons r2 rv =>
      rename_i u _
      cases rv
      obtain ⟨t, rfl⟩ := r1
      obtain ⟨z, its, n, r, hl, e⟩ := I.lstM hH
      have hn := ki
      have hf : Builtin.List.listFitsIndex i = true := fitsIndex_both (by omega) (by omega)
      refine call_meets F.slot_list_insert ⟨_, e, rfl⟩ F.entry_list_insert (F.args_list_insert_3 _ _ _) (AutoSeq1.list_insert_list_int_val_1 l its.toArray n i t u (by rw [hf]; decide) (by rw [List.size_toArray]; omega)) ⟨e, ?_⟩
      refine ⟨.non, _, I.lset (its' := its.take i.toNat ++ u :: its.drop i.toNat) hH e ?_ (aL.takeD r _ r2) ?_, rfl, q⟩
      . have hk : (if i < 0 then (i + ((its.toArray.size : Nat) : Int)).toNat else min i.toNat its.toArray.size) = i.toNat := by
          rw [if_neg (by omega), List.size_toArray]; omega
        show (have k := if i < 0 then (i + ((its.toArray.size : Nat) : Int)).toNat else min i.toNat its.toArray.size; (its.toArray.extract 0 k).push u ++ its.toArray.extract k) = _
        rw [hk]
        simp
        exact List.take_of_length_le (by rw [List.length_drop]; exact Nat.le_refl _)
      . simp; omega
def lJ (l ds : List D) (_ : Nat) : Rs (List D) :=
  match ds with
  | [.int i, d] => .ok (l.take i.toNat ++ d :: l.drop i.toNat) [0 <= i, i <= (l.length : Nat), d.lless = true, l.length < bE]
  | _ => .st
theorem vg : mi "insert" lJ := fun X hc => ⟨"list.insert", _, PySem.F.slot_list_insert, PySem.F.type_list_insert, wt, fun ow H0 H l ds l' j o a vs ws h hp => by
  unfold lJ at h
  split at h
  . rename_i i d
    cases h
    obtain ⟨c0, c1, c2, c3, _⟩ := hp
    refine ⟨by simp, fun P Q hP oi sm ha rl rd q => ?_⟩
    rw [ag] at rd
    obtain ⟨v, r, rfl, g1, rd⟩ := rd
    rw [ah] at g1
    subst g1
    obtain ⟨w, rfl, rw'⟩ := rd.only
    refine ⟨a, vs, i, w, rfl, rfl, ha, c0, ?_, ?_, q _ _ ((rl.take _).append (ag.cons (rw'.flat _ c2) (rl.drop _)))⟩
    . rw [<- rl.length]; exact c1
    . rw [<- rl.length]; exact Nat.lt_trans c3 ke
  . cases h⟩
end Sp
namespace Sp
open PySem PySem.Spec PyProof.Rows L2
section
variable {prog : Program} {w : World} {A : Around} {E : Value -> Shared -> Prop} {s : Shared}
theorem vi : typeLookup (.type "list_reverseiterator") "__len__" = pure none := by rw [typeLookup_type, builtinLookup_eq_fast]; kernel_rfl
theorem yC : typeLookup (.type "list_reverseiterator") "__length_hint__" = pure (some (.builtin "list_reverseiterator.__length_hint__")) := by rw [typeLookup_type, builtinLookup_eq_fast]; kernel_rfl
theorem BU : isSubtype (.type "list_reverseiterator") (.type "list_reverseiterator") = pure true := by kernel_rfl
theorem wE : splitId "list_reverseiterator.__length_hint__" = some ("list_reverseiterator", "__length_hint__") := by decide +kernel
theorem wF {S I l : Nat} {items : Array Value} {res : Value} {R : Result -> Shared -> Prop} (hh : A.in1.handled = none) (n1 : S ≠ I) (n2 : S ≠ l) (n3 : l ≠ I) : ∀ (k : Nat) (s : Shared) (acc : Array Value) (c : Nat), k <= items.size -> s.heap.IsRevIter I l ((k : Int) - 1) -> s.heap.IsList l items -> s.heap.get? S = some (rE acc c) -> acc.size + k <= sizeLine ->
    (∀ h' acc' c', h'.get? S = some (rE acc' c') -> acc'.toList = acc.toList ++ (items.toList.take k).reverse -> (∀ (b : Nat) o, b ≠ S -> b ≠ I -> s.heap.get? b = some o -> h'.get? b = some o) -> R (.ok (.ret res)) { s with heap := h' }) ->
    codeAny (model prog w) A (.builtin "list.extend.loop" ⟨[.ref S, .ref I, res], []⟩) R s
  | 0, s, acc, c, _, st, pl, hS, hz, q => by
    refine ug (wpAny_pyNext_rev_end hh (by simpa using st) fun h' eb => ?_)
    exact q h' acc c (eb _ _ n1 hS) (by simp) fun b o _ hb e => eb b o hb e
  | k + 1, s, acc, c, hk, st, pl, hS, hz, q => by
    have e : ((k + 1 : Nat) : Int) - 1 = (k : Int) := by omega
    rw [e] at st
    have hx : items[k]? = some items[k] := Array.getElem?_eq_getElem (by omega)
    refine ug (wpAny_pyNext_rev_item st pl hx fun h' st' sb => ?_)
    refine ⟨acc, c, (sb.2 _ n1).trans hS, by omega, fun h2 c2 hS2 sb2 => ?_⟩
    have sb2 : Heap.SameBut S h' h2 := sb2
    obtain ⟨o, e1, e2, e3⟩ := st'
    obtain ⟨o2, f1, f2, f3⟩ := pl
    refine wF hh n1 n2 n3 k { s with heap := h2 } (acc.push items[k]) c2 (by omega) ⟨o, (sb2.2 _ (Ne.symm n1)).trans e1, e2, e3⟩ ⟨o2, (sb2.2 _ (Ne.symm n2)).trans ((sb.2 _ n3).trans f1), f2, f3⟩ hS2 (by rw [Array.size_push]; omega) fun h3 acc' c' g1 g2 g3 => ?_
    refine q h3 acc' c' g1 ?_ fun b o hb1 hb2 e => g3 b o hb1 hb2 ((sb2.2 b hb1).trans ((sb.2 b hb2).trans e))
    rw [g2, Array.toList_push, List.take_add_one, List.append_assoc]
    congr 1
    have : items.toList[k]? = some items[k] := by rw [Array.getElem?_toList]; exact hx
    rw [this]
    simp
theorem yE {n l : Nat} {items : Array Value} {Q : Value -> Shared -> Prop} (hh : A.handled = none) (hl : l < n) (st : s.heap.IsRevIter n l ((items.size : Int) - 1)) (pl : s.heap.IsList l items) (sz : s.heap.objs.size = n + 1) (hz : items.size <= sizeLine)
    (go : ∀ h1 acc m, h1.get? (n + 1) = some (rE acc m) -> acc.toList = items.toList.reverse -> (∀ (d : Nat) o, d < n -> s.heap.get? d = some o -> h1.get? d = some o) -> Q (.ref (n + 1)) { s with heap := h1 }) :
    wpAny (model prog w) A (call (.type "list") [.ref n]) Q E s := by
  obtain ⟨h0, gg, dd, t0, oo⟩ := s
  have sz : h0.objs.size = n + 1 := sz
  refine callType_codes (Q₁ := fun ob s₁ => ob = .ref (n + 1) /\ s₁ = ⟨h0.push { cls := .type "list", data := .seq #[] }, gg, dd, t0, oo⟩) F.called_list (F.typeCall_list_1 _) F.entry_list_init (code_list_new _ ⟨by show Value.ref h0.objs.size = _; rw [sz], rfl⟩) fun ob s₁ hq => ?_
  obtain ⟨rfl, rfl⟩ := hq
  have hS : (h0.push { cls := .type "list", data := .seq #[] }).get? (n + 1) = some (rE #[] 0) := by rw [<- sz]; exact Heap.get?_push_size _ rfl
  refine ⟨⟨_, hS, rfl⟩, F.args_list_init_2 _ _, ?_⟩
  show wpAny _ A.in1.in1 (Builtin.List.listItems (.ref (n + 1)) >>= fun old => Builtin.List.listUpdate (.ref (n + 1)) (fun _ => #[]) >>= fun _ => letGo old.toList.reverse >>= fun _ => Builtin.List.listExtendWith (.ref (n + 1)) (.ref n) .none) _ _ _
  unfold Builtin.List.listItems
  refine wpAny_bind (wpAny_bind (wpAny_seqItems hS rfl (wpAny_pure ?_)))
  show wpAny _ A.in1.in1 (updateSeq (n + 1) (fun _ => #[]) >>= _) _ _ _
  refine wpAny_bind (wpAny_updateSeq hS rfl ?_)
  refine wpAny_bind (wpAny_letGo ?_)
  have S1 := Heap.get?_update_self (Obj.mapSeq (fun _ => (#[] : Array Value))) hS rfl
  generalize hr1 : (h0.push { cls := .type "list", data := .seq #[] }).update (n + 1) (Obj.mapSeq fun _ => (#[] : Array Value)) = r1 at S1
  have k1 : ∀ (d : Nat) o, d ≠ n + 1 -> h0.get? d = some o -> r1.get? d = some o := fun d o g e => by rw [<- hr1]; exact (Heap.get?_update_other _ _ (Ne.symm g)).trans (Heap.get?_push_of_some _ e)
  obtain ⟨m1, S1⟩ : ∃ m, r1.get? (n + 1) = some (rE #[] m) := ⟨_, S1⟩
  obtain ⟨o, e1, e2, e3⟩ := st
  obtain ⟨o2, f1, f2, f3⟩ := pl
  have z1 : r1.IsRevIter n l ((items.size : Int) - 1) := ⟨o, k1 _ _ (by omega) e1, e2, e3⟩
  have p1 : r1.IsList l items := ⟨o2, k1 _ _ (by omega) f1, f2, f3⟩
  have ty : Shared.TypeIs ⟨r1, gg, dd, t0, oo⟩ (.ref n) "list_reverseiterator" := ⟨_, k1 _ _ (by omega) e1, e2⟩
  unfold Builtin.List.listExtendWith
  refine wpAny_bind (wpAny_typeOf ty ?_)
  have g1 : Builtin.List.listSameRef (.ref (n + 1)) (.ref n) = false := by simp [Builtin.List.listSameRef]
  have g2 : (Value.type "list_reverseiterator" == Value.type "list") = false := by decide
  have g3 : (Value.type "list_reverseiterator" == Value.type "tuple") = false := by decide
  simp only [g1, g2, g3, Bool.or_false, Bool.false_eq_true, if_false]
  refine wpAny_bind (wpAny_pyIter_revIter z1 (wpAny_bind (wpAny_holding ?_)))
  unfold Builtin.List.listLengthHint
  refine wpAny_bind (wpAny_specialOf ty vi ?_)
  show wpAny _ _ (specialOf (Value.ref n) (Str.ofString "__length_hint__") >>= _) _ _ _
  refine wpAny_bind (wpAny_specialOf ty yC ?_)
  dsimp only
  rw [wE]
  refine wpAny_bind (wpAny_isInstance ty BU ?_)
  rw [if_neg (by decide)]
  rw [if_pos (by decide +kernel)]
  rw [if_neg (by decide)]
  refine wpAny_pure ?_
  rw [if_neg (by decide +kernel)]
  refine wpAny_pure ⟨plainId_quiet F.plain_extend_loop _, ?_⟩
  refine wF (A := A.in1) (S := n + 1) (I := n) (l := l) hh (by omega) (by omega) (by omega) items.size ⟨r1, gg, dd, t0, oo⟩ #[] m1 (Nat.le_refl _) z1 p1 S1 (by simpa using hz) fun h' acc' c' q1 q2 q3 => ?_
  refine ⟨rfl, go h' acc' c' q1 (by rw [q2]; simp; exact List.take_of_length_le (by simp)) fun d o hd e => q3 d o (by omega) (by omega) (k1 _ _ (by omega) e)⟩
end
variable {X : Cx}
theorem Cs {ρ : aj} {e : Expr} {f g : Str} {p q r t : Pos} {l : List D} {k : Nat} (hc : X.calm = true) (hf : f = "list") (hg : g = "reversed") (gf : Gl X f) (gg : Gl X g) (mf : X.mg f = none) (mg : X.mg g = none)
    (h : AD X ρ [e] [.lst l] k) (hst : ∀ y ∈ [e], ∀ x p, y ≠ .Starred x p) (fl : am l = true) : ED X ρ (.Call (.Name f p) [.Call (.Name g q) [e] [] r] [] t) (.lst l.reverse) 0 := by
  intro ow pins s σ H Q I ⟨E, qq⟩
  subst hf hg
  refine wpAny_Call_Name_kw (dS I gf mf (u := .type "list") (by decide +kernel) ?_ (by decide +kernel) (by decide +kernel))
  refine PyProof.Rows.callWith_type1 (Calls.spliced_cons (wpAny_Call_Name_kw (dS I gg mg (u := .type "reversed") (by decide +kernel) ?_ (by decide +kernel) (by decide +kernel)))) rfl rfl
  have n1 := bA (env := X.env) (es := []) (hst e List.mem_cons_self)
  have n2 : (backTo r (starEach [] X.env)).any (·.1) = false := cM fun x hx => by cases hx
  refine PyProof.Rows.callWith_type1 (aS (h ow r pins s σ H _ I ⟨E, fun vs H1 s1 r1 => (show (fun vs H1 => aF H H1 /\ ag X.K H1 (Kp ow H k) [.lst l] vs) vs H1 from ⟨s1, r1⟩)⟩) fun us s1 ⟨vs, H1, I1, rv, sm, rp⟩ => ?_) n1 n2
  obtain ⟨v, rfl, rv1⟩ := rp.only
  obtain ⟨a, xs, rfl, hq, rl, hk1⟩ := jU (κ := false) rv1
  replace hq : cv X.K H1 a xs := hq
  obtain ⟨u, rfl, ru⟩ := eB rv
  cases (show u = Value.ref a from ru)
  obtain ⟨its, rvs, pt, hz⟩ := I1.list hq
  have hh : X.A.handled = none := I.ok.hd hc
  have pl := pt.isList
  refine call_reversed_list pl ?_
  refine Calls.spliced_nil ?_
  obtain ⟨hp, gs, dr, tk, os⟩ := s1
  have pl : hp.IsList a its.toArray := pl
  have el := rvs.length
  have fr : ∀ j : Nat, H1 (hp.objs.size + j) = none := fun j => I1.hok.fresh (Nat.le_add_right _ _)
  have alt : (a : Nat) < hp.objs.size := let ⟨o, e, _⟩ := pl; Heap.lt_size e
  have t5 : (hp.push (revObj a (((its.toArray.size : Nat) : Int) - 1))).IsList a its.toArray := let ⟨o, e, c⟩ := pl; ⟨o, Heap.get?_push_of_some _ e, c⟩
  refine yE (n := hp.objs.size) (l := a) (items := its.toArray) hh alt ⟨_, Heap.get?_push_size _ rfl, rfl, rfl⟩ t5 (Heap.size_push ..) (by rw [List.size_toArray, <- el]; exact hz) fun h3 acc m S3 eA kp => ?_
  have kk : ∀ b o, hp.get? b = some o -> h3.get? b = some o := fun b o e => kp b o (Heap.lt_size e) (Heap.get?_push_of_some _ e)
  generalize hn : hp.objs.size = n at *
  have hk0 : dH X.prog X.w H1 h3 := I1.hok.kept kk
  have ob : cg X.prog X.w (bh H1 (n + 1) (.lst xs.reverse)) h3 (n + 1) (.lst xs.reverse) := ⟨by rw [List.length_reverse]; exact hz, acc.toList, m, by rw [eA]; exact rvs.reverse, by rw [Array.toArray_toList]; exact S3⟩
  have hk1 := yP hk0 (fr 1) ob
  generalize hH : bh H1 (n + 1) (.lst xs.reverse) = H4 at hk1
  have g6 : H4 (n + 1) = some (.lst xs.reverse) := by rw [<- hH]; exact aU
  have old : ∀ c : Nat, c < n -> H4 c = H1 c := fun c hc => by rw [<- hH, aO (by show (c : Nat) ≠ n + 1; omega)]
  have inn : ∀ (c : Nat) o, H1 c = some o -> c < n := fun c o e => by
    rcases Nat.lt_or_ge c n with z | z
    . exact z
    . have := fr (c - n); rw [Nat.add_sub_cancel' z] at this; rw [this] at e; cases e
  have s4 : aF H1 H4 := fun c o e => (old c (inn c o e)).trans e
  have I4 : ak X pins σ H4 ⟨h3, gs, dr, tk, os⟩ := I1.un (t' := tk) (A0 kk (fun c hc => old c (by rw [<- hn]; exact hc)) fun c o e => by rw [hn]; exact inn c o e) hk1
  refine ⟨.ref (n + 1), H4, I4, rfl, qq _ H4 (sm.trans s4) ?_⟩
  rw [ah]
  exact ⟨n + 1, _, true, rfl, g6, ⟨rfl, sm.free (fr 1)⟩, (ag.flat _ fl (rl.same s4)).rev⟩
def Kc : Stmt -> Expr
  | .Return (some (.Tuple [e, _] _ _)) _ => e
  | _ => .Name (Str.ofString "") ⟨0, 0, 0, 0⟩
def Kb : Stmt -> Expr
  | .Return (some (.Tuple [_, .Call _ [.Call _ [e] _ _] _ _] _ _)) _ => e
  | _ => .Name (Str.ofString "") ⟨0, 0, 0, 0⟩
def jl (Φ : Fx) (sc : Scope) (ps : List Str) (pre : List Stmt) (e1 e2 : Expr) (ds : List D) : Rs D :=
  if ds.length = ps.length then (aD Φ pre sc (e9 ps ds)).bnd fun
    | .nx ρ1 => (aA Φ e1 false sc ρ1).bnd fun p => (cx Φ [e2] sc ρ1).bnd fun q => (match p.2, q.1 with
      | 0, [.lst l] => .ok (.tup [p.1, .lst l.reverse]) [am l = true]
      | _, _ => .st)
    | _ => .st
  else .st
theorem Cf {P : Program} {w : World} {K : W.Frag} {mg : Str -> Option Value} {base : Heap} {k : Nat} {g qual : Str} {st : Stmt} {f : Addr} {fd : FuncData} {ps : List Str} {Φ : Fx} {pre post : List Stmt} {n1 n2 : Str} {e1 e2 : Expr} {nn : Nat} {p pf pg rr t q : Pos} (Fn : qk K g qual st f fd)
    (S : aK (aC (aa st)) ps (aa st)) (hΦ : xP P w K mg base k Φ) (hb : ai st = pre ++ .Return (some (.Tuple [e1, .Call (.Name n1 pf) [.Call (.Name n2 pg) [e2] [] rr] [] t] nn p)) q :: post) (hn1 : n1 = "list") (hn2 : n2 = "reversed")
    (gf : (aa st).names.lookup n1 = some .globalImplicit) (gg : (aa st).names.lookup n2 = some .globalImplicit) : cR P w K mg base gk (k + 1) f fd ps (jV K (jl Φ (aa st) ps pre e1 e2)) := by
  refine Fn.ok S (fun vs H Q E h => ?_) (fun cdv A outer s H vs Q E hr h => ?_)
  . obtain ⟨ds, r, l, h1, h2, hp, _⟩ := h
    unfold jl at h2
    split at h2
    . rename_i hl; rw [<- h1.length]; exact hl
    . cases h2
  . obtain ⟨ds, r, l, h1, h2, hp, qq⟩ := h
    have h2 : ac (jl Φ (aa st) ps pre e1 e2 ds) r := ⟨l, h2, hp⟩
    unfold jl at h2
    split at h2
    . rename_i hl
      have G := uo (outer := outer) (H := H) (E := E) S hΦ hr
      obtain ⟨E0, hsl⟩ := xb (P := P) (w := w) (mg := mg) (base := base) (qual := qual) (f := f) (cdv := cdv) (A := A) (outer := outer) (s := s) (E := E) S h1 hl
      have B0 : dW H (fun _ => none) H := fun a o h => ⟨h, rfl⟩
      obtain ⟨fl, h3, h4⟩ := av h2
      cases fl with
      | nx ρ1 =>
        obtain ⟨⟨d1, k1⟩, h5, h6⟩ := av h4
        obtain ⟨⟨qs, k2⟩, h7, h8⟩ := av h6
        dsimp only at h8
        split at h8
        . rename_i l0
          obtain ⟨h9, hfl, _⟩ := bU h8
          subst h9
          obtain ⟨l7, h7, p7⟩ := h7
          obtain ⟨hst, _⟩ := dX h7 p7
          have ad := se [e2] h7 p7 G
          have ed := Cs (p := pf) (q := pg) (r := rr) (t := t) G.calm hn1 hn2 (G.gl n1 gf) (G.gl n2 gg) (by subst hn1; exact G.bl _ (by decide +kernel)) (by subst hn2; exact G.bl _ (by decide +kernel)) ad hst hfl
          have ed1 := (eH h5 G).ed rfl
          obtain ⟨l5, h5, p5⟩ := h5
          have st1 : ∀ y p, e1 ≠ .Starred y p := fun y p z => by subst z; cases h5
          have at2 : AD _ ρ1 [e1, .Call (.Name n1 pf) [.Call (.Name n2 pg) [e2] [] rr] [] t] [d1, .lst l0.reverse] (kj 0 (kj 0 0)) := pq ed1 (pq ed xt (bA fun _ _ z => nomatch z)) (bA st1)
          have sd := v6 (pos := q) (H0 := H) (sj (n := nn) (pos := p) at2 (by show 2 <= 40000; decide)) (.inl (by show kn _ 0 = 0; unfold kn; split <;> rfl))
          rw [hb]
          exact ⟨_, tU G PassesOwn.never h3 (jj sd fun _ z => nomatch z), fun _ => none, E0, hsl, B0, fun v H' sm rp => qq v H' sm rp⟩
        . exact (ar h8).elim
      | rt _ => exact (ar h4).elim
      | bk _ => exact (ar h4).elim
      | ct _ => exact (ar h4).elim
    . exact (ar h2).elim
theorem Ee {Φ : Fx} {sc : Scope} {ps : List Str} {pre : List Stmt} {e1 e2 : Expr} {ds l : List D} {k : Nat} {ρ1 : aj} {d1 : D} (h1 : ac (aD Φ pre sc (e9 ps ds)) (.nx ρ1)) (h2 : ac (aA Φ e1 false sc ρ1) (d1, 0)) (h3 : ac (cx Φ [e2] sc ρ1) ([.lst l], k)) (h4 : am l = true) (hl : ds.length = ps.length := by rfl) : ac (jl Φ sc ps pre e1 e2 ds) (.tup [d1, .lst l.reverse]) := by
  unfold jl
  rw [if_pos hl]
  exact ac.bnd h1 (ac.bnd h2 (ac.bnd h3 ⟨_, rfl, h4, True.intro⟩))
end Sp
namespace K
open PySem L2 Sp Qm
def gH (q : Qd) : Prop := ∀ (k : Qd) (n : Int), al k -> 1 < n -> q ≠ aZ k n
theorem jm (n : Int) : al (2 * n, 0, 0, 0) := ⟨0, n, 0, 0, 0, .inl rfl, by simp, rfl, rfl, rfl⟩
theorem tO (n : Int) : ao (2 * n, 0, 0, 0) = n * n := by
  show ((2 * n) * (2 * n) + (0 * 0 + (0 * 0 + (0 * 0 + 0)))).fdiv 4 = n * n
  rw [show (2 * n) * (2 * n) + (0 * 0 + (0 * 0 + (0 * 0 + 0))) = 4 * (n * n) by grind, Qm.fd4]
theorem yy {k d : Qd} (n : Int) (hk : al k) (hd : al d) : aq (aZ k n) d = aZ (aq k d) n := by
  rw [<- fQ, <- fQ, dj (jm n) hk hd]
theorem yw {k d : Qd} (n : Int) (hk : al k) (hd : al d) : aq d (aZ k n) = aZ (aq d k) n := by
  rw [<- dw, <- dw, dj hd hk (jm n)]
theorem gH.left {u d : Qd} (hu : al u) (hd : al d) (h : gH (aq u d)) : gH u := fun k n hk hn e => h (aq k d) n (cK hk hd) hn (by rw [e, yy n hk hd])
theorem gH.ne {q : Qd} (h : gH q) : q ≠ au := fun e => h au 2 gY (by decide) (by rw [e]; rfl)
theorem sW {A y : Qd} (p : Int) (hA : al A) (hy : al y) : ∃ t, ao (ci A (aZ y p)) = ao A + p * t := by
  obtain ⟨t1, h1, e1⟩ := cO (fG hA (fg p hy))
  obtain ⟨t2, h2, e2⟩ := cO hA
  obtain ⟨t3, h3, e3⟩ := cO hy
  obtain ⟨e, x1, x2, x3, x4, he, a1, a2, a3, a4⟩ := hA
  obtain ⟨f, y1, y2, y3, y4, hf, b1, b2, b3, b4⟩ := hy
  rw [e1, e2]
  obtain ⟨A1, A2, A3, A4⟩ := A
  obtain ⟨Y1, Y2, Y3, Y4⟩ := y
  dsimp only at a1 a2 a3 a4 b1 b2 b3 b4 h1 h2 h3
  have hs : A1 * Y1 + A2 * Y2 + A3 * Y3 + A4 * Y4 = 2 * (2 * (x1 * y1 + x2 * y2 + x3 * y3 + x4 * y4) + f * (x1 + x2 + x3 + x4) + e * (y1 + y2 + y3 + y4) + 2 * (e * f)) := by
    rw [a1, a2, a3, a4, b1, b2, b3, b4]; grind
  generalize 2 * (x1 * y1 + x2 * y2 + x3 * y3 + x4 * y4) + f * (x1 + x2 + x3 + x4) + e * (y1 + y2 + y3 + y4) + 2 * (e * f) = t at hs
  refine ⟨t + p * t3, ?_⟩
  have h1' : (A1 + Y1 * p) * (A1 + Y1 * p) + ((A2 + Y2 * p) * (A2 + Y2 * p) + ((A3 + Y3 * p) * (A3 + Y3 * p) + ((A4 + Y4 * p) * (A4 + Y4 * p) + 0))) = 4 * t1 := h1
  have h1'' : (A1 * A1 + (A2 * A2 + (A3 * A3 + (A4 * A4 + 0)))) + 2 * p * (A1 * Y1 + A2 * Y2 + A3 * Y3 + A4 * Y4) + p * p * (Y1 * Y1 + (Y2 * Y2 + (Y3 * Y3 + (Y4 * Y4 + 0)))) = 4 * t1 := by rw [<- h1']; grind
  rw [h2, h3, hs] at h1''
  have : 4 * t2 + 4 * (p * t) + 4 * (p * (p * t3)) = 4 * t1 := by rw [<- h1'']; grind
  have e4 : p * (t + p * t3) = p * t + p * (p * t3) := Int.mul_add _ _ _
  omega
theorem DN : ∀ p ∈ de, ∀ c ∈ (List.range 98).map (fun i : Nat => (i : Int)), c ≠ 0 -> p % c = 0 -> c = 1 \/ c = p := by decide +kernel
theorem fo : ∀ p ∈ de, 1 < p /\ p <= 97 := by decide
theorem DM {p c n : Int} (hp : p ∈ de) (hc : 0 <= c) (hn : 0 <= n) (e : c * n = p) : c = 1 \/ n = 1 := by
  obtain ⟨p1, p2⟩ := fo p hp
  have c0 : c ≠ 0 := fun z => by rw [z, Int.zero_mul] at e; omega
  have n0 : n ≠ 0 := fun z => by rw [z, Int.mul_zero] at e; omega
  have cp : c <= p := by
    rw [<- e]
    have := Int.mul_le_mul_of_nonneg_left (show 1 <= n by omega) hc
    omega
  have hm : c ∈ (List.range 98).map (fun i : Nat => (i : Int)) := List.mem_map.mpr ⟨c.toNat, by simp; omega, by omega⟩
  rcases DN p hp c hm c0 (by rw [<- e]; exact Int.mul_emod_right c n) with h | h
  . exact .inl h
  . right
    rw [h] at e
    have : p * (n - 1) = 0 := by rw [Int.mul_sub, e]; omega
    rcases Int.mul_eq_zero.mp this with z | z <;> omega
theorem yR {r : Qd} {p : Int} {a : eU} (hr : al r) (pl : gH r) (hp : p ∈ de) (hd : ∃ c, ao r = p * c) (g : AS true r (2 * p, 0, 0, 0) a) : ao a.1 = p /\ al a.1 /\ ∃ u, al u /\ r = aq u a.1 := by
  obtain ⟨u, hu, eu⟩ := g.dp
  obtain ⟨v, hv, ev⟩ := g.dq'
  obtain ⟨d0, hx, hy, hs⟩ := g.ra
  have eu : r = aq u a.1 := eu
  have ev : (2 * p, 0, 0, 0) = aq v a.1 := ev
  have hs : ci (aq a.2.1 r) (aq a.2.2 (2 * p, 0, 0, 0)) = a.1 := hs
  rw [dw] at hs
  obtain ⟨p1, p2⟩ := fo p hp
  refine ⟨?_, d0, u, hu, eu⟩
  obtain ⟨t, ht⟩ := sW p (cK hx hr) hy
  obtain ⟨c, hc⟩ := hd
  rw [hs, fC hx hr, hc] at ht
  have ht : ao a.1 = p * (ao a.2.1 * c + t) := by rw [ht]; grind
  have hv2 : p * p = ao v * ao a.1 := by rw [<- fC hv d0, <- ev, tO]
  have nv := dD hv
  have na := dD d0
  generalize ao a.2.1 * c + t = m at ht
  have m0 : 0 <= m := by
    rcases Int.le_total 0 m with h | h
    . exact h
    . rcases Int.lt_or_eq_of_le h with h | h
      . have := Int.mul_neg_of_pos_of_neg (show 0 < p by omega) h; omega
      . omega
  have em : ao v * m = p := by
    have : p * (ao v * m - p) = 0 := by
      rw [Int.mul_sub, hv2, ht]; grind
    rcases Int.mul_eq_zero.mp this with z | z <;> omega
  rcases DM hp nv m0 em with h | h
  . exfalso
    have e1 : a.1 = aZ (bG v) p := by
      rw [<- dw, ev, <- dj (dJ hv) hv d0, (fI hv).2, h]
      exact (cG a.1).symm
    exact pl (aq u (bG v)) p (cK hu (dJ hv)) p1 (by rw [<- yw p (dJ hv) hu, <- e1]; exact eu)
  . rw [ht, h, Int.mul_one]
def cH (ns : List Int) : Int := ns.foldr (· * ·) 1
theorem cJ (n : Int) (ns : List Int) : cH (n :: ns) = n * cH ns := rfl
theorem iW : ∀ ms ns : List Int, cH (ms ++ ns) = cH ms * cH ns
  | [], ns => (Int.one_mul _).symm
  | m :: ms, ns => by rw [List.cons_append, cJ, cJ, iW ms ns, Int.mul_assoc]
theorem oS (n : Int) : cH [n] = n := Int.mul_one n
theorem oO : ∀ (ws : List Qd) (u : Qd), al u -> (∀ w ∈ ws, al w) -> ao (ws.foldl aq u) = ao u * cH (ws.map ao)
  | [], u, _, _ => (Int.mul_one _).symm
  | w :: ws, u, hu, h => by
    rw [List.foldl_cons, oO ws _ (cK hu (h w List.mem_cons_self)) fun x hx => h x (List.mem_cons_of_mem _ hx), fC hu (h w List.mem_cons_self), List.map_cons, cJ, Int.mul_assoc]
theorem iA {q : Qd} {n : Nat} (h : al q) (g : ao q <= ((2 ^ n : Nat) : Int)) : gQ (n + 2) q := ⟨h, dN (kh h g) (by rw [Nat.pow_add]; omega)⟩
end K
namespace K
open PySem L2 Sp Qm
def iL (a b c d : Int) : Bool := decide (b.fmod 2 = a.fmod 2) && (decide (c.fmod 2 = a.fmod 2) && decide (d.fmod 2 = a.fmod 2))
def gU (q : Qd) : Int := cond (iL (q.1.fdiv (gI [q.1, q.2.1, q.2.2.1, q.2.2.2])) (q.2.1.fdiv (gI [q.1, q.2.1, q.2.2.1, q.2.2.2])) (q.2.2.1.fdiv (gI [q.1, q.2.1, q.2.2.1, q.2.2.2])) (q.2.2.2.fdiv (gI [q.1, q.2.1, q.2.2.1, q.2.2.2]))) (gI [q.1, q.2.1, q.2.2.1, q.2.2.2]) ((gI [q.1, q.2.1, q.2.2.1, q.2.2.2]).fdiv 2)
theorem rM {a b c d : Int} : iL a b c d = true ↔ al (a, b, c, d) := by
  unfold iL
  simp only [Bool.and_eq_true, decide_eq_true_eq]
  rw [iX]
  simp only [ER]
theorem ua {q : Qd} (h : q ≠ au) : ∃ n ∈ [q.1, q.2.1, q.2.2.1, q.2.2.2], n ≠ 0 := by
  obtain ⟨a, b, c, d⟩ := q
  by_cases q1 : a = 0
  . by_cases q2 : b = 0
    . by_cases q3 : c = 0
      . refine ⟨d, by simp, fun q4 => h ?_⟩
        rw [q1, q2, q3, q4]; rfl
      . exact ⟨c, by simp, q3⟩
    . exact ⟨b, by simp, q2⟩
  . exact ⟨a, by simp, q1⟩
theorem sw {q : Qd} (h : q ≠ au) (hp : al q) : ∃ (g : Int) (k : Qd), 0 < g /\ g = gI [q.1, q.2.1, q.2.2.1, q.2.2.2] /\ q = aZ k g /\ k = (q.1.fdiv g, q.2.1.fdiv g, q.2.2.1.fdiv g, q.2.2.2.fdiv g) /\ (¬ al k -> ∃ t, g = 2 * t) := by
  obtain ⟨n, hn, n0⟩ := ua h
  have hg := rX hn n0
  have ea := n5 (m := q.1) hn n0 (by simp)
  have eb := n5 (m := q.2.1) hn n0 (by simp)
  have ec := n5 (m := q.2.2.1) hn n0 (by simp)
  have ed := n5 (m := q.2.2.2) hn n0 (by simp)
  refine ⟨_, _, hg, rfl, ?_, rfl, fun np => ?_⟩
  . unfold aZ
    exact cU (ea.trans (Int.mul_comm _ _)) (eb.trans (Int.mul_comm _ _)) (ec.trans (Int.mul_comm _ _)) (ed.trans (Int.mul_comm _ _))
  . rcases sD (gI [q.1, q.2.1, q.2.2.1, q.2.2.2]) with e | e
    . exact ⟨gI [q.1, q.2.1, q.2.2.1, q.2.2.2] / 2, by rw [ER] at e; omega⟩
    . exfalso
      apply np
      have pm : ∀ m s : Int, m = gI [q.1, q.2.1, q.2.2.1, q.2.2.2] * s -> m % 2 = s % 2 := fun m s hm => by
        rw [hm, Int.mul_emod]
        rw [ER] at e
        rw [e, Int.one_mul, Int.emod_emod_of_dvd _ (Int.dvd_refl 2)]
      have p := iX.mp hp
      rw [iX]
      rw [pm _ _ ea, pm _ _ eb, pm _ _ ec, pm _ _ ed] at p
      exact p
theorem AZ {q : Qd} (h : q ≠ au) (hp : al q) : 0 < gU q /\ ∃ k, al k /\ q = aZ k (gU q) := by
  obtain ⟨g, k, g0, eg, ek, dk, ev⟩ := sw h hp
  unfold gU
  rw [<- eg]
  have hk : iL (q.1.fdiv g) (q.2.1.fdiv g) (q.2.2.1.fdiv g) (q.2.2.2.fdiv g) = true ↔ al k := by rw [rM, dk]
  cases hs : iL (q.1.fdiv g) (q.2.1.fdiv g) (q.2.2.1.fdiv g) (q.2.2.2.fdiv g) with
  | true => exact ⟨g0, k, hk.mp hs, ek⟩
  | false =>
    obtain ⟨t, ht⟩ := ev fun z => by rw [hk.mpr z] at hs; cases hs
    have e2 : g.fdiv 2 = t := by rw [ht, Qm.fd2]
    show 0 < g.fdiv 2 /\ ∃ k, al k /\ q = aZ k (g.fdiv 2)
    rw [e2]
    refine ⟨by omega, aZ k 2, ⟨0, k.1, k.2.1, k.2.2.1, k.2.2.2, .inl rfl, by unfold aZ; simp only; omega, by unfold aZ; simp only; omega, by unfold aZ; simp only; omega, by unfold aZ; simp only; omega⟩, ?_⟩
    rw [ek, ht]
    unfold aZ
    exact cU (by simp only [Int.mul_assoc]) (by simp only [Int.mul_assoc]) (by simp only [Int.mul_assoc]) (by simp only [Int.mul_assoc])
theorem GF {q k : Qd} {n : Int} (h : q ≠ au) (hk : al k) (hn : 1 < n) (e : q = aZ k n) : 1 < gU q := by
  have k0 : k ≠ au := fun z => h (by rw [e, z]; unfold aZ au; simp)
  obtain ⟨g, k', g0, eg, ek, dk, ev⟩ := sw k0 hk
  have gq : gI [q.1, q.2.1, q.2.2.1, q.2.2.2] = n * g := by
    rw [eg, e]
    have := EL (c := n) (by omega) [k.1, k.2.1, k.2.2.1, k.2.2.2]
    simp only [List.map_cons, List.map_nil] at this
    rw [<- this]
    unfold aZ
    simp only [Int.mul_comm n]
  have fd : ∀ x : Int, (x * n).fdiv (n * g) = x.fdiv g := fun x => by rw [Int.mul_comm x n]; exact vx (by omega) g0
  have m1 : q.1.fdiv (n * g) = k.1.fdiv g := by rw [e]; exact fd _
  have m2 : q.2.1.fdiv (n * g) = k.2.1.fdiv g := by rw [e]; exact fd _
  have m3 : q.2.2.1.fdiv (n * g) = k.2.2.1.fdiv g := by rw [e]; exact fd _
  have m4 : q.2.2.2.fdiv (n * g) = k.2.2.2.fdiv g := by rw [e]; exact fd _
  unfold gU
  rw [gq, m1, m2, m3, m4]
  have hk : iL (k.1.fdiv g) (k.2.1.fdiv g) (k.2.2.1.fdiv g) (k.2.2.2.fdiv g) = true ↔ al k' := by rw [rM, dk]
  cases hs : iL (k.1.fdiv g) (k.2.1.fdiv g) (k.2.2.1.fdiv g) (k.2.2.2.fdiv g) with
  | true =>
    show 1 < n * g
    have := Int.mul_le_mul_of_nonneg_left (show 1 <= g by omega) (show 0 <= n by omega)
    omega
  | false =>
    obtain ⟨t, ht⟩ := ev fun z => by rw [hk.mpr z] at hs; cases hs
    show 1 < (n * g).fdiv 2
    rw [ht, show n * (2 * t) = 2 * (n * t) by grind, Qm.fd2]
    have := Int.mul_le_mul_of_nonneg_left (show 1 <= t by omega) (show 0 <= n by omega)
    omega
theorem tZ {q : Qd} (h : q ≠ au) (hp : al q) : gH q ↔ gU q <= 1 := by
  constructor
  . intro pl
    obtain ⟨v0, k, hk, e⟩ := AZ h hp
    rcases Int.lt_or_le 1 (gU q) with z | z
    . exact absurd e (pl k _ hk z)
    . exact z
  . intro le k n hk hn e
    have := GF h hk hn e
    omega
theorem yh {u : Qd} (hu : al u) (h : ao u = 1) : gH u := fun k n hk hn e => by
  have e2 : u = aq k (2 * n, 0, 0, 0) := by rw [dw]; exact e
  have := fC hk (jm n)
  rw [<- e2, h, tO] at this
  have k0 := dD hk
  rcases Int.lt_or_eq_of_le k0 with z | z
  . have n2 : 1 < n * n := by have := Int.mul_lt_mul_of_pos_left hn (show 0 < n by omega); omega
    have := Int.mul_le_mul_of_nonneg_right (show 1 <= ao k by omega) (show 0 <= n * n by omega)
    omega
  . rw [<- z, Int.zero_mul] at this; omega
theorem BB (a b c d : Int) : ((([D.int (a.fmod 2), .int (b.fmod 2), .int (c.fmod 2), .int (d.fmod 2)].any fun z => cA z (.int 0))) && ([D.int (a.fmod 2), .int (b.fmod 2), .int (c.fmod 2), .int (d.fmod 2)].any fun z => cA z (.int 1))) = !iL a b c d := by
  unfold iL
  simp only [List.any_cons, List.any_nil, eV, Bool.or_false]
  rcases sD a with ha | ha <;> rcases sD b with hb | hb <;> rcases sD c with hc | hc <;> rcases sD d with hd | hd <;> rw [ha, hb, hc, hd] <;> decide
end K
namespace K
open PySem L2 Sp Qm
theorem rg : ∀ {l : List Int}, (∀ n ∈ l, n ∈ de) -> 0 <= cH l /\ cH l <= ((2 ^ (7 * l.length) : Nat) : Int)
  | [], _ => by decide
  | n :: l, h => by
    obtain ⟨h0, h1⟩ := rg fun m hm => h m (List.mem_cons_of_mem _ hm)
    obtain ⟨p1, p2⟩ := fo n (h n List.mem_cons_self)
    rw [cJ]
    refine ⟨Int.mul_nonneg (by omega) h0, ?_⟩
    have := Int.mul_le_mul (show n <= 128 by omega) h1 h0 (by decide)
    refine Int.le_trans this ?_
    rw [List.length_cons, Nat.mul_add, Nat.pow_add]
    generalize 2 ^ (7 * l.length) = x
    show (128 : Int) * (x : Int) <= ((x * 128 : Nat) : Int)
    omega
theorem xg (ns : List Int) (c : Nat) (h : c <= ns.length) : fM (ns.map D.int) none (some (c : Int)) = (ns.take c).map D.int := by
  simp only [fM, HT.sIx_none, HT.sIx_nat, List.length_map, List.drop_zero, Nat.min_eq_left h, Nat.sub_zero, List.map_take]
end K
namespace K
open PySem L2 Sp
def af (i : Nat) : Stmt := PySem.Challenge.pw_spaceturns_k56_whole_apart_in_any_order.main.body.getD i (.Pass ⟨0, 0, 0, 0⟩)
local macro_rules | `(tactic| walk_at "leaf") => `(tactic| first | ((with_reducible apply lH); decide) | ((with_reducible apply fJ); decide) | ((with_reducible apply uA) <;> decide) | ((with_reducible apply bV) <;> (with_reducible assumption)) | ((with_reducible apply powOk_s) <;> decide) | ((with_reducible refine Eq.trans ?_ rfl); exact rfl) | ((with_reducible apply cel_bits); (with_reducible assumption)) | ((with_reducible apply Eg); assumption) | exact Nat.le_of_ble_eq_true rfl | exact Or.inl rfl | exact Or.inr rfl | exact Or.inr (Nat.le_refl 1) | exact Or.inr (Nat.zero_le 1) | decide | decide +kernel)
local macro_rules | `(tactic| walk_at "ob") => `(tactic| (repeat' (first | with_reducible exact True.intro | with_reducible exact zw | with_reducible apply vD | with_reducible apply zu | with_reducible apply tx | with_reducible assumption | ((with_reducible apply eL); intro hgd) | walk_at "leaf")))
local macro_rules | `(decl_name%) => `(bR rfl (by walk_at "ob"))
def BL : List (Str × (List D -> R1)) := [("len", zm), ("tuple", sF), ("list", vB), ("abs", zr), ("all", zq), ("sum", zi), ("isinstance", zn), ("int", zp)]
def IL : List (Str × (List D -> Nat -> R1)) := [("range", f7), ("zip", yM), ("enumerate", vo), ("reversed", yN)]
def ML : List (Str × (D -> List D -> R1)) := []
def TL : List (Str × (List D -> List D -> Nat -> Rs (List D))) := [("append", lK), ("insert", lJ)]
def zy : Fx := Tb [] [] BL IL ML TL aR
def zD : List D -> Rs D := bC zy (aa (af 43)) ["_law_script", "_law_k"] (ai (af 43))
def jA : List D -> Rs D := nC dL dI fun l k => .ok (.int (ig l k)) [Eh l]
theorem tH : ∀ ds r, ac (jA ds) r -> ac (zD ds) r := by
  intro ds r h
  obtain ⟨l, k, rfl, h⟩ := fE h
  obtain ⟨rfl, ⟨ns, rfl⟩, _⟩ := bU h
  refine bM (bi 1 (bR rfl True.intro) (jk (bR rfl True.intro) (fun ht => ?_) (fun hf => ?_)))
  . have hl : (ns.map D.int).length = ns.length := by simp
    have hp : (0 : Int) < ((ns.map D.int).length : Nat) := by simpa using ht
    have hi : L2.atI (ns.map D.int) (k.fmod (((ns.map D.int).length : Nat) : Int)) = some (.int (kD ns k)) := by
      rw [hl] at hp ⊢
      have hne : ns ≠ [] := by intro z; subst z; simp at hp
      unfold kD
      rw [if_neg hne]
      exact CK (Int.fmod_nonneg_of_pos _ hp) (Int.fmod_lt_of_pos _ hp)
    refine bI (b0 (d := .int (kD ns k)) (dO (bR rfl True.intro) (bR rfl ⟨Int.ne_of_gt hp, True.intro⟩) rfl hi)) ?_
    refine decl_name%.eq ?_
    unfold ig AG; rw [nu]
  . have hp : ns = [] := by
      cases ns with
      | nil => rfl
      | cons n ns => simp at hf
    subst hp
    refine decl_name%.eq ?_
    rfl
def xC : Fx := Tb [] [] BL IL ML TL aR
def iE : List D -> Rs D := bC xC (aa (af 49)) [] (ai (af 49))
def bS : List Qd := [(2, 0, 0, 0), (-2, 0, 0, 0), (0, 2, 0, 0), (0, -2, 0, 0), (0, 0, 2, 0), (0, 0, -2, 0), (0, 0, 0, 2), (0, 0, 0, -2), (1, 1, 1, 1), (-1, 1, 1, 1), (1, -1, 1, 1), (-1, -1, 1, 1), (1, 1, -1, 1), (-1, 1, -1, 1), (1, -1, -1, 1), (-1, -1, -1, 1), (1, 1, 1, -1), (-1, 1, 1, -1), (1, -1, 1, -1), (-1, -1, 1, -1), (1, 1, -1, -1), (-1, 1, -1, -1), (1, -1, -1, -1), (-1, -1, -1, -1)]
theorem tM : ac (iE []) (.lst (bS.map dq)) := bR rfl (by walk_at "ob")
theorem cy : ∀ p ∈ bS, p ∈ qr := by decide +kernel
theorem vQ : ∀ a ∈ ([-2, -1, 0, 1, 2] : List Int), ∀ b ∈ ([-2, -1, 0, 1, 2] : List Int), ∀ c ∈ ([-2, -1, 0, 1, 2] : List Int), ∀ d ∈ ([-2, -1, 0, 1, 2] : List Int), a % 2 = b % 2 -> a % 2 = c % 2 -> a % 2 = d % 2 -> a * a + (b * b + (c * c + (d * d + 0))) = 4 -> (a, b, c, d) ∈ bS := by decide +kernel
theorem qJ {q : Qd} (hp : al q) (h1 : ao q = 1) : q ∈ bS := by
  obtain ⟨a, b, c, d⟩ := q
  obtain ⟨e, x, y, z, w, he, h2, h3, h4, h5⟩ := hp
  dsimp only at h2 h3 h4 h5
  have hs : (a * a + (b * b + (c * c + (d * d + 0)))).fdiv 4 = 1 := h1
  have sq : a * a + (b * b + (c * c + (d * d + 0))) = 4 := by
    have k : ∃ t, a * a + (b * b + (c * c + (d * d + 0))) = 4 * t := by
      rcases he with rfl | rfl
      . exact ⟨x * x + y * y + z * z + w * w, by rw [h2, h3, h4, h5]; grind⟩
      . exact ⟨x * x + x + y * y + y + z * z + z + w * w + w + 1, by rw [h2, h3, h4, h5]; grind⟩
    obtain ⟨t, ht⟩ := k
    rw [ht, Int.mul_fdiv_cancel_left _ (by decide)] at hs
    rw [ht, hs]; rfl
  have n0 : ∀ t : Int, 0 <= t * t := fun t => by
    rcases Int.le_total 0 t with q | q
    . exact Int.mul_nonneg q q
    . exact Int.mul_nonneg_of_nonpos_of_nonpos q q
  have two : ∀ t : Int, t * t <= 4 -> t ∈ ([-2, -1, 0, 1, 2] : List Int) := fun t h => by
    have : -2 <= t /\ t <= 2 := by
      constructor
      . rcases (show -2 <= t \/ t <= -3 by omega) with q | q
        . exact q
        . have := Int.mul_le_mul (show 3 <= -t by omega) (show 3 <= -t by omega) (by decide) (show 0 <= -t by omega)
          rw [Int.neg_mul_neg] at this
          omega
      . rcases (show t <= 2 \/ 3 <= t by omega) with q | q
        . exact q
        . have := Int.mul_le_mul_of_nonneg_left (show 3 <= t from q) (show 0 <= t by omega)
          omega
    have : t = -2 \/ t = -1 \/ t = 0 \/ t = 1 \/ t = 2 := by omega
    rcases this with rfl | rfl | rfl | rfl | rfl <;> decide
  have qa := n0 a; have qb := n0 b; have qc := n0 c; have qd := n0 d
  exact vQ a (two a (by omega)) b (two b (by omega)) c (two c (by omega)) d (two d (by omega)) (by omega) (by omega) (by omega) sq
def xE : Fx := Tb [] [] BL IL ML TL aR
def kX : List D -> Rs D := bC xE (aa (af 50)) ["_law_n"] (ai (af 50))
theorem Ce {n : Int} (hn : n ∈ de) : ac (kX [.int n]) (.lst ((eO n).map dq)) := by
  have hb : n.natAbs <= 97 := by
    have : ∀ x ∈ de, x.natAbs <= 97 := by decide
    exact this n hn
  have m4 : bK 4 n := fJ (by decide)
  refine bM (bi 3 decl_name% (PD (Q := Sub (bQ [("_law_found", .lst ((eO n).map dq), true)])) 1 ?_ fun ρ1 s => cE s decl_name%))
  refine fq (eJ (h := D.int) (g := vw n) (T := eO n) (F := []) (R := []) (fun F ρ => Sub (bQ [("_law_n", .int n, false), ("_law_roots", .dct (mw f6) (tX f6), true), ("_law_found", .lst (F.map dq), true)]) ρ) ([0, 1] : List Int) decl_name% rfl (ae rfl (ae rfl (ae rfl aI))) (by simp only [List.nil_append, List.append_nil]; rfl) fun par hpar F R ρ e s => ⟨_, rfl, ?_⟩) fun ρ s => eT (ae s.get aI)
  have hpar : par = 0 \/ par = 1 := by simpa using hpar
  have s1 := s.put (Str.ofString "_law_parity") (.int par, false)
  refine eI (b0 (d := .lst ((ej n par).map D.int)) (bD s1 (yW (l := (List.range 41).map fun i : Nat => -20 + (i : Int)) (g := D.int) (f := D.int) (t := fun k => decide (k.fmod 2 = par) && decide (k * k <= 4 * n)) decl_name% (by rw [List.map_map]; rfl) (by simp; decide) (.inr (Nat.zero_le _)) fun x hx => ⟨_, 0, rfl, ?_, fun _ => decl_name%⟩))) ?_
  . have hx : -20 <= x /\ x <= 20 := by
      obtain ⟨i, hi, rfl⟩ := List.mem_map.mp hx
      have : i < 41 := by simpa using hi
      omega
    have mx : bK x x := fJ (by omega)
    exact uv (decl_name%.bl (eV _ _)) decl_name%
  have sl := qS (n := n) hpar
  have fl := yU n
  have s2 := s1.put (Str.ofString "_law_some") (.lst ((ej n par).map D.int), true)
  refine fq (eJ (h := D.int) (g := vv n par) (T := eO n) (F := F) (R := R) (fun F ρ => Sub (bQ [("_law_n", .int n, false), ("_law_roots", .dct (mw f6) (tX f6), true), ("_law_found", .lst (F.map dq), true), ("_law_parity", .int par, false), ("_law_some", .lst ((ej n par).map D.int), false)]) ρ) (ej n par) (bD (s2.demote _) decl_name%) rfl (ae (s2.demote _).get (ae (s2.demote _).get (ae (s2.demote _).get (ae (s2.demote _).get (ae (s2.demote _).get aI))))) e fun a ha F R ρ e s => ⟨_, rfl, ?_⟩) fun ρ s => eT (ae s.get (ae s.get (ae s.get aI)))
  have s3 := s.put (Str.ofString "_law_a") (.int a, false)
  refine fq (eJ (h := D.int) (g := vt n par a) (T := eO n) (F := F) (R := R) (fun F ρ => Sub (bQ [("_law_n", .int n, false), ("_law_roots", .dct (mw f6) (tX f6), true), ("_law_found", .lst (F.map dq), true), ("_law_parity", .int par, false), ("_law_some", .lst ((ej n par).map D.int), false), ("_law_a", .int a, false)]) ρ) (ej n par) (bD (s3.demote _) decl_name%) rfl (ae (s3.demote _).get (ae (s3.demote _).get (ae (s3.demote _).get (ae (s3.demote _).get (ae (s3.demote _).get (ae (s3.demote _).get aI)))))) e fun b hb F R ρ e s => ⟨_, rfl, ?_⟩) fun ρ s => eT (ae s.get (ae s.get (ae s.get (ae s.get (ae s.get aI)))))
  have s4 := s.put (Str.ofString "_law_b") (.int b, false)
  refine fq (eJ (h := D.int) (g := jy n par a b) (T := eO n) (F := F) (R := R) (fun F ρ => Sub (bQ [("_law_n", .int n, false), ("_law_roots", .dct (mw f6) (tX f6), true), ("_law_found", .lst (F.map dq), true), ("_law_parity", .int par, false), ("_law_some", .lst ((ej n par).map D.int), false), ("_law_a", .int a, false), ("_law_b", .int b, false)]) ρ) (ej n par) (bD (s4.demote _) decl_name%) rfl (ae (s4.demote _).get (ae (s4.demote _).get (ae (s4.demote _).get (ae (s4.demote _).get (ae (s4.demote _).get (ae (s4.demote _).get (ae (s4.demote _).get aI))))))) e fun c hc F R ρ e s => ⟨_, rfl, ?_⟩) fun ρ s => eT (ae s.get (ae s.get (ae s.get (ae s.get (ae s.get (ae s.get aI))))))
  obtain ⟨_, a1, a2⟩ := fF ha
  obtain ⟨_, b1, b2⟩ := fF hb
  obtain ⟨_, c1, c2⟩ := fF hc
  have ma : bK a a := fJ (by omega)
  have mb : bK b b := fJ (by omega)
  have mc : bK c c := fJ (by omega)
  have e0 := e
  have le : F.length + (jy n par a b c).length <= 37044 := by
    have : (F ++ (jy n par a b c ++ R)).length <= 37044 := by rw [e]; exact fl
    simp only [List.length_append] at this
    omega
  have s5 := s.put (Str.ofString "_law_c") (.int c, false)
  have hget := wW (mC n a b c) f6
  unfold jy at le ⊢
  cases hr : qX f6 (mC n a b c) with
  | none =>
    have hin : e8 (mw f6) (.inl (mC n a b c)) = false := by rw [rS, hr]; rfl
    refine cw s5 (bi 1 decl_name% (bL (t := false) (k := 0) (dl (gS (b := false) (k := 0) (cz decl_name% decl_name% (r := false) (nY hin)) (fun z => by cases z) (fun _ => rfl))) rfl dh)) fun ρ' s' => ?_
    simp only [List.append_nil]
    exact ae s'.get (ae s'.get (ae s'.get (ae s'.get (ae s'.get (ae s'.get (ae s'.get aI))))))
  | some d =>
    have hin : e8 (mw f6) (.inl (mC n a b c)) = true := by rw [rS, hr]; rfl
    rw [hr] at hget le
    obtain ⟨_, d1, d2⟩ := tW hr
    dsimp only at le ⊢
    by_cases hp : d.fmod 2 = par
    . rw [if_pos hp] at le ⊢
      by_cases hl : 0 < mC n a b c
      . rw [if_pos hl] at le ⊢
        simp only [List.length_cons, List.length_nil] at le
        have l1 : (F.map dq).length < bE := by rw [List.length_map]; show _ < 40000; omega
        have l2 : (F.map dq ++ [dq (a, b, c, d)]).length < bE := by rw [List.length_append, List.length_map]; show _ + 1 < 40000; omega
        refine cw s5 (bi 1 decl_name% (fY (t := true) (k := 0) (dl (oh (k := 0) (cz decl_name% decl_name% (r := true) (nY hin)) (oh (k := 0) (cz (ga (gT decl_name% decl_name% rfl hget) decl_name% decl_name%) decl_name% (r := true) (decl_name%.eq ((eV _ _).trans (decide_eq_true hp)))) oj))) rfl (bI (n6 (l := F.map dq) (l' := F.map dq ++ [dq (a, b, c, d)]) (aN (ol (aN decl_name% (aN decl_name% (aN decl_name% (aN (gT decl_name% decl_name% rfl hget) cm)))) (Nat.le_of_ble_eq_true rfl)) cm) rfl (sH l1)) (fY (t := decide (0 < mC n a b c)) (k := 0) decl_name% (decide_eq_true hl) (bI (n6 (l := F.map dq ++ [dq (a, b, c, d)]) (l' := F.map dq ++ [dq (a, b, c, d)] ++ [dq (a, b, c, -d)]) (aN (ol (aN decl_name% (aN decl_name% (aN decl_name% (aN (EZ (gT decl_name% decl_name% rfl hget)) cm)))) (Nat.le_of_ble_eq_true rfl)) cm) rfl (sH l2)) dh))))) fun ρ' s' => ?_
        rw [List.map_append]
        exact ae s'.get (ae s'.get (ae (s'.get.trans (by rw [List.append_assoc]; rfl)) (ae s'.get (ae s'.get (ae s'.get (ae s'.get aI))))))
      . rw [if_neg hl] at le ⊢
        simp only [List.length_cons, List.length_nil] at le
        have l1 : (F.map dq).length < bE := by rw [List.length_map]; show _ < 40000; omega
        refine cw s5 (bi 1 decl_name% (fY (t := true) (k := 0) (dl (oh (k := 0) (cz decl_name% decl_name% (r := true) (nY hin)) (oh (k := 0) (cz (ga (gT decl_name% decl_name% rfl hget) decl_name% decl_name%) decl_name% (r := true) (decl_name%.eq ((eV _ _).trans (decide_eq_true hp)))) oj))) rfl (bI (n6 (l := F.map dq) (l' := F.map dq ++ [dq (a, b, c, d)]) (aN (ol (aN decl_name% (aN decl_name% (aN decl_name% (aN (gT decl_name% decl_name% rfl hget) cm)))) (Nat.le_of_ble_eq_true rfl)) cm) rfl (sH l1)) (bL (t := decide (0 < mC n a b c)) (k := 0) decl_name% (decide_eq_false hl) dh)))) fun ρ' s' => ?_
        rw [List.map_append]
        exact ae s'.get (ae s'.get (ae s'.get (ae s'.get (ae s'.get (ae s'.get (ae s'.get aI))))))
    . rw [if_neg hp] at le ⊢
      refine cw s5 (bi 1 decl_name% (bL (t := false) (k := 0) (dl (oh (k := 0) (cz decl_name% decl_name% (r := true) (nY hin)) (gS (b := false) (k := 0) (cz (ga (gT decl_name% decl_name% rfl hget) decl_name% decl_name%) decl_name% (r := false) (decl_name%.eq ((eV _ _).trans (decide_eq_false hp)))) (fun z => by cases z) (fun _ => rfl)))) rfl dh)) fun ρ' s' => ?_
      simp only [List.append_nil]
      exact ae s'.get (ae s'.get (ae s'.get (ae s'.get (ae s'.get (ae s'.get (ae s'.get aI))))))
def xD : Fx := Tb [] [] BL IL ML TL aR
def xN : List D -> Rs D := bC xD (aa (af 47)) ["_law_one", "_law_other"] (ai (af 47))
def ey : List D -> Rs D := nC dQ dQ fun p q => .ok (dq (aq p q)) [dm p, dm q]
theorem sP : ∀ ds r, ac (ey ds) r -> ac (xN ds) r := by
  intro ds r h
  obtain ⟨p, q, rfl, h'⟩ := fE h
  obtain ⟨rfl, ⟨a1, a2, a3, a4⟩, ⟨b1, b2, b3, b4⟩, _⟩ := bU h'
  exact decl_name%
def kK : Fx := Tb [("_law_units", iE), ("_law_cell", jA), ("_law_fours", kX), ("_law_times", ey)] [] BL IL ML TL aR
def kY : List D -> Rs D := bC kK (aa (af 51)) ["_law_script", "_law_begin", "_law_many"] (ai (af 51))
def nJ (w : Qd) : Prop := gQ 5 w /\ ao w ∈ de
theorem HX {α : Type} {f : α -> D} {l : List α} {c : Int} (h : 0 < l.length) : ∃ x ∈ l, L2.atI (l.map f) (c.fmod ((l.map f).length : Nat)) = some (f x) := by
  rw [List.length_map]
  exact oB (Int.fmod_nonneg_of_pos _ (by omega)) (Int.fmod_lt_of_pos _ (by omega))
theorem CA {L : List D} (hl : Eh L) (b : Int) {m : Nat} (hm : m <= 7) : ∃ (u : Qd) (ws : List Qd), u ∈ bS /\ ws.length = m /\ (∀ w ∈ ws, nJ w) /\ ac (kY [.lst L, .int b, .int m]) (.tup [dq u, .lst (ws.map dq), .lst ((ws.map ao).map D.int), dq (ws.foldl aq u)]) := by
  obtain ⟨u, hu, hat⟩ := oB (f := dq) (l := bS) (i := (ig L b).fmod 24) (Int.fmod_nonneg_of_pos _ (by decide)) (Int.fmod_lt_of_pos _ (by decide))
  have gu := iz (cy u hu)
  obtain ⟨r, h1, ws, w1, w2, hr⟩ : ∃ r, ac (aD kK (ai (af 51)) (aa (af 51)) (e9 ["_law_script", "_law_begin", "_law_many"] [.lst L, .int b, .int m])) (.rt r) /\ ∃ ws : List Qd, ws.length = m /\ (∀ w ∈ ws, nJ w) /\ r = .tup [dq u, .lst (ws.map dq), .lst ((ws.map ao).map D.int), dq (ws.foldl aq u)] := by
    obtain ⟨ρ', g1, ws, w1, w2, s⟩ : ∃ ρ', ac (aD kK ((ai (af 51)).take 5) (aa (af 51)) (e9 ["_law_script", "_law_begin", "_law_many"] [.lst L, .int b, .int m])) (.nx ρ') /\ ∃ ws : List Qd, ws.length = m /\ (∀ w ∈ ws, nJ w) /\ Sub (bQ [("_law_primes", .lst ((ws.map ao).map D.int), true), ("_law_parts", .lst (ws.map dq), true), ("_law_whole_here", dq (ws.foldl aq u), true), ("_law_unit", dq u, true)]) ρ' := by
      refine wp 2 decl_name% (eI (b0 (d := dq u) (dO (aT decl_name% tM) decl_name% rfl hat)) (wp 1 decl_name% (fq (P := fun ρ' => ∃ ws : List Qd, ws.length = m /\ (∀ w ∈ ws, nJ w) /\ Sub (bQ [("_law_primes", .lst ((ws.map ao).map D.int), true), ("_law_parts", .lst (ws.map dq), true), ("_law_whole_here", dq (ws.foldl aq u), true), ("_law_unit", dq u, true)]) ρ') (EN (n := m) (fun i ρ => ∃ ws : List Qd, ws.length = i /\ (∀ w ∈ ws, nJ w) /\ gQ (1 + 6 * i) (ws.foldl aq u) /\ Sub (bQ [("_law_script", .lst L, false), ("_law_begin", .int b, false), ("_law_primes", .lst ((ws.map ao).map D.int), true), ("_law_parts", .lst (ws.map dq), true), ("_law_whole_here", dq (ws.foldl aq u), true), ("_law_unit", dq u, true)]) ρ) (qv (B := f7) decl_name% (qY (by omega))) ⟨[], rfl, (fun w h => by cases h), gu, ae rfl (ae rfl (ae rfl (ae rfl (ae rfl (ae rfl (aI))))))⟩ ?_ ?_) fun ρ h => eT h)))
      . rintro i ρ hi ⟨ws, w1, w2, w3, s⟩
        refine ⟨_, rfl, ?_⟩
        have s1 := s.put (Str.ofString "_law_k") (.int (i : Nat), false)
        obtain ⟨p0, hp0, at0⟩ := oB (f := D.int) (l := [2, 3, 5, 7, 11, 13, 3, 5]) (i := (ig L (b + 1 + (i : Nat))).fmod 8) (Int.fmod_nonneg_of_pos _ (by decide)) (Int.fmod_lt_of_pos _ (by decide))
        obtain ⟨p1, hp1, at1⟩ := oB (f := D.int) (l := [17, 19, 23, 29, 31, 37, 41, 43, 47, 53, 59, 61, 67, 71, 73, 79, 83, 89, 97]) (i := ((ig L (b + 1 + (i : Nat))).fdiv 192).fmod 19) (Int.fmod_nonneg_of_pos _ (by decide)) (Int.fmod_lt_of_pos _ (by decide))
        have q0 : p0 ∈ de := (show ∀ x ∈ ([2, 3, 5, 7, 11, 13, 3, 5] : List Int), x ∈ de by decide) p0 hp0
        have q1 : p1 ∈ de := (show ∀ x ∈ ([17, 19, 23, 29, 31, 37, 41, 43, 47, 53, 59, 61, 67, 71, 73, 79, 83, 89, 97] : List Int), x ∈ de by decide) p1 hp1
        refine PM (Q := fun ρ => ∃ (n : Int), n ∈ de /\ Sub (bQ [("_law_script", .lst L, false), ("_law_begin", .int b, false), ("_law_primes", .lst ((ws.map ao).map D.int), true), ("_law_parts", .lst (ws.map dq), true), ("_law_whole_here", dq (ws.foldl aq u), true), ("_law_unit", dq u, true), ("_law_cell_here", .int (ig L (b + 1 + (i : Nat))), true), ("_law_p", .int n, true)]) ρ) 3 ?_ ?_
        . have s2 := s1.put (Str.ofString "_law_cell_here") (.int (ig L (b + 1 + (i : Nat))), true)
          have s3 := s2.put (Str.ofString "_law_p") (.int p0, true)
          exact eI (b0 (d := .int (ig L (b + 1 + (i : Nat)))) (bD s1 decl_name%)) (eI (b0 (d := .int p0) (bD s2 (dO decl_name% decl_name% rfl at0))) (fq (vn (k := 0) (bD s3 decl_name%) (fun _ => cw s3 (bI (b0 (d := .int p1) (dO decl_name% decl_name% rfl at1)) dh) fun ρ' s' => ⟨p1, q1, ae s'.get (ae s'.get (ae s'.get (ae s'.get (ae s'.get (ae s'.get (ae s'.get (ae s'.get aI)))))))⟩) (fun _ => eT ⟨p0, q0, ae s3.get (ae s3.get (ae s3.get (ae s3.get (ae s3.get (ae s3.get (ae s3.get (ae s3.get aI)))))))⟩)) fun ρ h => eT h))
        . rintro ρ2 ⟨n, hn, s⟩
          obtain ⟨w, hw, atw⟩ := HX (f := dq) (l := eO n) (c := (ig L (b + 1 + (i : Nat))).fdiv 4096) (rY hn)
          obtain ⟨gw, ew⟩ := yT hw
          subst ew
          have hne : ((((eO (ao w)).map dq).length : Nat) : Int) ≠ 0 := by have := rY hn; rw [List.length_map]; omega
          have l1 : ((ws.map ao).map D.int).length < bE := by rw [List.length_map, List.length_map, w1]; show i < 40000; omega
          have l2 : (ws.map dq).length < bE := by rw [List.length_map, w1]; show i < 40000; omega
          have b1 := w3.bd (by omega)
          have b2 := gw.bd (by decide)
          have s4 := s.put (Str.ofString "_law_some") (.lst ((eO (ao w)).map dq), true)
          have s5 := s4.put (Str.ofString "_law_part") (dq w, true)
          refine eI (b0 (d := .lst ((eO (ao w)).map dq)) (bD s (aT decl_name% (Ce hn)))) (eI (b0 (d := dq w) (bD s4 (dO decl_name% decl_name% rfl atw))) (cw s5 decl_name% fun ρ' s' => ⟨ws ++ [w], by rw [List.length_append, w1]; rfl, ?_, ?_, ?_⟩))
          . intro x hx
            rcases List.mem_append.mp hx with hx | hx
            . exact w2 x hx
            . rw [List.mem_singleton] at hx; subst hx; exact ⟨gw, hn⟩
          . rw [List.foldl_append]
            have := w3.mul gw
            exact this.mono (by omega)
          . rw [List.map_append, List.map_append, List.map_append, List.foldl_append]
            exact ae s'.get (ae s'.get (ae s'.get (ae s'.get (ae s'.get (ae s'.get aI)))))
      . rintro ρ ⟨ws, w1, w2, w3, s⟩
        exact ⟨ws, w1, w2, ae s.get (ae s.get (ae s.get (ae s.get aI)))⟩
    exact ⟨_, bi 5 g1 (cE s decl_name%), ws, w1, w2, rfl⟩
  subst hr
  exact ⟨u, ws, hu, w1, w2, bM h1⟩
def mH : Fx := Tb [] [] BL IL ML TL aR
def fX : List D -> Rs D := bC mH (aa (af 52)) ["_law_four"] (ai (af 52))
theorem wK (a b c d G : Int) (f : Bool) (hG : fT G) : ac (aD mH ((ai (af 52)).drop 2) (aa (af 52)) (bQ [("_law_four", t4 a b c d, false), ("_law_common", .int G, f)])) (.rt (.int (cond (([D.int ((a.fdiv G).fmod 2), .int ((b.fdiv G).fmod 2), .int ((c.fdiv G).fmod 2), .int ((d.fdiv G).fmod 2)].any fun z => cA z (.int 0)) && ([D.int ((a.fdiv G).fmod 2), .int ((b.fdiv G).fmod 2), .int ((c.fdiv G).fmod 2), .int ((d.fdiv G).fmod 2)].any fun z => cA z (.int 1))) (G.fdiv 2) G))) := by
  refine bi 1 decl_name% (jk (uv decl_name% decl_name%) (fun ht => ?_) (fun hf => ?_))
  . rw [ht]; exact decl_name%
  . rw [hf]; exact decl_name%
theorem Et {a b c d : Int} (h0 : ¬ (a = 0 /\ b = 0 /\ c = 0 /\ d = 0)) (hb : ∀ n ∈ [a, b, c, d], n.natAbs < 2 ^ 1000) (hB : fT (gI [a, b, c, d])) : ac (fX [t4 a b c d]) (.int (cond (([D.int ((a.fdiv (gI [a, b, c, d])).fmod 2), .int ((b.fdiv (gI [a, b, c, d])).fmod 2), .int ((c.fdiv (gI [a, b, c, d])).fmod 2), .int ((d.fdiv (gI [a, b, c, d])).fmod 2)].any fun z => cA z (.int 0)) && ([D.int ((a.fdiv (gI [a, b, c, d])).fmod 2), .int ((b.fdiv (gI [a, b, c, d])).fmod 2), .int ((c.fdiv (gI [a, b, c, d])).fmod 2), .int ((d.fdiv (gI [a, b, c, d])).fmod 2)].any fun z => cA z (.int 1))) ((gI [a, b, c, d]).fdiv 2) (gI [a, b, c, d]))) := by
  refine bM (bi 1 decl_name% (li (ds := ([a, b, c, d] : List Int).map D.int) (fun rem ρ => ∃ (r : List Int) (g : Nat) (f : Bool), rem = r.map D.int /\ (∀ n ∈ r, n.natAbs < 2 ^ 1000) /\ dE g r = dE 0 [a, b, c, d] /\ g < 2 ^ 1000 /\ Sub (bQ [("_law_four", t4 a b c d, false), ("_law_common", .int g, f)]) ρ) decl_name% ⟨[a, b, c, d], 0, true, rfl, hb, rfl, Nat.pow_pos (by decide), ae rfl (ae rfl aI)⟩ ?_ ?_))
  . rintro x l ρ ⟨r, g, f, hr, hb', hg, hlt, s⟩
    cases r with
    | nil => cases hr
    | cons n r =>
      cases hr
      have hn := hb' n List.mem_cons_self
      have ea : (if n < 0 then -n else n) = ((n.natAbs : Nat) : Int) := by omega
      refine ⟨_, rfl, eI (b0 (d := .int (n.natAbs : Nat)) (bD (s.put _ _) (decl_name%.eq (by rw [ea])))) (GC (m := 2002) (fun m ρ => ∃ (x y : Nat) (f1 f2 : Bool), xQ x y m /\ x < 2 ^ 1000 /\ y < 2 ^ 1000 /\ Nat.gcd x y = Nat.gcd g n.natAbs /\ Sub (bQ [("_law_four", t4 a b c d, false), ("_law_common", .int x, f1), ("_law_rest", .int y, f2)]) ρ) ⟨g, n.natAbs, f, true, Fa hlt hn, hlt, hn, rfl, ae ((s.put _ _).put _ _).get (ae ((s.put _ _).put _ _).get (ae ((s.put _ _).put _ _).get aI))⟩ (by decide) ?_ ?_)⟩
      . rintro m ρ ⟨x, y, f1, f2, hm, hx, hy, hg', s⟩
        refine ⟨decide ((0 : Int) < y), 0, bD s decl_name%, fun ht => ?_⟩
        have h0 : y ≠ 0 := by
          have := of_decide_eq_true ht
          omega
        have hn : (y : Int) ≠ 0 := by omega
        obtain ⟨m', hm', hE⟩ := uw hm h0
        have e := wZ x y
        exact lg hm' (cw s decl_name% fun ρ' s' => ⟨y, x % y, false, false, hE, hy, Nat.lt_trans (Nat.mod_lt _ (by omega)) hy, by rw [<- hg', Nat.gcd_comm x y, Nat.gcd_rec y x, Nat.gcd_comm], ae s'.get (ae s'.get (ae (by rw [<- e]; exact s'.get) aI))⟩)
      . rintro m ρ ⟨x, y, f1, f2, hm, hx, hy, hg', s⟩ ⟨k, hk⟩
        have e := hk.inj (bD s decl_name%)
        have h0 : y = 0 := by
          have e1 : decide ((0 : Int) < y) = false := by injection e with e1 e2; injection e1 with e1; exact e1.symm
          have := of_decide_eq_false e1
          omega
        subst h0
        rw [Nat.gcd_zero_right] at hg'
        exact ⟨r, x, f1, rfl, fun m hm => hb' m (List.mem_cons_of_mem _ hm), by rw [hg']; exact hg, hx, ae s.get (ae s.get aI)⟩
  . rintro ρ ⟨r, g, f, hr, hb', hg, hlt, s⟩
    cases r with
    | nil =>
      have e : (g : Int) = gI [a, b, c, d] := by unfold gI; rw [<- hg]; rfl
      rw [<- e] at hB ⊢
      exact cE s (wK a b c d _ _ hB)
    | cons n r => cases hr
def pD : Fx := Tb [("_law_times", ey), ("_law_divisor", fX)] [] BL IL ML TL aR
def pG : List D -> Rs D := bC pD (aa (af 55)) ["_law_unit", "_law_parts"] (ai (af 55))
theorem Hu {q : Qd} (h : q ≠ au) (g : gQ 400 q) : ac (fX [dq q]) (.int (gU q)) := by
  have b := g.bd (by decide)
  obtain ⟨n, hn, n0⟩ := ua h
  have hg := rX hn n0
  have hle : ∀ n ∈ [q.1, q.2.1, q.2.2.1, q.2.2.2], n.natAbs <= 2 ^ 400 := by
    intro n hn
    simp only [List.mem_cons, List.not_mem_nil, or_false] at hn
    rcases hn with rfl | rfl | rfl | rfl
    . exact g.2.1
    . exact g.2.2.1
    . exact g.2.2.2.1
    . exact g.2.2.2.2
  have k := Et (a := q.1) (b := q.2.1) (c := q.2.2.1) (d := q.2.2.2) (fun z => h (cU z.1 z.2.1 z.2.2.1 z.2.2.2)) (fun m hm => Nat.lt_of_le_of_lt (hle m hm) (Nat.pow_lt_pow_right (by decide) (by decide))) ⟨by omega, Nat.lt_of_le_of_lt (Nat.le_trans (Az hn n0) (hle n hn)) (Nat.pow_lt_pow_right (by decide) (by decide))⟩
  rw [BB] at k
  refine k.eq ?_
  unfold gU
  cases iL _ _ _ _ <;> rfl
theorem xh {u : Qd} (hu : u ∈ bS) : ∀ (rem done : List Qd) (f : Bool) (ρ : aj), (∀ w ∈ rem, nJ w) -> (∀ w ∈ done, nJ w) -> done.length + rem.length <= 7 -> gQ (1 + 6 * done.length) (done.foldl aq u) -> gH (done.foldl aq u) -> Sub (bQ [("_law_whole_here", dq (done.foldl aq u), f), ("_law_kept", .lst (done.map dq), true)]) ρ ->
    ∃ j, j <= rem.length /\ gH ((done ++ rem.take j).foldl aq u) /\ uG pD (aa (af 55)) (jt ((ai (af 55)).getD 2 (.Pass ⟨0, 0, 0, 0⟩))) (fh ((ai (af 55)).getD 2 (.Pass ⟨0, 0, 0, 0⟩))) ((ai (af 55)).drop 3) (.tup [.lst ((done ++ rem.take j).map dq), dq ((done ++ rem.take j).foldl aq u)]) (rem.map dq) ρ
  | [], done, f, ρ, _, _, _, _, pl, s => ⟨0, Nat.le_refl _, by rw [List.take_nil, List.append_nil]; exact pl, by rw [List.take_nil, List.append_nil]; exact cE s decl_name%⟩
  | w :: rem, done, f, ρ, hw, hd, hl, g, pl, s => by
    obtain ⟨gw, pw⟩ := hw w List.mem_cons_self
    simp only [List.length_cons] at hl
    have b1 := g.bd (by omega)
    have b2 := gw.bd (by decide)
    have gm : gQ (1 + 6 * (done.length + 1)) (aq (done.foldl aq u) w) := (g.mul gw).mono (by omega)
    have m0 : aq (done.foldl aq u) w ≠ au := xp (s := true) g.1 gw.1 pl.ne (fun z => by rw [z] at pw; exact absurd pw (by decide))
    have kd := Hu m0 (gm.mono (by omega))
    have s1 := s.put (Str.ofString "_law_part") (dq w, false)
    by_cases hv : 1 < gU (aq (done.foldl aq u) w)
    . refine ⟨0, Nat.zero_le _, by rw [List.take_zero, List.append_nil]; exact pl, ?_⟩
      rw [List.take_zero, List.append_nil]
      exact ⟨_, rfl, .inr (cE s1 (bi 1 decl_name% (fY (t := decide (1 < gU (aq (done.foldl aq u) w))) (k := 0) (cz (aT decl_name% kd) decl_name% cC) (decide_eq_true hv) decl_name%)))⟩
    . have pm : gH (aq (done.foldl aq u) w) := (tZ m0 gm.1).mpr (by omega)
      have l1 : (done.map dq).length < bE := by rw [List.length_map]; show _ < 40000; omega
      have ef : (done ++ [w]).foldl aq u = aq (done.foldl aq u) w := by rw [List.foldl_append]; rfl
      have h2 := cw s1 (ss := fh ((ai (af 55)).getD 2 (.Pass ⟨0, 0, 0, 0⟩))) (Φ := pD) (sc := aa (af 55)) (P := fun ρ' => Sub (bQ [("_law_whole_here", dq ((done ++ [w]).foldl aq u), true), ("_law_kept", .lst ((done ++ [w]).map dq), true)]) ρ') (bi 1 decl_name% (bL (t := decide (1 < gU (aq (done.foldl aq u) w))) (k := 0) (cz (aT decl_name% kd) decl_name% cC) (decide_eq_false hv) decl_name%)) (fun ρ' s' => by
        rw [ef, List.map_append]
        exact ae s'.get (ae s'.get aI))
      obtain ⟨ρ2, r1, s2⟩ := h2
      obtain ⟨j, j1, j2, j3⟩ := xh hu rem (done ++ [w]) true ρ2 (fun x hx => hw x (List.mem_cons_of_mem _ hx)) (fun x hx => by
        rcases List.mem_append.mp hx with hx | hx
        . exact hd x hx
        . rw [List.mem_singleton] at hx; subst hx; exact ⟨gw, pw⟩) (by rw [List.length_append]; show done.length + 1 + _ <= 7; omega) (by rw [ef, List.length_append]; exact gm) (by rw [ef]; exact pm) s2
      refine ⟨j + 1, by simp; omega, ?_, ?_⟩
      . rw [List.take_succ_cons, List.append_cons]; exact j2
      . rw [List.take_succ_cons, List.append_cons]
        exact ⟨_, rfl, .inl ⟨ρ2, r1, j3⟩⟩
theorem HW {u : Qd} {ws : List Qd} (hu : u ∈ bS) (hw : ∀ w ∈ ws, nJ w) (hl : ws.length <= 7) : ∃ j, j <= ws.length /\ gH ((ws.take j).foldl aq u) /\ ac (pG [dq u, .lst (ws.map dq)]) (.tup [.lst ((ws.take j).map dq), dq ((ws.take j).foldl aq u)]) := by
  have gu := iz (cy u hu)
  have lw := cI ws
  obtain ⟨j, j1, j2, j3⟩ := xh hu ws [] true (demote (lN ((ai (af 55)).getD 2 (.Pass ⟨0, 0, 0, 0⟩))) (bT (bT (e9 ["_law_unit", "_law_parts"] [dq u, .lst (ws.map dq)]) "_law_whole_here" (dq u, true)) "_law_kept" (.lst [], true))) hw (fun w h => by cases h) (by simpa using hl) gu (yh gu.1 (gR (cy u hu)).2.1) (ae rfl (ae rfl aI))
  refine ⟨j, j1, j2, bM (bi 2 decl_name% (lj (k := 1) (ws.map dq) (d := .lst (ws.map dq)) decl_name% ?_))⟩
  exact j3
def Gm : Fx := Tb [] [] BL IL ML TL aR
def Gs : List D -> Rs D := bC Gm (aa (af 17)) ["four"] (ai (af 17))
def gi : List D -> Rs D := qR dQ fun p => .ok (.int (ao p)) [dm p]
theorem xI : ∀ ds r, ac (gi ds) r -> ac (Gs ds) r := by
  intro ds r h
  obtain ⟨p, rfl, h'⟩ := iV h
  obtain ⟨rfl, hp, _⟩ := bU h'
  obtain ⟨⟨a1, a2, a3, a4⟩, _⟩ := oA hp hp
  exact bR rfl (by walk_at "ob")
def tz : Fx := Tb [] [] BL IL ML TL aR
def iP : List D -> Rs D := bC tz (aa (af 31)) ["one", "other"] (ai (af 31))
theorem Jw (a b : Nat) (ha : a < 2 ^ 1000) (hb : b < 2 ^ 1000) : ac (iP [.int a, .int b]) (.int (Nat.gcd a b : Nat)) := by
  refine bM (jS (m := 2002) (fun m ρ => ∃ (x y : Nat) (f g : Bool), xQ x y m /\ Nat.gcd x y = Nat.gcd a b /\ Sub (bQ [("one", .int x, f), ("other", .int y, g)]) ρ) ⟨a, b, false, false, Fa ha hb, rfl, ae rfl (ae rfl aI)⟩ (by decide) ?_ ?_)
  . rintro m ρ ⟨x, y, f, g, hm, hg, s⟩
    refine ⟨!decide ((y : Int) = 0), 0, bD s (decl_name%.bl (by show (!cA (.int y) (.int 0)) = _; rw [eV])), fun ht => ?_⟩
    have h0 : y ≠ 0 := by
      intro z; subst z; exact absurd ht (by decide)
    have hn : (y : Int) ≠ 0 := by omega
    obtain ⟨m', hm', hE⟩ := uw hm h0
    have e := wZ x y
    exact lg hm' (cw s decl_name% fun ρ' s' => ⟨y, x % y, true, true, hE, by rw [<- hg, Nat.gcd_comm x y, Nat.gcd_rec y x, Nat.gcd_comm], ae s'.get (ae (by rw [<- e]; exact s'.get) aI)⟩)
  . rintro m ρ ⟨x, y, f, g, hm, hg, s⟩ ⟨k, hk⟩
    have e := hk.inj (bD s decl_name%)
    have h0 : y = 0 := by
      have e1 : (!cA (.int y) (.int 0)) = false := by injection e with e1 e2; injection e1 with e1; exact e1.symm
      rw [eV] at e1
      have : (y : Int) = 0 := by simpa using e1
      omega
    subst h0
    rw [<- hg, Nat.gcd_zero_right]
    exact cE s decl_name%
def nh : Fx := Tb [("shared_by", iP)] [] BL IL ML TL aR
def nk : List D -> Rs D := bC nh (aa (af 30)) ["numbers"] (ai (af 30))
def dP : List D -> Rs D
  | [.tup l] => .ok (.int (vq l)) [wk l]
  | _ => .st
theorem jL : ∀ ds r, ac (dP ds) r -> ac (nk ds) r := by
  intro ds r h
  unfold dP at h
  split at h
  . obtain ⟨rfl, ⟨ns, rfl, hl, hb⟩, _⟩ := bU h
    rw [rW]
    refine bM (bi 1 decl_name% (li (ds := ns.map D.int) (fun rem ρ => ∃ (r : List Int) (g : Nat), rem = r.map D.int /\ (∀ n ∈ r, n.natAbs < 2 ^ 1000) /\ dE g r = dE 0 ns /\ g < 2 ^ 1000 /\ Sub (bQ [("reached", .int g, true)]) ρ) decl_name% ⟨ns, 0, rfl, hb, rfl, Nat.pow_pos (by decide), ae rfl aI⟩ ?_ ?_ rfl (PN (.tup (ns.map D.int)))))
    . rintro d l ρ ⟨r, g, hr, hb', hg, hlt, s⟩
      cases r with
      | nil => cases hr
      | cons n r =>
        cases hr
        have hn := hb' n List.mem_cons_self
        have ea : (if n < 0 then -n else n) = ((n.natAbs : Nat) : Int) := by omega
        have k := Jw g n.natAbs hlt hn
        refine ⟨_, rfl, cw (s.put _ _) (bI (b0 (aT (v := .int (Nat.gcd g n.natAbs : Nat)) (decl_name%.eq (by rw [ea])) k)) dh) fun ρ' s' => ⟨r, Nat.gcd g n.natAbs, rfl, fun m hm => hb' m (List.mem_cons_of_mem _ hm), hg, ?_, ae s'.get aI⟩⟩
        rcases Nat.eq_zero_or_pos g with z | z
        . subst z; rw [Nat.gcd_zero_left]; exact hn
        . exact Nat.lt_of_le_of_lt (Nat.le_of_dvd z (Nat.gcd_dvd_left _ _)) hlt
    . rintro ρ ⟨r, g, hr, hb', hg, hlt, s⟩
      cases r with
      | nil =>
        rw [<- hg]
        exact cE s decl_name%
      | cons n r => cases hr
  . exact (ar h).elim
def vF : Fx := Tb [] [] BL IL ML TL aR
def oJ : List D -> Rs D := bC vF (aa (af 8)) ["thing"] (ai (af 8))
def xF : Fx := Tb [("is_whole", oJ)] [] BL IL ML TL aR
def kZ : List D -> Rs D := bC xF (aa (af 9)) ["thing"] (ai (af 9))
theorem Hz (a b c d : Int) : ac (kZ [.tup [.int a, .int b, .int c, .int d]]) (.bl (decide (b.fmod 2 = a.fmod 2) && (decide (c.fmod 2 = a.fmod 2) && decide (d.fmod 2 = a.fmod 2)))) := by
  refine bM (bL decl_name% rfl (bL decl_name% rfl (ac.eq decl_name% ?_)))
  show Fl.rt (.bl ([cA (.int (a.fmod 2)) (.int (a.fmod 2)), cA (.int (b.fmod 2)) (.int (a.fmod 2)), cA (.int (c.fmod 2)) (.int (a.fmod 2)), cA (.int (d.fmod 2)) (.int (a.fmod 2))].all id)) = _
  simp [eV]
def iC : Fx := Tb [("common_divisor", dP), ("is_four", kZ)] [("NOUGHT", .tup [.int 0, .int 0, .int 0, .int 0])] BL IL ML TL aR
def ee : List D -> Rs D := bC iC (aa (af 35)) ["four"] (ai (af 35))
def rL (a b c d : Int) : Bool := decide (b.fmod 2 = a.fmod 2) && (decide (c.fmod 2 = a.fmod 2) && decide (d.fmod 2 = a.fmod 2))
theorem AX (a b c d G : Int) (hG : fT G) : ac (aD iC ((ai (af 35)).drop 2) (aa (af 35)) (bQ [("four", t4 a b c d, false), ("common", .int G, true)])) (.rt (.int (cond (rL (a.fdiv G) (b.fdiv G) (c.fdiv G) (d.fdiv G)) G (G.fdiv 2)))) :=
  d8 (dF (om (r := (.int (cond (rL (a.fdiv G) (b.fdiv G) (c.fdiv G) (d.fdiv G)) G (G.fdiv 2)), 0)) (aT decl_name% (Hz (a.fdiv G) (b.fdiv G) (c.fdiv G) (d.fdiv G))) (fun ht => by rw [show rL (a.fdiv G) (b.fdiv G) (c.fdiv G) (d.fdiv G) = true from ht]; exact decl_name%) (fun hf => by rw [show rL (a.fdiv G) (b.fdiv G) (c.fdiv G) (d.fdiv G) = false from hf]; exact decl_name%)))
theorem Ir {a b c d : Int} (h0 : ¬ (a = 0 /\ b = 0 /\ c = 0 /\ d = 0)) (hT : wk (([a, b, c, d] : List Int).map D.int)) (aB : a.natAbs < cX) (bB : b.natAbs < cX) (cB : c.natAbs < cX) (dB : d.natAbs < cX) : ac (ee [t4 a b c d]) (.int (cond (rL (a.fdiv (gI [a, b, c, d])) (b.fdiv (gI [a, b, c, d])) (c.fdiv (gI [a, b, c, d])) (d.fdiv (gI [a, b, c, d]))) (gI [a, b, c, d]) ((gI [a, b, c, d]).fdiv 2))) := by
  have hd : fT (gI [a, b, c, d]) := by
    have : ∃ n ∈ [a, b, c, d], n ≠ 0 /\ n.natAbs < cX := by
      by_cases q1 : a = 0
      . by_cases q2 : b = 0
        . by_cases q3 : c = 0
          . exact ⟨d, by simp, fun q4 => h0 ⟨q1, q2, q3, q4⟩, dB⟩
          . exact ⟨c, by simp, q3, cB⟩
        . exact ⟨b, by simp, q2, bB⟩
      . exact ⟨a, by simp, q1, aB⟩
    obtain ⟨n, hn, n0, nb⟩ := this
    have := rX hn n0
    exact ⟨by omega, Nat.lt_of_le_of_lt (Az hn n0) nb⟩
  have hne : cA (t4 a b c d) (dq au) = false := by
    show cA (dq (a, b, c, d)) (dq au) = false
    rw [fS]
    exact decide_eq_false fun e => h0 (by injection e with e1 e2; injection e2 with e2 e3; injection e3 with e3 e4; exact ⟨e1, e2, e3, e4⟩)
  rw [<- Cd] at hd ⊢
  exact bM (bL (decl_name%.bl hne) rfl (bi 1 decl_name% (cE (ae rfl (ae rfl aI)) (AX a b c d _ hd))))
def jG : Fx := Tb [] [("PRIMES", .tup [.int 2, .int 3, .int 5, .int 7, .int 11, .int 13, .int 17, .int 19, .int 23, .int 29, .int 31, .int 37, .int 41, .int 43, .int 47, .int 53, .int 59, .int 61, .int 67, .int 71, .int 73, .int 79, .int 83, .int 89, .int 97])] BL IL ML TL aR
def gD : List D -> Rs D := bC jG (aa (af 37)) ["order", "whole"] (ai (af 37))
theorem HZ {n : Int} (h : n ∈ de) : ((de.map D.int).any fun y => cA y (.int n)) = true := by
  rw [List.any_eq_true]
  exact ⟨.int n, List.mem_map.mpr ⟨n, h, rfl⟩, by rw [eV]; exact decide_eq_true rfl⟩
theorem Fd (n : Int) : ib (.tup (de.map D.int)) (.int n) = true := by
  have k : SeqAt.shaped (D.int n).py = true := by rw [D.py]; rfl
  unfold ib
  rw [k]
  decide +kernel
theorem BM {n : Int} (h : n ∈ de) : ac (gz .NotIn (.int n) (.tup (de.map D.int))) false := ac.eq ⟨_, rfl, Fd n, True.intro⟩ (by rw [HZ h]; rfl)
theorem tY : ∀ l : List Int, cH l.reverse = cH l
  | [] => rfl
  | n :: l => by rw [List.reverse_cons, iW, tY l, oS, cJ, Int.mul_comm]
theorem Cg {ns : List Int} {w : Int} (h : ∀ n ∈ ns, n ∈ de) (hn : ns.length <= 100) (hw : cH ns = w) : ac (gD [.lst (ns.map D.int), .int w]) .non := by
  have ll : am (ns.map D.int) = true := cV (fun _ => rfl) ns
  have ew := rG 0 ns
  have he : gx 0 (ns.map D.int) = (List.range ns.length).map fun i => .tup [.int (i : Nat), .int (ns.getD i 0)] := by
    conv => lhs; rw [ew]
    rw [List.map_map]
    exact uy _
  refine bM (bi 1 decl_name% (uQ (Q := fun ρ => Sub (bQ [("order", .lst (ns.map D.int), false), ("whole", .int w, false), ("reached", .int (cH ns), true)]) ρ) ?_ ?_))
  . have fa := eJ (Φ := jG) (sc := aa (af 37)) (ρ := bT (e9 ["order", "whole"] [.lst (ns.map D.int), .int w]) "reached" (.int 1, true)) (h := fun i : Nat => D.tup [.int (i : Nat), .int (ns.getD i 0)]) (g := fun i => [ns.getD i 0]) (T := (List.range ns.length).flatMap fun i => [ns.getD i 0]) (F := []) (R := []) (k := 1) (fun F ρ => Sub (bQ [("order", .lst (ns.map D.int), false), ("whole", .int w, false), ("reached", .int (cH F), true)]) ρ) (List.range ns.length) (d := .lst (gx 0 (ns.map D.int))) (tg := jt ((ai (af 37)).getD 1 (.Pass ⟨0, 0, 0, 0⟩))) (it := lN ((ai (af 37)).getD 1 (.Pass ⟨0, 0, 0, 0⟩))) (body := fh ((ai (af 37)).getD 1 (.Pass ⟨0, 0, 0, 0⟩))) (p := ⟨0, 0, 0, 0⟩) decl_name% (by show some (gx 0 _) = _; rw [he]) (ae rfl (ae rfl (ae rfl aI))) (by simp) ?_
    . rw [List.nil_append, fR, <- ew] at fa
      exact fa
    . intro i hi F R ρ e s
      have hi : i < ns.length := by simpa using hi
      have hm : ns.getD i 0 ∈ de := h _ (by rw [List.getD_eq_getElem?_getD, List.getElem?_eq_getElem hi]; exact List.getElem_mem _)
      obtain ⟨p1, p2⟩ := fo _ hm
      have mm : bK (cH F) (ns.getD i 0) := lH (by omega)
      refine ⟨_, rfl, cw ((s.put _ _).put _ _) (bL (t := false) (k := 0) (cz decl_name% decl_name% (BM hm)) rfl decl_name%) fun ρ' s' => ?_⟩
      rw [iW, oS]
      exact ae s'.get (ae s'.get (ae s'.get (aI)))
  . intro ρ s
    exact cE s (d8 (dF (om (r := (.non, 0)) (t := true) (decl_name%.bl ((eV _ _).trans (decide_eq_true hw))) (fun _ => decl_name%) (fun z => by cases z))))
def ng : Fx := Tb [] [] BL IL ML TL aR
def nj : List D -> Rs D := bC ng (aa (af 22)) ["side"] (ai (af 22))
def c6 : List D -> Rs D := qR xf fun s => .ok .non []
theorem jK : ∀ ds r, ac (c6 ds) r -> ac (nj ds) r := by
  intro ds r h
  obtain ⟨s, rfl, h'⟩ := iV h
  obtain ⟨rfl, _⟩ := bU h'
  cases s
  . exact bR rfl (by walk_at "ob")
  . exact bR rfl (by walk_at "ob")
def Gn : Fx := Tb [] [] BL IL ML TL aR
def Gu : List D -> Rs D := bC Gn (aa (af 10)) ["one", "other"] (ai (af 10))
def kU : List D -> Rs D := nC dQ dQ fun p q => .ok (dq (bn p q)) []
theorem xJ : ∀ ds r, ac (kU ds) r -> ac (Gu ds) r := by
  intro ds r h
  obtain ⟨p, q, rfl, h'⟩ := fE h
  obtain ⟨rfl, _⟩ := bU h'
  exact bR rfl (by walk_at "ob")
def sL : Fx := Tb [] [] BL IL ML TL aR
def sR : List D -> Rs D := bC sL (aa (af 11)) ["one", "number"] (ai (af 11))
def ik : List D -> Rs D := nC dQ dI fun p n => .ok (dq (aZ p n)) [dm p, n.natAbs < cX]
theorem oH : ∀ ds r, ac (ik ds) r -> ac (sR ds) r := by
  intro ds r h
  obtain ⟨p, n, rfl, h'⟩ := fE h
  obtain ⟨rfl, hp, hn, _⟩ := bU h'
  have m1 := bV hp.1 hn
  have m2 := bV hp.2.1 hn
  have m3 := bV hp.2.2.1 hn
  have m4 := bV hp.2.2.2 hn
  exact bR rfl (by walk_at "ob")
def xw : Fx := Tb [("size", gi), ("less", kU), ("many_times", ik)] [] BL IL ML TL aR
def xK : List D -> Rs D := bC xw (aa (af 25)) ["four", "tried", "number"] (ai (af 25))
def kM : List D -> Rs D := qQ dQ dQ dI fun p q n => .ok (.int (fD p q n)) [wl p q n]
theorem sM : ∀ ds r, ac (kM ds) r -> ac (xK ds) r := by
  intro ds r h
  obtain ⟨p, q, n, rfl, h'⟩ := iU h
  obtain ⟨rfl, ⟨h1, h2, h3⟩, _⟩ := bU h'
  exact bR rfl (by walk_at "ob")
def xz : Fx := Tb [("strayed", kM)] [] BL IL ML TL aR
def xM : List D -> Rs D := bC xz (aa (af 24)) ["four", "number"] (ai (af 24))
def kO : List D -> Rs D := nC dQ dI fun p n => .ok (dq (dM p n)) [yv p n]
theorem sO : ∀ ds r, ac (kO ds) r -> ac (xM ds) r := by
  intro ds r h
  obtain ⟨p, n, rfl, h'⟩ := fE h
  obtain ⟨rfl, ⟨h1, h2, h3, h4⟩, _⟩ := bU h'
  have hd : fT (2 * n) := ⟨by omega, h2⟩
  have h3' : wl p ((p.1 + n).fdiv (2 * n) * 2, (p.2.1 + n).fdiv (2 * n) * 2, (p.2.2.1 + n).fdiv (2 * n) * 2, (p.2.2.2 + n).fdiv (2 * n) * 2) n := h3
  have h4' : wl p (p.1.fdiv (2 * n) * 2 + 1, p.2.1.fdiv (2 * n) * 2 + 1, p.2.2.1.fdiv (2 * n) * 2 + 1, p.2.2.2.fdiv (2 * n) * 2 + 1) n := h4
  refine bM (bi 2 decl_name% ?_)
  refine d8 (dF (om (t := decide (fD p (gG p n) n <= fD p (io p n) n)) decl_name% (fun ht => ?_) (fun hf => ?_)))
  . show ac _ (dq (dM p n), 0)
    unfold dM; rw [if_pos (by simpa using ht)]
    exact bR rfl (by walk_at "ob")
  . show ac _ (dq (dM p n), 0)
    unfold dM; rw [if_neg (by simpa using hf)]
    exact bR rfl (by walk_at "ob")
def oE : Fx := Tb [] [] BL IL ML TL aR
def oI : List D -> Rs D := bC oE (aa (af 14)) ["one", "other"] (ai (af 14))
def fv : List D -> Rs D := nC dQ dQ fun p q => .ok (dq (K1 p q)) [dm p, dm q]
theorem kN : ∀ ds r, ac (fv ds) r -> ac (oI ds) r := by
  intro ds r h
  obtain ⟨p, q, rfl, h⟩ := fE h
  obtain ⟨rfl, hp, hq, _⟩ := bU h
  obtain ⟨⟨a1, a2, a3, a4⟩, ⟨b1, b2, b3, b4⟩, ⟨c1, c2, c3, c4⟩, d1, d2, d3, d4⟩ := oA hp hq
  exact bR rfl (by walk_at "ob")
def xy : Fx := Tb [("plain_product", fv)] [] BL IL ML TL aR
def xL : List D -> Rs D := bC xy (aa (af 15)) ["one", "other"] (ai (af 15))
def gj : List D -> Rs D := nC dQ dQ fun p q => .ok (dq (aq p q)) [dm p, dm q]
theorem sN : ∀ ds r, ac (gj ds) r -> ac (xL ds) r := by
  intro ds r h
  obtain ⟨p, q, rfl, h'⟩ := fE h
  obtain ⟨rfl, hp, hq, _⟩ := bU h'
  exact bR rfl (by walk_at "ob")
def zA : Fx := Tb [("product", gj)] [] BL IL ML TL aR
def zE : List D -> Rs D := bC zA (aa (af 23)) ["one", "other", "side"] (ai (af 23))
def jB : List D -> Rs D := qQ dQ dQ xf fun p q s => .ok (dq (aH s p q)) [dm p, dm q]
theorem tJ : ∀ ds r, ac (jB ds) r -> ac (zE ds) r := by
  intro ds r h
  obtain ⟨p, q, s, rfl, h'⟩ := iU h
  obtain ⟨rfl, hp, hq, _⟩ := bU h'
  cases s
  . exact bR rfl (by walk_at "ob")
  . exact bR rfl (by walk_at "ob")
def pA : Fx := Tb [] [] BL IL ML TL aR
def pE : List D -> Rs D := bC pA (aa (af 16)) ["four"] (ai (af 16))
def fO : List D -> Rs D := qR dQ fun p => .ok (dq (bG p)) []
theorem mr : ∀ ds r, ac (fO ds) r -> ac (pE ds) r := by
  intro ds r h
  obtain ⟨p, rfl, h'⟩ := iV h
  obtain ⟨rfl, _⟩ := bU h'
  exact bR rfl (by walk_at "ob")
def xG : Fx := Tb [("refuse_no_side", c6), ("nearest", kO), ("beside", jB), ("size", gi), ("less", kU), ("other_signed", fO)] [("NOUGHT", .tup [.int 0, .int 0, .int 0, .int 0])] BL IL ML TL aR
def xO : List D -> Rs D := bC xG (aa (af 20)) ["one", "other", "side"] (ai (af 20))
def iD : List D -> Rs D := qQ dQ dQ xf fun p q s => .ok (.tup [dq (cP s p q), dq (df s p q)]) [q ≠ au, okD s p q]
theorem sQ : ∀ ds r, ac (iD ds) r -> ac (xO ds) r := by
  intro ds r h
  obtain ⟨p, q, s, rfl, h'⟩ := iU h
  obtain ⟨rfl, h0, ⟨h1, h2, h3, h4, h5⟩, _⟩ := bU h'
  have hc : cA (dq q) (dq au) = false := by simp [h0]
  have h5' : dm (dM (aH s p (bG q)) (ao q)) := h5
  cases s
  . exact bM (bi 1 decl_name% (bL decl_name% hc decl_name%))
  . exact bM (bi 1 decl_name% (bL decl_name% hc decl_name%))
def CO : Fx := Tb [("divided", iD)] [("NOUGHT", .tup [.int 0, .int 0, .int 0, .int 0])] BL IL ML TL aR
def CQ : List D -> Rs D := bC CO (aa (af 21)) ["one", "other", "side"] (ai (af 21))
def fj : List D -> Rs D := qQ dQ dQ xf fun p q s => .ok (iM s p q) [q ≠ au, okD s p q]
theorem vJ : ∀ ds r, ac (fj ds) r -> ac (CQ ds) r := by
  intro ds r h
  obtain ⟨p, q, s, rfl, h'⟩ := iU h
  obtain ⟨rfl, h0, hd, _⟩ := bU h'
  clear h h'
  unfold iM
  cases s
  . refine bM (bi 1 decl_name% (d8 (dF (om (t := decide (df false p q = au)) (k := 0) (decl_name%.bl (fS _ au)) (fun z => ?_) (fun z => ?_)))))
    . rw [if_pos (of_decide_eq_true z)]; exact decl_name%
    . rw [if_neg (of_decide_eq_false z)]; exact decl_name%
  . refine bM (bi 1 decl_name% (d8 (dF (om (t := decide (df true p q = au)) (k := 0) (decl_name%.bl (fS _ au)) (fun z => ?_) (fun z => ?_)))))
    . rw [if_pos (of_decide_eq_true z)]; exact decl_name%
    . rw [if_neg (of_decide_eq_false z)]; exact decl_name%
def vG : Fx := Tb [("refuse_no_side", c6), ("divided", iD), ("less", kU), ("beside", jB)] [("ONE", .tup [.int 2, .int 0, .int 0, .int 0]), ("NOUGHT", .tup [.int 0, .int 0, .int 0, .int 0])] BL IL ML TL aR
def vK : List D -> Rs D := bC vG (aa (af 27)) ["one", "other", "side"] (ai (af 27))
def gM : List D -> Rs D := qQ dQ dQ xf fun p q s => .ok (dR (jr s p q)) [okG p q]
theorem qm : ∀ ds r, ac (gM ds) r -> ac (vK ds) r := by
  intro ds r h
  obtain ⟨p, q, s, rfl, h'⟩ := iU h
  obtain ⟨rfl, hg, _⟩ := bU h'
  clear h h'
  cases s
  . refine bM (bi 3 decl_name% (jS (m := 801) (fun m ρ => ∃ (E : Nat) (a b : eU), gh false p q m E a b /\ il false m a b = jr false p q /\ Sub (bQ [("one", dq p, false), ("other", dq q, false), ("side", nE false, false), ("older", dR a, true), ("newer", dR b, true)]) ρ) ⟨KN, (p, aE, au), (q, au, aE), gh.start hg.1 hg.2.1 hg.2.2.1 hg.2.2.2, rfl, ae rfl (ae rfl (ae rfl (ae rfl (ae rfl aI))))⟩ (by decide) ?_ ?_))
    . rintro m ρ ⟨E, a, b, hw, he, s⟩
      refine ⟨!decide (b.1 = au), 0, bD s (decl_name%.bl (by show (!cA (dq b.1) (dq au)) = _; simp)), fun ht => ?_⟩
      have h0 : b.1 ≠ au := by simpa using ht
      obtain ⟨m', rfl, hw'⟩ := hw.step hg.1 hg.2.1 h0
      obtain ⟨hd, b1, b2, b3⟩ := hw.bd h0
      have b4 := hd.2.2.2.2
      exact lg (Nat.lt_succ_self _) (cw s decl_name% fun ρ' s' => ⟨_, _, _, hw', by rw [<- he, jP h0], ae s'.get (ae s'.get (ae s'.get (ae s'.get (ae s'.get aI))))⟩)
    . rintro m ρ ⟨E, a, b, hw, he, s⟩ ⟨k, hk⟩
      have e := hk.inj (bD s decl_name%)
      have h0 : b.1 = au := by
        have e1 : (!cA (dq b.1) (dq au)) = false := by injection e with e1 e2; injection e1 with e1; exact e1.symm
        simpa using e1
      rw [<- he, mJ h0]
      exact cE s decl_name%
  . refine bM (bi 3 decl_name% (jS (m := 801) (fun m ρ => ∃ (E : Nat) (a b : eU), gh true p q m E a b /\ il true m a b = jr true p q /\ Sub (bQ [("one", dq p, false), ("other", dq q, false), ("side", nE true, false), ("older", dR a, true), ("newer", dR b, true)]) ρ) ⟨KN, (p, aE, au), (q, au, aE), gh.start hg.1 hg.2.1 hg.2.2.1 hg.2.2.2, rfl, ae rfl (ae rfl (ae rfl (ae rfl (ae rfl aI))))⟩ (by decide) ?_ ?_))
    . rintro m ρ ⟨E, a, b, hw, he, s⟩
      refine ⟨!decide (b.1 = au), 0, bD s (decl_name%.bl (by show (!cA (dq b.1) (dq au)) = _; simp)), fun ht => ?_⟩
      have h0 : b.1 ≠ au := by simpa using ht
      obtain ⟨m', rfl, hw'⟩ := hw.step hg.1 hg.2.1 h0
      obtain ⟨hd, b1, b2, b3⟩ := hw.bd h0
      have b4 := hd.2.2.2.2
      exact lg (Nat.lt_succ_self _) (cw s decl_name% fun ρ' s' => ⟨_, _, _, hw', by rw [<- he, jP h0], ae s'.get (ae s'.get (ae s'.get (ae s'.get (ae s'.get aI))))⟩)
    . rintro m ρ ⟨E, a, b, hw, he, s⟩ ⟨k, hk⟩
      have e := hk.inj (bD s decl_name%)
      have h0 : b.1 = au := by
        have e1 : (!cA (dq b.1) (dq au)) = false := by injection e with e1 e2; injection e1 with e1; exact e1.symm
        simpa using e1
      rw [<- he, mJ h0]
      exact cE s decl_name%
def gA : Fx := Tb [("whole_divisor", ee), ("order_fault", gD), ("size", gi), ("exact", fj), ("greatest", gM)] [] BL IL ML TL aR
def gC : List D -> Rs D := jl gA (aa (af 36)) ["four", "order"] ((ai (af 36)).take 7) (Kc ((ai (af 36)).getD 7 (.Pass ⟨0, 0, 0, 0⟩))) (Kb ((ai (af 36)).getD 7 (.Pass ⟨0, 0, 0, 0⟩)))
theorem GE {q : Qd} (h : q ≠ au) (g : gQ 400 q) : ac (ee [dq q]) (.int (gU q)) := by
  have b := g.bd (by decide)
  exact Ir (a := q.1) (b := q.2.1) (c := q.2.2.1) (d := q.2.2.2) (fun z => h (cU z.1 z.2.1 z.2.2.1 z.2.2.2)) (Ef (k := 400) (by decide) (by simp) (by
    intro n hn
    simp only [List.mem_cons, List.not_mem_nil, or_false] at hn
    rcases hn with rfl | rfl | rfl | rfl
    . exact g.2.1
    . exact g.2.2.1
    . exact g.2.2.2.1
    . exact g.2.2.2.2)) b.1 b.2.1 b.2.2.1 b.2.2.2
theorem CL {q : Qd} {ns : List Int} (hq : al q) (pl : gH q) (hb : ao q <= ((2 ^ 300 : Nat) : Int)) (hns : ∀ n ∈ ns, n ∈ de) (hl : ns.length <= 100) (hs : ao q = cH ns) :
    ∃ (r : Qd) (ds : List Qd), al r /\ ao r = 1 /\ (∀ d ∈ ds, al d) /\ ds.map ao = ns /\ ds.foldl aq r = q /\ ac (gC [dq q, .lst (ns.map D.int)]) (jQ r ds) := by
  have gq := iA hq hb
  have q0 := pl.ne
  have bq := gq.bd (by decide)
  have hw := GE q0 (gq.mono (by decide))
  have v1 := (tZ q0 hq).mp pl
  have ll : am (ns.map D.int) = true := cV (fun _ => rfl) ns
  obtain ⟨ρ', h1, F, rest, ds, R', e1, hr, e2, e3, hd, e4, e5, s⟩ : ∃ ρ', ac (aD gA ((ai (af 36)).take 7) (aa (af 36)) (e9 ["four", "order"] [dq q, .lst (ns.map D.int)])) (.nx ρ') /\ ∃ (F : List Int) (rest : Qd) (ds : List Qd) (R' : List Int), F = ns.reverse /\ al rest /\ F ++ R' = ns.reverse /\ ao rest = cH R' /\ (∀ d ∈ ds, al d) /\ ds.map ao = F /\ ds.reverse.foldl aq rest = q /\ Sub (bQ [("rest", dq rest, true), ("parts", .lst (ds.map dq), true)]) ρ' := by
    refine eI (b0 (d := .int (gU q)) (aT decl_name% hw)) (eI (b0 (d := .non) (aT (aN decl_name% (aN decl_name% cm)) (Cg hns hl hs.symm))) (fq (P := fun ρ => Sub (bQ [("four", dq q, false), ("order", .lst (ns.map D.int), false), ("by", .int (gU q), true)]) ρ) (vn (t := false) (k := 0) decl_name% (fun z => by cases z) (fun _ => eT (ae rfl (ae rfl (ae rfl aI))))) fun ρ1 s1 => fq (P := fun ρ => Sub (bQ [("four", dq q, false), ("order", .lst (ns.map D.int), false)]) ρ) (vn (t := false) (k := 0) (bD s1 (decl_name%.bl (decide_eq_false (by omega)))) (fun z => by cases z) (fun _ => eT (ae s1.get (ae s1.get aI)))) fun ρ2 s2 => eI (b0 (d := dq q) (bD s2 decl_name%)) (eI (b0 (d := .lst []) (bD (s2.put _ _) decl_name%)) ?_)))
    have s3 := (s2.put (Str.ofString "rest") (dq q, true)).put (Str.ofString "parts") (.lst [], true)
    refine fq (P := fun ρ' => ∃ (F : List Int) (rest : Qd) (ds : List Qd) (R' : List Int), F = ns.reverse /\ al rest /\ F ++ R' = ns.reverse /\ ao rest = cH R' /\ (∀ d ∈ ds, al d) /\ ds.map ao = F /\ ds.reverse.foldl aq rest = q /\ Sub (bQ [("rest", dq rest, true), ("parts", .lst (ds.map dq), true)]) ρ') ?_ fun ρ h => eT h
    have fa := eJ (Φ := gA) (sc := aa (af 36)) (ρ := bT (bT ρ2 (Str.ofString "rest") (dq q, true)) (Str.ofString "parts") (.lst [], true)) (h := D.int) (g := fun n : Int => [n]) (T := ns.reverse) (F := []) (R := []) (k := 1) (fun F ρ => ∃ (rest : Qd) (ds : List Qd) (R' : List Int), al rest /\ gH rest /\ ao rest <= ((2 ^ 300 : Nat) : Int) /\ F ++ R' = ns.reverse /\ ao rest = cH R' /\ (∀ d ∈ ds, al d) /\ ds.map ao = F /\ ds.reverse.foldl aq rest = q /\ Sub (bQ [("rest", dq rest, true), ("parts", .lst (ds.map dq), true)]) ρ) ns.reverse (d := .lst (ns.map D.int).reverse) (tg := jt ((ai (af 36)).getD 6 (.Pass ⟨0, 0, 0, 0⟩))) (it := lN ((ai (af 36)).getD 6 (.Pass ⟨0, 0, 0, 0⟩))) (body := fh ((ai (af 36)).getD 6 (.Pass ⟨0, 0, 0, 0⟩))) (p := ⟨0, 0, 0, 0⟩) (bD (s3.demote _) decl_name%) (by rw [List.map_reverse]; rfl) ⟨q, [], ns.reverse, hq, pl, hb, rfl, by rw [tY]; exact hs, (fun d h => by cases h), rfl, rfl, ae (s3.demote _).get (ae (s3.demote _).get aI)⟩ (by rw [fR]; simp) ?_
    . obtain ⟨ρ', f1, rest, ds, R', h1, _, _, h2, h3, h4, h5, h6, h7⟩ := fa
      rw [List.nil_append, fR, List.map_id'] at h2 h5
      exact ⟨ρ', f1, _, rest, ds, R', rfl, h1, h2, h3, h4, h5, h6, h7⟩
    . rintro p hp F R ρ e ⟨rest, ds, R', hr, pr, br, e1, e2, hd, e3, e4, s⟩
      have eR : R' = p :: R := List.append_cancel_left (e1.trans e.symm)
      subst eR
      have hpP := hns p (List.mem_reverse.mp hp)
      obtain ⟨p1, p2⟩ := fo p hpP
      have gr := iA hr br
      have gP : gQ 302 (2 * p, 0, 0, 0) := ⟨jm p, by show (2 * p).natAbs <= _; exact Nat.le_trans (show (2 * p).natAbs <= 2 ^ 8 by omega) (Nat.pow_le_pow_right (by decide) (by decide)), Nat.zero_le _, Nat.zero_le _, Nat.zero_le _⟩
      have oG : okG rest (2 * p, 0, 0, 0) := gr.okG gP (by decide)
      obtain ⟨sd, pd, u, hu, eu⟩ := yR hr pr hpP ⟨cH R, e2⟩ (EK (s := true) oG)
      generalize hD : (jr true rest (2 * p, 0, 0, 0)).1 = d at sd pd eu
      have d0 : d ≠ au := fun z => by rw [z] at sd; have : ao au = 0 := rfl; omega
      have gd : gQ 302 d := iA (n := 300) pd (by rw [sd]; exact Int.le_trans (show p <= ((2 ^ 8 : Nat) : Int) by omega) (Int.ofNat_le.mpr (Nat.pow_le_pow_right (by decide) (by decide))))
      have oD : okD true rest d := gr.okD gd d0 (by decide)
      have su : ao u * p = ao rest := by rw [eu, fC hu pd, sd]
      have kx : ac (fj [dq rest, dq d, nE true]) (dq u) := by
        have k : ac (fj [dq rest, dq d, nE true]) (iM true rest d) := decl_name%
        rw [o8 hu pd d0 (show rest = aH true u d from eu)] at k
        exact k
      have kg : ac (gM [dq rest, .tup [.int (2 * p), .int 0, .int 0, .int 0], nE true]) (dR (jr true rest (2 * p, 0, 0, 0))) := decl_name%
      have lf : F.length <= 100 := by
        have := congrArg List.length e
        simp only [List.length_append, List.length_reverse] at this
        omega
      have l1 : (ds.map dq).length < bE := by
        rw [List.length_map, <- List.length_map (f := ao), e3]; show _ < 40000; omega
      have s4 := s.put (Str.ofString "prime") (.int p, false)
      have s5 := s4.put (Str.ofString "part") (dq d, true)
      have ea : L2.atI [dq (jr true rest (2 * p, 0, 0, 0)).1, dq (jr true rest (2 * p, 0, 0, 0)).2.1, dq (jr true rest (2 * p, 0, 0, 0)).2.2] 0 = some (dq d) := by rw [<- hD]; rfl
      refine ⟨_, rfl, eI (b0 (d := dq d) (bD s4 (dO (aT decl_name% kg) decl_name% rfl ea))) (eI (b0 (d := dq u) (bD s5 (aT decl_name% kx))) (cw (s5.put (Str.ofString "rest") (dq u, true)) decl_name% fun ρ' s' => ⟨u, ds ++ [d], R, hu, ?_, ?_, ?_, ?_, ?_, ?_, ?_, ?_⟩))⟩
      . exact gH.left hu pd (eu ▸ pr)
      . have n0 := dD hu
        have := Int.mul_le_mul_of_nonneg_left (show 1 <= p by omega) n0
        omega
      . rw [List.append_assoc]; exact e
      . rw [cJ] at e2
        have : p * (ao u - cH R) = 0 := by rw [Int.mul_sub, <- e2, <- su, Int.mul_comm]; omega
        rcases Int.mul_eq_zero.mp this with z | z <;> omega
      . intro x hx
        rcases List.mem_append.mp hx with hx | hx
        . exact hd x hx
        . rw [List.mem_singleton] at hx; subst hx; exact pd
      . rw [List.map_append, e3]; show F ++ [ao d] = _; rw [sd]
      . rw [List.reverse_append, <- e4, eu]; rfl
      . rw [List.map_append]
        exact ae s'.get (ae s'.get aI)
  subst e1
  have eR : R' = [] := by
    have := congrArg List.length e2
    simp only [List.length_append, List.length_reverse] at this
    exact List.length_eq_zero_iff.mp (by omega)
  subst eR
  refine ⟨rest, ds.reverse, hr, e3, fun d h => hd d (List.mem_reverse.mp h), ?_, e5, ?_⟩
  . rw [List.map_reverse, e4, List.reverse_reverse]
  . show ac _ (D.tup [dq rest, .lst (ds.reverse.map dq)])
    rw [List.map_reverse]
    exact Ee h1 (bD s decl_name%) (aN (bD s decl_name%) cm) (cI ds)
def sK : Fx := Tb [("product", gj)] [("ONE", .tup [.int 2, .int 0, .int 0, .int 0])] BL IL ML TL aR
def fw : List D -> Rs D := bC sK (aa (af 18)) ["fours"] (ai (af 18))
theorem v9 {qs : List Qd} (ok : t8 aE qs) : ac (fw [.lst (qs.map dq)]) (dq (qs.foldl aq aE)) := by
  refine bM (bi 1 decl_name% (li (fun rem ρ => ∃ r rs, rem = rs.map dq /\ t8 r rs /\ rs.foldl aq r = qs.foldl aq aE /\ Sub (bQ [("reached", dq r, true)]) ρ) decl_name% ⟨aE, qs, rfl, ok, rfl, ae rfl aI⟩ ?_ ?_))
  . rintro d l ρ ⟨r, rs, e, o, f, s⟩
    cases rs with
    | nil => cases e
    | cons q rs =>
      cases e
      exact ⟨_, rfl, cw (s.put _ _) (bR rfl (by exact ⟨o.1, o.2.1, True.intro⟩)) fun ρ' s' => ⟨aq r q, rs, rfl, o.2.2, f, ae s'.get aI⟩⟩
  . rintro ρ ⟨r, rs, e, o, f, s⟩
    cases rs with
    | nil =>
      rw [<- f]
      exact cE s decl_name%
    | cons q rs => cases e
def oC : Fx := Tb [("product_of", fw), ("size", gi)] [] BL IL ML TL aR
def dn : List D -> Rs D := bC oC (aa (af 41)) ["four", "order", "telling"] (ai (af 41))
theorem Dg {f e : Qd} {os : List Int} {qs : List Qd} (he : gQ 20 e) (hq : ∀ q ∈ qs, gQ 20 q) (hl : qs.length <= 20) : ac (dn [dq f, .lst (os.map D.int), .tup [dq e, .lst (qs.map dq)]]) (.bl (jh f os e qs)) := by
  have be := he.bd (by decide)
  refine bM (bi 1 decl_name% (jk (t := !decide (ao e = 1) || !decide (qs.map ao = os)) (sh (decl_name%.bl (b := !(ao e == 1)) (by simp [Bool.beq_eq_decide_eq])) (cz (mZ (l := qs) (g := dq) (f := fun q => .int (ao q)) decl_name% rfl (by have : bE = 40000 := rfl; omega) (.inl (Aq qs)) (fun q hq' => ⟨_, rfl, by have b := (hq q hq').bd (by decide); exact bR rfl (by walk_at "ob")⟩)) decl_name% ?_)) (fun ht => ?_) (fun hf => ?_)))
  . have := Hq (qs.map ao) os
    rwa [List.map_map] at this
  . unfold jh; rw [ht]
    exact bR rfl (by walk_at "ob")
  . unfold jh; rw [hf]
    have ok : t8 aE (e :: qs) := wm (m := 1) (n := 20) ⟨fH, by decide, by decide, by decide, by decide⟩ (fun q h => by rcases List.mem_cons.mp h with rfl | h; exact he; exact hq q h) (by rw [List.length_cons]; omega) (by decide)
    have p := v9 ok
    rw [List.foldl_cons, cG] at p
    refine d8 (dF (cz (aT (aN (ga decl_name% decl_name% ⟨_, rfl, Aq (e :: qs), by show 1 + (qs.map dq).length <= bE; rw [List.length_map]; have : bE = 40000 := rfl; omega, True.intro⟩) cm) p) decl_name% (r := decide (qs.foldl aq e = f)) ?_))
    exact ac.eq (bR rfl (by exact ⟨rfl, True.intro⟩)) (by simp)
def xB : Fx := Tb [] [] BL IL ML TL aR
def qj : List D -> Rs D := bC xB (aa (af 44)) ["_law_x"] (ai (af 44))
def tF : Fx := Tb [("_law_whole", qj)] [] BL IL ML TL aR
def fW : List D -> Rs D := bC tF (aa (af 45)) ["_law_thing"] (ai (af 45))
theorem Er {a b c d : Int} (hb : b.fmod 2 = a.fmod 2) (hc : c.fmod 2 = a.fmod 2) (hd : d.fmod 2 = a.fmod 2) : ac (fW [t4 a b c d]) (.bl true) := by
  refine bM (bL decl_name% rfl (li (ds := [.int a, .int b, .int c, .int d]) (fun rem ρ => (∀ x ∈ rem, ∃ t : Int, x = .int t /\ t.fmod 2 = a.fmod 2) /\ Sub (bQ [("_law_thing", t4 a b c d, false)]) ρ) decl_name% ⟨?_, ae rfl aI⟩ ?_ ?_))
  . intro x hx
    simp only [List.mem_cons, List.not_mem_nil, or_false] at hx
    rcases hx with rfl | rfl | rfl | rfl
    . exact ⟨_, rfl, rfl⟩
    . exact ⟨_, rfl, hb⟩
    . exact ⟨_, rfl, hc⟩
    . exact ⟨_, rfl, hd⟩
  . rintro x l ρ ⟨hh, s⟩
    obtain ⟨t, rfl, ht⟩ := hh x List.mem_cons_self
    exact ⟨_, rfl, cw (s.put _ _) (bL (dl (db decl_name% (db (decl_name%.bl (mT ht)) fu))) rfl dh) fun ρ' s' => ⟨fun y hy => hh y (List.mem_cons_of_mem _ hy), ae s'.get aI⟩⟩
  . rintro ρ ⟨_, s⟩
    exact cE s decl_name%
def zx : Fx := Tb [] [] BL IL ML TL aR
def zC : List D -> Rs D := bC zx (aa (af 46)) ["_law_four"] (ai (af 46))
def ni : List D -> Rs D := qR dQ fun p => .ok (.int (ao p)) [dm p]
theorem tG : ∀ ds r, ac (ni ds) r -> ac (zC ds) r := by
  intro ds r h
  obtain ⟨p, rfl, h'⟩ := iV h
  obtain ⟨rfl, hp, _⟩ := bU h'
  obtain ⟨⟨a1, a2, a3, a4⟩, _⟩ := oA hp hp
  exact bR rfl (by walk_at "ob")
def ij : Fx := Tb [("_law_times", ey), ("_law_is_four", fW), ("_law_size", ni)] [] BL IL ML TL aR
def fc : List D -> Rs D := bC ij (aa (af 53)) ["_law_telling", "_law_primes", "_law_four"] (ai (af 53))
theorem wH {q : Qd} (h : al q) : ac (fW [dq q]) (.bl true) := by
  obtain ⟨x1, x2, x3⟩ := Qm.par_fmod h
  exact Er (a := q.1) (b := q.2.1) (c := q.2.2.1) (d := q.2.2.2) x1 x2 x3
theorem oR : ∀ {l : List Int}, (∀ n ∈ l, n ∈ de) -> 1 <= cH l
  | [], _ => by decide
  | n :: l, h => by
    have h1 := oR fun m hm => h m (List.mem_cons_of_mem _ hm)
    obtain ⟨p1, _⟩ := fo n (h n List.mem_cons_self)
    rw [cJ]
    have := Int.mul_le_mul_of_nonneg_right (show 1 <= n by omega) (show 0 <= cH l by omega)
    omega
theorem CV {r q : Qd} {ds : List Qd} {ns : List Int} (hr : al r) (h1 : ao r = 1) (hd : ∀ d ∈ ds, al d) (es : ds.map ao = ns) (ef : ds.foldl aq r = q) (hns : ∀ n ∈ ns, n ∈ de) (hl : ns.length <= 100) (hb : cH ns <= ((2 ^ 300 : Nat) : Int)) : ac (fc [jQ r ds, .lst (ns.map D.int), dq q]) (.bl true) := by
  subst es ef
  have ll : am ((ds.map ao).map D.int) = true := cV (fun _ => rfl) _
  have ld := cI ds
  have br := (iA (n := 300) hr (by rw [h1]; exact Int.ofNat_le.mpr Nat.one_le_two_pow)).bd (by decide)
  have hlen : (!cA (.int ((ds.map dq).length : Nat)) (.int (((ds.map ao).map D.int).length : Nat))) = false := mT (by simp)
  have hz : List.zipWith (fun x y => D.tup [x, y]) (ds.map dq) ((ds.map ao).map D.int) = ds.map fun d => D.tup [dq d, .int (ao d)] := by
    rw [List.map_map, List.zipWith_map, List.zipWith_self]; rfl
  have pz : ∀ d ∈ ds, ao d ∈ de := fun d h => hns _ (List.mem_map.mpr ⟨d, h, rfl⟩)
  refine bM (bL (t := false) (k := 0) (dl (db decl_name% (db decl_name% (db (lO (aT (aN decl_name% cm) (wH hr)) rfl) fu)))) rfl (bL (t := false) (k := 0) (dl (db (decl_name%.bl (mT h1)) (db decl_name% (db (decl_name%.bl hlen) fu)))) rfl (bi 1 decl_name% (uQ (Q := fun ρ => Sub (bQ [("_law_four", dq (ds.foldl aq r), false), ("_law_whole_here", dq (ds.foldl aq r), true)]) ρ) ?_ ?_))))
  . have fa := eJ (Φ := ij) (sc := aa (af 53)) (ρ := bT (e9 ["_law_telling", "_law_primes", "_law_four"] [jQ r ds, .lst ((ds.map ao).map D.int), dq (ds.foldl aq r)]) "_law_whole_here" (dq r, true)) (h := fun d : Qd => D.tup [dq d, .int (ao d)]) (g := fun d => [d]) (T := ds) (F := []) (R := []) (k := 1) (fun F ρ => Sub (bQ [("_law_four", dq (ds.foldl aq r), false), ("_law_whole_here", dq (F.foldl aq r), true)]) ρ) ds (d := .lst (ds.map fun d => D.tup [dq d, .int (ao d)])) (tg := jt ((ai (af 53)).getD 3 (.Pass ⟨0, 0, 0, 0⟩))) (it := lN ((ai (af 53)).getD 3 (.Pass ⟨0, 0, 0, 0⟩))) (body := fh ((ai (af 53)).getD 3 (.Pass ⟨0, 0, 0, 0⟩))) (p := ⟨0, 0, 0, 0⟩) (decl_name%.eq (by rw [<- hz]; rfl)) rfl (ae rfl (ae rfl aI)) (by rw [fR]; simp) ?_
    . rw [List.nil_append, fR, List.map_id'] at fa
      exact fa
    . intro d hm F R ρ e s
      have pd := hd d hm
      have hF : ∀ x ∈ F, x ∈ ds := fun x hx => by rw [<- e]; exact List.mem_append_left _ hx
      have nF : ∀ n ∈ F.map ao, n ∈ de := fun n hn => by obtain ⟨x, hx, rfl⟩ := List.mem_map.mp hn; exact pz x (hF x hx)
      have nR : ∀ n ∈ ([d] ++ R).map ao, n ∈ de := fun n hn => by obtain ⟨x, hx, rfl⟩ := List.mem_map.mp hn; exact pz x (by rw [<- e]; exact List.mem_append_right _ hx)
      have pF : ∀ x ∈ F, al x := fun x hx => hd x (hF x hx)
      have zF : ao (F.foldl aq r) <= ((2 ^ 300 : Nat) : Int) := by
        rw [oO F r hr pF, h1, Int.one_mul]
        have e2 : cH (ds.map ao) = cH (F.map ao) * cH (([d] ++ R).map ao) := by rw [<- iW, <- List.map_append, e]
        have a1 := oR nF
        have a2 := oR nR
        have := Int.mul_le_mul_of_nonneg_left a2 (show 0 <= cH (F.map ao) by omega)
        omega
      have bF := (iA (rZ hr pF) zF).bd (by decide)
      obtain ⟨p1, p2⟩ := fo _ (pz d hm)
      have gd := iA (n := 8) pd (by omega)
      have bd := gd.bd (by decide)
      obtain ⟨⟨a1, a2, a3, a4⟩, _⟩ := oA bd bd
      obtain ⟨t, ht, et⟩ := cO pd
      have m4 : bK 4 (ao d) := fJ (by decide)
      have hsum : (!cA (.int (d.1 * d.1 + (d.2.1 * d.2.1 + (d.2.2.1 * d.2.2.1 + (d.2.2.2 * d.2.2.2 + 0))))) (.int (4 * ao d))) = false := mT (by rw [ht, et])
      refine ⟨_, rfl, cw ((s.put _ _).put _ _) (bL (t := false) (k := 0) (dl (db (lO (aT decl_name% (wH pd)) rfl) (db (decl_name%.bl hsum) fu))) rfl decl_name%) fun ρ' s' => ?_⟩
      rw [List.foldl_append]
      exact ae s'.get (ae s'.get aI)
  . intro ρ s
    exact cE s (d8 (dF (decl_name%.bl (AB rfl))))
def CN : Fx := Tb [] [] BL IL ML TL aR
def CP : List D -> Rs D := bC CN (aa (af 48)) ["_law_four"] (ai (af 48))
def lZ : List D -> Rs D := qR dQ fun p => .ok (dq (bG p)) []
theorem vI : ∀ ds r, ac (lZ ds) r -> ac (CP ds) r := by
  intro ds r h
  obtain ⟨p, rfl, h'⟩ := iV h
  obtain ⟨rfl, _⟩ := bU h'
  exact decl_name%
def xA : Fx := Tb [("refuse_no_side", c6), ("exact", fj), ("size", gi)] [("NOUGHT", .tup [.int 0, .int 0, .int 0, .int 0])] BL IL ML TL aR
def kW : List D -> Rs D := bC xA (aa (af 33)) ["one", "other", "side"] (ai (af 33))
def ir (s : Bool) (p q : Qd) : D := if ao p = ao q then iM (!s) p q else .non
theorem Ep (s : Bool) {p q : Qd} (hp : gQ 150 p) (hq : gQ 150 q) (p0 : p ≠ au) (q0 : q ≠ au) : ac (kW [dq p, dq q, nE s]) (ir s p q) := by
  have bp := hp.bd (by decide)
  have bq := hq.bd (by decide)
  have e1 : cA (dq p) (dq au) = false := by rw [fS]; exact decide_eq_false p0
  have e2 : cA (dq q) (dq au) = false := by rw [fS]; exact decide_eq_false q0
  unfold ir
  cases s
  . have hd : okD true p q := hp.okD hq q0 (by decide)
    refine bM (bi 1 decl_name% (bL (dl (db (decl_name%.bl e1) (db (decl_name%.bl e2) fu))) rfl (jk (t := !decide (ao p = ao q)) (k := 0) (decl_name%.bl (by rw [eV])) (fun z => ?_) (fun z => ?_))))
    . rw [if_neg (by simpa using z)]; exact decl_name%
    . rw [if_pos (by simpa using z)]
      have k : ac (fj [dq p, dq q, nE true]) (iM true p q) := decl_name%
      exact d8 (dF (aT decl_name% k))
  . have hd : okD false p q := hp.okD hq q0 (by decide)
    refine bM (bi 1 decl_name% (bL (dl (db (decl_name%.bl e1) (db (decl_name%.bl e2) fu))) rfl (jk (t := !decide (ao p = ao q)) (k := 0) (decl_name%.bl (by rw [eV])) (fun z => ?_) (fun z => ?_))))
    . rw [if_neg (by simpa using z)]; exact decl_name%
    . rw [if_pos (by simpa using z)]
      have k : ac (fj [dq p, dq q, nE false]) (iM false p q) := decl_name%
      exact d8 (dF (aT decl_name% k))
def tE : Fx := Tb [("mate_by", kW)] [("NOUGHT", .tup [.int 0, .int 0, .int 0, .int 0])] BL IL ML TL aR
def iQ : List D -> Rs D := bC tE (aa (af 39)) ["mine", "yours"] (ai (af 39))
def iG (p q : Qd) : D := if p = au \/ q = au then .non else ir true p q
theorem Ej {p q : Qd} (hp : gQ 150 p) (hq : gQ 150 q) : ac (iQ [dq p, dq q]) (iG p q) := by
  unfold iG
  by_cases h : p = au \/ q = au
  . rw [if_pos h]
    have hor : (decide (p = au) || decide (q = au)) = true := by rcases h with h | h <;> simp [h]
    exact bM (fY (t := decide (p = au) || decide (q = au)) (k := 0) (sh (decl_name%.bl (fS p au)) (decl_name%.bl (fS q au))) hor decl_name%)
  . rw [if_neg h]
    have hor : (decide (p = au) || decide (q = au)) = false := by
      rw [decide_eq_false (fun e => h (.inl e)), decide_eq_false (fun e => h (.inr e))]; rfl
    exact bM (bL (t := decide (p = au) || decide (q = au)) (k := 0) (sh (decl_name%.bl (fS p au)) (decl_name%.bl (fS q au))) hor (d8 (dF (aT decl_name% (Ep true hp hq (fun e => h (.inl e)) (fun e => h (.inr e)))))))
theorem wA {p q : Qd} (hp : al p) (hq : al q) (q0 : q ≠ au) : (∃ u ∈ bS, p = aq q u /\ ir true p q = dq u) \/ ((∀ u ∈ bS, p ≠ aq q u) /\ ir true p q = .non) := by
  by_cases h : ∃ u ∈ bS, p = aq q u
  . obtain ⟨u, hu, e⟩ := h
    obtain ⟨pu, su, _⟩ := gR (cy u hu)
    refine .inl ⟨u, hu, e, ?_⟩
    have e' : p = aH (!true) u q := e
    have sz : ao p = ao q := by rw [e', ff pu hq, su, Int.one_mul]
    unfold ir
    rw [if_pos sz]
    exact o8 pu hq q0 e'
  . refine .inr ⟨fun u hu e => h ⟨u, hu, e⟩, ?_⟩
    unfold ir
    split
    . rename_i sz
      unfold iM
      refine if_neg fun e => ?_
      have d1 := (i7 (s := !true) hp hq q0).1
      have ep : p = aH (!true) (cP (!true) p q) q := rJ e
      have k := ff (s := !true) d1 hq
      rw [<- ep, sz] at k
      have z := fe hq q0
      have one : ao (cP (!true) p q) = 1 := by
        have : (ao (cP (!true) p q) - 1) * ao q = 0 := by rw [Int.sub_mul, <- k]; omega
        rcases Int.mul_eq_zero.mp this with e | e <;> omega
      exact h ⟨_, qJ d1 one, ep⟩
    . rfl
def kI : Fx := Tb [("moved_one", iQ), ("product", gj)] [("ONE", .tup [.int 2, .int 0, .int 0, .int 0])] BL IL ML TL aR
def fx : List D -> Rs D := bC kI (aa (af 38)) ["telling", "other"] (ai (af 38))
def g7 : Qd -> List (Qd × Qd) -> Option (List Qd)
  | _, [] => some []
  | l, (m, y) :: r => match q4 (iG (aq l m) y) with
    | some u => (g7 u r).map (u :: ·)
    | none => none
theorem Aa (q : Qd) : q4 (dq q) = some q := rfl
theorem wx {p q : Qd} (hp : al p) (hq : al q) : (∃ u ∈ bS, p = aq q u /\ p ≠ au /\ q ≠ au /\ iG p q = dq u) \/ ((p = au \/ q = au \/ ∀ u ∈ bS, p ≠ aq q u) /\ iG p q = .non) := by
  unfold iG
  by_cases h : p = au \/ q = au
  . rw [if_pos h]
    exact .inr ⟨h.imp id .inl, rfl⟩
  . rw [if_neg h]
    have p0 : p ≠ au := fun e => h (.inl e)
    have q0 : q ≠ au := fun e => h (.inr e)
    rcases wA hp hq q0 with ⟨u, hu, e, m⟩ | ⟨n, m⟩
    . exact .inl ⟨u, hu, e, p0, q0, m⟩
    . exact .inr ⟨.inr (.inr n), m⟩
def u9 (e : Qd) (xs : List Qd) (f : Qd) (ys : List Qd) : D :=
  if xs.length = ys.length then (match g7 aE ((e, f) :: xs.zip ys) with | some us => .lst (us.map dq) | none => .non) else .non
theorem ww (Rr : D) : ∀ (zs : List (Qd × Qd)) (us : List Qd) (l : Qd) (fl : Bool) (ρ : aj), (∀ z ∈ zs, gQ 100 z.1 /\ gQ 100 z.2) -> l ∈ bS -> us.length + zs.length <= 100 -> Rr = (match g7 l zs with | some vs => .lst ((us ++ vs).map dq) | none => .non) -> Sub (bQ [("last", dq l, fl), ("moved", .lst (us.map dq), true)]) ρ -> uG kI (aa (af 38)) (jt ((ai (af 38)).getD 5 (.Pass ⟨0, 0, 0, 0⟩))) (fh ((ai (af 38)).getD 5 (.Pass ⟨0, 0, 0, 0⟩))) ((ai (af 38)).drop 6) Rr (zs.map fun z => .tup [dq z.1, dq z.2]) ρ
  | [], us, l, fl, ρ, _, _, _, e, s => by
    have e : Rr = .lst ((us ++ []).map dq) := e
    rw [List.append_nil] at e
    subst e
    exact cE s decl_name%
  | (m, y) :: zs, us, l, fl, ρ, hz, hl, hn, e, s => by
    obtain ⟨gm, gy⟩ := hz (m, y) List.mem_cons_self
    have gl := iz (cy l hl)
    have gp : gQ 150 (aq l m) := (gl.mul gm).mono (by decide)
    have bm := gm.bd (by decide)
    have bl := gl.bd (by decide)
    have k := Ej gp (gy.mono (show 100 <= 150 by decide))
    have s1 := (s.put (Str.ofString "mine") (dq m, false)).put (Str.ofString "yours") (dq y, false)
    rcases wx gp.1 gy.1 with ⟨u, hu, _, _, _, h⟩ | ⟨_, h⟩
    . rw [h] at k
      have l1 : (us.map dq).length < bE := by
        rw [List.length_map]
        simp only [List.length_cons] at hn
        show _ < 40000
        omega
      refine ⟨_, rfl, .inl (cw s1 (bI (b0 (d := dq u) (aT decl_name% k)) decl_name%) fun ρ' s' => ww Rr zs (us ++ [u]) u true ρ' (fun z hz' => hz z (List.mem_cons_of_mem _ hz')) hu (by simp only [List.length_append, List.length_cons, List.length_nil] at hn ⊢; omega) ?_ ?_)⟩
      . rw [e]
        show (match (match q4 (iG (aq l m) y) with | some u => (g7 u zs).map (u :: ·) | none => none) with | some vs => D.lst ((us ++ vs).map dq) | none => .non) = _
        rw [h, Aa]
        show (match (g7 u zs).map (u :: ·) with | some vs => D.lst ((us ++ vs).map dq) | none => .non) = _
        cases g7 u zs with
        | none => rfl
        | some vs => simp only [Option.map_some, List.append_assoc, List.singleton_append]
      . rw [List.map_append]
        exact ae s'.get (ae s'.get aI)
    . rw [h] at k
      have e2 : Rr = .non := by
        rw [e]
        show (match (match q4 (iG (aq l m) y) with | some u => (g7 u zs).map (u :: ·) | none => none) with | some vs => D.lst ((us ++ vs).map dq) | none => .non) = _
        rw [h]; rfl
      subst e2
      exact ⟨_, rfl, .inr (cE s1 (bI (b0 (d := .non) (aT decl_name% k)) decl_name%))⟩
theorem An {e f : Qd} {xs ys : List Qd} (he : gQ 100 e) (hf : gQ 100 f) (hx : ∀ x ∈ xs, gQ 100 x) (hy : ∀ y ∈ ys, gQ 100 y) (hn : xs.length <= 50) (hm : ys.length <= 50) : ac (fx [.tup [dq e, .lst (xs.map dq)], .tup [dq f, .lst (ys.map dq)]]) (u9 e xs f ys) := by
  unfold u9
  by_cases h : xs.length = ys.length
  . rw [if_pos h]
    have hc : (!cA (.int ((xs.map dq).length : Nat)) (.int ((ys.map dq).length : Nat))) = false := mT (by rw [List.length_map, List.length_map, h])
    have lx : am ([dq e] ++ xs.map dq) = true := cI (e :: xs)
    have ly : am ([dq f] ++ ys.map dq) = true := cI (f :: ys)
    have mx : [dq e].length + (xs.map dq).length <= bE := by rw [List.length_map]; show 1 + _ <= 40000; omega
    have my : [dq f].length + (ys.map dq).length <= bE := by rw [List.length_map]; show 1 + _ <= 40000; omega
    have ez : List.zipWith (fun x y => D.tup [x, y]) ([dq e] ++ xs.map dq) ([dq f] ++ ys.map dq) = ((e, f) :: xs.zip ys).map fun z => D.tup [dq z.1, dq z.2] := by
      show D.tup [dq e, dq f] :: List.zipWith _ (xs.map dq) (ys.map dq) = D.tup [dq e, dq f] :: (xs.zip ys).map _
      rw [List.zipWith_map, List.zip_eq_zipWith, List.map_zipWith]
    refine bM (bi 2 decl_name% (bL (decl_name%.bl hc) rfl (bi 2 decl_name% (lj (k := 0) (((e, f) :: xs.zip ys).map fun z => .tup [dq z.1, dq z.2]) (d := .lst (((e, f) :: xs.zip ys).map fun z => .tup [dq z.1, dq z.2])) ?_ ?_))))
    . exact decl_name%.eq (by rw [ez]; rfl)
    . refine ww _ ((e, f) :: xs.zip ys) [] aE true _ ?_ (by decide) ?_ ?_ (ae rfl (ae rfl aI))
      . intro z hz
        rcases List.mem_cons.mp hz with rfl | hz
        . exact ⟨he, hf⟩
        . have := List.of_mem_zip hz; exact ⟨hx _ this.1, hy _ this.2⟩
      . simp only [List.length_nil, List.length_cons, List.length_zip]; omega
      . cases g7 aE ((e, f) :: xs.zip ys) <;> rfl
  . rw [if_neg h]
    have hc : (!cA (.int ((xs.map dq).length : Nat)) (.int ((ys.map dq).length : Nat))) = true := Am (by rw [List.length_map, List.length_map]; omega)
    exact bM (bi 2 decl_name% (fY (decl_name%.bl hc) rfl decl_name%))
theorem BP {p q v : Qd} (hq : al q) (hv : v ∈ bS) (e : p = aq q v) (p0 : p ≠ au) (q0 : q ≠ au) : iG p q = dq v := by
  obtain ⟨pv, sv, _⟩ := gR (cy v hv)
  have e' : p = aH (!true) v q := e
  have sz : ao p = ao q := by rw [e', ff pv hq, sv, Int.one_mul]
  unfold iG
  rw [if_neg (fun z => z.elim p0 q0)]
  unfold ir
  rw [if_pos sz]
  exact o8 pv hq q0 e'
def Mv : Qd -> List (Qd × Qd) -> List Qd -> Prop
  | _, [], [] => True
  | l, (m, y) :: zs, v :: vs => v ∈ bS /\ aq l m = aq y v /\ al y /\ aq l m ≠ au /\ y ≠ au /\ Mv v zs vs
  | _, _, _ => False
theorem Mv.mov : ∀ {l : Qd} {zs : List (Qd × Qd)} {vs : List Qd}, Mv l zs vs -> g7 l zs = some vs
  | _, [], [], _ => rfl
  | l, (m, y) :: zs, v :: vs, h => by
    obtain ⟨h1, h2, h3, h4, h5, h6⟩ := h
    unfold g7
    rw [BP h3 h1 h2 h4 h5, Aa]
    show (g7 v zs).map (v :: ·) = _
    rw [h6.mov]; rfl
  | _, [], _ :: _, h => h.elim
  | _, _ :: _, [], h => h.elim
theorem lC : aE ∈ bS := by decide
theorem qx : ∀ u ∈ bS, bG u ∈ bS := by decide +kernel
theorem lz {u : Qd} (h : u ∈ bS) : al u := (gR (cy u h)).1
theorem xX {u : Qd} (h : u ∈ bS) : ao u = 1 := (gR (cy u h)).2.1
theorem oY {u : Qd} (h : u ∈ bS) : u ≠ au := fun e => by have := xX h; rw [e] at this; exact absurd this (by decide)
theorem wr {p q : Qd} (hp : al p) (hq : al q) (p0 : p ≠ au) (q0 : q ≠ au) : aq p q ≠ au := xp (s := true) hp hq p0 q0
theorem ub {e f : Qd} {xs ys us : List Qd} (h : xs.length = ys.length) (m : Mv aE ((e, f) :: xs.zip ys) us) : u9 e xs f ys = .lst (us.map dq) := by
  unfold u9
  rw [if_pos h, m.mov]
def pB : Fx := Tb [("_law_times", ey), ("_law_bar", lZ), ("_law_units", iE), ("moved_ones", fx)] [] BL IL ML TL aR
def fP : List D -> Rs D := bC pB (aa (af 56)) ["_law_told", "_law_cell_here"] (ai (af 56))
theorem zP {a b : Qd} (ha : dm a) (hb : dm b) : ac (ey [dq a, dq b]) (dq (aq a b)) := ⟨_, rfl, ha, hb, True.intro⟩
theorem AJ (a : Qd) : ac (lZ [dq a]) (dq (bG a)) := ⟨_, rfl, True.intro⟩
theorem u8 : ∀ {ds : List Qd}, (∀ d ∈ ds, al d /\ d ≠ au) -> Mv aE (ds.zip ds) (ds.map fun _ => aE)
  | [], _ => True.intro
  | d :: ds, h => by
    obtain ⟨h1, h2⟩ := h d List.mem_cons_self
    exact ⟨lC, by rw [cG, e6], h1, by rw [cG]; exact h2, h2, u8 fun x hx => h x (List.mem_cons_of_mem _ hx)⟩
theorem wq {v d d' : Qd} (hv : v ∈ bS) (hd : al d /\ d ≠ au) (hd' : al d' /\ d' ≠ au) {B : List Qd} (hB : ∀ d ∈ B, al d /\ d ≠ au) : ∀ {A : List Qd}, (∀ d ∈ A, al d /\ d ≠ au) -> Mv aE ((A ++ d :: d' :: B).zip (A ++ aq d v :: aq (bG v) d' :: B)) ((A.map fun _ => aE) ++ bG v :: aE :: B.map fun _ => aE)
  | [], _ => by
    have pv := lz hv
    have pb := lz (qx _ hv)
    have n1 := wr hd.1 pv hd.2 (oY hv)
    have n2 := wr pb hd'.1 (oY (qx _ hv)) hd'.2
    refine ⟨qx _ hv, ?_, cK hd.1 pv, by rw [cG]; exact hd.2, n1, lC, by rw [e6], cK pb hd'.1, n2, n2, u8 hB⟩
    rw [cG, dj hd.1 pv pb, (fI pv).1, xX hv]
    exact (e6 d).symm
  | a :: A, h => by
    obtain ⟨h1, h2⟩ := h a List.mem_cons_self
    exact ⟨lC, by rw [cG, e6], h1, by rw [cG]; exact h2, h2, wq hv hd hd' hB fun x hx => h x (List.mem_cons_of_mem _ hx)⟩
theorem Dr {α : Type} {l : List α} {i : Nat} (h : i + 1 < l.length) : ∃ A x y B, l = A ++ x :: y :: B /\ A.length = i := by
  refine ⟨l.take i, l[i], l[i + 1], l.drop (i + 2), ?_, by rw [List.length_take]; omega⟩
  conv => lhs; rw [<- List.take_append_drop i l]
  rw [List.drop_eq_getElem_cons (by omega), List.drop_eq_getElem_cons (by omega)]
theorem Be {α : Type} {A B : List α} {x y : α} {i : Nat} (h : A.length = i) : (A ++ x :: B).set i y = A ++ y :: B := by
  rw [List.set_append_right _ _ (by omega), h, Nat.sub_self]; rfl
theorem uD {A B : List Qd} {x : Qd} {i : Int} (h : (A.length : Int) = i) : L2.atI ((A ++ x :: B).map dq) i = some (dq x) := by
  subst h
  exact jd (by simp)
theorem mQ {A B : List Qd} {x y : Qd} {i : Int} (h : (A.length : Int) = i) : gX ((A ++ x :: B).map dq) i (dq y) = some ((A ++ y :: B).map dq) := by
  subst h
  rw [Du (by omega) (by simp; omega), Int.toNat_natCast, Be rfl]
theorem Mp {r : Qd} {ds : List Qd} (c : Int) (hr : r ∈ bS) (hd : ∀ d ∈ ds, gQ 10 d /\ d ≠ au) (hl : ds.length <= 20) : ac (fP [jQ r ds, .int c]) (.bl true) := by
  have pd : ∀ d ∈ ds, al d /\ d ≠ au := fun d h => ⟨(hd d h).1.1, (hd d h).2⟩
  have gr : gQ 100 r := (iz (cy r hr)).mono (by decide)
  have lt := cI ds
  have hx : ∀ x ∈ ds, gQ 100 x := fun x h => (hd x h).1.mono (by decide)
  by_cases hs : ds.length < 2
  . have k := (An gr gr hx hx (by omega) (by omega)).eq (ub (us := aE :: ds.map fun _ => aE) rfl ⟨lC, by rw [cG, e6], lz hr, by rw [cG]; exact oY hr, oY hr, u8 pd⟩)
    have hlt : decide ((((ds.map dq).length : Nat) : Int) < 2) = true := decide_eq_true (by rw [List.length_map]; omega)
    refine bM (bi 1 decl_name% (fY (t := decide ((((ds.map dq).length : Nat) : Int) < 2)) (k := 0) decl_name% hlt (d8 (dF (cz (j := 0) (aT decl_name% k) (y := .lst ((aE :: ds.map fun _ => aE).map dq)) (ac.eq (mZ (l := List.range ((ds.map dq).length + 1)) (g := fun i => .int (i : Nat)) (f := fun _ => dq aE) (qv (B := f7) (ds := [.int ((((ds.map dq).length + 1 : Nat)) : Int)]) decl_name% (qY (by rw [List.length_map]; omega))) rfl (by rw [List.length_range, List.length_map]; show _ <= 40000; omega) (.inr (Nat.zero_le _)) fun x _ => ⟨_, rfl, decl_name%⟩) ?_) ((uB _ _).eq (decide_eq_true rfl)))))))
    have e1 : ∀ n : Nat, ((List.range n).map fun _ => dq aE) = List.replicate n (dq aE) := fun n => by rw [List.map_const', List.length_range]
    have e2 : (aE :: ds.map fun _ => aE).map dq = List.replicate (ds.length + 1) (dq aE) := by
      rw [List.map_cons, List.map_map, List.replicate_succ]
      show dq aE :: ds.map (fun _ => dq aE) = _
      rw [List.map_const']
    rw [e1, e2, List.length_map]
  . have a0 := Int.fmod_nonneg_of_pos c (show (0 : Int) < ((ds.map dq).length : Nat) - 1 by rw [List.length_map]; omega)
    have a1 := Int.fmod_lt_of_pos c (show (0 : Int) < ((ds.map dq).length : Nat) - 1 by rw [List.length_map]; omega)
    have hne : (((ds.map dq).length : Nat) : Int) - 1 ≠ 0 := by rw [List.length_map]; omega
    generalize hA : c.fmod (((ds.map dq).length : Nat) - 1) = at0 at a0 a1
    rw [List.length_map] at a1
    obtain ⟨i, rfl⟩ := Int.eq_ofNat_of_zero_le a0
    obtain ⟨A, d, d', B, eds, lA⟩ := Dr (l := ds) (i := i) (by omega)
    obtain ⟨v, hv, hat⟩ := oB (f := dq) (l := bS) (i := (c.fdiv 8).fmod 24) (Int.fmod_nonneg_of_pos _ (by decide)) (Int.fmod_lt_of_pos _ (by decide))
    have hlt : decide ((((ds.map dq).length : Nat) : Int) < 2) = false := decide_eq_false (by rw [List.length_map]; omega)
    have gv := iz (cy v hv)
    have gb := iz (cy _ (qx _ hv))
    have md : ∀ x, x ∈ A \/ x = d \/ x = d' \/ x ∈ B -> x ∈ ds := fun x h => by rw [eds]; simp only [List.mem_append, List.mem_cons]; exact h
    have hd1 := hd d (md d (.inr (.inl rfl)))
    have hd2 := hd d' (md d' (.inr (.inr (.inl rfl))))
    have g1 : gQ 12 (aq d v) := hd1.1.mul gv
    have g2 : gQ 12 (aq (bG v) d') := (gb.mul hd2.1).mono (by decide)
    have hy : ∀ x ∈ A ++ aq d v :: aq (bG v) d' :: B, gQ 100 x := fun x h => by
      simp only [List.mem_append, List.mem_cons] at h
      rcases h with h | rfl | rfl | h
      . exact hx x (md x (.inl h))
      . exact g1.mono (by decide)
      . exact g2.mono (by decide)
      . exact hx x (md x (.inr (.inr (.inr h))))
    have hlen2 : (A ++ aq d v :: aq (bG v) d' :: B).length = ds.length := by rw [eds]; simp
    have k : ac (fx [jQ r ds, jQ r (A ++ aq d v :: aq (bG v) d' :: B)]) (.lst ((aE :: ((A.map fun _ => aE) ++ bG v :: aE :: B.map fun _ => aE)).map dq)) := by
      refine (An gr gr hx hy (by omega) (by omega)).eq (ub hlen2.symm ⟨lC, by rw [cG, e6], lz hr, by rw [cG]; exact oY hr, oY hr, ?_⟩)
      rw [eds]
      exact wq hv (pd d (md d (.inr (.inl rfl)))) (pd d' (md d' (.inr (.inr (.inl rfl))))) (fun x h => pd x (md x (.inr (.inr (.inr h))))) (fun x h => pd x (md x (.inl h)))
    have bv := gv.bd (by decide)
    have bb := gb.bd (by decide)
    have b1 := hd1.1.bd (by decide)
    have b2 := hd2.1.bd (by decide)
    have q1 : L2.atI (ds.map dq) (i : Int) = some (dq d) := by rw [eds]; exact uD (by omega)
    have q2 : gX (ds.map dq) (i : Int) (dq (aq d v)) = some ((A ++ aq d v :: d' :: B).map dq) := by rw [eds]; exact mQ (by omega)
    have q3 : L2.atI ((A ++ aq d v :: d' :: B).map dq) ((i : Int) + 1) = some (dq d') := by
      rw [show A ++ aq d v :: d' :: B = (A ++ [aq d v]) ++ d' :: B by simp]
      exact uD (by simp; omega)
    have q4' : gX ((A ++ aq d v :: d' :: B).map dq) ((i : Int) + 1) (dq (aq (bG v) d')) = some ((A ++ aq d v :: aq (bG v) d' :: B).map dq) := by
      rw [show A ++ aq d v :: d' :: B = (A ++ [aq d v]) ++ d' :: B by simp, show A ++ aq d v :: aq (bG v) d' :: B = (A ++ [aq d v]) ++ aq (bG v) d' :: B by simp]
      exact mQ (by simp; omega)
    have l2 := cI (A ++ aq d v :: d' :: B)
    have l3 := cI (A ++ aq d v :: aq (bG v) d' :: B)
    have eD : ((List.range (ds.length + 1)).map fun _ => dq aE) = (((aE :: A.map fun _ => aE) ++ aE :: aE :: B.map fun _ => aE)).map dq := by
      have e0 : ((List.range (ds.length + 1)).map fun _ => dq aE) = List.replicate (ds.length + 1) (dq aE) := by rw [List.map_const', List.length_range]
      rw [e0]
      refine (List.eq_replicate_iff.mpr ⟨?_, fun x hx => ?_⟩).symm
      . rw [eds]; simp <;> omega
      . simp only [List.mem_map, List.mem_append, List.mem_cons] at hx
        obtain ⟨y, hy, rfl⟩ := hx
        rcases hy with (rfl | ⟨_, _, rfl⟩) | rfl | rfl | ⟨_, _, rfl⟩ <;> rfl
    have q5 : gX ((((aE :: A.map fun _ => aE) ++ aE :: aE :: B.map fun _ => aE)).map dq) ((i : Int) + 1) (dq (bG v)) = some (((aE :: A.map fun _ => aE) ++ bG v :: aE :: B.map fun _ => aE).map dq) := mQ (by simp; omega)
    have l4 := cI ((aE :: A.map fun _ => aE) ++ aE :: aE :: B.map fun _ => aE)
    refine bM (bi 1 decl_name% (bL (t := decide ((((ds.map dq).length : Nat) : Int) < 2)) (k := 0) decl_name% hlt ?_))
    refine bI (b0 (d := .int (i : Int)) (decl_name%.eq (by rw [hA]))) (bI (b0 (d := dq v) (dO (aT decl_name% tM) decl_name% rfl hat)) (bI (r8 (l := ds.map dq) rfl (aT (aN (dO decl_name% decl_name% rfl q1) (aN decl_name% cm)) (zP b1 bv)) decl_name% q2 lt rfl) (bI (r8 (l := (A ++ aq d v :: d' :: B).map dq) rfl (aT (aN (aT decl_name% (AJ v)) (aN (dO decl_name% decl_name% rfl q3) cm)) (zP bb b2)) decl_name% q4' l2 rfl) ?_)))
    refine bI (b0 (d := .lst ((((aE :: A.map fun _ => aE) ++ aE :: aE :: B.map fun _ => aE)).map dq)) (ac.eq (mZ (l := List.range (((A ++ aq d v :: aq (bG v) d' :: B).map dq).length + 1)) (g := fun i => .int (i : Nat)) (f := fun _ => dq aE) (qv (B := f7) (ds := [.int (((((A ++ aq d v :: aq (bG v) d' :: B).map dq).length + 1 : Nat)) : Int)]) decl_name% (qY (by rw [List.length_map, hlen2]; omega))) rfl (by rw [List.length_range, List.length_map, hlen2]; show _ <= 40000; omega) (.inr (Nat.zero_le _)) fun x _ => ⟨_, rfl, decl_name%⟩) (by rw [List.length_map, hlen2, eD]))) ?_
    refine bI (r8 (l := (((aE :: A.map fun _ => aE) ++ aE :: aE :: B.map fun _ => aE)).map dq) rfl (aT decl_name% (AJ v)) decl_name% q5 l4 rfl) ?_
    exact d8 (dF (cz (aT decl_name% k) decl_name% ((uB _ _).eq (decide_eq_true rfl))))
def je : Fx := Tb [("taken_apart", gC), ("shows_telling", dn), ("_law_telling_well", fc), ("product_of", fw), ("_law_moved_well", fP)] [] BL IL ML TL aR
def eM : List D -> Rs D := bC je (aa (af 57)) ["_law_four", "_law_order", "_law_cell_here"] (ai (af 57))
theorem A8 {os : List Int} {m : Nat} {x y : Int} (h : m + 1 < os.length) (hx : os[m]? = some x) (hy : os[m + 1]? = some y) (ne : x ≠ y) : os.take m ++ [y, x] ++ os.drop (m + 2) ≠ os := fun e => by
  have h1 : (os.take m ++ [y, x] ++ os.drop (m + 2))[m]? = some y := by
    rw [List.append_assoc, List.getElem?_append_right (by rw [List.length_take]; omega)]
    rw [List.length_take, Nat.min_eq_left (by omega), Nat.sub_self]
    rfl
  rw [e, hx] at h1
  exact ne (Option.some.inj h1)
theorem y8 (ns : List Int) (c : Nat) (h : c <= ns.length) : fM (ns.map D.int) (some (c : Int)) none = (ns.drop c).map D.int := by
  simp only [fM, HT.sIx_none, HT.sIx_nat, List.length_map, Nat.min_eq_left h]
  rw [List.take_of_length_le (by simp), List.map_drop]
theorem GY {f e : Qd} {os : List Int} {qs : List Qd} (h1 : ao e = 1) (h2 : qs.map ao = os) (h3 : qs.foldl aq e = f) : jh f os e qs = true := by unfold jh; simp [h1, h2, h3]
theorem zQ {f e : Qd} {os : List Int} {qs : List Qd} (h2 : qs.map ao ≠ os) : jh f os e qs = false := by unfold jh; simp [h2]
theorem Ai {q r : Qd} {os : List Int} {ds : List Qd} (lo : am (os.map D.int) = true) (ho : os.length <= 20) (es : ds.map ao = os) (kT : ∀ os' : List Int, ac (dn [dq q, .lst (os'.map D.int), jQ r ds]) (.bl (jh q os' r ds))) : ∀ (l : List Nat) (ρ : aj), (∀ m ∈ l, m + 1 < os.length) -> Sub (bQ [("_law_four", dq q, false), ("_law_order", .lst (os.map D.int), false), ("_law_told", jQ r ds, true)]) ρ -> uG je (aa (af 57)) (jt ((ai (af 57)).getD 4 (.Pass ⟨0, 0, 0, 0⟩))) (fh ((ai (af 57)).getD 4 (.Pass ⟨0, 0, 0, 0⟩))) ((ai (af 57)).drop 5) (.bl true) (l.map fun m : Nat => .int (1 + (m : Int))) ρ
  | [], ρ, _, s => cE s decl_name%
  | m :: l, ρ, h, s => by
    have hm := h m List.mem_cons_self
    have hx : os[m]? = some os[m] := List.getElem?_eq_getElem (by omega)
    have hy : os[m + 1]? = some os[m + 1] := List.getElem?_eq_getElem hm
    generalize os[m] = x at hx
    generalize os[m + 1] = y at hy
    have e1 : 1 + (m : Int) - 1 = (m : Int) := by omega
    have e2 : 1 + (m : Int) = ((m + 1 : Nat) : Int) := by omega
    have e3 : 1 + (m : Int) + 1 = ((m + 2 : Nat) : Int) := by omega
    have ax : L2.atI (os.map D.int) (1 + (m : Int) - 1) = some (.int x) := by rw [e1]; exact jd (by simp [hx])
    have ay : L2.atI (os.map D.int) (1 + (m : Int)) = some (.int y) := by rw [e2]; exact jd (by simp [hy])
    have s1 := s.put (Str.ofString "_law_k") (.int (1 + (m : Int)), false)
    by_cases hxy : x = y
    . refine ⟨_, rfl, .inl (cw s1 (bL (t := !cA (.int x) (.int y)) (k := 0) (cz (dO decl_name% decl_name% rfl ax) (dO decl_name% decl_name% rfl ay) ⟨_, rfl, rfl, True.intro⟩) (mT hxy) dh) fun ρ' s' => Ai lo ho es kT l ρ' (fun k hk => h k (List.mem_cons_of_mem _ hk)) (ae s'.get (ae s'.get (ae s'.get aI))))⟩
    . have k3 := kT (os.take m ++ [y, x] ++ os.drop (m + 2))
      rw [zQ (fun e => A8 hm hx hy hxy (e.symm.trans es))] at k3
      have lm : ∀ ns : List Int, am (ns.map D.int) = true := fun ns => cV (fun _ => rfl) ns
      have c1 : fM (os.map D.int) none (some (1 + (m : Int) - 1)) = (os.take m).map D.int := by rw [e1]; exact xg _ _ (by omega)
      have c2 : fM (os.map D.int) (some (1 + (m : Int) + 1)) none = (os.drop (m + 2)).map D.int := by rw [e3]; exact y8 _ _ (by omega)
      have b1 : ac (kG .Add (.lst ((os.take m).map D.int)) (.lst [.int y, .int x]) 0 0) (.lst ((os.take m ++ [y, x]).map D.int), 0) := (qw (by have := lm (os.take m ++ [y, x]); rw [List.map_append] at this; exact this) (by rw [List.length_map, List.length_take]; show _ + 2 <= 40000; omega)).eq (by rw [List.map_append]; rfl)
      have b2 : ac (kG .Add (.lst ((os.take m ++ [y, x]).map D.int)) (.lst ((os.drop (m + 2)).map D.int)) 0 0) (.lst ((os.take m ++ [y, x] ++ os.drop (m + 2)).map D.int), 0) := (qw (by have := lm (os.take m ++ [y, x] ++ os.drop (m + 2)); rw [List.map_append] at this; exact this) (by rw [List.length_map, List.length_map, List.length_append, List.length_take, List.length_drop]; show _ + 2 + _ <= 40000; omega)).eq (by rw [<- List.map_append])
      refine ⟨_, rfl, .inr (cE s1 (fY (t := !cA (.int x) (.int y)) (k := 0) (cz (dO decl_name% decl_name% rfl ax) (dO decl_name% decl_name% rfl ay) ⟨_, rfl, rfl, True.intro⟩) (Am hxy) (bI (b0 (d := .lst ((os.take m ++ [y, x] ++ os.drop (m + 2)).map D.int)) (ga (k := 0) (j := 0) (ga (k := 0) (j := 0) (ac.eq (mY (l := none) (h := some (1 + (m : Int) - 1)) decl_name% decl_name% decl_name% (qU lo)) (by rw [c1])) (E9 (aN (d := .int y) (k := 0) (dO decl_name% decl_name% rfl ay) (aN (d := .int x) (k := 0) (dO decl_name% decl_name% rfl ax) cm)) ⟨Nat.le_of_ble_eq_true rfl, Nat.le_of_ble_eq_true rfl⟩) b1) (ac.eq (mY (l := some (1 + (m : Int) + 1)) (h := none) decl_name% decl_name% decl_name% (qU lo)) (by rw [c2])) b2)) (d8 (dF (cz (aT decl_name% k3) decl_name% (r := true) cC))))))⟩
theorem K2 {q : Qd} {os : List Int} (c : Int) (hq : al q) (pl : gH q) (hns : ∀ n ∈ os, n ∈ de) (hl : os.length <= 10) (hs : ao q = cH os) : ac (eM [dq q, .lst (os.map D.int), .int c]) (.bl true) := by
  have bP : cH os <= ((2 ^ 300 : Nat) : Int) := Int.le_trans (rg hns).2 (Int.ofNat_le.mpr (Nat.pow_le_pow_right (by decide) (by omega)))
  obtain ⟨r, ds, pr, sr, pd, es, ef, hT⟩ := CL hq pl (by rw [hs]; exact bP) hns (by omega) hs
  have ru := qJ pr sr
  have hW := CV pr sr pd es ef hns (by omega) bP
  have ld : ds.length = os.length := by have := congrArg List.length es; simpa using this
  have gds : ∀ d ∈ ds, gQ 10 d /\ d ≠ au := fun d h => by
    have hm := hns (ao d) (by rw [<- es]; exact List.mem_map.mpr ⟨d, h, rfl⟩)
    have := fo _ hm
    exact ⟨iA (n := 8) (pd d h) (by omega), fun z => by rw [z] at hm; exact absurd hm (by decide)⟩
  have gr := iz (cy r ru)
  have g20 : ∀ d ∈ ds, gQ 20 d := fun d h => (gds d h).1.mono (by decide)
  have hMW := Mp c ru gds (by omega)
  have ok : t8 aE (r :: ds) := wm (m := 1) (n := 20) ⟨fH, by decide, by decide, by decide, by decide⟩ (fun x h => by rcases List.mem_cons.mp h with rfl | h; exact gr.mono (by decide); exact g20 x h) (by rw [List.length_cons]; omega) (by decide)
  have hP := v9 ok
  rw [List.foldl_cons, cG, ef] at hP
  have kT : ∀ (os' : List Int) (ds' : List Qd), (∀ d ∈ ds', gQ 20 d) -> ds'.length <= 20 -> ac (dn [dq q, .lst (os'.map D.int), jQ r ds']) (.bl (jh q os' r ds')) := fun os' ds' h1 h2 => Dg (gr.mono (by decide)) h1 h2
  have t1 := kT os ds g20 (by omega)
  rw [GY sr es ef] at t1
  have t2 := kT os (ds ++ [aE]) (fun d h => by
    rcases List.mem_append.mp h with h | h
    . exact g20 d h
    . rw [List.mem_singleton] at h; subst h; exact (iz (cy _ lC)).mono (by decide)) (by simp; omega)
  rw [zQ (fun e => by have := congrArg List.length e; simp at this; omega)] at t2
  have lo : am (os.map D.int) = true := cV (fun _ => rfl) os
  have lt := cI ds
  have lr : am ([dq r] ++ ds.map dq) = true := cI (r :: ds)
  have lr2 : am (ds.map dq ++ [dq aE]) = true := by have := cI (ds ++ [aE]); rw [List.map_append] at this; exact this
  have ec : cA (dq q) (dq q) = true := AB rfl
  refine bM (bI (b0 (d := jQ r ds) (aT decl_name% hT)) (bL (t := false) (k := 0) (dl (db (lO (aT decl_name% hW) rfl) (db (cz (aT (aN (ga (x := .lst [dq r]) (y := .lst (ds.map dq)) decl_name% decl_name% (qw lr (by rw [List.length_map]; show 1 + _ <= 40000; omega))) cm) hP) decl_name% (Mn q)) fu))) rfl (bL (t := false) (k := 0) (dl (db (cz (aT decl_name% t1) decl_name% (r := false) cC) (db (lO (aT decl_name% hMW) rfl) fu))) rfl (bL (t := false) (k := 0) (cz (aT (aN decl_name% (aN decl_name% (aN (k := 0) (d := jQ r (ds ++ [aE])) (ac.eq (ol (aN decl_name% (aN (ga (x := .lst (ds.map dq)) (y := .lst [dq aE]) decl_name% decl_name% (qw lr2 (by rw [List.length_map]; show _ + 1 <= 40000; omega))) cm)) (Nat.le_of_ble_eq_true rfl)) (by rw [show ds.map dq ++ [dq aE] = (ds ++ [aE]).map dq by rw [List.map_append]; rfl]; rfl)) cm))) t2) decl_name% (r := false) cC) rfl ?_))))
  refine lj (k := 0) ((List.range (os.length - 1)).map fun m : Nat => .int (1 + (m : Int))) (d := .lst ((List.range (os.length - 1)).map fun m : Nat => .int (1 + (m : Int)))) (qv (B := f7) (ds := [.int 1, .int ((os.map D.int).length : Nat)]) (k := 0) decl_name% ?_) (Ai lo (by omega) es (fun os' => kT os' ds g20 (by omega)) _ _ (fun m hm => by have h2 : m < os.length - 1 := (by simpa using hm); omega) (ae rfl (ae rfl (ae rfl aI))))
  refine ac.eq ⟨_, rfl, by decide, by decide, by rw [List.length_map]; omega, by rw [List.length_map]; omega, True.intro⟩ ?_
  rw [List.length_map, show (((os.length : Nat) : Int) - 1).toNat = os.length - 1 by omega]
def kJ : Fx := Tb [] [] BL IL ML TL aR
def fy : List D -> Rs D := bC kJ (aa (af 54)) ["_law_things", "_law_cell_here"] (ai (af 54))
theorem yg {l m : List Int} (h : l.Perm m) : cH l = cH m := by
  induction h with
  | nil => rfl
  | cons x _ ih => rw [cJ, cJ, ih]
  | swap x y l => rw [cJ, cJ, cJ, cJ]; grind
  | trans _ _ a b => exact a.trans b
theorem Dt {ns : List Int} (c : Int) (hl : ns.length <= 20) : ∃ ms : List Int, ms.Perm ns /\ ac (fy [.lst (ns.map D.int), .int c]) (.lst (ms.map D.int)) := by
  have ll : am (ns.map D.int) = true := cV (fun _ => rfl) ns
  have ew := rG 0 ns
  have he : gx 0 (ns.map D.int) = (List.range ns.length).map fun i => .tup [.int (i : Nat), .int (ns.getD i 0)] := by
    conv => lhs; rw [ew]
    rw [List.map_map]
    exact uy _
  have fa := eJ (Φ := kJ) (sc := aa (af 54)) (ρ := bT (e9 ["_law_things", "_law_cell_here"] [.lst (ns.map D.int), .int c]) "_law_found" (.lst [], true)) (h := fun i : Nat => D.tup [.int (i : Nat), .int (ns.getD i 0)]) (g := fun i => [ns.getD i 0]) (T := (List.range ns.length).flatMap fun i => [ns.getD i 0]) (F := []) (R := []) (k := 1) (fun F ρ => ∃ ms : List Int, ms.Perm F /\ Sub (bQ [("_law_cell_here", .int c, false), ("_law_found", .lst (ms.map D.int), true)]) ρ) (List.range ns.length) (d := .lst (gx 0 (ns.map D.int))) (tg := jt ((ai (af 54)).getD 1 (.Pass ⟨0, 0, 0, 0⟩))) (it := lN ((ai (af 54)).getD 1 (.Pass ⟨0, 0, 0, 0⟩))) (body := fh ((ai (af 54)).getD 1 (.Pass ⟨0, 0, 0, 0⟩))) (p := ⟨0, 0, 0, 0⟩) decl_name% (by show some (gx 0 _) = _; rw [he]) ⟨[], List.Perm.refl _, ae rfl (ae rfl aI)⟩ (by simp) ?_
  . rw [List.nil_append, fR, <- ew] at fa
    obtain ⟨ρ', f1, ms, pm, s⟩ := fa
    exact ⟨ms, pm, bM (bi 1 decl_name% (bI f1 (cE s decl_name%)))⟩
  . rintro i hi F R ρ e ⟨ms, pm, s⟩
    have hi : i < ns.length := by simpa using hi
    have lF : F.length <= ns.length := by
      have := congrArg List.length e
      simp only [List.length_append, fR, List.length_map, List.length_range] at this
      omega
    have lm : ms.length <= 20 := by rw [pm.length_eq]; omega
    have dv : fT ((i : Int) + 3) := uA (by omega) (by omega)
    have mk : bK (i : Int) 7919 := lH (by decide)
    have hne : ((((ms.map D.int).length : Nat) : Int) + 1) ≠ 0 := by omega
    have i0 := Int.fmod_nonneg_of_pos (c.fdiv ((i : Int) + 3) + (i : Int) * 7919) (show (0 : Int) < (((ms.map D.int).length : Nat) : Int) + 1 by omega)
    have i1 := Int.fmod_lt_of_pos (c.fdiv ((i : Int) + 3) + (i : Int) * 7919) (show (0 : Int) < (((ms.map D.int).length : Nat) : Int) + 1 by omega)
    generalize hz : (c.fdiv ((i : Int) + 3) + (i : Int) * 7919).fmod ((((ms.map D.int).length : Nat) : Int) + 1) = z at i0 i1
    have l1 : (ms.map D.int).length < bE := by rw [List.length_map]; show _ < 40000; omega
    refine ⟨_, rfl, cw ((s.put _ _).put _ _) (bI (n6 (M := lJ) (ds := [.int z, .int (ns.getD i 0)]) (l := ms.map D.int) (l' := (ms.take z.toNat ++ ns.getD i 0 :: ms.drop z.toNat).map D.int) (k := 0) (aN (d := .int z) (k := 0) (by rw [<- hz]; exact decl_name%) (aN (d := .int (ns.getD i 0)) (k := 0) decl_name% cm)) rfl ?_) dh) fun ρ' s' => ⟨ms.take z.toNat ++ ns.getD i 0 :: ms.drop z.toNat, ?_, ae s'.get (ae s'.get aI)⟩⟩
    . refine ac.eq (a := (ms.map D.int).take z.toNat ++ D.int (ns.getD i 0) :: (ms.map D.int).drop z.toNat) ⟨_, rfl, i0, by omega, rfl, l1, True.intro⟩ ?_
      rw [List.map_append, List.map_cons, List.map_take, List.map_drop]
    . refine List.perm_middle.trans ?_
      rw [List.take_append_drop]
      exact (List.Perm.cons _ pm).trans (List.perm_append_singleton _ _).symm
def Ia : Fx := Tb [("_law_cell", jA), ("_law_built", kY), ("_law_cut", pG), ("size", gi), ("_law_order_well", eM), ("_law_shuffled", fy)] [] BL IL ML TL aR
def qA : List D -> Rs D := bC Ia (aa (af 58)) ["_law_script"] (ai (af 58))
theorem yG (ns : List Int) (_ : ns.length <= 63) : ac (qA [.lst (ns.map D.int)]) (.bl true) := by
  have hl : Eh (ns.map D.int) := ⟨ns, rfl⟩
  generalize ns.map D.int = L at *
  have c0 := Int.fmod_nonneg_of_pos (ig L 0) (show (0 : Int) < 6 by decide)
  have c1 := Int.fmod_lt_of_pos (ig L 0) (show (0 : Int) < 6 by decide)
  obtain ⟨m, hm⟩ := Int.eq_ofNat_of_zero_le c0
  obtain ⟨u, ws, hu, w1, w2, hB⟩ := CA hl 4 (m := m) (by omega)
  rw [<- hm] at hB
  obtain ⟨j, j1, pl, hC⟩ := HW hu w2 (by omega)
  have hks : ∀ w ∈ ws.take j, nJ w := fun w h => w2 w (List.mem_of_mem_take h)
  have hlen : (ws.take j).length = j := by rw [List.length_take]; omega
  have eo : (ws.map ao).take j = (ws.take j).map ao := List.map_take.symm
  generalize hkk : ws.take j = ks at *
  have pks : ∀ w ∈ ks, al w := fun w h => (hks w h).1.1
  have pk : al (ks.foldl aq u) := rZ (lz hu) pks
  have zk : ao (ks.foldl aq u) = cH (ks.map ao) := by rw [oO ks u (lz hu) pks, xX hu, Int.one_mul]
  have nP : ∀ n ∈ ks.map ao, n ∈ de := fun n hn => by obtain ⟨x, hx, rfl⟩ := List.mem_map.mp hn; exact (hks x hx).2
  have bP : cH (ks.map ao) <= ((2 ^ 300 : Nat) : Int) := Int.le_trans (rg nP).2 (Int.ofNat_le.mpr (Nat.pow_le_pow_right (by decide) (by rw [List.length_map]; omega)))
  have bk := (iA (n := 300) pk (by rw [zk]; exact bP)).bd (by decide)
  have lns2 : am ((ws.map ao).map D.int) = true := cV (fun _ => rfl) _
  have one : ∀ c c' : Int, ∃ ms : List Int, ac (fy [.lst ((ks.map ao).map D.int), .int c]) (.lst (ms.map D.int)) /\ ac (eM [dq (ks.foldl aq u), .lst (ms.map D.int), .int c']) (.bl true) := fun c c' => by
    obtain ⟨ms, pm, h1⟩ := Dt (ns := ks.map ao) c (by rw [List.length_map]; omega)
    exact ⟨ms, h1, K2 c' pk pl (fun n hn => nP n (pm.mem_iff.mp hn)) (by rw [pm.length_eq, List.length_map]; omega) (by rw [yg pm]; exact zk)⟩
  obtain ⟨m1, a1, a2⟩ := one (ig L 1) (ig L 3)
  obtain ⟨m2, b1, b2⟩ := one (ig L 2) (ig L 3)
  refine bM (bi 1 decl_name% (bI (w6 (aT decl_name% hB) rfl (.inr (Nat.zero_le _)) rfl) (bI (w6 (aT decl_name% hC) rfl (.inr (Nat.zero_le _)) rfl) (bI (b0 (d := .lst ((ks.map ao).map D.int)) (ac.eq (mY (l := none) (h := some (j : Int)) decl_name% decl_name% ?_ (qU lns2)) ?_)) (bi 1 decl_name% (uQ (Q := fun ρ => Sub (bQ [("_law_script", .lst L, false), ("_law_whole_here", dq (ks.foldl aq u), false), ("_law_primes", .lst ((ks.map ao).map D.int), false), ("_law_many", .int (cH (ks.map ao)), true)]) ρ) ?_ ?_))))))
  . exact decl_name%.eq (by rw [<- hlen]; simp)
  . rw [xg _ j (by rw [List.length_map]; omega), eo]
  . have lns : am ((ks.map ao).map D.int) = true := cV (fun _ => rfl) _
    refine EO (h := D.int) (k := 1) (fun F ρ => Sub (bQ [("_law_script", .lst L, false), ("_law_whole_here", dq (ks.foldl aq u), false), ("_law_primes", .lst ((ks.map ao).map D.int), false), ("_law_many", .int (cH F), true)]) ρ) (ks.map ao) (d := .lst ((ks.map ao).map D.int)) decl_name% rfl (ae rfl (ae rfl (ae rfl (ae rfl aI)))) fun p hp F R ρ e s => ?_
    obtain ⟨p1, p2⟩ := fo p (nP p hp)
    have mm : bK (cH F) p := lH (by omega)
    refine ⟨_, rfl, cw (s.put _ _) decl_name% fun ρ' s' => ?_⟩
    rw [iW, oS]
    exact ae s'.get (ae s'.get (ae s'.get (ae s'.get (aI))))
  . intro ρ s
    have hsz : (!cA (.int (ao (ks.foldl aq u))) (.int (cH (ks.map ao)))) = false := mT zk
    refine bL (t := false) (k := 0) (bD s (decl_name%.bl hsz)) rfl (lj (k := 0) [.int 1, .int 2] (bD (s.demote _) decl_name%) ⟨_, rfl, .inl ?_⟩)
    have s1 := ((s.demote (lN ((ai (af 58)).getD 7 (.Pass ⟨0, 0, 0, 0⟩)))).put (Str.ofString "_law_k") (.int 1, false))
    refine ⟨_, bL (t := false) (k := 0) (bD s1 (lO (aT (aN decl_name% (aN (aT decl_name% a1) (aN decl_name% cm))) a2) rfl)) rfl dh, _, rfl, .inl ⟨_, bL (t := false) (k := 0) (bD (s1.put (Str.ofString "_law_k") (.int 2, false)) (lO (aT (aN decl_name% (aN (aT decl_name% b1) (aN decl_name% cm))) b2) rfl)) rfl dh, decl_name%⟩⟩
theorem JM : aK (aC (aa (af 43))) ["_law_script", "_law_k"] (aa (af 43)) := ⟨rfl, rfl, rfl, by decide +kernel, by decide +kernel, by decide +kernel, by decide +kernel⟩
theorem JG : aK (aC (aa (af 49))) [] (aa (af 49)) := ⟨rfl, rfl, rfl, by decide +kernel, by decide +kernel, by decide +kernel, by decide +kernel⟩
theorem JF : aK (aC (aa (af 50))) ["_law_n"] (aa (af 50)) := ⟨rfl, rfl, rfl, by decide +kernel, by decide +kernel, by decide +kernel, by decide +kernel⟩
theorem JI : aK (aC (aa (af 47))) ["_law_one", "_law_other"] (aa (af 47)) := ⟨rfl, rfl, rfl, by decide +kernel, by decide +kernel, by decide +kernel, by decide +kernel⟩
theorem JE : aK (aC (aa (af 51))) ["_law_script", "_law_begin", "_law_many"] (aa (af 51)) := ⟨rfl, rfl, rfl, by decide +kernel, by decide +kernel, by decide +kernel, by decide +kernel⟩
theorem JD : aK (aC (aa (af 52))) ["_law_four"] (aa (af 52)) := ⟨rfl, rfl, rfl, by decide +kernel, by decide +kernel, by decide +kernel, by decide +kernel⟩
theorem JA : aK (aC (aa (af 55))) ["_law_unit", "_law_parts"] (aa (af 55)) := ⟨rfl, rfl, rfl, by decide +kernel, by decide +kernel, by decide +kernel, by decide +kernel⟩
theorem J4 : aK (aC (aa (af 17))) ["four"] (aa (af 17)) := ⟨rfl, rfl, rfl, by decide +kernel, by decide +kernel, by decide +kernel, by decide +kernel⟩
theorem JU : aK (aC (aa (af 31))) ["one", "other"] (aa (af 31)) := ⟨rfl, rfl, rfl, by decide +kernel, by decide +kernel, by decide +kernel, by decide +kernel⟩
theorem JV : aK (aC (aa (af 30))) ["numbers"] (aa (af 30)) := ⟨rfl, rfl, rfl, by decide +kernel, by decide +kernel, by decide +kernel, by decide +kernel⟩
theorem PC : aK (aC (aa (af 8))) ["thing"] (aa (af 8)) := ⟨rfl, rfl, rfl, by decide +kernel, by decide +kernel, by decide +kernel, by decide +kernel⟩
theorem PB : aK (aC (aa (af 9))) ["thing"] (aa (af 9)) := ⟨rfl, rfl, rfl, by decide +kernel, by decide +kernel, by decide +kernel, by decide +kernel⟩
theorem JS : aK (aC (aa (af 35))) ["four"] (aa (af 35)) := ⟨rfl, rfl, rfl, by decide +kernel, by decide +kernel, by decide +kernel, by decide +kernel⟩
theorem JQ : aK (aC (aa (af 37))) ["order", "whole"] (aa (af 37)) := ⟨rfl, rfl, rfl, by decide +kernel, by decide +kernel, by decide +kernel, by decide +kernel⟩
theorem J0 : aK (aC (aa (af 22))) ["side"] (aa (af 22)) := ⟨rfl, rfl, rfl, by decide +kernel, by decide +kernel, by decide +kernel, by decide +kernel⟩
theorem Ka : aK (aC (aa (af 10))) ["one", "other"] (aa (af 10)) := ⟨rfl, rfl, rfl, by decide +kernel, by decide +kernel, by decide +kernel, by decide +kernel⟩
theorem J9 : aK (aC (aa (af 11))) ["one", "number"] (aa (af 11)) := ⟨rfl, rfl, rfl, by decide +kernel, by decide +kernel, by decide +kernel, by decide +kernel⟩
theorem JX : aK (aC (aa (af 25))) ["four", "tried", "number"] (aa (af 25)) := ⟨rfl, rfl, rfl, by decide +kernel, by decide +kernel, by decide +kernel, by decide +kernel⟩
theorem JY : aK (aC (aa (af 24))) ["four", "number"] (aa (af 24)) := ⟨rfl, rfl, rfl, by decide +kernel, by decide +kernel, by decide +kernel, by decide +kernel⟩
theorem J8 : aK (aC (aa (af 14))) ["one", "other"] (aa (af 14)) := ⟨rfl, rfl, rfl, by decide +kernel, by decide +kernel, by decide +kernel, by decide +kernel⟩
theorem J6 : aK (aC (aa (af 15))) ["one", "other"] (aa (af 15)) := ⟨rfl, rfl, rfl, by decide +kernel, by decide +kernel, by decide +kernel, by decide +kernel⟩
theorem JZ : aK (aC (aa (af 23))) ["one", "other", "side"] (aa (af 23)) := ⟨rfl, rfl, rfl, by decide +kernel, by decide +kernel, by decide +kernel, by decide +kernel⟩
theorem J5 : aK (aC (aa (af 16))) ["four"] (aa (af 16)) := ⟨rfl, rfl, rfl, by decide +kernel, by decide +kernel, by decide +kernel, by decide +kernel⟩
theorem J2 : aK (aC (aa (af 20))) ["one", "other", "side"] (aa (af 20)) := ⟨rfl, rfl, rfl, by decide +kernel, by decide +kernel, by decide +kernel, by decide +kernel⟩
theorem J1 : aK (aC (aa (af 21))) ["one", "other", "side"] (aa (af 21)) := ⟨rfl, rfl, rfl, by decide +kernel, by decide +kernel, by decide +kernel, by decide +kernel⟩
theorem JW : aK (aC (aa (af 27))) ["one", "other", "side"] (aa (af 27)) := ⟨rfl, rfl, rfl, by decide +kernel, by decide +kernel, by decide +kernel, by decide +kernel⟩
theorem JR : aK (aC (aa (af 36))) ["four", "order"] (aa (af 36)) := ⟨rfl, rfl, rfl, by decide +kernel, by decide +kernel, by decide +kernel, by decide +kernel⟩
theorem J3 : aK (aC (aa (af 18))) ["fours"] (aa (af 18)) := ⟨rfl, rfl, rfl, by decide +kernel, by decide +kernel, by decide +kernel, by decide +kernel⟩
theorem JN : aK (aC (aa (af 41))) ["four", "order", "telling"] (aa (af 41)) := ⟨rfl, rfl, rfl, by decide +kernel, by decide +kernel, by decide +kernel, by decide +kernel⟩
theorem JL : aK (aC (aa (af 44))) ["_law_x"] (aa (af 44)) := ⟨rfl, rfl, rfl, by decide +kernel, by decide +kernel, by decide +kernel, by decide +kernel⟩
theorem JK : aK (aC (aa (af 45))) ["_law_thing"] (aa (af 45)) := ⟨rfl, rfl, rfl, by decide +kernel, by decide +kernel, by decide +kernel, by decide +kernel⟩
theorem JJ : aK (aC (aa (af 46))) ["_law_four"] (aa (af 46)) := ⟨rfl, rfl, rfl, by decide +kernel, by decide +kernel, by decide +kernel, by decide +kernel⟩
theorem JC : aK (aC (aa (af 53))) ["_law_telling", "_law_primes", "_law_four"] (aa (af 53)) := ⟨rfl, rfl, rfl, by decide +kernel, by decide +kernel, by decide +kernel, by decide +kernel⟩
theorem JH : aK (aC (aa (af 48))) ["_law_four"] (aa (af 48)) := ⟨rfl, rfl, rfl, by decide +kernel, by decide +kernel, by decide +kernel, by decide +kernel⟩
theorem JT : aK (aC (aa (af 33))) ["one", "other", "side"] (aa (af 33)) := ⟨rfl, rfl, rfl, by decide +kernel, by decide +kernel, by decide +kernel, by decide +kernel⟩
theorem JO : aK (aC (aa (af 39))) ["mine", "yours"] (aa (af 39)) := ⟨rfl, rfl, rfl, by decide +kernel, by decide +kernel, by decide +kernel, by decide +kernel⟩
theorem JP : aK (aC (aa (af 38))) ["telling", "other"] (aa (af 38)) := ⟨rfl, rfl, rfl, by decide +kernel, by decide +kernel, by decide +kernel, by decide +kernel⟩
theorem Jz : aK (aC (aa (af 56))) ["_law_told", "_law_cell_here"] (aa (af 56)) := ⟨rfl, rfl, rfl, by decide +kernel, by decide +kernel, by decide +kernel, by decide +kernel⟩
theorem Jy : aK (aC (aa (af 57))) ["_law_four", "_law_order", "_law_cell_here"] (aa (af 57)) := ⟨rfl, rfl, rfl, by decide +kernel, by decide +kernel, by decide +kernel, by decide +kernel⟩
theorem JB : aK (aC (aa (af 54))) ["_law_things", "_law_cell_here"] (aa (af 54)) := ⟨rfl, rfl, rfl, by decide +kernel, by decide +kernel, by decide +kernel, by decide +kernel⟩
theorem Jx : aK (aC (aa (af 58))) ["_law_script"] (aa (af 58)) := ⟨rfl, rfl, rfl, by decide +kernel, by decide +kernel, by decide +kernel, by decide +kernel⟩
theorem bw : ∀ p ∈ BL, iT p := az (Pr := iT) (CD) (az (Pr := iT) (xq) (az (Pr := iT) (zj) (az (Pr := iT) (CI) (az (Pr := iT) (CH) (az (Pr := iT) (CC) (az (Pr := iT) (CF) (az (Pr := iT) (CG) (aw))))))))
theorem bu : ∀ p ∈ IL, pJ p := az (Pr := pJ) (wT) (az (Pr := pJ) (B8) (az (Pr := pJ) (yO) (az (Pr := pJ) (B9) (aw))))
theorem bt : ∀ p ∈ ML, Gv p := aw
theorem bo : ∀ p ∈ TL, vN p := az (Pr := vN) (vh) (az (Pr := vN) (vg) (aw))
theorem cL {P : Program} {w : World} {k0 : W.Frag} {mg : Str -> Option Value} {base : Heap} {j k : Nat} {g : Str} {F : List D -> Rs D} {l : List (Str × (List D -> Rs D))} (h : cj P w k0 mg base j g F) (t : ∀ p ∈ l, AT P w k0 mg base k p) (hj : j <= k := by decide) : ∀ p ∈ (g, F) :: l, AT P w k0 mg base k p := az (Pr := AT P w k0 mg base k) (Or.inl (h.mono hj)) t
theorem all_mk {l : W.OpenLaw} {w : World} {K : W.Frag} {h : Heap} {mg : Str -> Option Value} {fa f43 f49 f50 f47 f51 f52 f55 f17 f31 f30 f8 f9 f35 f37 f22 f10 f11 f25 f24 f14 f15 f23 f16 f20 f21 f27 f36 f18 f41 f44 f45 f46 f53 f48 f33 f39 f38 f56 f57 f54 f58 : Addr} (X : K.In h) (G : h.Ns mainGlobals mg) (hfa : mg "law" = some (.ref fa))
    {Lj OR Ld OL Lc OK Lf ON Lb OJ La OI K7 OF LC Pd Lr OZ Ls O0 od8 an8 od9 an9 Lp OX Ln OV Ly O9 LH Pj LG Pi Lv O6 Lw O7 LF Ph LE Pg Lx O8 LD Pf LA Pb Lz Pa Lu O1 Lo OW LB Pc Lk OS Li OQ Lh OP Lg OO K9 OH Le OM Lq OY Ll OT Lm OU K6 OE K5 OC K8 OG K3 Gj : Option Addr} {IZ IS IR IU IQ IP IM Jq Jg Jh sl8 sl9 Je Jc Jm Jv Ju Jj Jk Jt Js Jl Jr Jo Jn Ji Jd Jp I0 IY IW IV IO IT Jf Ja Jb IK IJ IN II : Array (Option Value)} {LX MM Nx KA FN Ob LR MF Nq Ku FH N5 LQ ME Np Kt FG N3 LT MH Nt Kw FJ N7 LP MD No Ks FF N2 LO MC Nn Kr FE N1 LL Mz Nk Km FB NY Mg M4 NP KT F5 Ov L6 MU NF KI FV Oj L7 MV NG KJ FW Ol oc8 kV8 dc8 pm8 cd8 ct8 oc9 kV9 dc9 pm9 cd9 ct9 L4 MS ND KG FT Oh L1 MQ NB KE FR Of Mc M0 NL KP F1 Oq Mm M9 NU K0 Gc OB Ml M8 NT KZ Gb OA L9 MX NI KL FY On Ma MY NJ KM FZ Oo Mj M7 NS KY Ga Oz Mi M6 NR KW F7 Oy Mb MZ NK KO F0 Op Mh M5 NQ KU F6 Ox Me M2 NN KR F3 Ot Md M1 NM KQ F2 Os L8 MW NH KK FX Om L3 MR NC KF FS Og Mf M3 NO KS F4 Ou LY MN Ny KB FO Oc LW MK Nw Kz FM Oa LV MJ Nv Ky FL N9 LU MI Nu Kx FK N8 LN MB Nm Kq FD N0 LS MG Nr Kv FI N6 L5 MT NE KH FU Oi LZ MO Nz KC FP Od L0 MP NA KD FQ Oe LK Mx Nj Kl FA NX LJ Mw Ni Kk Fz NW LM MA Nl Ko FC NZ LI Ey Ft DO zc Fv : Value}
    (a43 : W.nsIn K mainGlobals "_law_cell" = some (some (.ref f43)))    (l43 : K.lookup f43 = some ⟨LX, Lj, .func (W.fnOf "_law_cell" "_law_cell" (aM (af 43)) (ai (af 43)) (aa (af 43)) .none MM Nx KA OR FN Ob), IZ⟩) (c43 : W.codeIn K FN "_law_cell" = true) (k43 : W.keepIn K (.ref f43) = true)
    (a49 : W.nsIn K mainGlobals "_law_units" = some (some (.ref f49)))    (l49 : K.lookup f49 = some ⟨LR, Ld, .func (W.fnOf "_law_units" "_law_units" (aM (af 49)) (ai (af 49)) (aa (af 49)) .none MF Nq Ku OL FH N5), IS⟩) (c49 : W.codeIn K FH "_law_units" = true) (k49 : W.keepIn K (.ref f49) = true)
    (a50 : W.nsIn K mainGlobals "_law_fours" = some (some (.ref f50)))    (l50 : K.lookup f50 = some ⟨LQ, Lc, .func (W.fnOf "_law_fours" "_law_fours" (aM (af 50)) (ai (af 50)) (aa (af 50)) .none ME Np Kt OK FG N3), IR⟩) (c50 : W.codeIn K FG "_law_fours" = true) (k50 : W.keepIn K (.ref f50) = true)
    (a47 : W.nsIn K mainGlobals "_law_times" = some (some (.ref f47)))    (l47 : K.lookup f47 = some ⟨LT, Lf, .func (W.fnOf "_law_times" "_law_times" (aM (af 47)) (ai (af 47)) (aa (af 47)) .none MH Nt Kw ON FJ N7), IU⟩) (c47 : W.codeIn K FJ "_law_times" = true) (k47 : W.keepIn K (.ref f47) = true)
    (a51 : W.nsIn K mainGlobals "_law_built" = some (some (.ref f51)))    (l51 : K.lookup f51 = some ⟨LP, Lb, .func (W.fnOf "_law_built" "_law_built" (aM (af 51)) (ai (af 51)) (aa (af 51)) .none MD No Ks OJ FF N2), IQ⟩) (c51 : W.codeIn K FF "_law_built" = true) (k51 : W.keepIn K (.ref f51) = true)
    (a52 : W.nsIn K mainGlobals "_law_divisor" = some (some (.ref f52)))    (l52 : K.lookup f52 = some ⟨LO, La, .func (W.fnOf "_law_divisor" "_law_divisor" (aM (af 52)) (ai (af 52)) (aa (af 52)) .none MC Nn Kr OI FE N1), IP⟩) (c52 : W.codeIn K FE "_law_divisor" = true) (k52 : W.keepIn K (.ref f52) = true)
    (a55 : W.nsIn K mainGlobals "_law_cut" = some (some (.ref f55)))    (l55 : K.lookup f55 = some ⟨LL, K7, .func (W.fnOf "_law_cut" "_law_cut" (aM (af 55)) (ai (af 55)) (aa (af 55)) .none Mz Nk Km OF FB NY), IM⟩) (c55 : W.codeIn K FB "_law_cut" = true) (k55 : W.keepIn K (.ref f55) = true)
    (a17 : W.nsIn K mainGlobals "size" = some (some (.ref f17)))    (l17 : K.lookup f17 = some ⟨Mg, LC, .func (W.fnOf "size" "size" (aM (af 17)) (ai (af 17)) (aa (af 17)) .none M4 NP KT Pd F5 Ov), Jq⟩) (c17 : W.codeIn K F5 "size" = true) (k17 : W.keepIn K (.ref f17) = true)
    (a31 : W.nsIn K mainGlobals "shared_by" = some (some (.ref f31)))    (l31 : K.lookup f31 = some ⟨L6, Lr, .func (W.fnOf "shared_by" "shared_by" (aM (af 31)) (ai (af 31)) (aa (af 31)) .none MU NF KI OZ FV Oj), Jg⟩) (c31 : W.codeIn K FV "shared_by" = true) (k31 : W.keepIn K (.ref f31) = true)
    (a30 : W.nsIn K mainGlobals "common_divisor" = some (some (.ref f30)))    (l30 : K.lookup f30 = some ⟨L7, Ls, .func (W.fnOf "common_divisor" "common_divisor" (aM (af 30)) (ai (af 30)) (aa (af 30)) .none MV NG KJ O0 FW Ol), Jh⟩) (c30 : W.codeIn K FW "common_divisor" = true) (k30 : W.keepIn K (.ref f30) = true)
    (a8 : W.nsIn K mainGlobals "is_whole" = some (some (.ref f8)))    (l8 : K.lookup f8 = some ⟨oc8, od8, .func (W.fnOf "is_whole" "is_whole" (aM (af 8)) (ai (af 8)) (aa (af 8)) .none kV8 dc8 pm8 an8 cd8 ct8), sl8⟩) (c8 : W.codeIn K cd8 "is_whole" = true) (k8 : W.keepIn K (.ref f8) = true)
    (a9 : W.nsIn K mainGlobals "is_four" = some (some (.ref f9)))    (l9 : K.lookup f9 = some ⟨oc9, od9, .func (W.fnOf "is_four" "is_four" (aM (af 9)) (ai (af 9)) (aa (af 9)) .none kV9 dc9 pm9 an9 cd9 ct9), sl9⟩) (c9 : W.codeIn K cd9 "is_four" = true) (k9 : W.keepIn K (.ref f9) = true)
    (a35 : W.nsIn K mainGlobals "whole_divisor" = some (some (.ref f35)))    (l35 : K.lookup f35 = some ⟨L4, Lp, .func (W.fnOf "whole_divisor" "whole_divisor" (aM (af 35)) (ai (af 35)) (aa (af 35)) .none MS ND KG OX FT Oh), Je⟩) (c35 : W.codeIn K FT "whole_divisor" = true) (k35 : W.keepIn K (.ref f35) = true)
    (a37 : W.nsIn K mainGlobals "order_fault" = some (some (.ref f37)))    (l37 : K.lookup f37 = some ⟨L1, Ln, .func (W.fnOf "order_fault" "order_fault" (aM (af 37)) (ai (af 37)) (aa (af 37)) .none MQ NB KE OV FR Of), Jc⟩) (c37 : W.codeIn K FR "order_fault" = true) (k37 : W.keepIn K (.ref f37) = true)
    (a22 : W.nsIn K mainGlobals "refuse_no_side" = some (some (.ref f22)))    (l22 : K.lookup f22 = some ⟨Mc, Ly, .func (W.fnOf "refuse_no_side" "refuse_no_side" (aM (af 22)) (ai (af 22)) (aa (af 22)) .none M0 NL KP O9 F1 Oq), Jm⟩) (c22 : W.codeIn K F1 "refuse_no_side" = true) (k22 : W.keepIn K (.ref f22) = true)
    (a10 : W.nsIn K mainGlobals "less" = some (some (.ref f10)))    (l10 : K.lookup f10 = some ⟨Mm, LH, .func (W.fnOf "less" "less" (aM (af 10)) (ai (af 10)) (aa (af 10)) .none M9 NU K0 Pj Gc OB), Jv⟩) (c10 : W.codeIn K Gc "less" = true) (k10 : W.keepIn K (.ref f10) = true)
    (a11 : W.nsIn K mainGlobals "many_times" = some (some (.ref f11)))    (l11 : K.lookup f11 = some ⟨Ml, LG, .func (W.fnOf "many_times" "many_times" (aM (af 11)) (ai (af 11)) (aa (af 11)) .none M8 NT KZ Pi Gb OA), Ju⟩) (c11 : W.codeIn K Gb "many_times" = true) (k11 : W.keepIn K (.ref f11) = true)
    (a25 : W.nsIn K mainGlobals "strayed" = some (some (.ref f25)))    (l25 : K.lookup f25 = some ⟨L9, Lv, .func (W.fnOf "strayed" "strayed" (aM (af 25)) (ai (af 25)) (aa (af 25)) .none MX NI KL O6 FY On), Jj⟩) (c25 : W.codeIn K FY "strayed" = true) (k25 : W.keepIn K (.ref f25) = true)
    (a24 : W.nsIn K mainGlobals "nearest" = some (some (.ref f24)))    (l24 : K.lookup f24 = some ⟨Ma, Lw, .func (W.fnOf "nearest" "nearest" (aM (af 24)) (ai (af 24)) (aa (af 24)) .none MY NJ KM O7 FZ Oo), Jk⟩) (c24 : W.codeIn K FZ "nearest" = true) (k24 : W.keepIn K (.ref f24) = true)
    (a14 : W.nsIn K mainGlobals "plain_product" = some (some (.ref f14)))    (l14 : K.lookup f14 = some ⟨Mj, LF, .func (W.fnOf "plain_product" "plain_product" (aM (af 14)) (ai (af 14)) (aa (af 14)) .none M7 NS KY Ph Ga Oz), Jt⟩) (c14 : W.codeIn K Ga "plain_product" = true) (k14 : W.keepIn K (.ref f14) = true)
    (a15 : W.nsIn K mainGlobals "product" = some (some (.ref f15)))    (l15 : K.lookup f15 = some ⟨Mi, LE, .func (W.fnOf "product" "product" (aM (af 15)) (ai (af 15)) (aa (af 15)) .none M6 NR KW Pg F7 Oy), Js⟩) (c15 : W.codeIn K F7 "product" = true) (k15 : W.keepIn K (.ref f15) = true)
    (a23 : W.nsIn K mainGlobals "beside" = some (some (.ref f23)))    (l23 : K.lookup f23 = some ⟨Mb, Lx, .func (W.fnOf "beside" "beside" (aM (af 23)) (ai (af 23)) (aa (af 23)) .none MZ NK KO O8 F0 Op), Jl⟩) (c23 : W.codeIn K F0 "beside" = true) (k23 : W.keepIn K (.ref f23) = true)
    (a16 : W.nsIn K mainGlobals "other_signed" = some (some (.ref f16)))    (l16 : K.lookup f16 = some ⟨Mh, LD, .func (W.fnOf "other_signed" "other_signed" (aM (af 16)) (ai (af 16)) (aa (af 16)) .none M5 NQ KU Pf F6 Ox), Jr⟩) (c16 : W.codeIn K F6 "other_signed" = true) (k16 : W.keepIn K (.ref f16) = true)
    (a20 : W.nsIn K mainGlobals "divided" = some (some (.ref f20)))    (l20 : K.lookup f20 = some ⟨Me, LA, .func (W.fnOf "divided" "divided" (aM (af 20)) (ai (af 20)) (aa (af 20)) .none M2 NN KR Pb F3 Ot), Jo⟩) (c20 : W.codeIn K F3 "divided" = true) (k20 : W.keepIn K (.ref f20) = true)
    (a21 : W.nsIn K mainGlobals "exact" = some (some (.ref f21)))    (f6 : K.lookup f21 = some ⟨Md, Lz, .func (W.fnOf "exact" "exact" (aM (af 21)) (ai (af 21)) (aa (af 21)) .none M1 NM KQ Pa F2 Os), Jn⟩) (c21 : W.codeIn K F2 "exact" = true) (k21 : W.keepIn K (.ref f21) = true)
    (a27 : W.nsIn K mainGlobals "greatest" = some (some (.ref f27)))    (l27 : K.lookup f27 = some ⟨L8, Lu, .func (W.fnOf "greatest" "greatest" (aM (af 27)) (ai (af 27)) (aa (af 27)) .none MW NH KK O1 FX Om), Ji⟩) (c27 : W.codeIn K FX "greatest" = true) (k27 : W.keepIn K (.ref f27) = true)
    (a36 : W.nsIn K mainGlobals "taken_apart" = some (some (.ref f36)))    (l36 : K.lookup f36 = some ⟨L3, Lo, .func (W.fnOf "taken_apart" "taken_apart" (aM (af 36)) (ai (af 36)) (aa (af 36)) .none MR NC KF OW FS Og), Jd⟩) (c36 : W.codeIn K FS "taken_apart" = true) (k36 : W.keepIn K (.ref f36) = true)
    (a18 : W.nsIn K mainGlobals "product_of" = some (some (.ref f18)))    (l18 : K.lookup f18 = some ⟨Mf, LB, .func (W.fnOf "product_of" "product_of" (aM (af 18)) (ai (af 18)) (aa (af 18)) .none M3 NO KS Pc F4 Ou), Jp⟩) (c18 : W.codeIn K F4 "product_of" = true) (k18 : W.keepIn K (.ref f18) = true)
    (a41 : W.nsIn K mainGlobals "shows_telling" = some (some (.ref f41)))    (l41 : K.lookup f41 = some ⟨LY, Lk, .func (W.fnOf "shows_telling" "shows_telling" (aM (af 41)) (ai (af 41)) (aa (af 41)) .none MN Ny KB OS FO Oc), I0⟩) (c41 : W.codeIn K FO "shows_telling" = true) (k41 : W.keepIn K (.ref f41) = true)
    (a44 : W.nsIn K mainGlobals "_law_whole" = some (some (.ref f44)))    (l44 : K.lookup f44 = some ⟨LW, Li, .func (W.fnOf "_law_whole" "_law_whole" (aM (af 44)) (ai (af 44)) (aa (af 44)) .none MK Nw Kz OQ FM Oa), IY⟩) (c44 : W.codeIn K FM "_law_whole" = true) (k44 : W.keepIn K (.ref f44) = true)
    (a45 : W.nsIn K mainGlobals "_law_is_four" = some (some (.ref f45)))    (l45 : K.lookup f45 = some ⟨LV, Lh, .func (W.fnOf "_law_is_four" "_law_is_four" (aM (af 45)) (ai (af 45)) (aa (af 45)) .none MJ Nv Ky OP FL N9), IW⟩) (c45 : W.codeIn K FL "_law_is_four" = true) (k45 : W.keepIn K (.ref f45) = true)
    (a46 : W.nsIn K mainGlobals "_law_size" = some (some (.ref f46)))    (l46 : K.lookup f46 = some ⟨LU, Lg, .func (W.fnOf "_law_size" "_law_size" (aM (af 46)) (ai (af 46)) (aa (af 46)) .none MI Nu Kx OO FK N8), IV⟩) (c46 : W.codeIn K FK "_law_size" = true) (k46 : W.keepIn K (.ref f46) = true)
    (a53 : W.nsIn K mainGlobals "_law_telling_well" = some (some (.ref f53)))    (l53 : K.lookup f53 = some ⟨LN, K9, .func (W.fnOf "_law_telling_well" "_law_telling_well" (aM (af 53)) (ai (af 53)) (aa (af 53)) .none MB Nm Kq OH FD N0), IO⟩) (c53 : W.codeIn K FD "_law_telling_well" = true) (k53 : W.keepIn K (.ref f53) = true)
    (a48 : W.nsIn K mainGlobals "_law_bar" = some (some (.ref f48)))    (l48 : K.lookup f48 = some ⟨LS, Le, .func (W.fnOf "_law_bar" "_law_bar" (aM (af 48)) (ai (af 48)) (aa (af 48)) .none MG Nr Kv OM FI N6), IT⟩) (c48 : W.codeIn K FI "_law_bar" = true) (k48 : W.keepIn K (.ref f48) = true)
    (a33 : W.nsIn K mainGlobals "mate_by" = some (some (.ref f33)))    (l33 : K.lookup f33 = some ⟨L5, Lq, .func (W.fnOf "mate_by" "mate_by" (aM (af 33)) (ai (af 33)) (aa (af 33)) .none MT NE KH OY FU Oi), Jf⟩) (c33 : W.codeIn K FU "mate_by" = true) (k33 : W.keepIn K (.ref f33) = true)
    (a39 : W.nsIn K mainGlobals "moved_one" = some (some (.ref f39)))    (l39 : K.lookup f39 = some ⟨LZ, Ll, .func (W.fnOf "moved_one" "moved_one" (aM (af 39)) (ai (af 39)) (aa (af 39)) .none MO Nz KC OT FP Od), Ja⟩) (c39 : W.codeIn K FP "moved_one" = true) (k39 : W.keepIn K (.ref f39) = true)
    (a38 : W.nsIn K mainGlobals "moved_ones" = some (some (.ref f38)))    (l38 : K.lookup f38 = some ⟨L0, Lm, .func (W.fnOf "moved_ones" "moved_ones" (aM (af 38)) (ai (af 38)) (aa (af 38)) .none MP NA KD OU FQ Oe), Jb⟩) (c38 : W.codeIn K FQ "moved_ones" = true) (k38 : W.keepIn K (.ref f38) = true)
    (a56 : W.nsIn K mainGlobals "_law_moved_well" = some (some (.ref f56)))    (l56 : K.lookup f56 = some ⟨LK, K6, .func (W.fnOf "_law_moved_well" "_law_moved_well" (aM (af 56)) (ai (af 56)) (aa (af 56)) .none Mx Nj Kl OE FA NX), IK⟩) (c56 : W.codeIn K FA "_law_moved_well" = true) (k56 : W.keepIn K (.ref f56) = true)
    (a57 : W.nsIn K mainGlobals "_law_order_well" = some (some (.ref f57)))    (l57 : K.lookup f57 = some ⟨LJ, K5, .func (W.fnOf "_law_order_well" "_law_order_well" (aM (af 57)) (ai (af 57)) (aa (af 57)) .none Mw Ni Kk OC Fz NW), IJ⟩) (c57 : W.codeIn K Fz "_law_order_well" = true) (k57 : W.keepIn K (.ref f57) = true)
    (a54 : W.nsIn K mainGlobals "_law_shuffled" = some (some (.ref f54)))    (l54 : K.lookup f54 = some ⟨LM, K8, .func (W.fnOf "_law_shuffled" "_law_shuffled" (aM (af 54)) (ai (af 54)) (aa (af 54)) .none MA Nl Ko OG FC NZ), IN⟩) (c54 : W.codeIn K FC "_law_shuffled" = true) (k54 : W.keepIn K (.ref f54) = true)
    (a58 : W.nsIn K mainGlobals "law" = some (some (.ref f58)))    (l58 : K.lookup f58 = some ⟨LI, K3, .func (W.fnOf "law" "law" (aM (af 58)) (ai (af 58)) (aa (af 58)) .none Ey Ft DO Gj zc Fv), II⟩) (c58 : W.codeIn K zc "law" = true) (k58 : W.keepIn K (.ref f58) = true)
    {ca0 : Addr} {dd0 : Option Addr} {ss0 : Array (Option Value)} {nn0 : Nat} {GX GW GV GU : Tok} (g0 : W.nsIn K mainGlobals "NOUGHT" = some (some (.ref ca0))) (m0 : K.lookup ca0 = some ⟨.type "tuple", dd0, .seq #[.int (0) GX, .int (0) GW, .int (0) GV, .int (0) GU] nn0, ss0⟩)
    {ca1 : Addr} {dd1 : Option Addr} {ss1 : Array (Option Value)} {nn1 : Nat} {GT GS GR GQ : Tok} (g1 : W.nsIn K mainGlobals "ONE" = some (some (.ref ca1))) (m1 : K.lookup ca1 = some ⟨.type "tuple", dd1, .seq #[.int (2) GT, .int (0) GS, .int (0) GR, .int (0) GQ] nn1, ss1⟩)
    {ca2 : Addr} {dd2 : Option Addr} {ss2 : Array (Option Value)} {nn2 : Nat} {GP GO GN GM GL GK GJ GI GH GG Df De Dd Db Da C9 C8 C7 C6 C5 C4 C3 C2 C0 CZ : Tok} (g2 : W.nsIn K mainGlobals "PRIMES" = some (some (.ref ca2))) (m2 : K.lookup ca2 = some ⟨.type "tuple", dd2, .seq #[.int (2) GP, .int (3) GO, .int (5) GN, .int (7) GM, .int (11) GL, .int (13) GK, .int (17) GJ, .int (19) GI, .int (23) GH, .int (29) GG, .int (31) Df, .int (37) De, .int (41) Dd, .int (43) Db, .int (47) Da, .int (53) C9, .int (59) C8, .int (61) C7, .int (67) C6, .int (71) C5, .int (73) C4, .int (79) C3, .int (83) C2, .int (89) C0, .int (97) CZ] nn2, ss2⟩)
    (z0 : W.nsIn K mainGlobals "len" = some none)    (z1 : W.nsIn K mainGlobals "tuple" = some none)    (z2 : W.nsIn K mainGlobals "list" = some none)    (z3 : W.nsIn K mainGlobals "abs" = some none)    (z4 : W.nsIn K mainGlobals "all" = some none)    (z5 : W.nsIn K mainGlobals "sum" = some none)    (z6 : W.nsIn K mainGlobals "isinstance" = some none)    (z7 : W.nsIn K mainGlobals "set" = some none)    (z8 : W.nsIn K mainGlobals "int" = some none)    (z9 : W.nsIn K mainGlobals "bool" = some none)    (z10 : W.nsIn K mainGlobals "str" = some none)    (z11 : W.nsIn K mainGlobals "range" = some none)    (z12 : W.nsIn K mainGlobals "zip" = some none)    (z13 : W.nsIn K mainGlobals "enumerate" = some none)    (z14 : W.nsIn K mainGlobals "any" = some none)    (z15 : W.nsIn K mainGlobals "sorted" = some none)    (z16 : W.nsIn K mainGlobals "min" = some none)    (z17 : W.nsIn K mainGlobals "max" = some none)    (z18 : W.nsIn K mainGlobals "reversed" = some none) :
    ∃ fd : FuncData, (∀ (s : Shared) (v : Value), BindsTo s fd ⟨[v], []⟩ [("_law_script", v)]) /\ ∀ base : Heap, K.In base -> base.Ns mainGlobals mg -> cR l.prog w K mg base gk 11 fa fd ["_law_script"] (jV K qA) := by
  have e := hfa.symm.trans (W.mg_of X G a58)
  cases e
  have hbl : ∀ n ∈ ii, mg n = none := az (Pr := fun n => mg n = none) (W.mg_none_of X G z0) (az (Pr := fun n => mg n = none) (W.mg_none_of X G z1) (az (Pr := fun n => mg n = none) (W.mg_none_of X G z2) (az (Pr := fun n => mg n = none) (W.mg_none_of X G z3) (az (Pr := fun n => mg n = none) (W.mg_none_of X G z4) (az (Pr := fun n => mg n = none) (W.mg_none_of X G z5) (az (Pr := fun n => mg n = none) (W.mg_none_of X G z6) (az (Pr := fun n => mg n = none) (W.mg_none_of X G z7) (az (Pr := fun n => mg n = none) (W.mg_none_of X G z8) (az (Pr := fun n => mg n = none) (W.mg_none_of X G z9) (az (Pr := fun n => mg n = none) (W.mg_none_of X G z10) (az (Pr := fun n => mg n = none) (W.mg_none_of X G z11) (az (Pr := fun n => mg n = none) (W.mg_none_of X G z12) (az (Pr := fun n => mg n = none) (W.mg_none_of X G z13) (az (Pr := fun n => mg n = none) (W.mg_none_of X G z14) (az (Pr := fun n => mg n = none) (W.mg_none_of X G z15) (az (Pr := fun n => mg n = none) (W.mg_none_of X G z16) (az (Pr := fun n => mg n = none) (W.mg_none_of X G z17) (az (Pr := fun n => mg n = none) (W.mg_none_of X G z18) (aw)))))))))))))))))))
  have F43 := aY (st := (af 43)) l43 c43 k43
  have b43 := F43.binds (ps := ["_law_script", "_law_k"]) fun _ _ _ _ _ _ us hl => by obtain ⟨x0, x1, rfl⟩ := eN hl; rfl
  have F49 := aY (st := (af 49)) l49 c49 k49
  have b49 := F49.binds (ps := []) fun _ _ _ _ _ _ us hl => by cases Mt hl; rfl
  have F50 := aY (st := (af 50)) l50 c50 k50
  have b50 := F50.binds (ps := ["_law_n"]) fun _ _ _ _ _ _ us hl => by obtain ⟨x0, rfl⟩ := e7 hl; rfl
  have F47 := aY (st := (af 47)) l47 c47 k47
  have b47 := F47.binds (ps := ["_law_one", "_law_other"]) fun _ _ _ _ _ _ us hl => by obtain ⟨x0, x1, rfl⟩ := eN hl; rfl
  have F51 := aY (st := (af 51)) l51 c51 k51
  have b51 := F51.binds (ps := ["_law_script", "_law_begin", "_law_many"]) fun _ _ _ _ _ _ us hl => by obtain ⟨x0, x1, x2, rfl⟩ := iK hl; rfl
  have F52 := aY (st := (af 52)) l52 c52 k52
  have b52 := F52.binds (ps := ["_law_four"]) fun _ _ _ _ _ _ us hl => by obtain ⟨x0, rfl⟩ := e7 hl; rfl
  have F55 := aY (st := (af 55)) l55 c55 k55
  have b55 := F55.binds (ps := ["_law_unit", "_law_parts"]) fun _ _ _ _ _ _ us hl => by obtain ⟨x0, x1, rfl⟩ := eN hl; rfl
  have F17 := aY (st := (af 17)) l17 c17 k17
  have b17 := F17.binds (ps := ["four"]) fun _ _ _ _ _ _ us hl => by obtain ⟨x0, rfl⟩ := e7 hl; rfl
  have F31 := aY (st := (af 31)) l31 c31 k31
  have b31 := F31.binds (ps := ["one", "other"]) fun _ _ _ _ _ _ us hl => by obtain ⟨x0, x1, rfl⟩ := eN hl; rfl
  have F30 := aY (st := (af 30)) l30 c30 k30
  have b30 := F30.binds (ps := ["numbers"]) fun _ _ _ _ _ _ us hl => by obtain ⟨x0, rfl⟩ := e7 hl; rfl
  have F8 := aY (st := (af 8)) l8 c8 k8
  have b8 := F8.binds (ps := ["thing"]) fun _ _ _ _ _ _ us hl => by obtain ⟨x0, rfl⟩ := e7 hl; rfl
  have F9 := aY (st := (af 9)) l9 c9 k9
  have b9 := F9.binds (ps := ["thing"]) fun _ _ _ _ _ _ us hl => by obtain ⟨x0, rfl⟩ := e7 hl; rfl
  have F35 := aY (st := (af 35)) l35 c35 k35
  have b35 := F35.binds (ps := ["four"]) fun _ _ _ _ _ _ us hl => by obtain ⟨x0, rfl⟩ := e7 hl; rfl
  have F37 := aY (st := (af 37)) l37 c37 k37
  have b37 := F37.binds (ps := ["order", "whole"]) fun _ _ _ _ _ _ us hl => by obtain ⟨x0, x1, rfl⟩ := eN hl; rfl
  have F22 := aY (st := (af 22)) l22 c22 k22
  have b22 := F22.binds (ps := ["side"]) fun _ _ _ _ _ _ us hl => by obtain ⟨x0, rfl⟩ := e7 hl; rfl
  have F10 := aY (st := (af 10)) l10 c10 k10
  have b10 := F10.binds (ps := ["one", "other"]) fun _ _ _ _ _ _ us hl => by obtain ⟨x0, x1, rfl⟩ := eN hl; rfl
  have F11 := aY (st := (af 11)) l11 c11 k11
  have b11 := F11.binds (ps := ["one", "number"]) fun _ _ _ _ _ _ us hl => by obtain ⟨x0, x1, rfl⟩ := eN hl; rfl
  have F25 := aY (st := (af 25)) l25 c25 k25
  have b25 := F25.binds (ps := ["four", "tried", "number"]) fun _ _ _ _ _ _ us hl => by obtain ⟨x0, x1, x2, rfl⟩ := iK hl; rfl
  have F24 := aY (st := (af 24)) l24 c24 k24
  have b24 := F24.binds (ps := ["four", "number"]) fun _ _ _ _ _ _ us hl => by obtain ⟨x0, x1, rfl⟩ := eN hl; rfl
  have F14 := aY (st := (af 14)) l14 c14 k14
  have b14 := F14.binds (ps := ["one", "other"]) fun _ _ _ _ _ _ us hl => by obtain ⟨x0, x1, rfl⟩ := eN hl; rfl
  have F15 := aY (st := (af 15)) l15 c15 k15
  have b15 := F15.binds (ps := ["one", "other"]) fun _ _ _ _ _ _ us hl => by obtain ⟨x0, x1, rfl⟩ := eN hl; rfl
  have F23 := aY (st := (af 23)) l23 c23 k23
  have b23 := F23.binds (ps := ["one", "other", "side"]) fun _ _ _ _ _ _ us hl => by obtain ⟨x0, x1, x2, rfl⟩ := iK hl; rfl
  have F16 := aY (st := (af 16)) l16 c16 k16
  have b16 := F16.binds (ps := ["four"]) fun _ _ _ _ _ _ us hl => by obtain ⟨x0, rfl⟩ := e7 hl; rfl
  have F20 := aY (st := (af 20)) l20 c20 k20
  have b20 := F20.binds (ps := ["one", "other", "side"]) fun _ _ _ _ _ _ us hl => by obtain ⟨x0, x1, x2, rfl⟩ := iK hl; rfl
  have F21 := aY (st := (af 21)) f6 c21 k21
  have b21 := F21.binds (ps := ["one", "other", "side"]) fun _ _ _ _ _ _ us hl => by obtain ⟨x0, x1, x2, rfl⟩ := iK hl; rfl
  have F27 := aY (st := (af 27)) l27 c27 k27
  have b27 := F27.binds (ps := ["one", "other", "side"]) fun _ _ _ _ _ _ us hl => by obtain ⟨x0, x1, x2, rfl⟩ := iK hl; rfl
  have F36 := aY (st := (af 36)) l36 c36 k36
  have b36 := F36.binds (ps := ["four", "order"]) fun _ _ _ _ _ _ us hl => by obtain ⟨x0, x1, rfl⟩ := eN hl; rfl
  have F18 := aY (st := (af 18)) l18 c18 k18
  have b18 := F18.binds (ps := ["fours"]) fun _ _ _ _ _ _ us hl => by obtain ⟨x0, rfl⟩ := e7 hl; rfl
  have F41 := aY (st := (af 41)) l41 c41 k41
  have b41 := F41.binds (ps := ["four", "order", "telling"]) fun _ _ _ _ _ _ us hl => by obtain ⟨x0, x1, x2, rfl⟩ := iK hl; rfl
  have F44 := aY (st := (af 44)) l44 c44 k44
  have b44 := F44.binds (ps := ["_law_x"]) fun _ _ _ _ _ _ us hl => by obtain ⟨x0, rfl⟩ := e7 hl; rfl
  have F45 := aY (st := (af 45)) l45 c45 k45
  have b45 := F45.binds (ps := ["_law_thing"]) fun _ _ _ _ _ _ us hl => by obtain ⟨x0, rfl⟩ := e7 hl; rfl
  have F46 := aY (st := (af 46)) l46 c46 k46
  have b46 := F46.binds (ps := ["_law_four"]) fun _ _ _ _ _ _ us hl => by obtain ⟨x0, rfl⟩ := e7 hl; rfl
  have F53 := aY (st := (af 53)) l53 c53 k53
  have b53 := F53.binds (ps := ["_law_telling", "_law_primes", "_law_four"]) fun _ _ _ _ _ _ us hl => by obtain ⟨x0, x1, x2, rfl⟩ := iK hl; rfl
  have F48 := aY (st := (af 48)) l48 c48 k48
  have b48 := F48.binds (ps := ["_law_four"]) fun _ _ _ _ _ _ us hl => by obtain ⟨x0, rfl⟩ := e7 hl; rfl
  have F33 := aY (st := (af 33)) l33 c33 k33
  have b33 := F33.binds (ps := ["one", "other", "side"]) fun _ _ _ _ _ _ us hl => by obtain ⟨x0, x1, x2, rfl⟩ := iK hl; rfl
  have F39 := aY (st := (af 39)) l39 c39 k39
  have b39 := F39.binds (ps := ["mine", "yours"]) fun _ _ _ _ _ _ us hl => by obtain ⟨x0, x1, rfl⟩ := eN hl; rfl
  have F38 := aY (st := (af 38)) l38 c38 k38
  have b38 := F38.binds (ps := ["telling", "other"]) fun _ _ _ _ _ _ us hl => by obtain ⟨x0, x1, rfl⟩ := eN hl; rfl
  have F56 := aY (st := (af 56)) l56 c56 k56
  have b56 := F56.binds (ps := ["_law_told", "_law_cell_here"]) fun _ _ _ _ _ _ us hl => by obtain ⟨x0, x1, rfl⟩ := eN hl; rfl
  have F57 := aY (st := (af 57)) l57 c57 k57
  have b57 := F57.binds (ps := ["_law_four", "_law_order", "_law_cell_here"]) fun _ _ _ _ _ _ us hl => by obtain ⟨x0, x1, x2, rfl⟩ := iK hl; rfl
  have F54 := aY (st := (af 54)) l54 c54 k54
  have b54 := F54.binds (ps := ["_law_things", "_law_cell_here"]) fun _ _ _ _ _ _ us hl => by obtain ⟨x0, x1, rfl⟩ := eN hl; rfl
  have F58 := aY (st := (af 58)) l58 c58 k58
  refine ⟨W.fnOf "law" "law" (aM (af 58)) (ai (af 58)) (aa (af 58)) .none Ey Ft DO Gj zc Fv, fun s v => .of_eq rfl, fun base _ _ => ?_⟩
  have D43 : cj l.prog w K mg base 1 "_law_cell" jA := bf F43 JM (W.mg_of X G a43) b43 (by decide +kernel) (aX (aw) (aw) bw bu bt bo aG hbl) tH
  have D49 : cj l.prog w K mg base 1 "_law_units" iE := bf F49 JG (W.mg_of X G a49) b49 (by decide +kernel) (aX (aw) (aw) bw bu bt bo aG hbl) cQ.self
  have D50 : cj l.prog w K mg base 1 "_law_fours" kX := bf F50 JF (W.mg_of X G a50) b50 (by decide +kernel) (aX (aw) (aw) bw bu bt bo aG hbl) cQ.self
  have D47 : cj l.prog w K mg base 1 "_law_times" ey := bf F47 JI (W.mg_of X G a47) b47 (by decide +kernel) (aX (aw) (aw) bw bu bt bo aG hbl) sP
  have D51 : cj l.prog w K mg base 2 "_law_built" kY := bf F51 JE (W.mg_of X G a51) b51 (by decide +kernel) (aX (cL D49 (cL D43 (cL D50 (cL D47 (aw))))) (aw) bw bu bt bo aG hbl) cQ.self
  have D52 : cj l.prog w K mg base 1 "_law_divisor" fX := bf F52 JD (W.mg_of X G a52) b52 (by decide +kernel) (aX (aw) (aw) bw bu bt bo aG hbl) cQ.self
  have D55 : cj l.prog w K mg base 2 "_law_cut" pG := bf F55 JA (W.mg_of X G a55) b55 (by decide +kernel) (aX (cL D47 (cL D52 (aw))) (aw) bw bu bt bo aG hbl) cQ.self
  have D17 : cj l.prog w K mg base 1 "size" gi := bf F17 J4 (W.mg_of X G a17) b17 (by decide +kernel) (aX (aw) (aw) bw bu bt bo aG hbl) xI
  have D31 : cj l.prog w K mg base 1 "shared_by" iP := bf F31 JU (W.mg_of X G a31) b31 (by decide +kernel) (aX (aw) (aw) bw bu bt bo aG hbl) cQ.self
  have D30 : cj l.prog w K mg base 2 "common_divisor" dP := bf F30 JV (W.mg_of X G a30) b30 (by decide +kernel) (aX (cL D31 (aw)) (aw) bw bu bt bo aG hbl) jL
  have D8 : cj l.prog w K mg base 1 "is_whole" oJ := bf F8 PC (W.mg_of X G a8) b8 (by decide +kernel) (aX (aw) (aw) bw bu bt bo aG hbl) cQ.self
  have D9 : cj l.prog w K mg base 2 "is_four" kZ := bf F9 PB (W.mg_of X G a9) b9 (by decide +kernel) (aX (cL D8 (aw)) (aw) bw bu bt bo aG hbl) cQ.self
  have D35 : cj l.prog w K mg base 3 "whole_divisor" ee := bf F35 JS (W.mg_of X G a35) b35 (by decide +kernel) (aX (cL D30 (cL D9 (aw))) (az (Pr := gE mg K) (dz (ns := [0, 0, 0, 0]) (W.mg_of X G g0) m0 (show 4 <= sizeLine by decide) (.cons ⟨_, rfl⟩ (.cons ⟨_, rfl⟩ (.cons ⟨_, rfl⟩ (.cons ⟨_, rfl⟩ (.nil)))))) (aw)) bw bu bt bo aG hbl) cQ.self
  have D37 : cj l.prog w K mg base 1 "order_fault" gD := bf F37 JQ (W.mg_of X G a37) b37 (by decide +kernel) (aX (aw) (az (Pr := gE mg K) (dz (ns := [2, 3, 5, 7, 11, 13, 17, 19, 23, 29, 31, 37, 41, 43, 47, 53, 59, 61, 67, 71, 73, 79, 83, 89, 97]) (W.mg_of X G g2) m2 (show 25 <= sizeLine by decide) (.cons ⟨_, rfl⟩ (.cons ⟨_, rfl⟩ (.cons ⟨_, rfl⟩ (.cons ⟨_, rfl⟩ (.cons ⟨_, rfl⟩ (.cons ⟨_, rfl⟩ (.cons ⟨_, rfl⟩ (.cons ⟨_, rfl⟩ (.cons ⟨_, rfl⟩ (.cons ⟨_, rfl⟩ (.cons ⟨_, rfl⟩ (.cons ⟨_, rfl⟩ (.cons ⟨_, rfl⟩ (.cons ⟨_, rfl⟩ (.cons ⟨_, rfl⟩ (.cons ⟨_, rfl⟩ (.cons ⟨_, rfl⟩ (.cons ⟨_, rfl⟩ (.cons ⟨_, rfl⟩ (.cons ⟨_, rfl⟩ (.cons ⟨_, rfl⟩ (.cons ⟨_, rfl⟩ (.cons ⟨_, rfl⟩ (.cons ⟨_, rfl⟩ (.cons ⟨_, rfl⟩ (.nil))))))))))))))))))))))))))) (aw)) bw bu bt bo aG hbl) cQ.self
  have D22 : cj l.prog w K mg base 1 "refuse_no_side" c6 := bf F22 J0 (W.mg_of X G a22) b22 (by decide +kernel) (aX (aw) (aw) bw bu bt bo aG hbl) jK
  have D10 : cj l.prog w K mg base 1 "less" kU := bf F10 Ka (W.mg_of X G a10) b10 (by decide +kernel) (aX (aw) (aw) bw bu bt bo aG hbl) xJ
  have D11 : cj l.prog w K mg base 1 "many_times" ik := bf F11 J9 (W.mg_of X G a11) b11 (by decide +kernel) (aX (aw) (aw) bw bu bt bo aG hbl) oH
  have D25 : cj l.prog w K mg base 2 "strayed" kM := bf F25 JX (W.mg_of X G a25) b25 (by decide +kernel) (aX (cL D17 (cL D10 (cL D11 (aw)))) (aw) bw bu bt bo aG hbl) sM
  have D24 : cj l.prog w K mg base 3 "nearest" kO := bf F24 JY (W.mg_of X G a24) b24 (by decide +kernel) (aX (cL D25 (aw)) (aw) bw bu bt bo aG hbl) sO
  have D14 : cj l.prog w K mg base 1 "plain_product" fv := bf F14 J8 (W.mg_of X G a14) b14 (by decide +kernel) (aX (aw) (aw) bw bu bt bo aG hbl) kN
  have D15 : cj l.prog w K mg base 2 "product" gj := bf F15 J6 (W.mg_of X G a15) b15 (by decide +kernel) (aX (cL D14 (aw)) (aw) bw bu bt bo aG hbl) sN
  have D23 : cj l.prog w K mg base 3 "beside" jB := bf F23 JZ (W.mg_of X G a23) b23 (by decide +kernel) (aX (cL D15 (aw)) (aw) bw bu bt bo aG hbl) tJ
  have D16 : cj l.prog w K mg base 1 "other_signed" fO := bf F16 J5 (W.mg_of X G a16) b16 (by decide +kernel) (aX (aw) (aw) bw bu bt bo aG hbl) mr
  have D20 : cj l.prog w K mg base 4 "divided" iD := bf F20 J2 (W.mg_of X G a20) b20 (by decide +kernel) (aX (cL D22 (cL D24 (cL D23 (cL D17 (cL D10 (cL D16 (aw))))))) (az (Pr := gE mg K) (dz (ns := [0, 0, 0, 0]) (W.mg_of X G g0) m0 (show 4 <= sizeLine by decide) (.cons ⟨_, rfl⟩ (.cons ⟨_, rfl⟩ (.cons ⟨_, rfl⟩ (.cons ⟨_, rfl⟩ (.nil)))))) (aw)) bw bu bt bo aG hbl) sQ
  have D21 : cj l.prog w K mg base 5 "exact" fj := bf F21 J1 (W.mg_of X G a21) b21 (by decide +kernel) (aX (cL D20 (aw)) (az (Pr := gE mg K) (dz (ns := [0, 0, 0, 0]) (W.mg_of X G g0) m0 (show 4 <= sizeLine by decide) (.cons ⟨_, rfl⟩ (.cons ⟨_, rfl⟩ (.cons ⟨_, rfl⟩ (.cons ⟨_, rfl⟩ (.nil)))))) (aw)) bw bu bt bo aG hbl) vJ
  have D27 : cj l.prog w K mg base 5 "greatest" gM := bf F27 JW (W.mg_of X G a27) b27 (by decide +kernel) (aX (cL D22 (cL D20 (cL D10 (cL D23 (aw))))) (az (Pr := gE mg K) (dz (ns := [2, 0, 0, 0]) (W.mg_of X G g1) m1 (show 4 <= sizeLine by decide) (.cons ⟨_, rfl⟩ (.cons ⟨_, rfl⟩ (.cons ⟨_, rfl⟩ (.cons ⟨_, rfl⟩ (.nil)))))) (az (Pr := gE mg K) (dz (ns := [0, 0, 0, 0]) (W.mg_of X G g0) m0 (show 4 <= sizeLine by decide) (.cons ⟨_, rfl⟩ (.cons ⟨_, rfl⟩ (.cons ⟨_, rfl⟩ (.cons ⟨_, rfl⟩ (.nil)))))) (aw))) bw bu bt bo aG hbl) qm
  have D36 : cj l.prog w K mg base 6 "taken_apart" gC := EQ (Cf (pre := (ai (af 36)).take 7) (post := (ai (af 36)).drop 8) F36 JR (aX (cL D35 (cL D37 (cL D17 (cL D21 (cL D27 (aw)))))) (aw) bw bu bt bo aG hbl) rfl rfl rfl rfl rfl) (W.mg_of X G a36) k36 b36 (by decide +kernel)
  have D18 : cj l.prog w K mg base 3 "product_of" fw := bf F18 J3 (W.mg_of X G a18) b18 (by decide +kernel) (aX (cL D15 (aw)) (az (Pr := gE mg K) (dz (ns := [2, 0, 0, 0]) (W.mg_of X G g1) m1 (show 4 <= sizeLine by decide) (.cons ⟨_, rfl⟩ (.cons ⟨_, rfl⟩ (.cons ⟨_, rfl⟩ (.cons ⟨_, rfl⟩ (.nil)))))) (aw)) bw bu bt bo aG hbl) cQ.self
  have D41 : cj l.prog w K mg base 4 "shows_telling" dn := bf F41 JN (W.mg_of X G a41) b41 (by decide +kernel) (aX (cL D18 (cL D17 (aw))) (aw) bw bu bt bo aG hbl) cQ.self
  have D44 : cj l.prog w K mg base 1 "_law_whole" qj := bf F44 JL (W.mg_of X G a44) b44 (by decide +kernel) (aX (aw) (aw) bw bu bt bo aG hbl) cQ.self
  have D45 : cj l.prog w K mg base 2 "_law_is_four" fW := bf F45 JK (W.mg_of X G a45) b45 (by decide +kernel) (aX (cL D44 (aw)) (aw) bw bu bt bo aG hbl) cQ.self
  have D46 : cj l.prog w K mg base 1 "_law_size" ni := bf F46 JJ (W.mg_of X G a46) b46 (by decide +kernel) (aX (aw) (aw) bw bu bt bo aG hbl) tG
  have D53 : cj l.prog w K mg base 3 "_law_telling_well" fc := bf F53 JC (W.mg_of X G a53) b53 (by decide +kernel) (aX (cL D47 (cL D45 (cL D46 (aw)))) (aw) bw bu bt bo aG hbl) cQ.self
  have D48 : cj l.prog w K mg base 1 "_law_bar" lZ := bf F48 JH (W.mg_of X G a48) b48 (by decide +kernel) (aX (aw) (aw) bw bu bt bo aG hbl) vI
  have D33 : cj l.prog w K mg base 6 "mate_by" kW := bf F33 JT (W.mg_of X G a33) b33 (by decide +kernel) (aX (cL D22 (cL D21 (cL D17 (aw)))) (az (Pr := gE mg K) (dz (ns := [0, 0, 0, 0]) (W.mg_of X G g0) m0 (show 4 <= sizeLine by decide) (.cons ⟨_, rfl⟩ (.cons ⟨_, rfl⟩ (.cons ⟨_, rfl⟩ (.cons ⟨_, rfl⟩ (.nil)))))) (aw)) bw bu bt bo aG hbl) cQ.self
  have D39 : cj l.prog w K mg base 7 "moved_one" iQ := bf F39 JO (W.mg_of X G a39) b39 (by decide +kernel) (aX (cL D33 (aw)) (az (Pr := gE mg K) (dz (ns := [0, 0, 0, 0]) (W.mg_of X G g0) m0 (show 4 <= sizeLine by decide) (.cons ⟨_, rfl⟩ (.cons ⟨_, rfl⟩ (.cons ⟨_, rfl⟩ (.cons ⟨_, rfl⟩ (.nil)))))) (aw)) bw bu bt bo aG hbl) cQ.self
  have D38 : cj l.prog w K mg base 8 "moved_ones" fx := bf F38 JP (W.mg_of X G a38) b38 (by decide +kernel) (aX (cL D39 (cL D15 (aw))) (az (Pr := gE mg K) (dz (ns := [2, 0, 0, 0]) (W.mg_of X G g1) m1 (show 4 <= sizeLine by decide) (.cons ⟨_, rfl⟩ (.cons ⟨_, rfl⟩ (.cons ⟨_, rfl⟩ (.cons ⟨_, rfl⟩ (.nil)))))) (aw)) bw bu bt bo aG hbl) cQ.self
  have D56 : cj l.prog w K mg base 9 "_law_moved_well" fP := bf F56 Jz (W.mg_of X G a56) b56 (by decide +kernel) (aX (cL D47 (cL D48 (cL D49 (cL D38 (aw))))) (aw) bw bu bt bo aG hbl) cQ.self
  have D57 : cj l.prog w K mg base 10 "_law_order_well" eM := bf F57 Jy (W.mg_of X G a57) b57 (by decide +kernel) (aX (cL D36 (cL D41 (cL D53 (cL D18 (cL D56 (aw)))))) (aw) bw bu bt bo aG hbl) cQ.self
  have D54 : cj l.prog w K mg base 1 "_law_shuffled" fy := bf F54 JB (W.mg_of X G a54) b54 (by decide +kernel) (aX (aw) (aw) bw bu bt bo aG hbl) cQ.self
  exact ur F58 Jx (aX (cL D43 (cL D51 (cL D55 (cL D17 (cL D57 (cL D54 (aw))))))) (aw) bw bu bt bo aG hbl) cQ.self
theorem walkX {q : Program} {loose : List Str} {XP : (Str -> Option Value) -> Heap -> Prop} {r : W.RowW} {d : DefRec} {kwd : List (Str × Expr)} {run : Value -> List Value -> Sem Value} {K : Params -> W.Frag} {as : List Addr} {n t : Nat}
    (e : ∀ P, as = (K P).map (·.1)) (h : W.WalkO q loose XP (W.InK K) r d kwd run) : W.WalkX q loose XP (W.X.obsZ as) (W.X.valZ K n t) r d kwd run :=
  fun w _ _ mg mb G y a o pm cd doc dV kV h1 h2 h3 h4 h5 h6 args vals as' L =>
    h w _ _ mg mb G (W.InK.keeps w _ _ (W.X.z_facts e y).2.1 L.keeps) a o pm cd doc dV kV h1 h2 h3 h4 h5 h6 args vals as'
theorem walk {l : W.OpenLaw} {q : Program} {loose : List Str} {XP : (Str -> Option Value) -> Heap -> Prop} {YP : World -> Heap -> Prop} {d : DefRec} {K : Params -> W.Frag} (hn : l.most = some 63) (hdf : d.params.defaults = [])
    (hY : ∀ (w : World) (h : Heap), YP w h -> (K w.params).In h)
    (F : ∀ (w : World) (mg : Str -> Option Value) (fa : Addr) (h : Heap), (K w.params).In h -> h.Ns mainGlobals mg -> mg d.name = some (.ref fa) ->
      ∃ fd : FuncData, (∀ (s : Shared) (u : Value), BindsTo s fd ⟨[u], []⟩ [("_law_script", u)]) /\ ∀ base : Heap, (K w.params).In base -> base.Ns mainGlobals mg -> cR l.prog w (K w.params) mg base gk 11 fa fd ["_law_script"] (jV (K w.params) qA)) :
    W.WalkO q loose XP YP l.row.toRowW d [] (fun f vs => PySem.call f vs) :=
  L2.walk_of (n := 63) (k := 11) (x := "_law_script") (CX := fun _ => gk) (sp := fun w => jV (K w.params) qA) hn (by decide) hdf ⟨rfl, by decide, by decide⟩ hY F (fun _ _ a ns hl hO hS => EJ hO hS (yG ns hl)) fun _ _ _ _ _ z => z
end K
theorem PySem.W.Fast.tw12744266219965240692 : True := True.intro
theorem PySem.W.Fast.tw5396924696144012131 : True := True.intro
theorem PySem.W.Fast.tw10727834755431804648 : True := True.intro
theorem PySem.W.Fast.tw4316307418553203982 : True := True.intro
theorem PySem.W.Fast.tw3637242213501460310 : True := True.intro
theorem PySem.W.Fast.tw15013444363315629968 : True := True.intro
theorem PySem.W.Fast.tw1276449592038332610 : True := True.intro
theorem PySem.W.Fast.tw4529850054573577292 : True := True.intro
theorem PySem.W.Fast.tw13028070505603971948 : True := True.intro
theorem PySem.W.Fast.tw3916402179794857027 : True := True.intro
theorem PySem.W.Fast.tw8760859976924392565 : True := True.intro
theorem PySem.W.Fast.tw3292337606887067536 : True := True.intro
theorem PySem.W.Fast.tw1547605338859102579 : True := True.intro
theorem PySem.W.Fast.tw6357166143166768510 : True := True.intro
theorem PySem.W.Fast.tw4607054808727401307 : True := True.intro
theorem PySem.W.Fast.tw13436102374827815790 : True := True.intro
theorem PySem.W.Fast.tw11861191432309881377 : True := True.intro
theorem PySem.W.Fast.tw2947923301710481192 : True := True.intro
theorem PySem.W.Fast.tw17353378414744704842 : True := True.intro
theorem PySem.W.Fast.tw13738505062629832815 : True := True.intro
theorem PySem.W.Fast.tw17941876827684015367 : True := True.intro
theorem PySem.W.Fast.tw10969312021412491843 : True := True.intro
theorem PySem.W.Fast.tw14293860558803807290 : True := True.intro
theorem PySem.W.Fast.tw11942335011409446369 : True := True.intro
theorem PySem.W.Fast.tw12219488000337904309 : True := True.intro
theorem PySem.W.Fast.tw12353004390454211365 : True := True.intro
theorem PySem.W.Fast.tw615493081436482794 : True := True.intro
theorem PySem.W.Fast.tw3511052063604240409 : True := True.intro
theorem PySem.W.Fast.tw4566855089981760077 : True := True.intro
theorem PySem.W.Fast.tw17222391113600231041 : True := True.intro
theorem PySem.W.Fast.tw3336116513557705049 : True := True.intro
theorem PySem.W.Fast.tw12010040250968358280 : True := True.intro
theorem PySem.W.Fast.tw10801244292704445531 : True := True.intro
theorem PySem.W.Fast.tw7654393191299147014 : True := True.intro
theorem PySem.W.Fast.tw11948973038743132239 : True := True.intro
theorem PySem.W.Fast.tw1799357961847124401 : True := True.intro
theorem PySem.W.Fast.tw4957254784187958180 : True := True.intro
theorem PySem.W.Fast.tw5948017517661783624 : True := True.intro
theorem PySem.W.Fast.tw822251282967643446 : True := True.intro
theorem PySem.W.Fast.tw2952001016022233017 : True := True.intro
theorem PySem.W.Fast.tw7896500347964501809 : True := True.intro
theorem PySem.W.Fast.tw17342939494709248931 : True := True.intro
theorem PySem.W.Fast.tw9428687583961219521 : True := True.intro
theorem PySem.W.Fast.tw6167950618195214823 : True := True.intro
theorem PySem.W.Fast.tw419981215569514706 : True := True.intro
theorem PySem.W.Fast.tw15446760326221695197 : True := True.intro
theorem PySem.W.Fast.tw11512818497315830718 : True := True.intro
theorem PySem.W.Fast.tw11188887128767564521 : True := True.intro
theorem PySem.W.Fast.tw17750965671340663270 : True := True.intro
theorem PySem.W.Fast.tw8153864582910204885 : True := True.intro
theorem PySem.W.Fast.tw17412713444664714965 : True := True.intro
theorem PySem.W.Fast.tw5869289659810141124 : True := True.intro
theorem PySem.W.Fast.tw10990478471183915885 : True := True.intro
theorem PySem.W.Fast.tw13942667773060597234 : True := True.intro
theorem PySem.W.Fast.tw4389003617103810127 : True := True.intro
theorem PySem.W.Fast.tw11706864653748791730 : True := True.intro
theorem PySem.W.Fast.tw3093870650810442164 : True := True.intro
theorem PySem.W.Fast.tw6526701911840410285 : True := True.intro
theorem PySem.W.Fast.tw12763464889169354503 : True := True.intro
theorem PySem.W.Fast.tw13044584780843402609 : True := True.intro
theorem PySem.W.Fast.tw4694437664219723239 : True := True.intro
theorem PySem.W.Fast.tw4922476289981396668 : True := True.intro
theorem PySem.W.Fast.tw2507148652974731370 : True := True.intro
theorem PySem.W.Fast.tw14061575114517439610 : True := True.intro
theorem PySem.W.Fast.tw5304065663154534070 : True := True.intro
theorem PySem.W.Fast.tw14248987433797083527 : True := True.intro
theorem PySem.W.Fast.tw3428420707538525434 : True := True.intro
theorem PySem.W.Fast.tw7059772792420397444 : True := True.intro
theorem PySem.W.Fast.tw7499962397728286713 : True := True.intro
theorem PySem.W.Fast.tw11512368650113146167 : True := True.intro
theorem PySem.W.Fast.tw12275615487892678360 : True := True.intro
theorem PySem.W.Fast.tw17519752833492784316 : True := True.intro
theorem PySem.W.Fast.tw1352721351450686310 : True := True.intro
theorem PySem.W.Fast.tw4392193778265477930 : True := True.intro
theorem PySem.W.Fast.tw16077082374816076957 : True := True.intro
theorem PySem.W.Fast.tw5994576281757155249 : True := True.intro
open PySem PySem.W PyProof.Rows
set_option maxRecDepth 100000 in
set_option maxHeartbeats 0 in
theorem PySem.Challenge.cw_spaceturns_k56_whole_apart_in_any_order_holds : PySem.Challenge.rw_spaceturns_k56_whole_apart_in_any_order.Holds := by
  w_on; o_law; z_head; (case hw => w_witness2)
  k_fill
  refine K.walkX (fun _ => rfl) (K.walk (l := PySem.Challenge.rw_spaceturns_k56_whole_apart_in_any_order) rfl rfl (fun w h Y => Y) ?F)
  case F =>
    intro w mg fa h KX G hmg
    refine' K.all_mk KX G hmg ?_ ?_ ?_ ?_ ?_ ?_ ?_ ?_ ?_ ?_ ?_ ?_ ?_ ?_ ?_ ?_ ?_ ?_ ?_ ?_ ?_ ?_ ?_ ?_ ?_ ?_ ?_ ?_ ?_ ?_ ?_ ?_ ?_ ?_ ?_ ?_ ?_ ?_ ?_ ?_ ?_ ?_ ?_ ?_ ?_ ?_ ?_ ?_ ?_ ?_ ?_ ?_ ?_ ?_ ?_ ?_ ?_ ?_ ?_ ?_ ?_ ?_ ?_ ?_ ?_ ?_ ?_ ?_ ?_ ?_ ?_ ?_ ?_ ?_ ?_ ?_ ?_ ?_ ?_ ?_ ?_ ?_ ?_ ?_ ?_ ?_ ?_ ?_ ?_ ?_ ?_ ?_ ?_ ?_ ?_ ?_ ?_ ?_ ?_ ?_ ?_ ?_ ?_ ?_ ?_ ?_ ?_ ?_ ?_ ?_ ?_ ?_ ?_ ?_ ?_ ?_ ?_ ?_ ?_ ?_ ?_ ?_ ?_ ?_ ?_ ?_ ?_ ?_ ?_ ?_ ?_ ?_ ?_ ?_ ?_ ?_ ?_ ?_ ?_ ?_ ?_ ?_ ?_ ?_ ?_ ?_ ?_ ?_ ?_ ?_ ?_ ?_ ?_ ?_ ?_ ?_ ?_ ?_ ?_ ?_ ?_ ?_ ?_ ?_ ?_ ?_ ?_ ?_ ?_ ?_ ?_ ?_ ?_ ?_ ?_ ?_ ?_ ?_ ?_ ?_ ?_ ?_ ?_ ?_ ?_ ?_ ?_ ?_ ?_
    all_goals try first | k_is | kernel_rfl
