import PyProof.Rows.All
import Wide.All
import OpenK.AllK
import Wide.FinOn
import Lean
import PyProof.EqAt
import PyProof.EqKinds
import PyProof.TupleCall
import PySem.Challenge.RW_spaceturns_k24_one_order_one_way
set_option Elab.async false
set_option linter.all false
set_option maxRecDepth 100000
namespace L2
open PySem PySem.Spec PyProof.Rows
abbrev bO := Sum Int Str
def kW : bO -> Value -> Bool
  | .inl k, v => Value.isInt k v
  | .inr x, v => Value.isStrOf x v
def Lr (w : World) : bO -> Int
  | .inl k => hashInt k
  | .inr x => hashStr w x
theorem cD : ∀ {k : bO} {v : Value}, kW k v = true -> (∃ i t, k = Sum.inl i /\ v = Value.int i t) \/ (∃ x t, k = Sum.inr x /\ v = Value.str x t)
  | .inl i, v, h => by
    obtain ⟨t, e⟩ := Value.isInt_shape (k := i) (v := v) h
    exact .inl ⟨i, t, rfl, e⟩
  | .inr x, v, h => by
    obtain ⟨t, e⟩ := Value.isStrOf_shape (x := x) (v := v) h
    exact .inr ⟨x, t, rfl, e⟩
theorem wb (i : Int) (t : Tok) : kW (.inl i) (.int i t) = true := by simp [kW, Value.isInt]
theorem wa (x : Str) (t : Tok) : kW (.inr x) (.str x t) = true := by simp [kW, Value.isStrOf]
theorem DX (a b : Int) : decide ((Sum.inl a : bO) = Sum.inl b) = (a == b) := by
  by_cases e : a = b
  . subst e; simp
  . have h : ¬ (Sum.inl a : bO) = Sum.inl b := fun q => e (Sum.inl.inj q)
    rw [decide_eq_false h]
    exact (beq_eq_false_iff_ne.mpr e).symm
theorem DU (a b : Str) : decide ((Sum.inr a : bO) = Sum.inr b) = decide (a = b) := by
  by_cases e : a = b
  . subst e; simp
  . have h : ¬ (Sum.inr a : bO) = Sum.inr b := fun q => e (Sum.inr.inj q)
    rw [decide_eq_false h, decide_eq_false e]
theorem DW (a : Int) (b : Str) : decide ((Sum.inl a : bO) = Sum.inr b) = false := decide_eq_false (fun q => nomatch q)
theorem DV (a : Str) (b : Int) : decide ((Sum.inr a : bO) = Sum.inl b) = false := decide_eq_false (fun q => nomatch q)
def fA (prog : Program) (w : World) : PySem.KeyKind prog w bO where
  is := kW
  hash := Lr w
  inj := fun v a b ha hb => by
    rcases cD ha with ⟨i, t, rfl, rfl⟩ | ⟨x, t, rfl, rfl⟩
    . rcases cD hb with ⟨j, u, rfl, e⟩ | ⟨y, u, rfl, e⟩
      . injection e with e1 _; rw [e1]
      . exact nomatch e
    . rcases cD hb with ⟨j, u, rfl, e⟩ | ⟨y, u, rfl, e⟩
      . exact nomatch e
      . injection e with e1 _; rw [e1]
  byValue := fun k v h => by
    rcases cD h with ⟨i, t, rfl, rfl⟩ | ⟨x, t, rfl, rfl⟩ <;> rfl
  pyHash := fun hv h => by
    rcases cD hv with ⟨i, t, rfl, rfl⟩ | ⟨x, t, rfl, rfl⟩
    . exact wpAny_pyHash_int h
    . exact wpAny_pyHash_str h
  eqBool := fun hu hv h => by
    rcases cD hu with ⟨i, t, rfl, rfl⟩ | ⟨x, t, rfl, rfl⟩
    . rcases cD hv with ⟨j, u, rfl, rfl⟩ | ⟨y, u, rfl, rfl⟩
      . rw [DX] at h; exact wpAny_eqBool_int h
      . rw [DW] at h; exact SeqAt.EqAt.int_str i t y u _ _ _ _ h
    . rcases cD hv with ⟨j, u, rfl, rfl⟩ | ⟨y, u, rfl, rfl⟩
      . rw [DV] at h; exact SeqAt.EqAt.str_int x t j u _ _ _ _ h
      . rw [DU] at h; exact wpAny_eqBool_str h
  «strs» := fun k x t v h => by
    rcases cD h with ⟨i, u, rfl, e⟩ | ⟨y, u, rfl, e⟩
    . exact nomatch e
    . injection e with e1 _
      subst e1
      cases v <;> rfl
theorem sA (prog : Program) (w : World) (i : Int) (t : Tok) : (fA prog w).is (.inl i) (.int i t) = true := wb i t
theorem sy (prog : Program) (w : World) (x : Str) (t : Tok) : (fA prog w).is (.inr x) (.str x t) = true := wa x t
end L2
namespace L2
open PySem PySem.Spec PyProof.Rows
inductive V where
  | non | bl (b : Bool) | int (i : Int) | str (x : Str) | byt (b : Array UInt8) | flt (b : UInt64) | ref (a : Addr) | ty (n : String)
  deriving DecidableEq
def aQ : V -> Value -> Prop
  | .non, u => u = Value.none
  | .bl b, u => u = Value.bool b
  | .int i, u => ∃ t, u = Value.int i t
  | .str x, u => ∃ t, u = Value.str x t
  | .byt b, u => ∃ t, u = Value.bytes b t
  | .flt b, u => ∃ t, u = Value.float b t
  | .ref a, u => u = Value.ref a
  | .ty n, u => u = Value.type n
abbrev aJ : List V -> List Value -> Prop := Paired aQ
theorem aJ.length {xs : List V} {us : List Value} (r : aJ xs us) : xs.length = us.length := Paired.length r
theorem aJ.get : ∀ {xs : List V} {us : List Value} {i : Nat} {x : V}, aJ xs us -> xs[i]? = some x -> ∃ u, us[i]? = some u /\ aQ x u
  | _, _, _, _, .nil, e => by simp at e
  | _, _, 0, _, .cons r _, e => by simp at e; subst e; exact ⟨_, rfl, r⟩
  | _, _, i + 1, x, .cons _ t, e => by
    obtain ⟨u, h1, h2⟩ := aJ.get (i := i) (x := x) t (by simpa using e)
    exact ⟨u, by simpa using h1, h2⟩
theorem aJ.set {x : V} {u : Value} (r : aQ x u) : ∀ {xs : List V} {us : List Value} (i : Nat), aJ xs us -> aJ (xs.set i x) (us.set i u)
  | _, _, _, .nil => .nil
  | _, _, 0, .cons _ t => .cons r t
  | _, _, i + 1, .cons q t => .cons q (aJ.set r i t)
theorem aJ.append : ∀ {xs ys : List V} {us ws : List Value}, aJ xs us -> aJ ys ws -> aJ (xs ++ ys) (us ++ ws)
  | _, _, _, _, .nil, s => s
  | _, _, _, _, .cons r t, s => .cons r (aJ.append t s)
theorem aJ.take : ∀ {xs : List V} {us : List Value} (n : Nat), aJ xs us -> aJ (xs.take n) (us.take n)
  | _, _, 0, _ => .nil
  | _, _, _ + 1, .nil => .nil
  | _, _, n + 1, .cons r t => .cons r (aJ.take n t)
theorem aJ.drop : ∀ {xs : List V} {us : List Value} (n : Nat), aJ xs us -> aJ (xs.drop n) (us.drop n)
  | _, _, 0, r => r
  | _, _, _ + 1, .nil => .nil
  | _, _, n + 1, .cons _ t => aJ.drop n t
theorem aJ.none_of : ∀ {xs : List V} {us : List Value} {i : Nat}, aJ xs us -> xs[i]? = none -> us[i]? = none := fun {xs us i} r e => by
  have h1 := r.length
  have h2 : xs.length <= i := List.getElem?_eq_none_iff.mp e
  exact List.getElem?_eq_none_iff.mpr (by omega)
def eU : Option V -> Option Value -> Prop
  | some v, some u => aQ v u
  | none, none => True
  | _, _ => False
def KV {κ : Type} : List (κ × V) -> List (κ × Value) -> Prop := Paired fun (p : κ × V) (q : κ × Value) => p.1 = q.1 /\ aQ p.2 q.2
def kV : bO -> V
  | .inl i => .int i
  | .inr x => .str x
inductive HO where
    | lst (xs : List V)
    | tup (xs : List V)
    | dK (kvs : List (bO × V)) | dT (kvs : List (List bO × V))
    | set (S : Int -> Bool) (n : Nat)
    | ins (C dx : Addr) (fs : List (Str × V))
    | own (x : Addr)
    | xd (fs : List (Str × V))
    | met (f x : Addr)
    | rng (lo hi : Int)
    | frz (o : Obj) (u : HO)
    | tbl (ps : Array Value)
    | ext (φ : Heap -> Prop)
abbrev Hp := Addr -> Option HO
def aV (H : Hp) (a : Addr) (o : HO) : Hp := fun b => if b = a then some o else H b
theorem aO {H : Hp} {a : Addr} {o : HO} : aV H a o a = some o := by unfold aV; rw [if_pos rfl]
theorem aH {H : Hp} {a b : Addr} {o : HO} (h : b ≠ a) : aV H a o b = H b := by unfold aV; rw [if_neg h]
theorem kM {H : Hp} {a b : Addr} {o u : HO} (h : H a = some o) (h' : H b = some u) (d : o ≠ u) : a ≠ b := by
  intro e; subst e; rw [h] at h'; exact d (Option.some.inj h')
theorem bz {H : Hp} {a b : Addr} {o : HO} (h : H a = some o) (h' : H b = none) : a ≠ b := by
  intro e; subst e; rw [h] at h'; cases h'
section
variable (P : Program) (w : World)
def bV (H : Hp) (h : Heap) (a : Addr) : HO -> Prop
  | .lst xs => xs.length <= sizeLine /\ ∃ (its : List Value) (n : Nat), aJ xs its /\ h.get? a = some { cls := .type "list", data := .seq its.toArray n }
  | .tup xs => xs.length <= sizeLine /\ ∃ its : List Value, aJ xs its /\ IsTup h a its.toArray
  | .dK kvs => kvs.length <= sizeLine /\ (a == sysModules) = false /\ ∃ vs, KV kvs vs /\ h.DictOf (fA P w) a vs
  | .dT kvs => kvs.length <= sizeLine /\ (a == sysModules) = false /\ ∃ xs : List (List bO × Addr × Value),
      Paired (fun (p : List bO × V) (q : List bO × Addr × Value) => p.1 = q.1 /\ H q.2.1 = some (.tup (p.1.map kV)) /\ aQ p.2 q.2.2) kvs xs /\
      ∃ o es ep, h.get? a = some o /\ o.ExactDict /\ o.data = .dict es ep /\ es.toList = xs.map (entryOfKey (tupleKind (fA P w))) /\ (xs.map (·.1)).Nodup
  | .set S n => h.SetOf (intKind P w) a S n
  | .ins C dx fs => H dx = some (.own a) /\ fs.length <= 1000 /\ dx ≠ a /\ h.get? a = some (W.instObj C dx) /\
      ∃ mA, h.Ns1 dx mA /\ (∀ f, eU (fs.lookup f) (mA f)) /\ PySem.Within mA (fs.map (·.1))
  | .own _ => ∃ o, h.get? a = some o
  | .xd fs => ∃ mA, h.Ns1 a mA /\ ∀ f, eU (fs.lookup f) (mA f)
  | .rng lo hi => ∃ t u v, h.get? a = some { cls := .type "range", data := .fields #[.int lo t, .int hi u, .int 1 v] }
  | .frz o u => h.get? a = some o /\ bV H h a u
  | .tbl ps => h.get? a = some { cls := .none, data := .fields ps }
  | .met f x => h.get? a = some (W.methodObj (.ref f) (.ref x))
  | .ext φ => φ h /\ (∃ o, h.get? a = some o) /\ ∀ h1 h2 : Heap, φ h1 -> (∀ o, h1.get? a = some o -> h2.get? a = some o) -> φ h2
def dn (H : Hp) (h : Heap) : Prop := ∀ a o, H a = some o -> bV P w H h a o
end
section
variable {P : Program} {w : World} {H H' : Hp} {h h' : Heap} {a : Addr} {o : HO}
theorem bV.lt (x : bV P w H h a o) : a < h.objs.size := by
  cases o with
  | lst xs => obtain ⟨_, _, _, _, e⟩ := x; exact Heap.lt_size e
  | tup xs => obtain ⟨_, _, _, p⟩ := x; exact p.lt
  | dK kvs => obtain ⟨_, _, _, _, o, _, _, e, _⟩ := x; exact Heap.lt_size e
  | dT kvs => obtain ⟨_, _, _, _, o, _, _, e, _⟩ := x; exact Heap.lt_size e
  | set S n => obtain ⟨o, _, _, _, e, _⟩ := x; exact Heap.lt_size e
  | ins C dx fs => obtain ⟨_, _, _, e, _⟩ := x; exact Heap.lt_size e
  | own y => obtain ⟨_, e⟩ := x; exact Heap.lt_size e
  | xd fs => obtain ⟨_, ⟨_, _, _, e, _⟩, _⟩ := x; exact Heap.lt_size e
  | rng lo hi => obtain ⟨_, _, _, e⟩ := x; exact Heap.lt_size e
  | frz ob u => obtain ⟨e, _⟩ := x; exact Heap.lt_size e
  | tbl ps => exact Heap.lt_size (show h.get? a = some _ from x)
  | met f y => exact Heap.lt_size (show h.get? a = some _ from x)
  | ext φ => obtain ⟨_, ⟨_, e⟩, _⟩ := x; exact Heap.lt_size e
theorem Paired.mapP {α β : Type} {F G : α -> β -> Prop} : ∀ {l₁ : List α} {l₂ : List β}, Paired F l₁ l₂ -> (∀ a b, F a b -> G a b) -> Paired G l₁ l₂
  | _, _, .nil, _ => .nil
  | _, _, .cons r t, f => .cons (f _ _ r) (Paired.mapP t f)
theorem bV.stay (x : bV P w H h a o) (k : ∀ b u, (b = a \/ H b = some (.own a)) -> h.get? b = some u -> h'.get? b = some u)
    (ho : ∀ b, H b = some (.own a) -> H' b = some (.own a)) (ht : ∀ b xs, H b = some (.tup xs) -> H' b = some (.tup xs)) : bV P w H' h' a o := by
  induction o with
  | lst xs => obtain ⟨z, its, n, r, e⟩ := x; exact ⟨z, its, n, r, k _ _ (.inl rfl) e⟩
  | tup xs => obtain ⟨z, its, r, ob, e, c⟩ := x; exact ⟨z, its, r, ob, k _ _ (.inl rfl) e, c⟩
  | dK kvs => obtain ⟨z, y, vs, r, ob, es, ep, e, c⟩ := x; exact ⟨z, y, vs, r, ob, es, ep, k _ _ (.inl rfl) e, c⟩
  | dT kvs =>
    obtain ⟨z, y, xs, r, ob, es, ep, e, c⟩ := x
    exact ⟨z, y, xs, Paired.mapP r fun p q z => ⟨z.1, ht _ _ z.2.1, z.2.2⟩, ob, es, ep, k _ _ (.inl rfl) e, c⟩
  | set S n => obtain ⟨ob, es, ep, t, e, c⟩ := x; exact ⟨ob, es, ep, t, k _ _ (.inl rfl) e, c⟩
  | ins C dx fs =>
    obtain ⟨d, z, ne, e, mA, ⟨od, es, ep, e2, c⟩, r⟩ := x
    exact ⟨ho _ d, z, ne, k _ _ (.inl rfl) e, mA, ⟨od, es, ep, k _ _ (.inr d) e2, c⟩, r⟩
  | own y => obtain ⟨ob, e⟩ := x; exact ⟨ob, k _ _ (.inl rfl) e⟩
  | xd fs => obtain ⟨mA, ⟨od, es, ep, e, c⟩, r⟩ := x; exact ⟨mA, ⟨od, es, ep, k _ _ (.inl rfl) e, c⟩, r⟩
  | rng lo hi => obtain ⟨t, u, v, e⟩ := x; exact ⟨t, u, v, k _ _ (.inl rfl) e⟩
  | frz ob u ih => obtain ⟨e, q⟩ := x; exact ⟨k _ _ (.inl rfl) e, ih q⟩
  | tbl ps =>
    have e : h.get? a = some { cls := .none, data := .fields ps } := x
    show h'.get? a = some { cls := .none, data := .fields ps }
    exact k a _ (.inl rfl) e
  | met f y =>
    have e : h.get? a = some (W.methodObj (.ref f) (.ref y)) := x
    show h'.get? a = some (W.methodObj (.ref f) (.ref y))
    exact k a _ (.inl rfl) e
  | ext φ => obtain ⟨p, ⟨o, e⟩, st⟩ := x; exact ⟨st _ _ p fun o q => k _ _ (.inl rfl) q, ⟨o, k _ _ (.inl rfl) e⟩, st⟩
theorem dn.lt (x : dn P w H h) (e : H a = some o) : a < h.objs.size := (x a o e).lt
theorem dn.fresh (x : dn P w H h) (e : h.objs.size <= a) : H a = none := by
  cases q : H a with
  | none => rfl
  | some u => exact absurd (Nat.lt_of_lt_of_le (x.lt q) e) (Nat.lt_irrefl _)
theorem dn.kept (x : dn P w H h) (k : ∀ b u, h.get? b = some u -> h'.get? b = some u) : dn P w H h' := fun a o e =>
  (x a o e).stay (fun b u _ q => k b u q) (fun _ q => q) fun _ _ q => q
theorem dn.laid (x : dn P w H h) (k : ∀ b u, h.get? b = some u -> h'.get? b = some u) (hp : h.objs.size <= a) (new : bV P w (aV H a o) h' a o) : dn P w (aV H a o) h' := fun b u e => by
  have hn := x.fresh hp
  by_cases hb : b = a
  . subst hb; rw [aO] at e; cases e; exact new
  . rw [aH hb] at e
    exact (x b u e).stay (fun c v _ q => k c v q) (fun c q => by rw [aH (bz q hn)]; exact q) fun c xs q => by rw [aH (bz q hn)]; exact q
end
def Rd (H : Hp) (a : Addr) (u : HO) : Prop := H a = some u \/ ∃ o, H a = some (.frz o u)
theorem Rd.ok {P : Program} {w : World} {H : Hp} {h : Heap} {a : Addr} {u : HO} (r : Rd H a u) (x : dn P w H h) : bV P w H h a u := by
  rcases r with r | ⟨o, r⟩
  . exact x a u r
  . obtain ⟨_, q⟩ := x a _ r
    exact q
def Ae : Option HO -> Prop
  | some (.lst _) => True
  | some (.dK _) => True
  | some (.dT _) => True
  | some (.set _ _) => True
  | some (.ins _ _ _) => True
  | some (.ext _) => True
  | _ => False
section
variable {P : Program} {w : World} {H : Hp} {h h' : Heap} {x e : Addr} {o' : HO}
theorem dn.write (ok : dn P w H h) (mu : Ae (H x)) (he : e = x \/ H e = some (.own x)) (k : ∀ b u, b ≠ e -> h.get? b = some u -> h'.get? b = some u) (heo : ∃ u, h'.get? e = some u)
    (new : bV P w (aV H x o') h' x o') : dn P w (aV H x o') h' := fun b u q => by
  have nown : ∀ c y, H c = some (.own y) -> c ≠ x := fun c y r z => by subst z; rw [r] at mu; exact mu
  have ntup : ∀ c xs, H c = some (.tup xs) -> c ≠ x := fun c xs r z => by subst z; rw [r] at mu; exact mu
  by_cases hb : b = x
  . subst hb; rw [aO] at q; cases q; exact new
  . rw [aH hb] at q
    by_cases hbe : b = e
    . have q' : H b = some (.own x) := by
        rcases he with z | z
        . exact absurd (hbe.trans z) hb
        . rw [hbe]; exact z
      rw [q] at q'; cases q'
      obtain ⟨v, hv⟩ := heo
      exact ⟨v, by rw [hbe]; exact hv⟩
    . refine (ok b u q).stay (fun c v hc r => k c v ?_ r) (fun c r => by rw [aH (nown c b r)]; exact r) fun c xs r => by rw [aH (ntup c xs r)]; exact r
      rcases hc with rfl | hc
      . exact hbe
      . rintro rfl
        rcases he with z | z
        . exact nown c b hc z
        . rw [hc] at z; cases z; exact hb rfl
end
structure Un (fs ex : List Addr) (H H' : Hp) (h h' : Heap) : Prop where
  keep : ∀ b o, h.get? b = some o -> H b = none -> b ∉ fs -> b ∉ ex -> h'.get? b = some o
  slot : ∀ b o, h.get? b = some o -> H b = none -> b ∈ fs -> b ∉ ex -> ∃ sl, h'.get? b = some { o with slots := sl }
  free : ∀ b o, h.get? b = some o -> H b = none -> b ∉ ex -> H' b = none
  there : ∀ b o, h.get? b = some o -> b ∉ ex -> ∃ o', h'.get? b = some o'
  tups : ∀ b xs, H b = some (.tup xs) -> H' b = some (.tup xs)
  frzs : ∀ b o u, H b = some (.frz o u) -> H' b = some (.frz o u)
  tbls : ∀ b ps, H b = some (.tbl ps) -> ∃ more, H' b = some (.tbl (ps ++ more))
section
variable {fs fs' ex ex' : List Addr} {H H1 H2 : Hp} {h h1 h2 h' : Heap} {a x e : Addr} {o : HO}
theorem Un.any (u : Un fs ex H H1 h h1) {b : Addr} {ob : Obj} (q : h.get? b = some ob) (n : H b = none) (hx : b ∉ ex) : ∃ sl, h1.get? b = some { ob with slots := sl } := by
  by_cases hb : b ∈ fs
  . exact u.slot b ob q n hb hx
  . exact ⟨ob.slots, u.keep b ob q n hb hx⟩
theorem Un.kept (k : ∀ b u, h.get? b = some u -> h'.get? b = some u) : Un fs ex H H h h' :=
  ⟨fun b ob q _ _ _ => k b ob q, fun b ob q _ _ _ => ⟨ob.slots, k b ob q⟩, fun _ _ _ n _ => n, fun b ob q _ => ⟨ob, k b ob q⟩, fun _ _ q => q, fun _ _ _ q => q, fun _ ps q => ⟨#[], by rw [q]; simp⟩⟩
theorem Un.refl : Un fs ex H H h h := Un.kept fun _ _ q => q
theorem Un.laid (k : ∀ b u, h.get? b = some u -> h'.get? b = some u) (hp : h.objs.size <= a) (hn : H a = none) : Un fs ex H (aV H a o) h h' where
  keep := fun b u q _ _ _ => k b u q
  slot := fun b u q _ _ _ => ⟨u.slots, k b u q⟩
  free := fun b u q n _ => by rw [aH (Nat.ne_of_lt (Nat.lt_of_lt_of_le (Heap.lt_size q) hp))]; exact n
  there := fun b u q _ => ⟨u, k b u q⟩
  tups := fun b xs q => by rw [aH (bz q hn)]; exact q
  frzs := fun b u xs q => by rw [aH (bz q hn)]; exact q
  tbls := fun b ps q => ⟨#[], by rw [aH (bz q hn), q]; simp⟩
theorem Un.write (mu : Ae (H x)) (he : e = x \/ H e = some (.own x)) (k : ∀ b u, b ≠ e -> h.get? b = some u -> h'.get? b = some u) (heo : ∃ u, h'.get? e = some u) : Un fs ex H (aV H x o) h h' := by
  have hx : ∀ b, H b = none -> b ≠ x := fun b n z => by subst z; rw [n] at mu; exact mu
  have hb : ∀ b, H b = none -> b ≠ e := fun b n z => by
    subst z
    rcases he with r | r
    . exact hx b n r
    . rw [n] at r; cases r
  have hm : ∀ b u, H b = some u -> ¬ Ae (some u) -> b ≠ x := fun b u q nm z => by subst z; rw [q] at mu; exact nm mu
  refine ⟨fun b u q n _ _ => k b u (hb b n) q, fun b u q n _ _ => ⟨u.slots, k b u (hb b n) q⟩, fun b u q n _ => by rw [aH (hx b n)]; exact n, fun b u q _ => ?_,
    fun b xs q => by rw [aH (hm b _ q fun z => z)]; exact q, fun b u xs q => by rw [aH (hm b _ q fun z => z)]; exact q, fun b ps q => ⟨#[], by rw [aH (hm b _ q fun z => z), q]; simp⟩⟩
  by_cases hbe : b = e
  . subst hbe; exact heo
  . exact ⟨u, k b u hbe q⟩
end
def zg (h : Heap) (H : Hp) : List Addr := (List.range h.objs.size).filter fun a => (H a).isSome
def i7 (h : Heap) (H : Hp) : Heap := W.hideAll h (zg h H)
theorem wl (h : Heap) (H : Hp) : (i7 h H).objs.size = h.objs.size := W.hideAll_size _ _
theorem yk {h : Heap} {H : Hp} {b : Addr} {o : Obj} (e : h.get? b = some o) (n : H b = none) : (i7 h H).get? b = some o :=
  W.hideAll_get _ e fun hm => by
    have q : (H b).isSome = true := (List.mem_filter.mp hm).2
    rw [n] at q; simp at q
theorem A9 {h : Heap} {H : Hp} {b : Addr} {o : Obj} (e : (i7 h H).get? b = some o) : h.get? b = some o /\ H b = none := by
  have e' : h.get? b = some o := W.of_hideAll (zg h H) e
  refine ⟨e', ?_⟩
  cases q : H b with
  | none => rfl
  | some x =>
    have hm : b ∈ zg h H := List.mem_filter.mpr ⟨List.mem_range.mpr (Heap.lt_size e'), by simp [q]⟩
    have z : (i7 h H).get? b = none := W.hideAll_none (zg h H) hm
    rw [z] at e; cases e
def Cf (g h : Heap) (L : Addr) : List (Addr × Obj) := (List.range h.objs.size).filterMap fun a => if a = L \/ (g.get? a).isSome = true then none else (h.get? a).map fun o => (a, o)
def rest (g h : Heap) (L d : Addr) : List (Addr × Obj) := (Cf g h L).filter fun p => decide (p.1 ≠ d)
end L2
namespace L2
open PySem PySem.Spec PyProof.Rows
structure Mod (K : W.Frag) (mg : Str -> Option Value) (base : Heap) : Prop where
  kin : K.In base
  glob : base.Ns mainGlobals mg
  blt : ∃ mb, base.Ns builtinsNs mb /\ ∀ x : Str, x ≠ "__name__" -> mb x = bootBuiltins x
  nolimit : base.NoLimit
structure Cx where
  prog : Program
  w : World
  K : W.Frag
  mg : Str -> Option Value
  base : Heap
  A : Around
  N : List Str
  s₀ : Shared
  H₀ : Hp
  env : Env
  outer : List Env
  stack : List Env
  ex : List Addr
  fn : Str -> Bool
  calm : Bool
  pn : List (Addr × Obj)
  xe : Value -> Shared -> Prop
def iL (l : List Env) : List Addr := l.filterMap (·.frame)
abbrev Cx.fs (X : Cx) : List Addr := iL X.outer
def jr (sc : Scope) (x : Str) : Prop := sc.names.lookup x = some .local \/ sc.names.lookup x = some .cell \/ sc.names.lookup x = some .free
def se (sc : Scope) (x : Str) : Prop := sc.names.lookup x = some .local \/ sc.names.lookup x = some .cell
def NT (env : Env) (h : Heap) (m : Str -> Option Value) (x : Str) (u : Value) : Prop :=
  (env.kindOf x = some .local /\ m x = some u) \/ ((env.kindOf x = some .cell \/ env.kindOf x = some .free) /\ ∃ c, env.cells.lookup x = some c /\ h.IsCell c (some u))
structure Cx.Ok (X : Cx) : Prop where
  mod : Mod X.K X.mg X.base
  kind : X.env.scope.kind = .function
  glob : X.env.globals = mainGlobals
  blt : X.env.builtins = builtinsNs
  above : X.s₀.heap.objs.size <= X.env.locals
  inj : ∀ x y c, X.env.cells.lookup x = some c -> X.env.cells.lookup y = some c -> x = y
  has : ∀ x, (X.env.kindOf x = some .cell \/ X.env.kindOf x = some .free) -> ∃ c, X.env.cells.lookup x = some c
  cab : ∀ x c, X.fn x = true -> X.env.cells.lookup x = some c -> X.s₀.heap.objs.size <= c
  hd : X.calm = true -> X.A.handled = none
  frames : X.A.frames = some X.stack
  stk : X.stack = X.outer \/ (X.stack = X.env :: X.outer /\ X.env.frame = some X.env.locals)
  exf : ∀ b ∈ X.ex, b ≠ X.env.locals /\ ∀ x c, X.env.cells.lookup x = some c -> c ≠ b
  bs : ∀ b o, X.base.get? b = some o -> X.s₀.heap.get? b = some o /\ X.H₀ b = none
  bsz : X.base.objs.size <= X.s₀.heap.objs.size
  noex : ∀ b o, X.base.get? b = some o -> b ∉ X.ex
  exfs : ∀ b ∈ X.ex, b ∉ X.fs
  funs : X.s₀.heap.FunFrames X.base X.outer
  frf : ∀ b ∈ X.fs, X.H₀ b = none
structure ak (X : Cx) (pins : List (Addr × Obj)) (σ : List (Option V)) (H : Hp) (s : Shared) : Prop where
  ok : X.Ok
  os : s.os = X.s₀.os
  bare : AllBare s.gens
  base : Un X.fs X.ex X.H₀ H X.s₀.heap s.heap
  loc : ∃ m, s.heap.Ns X.env.locals m /\ ∀ (i : Nat) (x : Str) (v : V), X.N[i]? = some x -> σ[i]? = some (some v) -> jr X.env.scope x -> ∃ u, aQ v u /\ NT X.env s.heap m x u
  cell : ∀ x c, X.env.cells.lookup x = some c -> ∃ v, s.heap.IsCell c v
  free : H X.env.locals = none
  freeC : ∀ x c, X.env.cells.lookup x = some c -> H c = none
  pin : ∀ p ∈ X.pn ++ pins, s.heap.get? p.1 = some p.2 /\ H p.1 = none /\ p.1 ≠ X.env.locals /\ p.1 ∉ X.fs /\ ∀ v, p.2.data ≠ .cell v
  hok : dn X.prog X.w H s.heap
  len : σ.length = X.N.length
section
variable {X : Cx} {pins : List (Addr × Obj)} {σ : List (Option V)} {H H' : Hp} {s : Shared} {h' : Heap}
theorem Cx.Ok.nofr (ok : X.Ok) {b : Addr} {o : Obj} (e : X.base.get? b = some o) : b ∉ X.fs := fun hb => by
  have := (ok.funs.mem hb).1
  rw [e] at this; cases this
theorem ak.bs (I : ak X pins σ H s) : ∀ b o, X.base.get? b = some o -> s.heap.get? b = some o /\ H b = none := fun b o e =>
  ⟨I.base.keep b o (I.ok.bs b o e).1 (I.ok.bs b o e).2 (I.ok.nofr e) (I.ok.noex b o e), I.base.free b o (I.ok.bs b o e).1 (I.ok.bs b o e).2 (I.ok.noex b o e)⟩
theorem ak.bk (I : ak X pins σ H s) : ∀ b o, X.base.get? b = some o -> s.heap.get? b = some o := fun b o e => (I.bs b o e).1
theorem ak.mod (I : ak X pins σ H s) : Mod X.K X.mg X.base := I.ok.mod
theorem ak.kIn (I : ak X pins σ H s) : X.K.In s.heap := I.ok.mod.kin.keeps I.bk
theorem ak.nolimit (I : ak X pins σ H s) : s.heap.NoLimit := I.ok.mod.nolimit.keeps I.bk
theorem ak.lt (I : ak X pins σ H s) : X.env.locals < s.heap.objs.size := let ⟨_, hn, _⟩ := I.loc; hn.lt
theorem ak.sz (I : ak X pins σ H s) : X.s₀.heap.objs.size <= s.heap.objs.size := Nat.le_trans I.ok.above (Nat.le_of_lt I.lt)
theorem ak.nofs (I : ak X pins σ H s) {a : Addr} (h : s.heap.objs.size <= a) : a ∉ X.fs := fun hb => by
  obtain ⟨_, o, ho, _⟩ := I.ok.funs.mem hb
  exact absurd (Nat.lt_of_lt_of_le (Heap.lt_size ho) (Nat.le_trans I.sz h)) (Nat.lt_irrefl _)
theorem ak.cne (I : ak X pins σ H s) : ∀ x c, X.env.cells.lookup x = some c -> c ≠ X.env.locals := fun x c e z => by
  obtain ⟨v, o, ho, hd⟩ := I.cell x c e
  obtain ⟨m, ⟨o', es, ep, ho', hd', _⟩, _⟩ := I.loc
  rw [z, ho'] at ho; cases ho; rw [hd'] at hd; cases hd
theorem ak.funs (I : ak X pins σ H s) : s.heap.FunFrames X.base X.outer := by
  have all : ∀ (l : List Env), (∀ b ∈ iL l, b ∈ X.fs) -> X.s₀.heap.FunFrames X.base l -> s.heap.FunFrames X.base l := by
    intro l
    induction l with
    | nil => intro _ _; trivial
    | cons env r ih =>
      intro hs hl
      obtain ⟨hk, ⟨L, o, hf, hn, ho, hd⟩, hr⟩ := hl
      have hL : L ∈ X.fs := hs L (by unfold iL; rw [List.filterMap_cons, hf]; exact List.mem_cons_self)
      obtain ⟨sl, e⟩ := I.base.slot L o ho (I.ok.frf L hL) hL fun z => I.ok.exfs L z hL
      exact ⟨hk, ⟨L, _, hf, hn, e, hd⟩, ih (fun b hb => hs b (by unfold iL; rw [List.filterMap_cons, hf]; exact List.mem_cons_of_mem _ hb)) hr⟩
  exact all X.outer (fun _ hb => hb) I.ok.funs
theorem ak.stack (I : ak X pins σ H s) : s.heap.FunFrames X.base X.stack := by
  rcases I.ok.stk with e | ⟨e, hf⟩
  . rw [e]; exact I.funs
  . rw [e]
    obtain ⟨m, hn, _⟩ := I.loc
    refine .cons (by rw [I.ok.kind]; decide) hf hn ?_ I.funs
    exact Heap.get?_none_of_le (Nat.le_trans I.ok.bsz I.ok.above)
theorem ak.stkSub (I : ak X pins σ H s) : ∀ b ∈ iL X.stack, b ∈ X.env.locals :: X.fs := fun b hb => by
  rcases I.ok.stk with e | ⟨e, hf⟩
  . rw [e] at hb; exact List.mem_cons_of_mem _ hb
  . rw [e] at hb
    unfold iL at hb
    rw [List.filterMap_cons, hf] at hb
    exact hb
theorem ak.stkFree (I : ak X pins σ H s) : ∀ b ∈ iL X.stack, H b = none := fun b hb => by
  rcases List.mem_cons.mp (I.stkSub b hb) with e | hb
  . rw [e]; exact I.free
  . obtain ⟨_, o, ho, _⟩ := I.ok.funs.mem hb
    exact I.base.free b o ho (I.ok.frf b hb) fun z => I.ok.exfs b z hb
theorem ak.step {g' : Array GenState} {t' : Nat} {d' : Drawn} {ch : List Addr} (I : ak X pins σ H s)
    (hch : ∀ b ∈ ch, (b ∈ X.ex \/ X.s₀.heap.objs.size <= b) /\ b ≠ X.env.locals /\ (∀ x c, X.env.cells.lookup x = some c -> c ≠ b) /\ ∀ p ∈ X.pn ++ pins, p.1 ≠ b)
    (keep : ∀ b o, b ≠ X.env.locals -> b ∉ X.fs -> b ∉ ch -> s.heap.get? b = some o -> H b = none -> h'.get? b = some o)
    (slot : ∀ b o, b ≠ X.env.locals -> b ∈ X.fs -> b ∉ ch -> s.heap.get? b = some o -> H b = none -> ∃ sl, h'.get? b = some { o with slots := sl }) (free : ∀ b o, b ∉ ch -> s.heap.get? b = some o -> H b = none -> H' b = none)
    (there : ∀ b o, b ∉ ch -> s.heap.get? b = some o -> ∃ o', h'.get? b = some o')
    (tups : ∀ b xs, H b = some (.tup xs) -> H' b = some (.tup xs)) (frzs : ∀ b o u, H b = some (.frz o u) -> H' b = some (.frz o u)) (tbls : ∀ b ps, H b = some (.tbl ps) -> ∃ more, H' b = some (.tbl (ps ++ more)))
    (ns : ∀ m, s.heap.Ns X.env.locals m -> h'.Ns X.env.locals m) (hok : dn X.prog X.w H' h') (hg : AllBare g') :
    ak X pins σ H' { s with heap := h', gens := g', drawn := d', toks := t' } := by
  have neL : ∀ b o, X.s₀.heap.get? b = some o -> b ≠ X.env.locals := fun b o e => Nat.ne_of_lt (Nat.lt_of_lt_of_le (Heap.lt_size e) I.ok.above)
  have neC : ∀ b o, X.s₀.heap.get? b = some o -> b ∉ X.ex -> b ∉ ch := fun b o e hx hb => by
    rcases (hch b hb).1 with z | z
    . exact hx z
    . exact absurd (Nat.lt_of_lt_of_le (Heap.lt_size e) z) (Nat.lt_irrefl _)
  have cellK : ∀ x c, X.env.cells.lookup x = some c -> ∀ v, s.heap.IsCell c v -> h'.IsCell c v := fun x c e v ⟨o, ho, hd⟩ => by
    have nch : c ∉ ch := fun z => (hch c z).2.2.1 x c e rfl
    by_cases hc : c ∈ X.fs
    . obtain ⟨sl, q⟩ := slot c o (I.cne x c e) hc nch ho (I.freeC x c e)
      exact ⟨_, q, hd⟩
    . exact ⟨o, keep c o (I.cne x c e) hc nch ho (I.freeC x c e), hd⟩
  refine ⟨I.ok, I.os, hg, ⟨fun b o e n hb hx => ?_, fun b o e n hb hx => ?_, fun b o e n hx => ?_, fun b o e hx => ?_, fun b xs e => tups b xs (I.base.tups b xs e), fun b o xs e => frzs b o xs (I.base.frzs b o xs e), fun b ps e => ?_⟩, ?_, fun x c e => ?_, ?_, fun x c e => ?_, fun p hp => ?_, hok, I.len⟩
  . exact keep b o (neL b o e) hb (neC b o e hx) (I.base.keep b o e n hb hx) (I.base.free b o e n hx)
  . obtain ⟨sl, e1⟩ := I.base.slot b o e n hb hx
    obtain ⟨sl', e2⟩ := slot b _ (neL b o e) hb (neC b o e hx) e1 (I.base.free b o e n hx)
    exact ⟨sl', e2⟩
  . obtain ⟨o', e1⟩ := I.base.there b o e hx
    exact free b o' (neC b o e hx) e1 (I.base.free b o e n hx)
  . obtain ⟨o', e1⟩ := I.base.there b o e hx
    exact there b o' (neC b o e hx) e1
  . obtain ⟨m1, e1⟩ := I.base.tbls b ps e
    obtain ⟨m2, e2⟩ := tbls b _ e1
    exact ⟨m1 ++ m2, by rw [e2, Array.append_assoc]⟩
  . obtain ⟨m, hn, hl⟩ := I.loc
    refine ⟨m, ns m hn, fun i x v e1 e2 e3 => ?_⟩
    obtain ⟨u, r, l⟩ := hl i x v e1 e2 e3
    refine ⟨u, r, ?_⟩
    rcases l with l | ⟨k, c, e, z⟩
    . exact .inl l
    . exact .inr ⟨k, c, e, cellK x c e _ z⟩
  . obtain ⟨v, z⟩ := I.cell x c e
    exact ⟨v, cellK x c e v z⟩
  . obtain ⟨m, ⟨o, _, _, ho, _⟩, _⟩ := I.loc
    exact free _ o (fun z => (hch _ z).2.1 rfl) ho I.free
  . obtain ⟨v, o, ho, hd⟩ := I.cell x c e
    exact free c o (fun z => (hch c z).2.2.1 x c e rfl) ho (I.freeC x c e)
  . obtain ⟨e, n, ne, nf, d⟩ := I.pin p hp
    have nch : p.1 ∉ ch := fun z => (hch p.1 z).2.2.2 p hp rfl
    exact ⟨keep p.1 p.2 ne nf nch e n, free p.1 p.2 nch e n, ne, nf, d⟩
theorem ak.un {t' : Nat} (I : ak X pins σ H s) (u : Un X.fs [] H H' s.heap h') (hok : dn X.prog X.w H' h') : ak X pins σ H' { s with heap := h', toks := t' } := by
  obtain ⟨m, ⟨o, es, ep, ho, r⟩, _⟩ := id I.loc
  obtain ⟨sl, hL⟩ := u.any ho I.free (by simp)
  exact I.step (g' := s.gens) (d' := s.drawn) (ch := []) (fun _ z => nomatch z) (fun b o _ hb _ e n => u.keep b o e n hb (by simp)) (fun b o _ hb _ e n => u.slot b o e n hb (by simp)) (fun b o _ e n => u.free b o e n (by simp)) (fun b o _ e => u.there b o e (by simp)) u.tups u.frzs u.tbls (fun m' hm => by
    obtain ⟨o', es', ep', ho', r'⟩ := hm
    rw [ho] at ho'; cases ho'
    exact ⟨_, es', ep', hL, r'⟩) hok I.bare
theorem ak.call {g' : Array GenState} {t' : Nat} {d' : Drawn} {ch : List Addr} (I : ak X pins σ H s) (u : Un (iL X.stack) ch H H' s.heap h') (hok : dn X.prog X.w H' h') (hg : AllBare g')
    (hch : ∀ b ∈ ch, (b ∈ X.ex \/ X.s₀.heap.objs.size <= b) /\ b ≠ X.env.locals /\ (∀ x c, X.env.cells.lookup x = some c -> c ≠ b) /\ ∀ p ∈ X.pn ++ pins, p.1 ≠ b) :
    ak X pins σ H' { s with heap := h', gens := g', drawn := d', toks := t' } := by
  obtain ⟨m, ⟨o, es, ep, ho, r⟩, _⟩ := id I.loc
  obtain ⟨sl, hL⟩ := u.any ho I.free fun z => (hch _ z).2.1 rfl
  exact I.step (ch := ch) hch (fun b o hL hb hc e n => u.keep b o e n (fun z => (List.mem_cons.mp (I.stkSub b z)).elim hL hb) hc) (fun b o _ _ hc e n => u.any e n hc) (fun b o hc e n => u.free b o e n hc) (fun b o hc e => u.there b o e hc) u.tups u.frzs u.tbls (fun m' hm => by
    obtain ⟨o', es', ep', ho', r'⟩ := hm
    rw [ho] at ho'; cases ho'
    exact ⟨_, es', ep', hL, r'⟩) hok hg
theorem ak.turned {t' : Nat} {it : Addr} (I : ak X pins σ H s) (k : ∀ b o, b ≠ it -> s.heap.get? b = some o -> h'.get? b = some o) (hn : H it = none) (hL : it ≠ X.env.locals)
    (h1 : it ∈ X.ex \/ X.s₀.heap.objs.size <= it) (h2 : ∀ x c, X.env.cells.lookup x = some c -> c ≠ it) (h3 : ∀ p ∈ X.pn ++ pins, p.1 ≠ it) : ak X pins σ H { s with heap := h', toks := t' } := by
  have nit : ∀ b u, H b = some u -> b ≠ it := fun b u e z => by rw [z, hn] at e; cases e
  refine I.step (g' := s.gens) (d' := s.drawn) (ch := [it]) (fun b hb => ?_) (fun b o _ _ hc e _ => k b o (fun z => hc (by simp [z])) e) (fun b o _ _ hc e _ => ⟨o.slots, k b o (fun z => hc (by simp [z])) e⟩) (fun _ _ _ _ n => n)
    (fun b o hc e => ⟨o, k b o (fun z => hc (by simp [z])) e⟩) (fun _ _ e => e) (fun _ _ _ e => e) (fun b ps e => ⟨#[], by rw [e]; simp⟩) (fun m hm => ?_) (fun b u e => ?_) I.bare
  . have e : b = it := by simpa using hb
    subst e
    exact ⟨h1, hL, h2, h3⟩
  . obtain ⟨o, es, ep, ho, r⟩ := hm
    exact ⟨o, es, ep, k _ o (Ne.symm hL) ho, r⟩
  . refine (I.hok b u e).stay (fun c v hc q => k c v ?_ q) (fun _ q => q) fun _ _ q => q
    rcases hc with z | z
    . rw [z]; exact nit b u e
    . exact nit c _ z
theorem ak.tok (I : ak X pins σ H s) (t : Nat) : ak X pins σ H { s with toks := t } := I.un (h' := s.heap) (t' := t) Un.refl I.hok
theorem ak.kept {t' : Nat} (I : ak X pins σ H s) (k : ∀ b u, s.heap.get? b = some u -> h'.get? b = some u) : ak X pins σ H { s with heap := h', toks := t' } := I.un (Un.kept k) (I.hok.kept k)
theorem ak.laid {a : Addr} {o : HO} {t' : Nat} (I : ak X pins σ H s) (k : ∀ b u, s.heap.get? b = some u -> h'.get? b = some u) (hp : s.heap.objs.size <= a) (new : bV X.prog X.w (aV H a o) h' a o) :
    ak X pins σ (aV H a o) { s with heap := h', toks := t' } := I.un (Un.laid k hp (I.hok.fresh hp)) (I.hok.laid k hp new)
theorem ak.write {x e : Addr} {o : HO} {t' : Nat} (I : ak X pins σ H s) (mu : Ae (H x)) (he : e = x \/ H e = some (.own x)) (k : ∀ b u, b ≠ e -> s.heap.get? b = some u -> h'.get? b = some u) (heo : ∃ u, h'.get? e = some u)
    (new : bV X.prog X.w (aV H x o) h' x o) : ak X pins σ (aV H x o) { s with heap := h', toks := t' } := I.un (Un.write mu he k heo) (I.hok.write mu he k heo new)
theorem ak.pins_of {pins' : List (Addr × Obj)} (I : ak X pins σ H s) (h : ∀ p ∈ pins', s.heap.get? p.1 = some p.2 /\ H p.1 = none /\ p.1 ≠ X.env.locals /\ p.1 ∉ X.fs /\ ∀ v, p.2.data ≠ .cell v) : ak X pins' σ H s :=
  ⟨I.ok, I.os, I.bare, I.base, I.loc, I.cell, I.free, I.freeC, fun p hp => (List.mem_append.mp hp).elim (fun z => I.pin p (List.mem_append_left _ z)) (h p), I.hok, I.len⟩
theorem i0 {N : List Str} (hN : N.Nodup) {i j : Nat} {x : Str} (a : N[i]? = some x) (b : N[j]? = some x) : i = j := by
  obtain ⟨h1, e1⟩ := List.getElem?_eq_some_iff.mp a
  obtain ⟨h2, e2⟩ := List.getElem?_eq_some_iff.mp b
  exact (List.getElem_inj hN).mp (e1.trans e2.symm)
theorem vw {M : Model} {A : Around} {E : Value -> Shared -> Prop} {i : Nat} {x : Str} {v : V} {u : Value} {Q : Unit -> Shared -> Prop} (I : ak X pins σ H s) (hN : X.N.Nodup) (hi : X.N[i]? = some x) (hx : se X.env.scope x) (r : aQ v u)
    (h : ∀ s', ak X pins (σ.set i (some v)) H s' -> (∃ a, Heap.SameBut a s.heap s'.heap /\ (a = X.env.locals \/ X.env.cells.lookup x = some a)) -> Q () s') (hf : X.fn x = true \/ X.env.scope.names.lookup x = some .local := by first | exact .inl rfl | exact .inr rfl | assumption) : wpAny M A (storeName X.env x u) Q E s := by
  obtain ⟨m, hn, hl⟩ := id I.loc
  have hcls : (X.env.scope.kind == .class || (X.env.scope.kind == .module && X.env.locals != X.env.globals)) = false := by rw [I.ok.kind]; rfl
  have hiσ : i < σ.length := by rw [I.len]; exact (List.getElem?_eq_some_iff.mp hi).1
  have cne := I.cne
  have tracked : ∀ {a : Addr} {h' : Heap}, (∃ o, s.heap.get? a = some o /\ H a = none) -> Heap.SameBut a s.heap h' -> dn X.prog X.w H h' := fun {a h'} ha hs b ob e => by
    obtain ⟨_, _, hfree⟩ := ha
    refine (I.hok b ob e).stay (fun c w' hc q => (hs.2 c ?_).trans q) (fun _ q => q) fun _ _ q => q
    rintro rfl
    rcases hc with rfl | hc
    . rw [hfree] at e; cases e
    . rw [hfree] at hc; cases hc
  rcases hx with hk | hk
  . refine wpAny_storeName_local hk hn (fun h' hn' hs => ?_) hcls
    obtain ⟨oL, _, _, hoL, _⟩ := id hn
    refine h _ ⟨I.ok, I.os, I.bare, ⟨fun b o e n hb hx => ?_, fun b o e n hb hx => ?_, I.base.free, fun b o e hx => ?_, I.base.tups, I.base.frzs, I.base.tbls⟩, ⟨_, hn', fun j y v' e1 e2 e3 => ?_⟩, fun y c e => ?_, I.free, I.freeC, fun p hp => ?_, tracked ⟨oL, hoL, I.free⟩ hs, by simpa using I.len⟩ ⟨_, hs, .inl rfl⟩
    . exact (hs.2 b (Nat.ne_of_lt (Nat.lt_of_lt_of_le (Heap.lt_size e) I.ok.above))).trans (I.base.keep b o e n hb hx)
    . obtain ⟨sl, e1⟩ := I.base.slot b o e n hb hx
      exact ⟨sl, (hs.2 b (Nat.ne_of_lt (Nat.lt_of_lt_of_le (Heap.lt_size e) I.ok.above))).trans e1⟩
    . obtain ⟨o', e1⟩ := I.base.there b o e hx
      exact ⟨o', (hs.2 b (Nat.ne_of_lt (Nat.lt_of_lt_of_le (Heap.lt_size e) I.ok.above))).trans e1⟩
    . by_cases hj : j = i
      . subst hj
        rw [hi] at e1; cases e1
        rw [List.getElem?_set_self hiσ] at e2
        cases e2
        exact ⟨u, r, .inl ⟨hk, by simp⟩⟩
      . rw [List.getElem?_set_ne (Ne.symm hj)] at e2
        obtain ⟨u', r', q⟩ := hl j y v' e1 e2 e3
        refine ⟨u', r', ?_⟩
        rcases q with ⟨k, e⟩ | ⟨k, c, e, z⟩
        . refine .inl ⟨k, ?_⟩
          have : y ≠ x := fun e => hj (i0 hN e1 (e ▸ hi))
          simp [this, e]
        . exact .inr ⟨k, c, e, z.sameBut hs (cne y c e)⟩
    . obtain ⟨w', z⟩ := I.cell y c e
      exact ⟨w', z.sameBut hs (cne y c e)⟩
    . obtain ⟨e, n, ne, nf, d⟩ := I.pin p hp
      exact ⟨(hs.2 p.1 ne).trans e, n, ne, nf, d⟩
  . have hfn : X.fn x = true := by
      rcases hf with z | z
      . exact z
      . rw [z] at hk; cases hk
    obtain ⟨c, hc⟩ := I.ok.has x (.inl hk)
    obtain ⟨w', z⟩ := I.cell x c hc
    refine wpAny_storeName_cell I.ok.kind hk hc z (fun h' hc' hs => ?_)
    obtain ⟨oc, hoc, hocd⟩ := id z
    refine h { s with heap := h' } ⟨I.ok, I.os, I.bare, ⟨fun b o e n hb hx => ?_, fun b o e n hb hx => ?_, I.base.free, fun b o e hx => ?_, I.base.tups, I.base.frzs, I.base.tbls⟩, ⟨m, hn.sameBut hs (Ne.symm (cne x c hc)), fun j y v' e1 e2 e3 => ?_⟩, fun y c' e => ?_, I.free, I.freeC, fun p hp => ?_, tracked ⟨oc, hoc, I.freeC x c hc⟩ hs, by simpa using I.len⟩ ⟨c, hs, .inr hc⟩
    . exact (hs.2 b (Nat.ne_of_lt (Nat.lt_of_lt_of_le (Heap.lt_size e) (I.ok.cab x c hfn hc)))).trans (I.base.keep b o e n hb hx)
    . obtain ⟨sl, e1⟩ := I.base.slot b o e n hb hx
      exact ⟨sl, (hs.2 b (Nat.ne_of_lt (Nat.lt_of_lt_of_le (Heap.lt_size e) (I.ok.cab x c hfn hc)))).trans e1⟩
    . obtain ⟨o', e1⟩ := I.base.there b o e hx
      exact ⟨o', (hs.2 b (Nat.ne_of_lt (Nat.lt_of_lt_of_le (Heap.lt_size e) (I.ok.cab x c hfn hc)))).trans e1⟩
    . by_cases hj : j = i
      . subst hj
        rw [hi] at e1; cases e1
        rw [List.getElem?_set_self hiσ] at e2
        cases e2
        exact ⟨u, r, .inr ⟨.inl hk, c, hc, hc'⟩⟩
      . rw [List.getElem?_set_ne (Ne.symm hj)] at e2
        obtain ⟨u', r', q⟩ := hl j y v' e1 e2 e3
        refine ⟨u', r', ?_⟩
        rcases q with q | ⟨k, c', e, z'⟩
        . exact .inl q
        . refine .inr ⟨k, c', e, z'.sameBut hs ?_⟩
          rintro rfl
          exact hj (i0 hN e1 (I.ok.inj _ _ _ e hc ▸ hi))
    . by_cases hcc : c' = c
      . subst hcc; exact ⟨_, hc'⟩
      . obtain ⟨w2, z2⟩ := I.cell y c' e
        exact ⟨w2, z2.sameBut hs hcc⟩
    . obtain ⟨e, n, ne, nf, d⟩ := I.pin p hp
      refine ⟨(hs.2 p.1 ?_).trans e, n, ne, nf, d⟩
      intro q
      rw [q, hoc] at e
      have q' : oc = p.2 := Option.some.inj e
      exact d w' (by rw [<- q']; exact hocd)
theorem gx {M : Model} {A : Around} {E : Value -> Shared -> Prop} {i : Nat} {x : Str} {v : V} {u : Value} {Q : Unit -> Shared -> Prop} (I : ak X pins σ H s) (hN : X.N.Nodup) (hi : X.N[i]? = some x) (hx : se X.env.scope x) (r : aQ v u)
    (h : ∀ s', ak X pins (σ.set i (some v)) H s' -> Q () s') (hf : X.fn x = true \/ X.env.scope.names.lookup x = some .local := by first | exact .inl rfl | exact .inr rfl | assumption) : wpAny M A (storeName X.env x u) Q E s :=
  vw I hN hi hx r (fun s' I' _ => h s' I') hf
theorem ak.call' {s' : Shared} {ch : List Addr} (I : ak X pins σ H s) (ho : s'.os = s.os) (u : Un (iL X.stack) ch H H' s.heap s'.heap) (hok : dn X.prog X.w H' s'.heap) (hg : AllBare s'.gens)
    (hch : ∀ b ∈ ch, (b ∈ X.ex \/ X.s₀.heap.objs.size <= b) /\ b ≠ X.env.locals /\ (∀ x c, X.env.cells.lookup x = some c -> c ≠ b) /\ ∀ p ∈ X.pn ++ pins, p.1 ≠ b) : ak X pins σ H' s' := by
  obtain ⟨h', g', d', t', o'⟩ := s'
  have e : o' = s.os := ho
  subst e
  exact I.call (g' := g') (t' := t') (d' := d') u hok hg hch
end
abbrev XK := Value -> Option Addr -> Hp -> Prop
abbrev St := List (Option V)
abbrev VK := V -> Hp -> Prop
abbrev TE := St -> Hp -> VK -> Prop
abbrev TT := St -> Hp -> (Bool -> Hp -> Prop) -> Prop
abbrev TA := St -> Hp -> (List V -> Hp -> Prop) -> Prop
structure kD where
  nx : St -> Hp -> Prop
  rt : VK
  bk : St -> Hp -> Prop := fun _ _ => False
  ct : St -> Hp -> Prop := fun _ _ => False
abbrev TS := kD -> St -> Hp -> Prop
def EP (X : Cx) (pins : List (Addr × Obj)) (σ : St) (Q : VK) (u : Value) (s' : Shared) : Prop := ∃ v H', ak X pins σ H' s' /\ aQ v u /\ Q v H'
def TP (X : Cx) (pins : List (Addr × Obj)) (σ : St) (Q : Bool -> Hp -> Prop) (b : Bool) (s' : Shared) : Prop := ∃ H', ak X pins σ H' s' /\ Q b H'
def AP (X : Cx) (pins : List (Addr × Obj)) (σ : St) (Q : List V -> Hp -> Prop) (us : List Value) (s' : Shared) : Prop := ∃ vs H', ak X pins σ H' s' /\ aJ vs us /\ Q vs H'
def SP (X : Cx) (pins : List (Addr × Obj)) (D : kD) (f : Flow) (s' : Shared) : Prop :=
  match f with
  | .next => ∃ σ' H', ak X pins σ' H' s' /\ D.nx σ' H'
  | .brk => ∃ σ' H', ak X pins σ' H' s' /\ D.bk σ' H'
  | .cont => ∃ σ' H', ak X pins σ' H' s' /\ D.ct σ' H'
  | .ret u => ∃ v σ' H', ak X pins σ' H' s' /\ aQ v u /\ D.rt v H'
def PE (X : Cx) (e : Expr) (t : TE) : Prop :=
  ∀ (pins : List (Addr × Obj)) (s : Shared) (σ : St) (H : Hp) (Q : VK), ak X pins σ H s -> t σ H Q -> wpAny (model X.prog X.w) X.A (eval e X.env) (EP X pins σ Q) X.xe s
def PT (X : Cx) (e : Expr) (t : TT) : Prop :=
  ∀ (pins : List (Addr × Obj)) (s : Shared) (σ : St) (H : Hp) (Q : Bool -> Hp -> Prop), ak X pins σ H s -> t σ H Q -> wpAny (model X.prog X.w) X.A (isTrue e X.env (eval e X.env)) (TP X pins σ Q) X.xe s
def PW (X : Cx) (e : Expr) (t : TT) : Prop :=
  ∀ (whole : Sem Value) (pins : List (Addr × Obj)) (s : Shared) (σ : St) (H : Hp) (Q : Bool -> Hp -> Prop), ak X pins σ H s -> t σ H Q -> wpAny (model X.prog X.w) X.A (isTrue e X.env whole) (TP X pins σ Q) X.xe s
theorem PW.pt {X : Cx} {e : Expr} {t : TT} (h : PW X e t) : PT X e t := h _
def PA (X : Cx) (es : List Expr) (t : TA) : Prop :=
  ∀ (pos : Pos) (pins : List (Addr × Obj)) (s : Shared) (σ : St) (H : Hp) (Q : List V -> Hp -> Prop), ak X pins σ H s -> t σ H Q -> wpAny (model X.prog X.w) X.A (spliced (backTo pos (starEach es X.env))) (AP X pins σ Q) X.xe s
def PS (X : Cx) (st : Stmt) (t : TS) : Prop :=
  ∀ (pins : List (Addr × Obj)) (s : Shared) (σ : St) (H : Hp) (D : kD), ak X pins σ H s -> t D σ H -> wpAny (model X.prog X.w) X.A (exec st X.env) (SP X pins D) X.xe s
def fY (X : Cx) (st : List Stmt) (t : TS) : Prop :=
  ∀ (pins : List (Addr × Obj)) (s : Shared) (σ : St) (H : Hp) (D : kD), ak X pins σ H s -> t D σ H -> wpAny (model X.prog X.w) X.A (execs st X.env) (SP X pins D) X.xe s
theorem aN {α : Type} {t : Sem α} {Q Q' : α -> Shared -> Prop} {M : Model} {A : Around} {E : Value -> Shared -> Prop} {s : Shared} (h : wpAny M A t Q E s) (hQ : ∀ a s, Q a s -> Q' a s) : wpAny M A t Q' E s := wpAny_mono h hQ fun _ _ x => x
end L2
namespace L2
open PySem PySem.Spec PyProof.Rows
section
variable {X : Cx}
theorem Hw {a b : Expr} {ta tb : TE} (ha : PE X a ta) (hb : PE X b tb) {pins : List (Addr × Obj)} {s : Shared} {σ : St} {H : Hp} {R : V -> V -> Hp -> Prop} (I : ak X pins σ H s) (h : ta σ H fun x H1 => tb σ H1 fun y H2 => R x y H2)
    {α : Type} {Q : α -> Shared -> Prop} {f : Value -> Value -> Sem α}
    (hf : ∀ v u s2 x y H2, ak X pins σ H2 s2 -> aQ x v -> aQ y u -> R x y H2 -> wpAny (model X.prog X.w) X.A (f v u) Q X.xe s2) :
    wpAny (model X.prog X.w) X.A (eval a X.env) (fun v s₁ => wpAny (model X.prog X.w) X.A (eval b X.env) (fun u s₂ => wpAny (model X.prog X.w) X.A (f v u) Q X.xe s₂) X.xe s₁) X.xe s := by
  refine aN (ha pins s σ H _ I h) fun v s1 ⟨x, H1, I1, r1, q1⟩ => ?_
  refine aN (hb pins s1 σ H1 _ I1 q1) fun u s2 ⟨y, H2, I2, r2, q2⟩ => ?_
  exact hf v u s2 x y H2 I2 r1 r2 q2
def uf (i : Nat) : TE := fun σ H Q => ∃ v, σ[i]? = some (some v) /\ Q v H
def tC (v : V) : TE := fun _ H Q => Q v H
theorem mM {i : Nat} {x : Str} {pos : Pos} (hN : X.N[i]? = some x) (hv : jr X.env.scope x) (hd : (x == ("__debug__" : Str)) = false := by decide) (hcd : (x == ("__classdict__" : Str)) = false := by decide) : PE X (.Name x pos) (uf i) := by
  intro pins s σ H Q I h
  obtain ⟨v, e, h⟩ := h
  obtain ⟨m, hn, hl⟩ := I.loc
  obtain ⟨u, r, l⟩ := hl i x v hN e hv
  have fin : EP X pins σ Q u s := ⟨v, H, I, r, h⟩
  rcases l with ⟨hk, hm⟩ | ⟨hk, c, hc, hcell⟩
  . exact wpAny_Name (wpAny_loadName_local I.ok.kind hk hn hm fin) hd
  . rcases hk with hk | hk
    . exact wpAny_Name (wpAny_loadName_cell I.ok.kind hk hc hcell fin) hd
    . exact wpAny_Name (wpAny_loadName_free I.ok.kind hk hc hcell fin hcd) hd
theorem Dq {i j pos} : PE X (.Constant (.int i) j pos) (tC (.int i)) := fun _ _ _ H _ I h => wpAny_Constant_int ⟨.int i, H, I.tok _, ⟨_, rfl⟩, h⟩
theorem GH {b j pos} : PE X (.Constant (.bool b) j pos) (tC (.bl b)) := fun _ _ _ H _ I h => Constant_bool ⟨.bl b, H, I, rfl, h⟩
theorem Do {j pos} : PE X (.Constant .none j pos) (tC .non) := fun _ _ _ H _ I h => Constant_none ⟨.non, H, I, rfl, h⟩
theorem Dl {x j pos} : PE X (.Constant (.str x) j pos) (tC (.str x)) := fun _ _ _ H _ I h => Calls.Constant_str ⟨.str x, H, I.tok _, ⟨_, rfl⟩, h⟩
def Gl (X : Cx) (x : Str) : Prop := X.env.kindOf x = some .globalImplicit
theorem iK {E : Value -> Shared -> Prop} {pins : List (Addr × Obj)} {s : Shared} {σ : St} {H : Hp} {x : Str} {u : Value} {pos : Pos} {Q : Value -> Shared -> Prop} (I : ak X pins σ H s) (hg : Gl X x) (hm : X.mg x = some u) (h : Q u s)
    (hd : (x == ("__debug__" : Str)) = false := by decide) : wpAny (model X.prog X.w) X.A (eval (.Name x pos) X.env) Q E s :=
  Calls.Name_function_global I.ok.kind hg (Calls.loadGlobal_global (by rw [I.ok.glob]; exact I.mod.glob.keeps I.bk) hm h) hd
theorem dC {E : Value -> Shared -> Prop} {pins : List (Addr × Obj)} {s : Shared} {σ : St} {H : Hp} {x : Str} {u : Value} {pos : Pos} {Q : Value -> Shared -> Prop} (I : ak X pins σ H s) (hg : Gl X x) (hm : X.mg x = none) (hv : bootBuiltins x = some u) (h : Q u s)
    (hn : x ≠ "__name__" := by decide) (hd : (x == ("__debug__" : Str)) = false := by decide) : wpAny (model X.prog X.w) X.A (eval (.Name x pos) X.env) Q E s := by
  obtain ⟨mb, h1, h2⟩ := I.mod.blt
  exact Calls.Name_function_global I.ok.kind hg (Calls.loadGlobal_builtin (by rw [I.ok.glob]; exact I.mod.glob.keeps I.bk) hm (by rw [I.ok.blt]; exact h1.keeps I.bk) ((h2 x hn).trans hv) h) hd
theorem AV {x : Str} {v : V} {u : Value} {pos : Pos} (hg : Gl X x) (hm : X.mg x = some u) (r : aQ v u) (hd : (x == ("__debug__" : Str)) = false := by decide) : PE X (.Name x pos) (tC v) :=
  fun _ _ _ H _ I h => iK I hg hm ⟨v, H, I, r, h⟩ hd
theorem AX {x : Str} {v : V} {u : Value} {pos : Pos} (hg : Gl X x) (hm : X.mg x = none) (hv : bootBuiltins x = some u) (r : aQ v u) (hn : x ≠ "__name__" := by decide) (hd : (x == ("__debug__" : Str)) = false := by decide) : PE X (.Name x pos) (tC v) :=
  fun _ _ _ H _ I h => dC I hg hm hv ⟨v, H, I, r, h⟩ hn hd
variable {a b : Expr} {ta tb : TE} {pos : Pos}
def tB (t : TE) : TT := fun σ H Q => t σ H fun x H1 => ∃ c, x = .bl c /\ Q c H1
theorem C6 {e : Expr} {t : TE} (h : PE X e t) (he : ∀ whole, isTrue e X.env whole = (do let v <- whole; standAt e.pos; holding [v] (truthy v)) := by intro _; rfl) : PT X e (tB t) := by
  intro pins s σ H Q I hw
  refine isTrue_plain (aN (h pins s σ H _ I hw) fun v s1 ⟨x, H1, I1, r1, q1⟩ => ?_) (he _)
  obtain ⟨d, rfl, q⟩ := q1
  cases r1
  exact wpAny_truthy_bool ⟨H1, I1, q⟩
variable {tA tB' : TT} {rest : List Expr}
def HS (t u : TT) : TT := fun σ H Q => t σ H fun c H1 => if c = true then u σ H1 Q else Q false H1
def N2 (t u : TT) : TT := fun σ H Q => t σ H fun c H1 => if c = true then Q true H1 else u σ H1 Q
def HK (t : TT) : TT := fun σ H Q => t σ H fun c H1 => Q (!c) H1
theorem AH (ha : PT X a tA) : PW X (.BoolOp .And [a] pos) tA := by
  intro wh pins s σ H Q I h
  refine isTrue_and (aN (ha pins s σ H Q I h) fun c s1 e => ?_)
  cases c with
  | true => exact isTrue_and_nil e
  | false => exact e
theorem C5 (ha : PT X a tA) : PW X (.BoolOp .Or [a] pos) tA := by
  intro wh pins s σ H Q I h
  refine isTrue_or (aN (ha pins s σ H Q I h) fun c s1 e => ?_)
  cases c with
  | false => exact isTrue_or_nil e
  | true => exact e
theorem vA (ha : PT X a tA) (hb : PW X (.BoolOp .And (b :: rest) pos) tB') : PW X (.BoolOp .And (a :: b :: rest) pos) (HS tA tB') := by
  intro wh pins s σ H Q I h
  refine isTrue_and (aN (ha pins s σ H _ I h) fun c s1 ⟨H1, I1, q1⟩ => ?_)
  cases c with
  | true => exact hb wh pins s1 σ H1 Q I1 q1
  | false => exact ⟨H1, I1, q1⟩
theorem zx (ha : PT X a tA) (hb : PW X (.BoolOp .Or (b :: rest) pos) tB') : PW X (.BoolOp .Or (a :: b :: rest) pos) (N2 tA tB') := by
  intro wh pins s σ H Q I h
  refine isTrue_or (aN (ha pins s σ H _ I h) fun c s1 ⟨H1, I1, q1⟩ => ?_)
  cases c with
  | true => exact ⟨H1, I1, q1⟩
  | false => exact hb wh pins s1 σ H1 Q I1 q1
theorem C7 (ha : PT X a tA) : PT X (.UnaryOp .Not a pos) (HK tA) := by
  intro pins s σ H Q I h
  exact isTrue_not (ha pins s σ H (fun c H1 => Q (!c) H1) I h)
def Gs (ta tb : TE) : TE := fun σ H Q => ta σ H fun x H1 => ∃ c, x = .bl c /\ if c = true then tb σ H1 Q else Q (.bl false) H1
def HJ (ta tb : TE) : TE := fun σ H Q => ta σ H fun x H1 => ∃ c, x = .bl c /\ if c = true then Q (.bl true) H1 else tb σ H1 Q
def Gn (ta : TE) : TE := fun σ H Q => ta σ H fun x H1 => ∃ c, x = .bl c /\ Q (.bl (!c)) H1
theorem Dm {op} {t : TE} (h : PE X a t) : PE X (.BoolOp op [a] pos) t := fun pins s σ H Q I hw => BoolOp_one (h pins s σ H Q I hw)
theorem vI (ha : PE X a ta) (hb : PE X (.BoolOp .And (b :: rest) pos) tb) : PE X (.BoolOp .And (a :: b :: rest) pos) (Gs ta tb) := by
  intro pins s σ H Q I h
  refine BoolOp_and (aN (ha pins s σ H _ I h) fun v s1 ⟨x, H1, I1, r1, q1⟩ => ?_)
  obtain ⟨c, rfl, q1⟩ := q1
  cases r1
  refine wpAny_truthy_bool ?_
  cases c with
  | true => exact hb pins s1 σ H1 Q I1 q1
  | false => exact ⟨.bl false, H1, I1, rfl, q1⟩
theorem zE (ha : PE X a ta) (hb : PE X (.BoolOp .Or (b :: rest) pos) tb) : PE X (.BoolOp .Or (a :: b :: rest) pos) (HJ ta tb) := by
  intro pins s σ H Q I h
  refine BoolOp_or (aN (ha pins s σ H _ I h) fun v s1 ⟨x, H1, I1, r1, q1⟩ => ?_)
  obtain ⟨c, rfl, q1⟩ := q1
  cases r1
  refine wpAny_truthy_bool ?_
  cases c with
  | false => exact hb pins s1 σ H1 Q I1 q1
  | true => exact ⟨.bl true, H1, I1, rfl, q1⟩
theorem Dn (ha : PE X a ta) : PE X (.UnaryOp .Not a pos) (Gn ta) := by
  intro pins s σ H Q I h
  refine UnaryOp_ (aN (ha pins s σ H _ I h) fun v s1 ⟨x, H1, I1, r1, q1⟩ => ?_)
  obtain ⟨c, rfl, q1⟩ := q1
  cases r1
  exact not_of (wpAny_truthy_bool ⟨.bl (!c), H1, I1, rfl, q1⟩)
end
end L2
namespace L2
open PySem PySem.Spec PyProof.Rows
def cm (K : W.Frag) (H : Hp) (a : Addr) (xs : List V) : Prop :=
  Rd H a (.lst xs) \/
    ∃ (o : Obj) (its : Array Value) (n : Nat), K.lookup a = some o /\ o.cls = .type "list" /\ o.dict = none /\ o.data = .seq its n /\ its.size <= sizeLine /\ aJ xs its.toList
def ck (K : W.Frag) (H : Hp) (a : Addr) (xs : List V) : Prop :=
  Rd H a (.tup xs) \/
    ∃ (o : Obj) (its : Array Value) (n : Nat), K.lookup a = some o /\ o.cls = .type "tuple" /\ o.data = .seq its n /\ its.size <= sizeLine /\ aJ xs its.toList
def NS : Value -> Option V
  | .none => some .non
  | .bool b => some (.bl b)
  | .int i _ => some (.int i)
  | .str x _ => some (.str x)
  | .bytes b _ => some (.byt b)
  | .float b _ => some (.flt b)
  | .ref a => some (.ref a)
  | .type n => some (.ty n)
  | _ => none
theorem aQ.abs {x : V} {u : Value} (r : aQ x u) : NS u = some x := by
  cases x with
  | non => cases r; rfl
  | bl _ => cases r; rfl
  | int _ => obtain ⟨t, rfl⟩ := r; rfl
  | str _ => obtain ⟨t, rfl⟩ := r; rfl
  | byt _ => obtain ⟨t, rfl⟩ := r; rfl
  | flt _ => obtain ⟨t, rfl⟩ := r; rfl
  | ref _ => cases r; rfl
  | ty _ => cases r; rfl
theorem aQ.inj {x y : V} {u : Value} (r : aQ x u) (q : aQ y u) : x = y := Option.some.inj (r.abs.symm.trans q.abs)
theorem aJ.inj : ∀ {xs ys : List V} {us : List Value}, aJ xs us -> aJ ys us -> xs = ys
  | _, _, _, .nil, .nil => rfl
  | _, _, _, .cons r t, .cons r' t' => by rw [r.inj r', aJ.inj t t']
section
variable {X : Cx} {pins : List (Addr × Obj)} {σ : St} {H : Hp} {s : Shared} {a : Addr} {xs ys : List V}
theorem cm.of {K : W.Frag} (h : H a = some (.lst xs)) : cm K H a xs := .inl (.inl h)
theorem ck.of {K : W.Frag} (h : H a = some (.tup xs)) : ck K H a xs := .inl (.inl h)
theorem ak.list (I : ak X pins σ H s) (h : cm X.K H a xs) : ∃ its : List Value, aJ xs its /\ PlainL s.heap a its.toArray /\ xs.length <= sizeLine := by
  rcases h with h | ⟨o, its, n, hk, hc, hd, hs, hz, r⟩
  . obtain ⟨z, its, n, r, e⟩ := h.ok I.hok
    exact ⟨its, r, ⟨_, n, e, rfl, rfl, rfl⟩, z⟩
  . refine ⟨its.toList, r, ⟨o, n, I.kIn a o hk, hc, hd, by simpa using hs⟩, ?_⟩
    have e := r.length
    simp only [Array.length_toList] at e
    omega
theorem ak.tuple (I : ak X pins σ H s) (h : ck X.K H a xs) : ∃ its : List Value, aJ xs its /\ IsTup s.heap a its.toArray /\ xs.length <= sizeLine := by
  rcases h with h | ⟨o, its, n, hk, hc, hs, hz, r⟩
  . obtain ⟨z, its, r, p⟩ := h.ok I.hok
    exact ⟨its, r, p, z⟩
  . refine ⟨its.toList, r, ⟨o, I.kIn a o hk, hc, n, by simpa using hs⟩, ?_⟩
    have e := r.length
    simp only [Array.length_toList] at e
    omega
theorem ak.list_inj (I : ak X pins σ H s) (h : cm X.K H a xs) (h' : cm X.K H a ys) : xs = ys := by
  obtain ⟨its, r, ⟨o, n, e, _, _, d⟩, _⟩ := I.list h
  obtain ⟨its', r', ⟨o', n', e', _, _, d'⟩, _⟩ := I.list h'
  rw [e] at e'; cases e'
  rw [d] at d'
  injection d' with d1 _
  have : its = its' := by simpa using congrArg Array.toList d1
  subst this
  exact r.inj r'
theorem ak.tuple_inj (I : ak X pins σ H s) (h : ck X.K H a xs) (h' : ck X.K H a ys) : xs = ys := by
  obtain ⟨its, r, ⟨o, e, _, n, d⟩, _⟩ := I.tuple h
  obtain ⟨its', r', ⟨o', e', _, n', d'⟩, _⟩ := I.tuple h'
  rw [e] at e'; cases e'
  rw [d] at d'
  injection d' with d1 _
  have : its = its' := by simpa using congrArg Array.toList d1
  subst this
  exact r.inj r'
end
abbrev Cx.wish (X : Cx) (E : Value -> Shared -> Prop) : Cx := { X with xe := E }
abbrev Cx.nox (X : Cx) : Cx := X.wish fun _ _ => False
theorem Cx.Ok.wish {X : Cx} (ok : X.Ok) (E : Value -> Shared -> Prop) : (X.wish E).Ok :=
  ⟨ok.mod, ok.kind, ok.glob, ok.blt, ok.above, ok.inj, ok.has, ok.cab, ok.hd, ok.frames, ok.stk, ok.exf, ok.bs, ok.bsz, ok.noex, ok.exfs, ok.funs, ok.frf⟩
theorem Cx.Ok.unwish {X : Cx} {E : Value -> Shared -> Prop} (ok : (X.wish E).Ok) : X.Ok :=
  ⟨ok.mod, ok.kind, ok.glob, ok.blt, ok.above, ok.inj, ok.has, ok.cab, ok.hd, ok.frames, ok.stk, ok.exf, ok.bs, ok.bsz, ok.noex, ok.exfs, ok.funs, ok.frf⟩
section
variable {X : Cx} {pins : List (Addr × Obj)} {σ : St} {H : Hp} {s : Shared} {E : Value -> Shared -> Prop}
theorem ak.wish (I : ak X pins σ H s) (E : Value -> Shared -> Prop) : ak (X.wish E) pins σ H s := ⟨I.ok.wish E, I.os, I.bare, I.base, I.loc, I.cell, I.free, I.freeC, I.pin, I.hok, I.len⟩
theorem ak.unwish (I : ak (X.wish E) pins σ H s) : ak X pins σ H s := ⟨I.ok.unwish, I.os, I.bare, I.base, I.loc, I.cell, I.free, I.freeC, I.pin, I.hok, I.len⟩
theorem SP.unwish {D : kD} {f : Flow} {s' : Shared} (h : SP (X.wish E) pins D f s') : SP X pins D f s' := by
  cases f with
  | next => obtain ⟨σ', H', I, q⟩ := h; exact ⟨σ', H', I.unwish, q⟩
  | brk => obtain ⟨σ', H', I, q⟩ := h; exact ⟨σ', H', I.unwish, q⟩
  | cont => obtain ⟨σ', H', I, q⟩ := h; exact ⟨σ', H', I.unwish, q⟩
  | ret u => obtain ⟨v, σ', H', I, r, q⟩ := h; exact ⟨v, σ', H', I.unwish, r, q⟩
theorem PE.nox {e : Expr} {t : TE} (h : PE X.nox e t) : PE X e t := fun pins s σ H Q I hw =>
  wpAny_mono (h pins s σ H Q (I.wish _) hw) (fun _ _ ⟨v, H', I', r, q⟩ => ⟨v, H', I'.unwish, r, q⟩) fun _ _ z => False.elim z
theorem PT.nox {e : Expr} {t : TT} (h : PT X.nox e t) : PT X e t := fun pins s σ H Q I hw =>
  wpAny_mono (h pins s σ H Q (I.wish _) hw) (fun _ _ ⟨H', I', q⟩ => ⟨H', I'.unwish, q⟩) fun _ _ z => False.elim z
theorem fY.nox {st : List Stmt} {t : TS} (h : fY X.nox st t) : fY X st t := fun pins s σ H D I hw =>
  wpAny_mono (h pins s σ H D (I.wish _) hw) (fun _ _ q => q.unwish) fun _ _ z => False.elim z
end
section
variable {X : Cx} {st : Stmt} {rest : List Stmt} {t u : TS} {e : Expr} {te : TE} {pos : Pos}
def zm : TS := fun D σ H => D.nx σ H
def HG (t u : TS) : TS := fun D σ H => t { D with nx := u D } σ H
theorem AK : fY X [] zm := fun _ _ σ H _ I h => wpAny_execs_nil ⟨σ, H, I, h⟩
theorem qx (h1 : PS X st t) (h2 : fY X rest u) : fY X (st :: rest) (HG t u) := by
  intro pins s σ H D I h
  refine wpAny_execs_cons (aN (h1 pins s σ H { D with nx := u D } I h) fun f s1 q => ?_)
  cases f with
  | next =>
    obtain ⟨σ', H', I', q⟩ := q
    exact h2 pins s1 σ' H' D I' q
  | ret v => exact q
  | brk => exact q
  | cont => exact q
def CM : TS := fun D σ H => D.bk σ H
def Gp : TS := fun D σ H => D.ct σ H
theorem AM : PS X (.Pass pos) zm := fun _ _ σ H _ I h => wpAny_Pass ⟨σ, H, I, h⟩
theorem xF : PS X (.Break pos) CM := fun _ _ σ H _ I h => wpAny_Break ⟨σ, H, I, h⟩
theorem sk : PS X (.Continue pos) Gp := fun _ _ σ H _ I h => wpAny_Continue ⟨σ, H, I, h⟩
theorem ak.quiet {pins : List (Addr × Obj)} {σ : St} {H : Hp} {s : Shared} (I : ak X pins σ H s) : interactive X.env = false := by simp [interactive, I.ok.kind]
def Go (te : TE) : TS := fun D σ H => te σ H fun _ H1 => D.nx σ H1
theorem nZ (he : PE X e te) (hs : swapsWith e none pos.line X.env = pure false := by rfl) : PS X (.Expr e pos) (Go te) := by
  intro pins s σ H D I h
  exact wpAny_Expr_any (aN (he pins s σ H _ I h) fun v s1 ⟨x, H1, I1, r1, q1⟩ => ⟨σ, H1, I1, q1⟩) I.quiet hs
def HH (te : TE) : TS := fun D σ H => te σ H D.rt
theorem C9 (he : PE X e te) : PS X (.Return (some e) pos) (HH te) := by
  intro pins s σ H D I h
  exact wpAny_Return_some (aN (he pins s σ H _ I h) fun v s1 ⟨x, H1, I1, r1, q1⟩ => ⟨x, σ, H1, I1, r1, q1⟩)
def Gk : TS := fun D _ H => D.rt .non H
theorem AL : PS X (.Return none pos) Gk := fun _ _ σ H _ I h => wpAny_Return_none ⟨.non, σ, H, I, rfl, h⟩
def HM (c : TT) (t u : TS) : TS := fun D σ H => c σ H fun b H1 => if b = true then t D σ H1 else u D σ H1
theorem zy {c : Expr} {a b : List Stmt} {tc : TT} (hc : PT X c tc) (ha : fY X a t) (hb : fY X b u) : PS X (.If c a b pos) (HM tc t u) := by
  intro pins s σ H D I h
  refine wpAny_If (aN (hc pins s σ H _ I h) fun d s1 ⟨H1, I1, q1⟩ => ?_)
  cases d with
  | true => exact ha pins s1 σ H1 D I1 q1
  | false => exact hb pins s1 σ H1 D I1 q1
def CL : TS := fun _ _ _ => False
theorem jJ {sts : List Stmt} : fY X sts CL := fun _ _ _ _ _ _ h => h.elim
end
abbrev TG := V -> St -> Hp -> (St -> Hp -> Prop) -> Prop
abbrev nJ := List V -> St -> Hp -> (St -> Hp -> Prop) -> Prop
def PG (X : Cx) (target : Expr) (t : TG) : Prop :=
  ∀ (pins : List (Addr × Obj)) (s : Shared) (σ : St) (H : Hp) (v : V) (u : Value) (Q : St -> Hp -> Prop), ak X pins σ H s -> aQ v u -> t v σ H Q ->
    wpAny (model X.prog X.w) X.A (assign target X.env u) (fun _ s' => ∃ σ' H', ak X pins σ' H' s' /\ Q σ' H') X.xe s
def t7 (X : Cx) (ts : List Expr) (t : nJ) : Prop :=
  ∀ (pins : List (Addr × Obj)) (s : Shared) (σ : St) (H : Hp) (vs : List V) (us : List Value) (Q : St -> Hp -> Prop), ak X pins σ H s -> aJ vs us -> t vs σ H Q ->
    wpAny (model X.prog X.w) X.A (assignInOrder ((assignEach ts X.env).map (·.2)) us) (fun _ s' => ∃ σ' H', ak X pins σ' H' s' /\ Q σ' H') X.xe s
abbrev u6 := V -> V -> V -> Hp -> (Hp -> Prop) -> Prop
def y6 (X : Cx) (t : u6) : Prop :=
  ∀ (pins : List (Addr × Obj)) (s : Shared) (σ : St) (H : Hp) (o i v : V) (ov iv u : Value) (Q : Hp -> Prop), ak X pins σ H s -> aQ o ov -> aQ i iv -> aQ v u -> t o i v H Q ->
    wpAny (model X.prog X.w) X.A (setItem ov iv u) (fun _ s' => ∃ H', ak X pins σ H' s' /\ Q H') X.xe s
abbrev FK := V -> V -> Hp -> VK -> Prop
def Hx (X : Cx) (op : Operator) (t : FK) : Prop :=
  ∀ (pins : List (Addr × Obj)) (s : Shared) (σ : St) (H : Hp) (x y : V) (v u : Value) (Q : VK), ak X pins σ H s -> aQ x v -> aQ y u -> t x y H Q ->
    wpAny (model X.prog X.w) X.A (inplaceOp op v u) (EP X pins σ Q) X.xe s
section
variable {X : Cx} {pos : Pos}
def zS (i : Nat) : TG := fun v σ H Q => Q (σ.set i (some v)) H
theorem n5 {i : Nat} {x : Str} (hN : X.N.Nodup) (hi : X.N[i]? = some x) (hx : se X.env.scope x) (hf : X.fn x = true \/ X.env.scope.names.lookup x = some .local := by first | exact .inl rfl | exact .inr rfl | assumption) : PG X (.Name x pos) (zS i) := by
  intro pins s σ H v u Q I r h
  exact wpAny_assign_Name (gx I hN hi hx r (fun s' I' => ⟨_, H, I', h⟩) hf)
def L4 : nJ := fun vs σ H Q => vs = [] /\ Q σ H
def G6 (t : TG) (u : nJ) : nJ := fun vs σ H Q => ∃ v r, vs = v :: r /\ t v σ H fun σ' H' => u r σ' H' Q
theorem AS : t7 X [] L4 := by
  intro pins s σ H vs us Q I r h
  obtain ⟨e, h⟩ := h
  subst e
  cases r
  exact assignInOrder_nil ⟨σ, H, I, h⟩
theorem xI {e : Expr} {es : List Expr} {t : TG} {u : nJ} (h1 : PG X e t) (h2 : t7 X es u)
    (hs : (assignEach (e :: es) X.env).map (·.2) = assign e X.env :: (assignEach es X.env).map (·.2) := by rfl) : t7 X (e :: es) (G6 t u) := by
  intro pins s σ H vs us Q I r h
  obtain ⟨v, vr, e1, h⟩ := h
  subst e1
  cases r with
  | cons r rr =>
    rw [hs]
    refine assignInOrder_cons (aN (h1 pins s σ H _ _ _ I r h) fun _ s1 ⟨σ1, H1, I1, q1⟩ => ?_)
    exact h2 pins s1 σ1 H1 _ _ Q I1 rr q1
def L1 (K : W.Frag) (n : Nat) (t : nJ) : TG := fun v σ H Q => ∃ a xs, v = .ref a /\ ck K H a xs /\ xs.length = n /\ t xs σ H Q
theorem vF {es : List Expr} {k : Nat} {t : nJ} {n : Nat} (hc : X.calm = true) (h : t7 X es t)
    (hn : (assignEach es X.env).length = n := by rfl) (hst : (assignEach es X.env).findIdx? (·.1) = none := by rfl) : PG X (.Tuple es k pos) (L1 X.K n t) := by
  intro pins s σ H v u Q I r hw
  obtain ⟨a, xs, e1, hq, hl, hw⟩ := hw
  subst e1
  cases r
  obtain ⟨its, rv, ht, hz⟩ := I.tuple hq
  refine assign_Tuple_tuple (I.ok.hd hc) ht (by simp [hn, <- hl, rv.length]) hst fun h' hx => ?_
  have I1 : ak X pins σ H { s with heap := h' } := I.kept (t' := s.toks) fun b o e => hx b o (Nat.ne_of_lt (Heap.lt_size e)) e
  exact h pins _ σ H xs _ Q I1 (by simpa using rv) hw
def L3 (to ti : TE) (t : u6) : TG := fun v σ H Q => to σ H fun o H1 => ti σ H1 fun i H2 => t o i v H2 fun H3 => Q σ H3
theorem vG {o i : Expr} {to ti : TE} {t : u6} (ho : PE X o to) (hi : PE X i ti) (hs : y6 X t)
    (ha : ∀ v, assign (.Subscript o i pos) X.env v = (do
      let ov <- holding [v] (eval o X.env)
      let iv <- holding [v, ov] (eval i X.env)
      standAt pos
      holding [v, ov, iv] (setItem ov iv v)
      release [v, ov, iv] []) := by intro _; rfl) : PG X (.Subscript o i pos) (L3 to ti t) := by
  intro pins s σ H v u Q I r h
  rw [ha]
  refine wpAny_bind (wpAny_holding (aN (ho pins s σ H _ I h) fun ov s1 ⟨x, H1, I1, r1, q1⟩ => ?_))
  refine wpAny_bind (wpAny_holding (aN (hi pins s1 σ H1 _ I1 q1) fun iv s2 ⟨y, H2, I2, r2, q2⟩ => ?_))
  refine wpAny_bind (wpAny_standAt (wpAny_bind (wpAny_holding (aN (hs pins s2 σ H2 x y v ov iv u _ I2 r1 r2 r q2) fun _ s3 ⟨H3, I3, q3⟩ => ?_))))
  exact wpAny_release ⟨σ, H3, I3, q3⟩
def CN (te : TE) (g : TG) : TS := fun D σ H => te σ H fun x H1 => g x σ H1 D.nx
theorem mL {tg e : Expr} {te : TE} {g : TG} (he : PE X e te) (hg : PG X tg g) (hs : swapsWithSole [tg] e pos.line X.env = pure false := by rfl) (hw : swappedStores [tg] e X.env = pure none := by rfl)
    (h1 : (assignEach [tg] X.env).map (·.2) = [assign tg X.env] := by rfl) : PS X (.Assign [tg] e pos) (CN te g) := by
  intro pins s σ H D I h
  refine wpAny_Assign_stores (aN (he pins s σ H _ I h) fun v s1 ⟨x, H1, I1, r1, q1⟩ => ?_) hs hw
  rw [h1]
  exact aN (hg pins s1 σ H1 x v _ I1 r1 q1) fun _ s2 q => q
theorem C8 {i : Nat} {x : Str} {e : Expr} {te : TE} {pos' : Pos} (hN : X.N.Nodup) (hi : X.N[i]? = some x) (hx : se X.env.scope x) (he : PE X e te) (hs : swapsWith e (some (.Name x pos')) pos.line X.env = pure false := by rfl) (hf : X.fn x = true \/ X.env.scope.names.lookup x = some .local := by first | exact .inl rfl | exact .inr rfl | assumption) :
    PS X (.Assign [.Name x pos'] e pos) (CN te (zS i)) := by
  intro pins s σ H D I h
  refine wpAny_Assign_Name (aN (he pins s σ H _ I h) fun v s1 ⟨y, H1, I1, r1, q1⟩ => ?_) hs
  exact gx I1 hN hi hx r1 (fun s2 I2 => ⟨_, H1, I2, q1⟩) hf
def HI (i j : Nat) (ta : TA) : TS := fun D σ H => ta σ H fun vs H1 => ∃ v w, vs = [v, w] /\ D.nx ((σ.set i (some v)).set j (some w)) H1
theorem Da {i j : Nat} {x y : Str} {a b : Expr} {ta : TA} {px py pt : Pos} {kt k2 pt2} (hc : X.calm = true) (hN : X.N.Nodup) (hi : X.N[i]? = some x) (hj : X.N[j]? = some y) (hij : i ≠ j)
    (hx : X.env.scope.names.lookup x = some .local) (hy : X.env.scope.names.lookup y = some .local) (ha : PA X [a, b] ta)
    (hw : swappedStores [.Tuple [.Name x px, .Name y py] kt pt] (.Tuple [a, b] k2 pt2) X.env = pure (some [x, y]))
    (hs : swapsWithSole [.Tuple [.Name x px, .Name y py] kt pt] (.Tuple [a, b] k2 pt2) pos.line X.env = pure false := by rfl) :
    PS X (.Assign [.Tuple [.Name x px, .Name y py] kt pt] (.Tuple [a, b] k2 pt2) pos) (HI i j ta) := by
  intro pins s σ H D I h
  rw [exec_Assign_arm]
  refine wpAny_bind (wpAny_standAt ?_)
  rw [hs]
  refine wpAny_bind (wpAny_pure ?_)
  rw [if_neg (by decide)]
  refine wpAny_bind (Tuple_ (aN (ha _ pins s σ H _ I h) fun us s1 ⟨vs, H1, I1, r1, q1⟩ => ?_))
  obtain ⟨v, w, e1, q1⟩ := q1
  subst e1
  obtain ⟨u1, u2, rfl, rv, rw'⟩ : ∃ u1 u2, us = [u1, u2] /\ aQ v u1 /\ aQ w u2 := by
    cases r1 with
    | cons p q =>
      cases q with
      | cons p' q' =>
        cases q'
        exact ⟨_, _, rfl, p, p'⟩
  refine wpAny_newObj_type ?_ (by show 2 <= sizeLine; decide)
  have I2 : ak X pins σ H1 { s1 with heap := s1.heap.push { cls := .type "tuple", data := .seq [u1, u2].toArray } } := I1.kept (t' := s1.toks) fun b o e => Heap.get?_push_of_some _ e
  rw [hw]
  refine wpAny_bind (wpAny_pure ?_)
  show wpAny (model X.prog X.w) X.A (do rule "assign.swapped-stores"; let items <- unpackItems (.ref s1.heap.objs.size) 2 none; assignInOrder [fun v => bindName X.env y v, fun v => bindName X.env x v] items.reverse; pure Flow.next) _ _ _
  refine wpAny_bind (wpAny_rule (wpAny_bind (unpackItems_tuple (items := #[u1, u2]) (I.ok.hd hc) (IsTup.new s1.heap _) fun h' hx' => ?_)))
  have I3 := I2.kept (h' := h') (t' := s1.toks) fun b o e => hx' b o (Nat.ne_of_lt (Heap.lt_size e)) e
  show wpAny _ _ (assignInOrder [fun v => bindName X.env y v, fun v => bindName X.env x v] [u2, u1] >>= fun _ => pure Flow.next) _ _ _
  refine wpAny_bind (assignInOrder_cons (wpAny_bindName (gx I3 hN hj (.inl hy) rw' (fun s2 I4 => ?_) (.inr hy))))
  refine assignInOrder_cons (wpAny_bindName (gx I4 hN hi (.inl hx) rv (fun s3 I5 => assignInOrder_nil (wpAny_pure ?_)) (.inr hx)))
  rw [List.set_comm _ _ (Ne.symm hij)] at I5
  exact ⟨_, H1, I5, q1⟩
def HR (i : Nat) (te : TE) (ti : FK) : TS := fun D σ H => ∃ x, σ[i]? = some (some x) /\ te σ H fun y H1 => ti x y H1 fun z H2 => D.nx (σ.set i (some z)) H2
theorem Dd {i : Nat} {x : Str} {e : Expr} {te : TE} {op : Operator} {ti : FK} {pos' : Pos} (hN : X.N.Nodup) (hi : X.N[i]? = some x) (hx : se X.env.scope x) (he : PE X e te) (ho : Hx X op ti) (hf : X.fn x = true \/ X.env.scope.names.lookup x = some .local := by first | exact .inl rfl | exact .inr rfl | assumption) :
    PS X (.AugAssign (.Name x pos') op e pos) (HR i te ti) := by
  intro pins s σ H D I h
  obtain ⟨v, e1, h⟩ := h
  obtain ⟨m, hn, hl⟩ := I.loc
  have vis : jr X.env.scope x := by rcases hx with k | k; exact .inl k; exact .inr (.inl k)
  obtain ⟨u, r, l⟩ := hl i x v hi e1 vis
  refine wpAny_AugAssign_Name ?_
  have go : wpAny (model X.prog X.w) X.A (eval e X.env) (fun w s₂ => wpAny (model X.prog X.w) X.A (inplaceOp op u w) (fun r s₃ => wpAny (model X.prog X.w) X.A (storeName X.env x r) (fun _ => SP X pins D .next) X.xe s₃) X.xe s₂) X.xe s := by
    refine aN (he pins s σ H _ I h) fun w s1 ⟨y, H1, I1, r1, q1⟩ => ?_
    refine aN (ho pins s1 σ H1 v y u w _ I1 r r1 q1) fun z s2 ⟨zv, H2, I2, r2, q2⟩ => ?_
    exact gx I2 hN hi hx r2 (fun s3 I3 => ⟨_, H2, I3, q2⟩) hf
  rcases l with ⟨hk, hm⟩ | ⟨hk, c, hc, hcell⟩
  . exact wpAny_loadName_local I.ok.kind hk hn hm go
  . rcases hk with hk | hk
    . exact wpAny_loadName_cell I.ok.kind hk hc hcell go
    . rcases hx with k | k
      . have : X.env.scope.names.lookup x = some .free := hk
        rw [k] at this; cases this
      . have : X.env.scope.names.lookup x = some .free := hk
        rw [k] at this; cases this
end
section
variable {X : Cx} {pos : Pos}
def CK (c : TT) (tb : TS) : TS := fun D σ H => ∃ W : Nat -> St -> Hp -> Prop, (∃ m, W m σ H) /\ ∀ m σ H, W m σ H ->
  c σ H fun b H1 => if b = true then ∃ N : St -> Hp -> Prop, (∀ σ' H', N σ' H' -> ∃ m', m' < m /\ W m' σ' H') /\ tb { D with nx := N, ct := N, bk := D.nx } σ H1 else D.nx σ H1
theorem xE {c : Expr} {body : List Stmt} {tc : TT} {tb : TS} (hp : PassesOwn (model X.prog X.w) X.A X.env X.xe) (hc : PT X c tc) (hb : fY X body tb) : PS X (.While c body [] pos) (CK tc tb) := by
  intro pins s σ H D I h
  obtain ⟨W, ⟨m0, w0⟩, turn⟩ := h
  refine wpAny_While (codeAny_whileLoop (fun n s' => ∃ σ' H', ak X pins σ' H' s' /\ W n σ' H') ?_ m0 ⟨σ, H, I, w0⟩)
  rintro n s1 ⟨σ1, H1, I1, w1⟩
  refine wpAny_passesOwn hp (aN (hc pins s1 σ1 H1 _ I1 (turn n σ1 H1 w1)) fun b s2 ⟨H2, I2, q2⟩ => ?_)
  cases b with
  | true =>
    obtain ⟨N, hN, q2⟩ := q2
    rw [if_pos rfl]
    refine wpAny_passesOwn hp (aN (hb pins s2 σ1 H2 _ I2 q2) fun f s3 q3 => ?_)
    cases f with
    | next =>
      obtain ⟨σ3, H3, I3, n3⟩ := q3
      obtain ⟨m', hm, w3⟩ := hN σ3 H3 n3
      exact ⟨m', hm, σ3, H3, I3, w3⟩
    | cont =>
      obtain ⟨σ3, H3, I3, n3⟩ := q3
      obtain ⟨m', hm, w3⟩ := hN σ3 H3 n3
      exact ⟨m', hm, σ3, H3, I3, w3⟩
    | brk => exact q3
    | ret v => exact q3
  | false =>
    rw [if_neg Bool.false_ne_true]
    exact wpAny_execs_nil ⟨σ1, H2, I2, q2⟩
end
structure It where
  go : Nat -> Hp -> Prop
  yld : Nat -> Hp -> V -> Hp -> Prop
  stop : Nat -> Hp -> Prop
def fq (X : Cx) (pins : List (Addr × Obj)) (H : Hp) (b : Addr) : Prop :=
  H b = none /\ b ≠ X.env.locals /\ b ∉ X.fs /\ (b ∈ X.ex \/ X.s₀.heap.objs.size <= b) /\ (∀ x c, X.env.cells.lookup x = some c -> c ≠ b) /\ ∀ p ∈ X.pn ++ pins, p.1 ≠ b
theorem ak.fpOk {X : Cx} {pins : List (Addr × Obj)} {σ : St} {H H' : Hp} {s : Shared} {b : Addr} (I : ak X pins σ H s) (hb : s.heap.objs.size <= b) (hn : H' b = none) : fq X pins H' b := by
  refine ⟨hn, Nat.ne_of_gt (Nat.lt_of_lt_of_le I.lt hb), I.nofs hb, .inr (Nat.le_trans I.sz hb), fun x c e z => ?_, fun p hp z => ?_⟩
  . obtain ⟨v, q⟩ := I.cell x c e
    exact absurd (Nat.lt_of_lt_of_le q.lt (by rw [z]; exact hb)) (Nat.lt_irrefl _)
  . exact absurd (Nat.lt_of_lt_of_le (Heap.lt_size (I.pin p hp).1) (by rw [z]; exact hb)) (Nat.lt_irrefl _)
structure Turn (P : Program) (w : World) (K : W.Frag) (tg : Expr) (J : It) (fp : List Addr) (it : Addr) (tn : Nat -> Heap -> Prop) : Prop where
  mem : it ∈ fp
  obj : ∀ i h, tn i h -> ∀ b ∈ fp, ∃ o, h.get? b = some o /\ ∀ v, o.data ≠ .cell v
  keep : ∀ i h h', tn i h -> (∀ b ∈ fp, ∀ o, h.get? b = some o -> h'.get? b = some o) -> tn i h'
  item : ∀ (X : Cx), X.prog = P -> X.w = w -> X.K = K -> X.calm = true -> ∀ (i : Nat) (pins : List (Addr × Obj)) (s : Shared) (σ : St) (H : Hp) (E : Value -> Shared -> Prop), ak X pins σ H s -> (∀ b ∈ fp, fq X pins H b) -> tn i s.heap -> J.go i H ->
    wpAny (model P w) X.A (pyNext (.ref it)) (fun r s1 => ∃ u, r = some u /\
      wpAny (model P w) X.A (letOwnedTupleGo tg (.ref it) u) (fun _ s2 => ∃ x H', ak X pins σ H' s2 /\ aQ x u /\ J.yld i H x H' /\ tn (i + 1) s2.heap /\ ∀ b ∈ fp, H' b = none) E s1) E s
  done : ∀ (X : Cx), X.prog = P -> X.w = w -> X.K = K -> X.calm = true -> ∀ (i : Nat) (pins : List (Addr × Obj)) (s : Shared) (σ : St) (H : Hp) (E : Value -> Shared -> Prop), ak X pins σ H s -> (∀ b ∈ fp, fq X pins H b) -> tn i s.heap -> J.stop i H ->
    wpAny (model P w) X.A (pyNext (.ref it)) (fun r s1 => r = none /\ ak X pins σ H s1) E s
  self : ∀ (A : Around) (i : Nat) (s : Shared) (Q : Value -> Shared -> Prop) (E : Value -> Shared -> Prop), tn i s.heap -> Q (.ref it) s -> wpAny (model P w) A (pyIter (.ref it)) Q E s
abbrev TI := St -> Hp -> (It -> Hp -> Prop) -> Prop
def Hy (X : Cx) (pins : List (Addr × Obj)) (σ : St) (tg : Expr) (R : It -> Hp -> Prop) (itv : Value) (s2 : Shared) : Prop :=
  ∃ (it : Addr) (fp : List Addr) (tn : Nat -> Heap -> Prop) (J : It) (H' : Hp), itv = .ref it /\ ak X pins σ H' s2 /\ Turn X.prog X.w X.K tg J fp it tn /\ tn 0 s2.heap /\ (∀ b ∈ fp, fq X pins H' b) /\ R J H'
def PI (X : Cx) (tg iter : Expr) (wi : TI) : Prop :=
  ∀ (pins : List (Addr × Obj)) (s : Shared) (σ : St) (H : Hp) (R : It -> Hp -> Prop), ak X pins σ H s -> wi σ H R ->
    wpAny (model X.prog X.w) X.A (eval iter X.env) (fun v s1 => wpAny (model X.prog X.w) X.A (pyIter v) (Hy X pins σ tg R) X.xe s1) X.xe s
theorem pH {M : Model} {A : Around} {E : Value -> Shared -> Prop} {s : Shared} {tg : Expr} {it : Addr} {u : Value} {o : Obj} {n : String} {vs : Array Value} {Q : Unit -> Shared -> Prop} (ho : s.heap.get? it = some o) (hc : o.cls = .type n) (hd : o.data = .fields vs)
    (hn : ["enumerate", "zip", "dict_itemiterator", "dict_reverseitemiterator", "odict_iterator", "itertools.zip_longest", "itertools.pairwise"].contains n = false) (hQ : Q () s) : wpAny M A (letOwnedTupleGo tg (.ref it) u) Q E s := by
  unfold letOwnedTupleGo
  cases tg <;> first
    | exact wpAny_pure hQ
    | (cases u <;> first
        | exact wpAny_pure hQ
        | (refine wpAny_bind (wpAny_load ho ?_)
           rw [hc, hd]
           show wpAny M A (if (["enumerate", "zip", "dict_itemiterator", "dict_reverseitemiterator", "odict_iterator", "itertools.zip_longest", "itertools.pairwise"].contains n && vs[0]? == some (rawInt _)) = true then _ else _) Q E s
           rw [if_neg (by intro h; rw [hn, Bool.false_and] at h; cases h)]
           exact wpAny_pure hQ))
def HB (K : W.Frag) (a : Addr) : It :=
  ⟨fun i H => ∃ xs x, cm K H a xs /\ xs[i]? = some x, fun i H x H' => H' = H /\ ∀ xs, cm K H a xs -> xs[i]? = some x, fun i H => ∃ xs, cm K H a xs /\ xs.length <= i⟩
def HA (K : W.Frag) (a : Addr) : It :=
  ⟨fun i H => ∃ xs x, ck K H a xs /\ xs[i]? = some x, fun i H x H' => H' = H /\ ∀ xs, ck K H a xs -> xs[i]? = some x, fun i H => ∃ xs, ck K H a xs /\ xs.length <= i⟩
def Ah (lo : Int) (n : Nat) : It := ⟨fun i _ => i < n, fun i H x H' => H' = H /\ x = .int (lo + i), fun i _ => n <= i⟩
theorem vm {P : Program} {w : World} {K : W.Frag} {tg : Expr} (a it : Addr) : Turn P w K tg (HB K a) [it] it (fun i h => h.IsListIter it a i) where
  mem := by simp
  obj := fun i h st b hb => by
    have e : b = it := by simpa using hb
    subst e
    obtain ⟨o, e, c, d⟩ := st
    exact ⟨o, e, fun v z => by rw [d] at z; cases z⟩
  keep := fun i h h' st k => st.at fun o e => k it (by simp) o e
  item := by
    intro X hP hw hK hc i pins s σ H E I hf st hg
    subst hP hw hK
    obtain ⟨xs, x, hq, hx⟩ := hg
    obtain ⟨its, rv, p, hz⟩ := I.list hq
    obtain ⟨u, hu, ru⟩ := rv.get hx
    obtain ⟨f0, f1, f2, f3, f4, f5⟩ := hf it (by simp)
    refine wpAny_pyNext_list_item st p.isList (x := u) (by simpa using hu) fun h' st' sb => ?_
    have I1 : ak X pins σ H { s with heap := h' } := I.turned (t' := s.toks) (fun b o hb e => (sb.2 b hb).trans e) f0 f1 f3 f4 f5
    obtain ⟨o, e, c, d⟩ := id st'
    exact ⟨u, rfl, pH (s := { s with heap := h' }) e c d (by decide) ⟨x, H, I1, ru, ⟨rfl, fun ys hy => by rw [I.list_inj hy hq]; exact hx⟩, st', fun b hb => (hf b hb).1⟩⟩
  done := by
    intro X hP hw hK hc i pins s σ H E I hf st hg
    subst hP hw hK
    obtain ⟨xs, hq, hx⟩ := hg
    obtain ⟨its, rv, p, hz⟩ := I.list hq
    obtain ⟨f0, f1, f2, f3, f4, f5⟩ := hf it (by simp)
    have hl := rv.length
    exact wpAny_pyNext_list_end (I.ok.hd hc) st p.isList (by simp; omega) fun h' eb => ⟨rfl, I.turned (t' := s.toks) (fun b o hb e => eb b o hb e) f0 f1 f3 f4 f5⟩
  self := fun _ _ _ _ _ st h => wpAny_pyIter_listiter st h
theorem ub {P : Program} {w : World} {K : W.Frag} {tg : Expr} (a it : Addr) : Turn P w K tg (HA K a) [it] it (fun i h => h.IsTupleIter it a i) where
  mem := by simp
  obj := fun i h st b hb => by
    have e : b = it := by simpa using hb
    subst e
    obtain ⟨o, e, c, d⟩ := st
    exact ⟨o, e, fun v z => by rw [d] at z; cases z⟩
  keep := fun i h h' st k => st.at fun o e => k it (by simp) o e
  item := by
    intro X hP hw hK hc i pins s σ H E I hf st hg
    subst hP hw hK
    obtain ⟨xs, x, hq, hx⟩ := hg
    obtain ⟨its, rv, p, hz⟩ := I.tuple hq
    obtain ⟨u, hu, ru⟩ := rv.get hx
    obtain ⟨f0, f1, f2, f3, f4, f5⟩ := hf it (by simp)
    refine wpAny_pyNext_tuple_item st (show s.heap.IsTuple a its.toArray from p) (x := u) (by simpa using hu) fun h' st' sb => ?_
    have I1 : ak X pins σ H { s with heap := h' } := I.turned (t' := s.toks) (fun b o hb e => (sb.2 b hb).trans e) f0 f1 f3 f4 f5
    obtain ⟨o, e, c, d⟩ := id st'
    exact ⟨u, rfl, pH (s := { s with heap := h' }) e c d (by decide) ⟨x, H, I1, ru, ⟨rfl, fun ys hy => by rw [I.tuple_inj hy hq]; exact hx⟩, st', fun b hb => (hf b hb).1⟩⟩
  done := by
    intro X hP hw hK hc i pins s σ H E I hf st hg
    subst hP hw hK
    obtain ⟨xs, hq, hx⟩ := hg
    obtain ⟨its, rv, p, hz⟩ := I.tuple hq
    obtain ⟨f0, f1, f2, f3, f4, f5⟩ := hf it (by simp)
    have hl := rv.length
    exact wpAny_pyNext_tuple_end (I.ok.hd hc) st (show s.heap.IsTuple a its.toArray from p) (by simp; omega) fun h' eb => ⟨rfl, I.turned (t' := s.toks) (fun b o hb e => eb b o hb e) f0 f1 f3 f4 f5⟩
  self := fun _ _ _ _ _ st h => wpAny_pyIter_tupleiter st h
theorem uc {P : Program} {w : World} {K : W.Frag} {tg : Expr} (it : Addr) (lo : Int) (n : Nat) : Turn P w K tg (Ah lo n) [it] it (fun i h => IsRangeIter h it (lo + (i : Nat) * 1) ((n : Int) - (i : Nat)) 1) where
  mem := by simp
  obj := fun i h st b hb => by
    have e : b = it := by simpa using hb
    subst e
    exact ⟨_, st, fun v z => by
      have z' : Data.fields _ = Data.cell v := z
      cases z'⟩
  keep := fun i h h' st k => k it (by simp) _ st
  item := by
    intro X hP hw hK hc i pins s σ H E I hf st hg
    subst hP hw hK
    obtain ⟨f0, f1, f2, f3, f4, f5⟩ := hf it (by simp)
    have W := Walks.range (prog := X.prog) (w := X.w) (I.ok.hd hc) it lo 1 n
    refine W.item i s _ _ hg st fun v h' tk hv st' kk => ?_
    obtain ⟨t, rfl⟩ := hv
    have I1 : ak X pins σ H { s with heap := h', toks := tk } := I.turned (fun b o hb e => kk b o (by simpa using hb) e) f0 f1 f3 f4 f5
    refine ⟨_, rfl, pH (s := { s with heap := h', toks := tk }) (n := "range_iterator") st' rfl rfl (by decide) ⟨.int (lo + i), H, I1, ⟨t, ?_⟩, ⟨rfl, rfl⟩, st', fun b hb => (hf b hb).1⟩⟩
    rw [Int.mul_one]
  done := by
    intro X hP hw hK hc i pins s σ H E I hf st hg
    subst hP hw hK
    obtain ⟨f0, f1, f2, f3, f4, f5⟩ := hf it (by simp)
    exact wpAny_pyNext_range_end (I.ok.hd hc) st (by have : n <= i := hg; omega) fun h' eb => ⟨rfl, I.turned (t' := s.toks) (fun b o hb e => eb b o hb e) f0 f1 f3 f4 f5⟩
  self := fun _ _ _ _ _ st h => wpAny_pyIter_rangeiter st h
end L2
namespace L2
open PySem PySem.Spec PyProof.Rows
section
variable {X : Cx} {tg : Expr}
def G4 (K : W.Frag) (tl : TE) : TI := fun σ H R => tl σ H fun x H1 => ∃ a, x = .ref a /\ (∃ xs, cm K H1 a xs) /\ R (HB K a) H1
def L0 (K : W.Frag) (tl : TE) : TI := fun σ H R => tl σ H fun x H1 => ∃ a, x = .ref a /\ (∃ xs, ck K H1 a xs) /\ R (HA K a) H1
theorem AR {l : Expr} {tl : TE} (hl : PE X l tl) : PI X tg l (G4 X.K tl) := by
  intro pins s σ H R I h
  refine aN (hl pins s σ H _ I h) fun v s1 ⟨x, H1, I1, r1, q1⟩ => ?_
  obtain ⟨a, e, ⟨xs, hq⟩, q⟩ := q1
  subst e
  cases r1
  obtain ⟨its, rv, p, hz⟩ := I1.list hq
  refine wpAny_pyIter_list p.isList ?_
  refine ⟨s1.heap.objs.size, [s1.heap.objs.size], _, _, H1, rfl, I1.kept (t' := s1.toks) fun b o e => Heap.get?_push_of_some _ e, vm a _, ⟨_, Heap.get?_push_size _ rfl, rfl, rfl⟩, fun b hb => ?_, q⟩
  have e : b = s1.heap.objs.size := by simpa using hb
  subst e
  exact I1.fpOk (Nat.le_refl _) (I1.hok.fresh (Nat.le_refl _))
theorem Di {l : Expr} {tl : TE} (hl : PE X l tl) : PI X tg l (L0 X.K tl) := by
  intro pins s σ H R I h
  refine aN (hl pins s σ H _ I h) fun v s1 ⟨x, H1, I1, r1, q1⟩ => ?_
  obtain ⟨a, e, ⟨xs, hq⟩, q⟩ := q1
  subst e
  cases r1
  obtain ⟨its, rv, p, hz⟩ := I1.tuple hq
  refine wpAny_pyIter_tuple (show s1.heap.IsTuple a its.toArray from p) ?_
  refine ⟨s1.heap.objs.size, [s1.heap.objs.size], _, _, H1, rfl, I1.kept (t' := s1.toks) fun b o e => Heap.get?_push_of_some _ e, ub a _, ⟨_, Heap.get?_push_size _ rfl, rfl, rfl⟩, fun b hb => ?_, q⟩
  have e : b = s1.heap.objs.size := by simpa using hb
  subst e
  exact I1.fpOk (Nat.le_refl _) (I1.hok.fresh (Nat.le_refl _))
theorem qu {pins : List (Addr × Obj)} {σ : St} {H : Hp} {s : Shared} {R : It -> Hp -> Prop} {E : Value -> Shared -> Prop} {lo hi : Int} {t u v : Tok} {tk : Nat} (I : ak X pins σ H s) (h1 : -(2 ^ 62) <= lo) (h2 : lo < 2 ^ 62) (h3 : -(2 ^ 62) <= hi) (h4 : hi < 2 ^ 62)
    (q : R (Ah lo (hi - lo).toNat) H) : wpAny (model X.prog X.w) X.A (pyIter (.ref s.heap.objs.size)) (Hy X pins σ tg R) E { s with heap := s.heap.push { cls := .type "range", data := .fields #[.int lo t, .int hi u, .int 1 v] }, toks := tk } := by
  refine wpAny_pyIter_range (IsRange.new ..) (small_one h1 h2 h3 h4) ?_
  have I1 : ak X pins σ H { s with heap := s.heap.push { cls := .type "range", data := .fields #[.int lo t, .int hi u, .int 1 v] }, toks := tk } := I.kept fun b o e => Heap.get?_push_of_some _ e
  refine ⟨(s.heap.push { cls := .type "range", data := .fields #[.int lo t, .int hi u, .int 1 v] }).objs.size, [(s.heap.push { cls := .type "range", data := .fields #[.int lo t, .int hi u, .int 1 v] }).objs.size], _, _, H, rfl,
    I1.kept (t' := tk) fun b o e => Heap.get?_push_of_some _ e, uc _ lo (hi - lo).toNat, ?_, fun b hb => ?_, q⟩
  . have e1 : lo + ((0 : Nat) : Int) * 1 = lo := by simp
    have e2 : (((hi - lo).toNat : Nat) : Int) - ((0 : Nat) : Int) = Builtin.Range.rangeSize lo hi 1 := by rw [rangeSize_one]; split <;> omega
    show IsRangeIter _ _ (lo + ((0 : Nat) : Int) * 1) ((((hi - lo).toNat : Nat) : Int) - ((0 : Nat) : Int)) 1
    rw [e1, e2]
    exact Heap.get?_push_size _ rfl
  . have e : b = (s.heap.push { cls := .type "range", data := .fields #[.int lo t, .int hi u, .int 1 v] }).objs.size := by simpa using hb
    subst e
    exact I1.fpOk (Nat.le_refl _) (I1.hok.fresh (Nat.le_refl _))
def G3 (ta : TA) : TI := fun σ H R => ta σ H fun vs H1 => ∃ j : Int, vs = [.int j] /\ -(2 ^ 62) <= j /\ j < 2 ^ 62 /\ R (Ah 0 j.toNat) H1
def G2 (ta : TA) : TI := fun σ H R => ta σ H fun vs H1 => ∃ i j : Int, vs = [.int i, .int j] /\ (-(2 ^ 62) <= i /\ i < 2 ^ 62 /\ -(2 ^ 62) <= j /\ j < 2 ^ 62) /\ R (Ah i (j - i).toNat) H1
theorem vE {a : Expr} {ta : TA} {p pos : Pos} (hg : Gl X "range") (hm : X.mg "range" = none) (ha : PA X [a] ta) (hs : starEach [a] X.env = [(false, eval a X.env)] := by rfl) : PI X tg (.Call (.Name "range" p) [a] [] pos) (G3 ta) := by
  intro pins s σ H R I h
  refine Call_ (dC I hg hm boot_range (PyProof.Rows.callWith_type1 (aN (ha pos pins s σ H _ I h) fun us s1 ⟨vs, H1, I1, r1, q1⟩ => ?_) hs rfl))
  obtain ⟨j, e, q1, q2, q⟩ := q1
  subst e
  cases r1 with
  | cons r rr =>
    cases rr
    obtain ⟨t, rfl⟩ := r
    exact call_range_1 (qu I1 (by omega) (by omega) q1 q2 (by simpa using q))
theorem vD {a b : Expr} {ta : TA} {p pos : Pos} (hg : Gl X "range") (hm : X.mg "range" = none) (ha : PA X [a, b] ta) (hs : starEach [a, b] X.env = [(false, eval a X.env), (false, eval b X.env)] := by rfl) (hs2 : starEach [b] X.env = [(false, eval b X.env)] := by rfl) :
    PI X tg (.Call (.Name "range" p) [a, b] [] pos) (G2 ta) := by
  intro pins s σ H R I h
  refine Call_ (dC I hg hm boot_range (PyProof.Rows.callWith_type1 (aN (ha pos pins s σ H _ I h) fun us s1 ⟨vs, H1, I1, r1, q1⟩ => ?_) (by rw [hs, hs2]) (by rw [hs2]; rfl)))
  obtain ⟨i, j, e, ⟨q1, q2, q3, q4⟩, q⟩ := q1
  subst e
  cases r1 with
  | cons r rr =>
    cases rr with
    | cons r' rr =>
      cases rr
      obtain ⟨t, rfl⟩ := r
      obtain ⟨t', rfl⟩ := r'
      exact call_range_2 (qu I1 q1 q2 q3 q4 q)
def HN (wi : TI) (g : TG) (tb : TS) : TS := fun D σ H => wi σ H fun J H1 => ∃ W : Nat -> Nat -> St -> Hp -> Prop, (∃ m, W 0 m σ H1) /\ ∀ i m σ H, W i m σ H ->
  (J.stop i H /\ D.nx σ H) \/ (J.go i H /\ ∃ N : St -> Hp -> Prop, (∀ σ' H', N σ' H' -> ∃ m', m' < m /\ W (i + 1) m' σ' H') /\ ∀ x H', J.yld i H x H' -> g x σ H' fun σ2 H2 => tb { D with nx := N, ct := N, bk := D.nx } σ2 H2)
def jK (fp : List Addr) (h : Heap) : List (Addr × Obj) := fp.filterMap fun b => (h.get? b).map fun o => (b, o)
theorem f6 {fp : List Addr} {h : Heap} {b : Addr} {o : Obj} (hb : b ∈ fp) (e : h.get? b = some o) : (b, o) ∈ jK fp h := List.mem_filterMap.mpr ⟨b, hb, by rw [e]; rfl⟩
theorem vM {fp : List Addr} {h : Heap} {p : Addr × Obj} (hp : p ∈ jK fp h) : p.1 ∈ fp /\ h.get? p.1 = some p.2 := by
  obtain ⟨b, hb, e⟩ := List.mem_filterMap.mp hp
  cases q : h.get? b with
  | none => rw [q] at e; cases e
  | some o =>
    rw [q] at e
    have e' : (b, o) = p := Option.some.inj e
    subst e'
    exact ⟨hb, q⟩
theorem ak.pinned {pins : List (Addr × Obj)} {σ : St} {H : Hp} {s : Shared} {fp : List Addr} (I : ak X pins σ H s) (hf : ∀ b ∈ fp, fq X pins H b) (ho : ∀ b ∈ fp, ∃ o, s.heap.get? b = some o /\ ∀ v, o.data ≠ .cell v) : ak X (pins ++ jK fp s.heap) σ H s :=
  I.pins_of fun p hp => (List.mem_append.mp hp).elim (fun z => I.pin p (List.mem_append_right _ z)) fun z => by
    obtain ⟨hb, e⟩ := vM z
    obtain ⟨f0, f1, f2, _⟩ := hf p.1 hb
    obtain ⟨o, e', d⟩ := ho p.1 hb
    rw [e] at e'; cases e'
    exact ⟨e, f0, f1, f2, d⟩
theorem ak.unpinned {pins pl : List (Addr × Obj)} {σ : St} {H : Hp} {s : Shared} (I : ak X (pins ++ pl) σ H s) : ak X pins σ H s := I.pins_of fun p hp => I.pin p (List.mem_append_right _ (List.mem_append_left _ hp))
theorem Db {iter : Expr} {body : List Stmt} {wi : TI} {g : TG} {tb : TS} {pos : Pos} (hp : PassesOwn (model X.prog X.w) X.A X.env X.xe) (hc : X.calm = true) (hi : PI X tg iter wi) (hg : PG X tg g) (hb : fY X body tb)
    (hs : ∀ x, foldedSetIterable iter X.env x = pure x := by intro _; rfl) : PS X (.For tg iter body [] pos) (HN wi g tb) := by
  intro pins s σ H D I h
  refine wpAny_For (aN (hi pins s σ H _ I h) fun v s1 h1 => aN h1 fun itv s2 h2 => ?_) hs
  obtain ⟨it, fp, tn, J, H2, e, I2, T, st2, f2, W, ⟨m0, w0⟩, turn⟩ := h2
  subst e
  have stat : ∀ {H' : Hp}, (∀ b ∈ fp, H' b = none) -> ∀ b ∈ fp, fq X pins H' b := fun hn b hb => ⟨hn b hb, (f2 b hb).2⟩
  refine codeAny_forLoop_any (fun n s' => ∃ i σ' H', ak X pins σ' H' s' /\ tn i s'.heap /\ (∀ b ∈ fp, H' b = none) /\ W i n σ' H') ?_ m0 ⟨0, σ, H2, I2, st2, fun b hb => (f2 b hb).1, w0⟩
  rintro n s3 ⟨i, σ3, H3, I3, st3, fr3, w3⟩
  rcases turn i n σ3 H3 w3 with ⟨stop, qn⟩ | ⟨go, N, hN, step⟩
  . refine wpAny_passesOwn hp (aN (T.done X rfl rfl rfl hc i pins s3 σ3 H3 X.xe I3 (stat fr3) st3 stop) fun r s4 ⟨hr, I4⟩ => ?_)
    subst hr
    exact wpAny_execs_nil ⟨σ3, H3, I4, qn⟩
  . refine wpAny_passesOwn hp (aN (T.item X rfl rfl rfl hc i pins s3 σ3 H3 X.xe I3 (stat fr3) st3 go) fun r s4 ⟨u, hr, h4⟩ => ?_)
    subst hr
    refine wpAny_passesOwn hp (aN h4 fun _ s5 ⟨x, H5, I5, r5, y5, st5, fr5⟩ => ?_)
    have I5' := I5.pinned (stat fr5) (T.obj _ _ st5)
    refine wpAny_passesOwn hp (aN (hg _ s5 σ3 H5 x u _ I5' r5 (step x H5 y5)) fun _ s6 ⟨σ6, H6, I6, q6⟩ => ?_)
    refine wpAny_passesOwn hp (aN (hb _ s6 σ6 H6 _ I6 q6) fun f s7 q7 => ?_)
    have again : ∀ {σ7 : St} {H7 : Hp}, ak X (pins ++ jK fp s5.heap) σ7 H7 s7 -> N σ7 H7 -> ∃ m, m < n /\ ∃ i σ' H', ak X pins σ' H' s7 /\ tn i s7.heap /\ (∀ b ∈ fp, H' b = none) /\ W i m σ' H' := fun {σ7 H7} I7 n7 => by
      obtain ⟨m', hm, w7⟩ := hN σ7 H7 n7
      refine ⟨m', hm, i + 1, σ7, H7, I7.unpinned, T.keep _ _ _ st5 fun b hb o e => (I7.pin (b, o) (List.mem_append_right _ (List.mem_append_right _ (f6 hb e)))).1, fun b hb => ?_, w7⟩
      obtain ⟨o, e, d⟩ := T.obj _ _ st5 b hb
      exact (I7.pin (b, o) (List.mem_append_right _ (List.mem_append_right _ (f6 hb e)))).2.1
    cases f with
    | next => obtain ⟨σ7, H7, I7, n7⟩ := q7; exact again I7 n7
    | cont => obtain ⟨σ7, H7, I7, n7⟩ := q7; exact again I7 n7
    | brk => obtain ⟨σ7, H7, I7, q7⟩ := q7; exact ⟨σ7, H7, I7.unpinned, q7⟩
    | ret v => obtain ⟨x7, σ7, H7, I7, r7, q7⟩ := q7; exact ⟨x7, σ7, H7, I7.unpinned, r7, q7⟩
end
end L2
namespace L2
open PySem PySem.Spec PyProof.Rows
abbrev R2 := V -> V -> Hp -> VK -> Prop
def cI (X : Cx) (f : Value -> Value -> Sem Value) (r : R2) : Prop :=
  ∀ (pins : List (Addr × Obj)) (s : Shared) (σ : St) (H : Hp) (x y : V) (v u : Value) (Q : VK), ak X pins σ H s -> aQ x v -> aQ y u -> r x y H Q ->
    wpAny (model X.prog X.w) X.A (f v u) (EP X pins σ Q) X.xe s
def FJ (X : Cx) (f : Value -> Sem Value) (r : V -> Hp -> VK -> Prop) : Prop :=
  ∀ (pins : List (Addr × Obj)) (s : Shared) (σ : St) (H : Hp) (x : V) (v : Value) (Q : VK), ak X pins σ H s -> aQ x v -> r x H Q ->
    wpAny (model X.prog X.w) X.A (f v) (EP X pins σ Q) X.xe s
def dS (X : Cx) (f : Value) (r : List V -> Hp -> VK -> Prop) : Prop :=
  ∀ (pins : List (Addr × Obj)) (s : Shared) (σ : St) (H : Hp) (xs : List V) (us : List Value) (Q : VK), ak X pins σ H s -> aJ xs us -> r xs H Q ->
    wpAny (model X.prog X.w) X.A (call f us) (EP X pins σ Q) X.xe s
def Ht (r : R2) (ta tb : TE) : TE := fun σ H Q => ta σ H fun x H1 => tb σ H1 fun y H2 => r x y H2 Q
def N0 (r : V -> Hp -> VK -> Prop) (ta : TE) : TE := fun σ H Q => ta σ H fun x H1 => r x H1 Q
def rI (C : Int -> Int -> Prop) (g : Int -> Int -> V) : R2 := fun x y H Q => ∃ i j, x = .int i /\ y = .int j /\ C i j /\ Q (g i j) H
def jm (g : Int -> Int -> V) : R2 := fun x y H Q => ∃ i j, x = .int i /\ y = .int j /\ Q (g i j) H
def rU (g : Int -> V) : V -> Hp -> VK -> Prop := fun x H Q => ∃ i, x = .int i /\ Q (g i) H
section
variable {X : Cx} {a b c : Expr} {ta tb tc : TE} {pos : Pos}
theorem FA (ha : PE X a ta) (hb : PE X b tb) {pins : List (Addr × Obj)} {s : Shared} {σ : St} {H : Hp} {R : V -> V -> Hp -> Prop} (I : ak X pins σ H s)
    (h : ta σ H fun x H1 => tb σ H1 fun y H2 => R x y H2) {Q : Value -> Shared -> Prop} {f : Value -> Value -> Sem Value}
    (hf : ∀ v u s2 x y H2, ak X pins σ H2 s2 -> aQ x v -> aQ y u -> R x y H2 -> wpAny (model X.prog X.w) X.A (f v u) Q X.xe s2) :
    wpAny (model X.prog X.w) X.A (eval a X.env) (fun v s₁ => wpAny (model X.prog X.w) X.A (eval b X.env) (fun u s₂ => wpAny (model X.prog X.w) X.A (f v u) Q X.xe s₂) X.xe s₁) X.xe s := by
  refine aN (ha pins s σ H _ I h) fun v s1 ⟨x, H1, I1, r1, q1⟩ => ?_
  refine aN (hb pins s1 σ H1 _ I1 q1) fun u s2 ⟨y, H2, I2, r2, q2⟩ => ?_
  exact hf v u s2 x y H2 I2 r1 r2 q2
theorem GF {op : Operator} {r : R2} (ho : cI X (binaryOp op) r) (ha : PE X a ta) (hb : PE X b tb) : PE X (.BinOp a op b pos) (Ht r ta tb) := by
  intro pins s σ H Q I h
  exact wpAny_BinOp (FA ha hb I h fun v u s2 x y H2 I2 rx ry q => ho pins s2 σ H2 x y v u Q I2 rx ry q)
theorem GE {op : UnaryOp} {r : V -> Hp -> VK -> Prop} (ho : FJ X (unaryOp op) r) (ha : PE X a ta) : PE X (.UnaryOp op a pos) (N0 r ta) := by
  intro pins s σ H Q I h
  exact UnaryOp_ (aN (ha pins s σ H _ I h) fun v s1 ⟨x, H1, I1, r1, q1⟩ => ho pins s1 σ H1 x v Q I1 r1 q1)
theorem tq {f : Value -> Value -> Sem Value} {C : Int -> Int -> Prop} {g : Int -> Int -> Int}
    (rule : ∀ (i j : Int) (t u : Tok) (s : Shared) (Q : Value -> Shared -> Prop) (E : Value -> Shared -> Prop), C i j -> Q (.int (g i j) s.toks) { s with toks := s.toks + 1 } -> wpAny (model X.prog X.w) X.A (f (.int i t) (.int j u)) Q E s) :
    cI X f (rI C fun i j => .int (g i j)) := by
  intro pins s σ H x y v u Q I rx ry h
  obtain ⟨i, j, rfl, rfl, hc, q⟩ := h
  obtain ⟨t, rfl⟩ := rx
  obtain ⟨t', rfl⟩ := ry
  exact rule i j t t' s _ _ hc ⟨.int (g i j), H, I.tok _, ⟨_, rfl⟩, q⟩
theorem uv {f : Value -> Value -> Sem Value} {g : Int -> Int -> Int}
    (rule : ∀ (i j : Int) (t u : Tok) (s : Shared) (Q : Value -> Shared -> Prop) (E : Value -> Shared -> Prop), Q (.int (g i j) s.toks) { s with toks := s.toks + 1 } -> wpAny (model X.prog X.w) X.A (f (.int i t) (.int j u)) Q E s) :
    cI X f (jm fun i j => .int (g i j)) := by
  intro pins s σ H x y v u Q I rx ry h
  obtain ⟨i, j, rfl, rfl, q⟩ := h
  obtain ⟨t, rfl⟩ := rx
  obtain ⟨t', rfl⟩ := ry
  exact rule i j t t' s _ _ ⟨.int (g i j), H, I.tok _, ⟨_, rfl⟩, q⟩
theorem uw {f : Value -> Value -> Sem Value} {g : Int -> Int -> Bool}
    (rule : ∀ (i j : Int) (t u : Tok) (s : Shared) (Q : Value -> Shared -> Prop) (E : Value -> Shared -> Prop), Q (.bool (g i j)) s -> wpAny (model X.prog X.w) X.A (f (.int i t) (.int j u)) Q E s) :
    cI X f (jm fun i j => .bl (g i j)) := by
  intro pins s σ H x y v u Q I rx ry h
  obtain ⟨i, j, rfl, rfl, q⟩ := h
  obtain ⟨t, rfl⟩ := rx
  obtain ⟨t', rfl⟩ := ry
  exact rule i j t t' s _ _ ⟨.bl (g i j), H, I, rfl, q⟩
def NX (i j : Int) : Prop := 0 <= j /\ j <= 1000000 /\ i.natAbs < 2 ^ 64
theorem DD : cI X (binaryOp .Add) (jm fun i j => .int (i + j)) := uv fun _ _ _ _ _ _ _ q => add_int q
theorem DA : cI X (binaryOp .Sub) (jm fun i j => .int (i - j)) := uv fun _ _ _ _ _ _ _ q => sub_int q
theorem A6 : cI X (binaryOp .Mod) (rI (fun _ j => j ≠ 0) fun i j => .int (i.fmod j)) := tq fun _ _ _ _ _ _ _ hc q => mod_int' hc q
theorem DB : cI X (binaryOp .Pow) (rI NX fun i j => .int (i ^ j.toNat)) := tq fun _ _ _ _ _ _ _ hc q => pow_int_small hc.1 hc.2.1 hc.2.2 q
theorem Bu : cI X (inplaceOp .Add) (jm fun i j => .int (i + j)) := uv fun _ _ _ _ _ _ _ q => iadd_int q
theorem Bt : cI X (inplaceOp .Sub) (jm fun i j => .int (i - j)) := uv fun _ _ _ _ _ _ _ q => isub_int q
theorem NY {f : Value -> Sem Value} {g : Int -> Int}
    (rule : ∀ (i : Int) (t : Tok) (s : Shared) (Q : Value -> Shared -> Prop) (E : Value -> Shared -> Prop), Q (.int (g i) s.toks) { s with toks := s.toks + 1 } -> wpAny (model X.prog X.w) X.A (f (.int i t)) Q E s) :
    FJ X f (rU fun i => .int (g i)) := by
  intro pins s σ H x v Q I rx h
  obtain ⟨i, rfl, q⟩ := h
  obtain ⟨t, rfl⟩ := rx
  exact rule i t s _ _ ⟨.int (g i), H, I.tok _, ⟨_, rfl⟩, q⟩
theorem Cp : FJ X (unaryOp .USub) (rU fun i => .int (-i)) := NY fun _ _ _ _ _ q => neg_int q
end
section
variable {X : Cx} {a b c : Expr} {ta tb tc : TE} {pos : Pos}
theorem wu {pins : List (Addr × Obj)} {σ : St} {H : Hp} {s : Shared} {Q : VK} {k k' : Bool} (I : ak X pins σ H s) (q : Q (.bl k) H) (e : k = k') : EP X pins σ Q (.bool k') s := by
  subst e
  exact ⟨.bl k, H, I, rfl, q⟩
theorem GI : cI X (compareOp .Lt) (jm fun i j => .bl (decide (i < j))) := uw fun _ _ _ _ _ _ _ q => lt_int q
theorem GJ : cI X (compareOp .LtE) (jm fun i j => .bl (decide (i <= j))) := uw fun _ _ _ _ _ _ _ q => le_int q
theorem GK : cI X (compareOp .Gt) (jm fun i j => .bl (decide (j < i))) := uw fun _ _ _ _ _ _ _ q => gt_int q
theorem GL : cI X (compareOp .GtE) (jm fun i j => .bl (decide (j <= i))) := uw fun _ _ _ _ _ _ _ q => ge_int q
theorem DC : cI X (compareOp .Is) (fun x y H Q => y = .non /\ Q (.bl (decide (x = .non))) H) := by
  intro pins s σ H x y v u Q I rx ry h
  obtain ⟨rfl, q⟩ := h
  cases ry
  refine is_none_gen (wu I q ?_)
  cases x <;> first
    | (cases rx; rfl)
    | (obtain ⟨t, rfl⟩ := rx; rfl)
theorem A0 : cI X (compareOp .IsNot) (fun x y H Q => y = .non /\ Q (.bl (!decide (x = .non))) H) := by
  intro pins s σ H x y v u Q I rx ry h
  obtain ⟨rfl, q⟩ := h
  cases ry
  refine isnot_none_gen (wu I q ?_)
  cases x <;> first
    | (cases rx; rfl)
    | (obtain ⟨t, rfl⟩ := rx; rfl)
def Gj (t : TE) : TT := fun σ H Q => t σ H fun x H' => ∃ k, x = .bl k /\ Q k H'
def vq (r r' : R2) (ta tb tc : TE) : TE := fun σ H Q => ta σ H fun x H1 => tb σ H1 fun y H2 => r x y H2 fun z H3 => ∃ k, z = .bl k /\
  (if k = true then tc σ H3 fun w' H4 => r' y w' H4 Q else Q (.bl false) H3)
theorem xL {op op' : CmpOp} {r r' : R2} (ho : cI X (compareOp op) r) (ho' : cI X (compareOp op') r') (ha : PE X a ta) (hb : PE X b tb) (hc : PE X c tc)
    (hm : lastMarks [op, op'] [b, c] = false := by with_unfolding_all rfl) : PE X (.Compare a [op, op'] [b, c] pos) (vq r r' ta tb tc) := by
  intro pins s σ H Q I h
  refine Compare_chain (aN (ha pins s σ H _ I h) fun v s1 ⟨x, H1, I1, r1, q1⟩ => chain_link (aN (hb pins s1 σ H1 _ I1 q1) fun u s2 ⟨y, H2, I2, r2, q2⟩ =>
    aN (ho pins s2 σ H2 x y v u _ I2 r1 r2 q2) fun d s3 ⟨z, H3, I3, r3, k, e, q3⟩ => ?_)) hm
  subst e
  cases r3
  refine wpAny_truthy_bool ?_
  cases k with
  | false => exact ite_ff ⟨.bl false, H3, I3, rfl, q3⟩
  | true => exact ite_tt (chain_last (aN (hc pins s3 σ H3 _ I3 q3) fun w' s4 ⟨z', H4, I4, r4, q4⟩ => ho' pins s4 σ H4 y z' u w' Q I4 r2 r4 q4))
theorem xD {op op' : CmpOp} {r r' : R2} (ho : cI X (compareOp op) r) (ho' : cI X (compareOp op') r') (ha : PE X a ta) (hb : PE X b tb) (hc : PE X c tc)
    (hm : lastMarks [op, op'] [b, c] = false := by with_unfolding_all rfl) : PT X (.Compare a [op, op'] [b, c] pos) (Gj (vq r r' ta tb tc)) := by
  intro pins s σ H Q I h
  refine isTrue_chain (aN (ha pins s σ H _ I h) fun v s1 ⟨x, H1, I1, r1, q1⟩ => test_link (aN (hb pins s1 σ H1 _ I1 q1) fun u s2 ⟨y, H2, I2, r2, q2⟩ =>
    aN (ho pins s2 σ H2 x y v u _ I2 r1 r2 q2) fun d s3 ⟨z, H3, I3, r3, k, e, q3⟩ => ?_)) hm
  subst e
  cases r3
  refine wpAny_truthy_bool ?_
  cases k with
  | false =>
    obtain ⟨k', e', q'⟩ := q3
    cases e'
    exact ite_ff ⟨H3, I3, q'⟩
  | true =>
    refine ite_tt (test_last (aN (hc pins s3 σ H3 _ I3 q3) fun w' s4 ⟨z', H4, I4, r4, q4⟩ => aN (ho' pins s4 σ H4 y z' u w' _ I4 r2 r4 q4) fun d' s5 ⟨z2, H5, I5, r5, k2, e2, q5⟩ => ?_))
    subst e2
    cases r5
    exact wpAny_truthy_bool ⟨H5, I5, q5⟩
theorem mU : (sizeLine : Nat) < 2 ^ 63 := by rw [sizeLine_eq]; decide
theorem d8 {x : V} {us : List Value} (r : aJ [x] us) : ∃ u, us = [u] /\ aQ x u := by
  cases r with
  | cons r1 r2 => cases r2; exact ⟨_, rfl, r1⟩
theorem mB {x y : V} {us : List Value} (r : aJ [x, y] us) : ∃ u w', us = [u, w'] /\ aQ x u /\ aQ y w' := by
  cases r with
  | cons r1 r2 =>
    cases r2 with
    | cons r3 r4 => cases r4; exact ⟨_, _, rfl, r1, r3⟩
theorem yE : dS X (.builtin "abs") (fun xs H Q => ∃ i, xs = [.int i] /\ Q (.int (if i < 0 then -i else i)) H) := by
  intro pins s σ H xs us Q I r h
  obtain ⟨i, rfl, q⟩ := h
  obtain ⟨u, rfl, t, rfl⟩ := d8 r
  exact call_abs_int fun u tk => ⟨.int (if i < 0 then -i else i), H, I.tok _, ⟨_, rfl⟩, q⟩
theorem o0 : dS X (.type "int") (fun xs H Q => (∃ i, xs = [.int i] /\ Q (.int i) H) \/ ∃ k, xs = [.bl k] /\ Q (.int (if k then 1 else 0)) H) := by
  intro pins s σ H xs us Q I r h
  rcases h with ⟨i, rfl, q⟩ | ⟨k, rfl, q⟩
  . obtain ⟨u, rfl, t, rfl⟩ := d8 r
    exact call_int_int ⟨.int i, H, I, ⟨_, rfl⟩, q⟩
  . obtain ⟨u, rfl, r1⟩ := d8 r
    cases r1
    exact call_int_bool ⟨.int (if k then 1 else 0), H, I.tok _, ⟨_, rfl⟩, q⟩
end
end L2
namespace L2
open PySem PySem.Spec PyProof.Rows
structure r6 (h : Heap) (x dx C : Addr) (mA : Str -> Option Value) : Prop where
  obj : h.get? x = some (W.instObj C dx)
  ns : h.Ns1 dx mA
  ne : dx ≠ x
theorem v3 {h : Heap} {dx : Addr} {mA : Str -> Option Value} (n : h.Ns1 dx mA) : ∃ od, h.get? dx = some od /\ ∀ name, W.lookIn name od = some (mA name) := by
  obtain ⟨o, es, ep, ho, hd, hk, _, hm⟩ := n
  refine ⟨o, ho, fun name => ?_⟩
  have e := hm name
  unfold nsFind findBy at e
  rw [<- Array.find?_toList] at e
  unfold W.lookIn
  rw [hd]
  dsimp only
  split
  . rename_i y q
    rw [q] at e
    exact congrArg some e
  . rename_i q
    rw [q] at e
    have a : es.toList.any (·.refKey) = false := by
      rw [List.any_eq_false]
      intro y hy
      obtain ⟨z, t, hkey⟩ := hk y (Array.mem_toList_iff.mp hy)
      simp [DictEntry.refKey, hkey]
    have a' : ¬ es.toList.any (·.refKey) = true := by rw [a]; exact Bool.false_ne_true
    rw [if_neg a']
    exact congrArg some e
theorem r6.look {h : Heap} {x dx C : Addr} {mA : Str -> Option Value} (I : r6 h x dx C mA) : ∃ od, W.InstAt h x (W.instObj C dx) C (some od) /\ ∀ name, W.lookIn name od = some (mA name) :=
  let ⟨od, ho, hl⟩ := v3 I.ns
  ⟨od, ⟨I.obj, rfl, rfl, ho⟩, hl⟩
section
variable {prog : Program} {w : World} {A : Around} {E : Value -> Shared -> Prop} {s : Shared} {K : W.Frag} {x dx C f : Addr} {mA : Str -> Option Value} {name : Str} {v : Value}
theorem BB {expr : Bool} {Q : Value -> Shared -> Prop} (X : K.In s.heap) (I : r6 s.heap x dx C mA) (hg : W.plainGet K C name = true) (hh : W.hasDictIn K C = true)
    (ha : W.findIn K (.ref C) name = some none) (hv : mA name = some v) (hv' : W.handedIn v = true) (h : Q v { s with toks := s.toks + 1 }) :
    wpAny (model prog w) A (getAttr (.ref x) name expr) Q E s := by
  obtain ⟨od, J, hl⟩ := I.look
  exact W.get_value X J (W.plainGet_of hg).1 (W.findObj_own hh ha rfl (by rw [hl, hv])) hv' h
theorem ym {pl : Sem Bool} {Q : Value × List Value -> Shared -> Prop} (X : K.In s.heap) (I : r6 s.heap x dx C mA) (hg : W.plainGet K C name = true)
    (hf : W.findIn K (.ref C) name = some (some (.ref f))) (ht : W.isFn K (.ref f) = true) (hv : mA name = none) (h : Q (.ref f, [.ref x]) s) :
    wpAny (model prog w) A (getMethod (.ref x) name pl) Q E s := by
  obtain ⟨od, J, hl⟩ := I.look
  exact W.method_fn X J (W.plainGet_of hg).1 (W.plainGet_of hg).2 hf (beq_iff_eq.mp ht) (by show (W.lookIn name od).map (·.isSome) = some false; rw [hl, hv]; rfl) h
theorem xW {R : Result -> Shared -> Prop} {vs : List Value} {kw : List (Str × Value)} (X : K.In s.heap) (hm : W.makesIn K C = true)
    (hi : W.findIn K (.ref C) "__init__" = some (some (.ref f))) (hf : W.typeIn K (.ref f) = some (.type "function"))
    (h : codeAny (model prog w) (A.under (.builtin "type.__call__" ⟨.ref C :: vs, kw⟩)) (.call (.ref f) ⟨.ref (s.heap.objs.size + 1) :: vs, kw⟩) (W.InitBack (s.heap.objs.size + 1) R)
      { s with heap := (s.heap.push W.emptyDict).push (W.instObj C s.heap.objs.size) }) :
    codeAny (model prog w) A (.call (.ref C) ⟨vs, kw⟩) R s := by
  obtain ⟨hh, g, d, t, os⟩ := s
  exact W.make_core (W.makes_of X hm) (W.looks_findIn X hi) (fun self => W.bind_fn X self hf) (.inl rfl) h
end
theorem eU.some_of {v : V} {o : Option Value} (r : eU (some v) o) : ∃ u, o = some u /\ aQ v u := by
  cases o with
  | none => exact (show False from r).elim
  | some u => exact ⟨u, rfl, r⟩
theorem eU.none_of {o : Option Value} (r : eU none o) : o = none := by
  cases o with
  | none => rfl
  | some u => exact (show False from r).elim
theorem wm {v : V} {u : Value} (r : aQ v u) : W.handedIn u = true := by
  cases v with
  | non => cases (show u = Value.none from r); rfl
  | bl b => cases (show u = Value.bool b from r); rfl
  | int i => obtain ⟨t, e⟩ := (show ∃ t, u = Value.int i t from r); cases e; rfl
  | str x => obtain ⟨t, e⟩ := (show ∃ t, u = Value.str x t from r); cases e; rfl
  | byt b => obtain ⟨t, e⟩ := (show ∃ t, u = Value.bytes b t from r); cases e; rfl
  | flt b => obtain ⟨t, e⟩ := (show ∃ t, u = Value.float b t from r); cases e; rfl
  | ref a => cases (show u = Value.ref a from r); rfl
  | ty n => cases (show u = Value.type n from r); rfl
section
variable {P : Program} {w : World} {H H' : Hp} {h h' : Heap} {a C dx : Addr} {fs fs' : List (Str × V)}
theorem ol (hok : dn P w H h) (e : H a = some (.ins C dx fs)) : ∃ mA, r6 h a dx C mA /\ (∀ f, eU (fs.lookup f) (mA f)) /\ PySem.Within mA (fs.map (·.1)) /\ fs.length <= 1000 /\ H dx = some (.own a) := by
  obtain ⟨d, z, ne, ob, mA, n, r, q⟩ := (show bV P w H h a (.ins C dx fs) from hok a _ e)
  exact ⟨mA, ⟨ob, n, ne⟩, r, q, z, d⟩
end
structure fZ (K : W.Frag) (C : Addr) : Prop where
  pg : W.plainGet K C Str.empty = true
  hd : W.hasDictIn K C = true
  po : W.plainOver K C = true
  sa : W.findIn K (.ref C) "__setattr__" = some (some (.builtin "object.__setattr__"))
theorem fZ.get {K : W.Frag} {C : Addr} (c : fZ K C) (f : Str) : W.plainGet K C f = true := c.pg
def nO (K : W.Frag) (C : Addr) (f : Str) : Prop := W.findIn K (.ref C) f = some none
structure r8 (K : W.Frag) (C : Addr) (m : Str) (f : Addr) : Prop where
  at_ : W.findIn K (.ref C) m = some (some (.ref f))
  fn : W.isFn K (.ref f) = true
  kp : W.keepIn K (.ref f) = true
section
variable {X : Cx} {pins : List (Addr × Obj)} {σ : St} {H : Hp} {s : Shared} {a C dx : Addr} {fs : List (Str × V)} {f : Str} {v : V} {A : Around} {E : Value -> Shared -> Prop}
theorem uM {b : Bool} {Q : Value -> Shared -> Prop} (I : ak X pins σ H s) (e : H a = some (.ins C dx fs)) (c : fZ X.K C) (n : nO X.K C f) (l : fs.lookup f = some v)
    (h : ∀ u s', ak X pins σ H s' -> aQ v u -> Q u s') : wpAny (model X.prog X.w) A (getAttr (.ref a) f b) Q E s := by
  obtain ⟨mA, O, r, _, _, _⟩ := ol I.hok e
  obtain ⟨u, hu, ru⟩ := eU.some_of (v := v) (o := mA f) (by rw [<- l]; exact r f)
  exact BB I.kIn O (c.get f) c.hd n hu (wm ru) (h u _ (I.tok _) ru)
theorem m9 {m : Str} {g : Addr} {pl : Sem Bool} {Q : Value × List Value -> Shared -> Prop} (I : ak X pins σ H s) (e : H a = some (.ins C dx fs)) (c : fZ X.K C) (k : r8 X.K C m g) (l : fs.lookup m = none)
    (h : Q (.ref g, [.ref a]) s) : wpAny (model X.prog X.w) A (getMethod (.ref a) m pl) Q E s := by
  obtain ⟨mA, O, r, _, _, _⟩ := ol I.hok e
  have hn : mA m = none := eU.none_of (by rw [<- l]; exact r m)
  exact ym I.kIn O (c.get m) k.at_ k.fn hn h
theorem ak.made (I : ak X pins σ H s) : ak X pins σ (aV (aV H s.heap.objs.size (.own (s.heap.objs.size + 1))) (s.heap.objs.size + 1) (.ins C s.heap.objs.size []))
    { s with heap := (s.heap.push W.emptyDict).push (W.instObj C s.heap.objs.size) } := by
  have e1 : (s.heap.push W.emptyDict).get? s.heap.objs.size = some W.emptyDict := Heap.get?_push_size s.heap rfl
  have e2 : ((s.heap.push W.emptyDict).push (W.instObj C s.heap.objs.size)).get? (s.heap.objs.size + 1) = some (W.instObj C s.heap.objs.size) := by
    have := Heap.get?_push_size (s.heap.push W.emptyDict) (o := W.instObj C s.heap.objs.size) rfl
    rwa [Heap.size_push] at this
  have e3 : (s.heap.push W.emptyDict).Ns s.heap.objs.size (fun _ => none) := ⟨W.emptyDict, #[], _, e1, rfl, (fun e he => absurd he (by simp)), fun _ => rfl⟩
  have I1 := I.laid (a := s.heap.objs.size) (o := .own (s.heap.objs.size + 1)) (h' := s.heap.push W.emptyDict) (t' := s.toks) (fun b u q => Heap.get?_push_of_some _ q) (Nat.le_refl _) ⟨_, e1⟩
  refine I1.laid (a := s.heap.objs.size + 1) (o := .ins C s.heap.objs.size []) (t' := s.toks) (fun b u q => Heap.get?_push_of_some _ q) (Nat.le_of_eq (Heap.size_push _ _)) ?_
  have ne : s.heap.objs.size ≠ s.heap.objs.size + 1 := Nat.ne_of_lt (Nat.lt_succ_self _)
  refine ⟨by rw [aH ne, aO], Nat.zero_le _, ne, e2, fun _ => none, (Heap.Ns1.of_empty e3).at fun o q => Heap.get?_push_of_some _ q, fun _ => True.intro, fun y hy => absurd rfl hy⟩
theorem Cc {prog : Program} {w : World} {env : Env} {e : Expr} {f : Str} {pos : Pos} {s : Shared} {Q : Value -> Shared -> Prop} (hb : attributeBase e f env (eval e env) = eval e env)
    (h : wpAny (model prog w) A (eval e env) (fun o s₁ => wpAny (model prog w) A (getAttr o f true) Q E s₁) E s) : wpAny (model prog w) A (eval (.Attribute e f pos) env) Q E s :=
  Attribute_any_ h (by rw [arm_eval_Attribute, hb])
end
def HP (K : W.Frag) (ta : TE) (f : Str) : TE := fun σ H Q => ta σ H fun x H1 => ∃ a C dx fs v, x = .ref a /\ H1 a = some (.ins C dx fs) /\ fZ K C /\ nO K C f /\ fs.lookup f = some v /\ Q v H1
section
variable {X : Cx} {o e value : Expr} {f : Str} {pos pos' tpos : Pos} {ta tv : TE}
theorem Dr (he : PE X e ta) (hb : attributeBase e f X.env (eval e X.env) = eval e X.env) : PE X (.Attribute e f pos) (HP X.K ta f) := by
  intro pins s σ H Q I h
  refine Cc hb (aN (he pins s σ H _ I h) fun u s1 ⟨x, H1, I1, rx, a, C, dx, fs, v, ex, ea, c, n, l, q⟩ => ?_)
  subst ex
  obtain rfl : u = Value.ref a := rx
  exact uM I1 ea c n l fun u' s2 I2 ru => ⟨v, H1, I2, ru, q⟩
end
section
variable {X : Cx} {pins : List (Addr × Obj)} {σ : St} {H : Hp} {s : Shared} {A : Around} {E : Value -> Shared -> Prop} {Q : Value -> Shared -> Prop} {c : Value} {b : Bool}
inductive fU (K : W.Frag) (H : Hp) : V -> Value -> Prop where
  | non : fU K H .non (.type "NoneType")
  | bl (x : Bool) : fU K H (.bl x) (.type "bool")
  | int (i : Int) : fU K H (.int i) (.type "int")
  | str (x : Str) : fU K H (.str x) (.type "str")
  | flt (x : UInt64) : fU K H (.flt x) (.type "float")
  | lst {a : Addr} {xs : List V} (e : H a = some (.lst xs)) : fU K H (.ref a) (.type "list")
  | frz {a : Addr} {o : Obj} {xs : List V} (e : H a = some (.frz o (.lst xs))) : fU K H (.ref a) (.type "list")
  | tup {a : Addr} {xs : List V} (e : H a = some (.tup xs)) : fU K H (.ref a) (.type "tuple")
  | dK {a : Addr} {kvs : List (bO × V)} (e : H a = some (.dK kvs)) : fU K H (.ref a) (.type "dict")
  | dT {a : Addr} {kvs : List (List bO × V)} (e : H a = some (.dT kvs)) : fU K H (.ref a) (.type "dict")
  | ins {a C dx : Addr} {fs : List (Str × V)} (e : H a = some (.ins C dx fs)) (cl : fZ K C) (ha : W.findIn K (.ref C) "__class__" = some (some (.builtin "object.__class__")))
      (hn : W.specialIn K (.builtin "object.__class__") "__get__" = some (some (.builtin "getset_descriptor.__get__"))) (htk : W.takesIn K (.builtin "object.__class__") = some true)
      (hm : W.mroIn K C (.type "object") = some true) : fU K H (.ref a) (.ref C)
theorem oU {x : V} {u t : Value} (I : ak X pins σ H s) (rx : aQ x u) (ty : fU X.K H x t) (e : W.kitOne X.K t c = some b) (h : ∀ tk, Q (.bool b) { s with toks := tk }) :
    wpAny (model X.prog X.w) A (call (.builtin "isinstance") [u, c]) Q E s := by
  cases ty with
  | non => cases (show u = Value.none from rx); exact W.kia_one W.kitx_none I.kIn True.intro e (fun z => nomatch z) h
  | bl y => cases (show u = Value.bool y from rx); exact W.kia_one W.kitx_bool I.kIn True.intro e (fun z => nomatch z) h
  | int i => obtain ⟨t, q⟩ := (show ∃ t, u = Value.int i t from rx); cases q; exact W.kia_one W.kitx_int I.kIn True.intro e (fun z => nomatch z) h
  | str y => obtain ⟨t, q⟩ := (show ∃ t, u = Value.str y t from rx); cases q; exact W.kia_one W.kitx_str I.kIn True.intro e (fun z => nomatch z) h
  | flt y => obtain ⟨t, q⟩ := (show ∃ t, u = Value.float y t from rx); cases q; exact W.kia_one W.kitx_float I.kIn True.intro e (fun z => nomatch z) h
  | @lst a xs ea =>
    cases (show u = Value.ref a from rx)
    obtain ⟨_, _, n, _, h1⟩ := (show bV X.prog X.w H s.heap a (.lst xs) from I.hok a _ ea)
    exact W.kia_one W.kitx_list I.kIn ⟨_, h1, rfl⟩ e (fun z => nomatch z) h
  | @frz a ob xs ea =>
    cases (show u = Value.ref a from rx)
    obtain ⟨_, _, _, n, _, h1⟩ := (show bV X.prog X.w H s.heap a (.frz ob (.lst xs)) from I.hok a _ ea)
    exact W.kia_one W.kitx_list I.kIn ⟨_, h1, rfl⟩ e (fun z => nomatch z) h
  | @tup a xs ea =>
    cases (show u = Value.ref a from rx)
    obtain ⟨_, _, _, p⟩ := (show bV X.prog X.w H s.heap a (.tup xs) from I.hok a _ ea)
    obtain ⟨o, h1, h2, _⟩ := p
    exact W.kia_one W.kitx_tuple I.kIn ⟨o, h1, h2⟩ e (fun z => nomatch z) h
  | @dK a kvs ea =>
    cases (show u = Value.ref a from rx)
    obtain ⟨_, _, vs, _, p⟩ := (show bV X.prog X.w H s.heap a (.dK kvs) from I.hok a _ ea)
    obtain ⟨o, es, ep, h1, h2, _⟩ := p
    exact W.kia_one W.kitx_dict I.kIn ⟨o, h1, h2.1⟩ e (fun z => nomatch z) h
  | @dT a kvs ea =>
    cases (show u = Value.ref a from rx)
    obtain ⟨_, _, xs, _, o, es, ep, h1, h2, _⟩ := (show bV X.prog X.w H s.heap a (.dT kvs) from I.hok a _ ea)
    exact W.kia_one W.kitx_dict I.kIn ⟨o, h1, h2.1⟩ e (fun z => nomatch z) h
  | @ins a C dx fs ea cl ha hn htk hm =>
    cases (show u = Value.ref a from rx)
    obtain ⟨mA, O, _⟩ := ol I.hok ea
    obtain ⟨od, J, _⟩ := O.look
    exact W.kia_one (W.kitx_own (cl.get _) cl.hd ha hn htk hm) I.kIn J e (fun z => nomatch z) h
end
end L2
namespace L2
open PySem PySem.Spec PyProof.Rows
structure cf (k : Nat) (A : Around) : Prop where
  hd : A.handled = none
  dp : A.depth + 3 * k + 5 < recursionLimit
  un : A.units + 16 * k + 200 < cLine
theorem cf.mono {j k : Nat} {A : Around} (r : cf k A) (h : j <= k) : cf j A := ⟨r.hd, by have := r.dp; omega, by have := r.un; omega⟩
theorem cf.deeper {k : Nat} {A : Around} (r : cf (k + 1) A) (env : Env) : cf k (A.deeper env) :=
  ⟨r.hd, by have := r.dp; show A.depth + 1 + 3 * k + 5 < _; omega, by have := r.un; show A.units + 3 + 16 * k + 200 < _; omega⟩
theorem cf.in1 {k : Nat} {A : Around} (r : cf (k + 1) A) : cf k A.in1 :=
  ⟨r.hd, by have := r.dp; show A.depth + 3 * k + 5 < _; omega, by have := r.un; show A.units + 1 + 16 * k + 200 < _; omega⟩
theorem uE {A : Around} {C : Addr} {us : List Value} {kw : List (Str × Value)} : (A.under (.builtin "type.__call__" ⟨.ref C :: us, kw⟩)).depth = A.depth + 1 := by
  first | rfl | simp [Around.under, Code.weight, Code.isCreation, Code.isGuard, Code.isCaller, Code.frames, Code.isFrame, guardIds]
theorem uD {A : Around} {C : Addr} {us : List Value} {kw : List (Str × Value)} : (A.under (.builtin "type.__call__" ⟨.ref C :: us, kw⟩)).units = A.units + 1 := by
  first | rfl | simp [Around.under, Code.cUnits, Code.frames, Code.isFrame]
theorem cf.make {k : Nat} {A : Around} (r : cf (k + 1) A) (C : Addr) (us : List Value) (kw : List (Str × Value)) : cf k (A.under (.builtin "type.__call__" ⟨.ref C :: us, kw⟩)) :=
  ⟨r.hd, by have := r.dp; rw [uE]; omega, by have := r.un; rw [uD]; omega⟩
theorem cf.depth {k : Nat} {A : Around} (r : cf k A) : A.depth < recursionLimit := by have := r.dp; omega
theorem cf.units {k : Nat} {A : Around} (r : cf k A) : A.units + 64 < cLine := by have := r.un; omega
def ug : TA := fun _ H Q => Q [] H
def Gq (ta : TE) (tr : TA) : TA := fun σ H Q => ta σ H fun x H1 => tr σ H1 fun xs H2 => Q (x :: xs) H2
section
variable {X : Cx} {e : Expr} {es : List Expr} {te : TE} {t : TA} {pos : Pos}
theorem Dw : PA X [] ug := fun _ _ _ _ H Q I h => Calls.spliced_nil ⟨[], H, I, .nil, h⟩
theorem AZ (ha : PE X e te) (hr : PA X es t) (hs : starEach (e :: es) X.env = (false, eval e X.env) :: starEach es X.env := by rfl) : PA X (e :: es) (Gq te t) := by
  intro pos pins s σ H Q I h
  rw [hs]
  show wpAny _ _ (spliced ((false, eval e X.env) :: backTo pos (starEach es X.env))) _ _ s
  refine Calls.spliced_cons (aN (ha pins s σ H _ I h) fun u s1 ⟨x, H1, I1, r1, q1⟩ => ?_)
  exact aN (hr pos pins s1 σ H1 _ I1 q1) fun us s2 ⟨xs, H2, I2, r2, q2⟩ => ⟨x :: xs, H2, I2, .cons r1 r2, q2⟩
def HF (t : TA) : TE := fun σ H Q => t σ H fun xs H1 => xs.length <= sizeLine /\ ∀ p, H1 p = none -> Q (.ref p) (aV H1 p (.tup xs))
def HL (t : TA) : TE := fun σ H Q => t σ H fun xs H1 => xs.length <= sizeLine /\ ∀ p, H1 p = none -> Q (.ref p) (aV H1 p (.lst xs))
theorem Dk {x1} (h : PA X es t) : PE X (.Tuple es x1 pos) (HF t) := by
  intro pins s σ H Q I hq
  refine wpAny_Tuple_spliced (aN (h pos pins s σ H _ I hq) fun us s1 ⟨xs, H1, I1, r, z, q⟩ => ⟨by rw [<- r.length]; exact z, ?_⟩)
  have hf : H1 s1.heap.objs.size = none := I1.hok.fresh (Nat.le_refl _)
  refine ⟨.ref s1.heap.objs.size, aV H1 s1.heap.objs.size (.tup xs), I1.laid (t' := s1.toks) (fun b u e => Heap.get?_push_of_some _ e) (Nat.le_refl _) ?_, rfl, q _ hf⟩
  exact ⟨z, us, r, ⟨_, Heap.get?_push_size _ rfl, rfl, _, rfl⟩⟩
theorem Dp (h : PA X es t) : PE X (.List es pos) (HL t) := by
  intro pins s σ H Q I hq
  refine wpAny_List_spliced (aN (h pos pins s σ H _ I hq) fun us s1 ⟨xs, H1, I1, r, z, q⟩ => ⟨by rw [<- r.length]; exact z, ?_⟩)
  have hf : H1 s1.heap.objs.size = none := I1.hok.fresh (Nat.le_refl _)
  refine ⟨.ref s1.heap.objs.size, aV H1 s1.heap.objs.size (.lst xs), I1.laid (t' := s1.toks) (fun b u e => Heap.get?_push_of_some _ e) (Nat.le_refl _) ?_, rfl, q _ hf⟩
  exact ⟨z, us, 0, r, Heap.get?_push_size _ rfl⟩
end
abbrev Sp := List V -> Hp -> VK -> XK -> Prop
abbrev jt := List Env -> Hp -> Shared -> XK -> Value -> Shared -> Prop
structure iB (P : Program) (w : World) (K : W.Frag) (mg : Str -> Option Value) (base : Heap) (A : Around) (outer : List Env) (s : Shared) (H : Hp) : Prop where
  frames : A.frames = some outer
  mod : Mod K mg base
  bs : ∀ b o, base.get? b = some o -> s.heap.get? b = some o /\ H b = none
  bsz : base.objs.size <= s.heap.objs.size
  funs : s.heap.FunFrames base outer
  frf : ∀ b ∈ iL outer, H b = none
  hok : dn P w H s.heap
  bare : AllBare s.gens
def CE (outer : List Env) (P : Program) (w : World) (H : Hp) (s : Shared) (Q : VK) (u : Value) (s' : Shared) : Prop :=
  ∃ v H', s'.os = s.os /\ AllBare s'.gens /\ Un (iL outer) [] H H' s.heap s'.heap /\ dn P w H' s'.heap /\ aQ v u /\ Q v H'
def CR (CX : jt) (outer : List Env) (P : Program) (w : World) (H : Hp) (s : Shared) (Q : VK) (E : XK) (r : Result) (s' : Shared) : Prop :=
  match r with
  | .ok (.ret u) => CE outer P w H s Q u s'
  | .ok _ => False
  | .error e => CX outer H s E e s'
structure cH (P : Program) (w : World) (K : W.Frag) (mg : Str -> Option Value) (base : Heap) (CX : jt) (k : Nat) (f : Addr) (fd : FuncData) (ps : List Str) (sp : Sp) : Prop where
  len : ∀ vs H Q E, sp vs H Q E -> vs.length = ps.length
  run : ∀ (A : Around) (outer : List Env) (s : Shared) (H : Hp) (args : Args) (us : List Value) (vs : List V) (Q : VK) (E : XK), cf k A -> iB P w K mg base A outer s H -> BindsTo s fd args (ps.zip us) -> aJ vs us -> sp vs H Q E ->
    codeAny (model P w) A (.call (.ref f) args) (CR CX outer P w H s Q E) s
theorem cH.mono {P : Program} {w : World} {K : W.Frag} {mg : Str -> Option Value} {base : Heap} {CX : jt} {j k : Nat} {f : Addr} {fd : FuncData} {ps : List Str} {sp : Sp} (F : cH P w K mg base CX j f fd ps sp) (h : j <= k) :
    cH P w K mg base CX k f fd ps sp := ⟨F.len, fun A outer s H args us vs Q E hr => F.run A outer s H args us vs Q E (hr.mono h)⟩
theorem iB.make {P : Program} {w : World} {K : W.Frag} {mg : Str -> Option Value} {base : Heap} {A : Around} {outer : List Env} {s : Shared} {H : Hp} (e : iB P w K mg base A outer s H) (C : Addr) (us : List Value) (kw : List (Str × Value)) :
    iB P w K mg base (A.under (.builtin "type.__call__" ⟨.ref C :: us, kw⟩)) outer s H := ⟨by first | exact e.frames | (simpa [Around.under, Code.envs, Code.isFrame, pushEnvs] using e.frames), e.mod, e.bs, e.bsz, e.funs, e.frf, e.hok, e.bare⟩
theorem iB.in1 {P : Program} {w : World} {K : W.Frag} {mg : Str -> Option Value} {base : Heap} {A : Around} {outer : List Env} {s : Shared} {H : Hp} (e : iB P w K mg base A outer s H) :
    iB P w K mg base A.in1 outer s H := ⟨e.frames, e.mod, e.bs, e.bsz, e.funs, e.frf, e.hok, e.bare⟩
section
variable {X : Cx} {pins : List (Addr × Obj)} {σ : St} {H : Hp} {s s' : Shared}
theorem ak.env0 (I : ak X pins σ H s) : iB X.prog X.w X.K X.mg X.base X.A X.stack s H :=
  ⟨I.ok.frames, I.ok.mod, I.bs, Nat.le_trans I.ok.bsz I.sz, I.stack, I.stkFree, I.hok, I.bare⟩
theorem ak.after {Q : VK} {u : Value} (I : ak X pins σ H s) (h : CE X.stack X.prog X.w H s Q u s') : EP X pins σ Q u s' := by
  obtain ⟨v, H', os, bare, un, hok, r, q⟩ := h
  obtain ⟨hh, g, d, t, os'⟩ := s'
  obtain rfl : os' = s.os := os
  exact ⟨v, H', I.call (h' := hh) (g' := g) (d' := d) (t' := t) (ch := []) un hok bare (fun b z => absurd z (by simp)), r, q⟩
end
def zq (sp : Sp) (dvs : List V) (E : XK) (t : TA) : TE := fun σ H Q => t σ H fun vs H1 => sp (vs ++ dvs) H1 Q E
def zn (C : Addr) (m : Str) (sp : Sp) (dvs : List V) (E : XK) (ta : TE) (t : TA) : TE := fun σ H Q => ta σ H fun x H1 => ∃ a dx fs, x = .ref a /\ H1 a = some (.ins C dx fs) /\ fs.lookup m = none /\
  t σ H1 fun vs H2 => sp (x :: (vs ++ dvs)) H2 Q E
def zp (C : Addr) (sp : Sp) (dvs : List V) (E : XK) (t : TA) : TE := fun σ H Q => t σ H fun vs H1 => ∀ x dx, H1 x = none -> H1 dx = none -> dx ≠ x ->
  sp (.ref x :: (vs ++ dvs)) (aV (aV H1 dx (.own x)) x (.ins C dx [])) (fun v H2 => v = .non /\ Q (.ref x) H2) E
def cN (K : W.Frag) (fd : FuncData) (ps : List Str) (ds : List Value) : Prop :=
  ∀ (s : Shared) (us : List Value), K.In s.heap -> (us ++ ds).length = ps.length -> BindsTo s fd ⟨us, []⟩ (ps.zip (us ++ ds))
theorem cN.all {K : W.Frag} {fd : FuncData} {ps : List Str} (h : ∀ us : List Value, us.length = ps.length -> bindArgs fd ⟨us, []⟩ = pure (ps.zip us)) : cN K fd ps [] := fun s us _ hl => by
  rw [List.append_nil] at hl ⊢
  exact .of_eq (h us hl)
def fk (CX : jt) (X : Cx) (E : XK) : Prop := ∀ (pins : List (Addr × Obj)) (σ : St) (H : Hp) (s : Shared) (e : Value) (s' : Shared), ak X pins σ H s -> CX X.stack H s E e s' -> X.xe e s'
section
variable {X : Cx} {CX : jt} {k : Nat} {f C : Addr} {fd : FuncData} {ps : List Str} {sp : Sp} {dvs : List V} {ds : List Value} {E : XK} {x m : Str} {p pos apos : Pos} {e o : Expr} {es : List Expr} {ta : TE} {t : TA}
theorem mJ {pins : List (Addr × Obj)} {σ : St} {H : Hp} {s : Shared} {Q : VK} {us : List Value} {vs : List V} (F : cH X.prog X.w X.K X.mg X.base CX k f fd ps sp) (hr : cf k X.A) (hb : cN X.K fd ps ds) (hd : aJ dvs ds) (hx : fk CX X E)
    (I : ak X pins σ H s) (r : aJ vs us) (h : sp (vs ++ dvs) H Q E) : wpAny (model X.prog X.w) X.A (call (.ref f) us) (EP X pins σ Q) X.xe s := by
  have r2 : aJ (vs ++ dvs) (us ++ ds) := r.append hd
  have hl : (us ++ ds).length = ps.length := by rw [<- r2.length]; exact F.len _ _ _ _ h
  refine wpAny_call (codeAny_mono (F.run X.A X.stack s H ⟨us, []⟩ (us ++ ds) (vs ++ dvs) Q E hr I.env0 (hb s us I.kIn hl) r2 h) fun r s' hq => ?_)
  cases r with
  | error e => exact hx pins σ H s e s' I hq
  | ok fl =>
    cases fl with
    | ret u => exact I.after hq
    | next => exact False.elim hq
    | brk => exact False.elim hq
    | cont => exact False.elim hq
theorem AW (F : cH X.prog X.w X.K X.mg X.base CX k f fd ps sp) (hr : cf k X.A) (hg : Gl X x) (hm : X.mg x = some (.ref f)) (hk : W.keepIn X.K (.ref f) = true) (hb : cN X.K fd ps ds) (hd : aJ dvs ds) (hx : fk CX X E)
    (ha : PA X (e :: es) t) (hdb : (x == ("__debug__" : Str)) = false := by decide) (he : starEach (e :: es) X.env = (false, eval e X.env) :: starEach es X.env := by rfl) (hpl : (backTo pos (starEach es X.env)).any (·.1) = false := by rfl) :
    PE X (.Call (.Name x p) (e :: es) [] pos) (zq sp dvs E t) := by
  intro pins s σ H Q I h
  refine wpAny_Call_Name_kw (iK I hg hm ?_ hdb)
  refine W.callWith_K (h₀ := X.base) I.ok.mod.kin hk (aN (ha pos pins s σ H _ I h) fun us s1 ⟨vs, H1, I1, r, q⟩ => ⟨I1.kIn, ?_⟩) he hpl
  exact mJ F hr hb hd hx I1 r q
theorem xN (F : cH X.prog X.w X.K X.mg X.base CX k f fd ps sp) (hr : cf k X.A) (hg : Gl X x) (hm : X.mg x = some (.ref f)) (hk : W.keepIn X.K (.ref f) = true) (hb : cN X.K fd ps ds) (hd : aJ dvs ds) (hx : fk CX X E)
    (hdb : (x == ("__debug__" : Str)) = false := by decide) : PE X (.Call (.Name x p) [] [] pos) (zq sp dvs E ug) := by
  intro pins s σ H Q I h
  refine wpAny_Call_Name_kw (iK I hg hm ?_ hdb)
  exact W.callWith_K0 I.kIn hk (mJ (us := []) F hr hb hd hx I .nil h)
theorem AT {pl : Sem Bool} (he : PE X o ta) (c : fZ X.K C) (hm : r8 X.K C m f) (F : cH X.prog X.w X.K X.mg X.base CX k f fd ps sp) (hr : cf k X.A) (hb : cN X.K fd ps ds) (hd : aJ dvs ds) (hx : fk CX X E) (ha : PA X (e :: es) t)
    (hst : starEach (e :: es) X.env = (false, eval e X.env) :: starEach es X.env := by rfl) (hpl : (backTo pos (starEach es X.env)).any (·.1) = false := by rfl)
    (ht : eval (.Call (.Attribute o m apos) (e :: es) [] pos) X.env = (do
      let ov <- eval o X.env
      standAt apos.atName
      let (f, first) <- holding [ov] (getMethod ov m pl)
      callWith pos f first (backTo pos (starEach (e :: es) X.env)) (backToKw pos (keywordEach [] X.env))) := by rfl) :
    PE X (.Call (.Attribute o m apos) (e :: es) [] pos) (zn C m sp dvs E ta t) := by
  intro pins s σ H Q I h
  refine W.methodCall_KW (pl := pl) (aN (he pins s σ H _ I h) fun u s1 ⟨x, H1, I1, rx, a, dx, fs, ex, ea, l, q⟩ => ?_) ht
  subst ex
  obtain rfl : u = Value.ref a := rx
  refine m9 I1 ea c hm l ?_
  refine W.callWith_K (first := [.ref a]) (h₀ := X.base) I.ok.mod.kin hm.kp (aN (ha pos pins s1 σ H1 _ I1 q) fun us s2 ⟨vs, H2, I2, r, q2⟩ => ⟨I2.kIn, ?_⟩) hst hpl
  exact mJ (us := .ref a :: us) (vs := .ref a :: vs) F hr hb hd hx I2 (.cons rfl r) q2
theorem xJ {pl : Sem Bool} (he : PE X o ta) (c : fZ X.K C) (hm : r8 X.K C m f) (F : cH X.prog X.w X.K X.mg X.base CX k f fd ps sp) (hr : cf k X.A) (hb : cN X.K fd ps ds) (hd : aJ dvs ds) (hx : fk CX X E)
    (ht : eval (.Call (.Attribute o m apos) [] [] pos) X.env = (do
      let ov <- eval o X.env
      standAt apos.atName
      let (f, first) <- holding [ov] (getMethod ov m pl)
      callWith pos f first (backTo pos (starEach [] X.env)) (backToKw pos (keywordEach [] X.env))) := by rfl) :
    PE X (.Call (.Attribute o m apos) [] [] pos) (zn C m sp dvs E ta ug) := by
  intro pins s σ H Q I h
  refine W.methodCall_KW (pl := pl) (aN (he pins s σ H _ I h) fun u s1 ⟨x, H1, I1, rx, a, dx, fs, ex, ea, l, q⟩ => ?_) ht
  subst ex
  obtain rfl : u = Value.ref a := rx
  refine m9 I1 ea c hm l ?_
  exact W.callWith_K0 (first := [.ref a]) I1.kIn hm.kp (mJ (us := [.ref a]) (vs := [.ref a]) F hr hb hd hx I1 (.cons rfl .nil) q)
structure Mk (K : W.Frag) (C f : Addr) : Prop where
  makes : W.makesIn K C = true
  init : W.findIn K (.ref C) "__init__" = some (some (.ref f))
  fn : W.isFn K (.ref f) = true
  kp : W.keepIn K (.ref C) = true
theorem qp {pins : List (Addr × Obj)} {σ : St} {H : Hp} {s : Shared} {Q : VK} {us : List Value} {vs : List V} (M : Mk X.K C f) (F : cH X.prog X.w X.K X.mg X.base CX k f fd ps sp) (hr : cf (k + 1) X.A) (hb : cN X.K fd ps ds) (hd : aJ dvs ds)
    (hx : fk CX X E) (I : ak X pins σ H s) (r : aJ vs us)
    (h : ∀ x dx, H x = none -> H dx = none -> dx ≠ x -> sp (.ref x :: (vs ++ dvs)) (aV (aV H dx (.own x)) x (.ins C dx [])) (fun v H2 => v = .non /\ Q (.ref x) H2) E) :
    wpAny (model X.prog X.w) X.A (call (.ref C) us) (EP X pins σ Q) X.xe s := by
  have hq := h (s.heap.objs.size + 1) s.heap.objs.size (I.hok.fresh (Nat.le_succ _)) (I.hok.fresh (Nat.le_refl _)) (Nat.ne_of_lt (Nat.lt_succ_self _))
  have I2 := ak.made (C := C) I
  have r2 : aJ (V.ref (s.heap.objs.size + 1) :: (vs ++ dvs)) (Value.ref (s.heap.objs.size + 1) :: (us ++ ds)) := .cons rfl (r.append hd)
  have hl : (Value.ref (s.heap.objs.size + 1) :: us ++ ds).length = ps.length := by
    have e := r2.length
    rw [F.len _ _ _ _ hq] at e
    exact e.symm
  refine wpAny_call (xW (f := f) I.kIn M.makes M.init (beq_iff_eq.mp M.fn) (codeAny_mono (F.run _ X.stack _ _ ⟨Value.ref (s.heap.objs.size + 1) :: us, []⟩ (Value.ref (s.heap.objs.size + 1) :: (us ++ ds)) _ _ E (hr.make C us [])
    (I2.env0.make C us []) (hb _ (Value.ref (s.heap.objs.size + 1) :: us) I2.kIn hl) r2 hq) fun r s' hq' => ?_))
  cases r with
  | error e => exact hx pins σ _ _ e s' I2 hq'
  | ok fl =>
    cases fl with
    | ret u =>
      obtain ⟨v, H', I3, rv, ev, q3⟩ := I2.after hq'
      subst ev
      exact ⟨rv, ⟨V.ref (s.heap.objs.size + 1), H', I3, rfl, q3⟩⟩
    | next => exact False.elim hq'
    | brk => exact False.elim hq'
    | cont => exact False.elim hq'
theorem AU (M : Mk X.K C f) (F : cH X.prog X.w X.K X.mg X.base CX k f fd ps sp) (hr : cf (k + 1) X.A) (hg : Gl X x) (hm : X.mg x = some (.ref C)) (hb : cN X.K fd ps ds) (hd : aJ dvs ds) (hx : fk CX X E)
    (ha : PA X (e :: es) t) (hdb : (x == ("__debug__" : Str)) = false := by decide) (he : starEach (e :: es) X.env = (false, eval e X.env) :: starEach es X.env := by rfl) (hpl : (backTo pos (starEach es X.env)).any (·.1) = false := by rfl) :
    PE X (.Call (.Name x p) (e :: es) [] pos) (zp C sp dvs E t) := by
  intro pins s σ H Q I h
  refine wpAny_Call_Name_kw (iK I hg hm ?_ hdb)
  refine W.callWith_K (h₀ := X.base) I.ok.mod.kin M.kp (aN (ha pos pins s σ H _ I h) fun us s1 ⟨vs, H1, I1, r, q⟩ => ⟨I1.kIn, ?_⟩) he hpl
  exact qp M F hr hb hd hx I1 r q
theorem xK (M : Mk X.K C f) (F : cH X.prog X.w X.K X.mg X.base CX k f fd ps sp) (hr : cf (k + 1) X.A) (hg : Gl X x) (hm : X.mg x = some (.ref C)) (hb : cN X.K fd ps ds) (hd : aJ dvs ds) (hx : fk CX X E)
    (hdb : (x == ("__debug__" : Str)) = false := by decide) : PE X (.Call (.Name x p) [] [] pos) (zp C sp dvs E ug) := by
  intro pins s σ H Q I h
  refine wpAny_Call_Name_kw (iK I hg hm ?_ hdb)
  exact W.callWith_K0 I.kIn M.kp (qp (us := []) M F hr hb hd hx I .nil h)
end
section
variable {X : Cx} {CX : jt} {k : Nat} {f C : Addr} {fd : FuncData} {ps ks : List Str} {sp : Sp} {E : XK} {x m : Str} {p pos apos kpos : Pos} {e o : Expr} {es : List Expr} {kws : List Keyword} {te ta : TE} {t tk : TA} {nm : Option Str}
variable {g : List Value -> List Value -> List Value} {gV : List V -> List V -> List V}
end
structure aK (N P : List Str) (sc : Scope) : Prop where
  kind : sc.kind = .function
  co : sc.isCoroutine = false
  gen : sc.isGenerator = false
  nd : N.Nodup
  pre : N.take P.length = P
  par : ∀ x ∈ P, sc.names.lookup x = some .local \/ sc.names.lookup x = some .cell
  nofree : ∀ y ∈ sc.names, y.2 ≠ .free
theorem o3 {kindOf : Str -> Option NameKind} {x : Str} : ∀ {binds : List (Str × Value)} {m : Str -> Option Value}, (∀ v, (x, v) ∉ binds) -> bindL kindOf binds m x = m x
  | [], _, _ => rfl
  | (n, v) :: r, m, h => by
    unfold bindL
    rw [o3 fun w hw => h w (List.mem_cons_of_mem _ hw)]
    split
    . have : x ≠ n := by rintro rfl; exact h v List.mem_cons_self
      simp [this]
    . rfl
theorem o8 {kindOf : Str -> Option NameKind} {x : Str} : ∀ {binds : List (Str × Value)} {m : Str -> Option Value}, (∀ v, (x, v) ∉ binds) -> bindC kindOf binds m x = m x
  | [], _, _ => rfl
  | (n, v) :: r, m, h => by
    unfold bindC
    rw [o8 fun w hw => h w (List.mem_cons_of_mem _ hw)]
    split
    . rfl
    . have : x ≠ n := by rintro rfl; exact h v List.mem_cons_self
      simp [this]
theorem o7 {kindOf : Str -> Option NameKind} {x : Str} {v : Value} : ∀ {P : List Str} {vs : List Value} {i : Nat} {m : Str -> Option Value}, P.Nodup -> P[i]? = some x -> vs[i]? = some v -> kindOf x = some .local ->
    bindL kindOf (P.zip vs) m x = some v
  | [], _, _, _, _, h, _, _ => by simp at h
  | _ :: _, [], _, _, _, _, h, _ => by simp at h
  | p :: P, w :: vs, 0, m, nd, h1, h2, hk => by
    simp at h1 h2; subst h1; subst h2
    show bindL kindOf ((p, w) :: P.zip vs) m p = _
    unfold bindL
    rw [o3 fun v hv => (List.nodup_cons.mp nd).1 (List.of_mem_zip hv).1, if_pos hk]
    simp
  | p :: P, w :: vs, i + 1, m, nd, h1, h2, hk => by
    show bindL kindOf ((p, w) :: P.zip vs) m x = _
    unfold bindL
    exact o7 (i := i) (List.nodup_cons.mp nd).2 (by simpa using h1) (by simpa using h2) hk
theorem o9 {kindOf : Str -> Option NameKind} {x : Str} {v : Value} : ∀ {P : List Str} {vs : List Value} {i : Nat} {m : Str -> Option Value}, P.Nodup -> P[i]? = some x -> vs[i]? = some v -> kindOf x ≠ some .local ->
    bindC kindOf (P.zip vs) m x = some v
  | [], _, _, _, _, h, _, _ => by simp at h
  | _ :: _, [], _, _, _, _, h, _ => by simp at h
  | p :: P, w :: vs, 0, m, nd, h1, h2, hk => by
    simp at h1 h2; subst h1; subst h2
    show bindC kindOf ((p, w) :: P.zip vs) m p = _
    unfold bindC
    rw [o8 fun v hv => (List.nodup_cons.mp nd).1 (List.of_mem_zip hv).1, if_neg hk]
    simp
  | p :: P, w :: vs, i + 1, m, nd, h1, h2, hk => by
    show bindC kindOf ((p, w) :: P.zip vs) m x = _
    unfold bindC
    exact o9 (i := i) (List.nodup_cons.mp nd).2 (by simpa using h1) (by simpa using h2) hk
def start (N : List Str) (vs : List V) : St := vs.map some ++ List.replicate (N.length - vs.length) none
def jZ (CX : jt) (P : Program) (w : World) (K : W.Frag) (mg : Str -> Option Value) (base : Heap) (N : List Str) (qual : Str) (scope : Scope) (f : Addr) (cd : Value) (A : Around) (outer : List Env) (s : Shared) (H : Hp) (E : XK) : Cx where
  prog := P
  w := w
  K := K
  mg := mg
  base := base
  A := A.deeper (envOfC qual scope s.heap.objs.size f cd)
  N := N
  s₀ := s
  H₀ := H
  env := envOfC qual scope s.heap.objs.size f cd
  outer := outer
  stack := envOfC qual scope s.heap.objs.size f cd :: outer
  ex := []
  calm := true
  fn := fun _ => true
  pn := []
  xe := fun e s' => wpAny (model P w) (A.deeper (envOfC qual scope s.heap.objs.size f cd)) (leaving (envOfC qual scope s.heap.objs.size f cd) e) (fun _ s'' => CX outer H s E e s'') (fun e' s'' => CX outer H s E e' s'') s'
theorem rG {sc : Scope} {n : Nat} {x : Str} (h : sc.names.lookup x = some .cell) : ∃ c, (cellsFrom n sc.names []).lookup x = some c := by
  have q := W.cellsFrom_some sc.names n [] (.inl h)
  exact Option.isSome_iff_exists.mp q
theorem wg {CX : jt} {P : Program} {w : World} {K : W.Frag} {mg : Str -> Option Value} {base : Heap} {N ps : List Str} {qual : Str} {scope : Scope} {f : Addr} {cd : Value} {A : Around} {outer : List Env} {s s1 : Shared} {H : Hp} {E : XK} {us : List Value} {vs : List V}
    (S : aK N ps scope) (hd : A.handled = none) (e0 : iB P w K mg base A outer s H) (hl : vs.length = ps.length) (r : aJ vs us)
    (x : InCallC s s.heap.objs.size (bindL (envOfC qual scope s.heap.objs.size f cd).kindOf (ps.zip us) fun _ => none) (cellsFrom (s.heap.objs.size + 1) scope.names []) (bindC (envOfC qual scope s.heap.objs.size f cd).kindOf (ps.zip us) fun _ => none) s1) :
    ak (jZ CX P w K mg base N qual scope f cd A outer s H E) [] (start N vs) H s1 := by
  have hpl : ps.length <= N.length := by have := congrArg List.length S.pre; rw [List.length_take] at this; omega
  obtain ⟨h1, tk, rfl, hk⟩ := x.done
  have noA : ∀ b : Addr, b ∉ (jZ CX P w K mg base N qual scope f cd A outer s H E).ex := fun b z => absurd (show b ∈ ([] : List Addr) from z) (by simp)
  refine ⟨⟨e0.mod, S.kind, rfl, rfl, Nat.le_refl _, fun y z c h1 h2 => ?_, fun y hy => ?_, fun y c _ h => ?_, fun _ => hd, Around.frames_deeper e0.frames, .inr ⟨rfl, rfl⟩, fun b z => absurd z (noA b), e0.bs, e0.bsz, fun b _ _ => noA b, fun b z => absurd z (noA b), e0.funs, e0.frf⟩,
    rfl, e0.bare, Un.kept hk, ⟨_, x.toInCall.ns, fun i y v h1 h2 h3 => ?_⟩, fun y c h => ⟨_, x.cell y c h⟩, e0.hok.fresh (Nat.le_refl _), fun y c h => ?_, fun p hp => absurd (show p ∈ ([] : List (Addr × Obj)) from hp) (by simp), e0.hok.kept hk, ?_⟩
  . exact name_of_addr x.apart (PySem.mem_of_lookup h1) (PySem.mem_of_lookup h2)
  . have hy : scope.names.lookup y = some .cell \/ scope.names.lookup y = some .free := hy
    rcases hy with hy | hy
    . exact rG hy
    . exact absurd rfl (S.nofree _ (PySem.mem_of_lookup hy))
  . exact Nat.le_of_lt (x.above y c (PySem.mem_of_lookup h))
  . have hi : i < vs.length := by
      unfold start at h2
      by_cases hi : i < vs.length
      . exact hi
      . rw [List.getElem?_append_right (by simpa using hi)] at h2
        rw [List.getElem?_replicate] at h2
        split at h2 <;> cases h2
    have ha : vs[i]? = some v := by
      unfold start at h2
      rw [List.getElem?_append_left (by simpa using hi), List.getElem?_map] at h2
      cases e : vs[i]? with
      | none => rw [e] at h2; cases h2
      | some a => rw [e] at h2; cases h2; rfl
    obtain ⟨u, hu, rv⟩ := r.get ha
    have hp : ps[i]? = some y := by
      rw [<- S.pre, List.getElem?_take_of_lt (by omega)]; exact h1
    have ndP : ps.Nodup := by rw [<- S.pre]; exact S.nd.sublist (List.take_sublist _ _)
    refine ⟨u, rv, ?_⟩
    rcases S.par y (List.mem_of_getElem? hp) with k | k
    . exact .inl ⟨k, o7 ndP hp hu k⟩
    . obtain ⟨c, e⟩ := rG (n := s.heap.objs.size + 1) k
      refine .inr ⟨.inl k, c, e, ?_⟩
      have q := x.cell y c e
      rw [o9 ndP hp hu (by show scope.names.lookup y ≠ _; rw [k]; decide)] at q
      exact q
  . exact e0.hok.fresh (Nat.le_of_lt (x.above y c (PySem.mem_of_lookup h)))
  . unfold start
    show _ = N.length
    rw [List.length_append, List.length_map, List.length_replicate]
    omega
theorem G7 {CX : jt} {P : Program} {w : World} {K : W.Frag} {mg : Str -> Option Value} {base : Heap} {k : Nat} {f : Addr} {name qual : Str} {params : Arguments} {body : List Stmt} {scope : Scope} {dV kV doc pm cdv ct oc : Value} {an od : Option Addr}
    {osl : Array (Option Value)} {N ps : List Str} {sp : Sp} (lk : K.lookup f = some ⟨oc, od, .func (W.fnOf name qual params body scope dV kV doc pm an cdv ct), osl⟩) (hcd : W.codeIn K cdv qual = true) (S : aK N ps scope)
    (len : ∀ vs H Q E, sp vs H Q E -> vs.length = ps.length)
    (hbody : ∀ (A : Around) (outer : List Env) (s : Shared) (H : Hp) (vs : List V) (Q : VK) (E : XK), cf k (A.deeper (envOfC qual scope s.heap.objs.size f cdv)) -> sp vs H Q E ->
      ∃ t, fY (jZ CX P w K mg base N qual scope f cdv A outer s H E) body t /\ t { nx := fun _ H' => Q .non H', rt := Q } (start N vs) H) :
    cH P w K mg base CX (k + 1) f (W.fnOf name qual params body scope dV kV doc pm an cdv ct) ps sp := by
  refine ⟨len, fun A outer s H args us vs Q E hr e0 hb r hsp => ?_⟩
  have hl := len _ _ _ _ hsp
  have KX : K.In s.heap := e0.mod.kin.keeps fun b o e => (e0.bs b o e).1
  have lim : s.heap.NoLimit := e0.mod.nolimit.keeps fun b o e => (e0.bs b o e).1
  have hkind : ∀ y ∈ ps.zip us, scope.names.lookup y.1 = some .local \/ (scope.names.lookup y.1 = some .cell /\ ((cellsFrom (s.heap.objs.size + 1) scope.names []).lookup y.1).isSome = true) := fun ⟨n, v⟩ hy => by
    rcases S.par n (List.of_mem_zip hy).1 with q | q
    . exact .inl q
    . exact .inr ⟨q, W.cellsFrom_some _ _ _ (.inl q)⟩
  refine codeAny_call_function hr.depth (KX _ _ lk) rfl S.co S.gen rfl (W.codeRec_of KX hcd) (hb _ _ _ _ ?_)
  refine wpAny_newFunctionEnv_cells S.kind hkind fun env he s1 x => ?_
  subst he
  refine ⟨lim.keeps x.toInCall.keep, codeAny_func ?_⟩
  obtain ⟨t, ht, hq⟩ := hbody A outer s H vs Q E (hr.deeper _) hsp
  have I : ak (jZ CX P w K mg base N qual scope f cdv A outer s H E) [] (start N vs) H s1 := wg S hr.hd e0 hl r x
  refine wpAny_mono (ht [] s1 (start N vs) H _ I hq) (fun fl s' hs => ?_) fun e s' hs => hs
  have fin : ∀ {σ' : St} {H' : Hp} {v : V} {u : Value}, ak (jZ CX P w K mg base N qual scope f cdv A outer s H E) [] σ' H' s' -> aQ v u -> Q v H' -> CE outer P w H s Q u s' :=
    fun {σ' H' v u} J rv q => ⟨v, H', J.os, J.bare, J.base, J.hok, rv, q⟩
  cases fl with
  | ret u =>
    obtain ⟨v, σ', H', J, rv, q⟩ := hs
    exact fin J rv q
  | next =>
    obtain ⟨σ', H', J, q⟩ := hs
    exact fin (v := V.non) (u := Value.none) J rfl q
  | brk =>
    obtain ⟨_, _, _, q⟩ := hs
    exact False.elim q
  | cont =>
    obtain ⟨_, _, _, q⟩ := hs
    exact False.elim q
end L2
namespace L2
open PySem PySem.Spec PyProof.Rows
section
variable {X : Cx} {x : Str} {p pos : Pos} {e : Expr} {es : List Expr} {t : TA} {id T : String} {r : List V -> Hp -> VK -> Prop}
def Hu (r : List V -> Hp -> VK -> Prop) (t : TA) : TE := fun σ H Q => t σ H fun vs H1 => r vs H1 Q
theorem xM (hc : dS X (.builtin id) r) (hg : Gl X x) (hm : X.mg x = none) (hv : bootBuiltins x = some (.builtin id)) (ha : PA X (e :: es) t) (hn : x ≠ "__name__" := by decide) (hdb : (x == ("__debug__" : Str)) = false := by decide)
    (he : starEach (e :: es) X.env = (false, eval e X.env) :: starEach es X.env := by rfl) (hpl : (backTo pos (starEach es X.env)).any (·.1) = false := by rfl) : PE X (.Call (.Name x p) (e :: es) [] pos) (Hu r t) := by
  intro pins s σ H Q I h
  refine wpAny_Call_Name_kw (dC I hg hm hv ?_ hn hdb)
  exact PyProof.Rows.callWith_builtin1 (aN (ha pos pins s σ H _ I h) fun us s1 ⟨vs, H1, I1, r1, q1⟩ => hc pins s1 σ H1 vs us Q I1 r1 q1) he hpl
theorem vH (hc : dS X (.type T) r) (hg : Gl X x) (hm : X.mg x = none) (hv : bootBuiltins x = some (.type T)) (ha : PA X (e :: es) t) (hn : x ≠ "__name__" := by decide) (hdb : (x == ("__debug__" : Str)) = false := by decide)
    (he : starEach (e :: es) X.env = (false, eval e X.env) :: starEach es X.env := by rfl) (hpl : (backTo pos (starEach es X.env)).any (·.1) = false := by rfl) : PE X (.Call (.Name x p) (e :: es) [] pos) (Hu r t) := by
  intro pins s σ H Q I h
  refine wpAny_Call_Name_kw (dC I hg hm hv ?_ hn hdb)
  exact PyProof.Rows.callWith_type1 (aN (ha pos pins s σ H _ I h) fun us s1 ⟨vs, H1, I1, r1, q1⟩ => hc pins s1 σ H1 vs us Q I1 r1 q1) he hpl
end
end L2
namespace HT
open PySem PyProof.Rows
def lexLt : List Int -> List Int -> Bool
  | [], [] => false
  | [], _ :: _ => true
  | _ :: _, [] => false
  | x :: xs, y :: ys => if x = y then lexLt xs ys else decide (x < y)
section
open PySem.SeqAt
open PySem.AutoSeq1 (wpAny_loadPart')
open PySem.MeetsSeq PySem.MeetsSeq2 PySem.MeetsSeq3
end
section
variable {prog : Program} {w : World} {A : Around} {E : Value -> Shared -> Prop} {s : Shared}
theorem cat_tup {t b : Addr} {vs ws : List Value} {Q : Value -> Shared -> Prop} (ht : IsTup s.heap t vs.toArray) (hb : IsTup s.heap b ws.toArray) (hv : vs ≠ [])
    (h1 : ws = [] -> Q (.ref t) s) (h2 : ws ≠ [] -> Q (.ref s.heap.objs.size) { s with heap := s.heap.push { cls := .type "tuple", data := .seq (vs ++ ws).toArray } })
    (hsz : vs.length + ws.length <= sizeLine) : wpAny (model prog w) A (binaryOp .Add (.ref t) (.ref b)) Q E s := by
  obtain ⟨⟨cls, dd, data, sl⟩, ho, hc, n, hd⟩ := id ht
  obtain ⟨⟨cls2, dd2, data2, sl2⟩, ho2, hc2, n2, hd2⟩ := id hb
  simp only at hc hd hc2 hd2
  subst hc hd hc2 hd2
  have e : vs.toArray ++ ws.toArray = (vs ++ ws).toArray := by simp
  by_cases hw : ws = []
  . exact concat_meets ⟨_, ho, rfl⟩ ⟨_, ho2, rfl⟩ noFill_tuple_add seq_tuple_add PySem.F.slot_tuple_add PySem.F.entry_tuple_add (PySem.F.args_tuple_add_2 _ _)
      (tuple_addW1 t b vs.toArray ws.toArray n n2 dd dd2 sl sl2 (by simpa using hv) (by simp [hw])) ⟨ho, ho2, h1 hw⟩
  . refine concat_meets ⟨_, ho, rfl⟩ ⟨_, ho2, rfl⟩ noFill_tuple_add seq_tuple_add PySem.F.slot_tuple_add PySem.F.entry_tuple_add (PySem.F.args_tuple_add_2 _ _)
      (tuple_addW2 t b vs.toArray ws.toArray n n2 dd dd2 sl sl2 (by simpa using hv) (by simpa using hw) (by rw [List.size_toArray, List.size_toArray]; exact hsz)) ⟨ho, ho2, ?_⟩
    rw [e]
    exact h2 hw
def sIx (n d : Nat) : Option Int -> Nat
  | none => d
  | some v => if v < 0 then (v + (n : Int)).toNat else min v.toNat n
theorem sIx_none (n d : Nat) : sIx n d none = d := rfl
theorem sIx_nat (n d k : Nat) : sIx n d (some (k : Int)) = min k n := by
  show (if (k : Int) < 0 then ((k : Int) + (n : Int)).toNat else min (k : Int).toNat n) = min k n
  rw [if_neg (by omega), Int.toNat_natCast]
theorem C0 (n d : Nat) (hd : d <= n) (o : Option Int) : sIx n d o <= n := by
  cases o with
  | none => exact hd
  | some v =>
    show (if v < 0 then (v + (n : Int)).toNat else min v.toNat n) <= n
    by_cases hv : v < 0
    . rw [if_pos hv]; omega
    . rw [if_neg hv]; exact Nat.min_le_right _ _
theorem tY (v : Int) (n d : Nat) : (if v < 0 then max (v + (n : Int)) 0 else min v (n : Int)) = ((sIx n d (some v) : Nat) : Int) := by
  show (if v < 0 then max (v + (n : Int)) 0 else min v (n : Int)) = (((if v < 0 then (v + (n : Int)).toNat else min v.toNat n) : Nat) : Int)
  by_cases hv : v < 0
  . simp only [if_pos hv]; omega
  . simp only [if_neg hv]; omega
theorem uZ (lo hi : Option Int) (n : Nat) : Builtin.Slice.sliceAdjust lo hi 1 (n : Int) = (((sIx n 0 lo : Nat) : Int), ((sIx n n hi : Nat) : Int)) := by
  have h1 : ¬ ((1 : Int) < 0) := by omega
  unfold Builtin.Slice.sliceAdjust
  simp only [h1, if_false]
  refine Prod.ext ?_ ?_
  . cases lo with
    | none => rfl
    | some v => exact tY v n 0
  . cases hi with
    | none => rfl
    | some v => exact tY v n n
theorem um (i j : Nat) : Builtin.Slice.slicePlaces (i : Int) (j : Int) 1 = j - i := by
  unfold Builtin.Slice.slicePlaces
  have h1 : (1 : Int) > 0 := by omega
  simp only [h1, if_true, Int.ediv_one]
  split <;> omega
theorem mH {v : Value} {o : Option Int} {Q : Option Int -> Shared -> Prop} (p : IsPart v o) (h : Q o s) : wpAny (model prog w) A (Builtin.Slice.slicePartIndex v) Q E s := by
  cases p with
  | none => exact slicePart_none h
  | int i t => exact slicePart_int h
theorem lX {sl : Addr} {vl vu : Value} {lo hi : Option Int} {n : Nat} {Q : Int × Int × Nat -> Shared -> Prop} (hs : s.heap.IsSliceOf sl vl vu .none) (pl : IsPart vl lo) (pu : IsPart vu hi)
    (h : Q (((sIx n 0 lo : Nat) : Int), 1, sIx n n hi - sIx n 0 lo) s) : wpAny (model prog w) A (Builtin.Slice.sliceApplied (.ref sl) (pure (n : Int))) Q E s := by
  obtain ⟨os, hos, hcs, hds⟩ := id hs
  unfold Builtin.Slice.sliceApplied Builtin.Slice.sliceFields
  refine wpAny_bind (wpAny_bind (wpAny_field hos hds (x := vl) rfl (wpAny_bind (wpAny_field hos hds (x := vu) rfl (wpAny_bind (wpAny_field hos hds (x := .none) rfl (wpAny_pure ?_)))))))
  refine wpAny_bind (slicePart_none ?_)
  show wpAny _ _ (if ((1 : Int) == 0) = true then _ else _) _ _ s
  rw [if_neg (by decide)]
  refine wpAny_bind (mH pl (wpAny_bind (mH pu (wpAny_bind (wpAny_pure ?_)))))
  show wpAny _ _ (match Builtin.Slice.sliceAdjust lo hi 1 (n : Int) with | (lo, hi) => pure (lo, (1 : Int), Builtin.Slice.slicePlaces lo hi 1)) _ _ s
  rw [uZ lo hi n]
  show wpAny _ _ (pure (((sIx n 0 lo : Nat) : Int), (1 : Int), Builtin.Slice.slicePlaces ((sIx n 0 lo : Nat) : Int) ((sIx n n hi : Nat) : Int) 1)) _ _ s
  rw [um]
  exact wpAny_pure h
theorem xH (xs : Array Value) (i k : Nat) : ((List.range k).filterMap fun (m : Nat) => xs[((i : Int) + (m : Int) * 1).toNat]?).toArray = ((xs.toList.drop i).take k).toArray := by
  have e : (fun (m : Nat) => xs[((i : Int) + (m : Int) * 1).toNat]?) = fun m => xs[i + m]? := by
    funext m
    have : ((i : Int) + (m : Int) * 1).toNat = i + m := by omega
    rw [this]
  rw [e]
  have := pick_run xs i k
  rw [List.filterMap_map] at this
  have e2 : ((fun x => xs[x]?) ∘ fun x => i + x) = fun m => xs[i + m]? := rfl
  rw [e2] at this
  rw [this]
theorem getItem_tuple_cut {t sl : Addr} {items : Array Value} {vl vu : Value} {lo hi : Option Int} {Q : Value -> Shared -> Prop} (ht : IsTup s.heap t items) (hs : s.heap.IsSliceOf sl vl vu .none) (pl : IsPart vl lo) (pu : IsPart vu hi)
    (hw : ¬ (sIx items.size 0 lo = 0 /\ sIx items.size items.size hi = items.size))
    (h : Q (.ref s.heap.objs.size) { s with heap := s.heap.push { cls := .type "tuple", data := .seq ((items.toList.drop (sIx items.size 0 lo)).take (sIx items.size items.size hi - sIx items.size 0 lo)).toArray } })
    (hsz : items.size <= sizeLine) : wpAny (model prog w) A (getItem (.ref t) (.ref sl)) Q E s := by
  have htake : sizeOk (.seq ((items.toList.drop (sIx items.size 0 lo)).take (sIx items.size items.size hi - sIx items.size 0 lo)).toArray) := by
    show ((items.toList.drop (sIx items.size 0 lo)).take (sIx items.size items.size hi - sIx items.size 0 lo)).toArray.size <= sizeLine
    rw [List.size_toArray, List.length_take, List.length_drop, Array.length_toList]
    omega
  have hj : sIx items.size items.size hi <= items.size := C0 _ _ (Nat.le_refl _) hi
  obtain ⟨os, hos, hcs, hds⟩ := id hs
  have hTs : s.TypeIs (.ref sl) "slice" := ⟨os, hos, hcs⟩
  unfold getItem
  try with_reducible refine wpAny_holding ?_
  first | refine wpAny_bind (wpAny_pure ?_) | skip
  refine wpAny_bind (wpAny_sequenceKey ht.typeIs (by decide) ?_)
  refine wpAny_bind (wpAny_callSpecial?_slot (name := Str.ofString "__getitem__") ht.typeIs PyProof.Rows.slot_tuple_getitem
    (wpAny_call_entry PyProof.Rows.slot_tuple_getitem ht.typeIs entry_tuple_getitem ?_ (args_tuple_getitem _ _)))
  show wpAny _ _ (Builtin.Tuple.tupleItemsOf (.ref t) >>= _) _ _ s
  refine wpAny_bind (tupleItemsOf_ ht ?_)
  refine wpAny_bind (wpAny_typeOf hTs ?_)
  rw [if_pos (by decide)]
  refine wpAny_bind (lX hs pl pu ?_)
  have hno : ¬ ((((sIx items.size 0 lo : Nat) : Int) == 0 && (1 : Int) == 1 && (sIx items.size items.size hi - sIx items.size 0 lo) == items.size) = true) := by
    intro q
    rw [Bool.and_eq_true, Bool.and_eq_true] at q
    have q1 : ((sIx items.size 0 lo : Nat) : Int) = 0 := eq_of_beq q.1.1
    have q2 : sIx items.size items.size hi - sIx items.size 0 lo = items.size := eq_of_beq q.2
    exact hw ⟨by omega, by omega⟩
  show wpAny _ _ (if (((sIx items.size 0 lo : Nat) : Int) == 0 && (1 : Int) == 1 && (sIx items.size items.size hi - sIx items.size 0 lo) == items.size) = true then _ else _) _ _ s
  rw [if_neg hno, xH]
  first
    | exact wpAny_bind (m := Builtin.Tuple.tupleExact _) (wpAny_newObj_type (wpAny_pure ⟨_, rfl, wpAny_pure h⟩) htake)
    | exact wpAny_bind (m := Builtin.Tuple.tupleExact _) (wpAny_newObj_type (wpAny_bind (wpAny_pure (wpAny_pure ⟨_, rfl, wpAny_pure h⟩))) htake)
    | exact wpAny_bind (wpAny_bind (m := Builtin.Tuple.tupleExact _) (wpAny_newObj_type (wpAny_pure (wpAny_pure ⟨_, rfl, wpAny_pure h⟩)) htake))
    | exact wpAny_bind (wpAny_bind (m := Builtin.Tuple.tupleExact _) (wpAny_newObj_type (wpAny_pure ⟨_, rfl, wpAny_pure h⟩) htake))
end
end HT
namespace L2
open PySem PySem.Spec PyProof.Rows
abbrev TO := St -> Hp -> (Option Int -> Hp -> Prop) -> Prop
def PO (X : Cx) (e : Option Expr) (t : TO) : Prop :=
  ∀ (pins : List (Addr × Obj)) (s : Shared) (σ : St) (H : Hp) (Q : Option Int -> Hp -> Prop), ak X pins σ H s -> t σ H Q ->
    wpAny (model X.prog X.w) X.A (evalPart e X.env) (fun u s' => ∃ o H', ak X pins σ H' s' /\ IsPart u o /\ Q o H') X.xe s
def At : TO := fun _ H Q => Q none H
def Gm (t : TE) : TO := fun σ H Q => t σ H fun x H1 => ∃ i, x = .int i /\ Q (some i) H1
section
variable {X : Cx} {e : Expr} {te : TE} {lo hi : Option Expr} {tl th : TO} {pos p2 : Pos}
theorem AQ : PO X none At := by
  intro pins s σ H Q I h
  rw [evalPart_none]
  exact wpAny_pure ⟨none, H, I, .none, h⟩
theorem AO (h : PE X e te) : PO X (some e) (Gm te) := by
  intro pins s σ H Q I hw
  rw [evalPart_some]
  refine aN (h pins s σ H _ I hw) fun u s1 ⟨x, H1, I1, r1, q1⟩ => ?_
  obtain ⟨i, rfl, q⟩ := q1
  obtain ⟨t, rfl⟩ := r1
  exact ⟨some i, H1, I1, .int i t, q⟩
def FL (X : Cx) (r : V -> Option Int -> Option Int -> Hp -> VK -> Prop) : Prop :=
  ∀ (pins : List (Addr × Obj)) (s : Shared) (σ : St) (H : Hp) (x : V) (v vl vu : Value) (lo hi : Option Int) (sl : Addr) (Q : VK), ak X pins σ H s -> aQ x v -> s.heap.IsSliceOf sl vl vu .none -> IsPart vl lo -> IsPart vu hi -> r x lo hi H Q ->
    ∃ T id, typeLookup (.type T) "__getitem__" = pure (some (.builtin id)) /\ s.TypeIs v T /\ wpAny (model X.prog X.w) X.A (getItem v (.ref sl)) (EP X pins σ Q) X.xe s
def N1 (r : V -> Option Int -> Option Int -> Hp -> VK -> Prop) (te : TE) (tl th : TO) : TE := fun σ H Q => te σ H fun x H1 => tl σ H1 fun l H2 => th σ H2 fun u H3 => r x l u H3 Q
theorem qy {r : V -> Option Int -> Option Int -> Hp -> VK -> Prop} (hr : FL X r) (he : PE X e te) (hl : PO X lo tl) (hu : PO X hi th) : PE X (.Subscript e (.Slice lo hi none p2) pos) (N1 r te tl th) := by
  intro pins s σ H Q I h
  refine Subscript_ (aN (he pins s σ H _ I h) fun v s1 ⟨x, H1, I1, r1, q1⟩ => ?_)
  refine wpAny_Slice (aN (hl pins s1 σ H1 _ I1 q1) fun vl s2 ⟨l, H2, I2, pl, q2⟩ => aN (hu pins s2 σ H2 _ I2 q2) fun vu s3 ⟨u, H3, I3, pu, q3⟩ => ?_)
  rw [evalPart_none]
  refine wpAny_pure ?_
  have I4 : ak X pins σ H3 { s3 with heap := s3.heap.push { cls := .type "slice", data := .fields #[vl, vu, .none] } } := I3.kept (t' := s3.toks) fun b ob q => Heap.get?_push_of_some _ q
  obtain ⟨T, id, hT, ht, hg⟩ := hr pins { s3 with heap := s3.heap.push { cls := .type "slice", data := .fields #[vl, vu, .none] } } σ H3 x v vl vu l u s3.heap.objs.size Q I4 r1 (Heap.IsSliceOf.new ..) pl pu q3
  show wpAny (model X.prog X.w) X.A (subscriptTail e (.Slice lo hi none p2) v (.ref s3.heap.objs.size)) (EP X pins σ Q) X.xe { s3 with heap := s3.heap.push { cls := .type "slice", data := .fields #[vl, vu, .none] } }
  exact tail_any (ops := [.ref s3.heap.objs.size, v]) ht hT hg (by with_unfolding_all rfl)
def iw (xs : List V) (lo hi : Option Int) : List V := (xs.drop (HT.sIx xs.length 0 lo)).take (HT.sIx xs.length xs.length hi - HT.sIx xs.length 0 lo)
theorem lM (xs : List V) (lo hi : Option Int) : (iw xs lo hi).length <= xs.length := by
  unfold iw
  rw [List.length_take, List.length_drop]
  omega
def Jw (K : W.Frag) : V -> Option Int -> Option Int -> Hp -> VK -> Prop := fun x lo hi H Q => ∃ a xs, x = .ref a /\ ck K H a xs /\
  ¬ (HT.sIx xs.length 0 lo = 0 /\ HT.sIx xs.length xs.length hi = xs.length) /\ ∀ p, H p = none -> Q (.ref p) (aV H p (.tup (iw xs lo hi)))
theorem CS : FL X (Jw X.K) := by
  intro pins s σ H x v vl vu lo hi sl Q I rx hs pl pu h
  obtain ⟨a, xs, rfl, hx, hw, q⟩ := h
  cases rx
  obtain ⟨its, r, ht, hz⟩ := I.tuple hx
  have hlen : its.toArray.size = xs.length := by rw [List.size_toArray]; exact r.length.symm
  refine ⟨"tuple", _, PyProof.Rows.slot_tuple_getitem.lookup, ht.typeIs, ?_⟩
  refine HT.getItem_tuple_cut ht hs pl pu (by rw [hlen]; exact hw) ?_ (by rw [hlen]; exact hz)
  rw [hlen]
  refine ⟨.ref s.heap.objs.size, _, I.laid (t' := s.toks) (o := .tup (iw xs lo hi)) (fun b ob q => Heap.get?_push_of_some _ q) (Nat.le_refl _) ?_, rfl, q _ (I.hok.fresh (Nat.le_refl _))⟩
  exact ⟨Nat.le_trans (lM xs lo hi) hz, _, (r.drop (HT.sIx xs.length 0 lo)).take (HT.sIx xs.length xs.length hi - HT.sIx xs.length 0 lo), IsTup.new _ _⟩
def rLtT (K : W.Frag) : R2 := fun x y H Q => ∃ a b ns ms, x = .ref a /\ y = .ref b /\ ck K H a (ns.map V.int) /\ ck K H b (ms.map V.int) /\ Q (.bl (HT.lexLt ns ms)) H
def GA (K : W.Frag) : R2 := fun x y H Q => ∃ a b xs ys, x = .ref a /\ y = .ref b /\ ck K H a xs /\ ck K H b ys /\ xs ≠ [] /\ xs.length + ys.length <= sizeLine /\
  (ys = [] -> Q (.ref a) H) /\ (ys ≠ [] -> ∀ p, H p = none -> Q (.ref p) (aV H p (.tup (xs ++ ys))))
theorem aJ.nil_iff {xs : List V} {us : List Value} (r : aJ xs us) : us = [] ↔ xs = [] := by
  cases r with
  | nil => simp
  | cons _ _ => simp
theorem A7 : cI X (binaryOp .Add) (GA X.K) := by
  intro pins s σ H x y v u Q I rx ry h
  obtain ⟨a, b, xs, ys, rfl, rfl, ha, hb, hx, hz, q1, q2⟩ := h
  cases rx
  cases ry
  obtain ⟨its, r1, p1, _⟩ := I.tuple ha
  obtain ⟨its2, r2, p2, _⟩ := I.tuple hb
  refine HT.cat_tup p1 p2 (fun z => hx (r1.nil_iff.mp z)) (fun z => ⟨.ref a, H, I, rfl, q1 (r2.nil_iff.mp z)⟩) (fun z => ?_) (by rw [<- r1.length, <- r2.length]; exact hz)
  refine ⟨.ref s.heap.objs.size, _, I.laid (t' := s.toks) (o := .tup (xs ++ ys)) (fun b ob q => Heap.get?_push_of_some _ q) (Nat.le_refl _) ?_, rfl, q2 (fun w => z (r2.nil_iff.mpr w)) _ (I.hok.fresh (Nat.le_refl _))⟩
  exact ⟨by rw [List.length_append]; exact hz, _, r1.append r2, IsTup.new _ _⟩
end
end L2
namespace L2
open PySem PySem.Spec PyProof.Rows
def jT (n : Nat) (i : Int) : Option Nat := if 0 <= i then (if i < n then some i.toNat else none) else if -(n : Int) <= i then some (i + n).toNat else none
def atI {α : Type} (xs : List α) (i : Int) : Option α := (jT xs.length i).bind fun j => xs[j]?
theorem tN {n : Nat} {i : Int} {j : Nat} (h : jT n i = some j) : seqIndex? i n = some j /\ j < n /\ -(n : Int) <= i /\ i < n := by
  unfold jT at h
  by_cases h0 : 0 <= i
  . rw [if_pos h0] at h
    by_cases h1 : i < n
    . rw [if_pos h1] at h
      have e : i.toNat = j := Option.some.inj h
      exact ⟨by rw [seqIndex_of h0 h1, e], by omega, by omega, h1⟩
    . rw [if_neg h1] at h; cases h
  . rw [if_neg h0] at h
    by_cases h1 : -(n : Int) <= i
    . rw [if_pos h1] at h
      have e : (i + n).toNat = j := Option.some.inj h
      exact ⟨by rw [seqIndex_neg (by omega) h1, e], by omega, h1, by omega⟩
    . rw [if_neg h1] at h; cases h
theorem t6 {α : Type} {xs : List α} {i : Int} {v : α} (h : atI xs i = some v) : ∃ j, seqIndex? i xs.length = some j /\ xs[j]? = some v /\ j < xs.length /\ -(xs.length : Int) <= i /\ i < xs.length := by
  unfold atI at h
  cases e : jT xs.length i with
  | none => rw [e] at h; cases h
  | some j =>
    rw [e] at h
    obtain ⟨h1, h2, h3, h4⟩ := tN e
    exact ⟨j, h1, h, h2, h3, h4⟩
theorem t5 {α : Type} {xs : List α} {j : Nat} {v : α} (h : xs[j]? = some v) : atI xs (j : Int) = some v := by
  have hj : j < xs.length := (List.getElem?_eq_some_iff.mp h).1
  have e : jT xs.length (j : Int) = some j := by
    unfold jT
    rw [if_pos (by omega), if_pos (by omega)]; simp
  unfold atI; rw [e]; exact h
def lz (b : Expr) : Prop := ∀ o i, subscripted b false o i = operate [o, i] (getItem o i)
def Ag (X : Cx) (r : R2) : Prop :=
  ∀ (value slice : Expr) (pins : List (Addr × Obj)) (s : Shared) (σ : St) (H : Hp) (x y : V) (v u : Value) (Q : VK), ak X pins σ H s -> aQ x v -> aQ y u -> r x y H Q ->
    subscripted slice false v u = operate [v, u] (getItem v u) -> wpAny (model X.prog X.w) X.A (subscriptTail value slice v u) (EP X pins σ Q) X.xe s
def FP (X : Cx) (id : String) (r : V -> List V -> Hp -> VK -> Prop) : Prop :=
  ∀ (pins : List (Addr × Obj)) (s : Shared) (σ : St) (H : Hp) (x : V) (xs : List V) (v : Value) (us : List Value) (Q : VK), ak X pins σ H s -> aQ x v -> aJ xs us -> r x xs H Q ->
    wpAny (model X.prog X.w) X.A (call (.builtin id) (v :: us)) (EP X pins σ Q) X.xe s
section
variable {X : Cx} {a b : Expr} {ta tb : TE} {pos : Pos}
theorem uo {r : R2} (hr : Ag X r) (ha : PE X a ta) (hb : PE X b tb) (hs : lz b) : PE X (.Subscript a b pos) (Ht r ta tb) := by
  intro pins s σ H Q I h
  exact Subscript_ (FA ha hb I h fun v u s2 x y H2 I2 rx ry q => hr a b pins s2 σ H2 x y v u Q I2 rx ry q (hs _ _))
def Jz (K : W.Frag) : R2 := fun x y H Q => ∃ p xs i v, x = .ref p /\ y = .int i /\ cm K H p xs /\ atI xs i = some v /\ Q v H
def Jy (K : W.Frag) : R2 := fun x y H Q => ∃ p xs i v, x = .ref p /\ y = .int i /\ ck K H p xs /\ atI xs i = some v /\ Q v H
theorem Bq : Ag X (Jz X.K) := by
  intro value slice pins s σ H x y v u Q I rx ry h hs
  obtain ⟨p, xs, i, z, rfl, rfl, hq, he, q⟩ := h
  cases rx
  obtain ⟨t, rfl⟩ := ry
  obtain ⟨its, r, pl, hz⟩ := I.list hq
  obtain ⟨j, h1, h2, h3, h4, h5⟩ := t6 he
  obtain ⟨w, ew, rw'⟩ := r.get h2
  have hl := r.length
  have hn := mU
  have fin : EP X pins σ Q w s := ⟨z, H, I, rw', q⟩
  by_cases h0 : 0 <= i
  . have hj : i.toNat = j := by
      rw [seqIndex_of h0 h5] at h1
      exact Option.some.inj h1
    exact item_listR pl.isList h0 (by omega) (by rw [hj]; simpa using ew) fin hs
  . have hj : (i + (its.toArray.size : Int)).toNat = j := by
      rw [seqIndex_neg (by omega) h4] at h1
      rw [List.size_toArray, <- hl]
      exact Option.some.inj h1
    exact subscriptTail_builtinR (x := w) pl.isList.typeIs slot_list_getitem.lookup
      (wpAny_getItem_list_neg (Q := fun r s' => r = w /\ EP X pins σ Q r s') pl.isList (by omega) (by rw [List.size_toArray] <;> omega) (by omega) (by rw [hj]; simpa using ew) ⟨rfl, fin⟩) hs
theorem DZ : Ag X (Jy X.K) := by
  intro value slice pins s σ H x y v u Q I rx ry h hs
  obtain ⟨p, xs, i, z, rfl, rfl, hq, he, q⟩ := h
  cases rx
  obtain ⟨t, rfl⟩ := ry
  obtain ⟨its, r, pl, hz⟩ := I.tuple hq
  obtain ⟨j, h1, h2, h3, h4, h5⟩ := t6 he
  obtain ⟨w, ew, rw'⟩ := r.get h2
  have hl := r.length
  have hn := mU
  have fin : EP X pins σ Q w s := ⟨z, H, I, rw', q⟩
  exact subscriptTail_builtinR (x := w) pl.typeIs slot_tuple_getitem.lookup
    (getItem_tuple (j := j) (Q := fun r s' => r = w /\ EP X pins σ Q r s') pl (by omega) (by omega) (by rw [List.size_toArray, <- hl]; exact h1) (by simpa using ew) ⟨rfl, fin⟩) hs
theorem uC (its : List Value) (n j : Nat) (u : Value) : Obj.mapSeq (·.setIfInBounds j u) { cls := .type "list", data := .seq its.toArray n } = { cls := .type "list", data := .seq (its.set j u).toArray n } := by
  simp [Obj.mapSeq]
theorem ak.lst {pins : List (Addr × Obj)} {σ : St} {H : Hp} {s : Shared} {p : Addr} {xs : List V} (I : ak X pins σ H s) (h : H p = some (.lst xs)) :
    ∃ (its : List Value) (n : Nat), aJ xs its /\ s.heap.get? p = some { cls := .type "list", data := .seq its.toArray n } /\ xs.length <= sizeLine := by
  obtain ⟨z, its, n, r, e⟩ := I.hok p _ h
  exact ⟨its, n, r, e, z⟩
theorem ak.lstUpd {pins : List (Addr × Obj)} {σ : St} {H : Hp} {s : Shared} {p : Addr} {xs ys : List V} {its its' : List Value} {n n' : Nat} {f : Obj -> Obj} (I : ak X pins σ H s) (h : H p = some (.lst xs))
    (ho : s.heap.get? p = some { cls := .type "list", data := .seq its.toArray n }) (hf : f { cls := .type "list", data := .seq its.toArray n } = { cls := .type "list", data := .seq its'.toArray n' }) (r : aJ ys its') (hz : ys.length <= sizeLine) (t : Nat) :
    ak X pins σ (aV H p (.lst ys)) { s with heap := s.heap.update p f, toks := t } := by
  have e : (s.heap.update p f).get? p = some { cls := .type "list", data := .seq its'.toArray n' } := by
    rw [Heap.get?_update_self f ho (by rw [hf] <;> rfl), hf]
  refine I.write (x := p) (e := p) (by rw [h]; trivial) (.inl rfl) (fun b u hb q => (Heap.get?_update_other _ _ (Ne.symm hb)).trans q) ⟨_, e⟩ ?_
  exact ⟨hz, its', n', r, e⟩
def Gy : V -> V -> V -> Hp -> (Hp -> Prop) -> Prop := fun o i v H Q => ∃ p xs k j, o = .ref p /\ i = .int k /\ H p = some (.lst xs) /\ jT xs.length k = some j /\ Q (aV H p (.lst (xs.set j v)))
theorem xw : y6 X Gy := by
  intro pins s σ H o i v ov iv u Q I ro ri rv h
  obtain ⟨p, xs, k, j, rfl, rfl, hp, hj, q⟩ := h
  cases ro
  obtain ⟨t, rfl⟩ := ri
  obtain ⟨its, n, r, ho, hz⟩ := I.lst hp
  obtain ⟨h1, h2, h3, h4⟩ := tN hj
  have hl := r.length
  have hn := mU
  have I' : ak X pins σ (aV H p (.lst (xs.set j v))) { s with heap := s.heap.update p (Obj.mapSeq (·.setIfInBounds j u)) } :=
    I.lstUpd hp ho (uC its n j u) (r.set rv j) (by rw [List.length_set]; exact hz) s.toks
  by_cases h0 : 0 <= k
  . have hk : k.toNat = j := by
      rw [seqIndex_of h0 h4] at h1
      exact Option.some.inj h1
    exact W.ki_setAt ho h0 (by omega) (by rw [List.size_toArray, <- hl]; exact h4) (by rw [hk]; exact ⟨_, I', q⟩)
  . have hk : (k + (its.toArray.size : Int)).toNat = j := by
      rw [seqIndex_neg (by omega) h3] at h1
      rw [List.size_toArray, <- hl]
      exact Option.some.inj h1
    exact W.ki_setBack ho (by omega) (by rw [List.size_toArray, <- hl]; exact h3) (by omega) (by rw [hk]; exact ⟨_, I', q⟩)
theorem qm (lo hi : Option Int) (n : Nat) : (sliceBounds lo hi none n).1 = ((HT.sIx n 0 lo : Nat) : Int) /\ (sliceBounds lo hi none n).2.1 = ((HT.sIx n n hi : Nat) : Int) /\ (sliceBounds lo hi none n).2.2 = 1 := by
  refine ⟨?_, ?_, rfl⟩
  . cases lo with
    | none => simp [sliceBounds, HT.sIx]
    | some i =>
      simp only [sliceBounds, HT.sIx, Option.getD_none, show (1 : Int) > 0 by decide, if_true]
      by_cases h : i < 0
      . simp only [h, if_true] <;> omega
      . simp only [h, if_false] <;> omega
  . cases hi with
    | none => simp [sliceBounds, HT.sIx]
    | some i =>
      simp only [sliceBounds, HT.sIx, Option.getD_none, show (1 : Int) > 0 by decide, if_true]
      by_cases h : i < 0
      . simp only [h, if_true] <;> omega
      . simp only [h, if_false] <;> omega
theorem pq (its : List Value) (lo hi : Option Int) : slicePick its.toArray lo hi none = ((its.drop (HT.sIx its.length 0 lo)).take (HT.sIx its.length its.length hi - HT.sIx its.length 0 lo)).toArray := by
  obtain ⟨h1, h2, h3⟩ := qm lo hi its.toArray.size
  unfold slicePick
  rw [h1, h2, h3]
  simp only [sliceRange_one, pick_run, List.size_toArray] <;> rfl
def Jx (K : W.Frag) : V -> Option Int -> Option Int -> Hp -> VK -> Prop := fun x lo hi H Q => ∃ a xs, x = .ref a /\ cm K H a xs /\ ∀ p, H p = none -> Q (.ref p) (aV H p (.lst (iw xs lo hi)))
theorem Ay : FL X (Jx X.K) := by
  intro pins s σ H x v vl vu lo hi sl Q I rx hs pl pu h
  obtain ⟨a, xs, rfl, hx, q⟩ := h
  cases rx
  obtain ⟨its, r, ht, hz⟩ := I.list hx
  have hlen := r.length
  refine ⟨"list", _, slot_list_getitem.lookup, ht.isList.typeIs, ?_⟩
  refine wpAny_getItem_list_slice ht.isList hs pl pu .none (by simp) ?_ (by rw [List.size_toArray] <;> omega)
  rw [pq, <- hlen]
  refine ⟨.ref s.heap.objs.size, _, I.laid (t' := s.toks) (o := .lst (iw xs lo hi)) (fun b ob q => Heap.get?_push_of_some _ q) (Nat.le_refl _) ?_, rfl, q _ (I.hok.fresh (Nat.le_refl _))⟩
  exact ⟨Nat.le_trans (lM xs lo hi) hz, _, 0, (r.drop (HT.sIx xs.length 0 lo)).take (HT.sIx xs.length xs.length hi - HT.sIx xs.length 0 lo), Heap.get?_push_size _ rfl⟩
theorem j9 : dS X (.builtin "len") (fun xs H Q => ∃ p ys, xs = [.ref p] /\ (cm X.K H p ys \/ ck X.K H p ys) /\ Q (.int ys.length) H) := by
  intro pins s σ H xs us Q I r h
  obtain ⟨p, ys, rfl, hq, q⟩ := h
  obtain ⟨u, rfl, rx⟩ := d8 r
  cases rx
  have hn := mU
  rcases hq with hq | hq
  . obtain ⟨its, r', pl, hz⟩ := I.list hq
    have hlen := r'.length
    exact Calls.call_len_list pl.isList (by simp only [List.size_toArray] <;> omega) ⟨.int ys.length, H, I.tok _, ⟨s.toks + 1, by rw [List.size_toArray, hlen]⟩, q⟩
  . obtain ⟨its, r', pl, hz⟩ := I.tuple hq
    have hlen := r'.length
    exact len_tuple pl (by simp only [List.size_toArray] <;> omega) ⟨.int ys.length, H, I.tok _, ⟨s.toks + 1, by rw [List.size_toArray, hlen]⟩, q⟩
theorem j8 : dS X (.type "list") (fun xs H Q => ∃ p ys, xs = [.ref p] /\ (cm X.K H p ys \/ ck X.K H p ys) /\ ∀ l, H l = none -> Q (.ref l) (aV H l (.lst ys))) := by
  intro pins s σ H xs us Q I r h
  obtain ⟨p, ys, rfl, hq, q⟩ := h
  obtain ⟨u, rfl, rx⟩ := d8 r
  cases rx
  have fin : ∀ (its : List Value), aJ ys its -> ys.length <= sizeLine -> ∀ (h' : Heap) (c' : Nat), (∀ b o', s.heap.get? b = some o' -> h'.get? b = some o') ->
      h'.get? s.heap.objs.size = some { cls := .type "list", dict := none, data := .seq its.toArray c', slots := #[] } -> EP X pins σ Q (.ref s.heap.objs.size) { s with heap := h' } := fun its r' hz h' c' kp e =>
    ⟨.ref s.heap.objs.size, _, I.laid (t' := s.toks) kp (Nat.le_refl _) (show bV X.prog X.w _ h' _ (.lst ys) from ⟨hz, its, c', r', e⟩), rfl, q _ (I.hok.fresh (Nat.le_refl _))⟩
  rcases hq with hq | hq
  . obtain ⟨its, r', pl, hz⟩ := I.list hq
    have hlen := r'.length
    obtain ⟨o, ho, hc, n, hd⟩ := pl.isList
    exact call_list_seq p (.inl rfl) ho hc hd (fun h' c' kp e => fin its r' hz h' c' kp e) (by simp only [List.size_toArray] <;> omega)
  . obtain ⟨its, r', pl, hz⟩ := I.tuple hq
    have hlen := r'.length
    obtain ⟨o, ho, hc, n, hd⟩ := pl
    exact call_list_seq p (.inr rfl) ho hc hd (fun h' c' kp e => fin its r' hz h' c' kp e) (by simp only [List.size_toArray] <;> omega)
theorem jp : dS X (.type "tuple") (fun xs H Q => ∃ p ys, xs = [.ref p] /\ ((cm X.K H p ys /\ ∀ l, H l = none -> Q (.ref l) (aV H l (.tup ys))) \/ (ck X.K H p ys /\ Q (.ref p) H))) := by
  intro pins s σ H xs us Q I r h
  obtain ⟨p, ys, rfl, h⟩ := h
  obtain ⟨u, rfl, rx⟩ := d8 r
  cases rx
  rcases h with ⟨hq, q⟩ | ⟨hq, q⟩
  . obtain ⟨its, r', pl, hz⟩ := I.list hq
    have hlen := r'.length
    refine call_tuple_list pl.isList (fun h' kp => ?_) (by simp only [List.size_toArray] <;> omega)
    have I1 : ak X pins σ H { s with heap := h' } := I.kept (t' := s.toks) kp
    have I2 : ak X pins σ (aV H h'.objs.size (.tup ys)) { s with heap := h'.push { cls := .type "tuple", data := .seq its.toArray } } :=
      I1.laid (t' := s.toks) (fun b o e => Heap.get?_push_of_some _ e) (Nat.le_refl _) (show bV X.prog X.w _ _ _ (.tup ys) from ⟨hz, its, r', IsTup.new _ _⟩)
    exact ⟨.ref h'.objs.size, _, I2, rfl, q _ (I1.hok.fresh (Nat.le_refl _))⟩
  . obtain ⟨its, r', pl, hz⟩ := I.tuple hq
    exact call_tuple_same pl ⟨.ref p, H, I, rfl, q⟩
def Cq (K : W.Frag) (T : String) (x : V) (H : Hp) : Prop := match x with
  | .str _ => T = "str"
  | .int _ => T = "int"
  | .ref p => (T = "list" /\ ∃ xs, cm K H p xs) \/ (T = "tuple" /\ ∃ o, K.lookup p = some o /\ o.cls = .type "tuple" /\ o.dict = none) \/
      (T = "dict" /\ ((∃ kvs, H p = some (.dK kvs)) \/ ∃ kvs, H p = some (.dT kvs))) \/ (T = "set" /\ ∃ S n, H p = some (.set S n))
  | _ => False
theorem vj {pins : List (Addr × Obj)} {σ : St} {H : Hp} {s : Shared} {T : String} {x : V} {v : Value} (I : ak X pins σ H s) (r : aQ x v) (ty : Cq X.K T x H) :
    s.TypeIs v T /\ ∀ a, v = .ref a -> ∃ ob, s.heap.get? a = some ob /\ ob.dict = none := by
  cases x with
  | str z =>
    obtain ⟨t, rfl⟩ := r
    cases (show T = "str" from ty)
    exact ⟨typeIs_str s z t, fun _ e => nomatch e⟩
  | int i =>
    obtain ⟨t, rfl⟩ := r
    cases (show T = "int" from ty)
    exact ⟨typeIs_int s i t, fun _ e => nomatch e⟩
  | ref p =>
    cases r
    rcases ty with ⟨rfl, xs, hq⟩ | ⟨rfl, o, hk, hc, hd⟩ | ⟨rfl, hk⟩ | ⟨rfl, S, n, hk⟩
    . obtain ⟨its, _, pl, _⟩ := I.list hq
      refine ⟨pl.isList.typeIs, fun a e => ?_⟩
      cases e
      obtain ⟨o, n, e, c, hd, _⟩ := pl
      exact ⟨o, e, hd⟩
    . refine ⟨⟨o, I.kIn p o hk, hc⟩, fun a e => ?_⟩
      cases e
      exact ⟨o, I.kIn _ o hk, hd⟩
    . have z : ∃ o, s.heap.get? p = some o /\ o.ExactDict := by
        rcases hk with ⟨kvs, hk⟩ | ⟨kvs, hk⟩
        . obtain ⟨_, _, _, _, o, _, _, e, ex, _⟩ := I.hok p _ hk
          exact ⟨o, e, ex⟩
        . obtain ⟨_, _, _, _, o, _, _, e, ex, _⟩ := I.hok p _ hk
          exact ⟨o, e, ex⟩
      obtain ⟨o, e, ex⟩ := z
      refine ⟨⟨o, e, ex.1⟩, fun a e2 => ?_⟩
      cases e2
      exact ⟨o, e, ex.2.1⟩
    . obtain ⟨o, _, _, _, e, ex, _⟩ := I.hok p _ hk
      refine ⟨⟨o, e, ex.1⟩, fun a e2 => ?_⟩
      cases e2
      exact ⟨o, e, ex.2.1⟩
  | _ => exact False.elim ty
def HQ (K : W.Frag) (T : String) (r : V -> List V -> Hp -> VK -> Prop) (to : TE) : TE := fun σ H Q => to σ H fun x H1 => Cq K T x H1 /\ r x [] H1 Q
def N5 (K : W.Frag) (T : String) (r : V -> List V -> Hp -> VK -> Prop) (to : TE) (t : TA) : TE := fun σ H Q => to σ H fun x H1 => Cq K T x H1 /\ t σ H1 fun xs H2 => r x xs H2 Q
variable {o e : Expr} {es : List Expr} {to : TE} {t : TA} {name : Str} {apos cpos : Pos} {T id : String} {r : V -> List V -> Hp -> VK -> Prop}
theorem Ds (pa : PlainAttrs T) (slot : Slot T name id) (hty : typeOf (.builtin id) = pure (.type "method_descriptor")) (hm : FP X id r) (ho : PE X o to)
    (hbase : attributeBase o name X.env (eval o X.env) = eval o X.env := by rfl) (hline : (apos.endLine == cpos.line) = true := by rfl) : PE X (.Call (.Attribute o name apos) [] [] cpos) (HQ X.K T r to) := by
  intro pins s σ H Q I h
  refine wpAny_Call_method0_late hbase hline (aN (ho pins s σ H _ I h) fun v s1 ⟨x, H1, I1, r1, ty, q1⟩ => ?_)
  obtain ⟨h1, h2⟩ := vj I1 r1 ty
  exact ⟨T, id, pa, slot, hty, h1, h2, Calls.callWith_builtin rfl (PySem.evalArgs_none (hm pins s1 σ H1 x [] v [] Q I1 r1 .nil q1))⟩
theorem GG (pa : PlainAttrs T) (slot : Slot T name id) (hty : typeOf (.builtin id) = pure (.type "method_descriptor")) (hm : FP X id r) (ho : PE X o to) (ha : PA X (e :: es) t)
    (hbase : attributeBase o name X.env (eval o X.env) = eval o X.env := by rfl)
    (hfew : ((backTo cpos (starEach (e :: es) X.env)).all (fun x => !x.1) && (backToKw cpos (keywordEach [] X.env)).all (fun x => x.1.isSome)
      && decide ((e :: es).length + ([] : List Keyword).length + (if ([] : List Keyword).isEmpty then 0 else 1) < 30)) = true := by rfl)
    (hline : (apos.endLine == cpos.line) = true := by rfl) (hs : starEach (e :: es) X.env = (false, eval e X.env) :: starEach es X.env := by rfl) (hplain : (backTo cpos (starEach es X.env)).any (·.1) = false := by rfl) :
    PE X (.Call (.Attribute o name apos) (e :: es) [] cpos) (N5 X.K T r to t) := by
  intro pins s σ H Q I h
  refine wpAny_Call_method_late hbase hfew hline rfl (aN (ho pins s σ H _ I h) fun v s1 ⟨x, H1, I1, r1, ty, q1⟩ => ?_)
  obtain ⟨h1, h2⟩ := vj I1 r1 ty
  refine ⟨T, id, pa, slot, hty, h1, h2, ?_⟩
  have hA := ha cpos pins s1 σ H1 _ I1 q1
  rw [hs] at hA ⊢
  refine Calls.callWith_builtin (by show (false || (backTo cpos (starEach es X.env)).any (·.1)) = false; rw [hplain] <;> rfl) (Calls.evalArgs_plain ?_)
  exact aN hA fun us s2 ⟨vs, H2, I2, r2, q2⟩ => hm pins s2 σ H2 x vs v us Q I2 r1 r2 q2
/- xs.append(e), list.index on a module's tuple .. are FP facts of 06m -/
end
end L2
namespace L2
open PySem PySem.Spec PyProof.Rows
def Hz (X : Cx) (id : String) (r : V -> List V -> Hp -> VK -> Prop) : Prop :=
  ∀ (pins : List (Addr × Obj)) (s : Shared) (σ : St) (H : Hp) (x : V) (xs : List V) (v : Value) (us : List Value) (Q : VK), ak X pins σ H s -> aQ x v -> aJ xs us -> r x xs H Q ->
    wpAny (model X.prog X.w) X.A (call (.builtin id) (v :: us)) (EP X pins σ Q) X.xe s
theorem aJ.one : ∀ {x : V} {us : List Value}, aJ [x] us -> ∃ u, us = [u] /\ aQ x u
  | _, _, .cons r .nil => ⟨_, rfl, r⟩
theorem aJ.zero : ∀ {us : List Value}, aJ [] us -> us = []
  | _, .nil => rfl
theorem aJ.reverse {xs : List V} {us : List Value} (h : aJ xs us) : aJ xs.reverse us.reverse := by
  induction h with
  | nil => exact .nil
  | cons r t ih => rw [List.reverse_cons, List.reverse_cons]; exact aJ.append ih (.cons r .nil)
section
variable {X : Cx} {pins : List (Addr × Obj)} {σ : St} {H : Hp} {s : Shared} {l b : Addr} {xs ys zs : List V}
theorem ak.lset {its its' : List Value} {n : Nat} {f : Array Value -> Array Value} {t' : Nat} (I : ak X pins σ H s) (hH : H l = some (.lst xs))
    (e : s.heap.get? l = some { cls := .type "list", data := .seq its.toArray n }) (hf : f its.toArray = its'.toArray) (hv : aJ ys its') (hz : ys.length <= sizeLine) :
    ak X pins σ (aV H l (.lst ys)) { s with heap := s.heap.update l (Obj.mapSeq f), toks := t' } := by
  have q := PySem.IsL.update e f
  rw [hf] at q
  refine I.write (x := l) (e := l) (by rw [hH]; exact trivial) (.inl rfl) (fun b' u hb hu => (Heap.get?_update_other s.heap (Obj.mapSeq f) (Ne.symm hb)).trans hu) ⟨_, q⟩ ?_
  exact ⟨hz, its', _, hv, q⟩
theorem ak.lnew {its : List Value} {t' : Nat} (I : ak X pins σ H s) (hv : aJ ys its) (hz : ys.length <= sizeLine) :
    ak X pins σ (aV H s.heap.objs.size (.lst ys)) { s with heap := s.heap.push { cls := .type "list", data := .seq its.toArray }, toks := t' } :=
  I.laid (fun _ _ q => Heap.get?_push_of_some _ q) (Nat.le_refl _) ⟨hz, its, 0, hv, Heap.get?_push_size _ rfl⟩
theorem ak.fresh (I : ak X pins σ H s) : H s.heap.objs.size = none := I.hok.fresh (Nat.le_refl _)
theorem ak.lstM (I : ak X pins σ H s) (hH : H l = some (.lst xs)) : xs.length <= sizeLine /\ ∃ (its : List Value) (n : Nat), aJ xs its /\ xs.length = its.length /\ s.heap.get? l = some { cls := .type "list", data := .seq its.toArray n } := by
  obtain ⟨z, its, n, r, e⟩ := I.hok l _ hH
  exact ⟨z, its, n, r, r.length, e⟩
end
section
variable {X : Cx}
def AG : V -> List V -> Hp -> VK -> Prop := fun x vs H Q => ∃ l xs y, x = .ref l /\ vs = [y] /\ H l = some (.lst xs) /\ xs.length < sizeLine /\ Q .non (aV H l (.lst (xs ++ [y])))
theorem oR : Hz X "list.append" AG := by
  intro pins s σ H x vs v us Q I rx rv h
  obtain ⟨l, xs, y, rfl, rfl, hH, hz, q⟩ := h
  cases rx
  obtain ⟨u, rfl, ru⟩ := rv.one
  obtain ⟨z, its, n, r, hl, e⟩ := I.lstM hH
  refine call_meets F.slot_list_append ⟨_, e, rfl⟩ F.entry_list_append (F.args_list_append_2 _ _) (PySem.list_append l its.toArray n u (by rw [List.size_toArray]; omega)) ⟨e, ?_⟩
  refine ⟨.non, _, I.lset (its' := its ++ [u]) hH e (by simp) (r.append (.cons ru .nil)) ?_, rfl, q⟩
  rw [List.length_append, List.length_singleton]
  omega
end
section
variable {prog : Program} {w : World} {A : Around} {E : Value -> Shared -> Prop} {s : Shared}
set_option maxRecDepth 100000 in
end
section
variable {X : Cx}
end
end L2
namespace Att
open PySem PySem.W PySem.Calls PyProof.Rows
theorem mY {P : Params} {h : Heap} : ∀ (ns : List Int) (vs : List Value), WellAll P h vs (ns.map WData.int) -> IntsAre vs ns := by
  intro ns
  induction ns with
  | nil =>
    intro vs w
    rw [List.map_nil] at w
    cases w
    exact .nil
  | cons n ns ih =>
    intro vs w
    rw [List.map_cons] at w
    cases w with
    | cons a b =>
      cases a
      exact .cons _ _ (ih _ b)
theorem vz {l : OpenLaw} {n : Nat} (hn : l.most = some n) {P : Params} {h : Heap} {args : List WData} {vals : List Value}
    (hpre : l.row.toRowW.claim.pre args = true) (hwl : WellAll P h vals args) :
    ∃ a vs ns, vals = [Value.ref a] /\ args = [WData.list (ns.map WData.int)] /\ h.get? a = some { cls := .type "list", data := .seq vs.toArray } /\ IntsAre vs ns /\ ns.length <= n := by
  have hsh : WShape.hasAll [] args [.list .int] = true := (pre_splitW hpre).1
  have hc : l.pre.holds [] { args := args } = true := (pre_splitW hpre).2
  obtain ⟨d, r, rfl, h1, h2⟩ := hasAllW_cons hsh
  obtain rfl := hasAllW_nil h2
  obtain ⟨xs, rfl, h3⟩ := hasW_list h1
  obtain ⟨ns, rfl⟩ := items_int h3
  have hlen : ns.length <= n := by
    unfold OpenLaw.pre at hc
    have h4 : (WTm.not (.lt (.lit (.int (n : Int))) (.len (.arg 0)))).holds [] { args := [.list (ns.map .int)] } = true := by
      have h4 := (holds_andW hc).1
      rw [hn] at h4
      exact h4
    have h5 := condW_of h4 (w_not (w_lt w_lit (w_len_list (w_arg rfl))))
    rw [List.length_map] at h5
    refine Nat.le_of_not_lt fun q => ?_
    have q' : (n : Int) < ((ns.length : Nat) : Int) := by omega
    first
      | (rw [decide_eq_true q'] at h5; exact absurd h5 (by decide))
      | (simp at h5; omega)
  cases hwl with
  | cons w1 w2 =>
    cases w2
    cases w1 with
    | list ho hall => exact ⟨_, _, ns, rfl, rfl, ho, mY ns _ hall, hlen⟩
theorem vC (l : OpenLaw) (args : List WData) : l.row.toRowW.claim.post args (.bool true) args = true :=
  postW_of (r := l.row.toRowW) (X := (true == true))
    (show WShape.has [] (.bool true) .bool = true by first | rfl | decide | simp [WShape.has, WShape.arms, WShape.armsAll])
    (show (WTm.eq .res (.lit (.bool true))).value [] { args := args, res := some (.bool true), after := args } = some (.bool (true == true)) from w_eq_bool (w_res rfl) w_lit) rfl
theorem attach_call {l : OpenLaw} {n : Nat} {q : Program} {loose : List Str} {XP : (Str -> Option Value) -> Heap -> Prop} {YP : World -> Heap -> Prop} {d : DefRec}
    (hn : l.most = some n) (hdf : d.params.defaults = [])
    (call : ∀ (w : World) (s₀ s₁ : Shared) (mg mb : Str -> Option Value) (fa : Addr) (o : Obj) (pm cd doc : Value) (a : Addr) (vs : List Value) (ns : List Int),
      Ground q loose [] XP w s₀ mg mb s₁.heap -> YP w s₁.heap ->
      s₁.heap.get? fa = some o -> o.data = .func (docDef d.name d.params d.body d.scope pm cd doc) -> s₁.heap.CodeRec cd d.name -> mg d.name = some (.ref fa) ->
      s₁.heap.get? a = some { cls := .type "list", data := .seq vs.toArray } -> IntsAre vs ns -> ns.length <= n -> s₁.gens = #[] ->
      codeAny (model l.prog w) callerA (.call (.ref fa) ⟨[.ref a], []⟩) (fun r s' => r = .ok (.ret (.bool true)) /\ OldK s₁.heap s'.heap /\ s'.os = s₁.os /\ AllBare s'.gens) s₁) :
    WalkO q loose XP YP l.row.toRowW d [] (fun f vs => PySem.call f vs) := by
  intro w s₀ s₁ mg mb G Y fa o pm cd doc dV kV ho hd hcd hD hmg hg args vals as hpre hlay hrd hwl hlo
  obtain rfl : dV = .none := Dflts.none hD hdf
  obtain rfl : kV = .none := Dflts.noKw hD
  obtain ⟨a, vs, ns, rfl, rfl, hobj, hints, hlen⟩ := vz hn hpre hwl
  refine enter_call (codeAny_mono (call w s₀ s₁ mg mb fa o pm cd doc a vs ns G Y ho (fd_plain hd) hcd hmg hobj hints hlen hg) fun r s' hq => ?_)
  obtain ⟨rfl, h2, h3, h4⟩ := hq
  exact ⟨.inl ⟨.bool true, .bool true, [], rfl, fun _ => rfl, .bool true, vC l _, fun _ => ⟨List.Pairwise.nil, fun _ hm => (nomatch hm)⟩⟩, h2, h3, h4⟩
section
variable {prog : Program} {w : World} {A : Around} {E : Value -> Shared -> Prop} {s : Shared} {K : Frag}
end
end Att
namespace L2
open PySem PySem.Spec PyProof.Rows
theorem oM : ∀ {vs : List Value} {ns : List Int}, IntsAre vs ns -> aJ (ns.map V.int) vs
  | _, _, .nil => .nil
  | _, _, .cons n t h => .cons ⟨t, rfl⟩ (oM h)
def vd (H : Hp) : Prop := ∀ b, H b = none \/ ∃ o xs, H b = some (.frz o (.lst xs))
theorem yb {P : Program} {w : World} {K : W.Frag} {mg mb : Str -> Option Value} {CX : jt} {k : Nat} {fa a : Addr} {fd : FuncData} {x : Str} {sp : Sp} {s₁ : Shared} {vs : List Value} {ns : List Int}
    (KX : K.In s₁.heap) (hns : s₁.heap.Ns mainGlobals mg) (hb : s₁.heap.Ns builtinsNs mb) (hbb : ∀ x : Str, x ≠ "__name__" -> mb x = bootBuiltins x) (hlim : s₁.heap.NoLimit) (hg : s₁.gens = #[])
    (ha : s₁.heap.get? a = some { cls := .type "list", data := .seq vs.toArray }) (hi : IntsAre vs ns) (hl : ns.length <= sizeLine) (hr : cf k callerA)
    (F : ∀ base : Heap, K.In base -> base.Ns mainGlobals mg -> cH P w K mg base CX k fa fd [x] sp) (hbind : ∀ (s : Shared) (u : Value), BindsTo s fd ⟨[u], []⟩ [(x, u)])
    (hsp : ∀ H : Hp, vd H -> cm K H a (ns.map V.int) -> sp [.ref a] H (fun v _ => v = .bl true) fun _ _ _ => False)
    (hCX : ∀ H e s', CX [] H s₁ (fun _ _ _ => False) e s' -> False) :
    codeAny (model P w) callerA (.call (.ref fa) ⟨[.ref a], []⟩) (fun r s' => r = .ok (.ret (.bool true)) /\ OldK s₁.heap s'.heap /\ s'.os = s₁.os /\ AllBare s'.gens) s₁ := by
  have rv := oM hi
  have lenV := hi.length
  have core : ∀ H : Hp, vd H -> cm K H a (ns.map V.int) -> dn P w H s₁.heap -> (∀ b, H b ≠ none -> b = a) -> (H a ≠ none -> K.lookup a = none) ->
      codeAny (model P w) callerA (.call (.ref fa) ⟨[.ref a], []⟩) (fun r s' => r = .ok (.ret (.bool true)) /\ OldK s₁.heap s'.heap /\ s'.os = s₁.os /\ AllBare s'.gens) s₁ := by
    intro H hO hS hok hA hK
    have iQ : ∀ {b : Addr} {o : Obj}, s₁.heap.get? b = some o -> H b = none -> (i7 s₁.heap H).get? b = some o := fun e n => yk e n
    have noA : ∀ {b : Addr} {o : Obj} {es : Array DictEntry} {ep : Nat}, s₁.heap.get? b = some o -> o.data = .dict es ep -> H b = none := fun {b o es ep} e d => by
      cases q : H b with
      | none => rfl
      | some u =>
        have e' : b = a := hA b (by rw [q]; simp)
        subst e'
        rw [ha] at e; cases e
        have d' : Data.seq vs.toArray _ = Data.dict es ep := d
        cases d'
    have nsK : ∀ {b : Addr} {m : Str -> Option Value}, s₁.heap.Ns b m -> (i7 s₁.heap H).Ns b m := fun {b m} ⟨o, es, ep, e, d, r⟩ => ⟨o, es, ep, iQ e (noA e d), d, r⟩
    have hKb : K.In (i7 s₁.heap H) := fun b o e => iQ (KX b o e) (by
      cases q : H b with
      | none => rfl
      | some u =>
        have e' : b = a := hA b (by rw [q]; simp)
        subst e'
        rw [hK (by rw [q]; simp)] at e; cases e)
    have hM : Mod K mg (i7 s₁.heap H) := ⟨hKb, nsK hns, ⟨mb, nsK hb, hbb⟩, let ⟨mc, h1, h2⟩ := hlim; ⟨mc, nsK h1, h2⟩⟩
    have e0 : iB P w K mg (i7 s₁.heap H) callerA [] s₁ H := ⟨rfl, hM, fun b o e => A9 e, Nat.le_of_eq (wl _ _), trivial, fun b hb => absurd (show b ∈ ([] : List Addr) from hb) (by simp), hok, .of_eq hg⟩
    refine codeAny_mono ((F _ hKb (nsK hns)).run callerA [] s₁ H ⟨[.ref a], []⟩ [.ref a] [.ref a] _ _ hr e0 (hbind s₁ (.ref a)) (.cons rfl .nil) (hsp H hO hS)) fun r s' h => ?_
    cases r with
    | error e => exact (hCX H e s' h).elim
    | ok fl =>
      cases fl with
      | next => exact False.elim h
      | brk => exact False.elim h
      | cont => exact False.elim h
      | ret u =>
        obtain ⟨v, H', os, bare, un, hok', r', q⟩ := h
        have q' : v = .bl true := q
        subst q'
        obtain rfl : u = Value.bool true := r'
        refine ⟨rfl, OldK.of_keep fun b o e => ?_, os, bare⟩
        cases q : H b with
        | none => exact un.keep b o e q (by intro z; exact absurd (show b ∈ ([] : List Addr) from z) (by simp)) (by simp)
        | some u =>
          rcases hO b with z | ⟨ob, xs, z⟩
          . rw [q] at z; cases z
          . have z2 := un.frzs b ob _ z
            obtain ⟨e1, _⟩ := hok b _ z
            obtain ⟨e2, _⟩ := hok' b _ z2
            rw [e] at e1; cases e1
            exact e2
  cases hk : K.lookup a with
  | some o =>
    have e := KX a o hk
    rw [ha] at e
    cases e
    refine core (fun _ => none) (fun _ => .inl rfl) (.inr ⟨_, vs.toArray, _, hk, rfl, rfl, rfl, by rw [List.size_toArray, lenV]; exact hl, by simpa using rv⟩) (fun b u z => by have z' : (none : Option HO) = some u := z; cases z') (fun b z => absurd rfl z) fun z => absurd rfl z
  | none =>
    refine core (fun b => if b = a then some (.frz { cls := .type "list", data := .seq vs.toArray } (.lst (ns.map V.int))) else none) (fun b => ?_) (.inl (.inr ⟨{ cls := .type "list", data := .seq vs.toArray }, if_pos rfl⟩)) (fun b u z => ?_) (fun b z => ?_) fun _ => hk
    . by_cases hb : b = a
      . exact .inr ⟨_, _, if_pos hb⟩
      . exact .inl (if_neg hb)
    . by_cases hb : b = a
      . have z' := (if_pos hb).symm.trans z
        cases z'
        subst hb
        exact ⟨ha, by rw [List.length_map]; exact hl, vs, _, rv, ha⟩
      . have z' := (if_neg hb).symm.trans z
        cases z'
    . by_cases hb : b = a
      . exact hb
      . exact absurd (if_neg hb) z
end L2
namespace L2
open PySem PySem.Spec PyProof.Rows
abbrev KOf {K : W.Frag} {h : Heap} (_ : K.In h) : W.Frag := K
theorem walk_of {l : W.OpenLaw} {n k : Nat} {q : Program} {loose : List Str} {XP : (Str -> Option Value) -> Heap -> Prop} {YP : World -> Heap -> Prop} {d : DefRec} {K : Params -> W.Frag} {CX : World -> jt} {sp : World -> Sp} {x : Str}
    (hn : l.most = some n) (hn2 : n <= sizeLine) (hdf : d.params.defaults = []) (hr : cf k callerA)
    (hY : ∀ (w : World) (h : Heap), YP w h -> (K w.params).In h)
    (F : ∀ (w : World) (mg : Str -> Option Value) (fa : Addr) (h : Heap), (K w.params).In h -> h.Ns mainGlobals mg -> mg d.name = some (.ref fa) ->
      ∃ fd : FuncData, (∀ (s : Shared) (u : Value), BindsTo s fd ⟨[u], []⟩ [(x, u)]) /\
        ∀ base : Heap, (K w.params).In base -> base.Ns mainGlobals mg -> cH l.prog w (K w.params) mg base (CX w) k fa fd [x] (sp w))
    (hsp : ∀ (w : World) (H : Hp) (a : Addr) (ns : List Int), ns.length <= n -> vd H -> cm (K w.params) H a (ns.map V.int) -> sp w [.ref a] H (fun v _ => v = .bl true) fun _ _ _ => False)
    (hCX : ∀ (w : World) (H : Hp) (s : Shared) (e : Value) (s' : Shared), CX w [] H s (fun _ _ _ => False) e s' -> False) :
    W.WalkO q loose XP YP l.row.toRowW d [] (fun f vs => PySem.call f vs) := by
  refine Att.attach_call hn hdf fun w s₀ s₁ mg mb fa o pm cd doc a vs ns G Y ho hd hcd hmg hobj hints hlen hg => ?_
  have KX := hY w _ Y
  obtain ⟨fd, hb, hF⟩ := F w mg fa _ KX G.T.g hmg
  exact yb KX G.T.g G.T.b G.T.builtins G.T.nolimit hg hobj hints (Nat.le_trans hlen hn2) hr hF hb (fun H hO hS => hsp w H a ns hlen hO hS) fun H e s' => hCX w H s₁ e s'
end L2
/- THE LAST THEOREM (shape; LID, My.* are yours):
   My.Adr: a structure of the addresses that your layer names (classes, functions); My.Txt K t: a structure (Prop) of the equations over K;
   My.txt_mk : {K} {implicit addresses ..} (e1 : nsIn K mainGlobals "law" = some (some (.ref f))) (e2 : K.lookup f = some ⟨oc, od, .func (fnOf "law" "law" params body scope dV kV doc pm an cdv ct), sl⟩) (e3 : codeIn K cdv "law" = true) .. : ∃ t, My.Txt K t
set_option maxRecDepth 100000 in
set_option maxHeartbeats 0 in
theorem PySem.Challenge.cw_LID_holds : PySem.Challenge.rw_LID.Holds := by
  w_on; o_law; k_head; (case hw => w_witness2)
  k_fill
  refine L2.walk_of (l := PySem.Challenge.rw_LID) (n := 63) (k := 40) (x := "script") (CX := fun w => ..) (sp := fun _ => My.sp_law) rfl (by decide) rfl ⟨rfl, by decide, by decide⟩ (fun w h Y => PySem.W.kIn_of Y) ?F ?S ?C
  case F =>
    intro w mg fa h KX G hmg
    have T : ∃ t, My.Txt (L2.KOf KX) t := by
      dsimp only [L2.KOf]                          -- K must stand as «<heap const> w.params» for k_is
      refine' My.txt_mk ?e1 ?e2 ?e3 ..
      (case e1 => PySem.W.k_is)                    -- in the order: a name -> its address -> its object -> its parts
      (case e2 => PySem.W.k_is)
      ..
    obtain ⟨t, T⟩ := T
    have e0 := hmg.symm.trans (PySem.W.mg_of KX G T.law)
    cases e0                                       -- fa is the law's own address
    exact ⟨_, fun s u => .of_eq rfl, fun base kb nb => My.law_fn T kb nb⟩     -- if «.of_eq rfl» comes too early: refine' ⟨_, ?b, fun base kb nb => My.law_fn T kb nb⟩; exact fun s u => .of_eq rfl
  case S => exact fun w H a ns hl hO hS => ..
  case C => exact ..
(the tactic k_is has no namespace: write k_is) -/
namespace L2
open PySem PySem.Spec PyProof.Rows
def aL (s : Stmt) : Arguments := match s with
  | .FunctionDef _ a _ _ _ _ _ _ _ _ => a
  | _ => { posonlyargs := [], args := [], vararg := none, kwonlyargs := [], kw_defaults := [], kwarg := none, defaults := [] }
def al (s : Stmt) : List Stmt := match s with
  | .FunctionDef _ _ b _ _ _ _ _ _ _ => b
  | _ => []
def ac (s : Stmt) : Scope := match s with
  | .FunctionDef _ _ _ _ _ _ sc _ _ _ => sc
  | _ => { kind := .function, names := [], isGenerator := false, isCoroutine := false }
abbrev fR : jt := fun _ _ _ _ _ _ => False
abbrev E0 : XK := fun _ _ _ => False
theorem kK {X : Cx} : fk fR X E0 := fun _ _ _ _ _ _ _ h => h.elim
structure pp (K : W.Frag) (x qual : Str) (st : Stmt) (f : Addr) (fd : FuncData) : Prop where
  ex : ∃ (oc : Value) (od : Option Addr) (kV doc pm : Value) (an : Option Addr) (cdv ct : Value) (osl : Array (Option Value)),
    fd = W.fnOf x qual (aL st) (al st) (ac st) .none kV doc pm an cdv ct /\ K.lookup f = some ⟨oc, od, .func fd, osl⟩ /\ W.codeIn K cdv qual = true
  kp : W.keepIn K (.ref f) = true
section
variable {P : Program} {w : World} {K : W.Frag} {mg : Str -> Option Value} {base : Heap}
theorem pp.ok {x qual : Str} {st : Stmt} {f : Addr} {fd : FuncData} {N ps : List Str} {k : Nat} {sp : Sp} (F : pp K x qual st f fd) (S : aK N ps (ac st)) (len : ∀ vs H Q E, sp vs H Q E -> vs.length = ps.length)
    (hbody : ∀ (cdv : Value) (A : Around) (outer : List Env) (s : Shared) (H : Hp) (vs : List V) (Q : VK) (E : XK), cf k (A.deeper (envOfC qual (ac st) s.heap.objs.size f cdv)) -> sp vs H Q E ->
      ∃ t, fY (jZ fR P w K mg base N qual (ac st) f cdv A outer s H E).nox (al st) t /\ t { nx := fun _ H' => Q .non H', rt := Q } (start N vs) H) : cH P w K mg base fR (k + 1) f fd ps sp := by
  obtain ⟨oc, od, kV, doc, pm, an, cdv, ct, osl, rfl, lk, hcd⟩ := F.ex
  refine G7 lk hcd S len fun A outer s H vs Q E hr hsp => ?_
  obtain ⟨t, h, q⟩ := hbody cdv A outer s H vs Q E hr hsp
  exact ⟨t, h.nox, q⟩
theorem pp.binds {x qual : Str} {st : Stmt} {f : Addr} {fd : FuncData} {ps : List Str} (F : pp K x qual st f fd)
    (h : ∀ (kV doc pm : Value) (an : Option Addr) (cdv ct : Value) (us : List Value), us.length = ps.length -> bindArgs (W.fnOf x qual (aL st) (al st) (ac st) .none kV doc pm an cdv ct) ⟨us, []⟩ = pure (ps.zip us)) : cN K fd ps [] := by
  obtain ⟨oc, od, kV, doc, pm, an, cdv, ct, osl, rfl, lk, hcd⟩ := F.ex
  exact .all (h kV doc pm an cdv ct)
theorem aZ {x qual : Str} {st : Stmt} {f : Addr} {oc : Value} {od an : Option Addr} {osl : Array (Option Value)} {kV doc pm cdv ct : Value} (l : K.lookup f = some ⟨oc, od, .func (W.fnOf x qual (aL st) (al st) (ac st) .none kV doc pm an cdv ct), osl⟩)
    (c : W.codeIn K cdv qual = true) (k : W.keepIn K (.ref f) = true) : pp K x qual st f (W.fnOf x qual (aL st) (al st) (ac st) .none kV doc pm an cdv ct) := ⟨⟨oc, od, kV, doc, pm, an, cdv, ct, osl, rfl, l, c⟩, k⟩
end
section
variable {X : Cx}
end
def aD (H H' : Hp) : Prop := ∀ b o, H b = some o -> H' b = some o
theorem aD.refl (H : Hp) : aD H H := fun _ _ h => h
theorem aD.trans {H H1 H2 : Hp} (a : aD H H1) (b : aD H1 H2) : aD H H2 := fun c o h => b c o (a c o h)
theorem aD.free {H H' : Hp} (e : aD H H') {l : Addr} (h : H' l = Option.none) : H l = Option.none := by
  cases q : H l with
  | none => rfl
  | some o =>
    rw [e l o q] at h
    cases h
theorem aD.seq {K : W.Frag} {H H' : Hp} {a : Addr} {xs : List V} (e : aD H H') (h : cm K H a xs) : cm K H' a xs := by
  rcases h with (h | ⟨o, h⟩) | h
  . exact .inl (.inl (e _ _ h))
  . exact .inl (.inr ⟨o, e _ _ h⟩)
  . exact .inr h
end L2
namespace L2
open PySem PySem.Spec PyProof.Rows
section
variable {κ : Type} [DecidableEq κ]
def iU (kvs : List (κ × V)) (k : κ) : Option V := (kvs.find? fun kv => decide (kv.1 = k)).map (·.2)
def ik (kvs : List (κ × V)) (k : κ) (v : V) : List (κ × V) :=
  if (kvs.any fun kv => decide (kv.1 = k)) = true then kvs.map (fun kv => if kv.1 = k then (kv.1, v) else kv) else kvs ++ [(k, v)]
def zV (kvs : List (κ × V)) (k : κ) : List (κ × V) := kvs.filter fun kv => decide (kv.1 ≠ k)
theorem lU {p : κ × V} {r : List (κ × V)} {k : κ} (e : p.1 = k) : iU (p :: r) k = some p.2 := by simp [iU, List.find?_cons, e]
theorem lV {p : κ × V} {r : List (κ × V)} {k : κ} (e : ¬ p.1 = k) : iU (p :: r) k = iU r k := by simp [iU, List.find?_cons, e]
theorem pW (k : κ) : ∀ kvs : List (κ × V), (kvs.any fun kv => decide (kv.1 = k)) = (iU kvs k).isSome
  | [] => rfl
  | p :: r => by
    rw [List.any_cons]
    by_cases e : p.1 = k
    . simp only [lU e, decide_eq_true e, Bool.true_or, Option.isSome_some]
    . rw [lV e, decide_eq_false e, Bool.false_or]; exact pW k r
theorem sB (kvs : List (κ × V)) (k : κ) (v : V) : (ik kvs k v).length <= kvs.length + 1 := by
  unfold ik
  split
  . rw [List.length_map]; omega
  . rw [List.length_append, List.length_cons, List.length_nil]; omega
theorem eU.isSome_eq {o : Option V} {u : Option Value} (r : eU o u) : o.isSome = u.isSome := by
  cases o with
  | none => cases u with
    | none => rfl
    | some _ => exact (show False from r).elim
  | some _ => cases u with
    | none => exact (show False from r).elim
    | some _ => rfl
theorem eU.getD {o : Option V} {u : Option Value} {d : V} {d' : Value} (r : eU o u) (rd : aQ d d') : aQ (o.getD d) (u.getD d') := by
  cases o with
  | none => cases u with
    | none => exact rd
    | some _ => exact (show False from r).elim
  | some _ => cases u with
    | none => exact (show False from r).elim
    | some _ => exact r
theorem KV.val {kvs : List (κ × V)} {vs : List (κ × Value)} (r : KV kvs vs) (k : κ) : eU (iU kvs k) (valueAt vs k) := by
  unfold KV at r
  induction r with
  | nil => exact True.intro
  | @cons p q ps qs h t ih =>
    obtain ⟨h1, h2⟩ := h
    by_cases e : p.1 = k
    . have e' : q.1 = k := h1.symm.trans e
      have b : valueAt (q :: qs) k = some q.2 := by simp [valueAt, List.find?_cons, e']
      rw [lU e, b]; exact h2
    . have e' : ¬ q.1 = k := fun z => e (h1.trans z)
      have b : valueAt (q :: qs) k = valueAt qs k := by simp [valueAt, List.find?_cons, e']
      rw [lV e, b]; exact ih
theorem KV.any {kvs : List (κ × V)} {vs : List (κ × Value)} (r : KV kvs vs) (k : κ) : (kvs.any fun kv => decide (kv.1 = k)) = vs.any fun kv => decide (kv.1 = k) := by
  unfold KV at r
  induction r with
  | nil => rfl
  | cons h t ih => rw [List.any_cons, List.any_cons, ih, h.1]
theorem KV.repl {kvs : List (κ × V)} {vs : List (κ × Value)} (r : KV kvs vs) (k : κ) {y : V} {u : Value} (ry : aQ y u) :
    KV (kvs.map fun kv => if kv.1 = k then (kv.1, y) else kv) (vs.map fun kv => if kv.1 = k then (kv.1, u) else kv) := by
  unfold KV at r ⊢
  induction r with
  | nil => exact .nil
  | @cons p q ps qs h t ih =>
    rw [List.map_cons, List.map_cons]
    refine .cons ?_ ih
    obtain ⟨h1, h2⟩ := h
    by_cases e : p.1 = k
    . rw [if_pos e, if_pos (h1.symm.trans e)]; exact ⟨h1, ry⟩
    . rw [if_neg e, if_neg (fun z => e (h1.trans z))]; exact ⟨h1, h2⟩
theorem KV.put {kvs : List (κ × V)} {vs : List (κ × Value)} (r : KV kvs vs) (k : κ) {y : V} {u : Value} (ry : aQ y u) : KV (ik kvs k y) (stored vs k u) := by
  unfold ik stored
  rw [r.any k]
  by_cases e : (vs.any fun kv => decide (kv.1 = k)) = true
  . rw [if_pos e, if_pos e]; exact r.repl k ry
  . rw [if_neg e, if_neg e]; exact Paired.snoc r ⟨rfl, ry⟩
theorem KV.drop {kvs : List (κ × V)} {vs : List (κ × Value)} (r : KV kvs vs) (k : κ) : KV (zV kvs k) (without vs k) := by
  unfold KV at r ⊢
  unfold zV without
  induction r with
  | nil => exact .nil
  | @cons p q ps qs h t ih =>
    obtain ⟨h1, h2⟩ := h
    rw [List.filter_cons, List.filter_cons]
    by_cases e : p.1 = k
    . have a : ¬ decide (p.1 ≠ k) = true := by simp [e]
      have b : ¬ decide (q.1 ≠ k) = true := by simp [h1.symm.trans e]
      rw [if_neg a, if_neg b]; exact ih
    . have e' : ¬ q.1 = k := fun z => e (h1.trans z)
      have a : decide (p.1 ≠ k) = true := by simp [e]
      have b : decide (q.1 ≠ k) = true := by simp [e']
      rw [if_pos a, if_pos b]; exact .cons ⟨h1, h2⟩ ih
theorem KV.length {kvs : List (κ × V)} {vs : List (κ × Value)} (r : KV kvs vs) : kvs.length = vs.length := Paired.length r
end
theorem uI {P : Program} {w : World} {k : bO} {u : Value} (r : aQ (kV k) u) : (fA P w).is k u = true := by
  cases k with
  | inl i => obtain ⟨t, e⟩ := (show ∃ t, u = Value.int i t from r); subst e; exact sA P w i t
  | inr x => obtain ⟨t, e⟩ := (show ∃ t, u = Value.str x t from r); subst e; exact sy P w x t
end L2
set_option maxHeartbeats 4000000
namespace Sp
open PySem PySem.Spec PyProof.Rows L2
inductive D where
  | non | bl (b : Bool) | int (i : Int) | str (x : Str) | dct (ks : List bO) (ds : List D) | tup (l : List D) | lst (l : List D) | typ (n : String) | sn (n : Nat) | obj (n : Str) (ns : List Str) (ds : List D) | cls (n : Str)
mutual
def D.lless : D -> Bool
  | .lst _ => false
  | .dct _ _ => false
  | .tup l => ao l
  | _ => true
def ao : List D -> Bool
  | [] => true
  | d :: l => d.lless && ao l
end
def r9 (K : W.Frag) (H : Hp) (a : Addr) (vs : List V) : Bool -> Prop
  | true => H a = some (.lst vs)
  | false => (∃ o, H a = some (.frz o (.lst vs))) \/ ∃ (o : Obj) (its : Array Value) (n : Nat), K.lookup a = some o /\ o.cls = .type "list" /\ o.dict = none /\ o.data = .seq its n /\ its.size <= sizeLine /\ aJ vs its.toList
theorem r9.sq {K : W.Frag} {H : Hp} {a : Addr} {vs : List V} : ∀ {b : Bool}, r9 K H a vs b -> cm K H a vs
  | true, h => cm.of h
  | false, .inl ⟨o, h⟩ => .inl (.inr ⟨o, h⟩)
  | false, .inr h => .inr h
structure pQ (K : W.Frag) (C : Addr) : Prop where
  ha : W.findIn K (.ref C) "__class__" = some (some (.builtin "object.__class__"))
  hn : W.specialIn K (.builtin "object.__class__") "__get__" = some (some (.builtin "getset_descriptor.__get__"))
  ht : W.takesIn K (.builtin "object.__class__") = some true
  hm : W.mroIn K C (.type "object") = some true
def EN : List Str := ["Deed", "Turn", "HalfTurn", "Mirror"]
def p9 (m n : Str) : Bool := decide (m = n) || (decide (n = "Deed") && (decide (m = "Turn") || decide (m = "HalfTurn") || decide (m = "Mirror")))
structure Hs (K : W.Frag) (C : Addr) (n : Str) : Prop where
  all : ∀ m ∈ EN, ∀ Cm, W.nsIn K mainGlobals m = some (some (.ref Cm)) -> pQ K Cm /\ W.kitOne K (.ref Cm) (.ref C) = some (p9 m n)
abbrev bg := Addr -> Bool -> Prop
mutual
def ah (K : W.Frag) (H : Hp) (P : bg) : D -> V -> Prop
  | .non, v => v = .non
  | .bl b, v => v = .bl b
  | .int i, v => v = .int i
  | .str x, v => v = .str x
  | .dct ks ds, v => ao ds = true /\ ks.length = ds.length /\ ∃ a vs, v = .ref a /\ H a = some (.dK (ks.zip vs)) /\ P a true /\ ag K H P ds vs
  | .typ n, v => v = .ty n
  | .sn n, v => ∃ a S, v = .ref a /\ H a = some (.set S n)
  | .cls n, v => ∃ C o, v = .ref C /\ W.nsIn K mainGlobals n = some (some (.ref C)) /\ K.lookup C = some o /\ o.cls = .type "type" /\ pQ K C /\ Hs K C n
  | .obj n ns ds, v => ao ds = true /\ ns.length = ds.length /\ ∃ a C dx vs, v = .ref a /\ W.nsIn K mainGlobals n = some (some (.ref C)) /\ fZ K C /\ H a = some (.ins C dx (ns.zip vs)) /\ ag K H P ds vs
  | .tup l, v => ∃ a vs, v = .ref a /\ ck K H a vs /\ ag K H P l vs
  | .lst l, v => ∃ a vs b, v = .ref a /\ r9 K H a vs b /\ P a b /\ ag K H P l vs
def ag (K : W.Frag) (H : Hp) (P : bg) : List D -> List V -> Prop
  | [], vs => vs = []
  | d :: l, vs => ∃ v r, vs = v :: r /\ ah K H P d v /\ ag K H P l r
end
def nm : HO -> Prop
  | .lst _ => False
  | .dK _ => False
  | _ => True
structure dM (P P' : bg) (H H' : Hp) : Prop where
  oth : ∀ a o, H a = some o -> nm o -> H' a = some o
  lst : ∀ a o, H a = some o -> P a true -> H' a = some o
  impT : ∀ a o, H a = some o -> P a true -> P' a true
  impF : ∀ a, P a false -> P' a false
theorem dM.sq {P P' : bg} {H H' : Hp} {K : W.Frag} (s : dM P P' H H') {a : Addr} {vs : List V} (h : ck K H a vs) : ck K H' a vs := by
  rcases h with (h | ⟨o, h⟩) | h
  . exact .inl (.inl (s.oth _ _ h True.intro))
  . exact .inl (.inr ⟨o, s.oth _ _ h True.intro⟩)
  . exact .inr h
theorem dM.ls {P P' : bg} {H H' : Hp} {K : W.Frag} (s : dM P P' H H') {a : Addr} {vs : List V} : ∀ {b : Bool}, r9 K H a vs b -> P a b -> r9 K H' a vs b
  | true, h, p => s.lst a _ h p
  | false, .inl ⟨o, h⟩, _ => .inl ⟨o, s.oth _ _ h True.intro⟩
  | false, .inr h, _ => .inr h
theorem dM.imp {P P' : bg} {H H' : Hp} {K : W.Frag} (s : dM P P' H H') {a : Addr} {vs : List V} : ∀ {b : Bool}, r9 K H a vs b -> P a b -> P' a b
  | true, h, p => s.impT a _ h p
  | false, _, p => s.impF a p
mutual
theorem ah.mono {K : W.Frag} {P P' : bg} {H H' : Hp} (s : dM P P' H H') : ∀ {d : D} {v : V}, ah K H P d v -> ah K H' P' d v
  | .non, v, h => by rw [ah] at h ⊢; exact h
  | .bl b, v, h => by rw [ah] at h ⊢; exact h
  | .int i, v, h => by rw [ah] at h ⊢; exact h
  | .str x, v, h => by rw [ah] at h ⊢; exact h
  | .dct ks ds, v, h => by
    rw [ah] at h ⊢
    obtain ⟨f, e0, a, vs, e, h1, p, r⟩ := h
    exact ⟨f, e0, a, vs, e, s.lst _ _ h1 p, s.impT _ _ h1 p, ag.mono s r⟩
  | .typ n, v, h => by rw [ah] at h ⊢; exact h
  | .sn n, v, h => by
    rw [ah] at h ⊢
    obtain ⟨a, S, e, h⟩ := h
    exact ⟨a, S, e, s.oth _ _ h True.intro⟩
  | .cls n, v, h => by rw [ah] at h ⊢; exact h
  | .obj n ns ds, v, h => by
    rw [ah] at h ⊢
    obtain ⟨f, e0, a, C, dx, vs, e, h1, h2, h3, r⟩ := h
    exact ⟨f, e0, a, C, dx, vs, e, h1, h2, s.oth _ _ h3 True.intro, ag.mono s r⟩
  | .tup l, v, h => by
    rw [ah] at h ⊢
    obtain ⟨a, vs, e, h, r⟩ := h
    exact ⟨a, vs, e, s.sq h, ag.mono s r⟩
  | .lst l, v, h => by
    rw [ah] at h ⊢
    obtain ⟨a, vs, b, e, h, p, r⟩ := h
    exact ⟨a, vs, b, e, s.ls h p, s.imp h p, ag.mono s r⟩
theorem ag.mono {K : W.Frag} {P P' : bg} {H H' : Hp} (s : dM P P' H H') : ∀ {l : List D} {vs : List V}, ag K H P l vs -> ag K H' P' l vs
  | [], vs, h => by rw [ag] at h ⊢; exact h
  | d :: l, vs, h => by
    rw [ag] at h ⊢
    obtain ⟨v, r, e, h1, h2⟩ := h
    exact ⟨v, r, e, ah.mono s h1, ag.mono s h2⟩
end
theorem dM.same {P P' : bg} {H H' : Hp} (s : aD H H') (i : ∀ a b, P a b -> P' a b) : dM P P' H H' := ⟨fun a o h _ => s a o h, fun a vs h _ => s a _ h, fun a _ _ p => i a true p, fun a p => i a false p⟩
theorem ah.same {K : W.Frag} {P : bg} {H H' : Hp} (s : aD H H') {d : D} {v : V} (h : ah K H P d v) : ah K H' P d v := h.mono (.same s fun _ _ p => p)
theorem ag.same {K : W.Frag} {P : bg} {H H' : Hp} (s : aD H H') {d : List D} {v : List V} (h : ag K H P d v) : ag K H' P d v := h.mono (.same s fun _ _ p => p)
theorem ah.imp {K : W.Frag} {P P' : bg} {H : Hp} (i : ∀ a b, P a b -> P' a b) {d : D} {v : V} (h : ah K H P d v) : ah K H P' d v := h.mono (.same (aD.refl _) i)
theorem ag.imp {K : W.Frag} {P P' : bg} {H : Hp} (i : ∀ a b, P a b -> P' a b) {d : List D} {v : List V} (h : ag K H P d v) : ag K H P' d v := h.mono (.same (aD.refl _) i)
theorem ah.impH {K : W.Frag} {P P' : bg} {H : Hp} (i : ∀ a o, H a = some o -> P a true -> P' a true) (j : ∀ a, P a false -> P' a false) {d : D} {v : V} (h : ah K H P d v) : ah K H P' d v := h.mono ⟨fun _ _ h _ => h, fun _ _ h _ => h, i, j⟩
theorem ag.impH {K : W.Frag} {P P' : bg} {H : Hp} (i : ∀ a o, H a = some o -> P a true -> P' a true) (j : ∀ a, P a false -> P' a false) {d : List D} {v : List V} (h : ag K H P d v) : ag K H P' d v := h.mono ⟨fun _ _ h _ => h, fun _ _ h _ => h, i, j⟩
mutual
theorem ah.flat {K : W.Frag} {P : bg} (P' : bg) {H : Hp} : ∀ {d : D} {v : V}, d.lless = true -> ah K H P d v -> ah K H P' d v
  | .non, v, _, h => by rw [ah] at h ⊢; exact h
  | .bl b, v, _, h => by rw [ah] at h ⊢; exact h
  | .int i, v, _, h => by rw [ah] at h ⊢; exact h
  | .str x, v, _, h => by rw [ah] at h ⊢; exact h
  | .dct _ _, v, f, h => by rw [D.lless] at f; cases f
  | .typ n, v, _, h => by rw [ah] at h ⊢; exact h
  | .sn n, v, _, h => by rw [ah] at h ⊢; exact h
  | .cls n, v, _, h => by rw [ah] at h ⊢; exact h
  | .obj n ns ds, v, _, h => by
    rw [ah] at h ⊢
    obtain ⟨f, e0, a, C, dx, vs, e, h1, h2, h3, r⟩ := h
    exact ⟨f, e0, a, C, dx, vs, e, h1, h2, h3, ag.flat P' f r⟩
  | .tup l, v, f, h => by
    rw [ah] at h ⊢
    obtain ⟨a, vs, e, h, r⟩ := h
    exact ⟨a, vs, e, h, ag.flat P' (by rw [D.lless] at f; exact f) r⟩
  | .lst l, v, f, h => by rw [D.lless] at f; cases f
theorem ag.flat {K : W.Frag} {P : bg} (P' : bg) {H : Hp} : ∀ {l : List D} {vs : List V}, ao l = true -> ag K H P l vs -> ag K H P' l vs
  | [], vs, _, h => by rw [ag] at h ⊢; exact h
  | d :: l, vs, f, h => by
    rw [ag] at h ⊢
    rw [ao, Bool.and_eq_true] at f
    obtain ⟨v, r, e, h1, h2⟩ := h
    exact ⟨v, r, e, ah.flat P' f.1 h1, ag.flat P' f.2 h2⟩
end
theorem ag.length {K : W.Frag} {P : bg} {H : Hp} : ∀ {l : List D} {vs : List V}, ag K H P l vs -> l.length = vs.length
  | [], vs, h => by rw [ag] at h; subst h; rfl
  | d :: l, vs, h => by
    rw [ag] at h
    obtain ⟨v, r, e, h1, h2⟩ := h
    subst e
    rw [List.length_cons, List.length_cons, h2.length]
theorem ag.get {K : W.Frag} {P : bg} {H : Hp} : ∀ {l : List D} {vs : List V} {i : Nat} {d : D}, ag K H P l vs -> l[i]? = some d -> ∃ v, vs[i]? = some v /\ ah K H P d v
  | [], vs, i, d, h, e => by simp at e
  | x :: l, vs, 0, d, h, e => by
    rw [ag] at h
    obtain ⟨v, r, rfl, h1, h2⟩ := h
    simp at e; subst e
    exact ⟨v, by simp, h1⟩
  | x :: l, vs, i + 1, d, h, e => by
    rw [ag] at h
    obtain ⟨v, r, rfl, h1, h2⟩ := h
    obtain ⟨u, h3, h4⟩ := ag.get (i := i) h2 (by simpa using e)
    exact ⟨u, by simpa using h3, h4⟩
theorem ag.append {K : W.Frag} {P : bg} {H : Hp} : ∀ {l m : List D} {vs ws : List V}, ag K H P l vs -> ag K H P m ws -> ag K H P (l ++ m) (vs ++ ws)
  | [], m, vs, ws, h, g => by rw [ag] at h; subst h; exact g
  | d :: l, m, vs, ws, h, g => by
    rw [ag] at h
    obtain ⟨v, r, rfl, h1, h2⟩ := h
    show ag K H P (d :: (l ++ m)) (v :: (r ++ ws))
    rw [ag]
    exact ⟨v, _, rfl, h1, ag.append h2 g⟩
theorem ag.one {K : W.Frag} {P : bg} {H : Hp} {d : D} {v : V} (h : ah K H P d v) : ag K H P [d] [v] := by
  rw [ag]; exact ⟨v, [], rfl, h, by rw [ag]⟩
theorem ag.nil {K : W.Frag} {P : bg} {H : Hp} : ag K H P [] [] := by rw [ag]
theorem ag.cons {K : W.Frag} {P : bg} {H : Hp} {d : D} {v : V} {l : List D} {vs : List V} (h : ah K H P d v) (g : ag K H P l vs) : ag K H P (d :: l) (v :: vs) := by
  rw [ag]; exact ⟨v, vs, rfl, h, g⟩
theorem ag.take {K : W.Frag} {P : bg} {H : Hp} : ∀ {l : List D} {vs : List V} (n : Nat), ag K H P l vs -> ag K H P (l.take n) (vs.take n)
  | [], vs, n, h => by rw [ag] at h; subst h; simp; exact ag.nil
  | d :: l, vs, 0, h => by simp; exact ag.nil
  | d :: l, vs, n + 1, h => by
    rw [ag] at h
    obtain ⟨v, r, rfl, h1, h2⟩ := h
    exact ag.cons h1 (ag.take n h2)
theorem ag.drop {K : W.Frag} {P : bg} {H : Hp} : ∀ {l : List D} {vs : List V} (n : Nat), ag K H P l vs -> ag K H P (l.drop n) (vs.drop n)
  | [], vs, n, h => by rw [ag] at h; subst h; simp; exact ag.nil
  | d :: l, vs, 0, h => h
  | d :: l, vs, n + 1, h => by
    rw [ag] at h
    obtain ⟨v, r, rfl, h1, h2⟩ := h
    exact ag.drop n h2
theorem ag.mapInt {K : W.Frag} {P : bg} {H : Hp} : ∀ {ns : List Int} {vs : List V}, ag K H P (ns.map D.int) vs -> vs = ns.map V.int
  | [], vs, h => by rw [List.map_nil, ag] at h; exact h
  | n :: ns, vs, h => by
    rw [List.map_cons, ag] at h
    obtain ⟨v, r, rfl, h1, h2⟩ := h
    rw [ah] at h1
    rw [h1, ag.mapInt h2]; rfl
theorem ag.ofInts {K : W.Frag} {P : bg} {H : Hp} : ∀ {ns : List Int}, ag K H P (ns.map D.int) (ns.map V.int)
  | [] => ag.nil
  | n :: ns => ag.cons (by rw [ah]) ag.ofInts
abbrev Ow := Addr -> Option (Option Str)
def Kp (ow : Ow) (H : Hp) : Nat -> bg
  | 0 => fun a b => b = true /\ H a = none
  | 1 => fun a b => b = true -> ow a = none
  | 2 => fun a b => b = true /\ (ow a ≠ none \/ H a = none)
  | _ => fun _ _ => True
def kj : Nat -> Nat -> Nat
  | 0, k => k
  | k, 0 => k
  | 1, 1 => 1
  | 2, 2 => 2
  | _, _ => 3
def jM (ow : Ow) (x : Str) : Bool -> bg
  | true => fun a b => b = true /\ ow a = some (some x)
  | false => fun a b => b = true -> ow a = none
def eG (ow : Ow) (H : Hp) : Prop := ∀ a, ow a ≠ none -> ∃ o, H a = some o
theorem eG.same {ow : Ow} {H H' : Hp} (o : eG ow H) (s : aD H H') : eG ow H' := fun a h => let ⟨x, e⟩ := o a h; ⟨x, s a x e⟩
theorem eG.free {ow : Ow} {H : Hp} (o : eG ow H) {a : Addr} (h : H a = none) : ow a = none := by
  cases e : ow a with
  | none => rfl
  | some x => obtain ⟨y, q⟩ := o a (by rw [e]; exact (fun z => nomatch z)); rw [h] at q; cases q
theorem Kp.back {ow : Ow} {H H' : Hp} (s : aD H H') : ∀ (k : Nat) (a : Addr) (b : Bool), Kp ow H' k a b -> Kp ow H k a b
  | 0, a, b, h => ⟨h.1, s.free h.2⟩
  | 1, a, b, h => h
  | 2, a, b, h => ⟨h.1, h.2.imp id fun z => s.free z⟩
  | _ + 3, a, b, h => True.intro
theorem Kp.joinL {ow : Ow} {H : Hp} (o : eG ow H) : ∀ (k j : Nat) (a : Addr) (b : Bool), Kp ow H k a b -> Kp ow H (kj k j) a b
  | 0, 0, a, b, h => h
  | 0, 1, a, b, h => fun _ => o.free h.2
  | 0, 2, a, b, h => ⟨h.1, .inr h.2⟩
  | 0, _ + 3, a, b, h => True.intro
  | 1, 0, a, b, h => h
  | 1, 1, a, b, h => h
  | 1, 2, a, b, h => True.intro
  | 1, _ + 3, a, b, h => True.intro
  | 2, 0, a, b, h => h
  | 2, 1, a, b, h => True.intro
  | 2, 2, a, b, h => h
  | 2, _ + 3, a, b, h => True.intro
  | _ + 3, 0, a, b, h => True.intro
  | _ + 3, 1, a, b, h => True.intro
  | _ + 3, 2, a, b, h => True.intro
  | _ + 3, _ + 3, a, b, h => True.intro
theorem Bo : ∀ k j, kj k j = kj j k
  | 0, 0 | 0, 1 | 0, 2 | 0, _ + 3 | 1, 0 | 1, 1 | 1, 2 | 1, _ + 3 | 2, 0 | 2, 1 | 2, 2 | 2, _ + 3 | _ + 3, 0 | _ + 3, 1 | _ + 3, 2 | _ + 3, _ + 3 => rfl
theorem Kp.joinR {ow : Ow} {H : Hp} (o : eG ow H) (k j : Nat) (a : Addr) (b : Bool) (h : Kp ow H j a b) : Kp ow H (kj k j) a b := by
  rw [Bo]; exact Kp.joinL o j k a b h
abbrev aj := Str -> Option (D × Bool)
structure aS (X : Cx) (ow : Ow) (H : Hp) (σ : L2.St) (ρ : aj) : Prop where
  get : ∀ x d o, ρ x = some (d, o) -> ∃ (i : Nat) (v : V), X.N[i]? = some x /\ jr X.env.scope x /\ σ[i]? = some (some v) /\ ah X.K H (jM ow x o) d v
  own : eG ow H
theorem aS.same {X : Cx} {ow : Ow} {H H' : Hp} {σ : L2.St} {ρ : aj} (e : aS X ow H σ ρ) (s : aD H H') : aS X ow H' σ ρ :=
  ⟨fun x d o h => let ⟨i, v, h1, h2, h3, h4⟩ := e.get x d o h; ⟨i, v, h1, h2, h3, h4.same s⟩, e.own.same s⟩
def tD (X : Cx) (ow : Ow) (ρ : aj) (d : D) (k : Nat) : TE := fun σ H Q => aS X ow H σ ρ /\ ∀ v H', aD H H' -> ah X.K H' (Kp ow H k) d v -> Q v H'
def ED (X : Cx) (ρ : aj) (e : Expr) (d : D) (k : Nat) : Prop := ∀ ow, PE X e (tD X ow ρ d k)
def zi (X : Cx) (ow : Ow) (ρ : aj) (b : Bool) : TT := fun σ H Q => aS X ow H σ ρ /\ ∀ H', aD H H' -> Q b H'
def TD (X : Cx) (ρ : aj) (e : Expr) (b : Bool) : Prop := ∀ ow, PT X e (zi X ow ρ b)
def N6 (X : Cx) (ow : Ow) (ρ : aj) (ds : List D) (k : Nat) : TA := fun σ H Q => aS X ow H σ ρ /\ ∀ vs H', aD H H' -> ag X.K H' (Kp ow H k) ds vs -> Q vs H'
def AD (X : Cx) (ρ : aj) (es : List Expr) (ds : List D) (k : Nat) : Prop := ∀ ow, PA X es (N6 X ow ρ ds k)
theorem bE {X : Cx} {e : Expr} {t t' : TE} (h : PE X e t) (i : ∀ σ H Q, t' σ H Q -> t σ H Q) : PE X e t' := fun pins s σ H Q I q => h pins s σ H Q I (i σ H Q q)
theorem vc {X : Cx} {e : Expr} {t t' : TT} (h : PT X e t) (i : ∀ σ H Q, t' σ H Q -> t σ H Q) : PT X e t' := fun pins s σ H Q I q => h pins s σ H Q I (i σ H Q q)
theorem Ac {X : Cx} {e : List Expr} {t t' : TA} (h : PA X e t) (i : ∀ σ H Q, t' σ H Q -> t σ H Q) : PA X e t' := fun pos pins s σ H Q I q => h pos pins s σ H Q I (i σ H Q q)
def kn (d : D) (k : Nat) : Nat := if d.lless = true then 0 else k
theorem ED.kn {X : Cx} {ρ : aj} {e : Expr} {d : D} {k : Nat} (h : ED X ρ e d k) : ED X ρ e d (Sp.kn d k) := by
  unfold Sp.kn
  by_cases f : d.lless = true
  . rw [if_pos f]
    exact fun ow => bE (h ow) fun σ H Q ⟨E, q⟩ => ⟨E, fun v H' s r => q v H' s (r.flat _ f)⟩
  . rw [if_neg f]; exact h
end Sp
set_option Elab.async false
set_option linter.all false
set_option maxRecDepth 100000
namespace Sp
open PySem PySem.Spec PyProof.Rows L2
def HC (K : W.Frag) (J : It) (ds : List D) (P : bg) (H1 : Hp) : Prop :=
  ∀ (i : Nat) (H2 : Hp), dM P P H1 H2 -> (∀ d, ds[i]? = some d -> J.go i H2 /\ ∀ x H3, J.yld i H2 x H3 -> aD H2 H3 /\ ah K H3 P d x) /\ (ds.length <= i -> J.stop i H2)
def Kd (ow : Ow) (H : Hp) (k : Nat) (H1 : Hp) : bg := fun a b => Kp ow H k a b /\ (b = true -> ∃ o, H1 a = some o)
def tI (X : Cx) (ow : Ow) (ρ : aj) (ds : List D) (k : Nat) : TI := fun σ H R => aS X ow H σ ρ /\ ∀ J H1, aD H H1 -> HC X.K J ds (Kd ow H k H1) H1 -> R J H1
def IE (X : Cx) (ρ : aj) (tg iter : Expr) (ds : List D) (k : Nat) : Prop := ∀ ow, PI X tg iter (tI X ow ρ ds k)
def gK (ifs : List Expr) (env : Env) : Sem Bool := forIn ifs true fun c r => if r = true then do let ok <- isTrue c env (eval c env); pure (ForInStep.yield ok) else pure (ForInStep.yield r)
def w6 (X : Cx) (ρ : aj) (ifs : List Expr) (b : Bool) : Prop := ∀ ow (pins : List (Addr × Obj)) (s : Shared) (σ : L2.St) (H : Hp) (Q : Bool -> Hp -> Prop), ak X pins σ H s -> zi X ow ρ b σ H Q -> wpAny (model X.prog X.w) X.A (gK ifs X.env) (TP X pins σ Q) X.xe s
def GD (X : Cx) (ρ : aj) (tg : Expr) (d : D) (ρ' : aj) : Prop := ∃ g : TG, PG X tg g /\ ∀ (ow : Ow) (v : V) (σ : L2.St) (H : Hp) (Q : L2.St -> Hp -> Prop), σ.length = X.N.length -> aS X ow H σ ρ -> ah X.K H (fun a b => b = true -> ow a = none) d v -> (∀ σ', σ'.length = X.N.length -> aS X ow H σ' ρ' -> Q σ' H) -> g v σ H Q
abbrev jU (X : Cx) (scope : Scope) (cl : List (Str × Addr)) (C : Addr) (N' : List Str) (s : Shared) (H : Hp) (fp : List Addr) : Cx :=
  { X with N := N', s₀ := s, H₀ := H, env := compEnvC scope cl C X.env, outer := X.stack, stack := X.stack, ex := fp, fn := fun x => decide (scope.names.lookup x = some .cell), pn := [], xe := fun _ _ => False }
theorem gN {env : Env} : ∀ (names : List (Str × NameKind)) (cs : List (Str × Addr)), (∀ n, (n, NameKind.free) ∈ names -> ∃ c, env.cells.lookup n = some c) ->
    ∃ cl, (forIn names cs (fun (x : Str × NameKind) (r : List (Str × Addr)) => (if (x.2 == NameKind.free) = true then do let a <- cellOf env x.1; pure (ForInStep.yield ((x.1, a) :: r)) else pure (ForInStep.yield r) : Sem (ForInStep (List (Str × Addr)))))) = (pure cl : Sem (List (Str × Addr))) /\
      (∀ x c, cl.lookup x = some c -> (env.cells.lookup x = some c /\ (x, NameKind.free) ∈ names) \/ cs.lookup x = some c) /\ (∀ x, (x, NameKind.free) ∈ names -> ∃ c, cl.lookup x = some c) /\ (∀ x c, cs.lookup x = some c -> ∃ c', cl.lookup x = some c')
  | [], cs, _ => ⟨cs, rfl, fun x c h => .inr h, fun x h => (by cases h), fun x c h => ⟨c, h⟩⟩
  | (n, k) :: r, cs, h => by
    have hr : ∀ n, (n, NameKind.free) ∈ r -> ∃ c, env.cells.lookup n = some c := fun m hm => h m (List.mem_cons_of_mem _ hm)
    by_cases hk : k = .free
    . subst hk
      obtain ⟨c, hc⟩ := h n List.mem_cons_self
      obtain ⟨cl, e, h1, h2, h3⟩ := gN r ((n, c) :: cs) hr
      refine ⟨cl, ?_, fun x c' hx => ?_, fun x hx => ?_, fun x c' hx => ?_⟩
      . rw [List.forIn_cons]
        simp only [beq_self_eq_true, if_true, cellOf, hc]
        rw [pure_bind, pure_bind]
        exact e
      . rcases h1 x c' hx with q | q
        . exact .inl ⟨q.1, List.mem_cons_of_mem _ q.2⟩
        . rw [List.lookup_cons] at q
          split at q
          . rename_i hb
            have : x = n := by simpa using hb
            subst this; cases q; exact .inl ⟨hc, List.mem_cons_self⟩
          . exact .inr q
      . rcases List.mem_cons.mp hx with q | q
        . cases q
          exact h3 n c (by simp)
        . exact h2 x q
      . by_cases hb : x == n
        . exact h3 x c (by rw [List.lookup_cons, hb])
        . exact h3 x c' (by rw [List.lookup_cons]; simp only [hb]; exact hx)
    . obtain ⟨cl, e, h1, h2, h3⟩ := gN r cs hr
      refine ⟨cl, ?_, fun x c hx => (h1 x c hx).imp (fun q => ⟨q.1, List.mem_cons_of_mem _ q.2⟩) id, fun x hx => ?_, h3⟩
      . rw [List.forIn_cons]
        have : (k == NameKind.free) = false := by simpa using hk
        simp only [this, Bool.false_eq_true, if_false]
        rw [pure_bind]
        exact e
      . rcases List.mem_cons.mp hx with q | q
        . cases q; exact absurd rfl hk
        . exact h2 x q
theorem sC {env : Env} {scope : Scope} (h : ∀ n, (n, NameKind.free) ∈ scope.names -> ∃ c, env.cells.lookup n = some c) :
    ∃ cl, closureFor scope env = pure cl /\ (∀ x c, cl.lookup x = some c -> env.cells.lookup x = some c /\ (x, NameKind.free) ∈ scope.names) /\ (∀ x, (x, NameKind.free) ∈ scope.names -> ∃ c, cl.lookup x = some c) := by
  obtain ⟨cl, e, h1, h2, _⟩ := gN scope.names [] h
  refine ⟨cl, ?_, fun x c hx => (h1 x c hx).resolve_right (by simp), h2⟩
  unfold closureFor
  rw [<- e, <- bind_pure (forIn scope.names _ _)]
theorem cU {env : Env} : ∀ {names : List (Str × NameKind)} {x : Str}, names.lookup x = some .free ->
    (names.map fun (n, k) => if (k == NameKind.free && env.scope.kind == .function && env.kindOf n == some .cell) then (n, NameKind.cell) else (n, k)).lookup x = some .cell \/
    (names.map fun (n, k) => if (k == NameKind.free && env.scope.kind == .function && env.kindOf n == some .cell) then (n, NameKind.cell) else (n, k)).lookup x = some .free
  | [], _, h => by simp at h
  | (n, k) :: r, x, h => by
    have ih := @cU env r x
    show List.lookup x ((if (k == NameKind.free && env.scope.kind == .function && env.kindOf n == some .cell) = true then (n, NameKind.cell) else (n, k)) :: _) = _ \/ List.lookup x ((if (k == NameKind.free && env.scope.kind == .function && env.kindOf n == some .cell) = true then (n, NameKind.cell) else (n, k)) :: _) = _
    cases hx : x == n with
    | true =>
      simp only [List.lookup_cons, hx] at h
      cases h
      by_cases hc : (NameKind.free == NameKind.free && env.scope.kind == .function && env.kindOf n == some .cell) = true
      . rw [if_pos hc]; simp [List.lookup_cons, hx]
      . rw [if_neg hc]; simp [List.lookup_cons, hx]
    | false =>
      simp only [List.lookup_cons, hx] at h
      by_cases hc : (k == NameKind.free && env.scope.kind == .function && env.kindOf n == some .cell) = true
      . rw [if_pos hc]; simp only [List.lookup_cons, hx]; exact ih h
      . rw [if_neg hc]; simp only [List.lookup_cons, hx]; exact ih h
theorem fB {env : Env} : ∀ {names : List (Str × NameKind)} {x : Str} {k : NameKind}, (names.map fun (n, k) => if (k == NameKind.free && env.scope.kind == .function && env.kindOf n == some .cell) then (n, NameKind.cell) else (n, k)).lookup x = some k ->
    names.lookup x = some k \/ (k = .cell /\ names.lookup x = some .free)
  | [], _, _, h => by simp at h
  | (n, j) :: r, x, k, h => by
    have ih := @fB env r x k
    replace h : List.lookup x ((if (j == NameKind.free && env.scope.kind == .function && env.kindOf n == some .cell) = true then (n, NameKind.cell) else (n, j)) :: _) = some k := h
    cases hx : x == n with
    | true =>
      simp only [List.lookup_cons, hx]
      by_cases hc : (j == NameKind.free && env.scope.kind == .function && env.kindOf n == some .cell) = true
      . rw [if_pos hc] at h
        simp only [List.lookup_cons, hx] at h
        cases h
        have : j = .free := by
          have := (Bool.and_eq_true _ _).mp ((Bool.and_eq_true _ _).mp hc).1
          simpa using this.1
        exact .inr ⟨rfl, by rw [this]⟩
      . rw [if_neg hc] at h
        simp only [List.lookup_cons, hx] at h
        exact .inl h
    | false =>
      simp only [List.lookup_cons, hx]
      by_cases hc : (j == NameKind.free && env.scope.kind == .function && env.kindOf n == some .cell) = true
      . rw [if_pos hc] at h; simp only [List.lookup_cons, hx] at h; exact ih h
      . rw [if_neg hc] at h; simp only [List.lookup_cons, hx] at h; exact ih h
structure fS (env : Env) (scope : Scope) (N' : List Str) : Prop where
  kind : scope.kind = .function
  nn : (scope.names.map (·.1)).Nodup
  names : ∀ y ∈ scope.names, y.2 = .local -> scope.names.lookup y.1 = some .local
  nd : N'.Nodup
  fr : ∀ n, (n, NameKind.free) ∈ scope.names -> env.kindOf n = some .cell \/ env.kindOf n = some .free
theorem qK : ∀ {names : List (Str × NameKind)} {x : Str} {k : NameKind}, (names.map (·.1)).Nodup -> (x, k) ∈ names -> names.lookup x = some k
  | [], _, _, _, h => by cases h
  | (n, j) :: r, x, k, nd, h => by
    rw [List.map_cons, List.nodup_cons] at nd
    rcases List.mem_cons.mp h with e | h'
    . cases e; simp
    . have hx : (x == n) = false := by
        cases q : x == n with
        | false => rfl
        | true =>
          have : x = n := by simpa using q
          subst this
          have hm : x ∈ r.map (·.1) := List.mem_map.mpr ⟨(x, k), h', rfl⟩
          exact absurd hm nd.1
      rw [List.lookup_cons, hx]
      exact qK nd.2 h'
theorem nC : ∀ (names : List (Str × NameKind)) (n : Nat) (acc : List (Str × Addr)) {x : Str} {c : Addr}, (cellsFrom n names acc).lookup x = some c -> acc.lookup x = some c \/ (n <= c /\ (x, NameKind.cell) ∈ names)
  | [], _, _, _, _, h => .inl h
  | (y, k) :: r, n, acc, x, c, h => by
    unfold cellsFrom at h
    split at h
    . rename_i hk
      have hk : k = .cell := by simpa using hk
      subst hk
      rcases nC r (n + 1) ((y, n) :: acc) h with q | ⟨q1, q2⟩
      . rw [List.lookup_cons] at q
        split at q
        . rename_i hb
          have : x = y := by simpa using hb
          subst this
          cases q
          exact .inr ⟨Nat.le_refl _, List.mem_cons_self⟩
        . exact .inl q
      . exact .inr ⟨by omega, List.mem_cons_of_mem _ q2⟩
    . rcases nC r n acc h with q | ⟨q1, q2⟩
      . exact .inl q
      . exact .inr ⟨q1, List.mem_cons_of_mem _ q2⟩
theorem rF : ∀ (names : List (Str × NameKind)) (n : Nat) (acc : List (Str × Addr)), (∀ x y c, acc.lookup x = some c -> acc.lookup y = some c -> x = y) -> (∀ x c, acc.lookup x = some c -> c < n) ->
    ∀ x y c, (cellsFrom n names acc).lookup x = some c -> (cellsFrom n names acc).lookup y = some c -> x = y
  | [], _, _, h, _, x, y, c, a, b => h x y c a b
  | (z, k) :: r, n, acc, h, hb, x, y, c, a, b => by
    unfold cellsFrom at a b
    split at a
    . rename_i hk
      rw [if_pos hk] at b
      refine rF r (n + 1) ((z, n) :: acc) (fun u v d p q => ?_) (fun u d p => ?_) x y c a b
      . rw [List.lookup_cons] at p q
        split at p
        . rename_i e1
          split at q
          . rename_i e2
            rw [show u = z by simpa using e1, show v = z by simpa using e2]
          . cases p; exact absurd (hb v _ q) (Nat.lt_irrefl _)
        . split at q
          . cases q; exact absurd (hb u _ p) (Nat.lt_irrefl _)
          . exact h u v d p q
      . rw [List.lookup_cons] at p
        split at p
        . cases p; exact Nat.lt_succ_self _
        . exact Nat.lt_succ_of_lt (hb u d p)
    . rename_i hk
      rw [if_neg hk] at b
      exact rF r n acc h hb x y c a b
theorem oz : ∀ (names : List (Str × NameKind)) (h : Heap) (acc : List (Str × Addr)), (∀ x c, acc.lookup x = some c -> ∃ v, h.IsCell c v) -> ∀ x c, (cellsFrom h.objs.size names acc).lookup x = some c -> ∃ v, (pushCells h names).IsCell c v
  | [], _, _, h, x, c, a => h x c a
  | (z, k) :: r, h, acc, hc, x, c, a => by
    unfold cellsFrom at a
    unfold pushCells
    split at a
    . rename_i hk
      rw [if_pos hk]
      have := oz r (h.push { cls := .type "cell", data := .cell none }) ((z, h.objs.size) :: acc) (fun u d p => ?_) x c
      . rw [Heap.size_push] at this
        exact this a
      . rw [List.lookup_cons] at p
        split at p
        . cases p; exact ⟨none, _, Heap.get?_push_size _ rfl, rfl⟩
        . obtain ⟨v, q⟩ := hc u d p
          exact ⟨v, q.keeps fun b o e => Heap.get?_push_of_some _ e⟩
    . rename_i hk
      rw [if_neg hk]
      exact oz r h acc hc x c a
theorem vf {M : Model} {A : Around} {E : Value -> Shared -> Prop} {s : Shared} {scope : Scope} {globals : Addr} {cl : List (Str × Addr)} {qual : Str} {env : Env} {Q : Env -> Shared -> Prop} (hcl : ∀ x c, cl.lookup x = some c -> ∃ v, s.heap.IsCell c v)
    (h : ∀ h', h'.Ns s.heap.objs.size (fun _ => none) -> (∀ b o, s.heap.get? b = some o -> h'.get? b = some o) -> (∀ x c, (cellsFrom (s.heap.objs.size + 1) scope.names cl).lookup x = some c -> ∃ v, h'.IsCell c v) ->
      Q (newEnv scope s.heap.objs.size globals (cellsFrom (s.heap.objs.size + 1) scope.names cl) qual none .none (some env) builtinsNs) { s with heap := h', toks := s.toks + 0 }) :
    wpAny M A (newFunctionEnv scope globals cl [] qual none .none (some env)) Q E s := by
  simp only [newFunctionEnv, Option.isSome_some, if_true]
  refine wpAny_bind (wpAny_alloc ?_)
  refine wpAny_bind (wpAny_layCells _ (fun name kind cells => by cases hkc : kind == NameKind.cell <;> simp [hkc]) _ _ _ _ ?_)
  rw [show ({ s with heap := s.heap.push { cls := .type "dict", data := .dict #[] } } : Shared).heap.objs.size = s.heap.objs.size + 1 from Heap.size_push ..]
  rw [List.forIn_nil]
  refine wpAny_bind (wpAny_pure (wpAny_pure ?_))
  refine h _ ((Heap.Ns.new s.heap (.type "dict")).keeps (pushCells_keeps _ _)) (fun b o e => pushCells_keeps _ _ b o (Heap.get?_push_of_some _ e)) fun x c hc => ?_
  have := oz scope.names (s.heap.push { cls := .type "dict", data := .dict #[] }) cl (fun u d p => by
    obtain ⟨v, q⟩ := hcl u d p
    exact ⟨v, q.keeps fun b o e => Heap.get?_push_of_some _ e⟩) x c
  rw [Heap.size_push] at this
  exact this hc
structure lB (X : Cx) (scope : Scope) (cl : List (Str × Addr)) (n : Nat) : Prop where
  k1 : ∀ x c, cl.lookup x = some c -> X.env.cells.lookup x = some c \/ (n < c /\ scope.names.lookup x = some .cell)
  k2 : ∀ x, scope.names.lookup x = some .free \/ scope.names.lookup x = some .cell -> ∃ c, cl.lookup x = some c
  k4 : ∀ x y c, cl.lookup x = some c -> cl.lookup y = some c -> x = y
  k5 : ∀ x c, scope.names.lookup x = some .cell -> cl.lookup x = some c -> n <= c
variable {X : Cx}
theorem yC {pins : List (Addr × Obj)} {σ : L2.St} {H : Hp} {s : Shared} {scope : Scope} {cl : List (Str × Addr)} {N' : List Str} (I : ak X pins σ H s) (S : fS X.env scope N')
    (h1 : ∀ x c, cl.lookup x = some c -> X.env.cells.lookup x = some c /\ (x, NameKind.free) ∈ scope.names) (h2 : ∀ x, (x, NameKind.free) ∈ scope.names -> ∃ c, cl.lookup x = some c) :
    lB X scope (cellsFrom (s.heap.objs.size + 1) scope.names cl) s.heap.objs.size where
  k1 := fun x c h => by
    rcases nC _ _ _ h with q | ⟨q1, q2⟩
    . exact .inl (h1 x c q).1
    . exact .inr ⟨q1, qK S.nn q2⟩
  k2 := fun x h => by
    refine Option.isSome_iff_exists.mp (W.cellsFrom_some scope.names _ cl ?_)
    rcases h with h | h
    . obtain ⟨c, hc⟩ := h2 x (PySem.mem_of_lookup h)
      exact .inr (by rw [hc]; rfl)
    . exact .inl h
  k4 := rF scope.names _ cl (fun x y c a b => I.ok.inj x y c (h1 x c a).1 (h1 y c b).1) fun x c a => by
    obtain ⟨v, hv⟩ := I.cell x c (h1 x c a).1
    exact Nat.lt_succ_of_lt hv.lt
  k5 := fun x c hx h => by
    rcases nC _ _ _ h with q | ⟨q1, q2⟩
    . rw [qK S.nn (h1 x c q).2] at hx; cases hx
    . omega
theorem GN {pins : List (Addr × Obj)} {σ : L2.St} {H : Hp} {s : Shared} {scope : Scope} {cl : List (Str × Addr)} {C : Addr} {N' : List Str} {fp : List Addr} (I : ak X pins σ H s) (S : fS X.env scope N')
    (hC : s.heap.objs.size <= C) (k : lB X scope cl s.heap.objs.size)
    (hf : ∀ b ∈ fp, fq X pins H b) (hfC : ∀ b ∈ fp, b < s.heap.objs.size) : (jU X scope cl C N' s H fp).Ok where
  mod := I.ok.mod
  kind := by show (relabel scope X.env).kind = _; exact S.kind
  glob := I.ok.glob
  blt := I.ok.blt
  above := hC
  inj := k.k4
  has := fun x hx => by
    have hx : (relabel scope X.env).names.lookup x = some .cell \/ (relabel scope X.env).names.lookup x = some .free := hx
    rcases hx with hx | hx
    . rcases fB hx with q | ⟨_, q⟩
      . exact k.k2 x (.inr q)
      . exact k.k2 x (.inl q)
    . rcases fB hx with q | ⟨q, _⟩
      . exact k.k2 x (.inl q)
      . cases q
  cab := fun x c h hc => k.k5 x c (of_decide_eq_true h) hc
  hd := I.ok.hd
  frames := I.ok.frames
  stk := .inl rfl
  exf := fun b hb => ⟨by have := hfC b hb; intro z; subst z; show False; exact absurd (Nat.lt_of_lt_of_le this hC) (Nat.lt_irrefl _), fun x c h => by
    rcases k.k1 x c h with q | ⟨q, _⟩
    . exact (hf b hb).2.2.2.2.1 x c q
    . have := hfC b hb
      intro z; subst z; exact absurd (Nat.lt_trans q this) (Nat.lt_irrefl _)⟩
  bs := I.bs
  bsz := Nat.le_trans I.ok.bsz I.sz
  noex := fun b o e hb => by
    rcases (hf b hb).2.2.2.1 with q | q
    . exact I.ok.noex b o e q
    . exact absurd (Nat.lt_of_lt_of_le (Heap.lt_size e) (Nat.le_trans I.ok.bsz q)) (Nat.lt_irrefl _)
  exfs := fun b hb z => by
    rcases List.mem_cons.mp (I.stkSub b z) with q | q
    . exact (hf b hb).2.1 q
    . exact (hf b hb).2.2.1 q
  funs := I.stack
  frf := I.stkFree
def lY (X : Cx) (scope : Scope) (N' : List Str) (σ : L2.St) : L2.St := N'.map fun x => if scope.names.lookup x = some .free then (σ[X.N.idxOf x]?).join else none
theorem D5 {pins : List (Addr × Obj)} {σ : L2.St} {H : Hp} {s s1 : Shared} {scope : Scope} {cl : List (Str × Addr)} {N' : List Str} {fp : List Addr} {m : Str -> Option Value} (I : ak X pins σ H s) (S : fS X.env scope N')
    (k : lB X scope cl s.heap.objs.size) (k6 : ∀ x c, cl.lookup x = some c -> ∃ v, s1.heap.IsCell c v)
    (hf : ∀ b ∈ fp, fq X pins H b) (hfC : ∀ b ∈ fp, b < s.heap.objs.size)
    (es : ∃ h t, s1 = { s with heap := h, toks := t }) (hns : s1.heap.Ns s.heap.objs.size m) (hk : ∀ b o, s.heap.get? b = some o -> s1.heap.get? b = some o) :
    ak (jU X scope cl s.heap.objs.size N' s H fp) [] (lY X scope N' σ) H s1 := by
  obtain ⟨h', t, rfl⟩ := es
  have I1 : ak X pins σ H { s with heap := h', toks := t } := I.kept hk
  refine ⟨GN I S (Nat.le_refl _) k hf hfC, rfl, I.bare, Un.kept hk, ⟨m, hns, fun i x v e1 e2 e3 => ?_⟩, k6, I.hok.fresh (Nat.le_refl _), fun x c h => (k.k1 x c h).elim (fun q => I.freeC x c q) fun q => I.hok.fresh (Nat.le_of_lt q.1), fun p hp => absurd (show p ∈ ([] : List (Addr × Obj)) from hp) (by simp), I1.hok, ?_⟩
  . have hN : N'[i]? = some x := e1
    unfold lY at e2
    rw [List.getElem?_map, hN] at e2
    simp only [Option.map_some, Option.some.injEq] at e2
    split at e2
    . rename_i hfr
      have hj : σ[X.N.idxOf x]? = some (some v) := by
        cases q : σ[X.N.idxOf x]? with
        | none => rw [q] at e2; cases e2
        | some y => rw [q] at e2; rw [show y = some v from e2]
      have hlt : X.N.idxOf x < X.N.length := by rw [<- I.len]; exact (List.getElem?_eq_some_iff.mp hj).1
      have hx : X.N[X.N.idxOf x]? = some x := by
        rw [List.getElem?_eq_getElem hlt, List.getElem_idxOf hlt]
      have kf := S.fr x (PySem.mem_of_lookup hfr)
      have vis : jr X.env.scope x := .inr (kf.imp id id)
      obtain ⟨m1, hn1, hl1⟩ := I1.loc
      obtain ⟨u, r, l⟩ := hl1 _ x v hx hj vis
      refine ⟨u, r, .inr ⟨?_, ?_⟩⟩
      . exact cU hfr
      . rcases l with ⟨hk', _⟩ | ⟨_, c, hc, hcell⟩
        . rcases kf with q | q <;> rw [q] at hk' <;> cases hk'
        . obtain ⟨c', hc'⟩ := k.k2 x (.inl hfr)
          have : c' = c := by
            rcases k.k1 x c' hc' with this | ⟨_, this⟩
            . rw [hc] at this; exact (Option.some.inj this).symm
            . rw [hfr] at this; cases this
          subst this
          exact ⟨c', hc', hcell⟩
    . cases e2
  . unfold lY; simp
def flt (scope : Scope) (ρ : aj) : aj := fun x => if scope.names.lookup x = some .free then ρ x else none
theorem ja {scope : Scope} {ρ : aj} {x : Str} {y : D × Bool} (h : flt scope ρ x = some y) : ρ x = some y /\ scope.names.lookup x = some .free := by
  unfold flt at h
  split at h
  . rename_i e; exact ⟨h, e⟩
  . cases h
theorem Eu {ow : Ow} {H : Hp} {σ : L2.St} {ρ : aj} {scope : Scope} {cl : List (Str × Addr)} {C : Addr} {N' : List Str} {s : Shared} {fp : List Addr} {H0 : Hp} (E : aS X ow H σ ρ) (hN : X.N.Nodup)
    (hsub : ∀ x d o, flt scope ρ x = some (d, o) -> x ∈ N') :
    aS (jU X scope cl C N' s H0 fp) ow H (lY X scope N' σ) (flt scope ρ) := by
  refine ⟨fun x d o h => ?_, E.own⟩
  obtain ⟨h1, h2⟩ := ja h
  obtain ⟨i, v, e1, e2, e3, e4⟩ := E.get x d o h1
  have hx : x ∈ N' := hsub x d o h
  have hi : X.N.idxOf x = i := by
    have hm : x ∈ X.N := List.mem_of_getElem? e1
    have hlt := List.idxOf_lt_length_iff.mpr hm
    exact i0 hN (by rw [List.getElem?_eq_getElem hlt, List.getElem_idxOf hlt]) e1
  refine ⟨N'.idxOf x, v, ?_, ?_, ?_, e4⟩
  . have hlt := List.idxOf_lt_length_iff.mpr hx
    show N'[N'.idxOf x]? = some x
    rw [List.getElem?_eq_getElem hlt, List.getElem_idxOf hlt]
  . exact .inr (cU h2)
  . have hlt := List.idxOf_lt_length_iff.mpr hx
    unfold lY
    rw [List.getElem?_map, List.getElem?_eq_getElem hlt, List.getElem_idxOf hlt]
    simp only [Option.map_some]
    rw [if_pos h2, hi, e3]; rfl
end Sp
set_option Elab.async false
set_option linter.all false
set_option maxRecDepth 100000
namespace Sp
open PySem PySem.Spec PyProof.Rows L2
variable {X : Cx}
theorem wH {prog : Program} {w : World} {A : Around} {R : Result -> Shared -> Prop} {s : Shared} {elt target iter : Expr} {ifs : List Expr} {scope : Scope} {pos : Pos} {it acc : Value} {env : Env} (J : Nat -> Shared -> Prop)
    (turn : ∀ n s, J n s -> wpAny (model prog w) A (pyNext it) (fun r s₁ => match r with
      | none => R (.ok .next) s₁
      | some v => wpAny (model prog w) A (letOwnedTupleGo target it v) (fun _ s₁ => wpAny (model prog w) A (assign target env v) (fun _ s₂ =>
          wpAny (model prog w) A (gK ifs env) (fun ok s₃ =>
            if ok = true then wpAny (model prog w) A (eval elt env) (fun x s₄ =>
              wpAny (model prog w) A (call (.builtin "list.append") [acc, x]) (fun _ s₅ => ∃ m, m < n /\ J m s₅) (fun _ _ => False) s₄) (fun _ _ => False) s₃
            else ∃ m, m < n /\ J m s₃) (fun _ _ => False) s₂) (fun _ _ => False) s₁) (fun _ _ => False) s₁) (fun _ _ => False) s)
    (n : Nat) (h : J n s) : codeAny (model prog w) A (.compLoop (.ListComp elt [⟨target, iter, ifs, 0⟩] scope pos) 0 it acc env) R s := by
  refine codeAny_loop rfl J (fun n s hI => ?_) n h
  show wpAny _ A ((compTurn (.ListComp elt [⟨target, iter, ifs, 0⟩] scope pos) 0 it acc env).onRaise (fun x => do noteFrame x env; theTreesLotGoes x)) _ _ s
  refine wpAny_noted ?_
  rw [compTurn_list]
  refine wpAny_bind (wpAny_standAt (wpAny_bind (wpAny_mono (turn n s hI) (fun r s₁ h₁ => ?_) fun _ _ h' => h'.elim)))
  cases r with
  | none => exact wpAny_pure h₁
  | some v =>
    refine wpAny_bind (wpAny_mono h₁ (fun _ s₁' h₁' => ?_) fun _ _ h' => h'.elim)
    refine wpAny_bind (wpAny_mono h₁' (fun _ s₂ h₂ => wpAny_bind (wpAny_mono h₂ (fun ok s₃ h₃ => ?_) fun _ _ h' => h'.elim)) fun _ _ h' => h'.elim)
    cases ok with
    | false => exact wpAny_pure ⟨rfl, h₃⟩
    | true =>
      exact wpAny_bind (wpAny_bind (wpAny_mono h₃ (fun x s₄ h₄ => wpAny_bind (wpAny_mono h₄ (fun _ s₅ h₅ => wpAny_pure (wpAny_pure ⟨rfl, h₅⟩)) fun _ _ h' => h'.elim)) fun _ _ h' => h'.elim))
def ln (X : Cx) (ρ : aj) (tg : Expr) (ifs : List Expr) (elt : Expr) (k : Nat) (d : D) (r : Option D) : Prop :=
  ∃ ρ' b, GD X ρ tg d ρ' /\ (∀ x y, ρ x = some y -> ρ' x = some y) /\ w6 X ρ' ifs b /\ match r with | some d' => b = true /\ ED X ρ' elt d' k | none => b = false
theorem g8 {ow : Ow} {H : Hp} (o : eG ow H) {a : Addr} : ∀ {k : Nat}, k <= 1 -> Kp ow H k a true -> ow a = none
  | 0, _, p => o.free p.2
  | 1, _, p => p rfl
  | _ + 2, h, _ => absurd h (by omega)
theorem Bn {ow : Ow} {H H9 : Hp} {D : Addr} {x : HO} (sm : aD H H9) (hD : H9 D = some x) {a : Addr} {b : Bool} : ∀ {k : Nat}, k <= 1 -> Kp (fun a => if a = D then some none else ow a) H9 k a b -> Kp ow H k a b /\ (b = true -> a ≠ D)
  | 0, _, p => ⟨⟨p.1, sm.free p.2⟩, fun _ z => by subst z; have := p.2; rw [hD] at this; cases this⟩
  | 1, _, p => by
    have p : b = true -> (if a = D then some none else ow a) = none := p
    refine ⟨fun hb => ?_, fun hb hz => ?_⟩
    . have p := p hb
      by_cases hz : a = D
      . rw [if_pos hz] at p; cases p
      . rw [if_neg hz] at p; exact p
    . have p := p hb
      rw [if_pos hz] at p; cases p
  | _ + 2, h, _ => absurd h (by omega)
theorem v9 {ow : Ow} {H : Hp} {D : Addr} (o : eG ow H) (hD : H D = none) : ∀ {k : Nat}, k <= 1 -> Kp ow H k D true
  | 0, _ => ⟨rfl, hD⟩
  | 1, _ => fun _ => o.free hD
  | _ + 2, h => absurd h (by omega)
theorem mT : ∀ {l : List D} {i : Nat} {d : D}, ao l = true -> l[i]? = some d -> d.lless = true
  | [], _, _, _, h => by simp at h
  | x :: l, 0, d, f, h => by
    rw [ao, Bool.and_eq_true] at f
    simp at h; subst h; exact f.1
  | x :: l, i + 1, d, f, h => by
    rw [ao, Bool.and_eq_true] at f
    exact mT (i := i) f.2 (by simpa using h)
structure lA (X : Cx) (pins : List (Addr × Obj)) (σ : L2.St) (H5 : Hp) (s6 : Shared) (C : Addr) (m6 : Str -> Option Value) : Prop where
  inv : ak X pins σ H5 s6
  ns : s6.heap.Ns C m6
  free : H5 C = none
  loc : C ≠ X.env.locals
  old : X.s₀.heap.objs.size <= C
  cell : ∀ x c, X.env.cells.lookup x = some c -> c ≠ C
  pin : ∀ p ∈ X.pn ++ pins, p.1 ≠ C
  fs : C ∉ X.fs
theorem oZ {ow : Ow} {use : Option (Value -> Sem Unit)} {Q' : Value -> Shared -> Prop} {pins : List (Addr × Obj)} {s : Shared} {σ : L2.St} {H : Hp} {ρ : aj} {tg elt iter : Expr} {ifs : List Expr} {scope : Scope} {pos pos2 : Pos} {ds : List D} {f : D -> Option D} {k ko : Nat} {N' : List Str}
    (hcalm : X.calm = true) (hN : X.N.Nodup) (hk : ao ds = true \/ k <= 1) (hko : ko <= 1) (hlen : ds.length < sizeLine) (S : fS X.env scope N') (hsub : ∀ x d o, flt scope ρ x = some (d, o) -> x ∈ N')
    (hi : IE X ρ tg iter ds k)
    (turn : ∀ cl C s H fp, ∀ d ∈ ds, ln (jU X scope cl C N' s H fp) (flt scope ρ) tg ifs elt ko d (f d))
    (hs : ∀ x, foldedSetIterable iter X.env x = pure x) (I : ak X pins σ H s) (E : aS X ow H σ ρ)
    (fin : ∀ D C s6 H5 m6, lA X pins σ H5 s6 C m6 -> aD H H5 -> ah X.K H5 (Kp ow H ko) (.lst (ds.filterMap f)) (.ref D) -> compPost (model X.prog X.w) X.A X.xe use Q' (.ref D) C (.ok .next) s6) :
    wpAny (model X.prog X.w) X.A (comprehension (.ListComp elt [⟨tg, iter, ifs, 0⟩] scope pos) scope X.env pos2 (newList []) false (eval iter X.env) use) Q' X.xe s := by
  obtain ⟨cl, hclos, h1, h2⟩ := sC (env := X.env) (scope := scope) fun n hn => I.ok.has n (S.fr n hn)
  refine wpAny_comprehension_free rfl hs hclos S.kind S.names ?_
  refine aN (hi ow pins s σ H (fun J H1 => aD H H1 /\ HC X.K J ds (Kd ow H k H1) H1) I ⟨E, fun J H1 a b => ⟨a, b⟩⟩) fun v s1 h1' => aN h1' fun itv s2 h2' => ?_
  obtain ⟨it, fp, tn, J, H2, rfl, I2, T, st2, f2, s12, itd⟩ := h2'
  have hD2 : H2 s2.heap.objs.size = none := I2.hok.fresh (Nat.le_refl _)
  refine wpAny_newObj_type (vf (fun x c hc => (I2.cell x c (h1 x c hc).1).imp fun v q => q.keeps fun b o e => Heap.get?_push_of_some _ e) fun h₁ hns₁ kp0 k60 => ?_)
  have I3 : ak X pins σ (aV H2 s2.heap.objs.size (.lst [])) { s2 with heap := s2.heap.push { cls := .type "list", dict := none, data := .seq ([] : List Value).toArray } } :=
    I2.laid (t' := s2.toks) (fun b u e => Heap.get?_push_of_some _ e) (Nat.le_refl _) ⟨Nat.zero_le _, [], 0, .nil, Heap.get?_push_size _ rfl⟩
  generalize hD : s2.heap.objs.size = D at *
  generalize hs3 : ({ s2 with heap := s2.heap.push { cls := .type "list", dict := none, data := .seq ([] : List Value).toArray } } : Shared) = s3 at *
  have hsz3 : s3.heap.objs.size = D + 1 := by rw [<- hs3]; show (s2.heap.push _).objs.size = _; rw [Heap.size_push, hD]
  have f3 : ∀ b ∈ fp, fq X pins (aV H2 D (.lst [])) b := fun b hb => by
    obtain ⟨g0, g⟩ := f2 b hb
    obtain ⟨o, e, _⟩ := T.obj _ _ st2 b hb
    have hlt := Heap.lt_size e
    rw [hD] at hlt
    exact ⟨by rw [aH (Nat.ne_of_lt hlt)]; exact g0, g⟩
  have fl3 : ∀ b ∈ fp, b < s3.heap.objs.size := fun b hb => by
    obtain ⟨o, e, _⟩ := T.obj _ _ st2 b hb
    have hlt := Heap.lt_size e
    rw [hD] at hlt
    rw [hsz3]; exact Nat.lt_succ_of_lt hlt
  have kp : ∀ b o, s3.heap.get? b = some o -> h₁.get? b = some o := kp0
  have kc : lB X scope (cellsFrom (s3.heap.objs.size + 1) scope.names cl) s3.heap.objs.size := yC I3 S h1 h2
  generalize hcl' : cellsFrom (s3.heap.objs.size + 1) scope.names cl = cl' at *
  have I4 := D5 (s1 := { s3 with heap := h₁, toks := s3.toks + 0 }) (N' := N') I3 S kc k60 f3 fl3 ⟨_, _, rfl⟩ hns₁ kp
  have sH2 : ∀ vs, aD H2 (aV H2 D (.lst vs)) := fun vs b o e => by rw [aH (bz e hD2)]; exact e
  let ow' : Ow := fun a => if a = D then some none else ow a
  have ow'D : ow' D = some none := if_pos rfl
  have ow'n : ∀ a, a ≠ D -> ow' a = ow a := fun a h => if_neg h
  have own' : ∀ {H' : Hp} (vs : List V), H' D = some (.lst vs) -> aD H2 H' -> eG ow' H' := fun {H'} vs hd sm a ha => by
    by_cases hz : a = D
    . subst hz; exact ⟨_, hd⟩
    . rw [ow'n a hz] at ha
      obtain ⟨o, e⟩ := (E.same s12).own a ha
      exact ⟨o, sm a o e⟩
  have E4 : aS (jU X scope cl' s3.heap.objs.size N' s3 (aV H2 D (.lst [])) fp) ow' (aV H2 D (.lst [])) (lY X scope N' σ) (flt scope ρ) := by
    have E3 := Eu (scope := scope) (cl := cl') (C := s3.heap.objs.size) (N' := N') (s := s3) (fp := fp) (H0 := aV H2 D (.lst [])) (E.same s12) hN hsub
    refine ⟨fun x d o h => ?_, own' [] aO (sH2 [])⟩
    obtain ⟨i, v, e1, e2, e3, e4⟩ := E3.get x d o h
    refine ⟨i, v, e1, e2, e3, ah.same (sH2 []) (e4.impH (fun a ob ha p => ?_) fun a p => ?_)⟩
    . have hz : a ≠ D := bz ha hD2
      cases o with
      | true => exact ⟨p.1, (ow'n a hz).trans p.2⟩
      | false => exact fun _ => (ow'n a hz).trans (p rfl)
    . cases o with
      | true => cases p.1
      | false => exact fun z => (by cases z)
  generalize hX' : jU X scope cl' s3.heap.objs.size N' s3 (aV H2 D (.lst [])) fp = X' at *
  have turn' : ∀ d ∈ ds, ln X' (flt scope ρ) tg ifs elt ko d (f d) := fun d hd => by rw [<- hX']; exact turn _ _ _ _ _ d hd
  have eK : X'.K = X.K := by rw [<- hX']
  have eP : X'.prog = X.prog := by rw [<- hX']
  have eW : X'.w = X.w := by rw [<- hX']
  have eA : X'.A = X.A := by rw [<- hX']
  have eE : X'.env = compEnvC scope cl' s3.heap.objs.size X.env := by rw [<- hX']
  have eX : X'.xe = fun _ _ => False := by rw [<- hX']
  have eC : X'.calm = true := by rw [<- hX']; exact hcalm
  have stat : ∀ {H' : Hp}, (∀ b ∈ fp, H' b = none) -> ∀ b ∈ fp, fq X' [] H' b := fun hn b hb => by
    rw [<- hX']
    refine ⟨hn b hb, ?_, ?_, .inl hb, fun x c h => (kc.k1 x c h).elim (fun q => (f3 b hb).2.2.2.2.1 x c q) (fun q z => by subst z; exact absurd (Nat.lt_trans q.1 (fl3 _ hb)) (Nat.lt_irrefl _)), fun p hp => absurd (show p ∈ ([] : List (Addr × Obj)) from hp) (by simp)⟩
    . show b ≠ s3.heap.objs.size
      exact Nat.ne_of_lt (fl3 b hb)
    . intro z
      rcases List.mem_cons.mp (I3.stkSub b z) with q | q
      . exact (f3 b hb).2.1 q
      . exact (f3 b hb).2.2.1 q
  let Pe : bg := fun a b => Kp ow H ko a b /\ (b = true -> a ≠ D)
  have loop : codeAny (model X.prog X.w) X.A (.compLoop (.ListComp elt [⟨tg, iter, ifs, 0⟩] scope pos) 0 (.ref it) (.ref D) (compEnvC scope cl' s3.heap.objs.size X.env)) (compPost (model X.prog X.w) X.A X.xe use Q' (.ref D) s3.heap.objs.size) { s3 with heap := h₁, toks := s3.toks + 0 } := by
    refine wH (fun n s' => ∃ (i : Nat) (σ' : L2.St) (H' : Hp) (vs : List V), ak X' [] σ' H' s' /\ tn i s'.heap /\ (∀ b ∈ fp, H' b = none) /\ aS X' ow' H' σ' (flt scope ρ) /\ H' D = some (.lst vs) /\ aD H2 H' /\
      ag X.K H' Pe ((ds.take i).filterMap f) vs /\ i <= ds.length /\ n = ds.length - i) ?_ ds.length
      ⟨0, lY X scope N' σ, aV H2 D (.lst []), [], I4, ?_, fun b hb => (f3 b hb).1, E4, aO, sH2 [], ?_, Nat.zero_le _, rfl⟩
    . rintro n s5 ⟨i, σ5, H5, vs, I5, st5, fr5, E5, hD5, sm5, rp5, hi5, rfl⟩
      have stay : dM (Kd ow H k H2) (Kd ow H k H2) H2 H5 := .same sm5 fun _ _ p => p
      have itd5 := itd i H5 stay
      by_cases hlt : i < ds.length
      . obtain ⟨go, yl⟩ := itd5.1 ds[i] (by simp [hlt])
        have Ti := T.item X' eP eW eK eC i [] s5 σ5 H5 (fun _ _ => False) I5 (stat fr5) st5 go
        rw [eA] at Ti
        refine aN Ti fun r s6 ⟨u, hr, h6⟩ => ?_
        subst hr
        refine aN h6 fun _ s7 ⟨x, H7, I7, r7, y7, st7, fr7⟩ => ?_
        obtain ⟨sm7, rx7⟩ := yl x H7 y7
        obtain ⟨ρ', b, ⟨g, hg, hgd⟩, hext, hts, hel⟩ := turn' ds[i] (List.getElem_mem hlt)
        have rx7' : ah X'.K H7 (fun a b => b = true -> ow' a = none) ds[i] x := by
          rw [eK]
          rcases hk with hk | hk
          . exact rx7.flat _ (mT hk (List.getElem?_eq_getElem hlt))
          refine rx7.impH (fun a o ha p _ => ?_) fun a _ z => (by cases z)
          obtain ⟨p, p2⟩ := p
          obtain ⟨o2, ho2⟩ := p2 rfl
          show ow' a = none
          rw [ow'n a (bz ho2 hD2)]
          exact g8 E.own hk p
        have E7 := E5.same sm7
        have I7' := I7.pinned (stat fr7) (T.obj _ _ st7)
        have hg' := hg _ s7 σ5 H7 x u (fun σ' H' => aS X' ow' H' σ' ρ' /\ H7 = H') I7' r7 (hgd ow' x σ5 H7 _ I7.len E7 rx7' fun σ' _ e => ⟨e, rfl⟩)
        rw [eP, eW, eA, eE, eX] at hg'
        refine aN hg' fun _ s8 ⟨σ8, H8, I8, E8, eH8⟩ => ?_
        subst eH8
        have ht' := hts ow' _ s8 σ8 H7 (fun c H' => c = b /\ aD H7 H') I8 ⟨E8, fun H' sm => ⟨rfl, sm⟩⟩
        rw [eP, eW, eA, eE, eX] at ht'
        refine aN ht' fun c s9 ⟨H9, I9, ec, sm9⟩ => ?_
        subst ec
        have back : ∀ {H' : Hp} {σ' : L2.St} {s' : Shared}, ak X' ([] ++ jK fp s7.heap) σ' H' s' -> ak X' [] σ' H' s' /\ tn (i + 1) s'.heap /\ ∀ b ∈ fp, H' b = none := fun {H' σ' s'} J7 => by
          refine ⟨J7.unpinned, T.keep _ _ _ st7 fun b hb o e => (J7.pin (b, o) (List.mem_append_right _ (List.mem_append_right _ (f6 hb e)))).1, fun b hb => ?_⟩
          obtain ⟨o, e, d⟩ := T.obj _ _ st7 b hb
          exact (J7.pin (b, o) (List.mem_append_right _ (List.mem_append_right _ (f6 hb e)))).2.1
        have envf : ∀ {H' : Hp} {σ' : L2.St}, aS X' ow' H' σ' ρ' -> aS X' ow' H' σ' (flt scope ρ) := fun {H' σ'} e => ⟨fun x d o h => e.get x d o (hext x _ h), e.own⟩
        have tk : (ds.take (i + 1)).filterMap f = (ds.take i).filterMap f ++ (f ds[i]).toList := by
          rw [List.take_add_one]
          simp only [List.getElem?_eq_getElem hlt, Option.toList_some, List.filterMap_append]
          congr 1
        have sm59 : aD H5 H9 := sm7.trans sm9
        cases hc : c with
        | false =>
          rw [if_neg Bool.false_ne_true]
          subst hc
          obtain ⟨I9', st9, fr9⟩ := back I9
          have fn : f ds[i] = none := by
            cases hf : f ds[i] with
            | none => rfl
            | some d' => rw [hf] at hel; cases hel.1
          refine ⟨ds.length - (i + 1), by omega, i + 1, σ8, H9, vs, I9', st9, fr9, envf (E8.same sm9), sm59 _ _ hD5, sm5.trans sm59, ?_, hlt, rfl⟩
          rw [tk, fn, Option.toList_none, List.append_nil]
          exact rp5.same sm59
        | true =>
          rw [if_pos rfl]
          subst hc
          obtain ⟨d', fs, hed⟩ : ∃ d', f ds[i] = some d' /\ ED X' ρ' elt d' ko := by
            cases hf : f ds[i] with
            | none => rw [hf] at hel; cases hel
            | some d' => rw [hf] at hel; exact ⟨d', rfl, hel.2⟩
          have he' := hed ow' _ s9 σ8 H9 (fun v H' => aD H9 H' /\ ah X'.K H' (Kp ow' H9 ko) d' v) I9 ⟨E8.same sm9, fun v H' a r => ⟨a, r⟩⟩
          rw [eP, eW, eA, eE, eX] at he'
          refine aN he' fun y s10 ⟨v10, H10, I10, r10, sm10, rp10⟩ => ?_
          have sm510 := sm59.trans sm10
          have hD10 := sm510 _ _ hD5
          have hlv : vs.length < sizeLine := by
            rw [<- rp5.length]
            refine Nat.lt_of_le_of_lt (List.length_filterMap_le _ _) ?_
            rw [List.length_take]; omega
          have ha' := oR (X := X') _ s10 σ8 H10 (.ref D) [v10] (.ref D) [y] (fun w H' => aV H10 D (.lst (vs ++ [v10])) = H') I10 rfl (.cons r10 .nil) ⟨D, vs, v10, rfl, rfl, hD10, hlv, rfl⟩
          rw [eP, eW, eA, eX] at ha'
          refine aN ha' fun _ s11 ⟨w11, H11, I11, _, eH11⟩ => ?_
          subst eH11
          obtain ⟨I11', st11, fr11⟩ := back I11
          have s2D : ∀ a o, H2 a = some o -> a ≠ D := fun a o e => bz e hD2
          have stD : dM Pe Pe H10 (aV H10 D (.lst (vs ++ [v10]))) := ⟨fun a o h hn => by rw [aH (fun z => by subst z; rw [hD10] at h; cases h; exact hn)]; exact h, fun a ws h p => by rw [aH (p.2 rfl)]; exact h, fun _ _ _ p => p, fun _ p => p⟩
          refine ⟨ds.length - (i + 1), by omega, i + 1, σ8, _, vs ++ [v10], I11', st11, fr11, ?_, aO, ?_, ?_, hlt, rfl⟩
          . have E10 := envf ((E8.same sm9).same sm10)
            refine ⟨fun x d o h => ?_, own' _ aO (fun a o e => by rw [aH (s2D a o e)]; exact (sm5.trans sm510) a o e)⟩
            obtain ⟨i', v', e1, e2, e3, e4⟩ := E10.get x d o h
            refine ⟨i', v', e1, e2, e3, e4.mono ⟨fun a o h hn => by rw [aH (fun z => by subst z; rw [hD10] at h; cases h; exact hn)]; exact h, fun a ws h p => ?_, fun _ _ _ p => p, fun _ p => p⟩⟩
            have hz : a ≠ D := by
              intro z; subst z
              cases o with
              | true => have := p.2; rw [ow'D] at this; cases this
              | false => have : ow' a = none := p rfl; rw [ow'D] at this; cases this
            rw [aH hz]; exact h
          . intro a o e
            rw [aH (s2D a o e)]
            exact (sm5.trans sm510) a o e
          . rw [tk, fs, Option.toList_some]
            refine ((rp5.same sm510).mono stD).append (ag.one (ah.mono stD ?_))
            rw [eK] at rp10
            have sH9 : aD H H9 := s12.trans (sm5.trans sm59)
            exact rp10.imp fun a b p => Bn sH9 (sm59 _ _ hD5) hko p
      . have hstop := itd5.2 (by omega)
        have Td := T.done X' eP eW eK eC i [] s5 σ5 H5 (fun _ _ => False) I5 (stat fr5) st5 hstop
        rw [eA] at Td
        refine aN Td fun r s6 ⟨hr, I6⟩ => ?_
        subst hr
        have ei : i = ds.length := by omega
        subst ei
        rw [List.take_length] at rp5
        have hC : X'.env.locals = s3.heap.objs.size := by rw [eE]; rfl
        obtain ⟨m6, hn6, _⟩ := I6.loc
        rw [hC] at hn6
        have hfree : H5 s3.heap.objs.size = none := by have := I6.free; rw [hC] at this; exact this
        have IX : ak X pins σ H5 s6 := by
          have b6 := I6.base
          have o6 := I6.os
          have k6 := I6.hok
          have g6 := I6.bare
          rw [<- hX'] at b6 o6 k6
          exact I3.call' o6 b6 k6 g6 fun b hb => ⟨(f3 b hb).2.2.2.1, (f3 b hb).2.1, (f3 b hb).2.2.2.2.1, (f3 b hb).2.2.2.2.2⟩
        have hHD : H D = none := s12.free hD2
        refine fin D _ s6 H5 m6 ⟨IX, hn6, hfree, Nat.ne_of_gt I3.lt, I3.sz, fun x c hc z => ?_, fun p hp z => ?_, I3.nofs (Nat.le_refl _)⟩ (s12.trans sm5) ?_
        . obtain ⟨v, hv⟩ := I3.cell x c hc
          have := hv.lt
          rw [z] at this; exact absurd this (Nat.lt_irrefl _)
        . have := Heap.lt_size (I3.pin p hp).1
          rw [z] at this; exact absurd this (Nat.lt_irrefl _)
        . rw [ah]
          exact ⟨D, vs, true, rfl, hD5, v9 E.own hHD hko, rp5.imp fun _ _ p => p.1⟩
    . exact T.keep 0 s2.heap h₁ st2 fun b hb o e => kp b o (by rw [<- hs3]; exact Heap.get?_push_of_some _ e)
    . exact ag.nil
  exact codeAny_compStart_list loop (T.self _ 0 _ _ _ (T.keep 0 s2.heap h₁ st2 fun b hb o e => kp b o (by rw [<- hs3]; exact Heap.get?_push_of_some _ e)) loop)
theorem lA.done {pins : List (Addr × Obj)} {σ : L2.St} {H5 : Hp} {s6 : Shared} {C : Addr} {m6 : Str -> Option Value} (e : lA X pins σ H5 s6 C m6) {h' : Heap} (sb : Heap.SameBut C s6.heap h') : ak X pins σ H5 { s6 with heap := h' } :=
  e.inv.turned (t' := s6.toks) (it := C) (fun b o hb e => sb.extBut b o hb e) e.free e.loc (.inr e.old) e.cell e.pin
theorem BW {ρ : aj} {tg elt iter : Expr} {ifs : List Expr} {scope : Scope} {pos : Pos} {ds : List D} {f : D -> Option D} {k ko : Nat} {N' : List Str}
    (hcalm : X.calm = true) (hN : X.N.Nodup) (hk : ao ds = true \/ k <= 1) (hko : ko <= 1) (hlen : ds.length < sizeLine) (S : fS X.env scope N') (hsub : ∀ x d o, flt scope ρ x = some (d, o) -> x ∈ N')
    (hi : IE X ρ tg iter ds k)
    (turn : ∀ cl C s H fp, ∀ d ∈ ds, ln (jU X scope cl C N' s H fp) (flt scope ρ) tg ifs elt ko d (f d))
    (hs : ∀ x, foldedSetIterable iter X.env x = pure x := by intro _; rfl) :
    ED X ρ (.ListComp elt [⟨tg, iter, ifs, 0⟩] scope pos) (.lst (ds.filterMap f)) ko := by
  intro ow pins s σ H Q I ⟨E, q⟩
  rw [eval_ListComp]
  refine oZ hcalm hN hk hko hlen S hsub hi turn hs I E fun D C s6 H5 m6 ce sm rp => ?_
  exact ⟨m6, ce.ns, fun h' sb => ⟨.ref D, H5, ce.done sb, rfl, q (.ref D) H5 sm rp⟩⟩
theorem AN {D0 : kD} {ow : Ow} {x : Str} {px spos : Pos} {pins : List (Addr × Obj)} {s : Shared} {σ : L2.St} {H : Hp} {ρ : aj} {tg elt iter : Expr} {ifs : List Expr} {scope : Scope} {pos : Pos} {ds : List D} {f : D -> Option D} {k ko : Nat} {N' : List Str} {i : Nat}
    (hcalm : X.calm = true) (hN : X.N.Nodup) (hk : ao ds = true \/ k <= 1) (hko : ko <= 1) (hlen : ds.length < sizeLine) (S : fS X.env scope N') (hsub : ∀ x d o, flt scope ρ x = some (d, o) -> x ∈ N')
    (hi : IE X ρ tg iter ds k)
    (turn : ∀ cl C s H fp, ∀ d ∈ ds, ln (jU X scope cl C N' s H fp) (flt scope ρ) tg ifs elt ko d (f d))
    (hs : ∀ x, foldedSetIterable iter X.env x = pure x) (I : ak X pins σ H s) (E : aS X ow H σ ρ)
    (hsw : swapsWith (.ListComp elt [⟨tg, iter, ifs, 0⟩] scope pos) (some (.Name x px)) spos.line X.env = pure true)
    (hx : X.N[i]? = some x) (hl : se X.env.scope x) (hf : X.fn x = true \/ X.env.scope.names.lookup x = some .local)
    (q : ∀ v H', aD H H' -> ah X.K H' (Kp ow H ko) (.lst (ds.filterMap f)) v -> D0.nx (σ.set i (some v)) H') :
    wpAny (model X.prog X.w) X.A (exec (.Assign [.Name x px] (.ListComp elt [⟨tg, iter, ifs, 0⟩] scope pos) spos) X.env) (SP X pins D0) X.xe s := by
  rw [exec_Assign_Name_used _ _ _ _ hsw]
  refine wpAny_bind (wpAny_standAt (wpAny_bind ?_))
  show wpAny _ X.A (do let _ <- comprehension (.ListComp elt [⟨tg, iter, ifs, 0⟩] scope pos) scope X.env _ (newList []) false (eval iter X.env) (some (assign (.Name x px) X.env))) _ _ s
  refine wpAny_bind (wpAny_mono (oZ (use := some (assign (.Name x px) X.env)) (Q' := fun _ s' => SP X pins D0 .next s') hcalm hN hk hko hlen S hsub hi turn hs I E fun D C s6 H5 m6 ce sm rp => ?_) (fun _ s' hq => wpAny_pure (wpAny_pure hq)) fun _ _ e => e)
  obtain ⟨o, es, ep, ho, hd, hrest⟩ := id ce.ns
  have Ip : ak X (pins ++ [(C, o)]) σ H5 s6 := ce.inv.pins_of fun p hp => by
    rcases List.mem_append.mp hp with z | z
    . exact ce.inv.pin p (List.mem_append_right _ z)
    . have e : p = (C, o) := by simpa using z
      subst e
      exact ⟨ho, ce.free, ce.loc, ce.fs, fun v z => by rw [hd] at z; cases z⟩
  show wpAny _ X.A (assign (.Name x px) X.env (.ref D)) _ _ _
  refine aN (n5 (i := i) hN hx hl hf (pins ++ [(C, o)]) s6 σ H5 (.ref D) (.ref D) (fun σ' H' => σ.set i (some (.ref D)) = σ' /\ H5 = H') Ip rfl ⟨rfl, rfl⟩) fun _ s7 ⟨σ7, H7, I7, e1, e2⟩ => ?_
  subst e1 e2
  have pC := (I7.pin (C, o) (List.mem_append_right _ (List.mem_append_right _ (by simp)))).1
  refine ⟨m6, ⟨o, es, ep, pC, hd, hrest⟩, fun h' sb => ?_⟩
  have ce' : lA X pins (σ.set i (some (.ref D))) H5 s7 C m6 := ⟨I7.unpinned, ⟨o, es, ep, pC, hd, hrest⟩, ce.free, ce.loc, ce.old, ce.cell, ce.pin, ce.fs⟩
  exact ⟨_, H5, ce'.done sb, q (.ref D) H5 sm rp⟩
end Sp
set_option Elab.async false
set_option linter.all false
set_option maxRecDepth 100000
namespace Sp
open PySem PySem.Spec PyProof.Rows L2
mutual
def D.py : D -> PyData
  | .non => .none
  | .bl b => .bool b
  | .int i => .int i
  | .str x => .str x
  | .dct _ _ => .dict []
  | .typ _ => .dict []
  | .sn _ => .dict []
  | .obj _ _ _ => .dict []
  | .cls _ => .dict []
  | .tup l => .tuple (cV l)
  | .lst l => .list (cV l)
def cV : List D -> List PyData
  | [] => []
  | d :: l => d.py :: cV l
end
inductive Rs (α : Type) where
  | ok (a : α) (l : List Prop)
  | st
def aE : List Prop -> Prop
  | [] => True
  | p :: l => p /\ aE l
def Rs.bnd {α β : Type} (r : Rs α) (f : α -> Rs β) : Rs β :=
  match r with
  | .st => .st
  | .ok a l => match f a with
    | .st => .st
    | .ok b m => .ok b (l ++ m)
def Of {α : Type} : Option α -> Rs α
  | some a => .ok a []
  | none => .st
def gd (b : Bool) : List Prop -> List Prop
  | [] => []
  | m => [b = true -> aE m]
abbrev R1 := Rs (D × Nat)
def mk (d : D) (k : Nat) : R1 := .ok (d, kn d k) []
structure Fx where
  fn : Str -> Option (List D -> Rs D)
  con : Str -> Option D
  blt : Str -> Option (List D -> R1)
  itr : Str -> Option (List D -> Nat -> R1)
  mth : Str -> Option (D -> List D -> R1)
  mtt : Str -> Option (List D -> List D -> Nat -> Rs (List D))
  slf : D -> Option Int -> Option Int -> R1 := fun _ _ _ => .st
  fld : Str -> Str -> Bool := fun _ _ => false
  omt : Str -> Str -> Option (List D -> Rs D) := fun _ _ => none
def zW : Const -> Option D
  | .none => some .non
  | .bool b => some (.bl b)
  | .int i => some (.int i)
  | .str x => some (.str x)
  | _ => none
def cO : Nat := 2 ^ 9000
def bH (a b : Int) : Prop := a.natAbs < 2 ^ 64 \/ b.natAbs < 2 ^ 64 \/ (a.natAbs < cO /\ b.natAbs < cO) \/ (Builtin.Int.intBits a <= 2 ^ 22 /\ Builtin.Int.intBits b <= 2 ^ 22)
def gb (b : Int) : Prop := b ≠ 0 /\ b.natAbs < cO
def zA (a b : Int) : Prop := 0 <= b /\ b <= 1000 /\ a.natAbs < 2 ^ 64
def bI : Nat := 40000
def yF (op : Operator) (a b : Int) : R1 :=
  match op with
  | .Add => .ok (.int (a + b), 0) []
  | .Sub => .ok (.int (a - b), 0) []
  | .Mult => .ok (.int (a * b), 0) [bH a b]
  | .FloorDiv => .ok (.int (a.fdiv b), 0) [gb b]
  | .Mod => .ok (.int (a.fmod b), 0) [b ≠ 0]
  | .Pow => .ok (.int (a ^ b.toNat), 0) [zA a b]
  | _ => .st
def uJ : Operator -> Bool
  | .Add => true
  | _ => false
def rL (op : Operator) (x y : D) (k j : Nat) : R1 :=
  match x, y with
  | .int a, .int b => yF op a b
  | .tup a, .tup b => if uJ op = true then .ok (.tup (a ++ b), kn (.tup (a ++ b)) (kj k j)) [a.length + b.length <= bI] else .st
  | .lst a, .lst b => if uJ op = true then .ok (.lst (a ++ b), 0) [ao (a ++ b) = true, a.length + b.length <= bI] else .st
  | _, _ => .st
def vi (op : UnaryOp) (x : D) : Option D :=
  match op, x with
  | .USub, .int a => some (.int (-a))
  | .Not, .bl b => some (.bl (!b))
  | _, _ => none
def iu (x y : D) : Bool := SeqAt.shaped x.py && SeqAt.shaped y.py
def cA (x y : D) : Bool := PyData.eqv x.py y.py
def dD : List D -> Option (List Int)
  | [] => some []
  | .int i :: l => (dD l).map (i :: ·)
  | _ :: _ => none
def uB (x : D) (l : List D) : Rs Bool := .ok (l.any fun y => cA y x) [iu (.tup l) x = true]
def D.isNon : D -> Bool
  | .non => true
  | _ => false
def eh : D -> Option (List D)
  | .tup l => some l
  | .lst l => some l
  | _ => none
def fF (op : CmpOp) (a b : Int) : Option Bool :=
  match op with
  | .Lt => some (decide (a < b))
  | .LtE => some (decide (a <= b))
  | .Gt => some (decide (b < a))
  | .GtE => some (decide (b <= a))
  | _ => none
def ut (op : CmpOp) (x y : D) : Option Bool :=
  match x, y with
  | .int a, .int b => fF op a b
  | _, _ => none
def Rs.nt : Rs Bool -> Rs Bool
  | .ok b l => .ok (!b) l
  | .st => .st
def mi : D -> Option bO
  | .int i => some (.inl i)
  | .str x => some (.inr x)
  | _ => none
def jY (ks : List bO) (ds : List D) (k : bO) : Option D := ((ks.zip ds).find? fun p => decide (p.1 = k)).map (·.2)
def eT (ks : List bO) (k : bO) : Bool := ks.any fun j => decide (j = k)
def jf (ks : List bO) (k : bO) : List bO := cond (eT ks k) ks (ks ++ [k])
def dO {α : Type} (ks : List bO) (ds : List α) (k : bO) (d : α) : List α := cond (eT ks k) (List.zipWith (fun j e => if j = k then d else e) ks ds) (ds ++ [d])
def zO (x y : D) : Rs Bool :=
  match y with
  | .tup l => uB x l
  | .lst l => uB x l
  | .dct ks _ => (match mi x with | some k => .ok (eT ks k) [] | none => .st)
  | _ => .st
def gM (op : CmpOp) (x y : D) : Rs Bool :=
  match op with
  | .Eq => .ok (cA x y) [iu x y = true]
  | .NotEq => .ok (!cA x y) [iu x y = true]
  | .In => zO x y
  | .NotIn => (zO x y).nt
  | .Is => (match y with | .non => .ok x.isNon [] | _ => .st)
  | .IsNot => (match y with | .non => .ok (!x.isNon) [] | _ => .st)
  | op => Of (ut op x y)
def D.ty0 : D -> Option String
  | .non => some "NoneType"
  | .bl _ => some "bool"
  | .int _ => some "int"
  | .str _ => some "str"
  | .dct _ _ => some "dict"
  | .tup _ => some "tuple"
  | .lst _ => some "list"
  | _ => none
def D4 (x : D) (T : String) : Option Bool := x.ty0.map fun a => decide (a = T) || decide (a = "bool" /\ T = "int")
def ua (x : Str) : Option String :=
  if x = "int" then some "int" else if x = "bool" then some "bool" else if x = "str" then some "str" else if x = "tuple" then some "tuple" else if x = "list" then some "list" else none
def c6 : List D -> Option (List Bool)
  | [] => some []
  | .bl i :: l => (c6 l).map (i :: ·)
  | _ :: _ => none
def gO : List Str := ["len", "tuple", "list", "abs", "all", "sum", "isinstance", "set", "int", "bool", "str", "range", "zip", "enumerate", "any", "sorted", "min", "max", "reversed"]
def gG : Expr -> Bool
  | .Tuple .. => true
  | _ => false
def eD (e tg : Expr) : Bool :=
  match e with
  | .Call (.Name f _) _ _ _ => if f = "enumerate" \/ f = "zip" then gG tg else true
  | _ => true
def items : D -> Option (List D)
  | .lst l => some l
  | .tup l => some l
  | _ => none
def bR (ρ : aj) (x : Str) (y : D × Bool) : aj := fun z => if z = x then some y else ρ z
def dJ (sc : Scope) (x : Str) : Bool := sc.names.lookup x == some .local || sc.names.lookup x == some .cell
def aP (sc : Scope) : List Expr -> List D -> aj -> Option aj
  | [], [], ρ => some ρ
  | .Name x _ :: es, d :: ds, ρ => if dJ sc x = true then aP sc es ds (bR ρ x (d, false)) else none
  | _, _, _ => none
def bJ (sc : Scope) (tg : Expr) (d : D) (ρ : aj) : Option aj :=
  match tg with
  | .Name x _ => if dJ sc x = true then some (bR ρ x (d, false)) else none
  | .Tuple es _ _ => (match d with | .tup ds => aP sc es ds ρ | _ => none)
  | _ => none
def nD (sc scope : Scope) : Bool :=
  decide (scope.kind = .function) && scope.names.all (fun y => decide (y.2 ≠ .local) || decide (scope.names.lookup y.1 = some .local)) &&
  scope.names.all (fun y => decide (y.2 ≠ .free) || dJ sc y.1 && decide (sc.names.lookup y.1 = some .cell) || decide (sc.names.lookup y.1 = some .free)) && decide ((scope.names.map (·.1)).Nodup)
def gc (step : D -> Rs (Option (D × Nat))) : List D -> Rs (List D × Nat)
  | [] => .ok ([], 0) []
  | d :: l => (step d).bnd fun r => (gc step l).bnd fun q => match r with
    | none => .ok q []
    | some p => .ok (p.1 :: q.1, kj p.2 q.2) []
def qN (x : D) (i : Int) (k : Nat) : R1 :=
  match eh x with
  | some l => (match atI l i with | some d => mk d k | none => .st)
  | none => .st
def i6 (p : D × Nat) (f : Int -> R1) : R1 :=
  match p.1 with
  | .int j => f j
  | _ => .st
def iW (p q : D × Nat) : R1 :=
  match p.1 with
  | .dct ks ds => (match mi q.1 with | some k => (match jY ks ds k with | some d => .ok (d, 0) [] | none => .st) | none => .st)
  | x => i6 q fun j => qN x j p.2
def jg (l : List D) (lo hi : Option Int) : List D := (l.drop (HT.sIx l.length 0 lo)).take (HT.sIx l.length l.length hi - HT.sIx l.length 0 lo)
def EK (l : List D) (lo hi : Option Int) : Bool := !(decide (HT.sIx l.length 0 lo = 0) && decide (HT.sIx l.length l.length hi = l.length))
def aT (x : D) (lo hi : Option Int) : R1 :=
  match x with
  | .tup l => .ok (.tup (jg l lo hi), 0) [ao l = true, EK l lo hi = true]
  | .lst l => .ok (.lst (jg l lo hi), 0) [ao l = true]
  | _ => .st
def gB (x : Str) : Bool := decide ((x == ("__debug__" : Str)) = false) && decide ((x == ("__classdict__" : Str)) = false)
def uX (b : Bool) (r : Rs Bool) : Rs Bool :=
  match r with
  | .ok c m => .ok (b && c) (gd b m)
  | .st => match b with | false => .ok false [] | true => .st
def zG (b : Bool) (r : Rs Bool) : Rs Bool :=
  match r with
  | .ok c m => .ok (b || c) (gd (!b) m)
  | .st => match b with | true => .ok true [] | false => .st
mutual
def oh (b : Bool) : D -> D -> D
  | .int x, .int y => .int (cond b x y)
  | .bl x, .bl y => .bl (cond b x y)
  | .tup x, .tup y => if x.length = y.length then .tup (jN b x y) else cond b (.tup x) (.tup y)
  | x, y => cond b x y
def jN (b : Bool) : List D -> List D -> List D
  | x :: l, y :: m => oh b x y :: jN b l m
  | l, m => cond b l m
end
def wc (t : Bool) (k j : Nat) : Nat := if k = j then k else cond t k j
def zQ (b : Bool) (r s : R1) : R1 :=
  match r with
  | .st => (match b with | true => .st | false => s)
  | .ok p m => match s with
    | .st => (match b with | true => .ok p m | false => .st)
    | .ok q n => .ok (oh b p.1 q.1, wc b p.2 q.2) (gd b m ++ gd (!b) n)
def i5 (Φ : Fx) (x : Str) (sc : Scope) (ρ : aj) : R1 :=
  if gB x = true then
    (if sc.names.lookup x = some .globalImplicit then (match Φ.con x with | some d => .ok (d, 0) [] | none => match ua x with | some T => .ok (.typ T, 0) [] | none => .st)
    else match ρ x with
      | some p => mk p.1 (cond p.2 2 1)
      | none => .st)
  else .st
def li (Φ : Fx) (f : Str) (it : Bool) (ds : List D) (k : Nat) : R1 :=
  match Φ.fn f with
  | some F => (F ds).bnd fun d => .ok (d, 0) []
  | none => match (if it = true then Φ.itr f else none) with
    | some B => B ds k
    | none => match Φ.blt f with
      | some B => B ds
      | none => .st
def ib {α : Type} (p : D × Nat) (f : Bool -> Rs α) : Rs α :=
  match p.1 with
  | .bl j => f j
  | _ => .st
def Eg (Φ : Fx) (x : D) (f : Str) : R1 :=
  match x with
  | .obj n ns ds => if Φ.fld n f = true then (match (ns.zip ds).lookup f with | some d => .ok (d, 0) [] | none => .st) else .st
  | _ => .st
def iR : Expr -> Bool
  | .Call (.Name _ _) [] [] _ => false
  | _ => true
def xU (Φ : Fx) (a : Expr) (m : Str) (x : D) (ds : List D) : R1 :=
  match x with
  | .obj n ns es => if ns.contains m = false /\ iR a = true /\ ds.length < 29 then (match Φ.omt n m with | some F => (F (.obj n ns es :: ds)).bnd fun d => .ok (d, 0) [] | none => .st) else .st
  | x => if iR a = true then (match Φ.mth m with | some M => M x ds | none => .st) else .st
def EO (op op2 : CmpOp) (x y z : D) : R1 :=
  match x, y, z with
  | .int a, .int b, .int c => (match fF op a b, fF op2 b c with | some r, some r2 => .ok (.bl (r && r2), 0) [] | _, _ => .st)
  | _, _, _ => .st
mutual
def ay (Φ : Fx) : Expr -> Bool -> Scope -> aj -> R1
  | .Constant c _ _, _, _, _ => (match zW c with | some d => .ok (d, 0) [] | none => .st)
  | .Name x _, _, sc, ρ => i5 Φ x sc ρ
  | .BinOp a op b _, _, sc, ρ => (ay Φ a false sc ρ).bnd fun p => (ay Φ b false sc ρ).bnd fun q => rL op p.1 q.1 p.2 q.2
  | .UnaryOp op a _, _, sc, ρ => (ay Φ a false sc ρ).bnd fun p => (match vi op p.1 with | some d => .ok (d, 0) [] | none => .st)
  | .BoolOp op es _, _, sc, ρ => if es.isEmpty = true then .st else (dl Φ op es sc ρ).bnd fun b => .ok (.bl b, 0) []
  | .Compare a [op] [b] _, _, sc, ρ => (ay Φ a false sc ρ).bnd fun p => (ay Φ b false sc ρ).bnd fun q => (gM op p.1 q.1).bnd fun r => .ok (.bl r, 0) []
  | .Compare a [op, op2] [b, c] _, _, sc, ρ => (ay Φ a false sc ρ).bnd fun p => (ay Φ b false sc ρ).bnd fun q => (ay Φ c false sc ρ).bnd fun t => EO op op2 p.1 q.1 t.1
  | .IfExp c a b _, _, sc, ρ => (ay Φ c false sc ρ).bnd fun p => ib p fun t => zQ t (ay Φ a false sc ρ) (ay Φ b false sc ρ)
  | .Tuple es _ _, _, sc, ρ => (cx Φ es sc ρ).bnd fun p => if p.1.length <= bI then mk (.tup p.1) p.2 else .st
  | .Dict [] [] _, _, _, _ => .ok (.dct [] [], 0) []
  | .List es _, _, sc, ρ => (cx Φ es sc ρ).bnd fun p => if p.1.length <= bI /\ p.2 <= 1 then .ok (.lst p.1, p.2) [] else .st
  | .Subscript a (.Slice lo hi none _) _, _, sc, ρ => (ay Φ a false sc ρ).bnd fun p => (lK Φ lo sc ρ).bnd fun l => (lK Φ hi sc ρ).bnd fun h => Φ.slf p.1 l h
  | .Subscript a i _, _, sc, ρ => (ay Φ a false sc ρ).bnd fun p => (ay Φ i false sc ρ).bnd fun q => iW p q
  | .Call (.Name f _) args [] _, it, sc, ρ =>
    if sc.names.lookup f = some .globalImplicit then (cx Φ args sc ρ).bnd fun p => li Φ f it p.1 p.2
    else .st
  | .Attribute (.Name x _) f _, _, sc, ρ => (i5 Φ x sc ρ).bnd fun p => Eg Φ p.1 f
  | .Call (.Attribute a m ap) args [] cp, _, sc, ρ => if (ap.endLine == cp.line) = true then (ay Φ a false sc ρ).bnd fun p => (cx Φ args sc ρ).bnd fun q => xU Φ a m p.1 q.1 else .st
  | .ListComp elt [⟨tg, iter, ifs, 0⟩] scope _, _, sc, ρ =>
    if nD sc scope = true then (ay Φ iter true sc ρ).bnd fun p => (match items p.1 with
      | some ds => if eD iter tg = true then
          (Rs.ok () [ds.length <= bI, ao ds = true \/ p.2 <= 1]).bnd fun _ => (gc (fun d => match bJ scope tg d (flt scope ρ) with
            | none => .st
            | some ρ' => (dl Φ .And ifs scope ρ').bnd fun b => cond b ((ay Φ elt false scope ρ').bnd fun r => .ok (some r) []) (.ok none [])) ds).bnd fun q => if q.2 <= 1 then .ok (.lst q.1, q.2) [] else .st
        else .st
      | none => .st)
    else .st
  | _, _, _, _ => .st
def cx (Φ : Fx) : List Expr -> Scope -> aj -> Rs (List D × Nat)
  | [], _, _ => .ok ([], 0) []
  | e :: es, sc, ρ => (ay Φ e false sc ρ).bnd fun p => (cx Φ es sc ρ).bnd fun q => .ok (p.1 :: q.1, kj p.2 q.2) []
def dl (Φ : Fx) : BoolOp -> List Expr -> Scope -> aj -> Rs Bool
  | .And, [], _, _ => .ok true []
  | .Or, [], _, _ => .ok false []
  | .And, e :: es, sc, ρ => (ay Φ e false sc ρ).bnd fun p => ib p fun b => uX b (dl Φ .And es sc ρ)
  | .Or, e :: es, sc, ρ => (ay Φ e false sc ρ).bnd fun p => ib p fun b => zG b (dl Φ .Or es sc ρ)
def lK (Φ : Fx) : Option Expr -> Scope -> aj -> Rs (Option Int)
  | none, _, _ => .ok none []
  | some e, sc, ρ => (ay Φ e false sc ρ).bnd fun p => (match p.1 with | .int i => .ok (some i) [] | _ => .st)
end
theorem ox {Φ : Fx} {op : BoolOp} {es : List Expr} {p : Pos} {it : Bool} {sc : Scope} {ρ : aj} : ay Φ (.BoolOp op es p) it sc ρ = (if es.isEmpty = true then .st else (dl Φ op es sc ρ).bnd fun b => .ok (.bl b, 0) []) := rfl
theorem jc {Φ : Fx} {f : Str} {args : List Expr} {p q : Pos} {it : Bool} {sc : Scope} {ρ : aj} : ay Φ (.Call (.Name f p) args [] q) it sc ρ = (if sc.names.lookup f = some .globalImplicit then (cx Φ args sc ρ).bnd fun p => li Φ f it p.1 p.2 else .st) := rfl
theorem rA {Φ : Fx} {a : Expr} {m : Str} {args : List Expr} {ap cp : Pos} {it : Bool} {sc : Scope} {ρ : aj} : ay Φ (.Call (.Attribute a m ap) args [] cp) it sc ρ = (if (ap.endLine == cp.line) = true then (ay Φ a false sc ρ).bnd fun p => (cx Φ args sc ρ).bnd fun q => xU Φ a m p.1 q.1 else .st) := rfl
theorem ou {Φ : Fx} {elt tg iter : Expr} {ifs : List Expr} {scope : Scope} {q : Pos} {it : Bool} {sc : Scope} {ρ : aj} : ay Φ (.ListComp elt [⟨tg, iter, ifs, 0⟩] scope q) it sc ρ = (if nD sc scope = true then (ay Φ iter true sc ρ).bnd fun p => (match items p.1 with
      | some ds => if eD iter tg = true then
          (Rs.ok () [ds.length <= bI, ao ds = true \/ p.2 <= 1]).bnd fun _ => (gc (fun d => match bJ scope tg d (flt scope ρ) with
            | none => .st
            | some ρ' => (dl Φ .And ifs scope ρ').bnd fun b => cond b ((ay Φ elt false scope ρ').bnd fun r => .ok (some r) []) (.ok none [])) ds).bnd fun q => if q.2 <= 1 then .ok (.lst q.1, q.2) [] else .st
        else .st
      | none => .st)
    else .st) := rfl
end Sp
set_option Elab.async false
set_option linter.all false
set_option maxRecDepth 100000
namespace Sp
open PySem PySem.Spec PyProof.Rows L2
inductive Fl where
  | nx (ρ : aj) | rt (d : D) | bk (ρ : aj) | ct (ρ : aj)
def mW : Expr -> Bool
  | .ListComp .. => true
  | .SetComp .. => true
  | .DictComp .. => true
  | _ => false
def uj (l : List D) (i : Int) (d : D) : Option (List D) := (jT l.length i).map fun j => l.set j d
def gY (f : aj -> Rs Fl) : Fl -> Rs Fl
  | .nx ρ => f ρ
  | .ct ρ => f ρ
  | .bk ρ => .ok (.nx ρ) []
  | .rt d => .ok (.rt d) []
def cR (bind : D -> aj -> Option aj) (body : aj -> Rs Fl) : List D -> aj -> Rs Fl
  | [], ρ => .ok (.nx ρ) []
  | d :: l, ρ => match bind d ρ with
    | none => .st
    | some ρ1 => (body ρ1).bnd (gY (cR bind body l))
def lF (test : aj -> Rs Bool) (body : aj -> Rs Fl) : Nat -> aj -> Rs Fl
  | 0, _ => .st
  | n + 1, ρ => (test ρ).bnd fun b => cond b ((body ρ).bnd (gY (lF test body n))) (.ok (.nx ρ) [])
def demX (x : Str) (ρ : aj) : aj := fun y => if y = x then (ρ y).map fun p => (p.1, false) else ρ y
def demA (x : Str) (ρ : aj) : aj := fun y => if y = x then (ρ y).map fun p => (p.1, p.2 && p.1.lless) else ρ y
def demL : List Expr -> aj -> aj
  | [], ρ => ρ
  | .Name x _ :: es, ρ => demL es (demA x ρ)
  | .Subscript (.Name x _) _ _ :: es, ρ => demL es (demA x ρ)
  | _ :: es, ρ => demL es ρ
def demote (e : Expr) (ρ : aj) : aj :=
  match e with
  | .Name x _ => demX x ρ
  | .Subscript (.Name x _) _ _ => demX x ρ
  | .Call _ args _ _ => demL args ρ
  | _ => ρ
def nY (sc : Scope) (x : Str) (p : D × Nat) (ρ : aj) : Rs Fl :=
  if dJ sc x = true then
    match p.2 with
    | 0 => .ok (.nx (bR ρ x (p.1, true))) []
    | 1 => .ok (.nx (bR ρ x (p.1, false))) []
    | _ => .st
  else .st
def n9 (ρ : aj) (x : Str) (f : List D -> Rs Fl) : Rs Fl :=
  match ρ x with
  | some (.lst l, true) => if gB x = true then f l else .st
  | _ => .st
def mN (sc : Scope) (x y : Str) (px py : Pos) (a b : Expr) : Bool :=
  sc.names.lookup x == some .local && sc.names.lookup y == some .local && (px.line == py.line) && !decide (x = y) && !([a, b].all (foldedForSure 8)) && !([a, b].all (constantsAlone 8))
def ni (Φ : Fx) (es : List Expr) (e : Expr) (sc : Scope) (ρ : aj) : Rs Fl :=
  match es, e with
  | [.Name x px, .Name y py], .Tuple [a, b] _ _ => if mN sc x y px py a b = true then (cx Φ [a, b] sc ρ).bnd fun p => (match p.1 with
      | [u, v] => if ao [u, v] = true \/ p.2 <= 1 then .ok (.nx (bR (bR ρ x (u, false)) y (v, false))) [] else .st
      | _ => .st) else .st
  | _, _ => .st
def rH (sc : Scope) (es : List Expr) (e : Expr) : Bool :=
  match es, e with
  | [.Name x _, .Name _ _], .Tuple [_, _] _ _ => sc.names.lookup x == some .cell
  | _, _ => false
def sS (sc : Scope) (es : List Expr) (e : Expr) : Bool := gG e && !rH sc es e
def HU (_ : Expr) : Bool := true
def qg (ρ : aj) (x : Str) (i d : D) : Rs Fl :=
  match ρ x with
  | some (.lst l, true) => (match i with | .int j => if gB x = true then (match uj l j d with | some l' => .ok (.nx (bR ρ x (.lst l', true))) [ao l = true, d.lless = true] | none => .st) else .st | _ => .st)
  | some (.dct ks ds, true) => (match mi i with | some k => if gB x = true then .ok (.nx (bR ρ x (.dct (jf ks k) (dO ks ds k d), true))) [d.lless = true, ks.length < bI] else .st | none => .st)
  | _ => .st
def nl (Φ : Fx) (tgs : List Expr) (e : Expr) (sc : Scope) (ρ : aj) : Rs Fl :=
  match tgs with
  | [.Name x _] => (ay Φ e false sc ρ).bnd fun p => nY sc x p ρ
  | [.Tuple es _ _] => if sS sc es e = true then ni Φ es e sc ρ else (ay Φ e false sc ρ).bnd fun p => (match eh p.1 with
      | some ds => if ao ds = true \/ p.2 <= 1 then (match aP sc es ds ρ with | some ρ' => .ok (.nx ρ') [] | none => .st) else .st
      | none => .st)
  | [.Subscript (.Name x _) i _] => if HU e = true then (ay Φ e false sc ρ).bnd fun p => (ay Φ i false sc ρ).bnd fun q => qg ρ x q.1 p.1
    else .st
  | _ => .st
def yQ (op : Operator) (a b : Int) : R1 :=
  match op with
  | .Add => .ok (.int (a + b), 0) []
  | .Sub => .ok (.int (a - b), 0) []
  | .Mult => .ok (.int (a * b), 0) [bH a b]
  | .FloorDiv => .ok (.int (a.fdiv b), 0) [gb b]
  | _ => .st
def nk (Φ : Fx) (t : Expr) (op : Operator) (e : Expr) (sc : Scope) (ρ : aj) : Rs Fl :=
  match t with
  | .Name x _ => if dJ sc x = true then (match ρ x with
      | some p => i6 (p.1, 0) (fun a => (ay Φ e false sc ρ).bnd fun q => i6 q fun b => yQ op a b) |>.bnd fun r => .ok (.nx (bR ρ x (r.1, true))) []
      | none => .st) else .st
  | _ => .st
def nj (Φ : Fx) (e : Expr) (sc : Scope) (ρ : aj) : Rs Fl :=
  match e with
  | .Call (.Attribute (.Name x _) m ap) args [] cp => if (ap.endLine == cp.line) = true then (cx Φ args sc ρ).bnd fun p => (match Φ.mtt m with
      | some M => n9 ρ x fun l => (M l p.1 p.2).bnd fun l' => .ok (.nx (bR ρ x (.lst l', true))) []
      | none => .st) else .st
  | .Call (.Name f p) args ks cp => (ay Φ (.Call (.Name f p) args ks cp) false sc ρ).bnd fun _ => .ok (.nx ρ) []
  | _ => .st
def EH (ρ : aj) : aj := fun y => (ρ y).map fun p => (p.1, false)
def zI : Expr -> Bool
  | .ListComp elt _ _ _ => mW elt
  | _ => false
def zH : Expr -> Bool
  | .Tuple es _ _ => es.any zI
  | e => zI e
def rtR (e : Expr) (ρ : aj) : aj := cond (zH e) (EH ρ) ρ
def uk (p : D × Nat) : Rs Fl := if p.2 = 0 \/ p.2 = 2 then .ok (.rt p.1) [] else .st
mutual
def du (Φ : Fx) : Stmt -> Scope -> aj -> Rs Fl
  | .Return (some e) _, sc, ρ => (ay Φ e false sc ρ).bnd uk
  | .Return none _, _, _ => .ok (.rt .non) []
  | .Pass _, _, ρ => .ok (.nx ρ) []
  | .Break _, _, ρ => .ok (.bk ρ) []
  | .Continue _, _, ρ => .ok (.ct ρ) []
  | .Assign tgs e _, sc, ρ => nl Φ tgs e sc ρ
  | .AugAssign t op e _, sc, ρ => nk Φ t op e sc ρ
  | .Expr e _, sc, ρ => nj Φ e sc ρ
  | .If c a b _, sc, ρ => (ay Φ c false sc ρ).bnd fun p => ib p fun t => cond t (az Φ a sc ρ) (az Φ b sc ρ)
  | .For tg it body els _, sc, ρ => if els.isEmpty = true then (ay Φ it true sc (demote it ρ)).bnd fun p => (match items p.1 with
      | some ds => if p.2 <= 1 /\ eD it tg = true then cR (bJ sc tg) (az Φ body sc) ds (demote it ρ) else .st
      | none => .st)
    else .st
  | .While c body els _, sc, ρ => if els.isEmpty = true then lF (fun ρ => (ay Φ c false sc ρ).bnd fun p => ib p fun b => .ok b []) (az Φ body sc) bI ρ else .st
  | _, _, _ => .st
def az (Φ : Fx) : List Stmt -> Scope -> aj -> Rs Fl
  | [], _, ρ => .ok (.nx ρ) []
  | s :: ss, sc, ρ => (du Φ s sc ρ).bnd fun
    | .nx ρ' => az Φ ss sc ρ'
    | f => .ok f []
end
theorem oq {Φ : Fx} {tg it : Expr} {body els : List Stmt} {q : Pos} {sc : Scope} {ρ : aj} : du Φ (.For tg it body els q) sc ρ = (if els.isEmpty = true then (ay Φ it true sc (demote it ρ)).bnd fun p => (match items p.1 with
      | some ds => if p.2 <= 1 /\ eD it tg = true then cR (bJ sc tg) (az Φ body sc) ds (demote it ρ) else .st
      | none => .st)
    else .st) := rfl
theorem rh {Φ : Fx} {c : Expr} {body els : List Stmt} {q : Pos} {sc : Scope} {ρ : aj} : du Φ (.While c body els q) sc ρ = (if els.isEmpty = true then lF (fun ρ => (ay Φ c false sc ρ).bnd fun p => ib p fun b => .ok b []) (az Φ body sc) bI ρ else .st) := rfl
def fh : List Str -> List D -> aj
  | p :: ps, d :: ds => fun z => if z = p then some (d, false) else fh ps ds z
  | _, _ => fun _ => none
def bD (Φ : Fx) (sc : Scope) (ps : List Str) (body : List Stmt) (ds : List D) : Rs D :=
  if ds.length = ps.length then (az Φ body sc (fh ps ds)).bnd fun
    | .rt d => .ok d []
    | .nx _ => .ok .non []
    | _ => .st
  else .st
def yL (ds : List D) : R1 :=
  match ds with
  | [.sn n] => .ok (.int n, 0) []
  | [x] => (match eh x with | some l => .ok (.int l.length, 0) [] | none => .st)
  | _ => .st
def kF : List String := ["int", "bool", "str", "tuple", "list", "dict"]
def yM (ds : List D) : R1 :=
  match ds with
  | [.obj m _ _, .cls n] => if m = n then .ok (.bl true, 0) [] else if m ∈ EN then .ok (.bl (p9 m n), 0) [] else .st
  | [x, .typ T] => if T ∈ kF then (match D4 x T with | some b => .ok (.bl b, 0) [] | none => .st) else .st
  | _ => .st
def rN (ds : List D) : R1 :=
  match ds with
  | [x] => (match eh x with | some l => .ok (.tup l, 0) [ao l = true] | none => .st)
  | _ => .st
def uW (ds : List D) : R1 :=
  match ds with
  | [x] => (match eh x with | some l => .ok (.lst l, 0) [ao l = true] | none => .st)
  | _ => .st
def yP (ds : List D) : R1 :=
  match ds with
  | [.int i] => .ok (.int (if i < 0 then -i else i), 0) []
  | _ => .st
def yO (ds : List D) : R1 :=
  match ds with
  | [.lst l] => (match c6 l with | some bs => .ok (.bl (bs.all id), 0) [] | none => .st)
  | _ => .st
def yJ (ds : List D) : R1 :=
  match ds with
  | [.lst l] => (match dD l with | some ns => .ok (.int ns.sum, 0) [] | none => .st)
  | _ => .st
def yN (ds : List D) : R1 :=
  match ds with
  | [.int i] => .ok (.int i, 0) []
  | [.bl b] => .ok (.int (cond b 1 0), 0) []
  | _ => .st
def jV (ds : List D) (_ : Nat) : R1 :=
  match ds with
  | [.int j] => .ok (.lst ((List.range j.toNat).map fun i => .int (i : Nat)), 0) [-4611686018427387904 <= j, j <= bI]
  | [.int i, .int j] => .ok (.lst ((List.range (j - i).toNat).map fun m => .int (i + (m : Nat))), 0) [-4611686018427387904 <= i, i <= 4611686018427387000, -4611686018427387904 <= j, j - i <= 800]
  | _ => .st
def je : Nat -> List D -> List D
  | _, [] => []
  | n, x :: xs => .tup [.int (n : Nat), x] :: je (n + 1) xs
theorem lg : ∀ (l : List D) (n : Nat), je n l = l.mapIdx fun i x => .tup [.int ((n + i : Nat) : Int), x]
  | [], _ => rfl
  | x :: l, n => by
    rw [je, lg l (n + 1), List.mapIdx_cons]
    simp only [Nat.add_zero]
    congr 1
    congr 1
    funext i y
    rw [show n + 1 + i = n + (i + 1) by omega]
def uL (ds : List D) (k : Nat) : R1 :=
  match ds with
  | [.tup a] => .ok (.lst (je 0 a), 0) [ao a = true]
  | [.lst a] => .ok (.lst (je 0 a), k) [ao a = true]
  | _ => .st
def yg (ds : List D) (k : Nat) : R1 :=
  match ds with
  | [.tup a, .tup b] => .ok (.lst (List.zipWith (fun x y => .tup [x, y]) a b), 0) [ao a = true, ao b = true]
  | [x, y] => (match eh x, eh y with | some a, some b => .ok (.lst (List.zipWith (fun x y => .tup [x, y]) a b), k) [ao a = true, ao b = true] | _, _ => .st)
  | _ => .st
def kU (l ds : List D) (k : Nat) : Rs (List D) :=
  match ds with
  | [d] => .ok (l ++ [d]) [d.lless = true \/ k = 0, l.length < bI]
  | _ => .st
def Tb (l : List (Str × (List D -> Rs D))) (c : List (Str × D)) (b : List (Str × (List D -> R1))) (i : List (Str × (List D -> Nat -> R1))) (m : List (Str × (D -> List D -> R1))) (t : List (Str × (List D -> List D -> Nat -> Rs (List D)))) (sf : D -> Option Int -> Option Int -> R1) : Fx :=
  { slf := sf, fn := fun g => l.lookup g, con := fun x => c.lookup x, blt := fun x => b.lookup x, itr := fun x => i.lookup x, mth := fun x => m.lookup x, mtt := fun x => t.lookup x }
end Sp
set_option Elab.async false
set_option linter.all false
set_option maxRecDepth 100000
namespace Sp
open PySem PySem.Spec PyProof.Rows L2
variable {X : Cx}
theorem kN {k : Int} {n : Nat} (h : k.natAbs < 2 ^ n) : Builtin.Int.intBits k <= n := by
  unfold Builtin.Int.intBits
  split
  . exact Nat.zero_le _
  . rename_i h0
    have : k.natAbs.log2 < n := by
      rcases Nat.eq_zero_or_pos k.natAbs with h1 | hp
      . exact absurd (by simpa using h1) (by simpa using h0)
      . exact (Nat.log2_lt (Nat.ne_of_gt hp)).mpr h
    omega
theorem df : ∀ {l m : List Prop}, aE (l ++ m) ↔ aE l /\ aE m
  | [], m => by simp [aE]
  | p :: l, m => by
    show p /\ aE (l ++ m) ↔ (p /\ aE l) /\ aE m
    rw [df, and_assoc]
theorem aM {α β : Type} {r : Rs α} {f : α -> Rs β} {b : β} {l : List Prop} (h : r.bnd f = .ok b l) (hp : aE l) : ∃ a l1 l2, r = .ok a l1 /\ aE l1 /\ f a = .ok b l2 /\ aE l2 := by
  unfold Rs.bnd at h
  split at h
  . cases h
  . rename_i a l1
    split at h
    . cases h
    . rename_i b' m e
      cases h
      obtain ⟨h1, h2⟩ := df.mp hp
      exact ⟨a, l1, m, rfl, h1, e, h2⟩
theorem ng {b : Bool} {m : List Prop} (h : aE (gd b m)) (hb : b = true) : aE m := by
  cases m with
  | nil => exact True.intro
  | cons p l => exact h.1 hb
theorem GP {a b : Int} (h : Builtin.Int.intBits a <= 2 ^ 22) (g : Builtin.Int.intBits b <= 2 ^ 22) : IntMulOk a b := by
  have h' : Builtin.Int.intTooBig (Builtin.Int.intBits a + Builtin.Int.intBits b) = false := by
    unfold Builtin.Int.intTooBig bitsLine; exact decide_eq_false (by omega)
  unfold IntMulOk; rw [h']; simp
theorem qF {a b : Int} (h : bH a b) : IntMulOk a b := by
  rcases h with h | h | ⟨h, g⟩ | ⟨h, g⟩
  . exact .of_left (kN h)
  . exact .of_right (kN h)
  . exact IntMulOk.of_bits (Nat.le_trans (kN h) (by decide)) (Nat.le_trans (kN g) (by decide))
  . exact GP h g
theorem A5 : cI X (binaryOp .Mult) (rI (fun i j => bH i j) fun i j => .int (i * j)) := tq fun _ _ _ _ _ _ _ hc q => mul_int q (qF hc)
theorem xP : cI X (binaryOp .FloorDiv) (rI (fun _ j => j ≠ 0 /\ j.natAbs < cO) fun i j => .int (i.fdiv j)) := tq fun i j _ _ _ _ _ hc q => floordiv_int hc.1 q (.inl (PyProof.noPylong_of_log2 (by
  rcases Nat.eq_zero_or_pos j.natAbs with h1 | hp
  . exact absurd (by simpa using h1) hc.1
  . exact (Nat.log2_lt (Nat.ne_of_gt hp)).mpr hc.2)))
mutual
theorem da {pins : List (Addr × Obj)} {σ : L2.St} {H : Hp} {s : Shared} (I : ak X pins σ H s) {P : bg} : ∀ {d : D} {v : V} {u : Value}, d.py.canLay0 = true -> ah X.K H P d v -> aQ v u -> ∃ as, Reads s.heap u d.py as
  | .non, v, u, _, h, r => by
    rw [ah] at h; subst h; cases (show u = Value.none from r); rw [D.py]; exact ⟨_, .none⟩
  | .bl b, v, u, _, h, r => by rw [ah] at h; subst h; cases (show u = Value.bool b from r); rw [D.py]; exact ⟨_, .bool b⟩
  | .int i, v, u, _, h, r => by rw [ah] at h; subst h; obtain ⟨t, e⟩ := (show ∃ t, u = Value.int i t from r); subst e; rw [D.py]; exact ⟨_, .int i t⟩
  | .str x, v, u, _, h, r => by rw [ah] at h; subst h; obtain ⟨t, e⟩ := (show ∃ t, u = Value.str x t from r); subst e; rw [D.py]; exact ⟨_, .str x t⟩
  | .dct _ _, v, u, c, h, r => by rw [D.py] at c; simp [PyData.canLay0] at c
  | .typ _, v, u, c, h, r => by rw [D.py] at c; simp [PyData.canLay0] at c
  | .sn _, v, u, c, h, r => by rw [D.py] at c; simp [PyData.canLay0] at c
  | .obj _ _ _, v, u, c, h, r => by rw [D.py] at c; simp [PyData.canLay0] at c
  | .cls _, v, u, c, h, r => by rw [D.py] at c; simp [PyData.canLay0] at c
  | .tup l, v, u, c, h, r => by
    rw [ah] at h
    obtain ⟨a, vs, rfl, h, q⟩ := h
    cases (show u = Value.ref a from r)
    obtain ⟨its, rv, ht, _⟩ := I.tuple h
    obtain ⟨o, e1, e2, n, e3⟩ := ht
    rw [D.py] at c ⊢
    obtain ⟨as, ra⟩ := jI I (by simpa [PyData.canLay0] using c) q rv
    exact ⟨as, .tuple e1 e2 e3 (by simpa using ra)⟩
  | .lst l, v, u, c, h, r => by
    rw [ah] at h
    obtain ⟨a, vs, b, rfl, h, _, q⟩ := h
    cases (show u = Value.ref a from r)
    have hs : cm X.K H a vs := h.sq
    obtain ⟨its, rv, ht, _⟩ := I.list hs
    obtain ⟨o, n, e1, e2, _, e3⟩ := ht
    rw [D.py] at c ⊢
    obtain ⟨as, ra⟩ := jI I (by simpa [PyData.canLay0] using c) q rv
    exact ⟨_, .list e1 e2 e3 (by simpa using ra)⟩
theorem jI {pins : List (Addr × Obj)} {σ : L2.St} {H : Hp} {s : Shared} (I : ak X pins σ H s) {P : bg} : ∀ {l : List D} {vs : List V} {us : List Value}, PyData.canLayAll0 (cV l) = true -> ag X.K H P l vs -> aJ vs us -> ∃ as, ReadsAll s.heap us (cV l) as
  | [], vs, us, _, h, r => by rw [ag] at h; subst h; cases r; rw [cV]; exact ⟨_, .nil⟩
  | d :: l, vs, us, c, h, r => by
    rw [ag] at h
    obtain ⟨v, vr, rfl, h1, h2⟩ := h
    cases r with
    | cons r1 r2 =>
      rw [cV, PyData.canLayAll0, Bool.and_eq_true] at c
      obtain ⟨as, ra⟩ := da I c.1 h1 r1
      obtain ⟨bs, rb⟩ := jI I c.2 h2 r2
      rw [cV]
      exact ⟨_, .cons ra rb⟩
end
def Ad (X : Cx) (f : Value -> Value -> Sem Value) (x y z : D) (k j l : Nat) : Prop :=
  ∃ r : R2, cI X f r /\ ∀ ow H0 H2 v u (Q : VK), eG ow H0 -> aD H0 H2 -> ah X.K H2 (Kp ow H0 k) x v -> ah X.K H2 (Kp ow H0 j) y u -> (∀ w H', aD H2 H' -> ah X.K H' (Kp ow H0 l) z w -> Q w H') -> r v u H2 Q
theorem cy {H : Hp} {p : Addr} {o : HO} (h : H p = none) : aD H (aV H p o) := fun b x e => by rw [aH (bz e h)]; exact e
theorem ah.kn {K : W.Frag} {ow : Ow} {H0 H : Hp} {d : D} {k : Nat} {v : V} (h : ah K H (Kp ow H0 k) d v) : ah K H (Kp ow H0 (Sp.kn d k)) d v := by
  unfold Sp.kn
  by_cases f : d.lless = true
  . rw [if_pos f]; exact h.flat _ f
  . rw [if_neg f]; exact h
theorem gE : bI <= sizeLine := by rw [sizeLine_eq]; decide
theorem oS : bI < sizeLine := by rw [sizeLine_eq]; decide
theorem kL {f : Value -> Value -> Sem Value} {a b : Int} {g : Int -> Int -> Int} {C : Int -> Int -> Prop} {k j : Nat} (h : cI X f (rI C fun i j => .int (g i j))) (hc : C a b) : Ad X f (.int a) (.int b) (.int (g a b)) k j 0 :=
  ⟨_, h, fun ow H0 H2 v u Q o s rx ry q => by
    rw [ah] at rx ry; subst rx ry
    exact ⟨a, b, rfl, rfl, hc, q _ _ (aD.refl _) (by rw [ah])⟩⟩
theorem qC {f : Value -> Value -> Sem Value} {a b : Int} {g : Int -> Int -> Int} {k j : Nat} (h : cI X f (jm fun i j => .int (g i j))) : Ad X f (.int a) (.int b) (.int (g a b)) k j 0 :=
  ⟨_, h, fun ow H0 H2 v u Q o s rx ry q => by
    rw [ah] at rx ry; subst rx ry
    exact ⟨a, b, rfl, rfl, q _ _ (aD.refl _) (by rw [ah])⟩⟩
theorem jo : ∀ {a b : List D}, ao (a ++ b) = (ao a && ao b)
  | [], b => by simp [ao]
  | x :: a, b => by rw [List.cons_append, ao, ao, jo, Bool.and_assoc]
theorem B5 {op : Operator} {a b : Int} {z : D} {k j l : Nat} {o : List Prop} (h : yF op a b = .ok (z, l) o) (hp : aE o) : Ad X (binaryOp op) (.int a) (.int b) z k j l := by
  unfold yF at h
  split at h
  . cases h; exact qC DD
  . cases h; exact qC DA
  . cases h; exact kL A5 hp.1
  . cases h; exact kL xP hp.1
  . cases h; exact kL A6 hp.1
  . cases h
    have c : zA a b := hp.1
    exact kL DB ⟨c.1, by have := c.2.1; omega, c.2.2⟩
  . cases h
theorem qU {op : Operator} (h : uJ op = true) : op = .Add := by cases op <;> first | rfl | cases h
theorem xQ : cI X (binaryOp .Add) (fun x y H Q => ∃ a b ys, x = .ref a /\ y = .ref b /\ ck X.K H a [] /\ ck X.K H b ys /\ Q (.ref b) H) := by
  intro pins s σ H x y v u Q I rx ry h
  obtain ⟨a, b, ys, rfl, rfl, ha, hb, q⟩ := h
  cases rx
  cases ry
  obtain ⟨its, r1, p1, _⟩ := I.tuple ha
  obtain ⟨its2, r2, p2, _⟩ := I.tuple hb
  cases r1
  obtain ⟨⟨cls, dd, data, sl⟩, ho, hc, n, hd⟩ := id p1
  obtain ⟨⟨cls2, dd2, data2, sl2⟩, ho2, hc2, n2, hd2⟩ := id p2
  simp only at hc hd hc2 hd2
  subst hc hd hc2 hd2
  exact concat_meets ⟨_, ho, rfl⟩ ⟨_, ho2, rfl⟩ noFill_tuple_add seq_tuple_add PySem.F.slot_tuple_add PySem.F.entry_tuple_add (PySem.F.args_tuple_add_2 _ _)
    (tuple_addW0 a b _ its2.toArray n n2 dd dd2 sl sl2 (by rfl)) ⟨ho, ho2, ⟨.ref b, H, I, rfl, q⟩⟩
theorem A8 : cI X (binaryOp .Add) (fun x y H Q => ∃ l b xs zs, x = .ref l /\ y = .ref b /\ cm X.K H l xs /\ cm X.K H b zs /\ xs.length + zs.length <= sizeLine /\ ∀ p, H p = none -> Q (.ref p) (aV H p (.lst (xs ++ zs)))) := by
  intro pins s σ H x y v u Q I rx ry h
  obtain ⟨l, b, xs, zs, rfl, rfl, hH, hB, hz, q⟩ := h
  cases rx
  cases ry
  obtain ⟨its, r, ⟨⟨cls, dd, data, sl⟩, n, ho, hc, _, hd⟩, z⟩ := I.list hH
  obtain ⟨its2, r2, ⟨⟨cls2, dd2, data2, sl2⟩, n2, ho2, hc2, _, hd2⟩, z2⟩ := I.list hB
  simp only at hc hd hc2 hd2
  subst hc hd hc2 hd2
  have l1 := r.length
  have l2 := r2.length
  refine concat_meets ⟨_, ho, rfl⟩ ⟨_, ho2, rfl⟩ noFill_list_add seq_list_add PySem.F.slot_list_add PySem.F.entry_list_add (PySem.F.args_list_add_2 _ _) (list_addW l b its.toArray its2.toArray n n2 dd dd2 sl sl2 (by rw [List.size_toArray, List.size_toArray]; omega)) ⟨ho, ho2, ?_⟩
  have ea : its.toArray ++ its2.toArray = (its ++ its2).toArray := by simp
  rw [ea]
  exact ⟨.ref _, _, I.lnew (t' := s.toks) (r.append r2) (by rw [List.length_append]; omega), rfl, q _ I.fresh⟩
theorem Fz {op : Operator} {x y z : D} {k j l : Nat} {o : List Prop} (h : rL op x y k j = .ok (z, l) o) (hp : aE o) : Ad X (binaryOp op) x y z k j l := by
  unfold rL at h
  split at h
  . exact B5 h hp
  . rename_i a b
    split at h
    . rename_i c
      cases qU c
      cases h
      cases a with
      | nil =>
        refine ⟨_, xQ, fun ow H0 H2 v u Q o s rx ry q => ?_⟩
        rw [ah] at rx ry
        obtain ⟨pa, va, rfl, ha, ra⟩ := rx
        obtain ⟨pb, vb, rfl, hb, rb⟩ := ry
        have rb' := rb.imp (Kp.joinR o k j)
        cases ra
        refine ⟨pa, pb, vb, rfl, rfl, ha, hb, q _ _ (aD.refl _) (ah.kn ?_)⟩
        rw [ah]
        exact ⟨pb, vb, rfl, hb, rb'⟩
      | cons a0 a =>
        refine ⟨_, A7, fun ow H0 H2 v u Q o s rx ry q => ?_⟩
        rw [ah] at rx ry
        obtain ⟨pa, va, rfl, ha, ra⟩ := rx
        obtain ⟨pb, vb, rfl, hb, rb⟩ := ry
        have ra' := ra.imp (Kp.joinL o k j)
        have rb' := rb.imp (Kp.joinR o k j)
        have la := ra.length
        have lb := rb.length
        refine ⟨pa, pb, va, vb, rfl, rfl, ha, hb, ?_, ?_, fun e => ?_, fun e p hp' => ?_⟩
        . intro e; subst e; cases la
        . rw [<- la, <- lb]; exact Nat.le_trans hp.1 gE
        . subst e
          have : b = [] := List.length_eq_zero_iff.mp lb
          subst this
          refine q _ _ (aD.refl _) (ah.kn ?_)
          rw [ah]
          exact ⟨pa, va, rfl, ha, by rw [List.append_nil]; exact ra'⟩
        . have sm := cy (o := HO.tup (va ++ vb)) hp'
          refine q _ _ sm (ah.kn ?_)
          rw [ah]
          exact ⟨p, _, rfl, ck.of aO, (ra'.same sm).append (rb'.same sm)⟩
    . cases h
  . rename_i a b
    split at h
    . rename_i c; cases h
      cases qU c
      refine ⟨_, A8, fun ow H0 H2 v u Q o s rx ry q => ?_⟩
      rw [ah] at rx ry
      obtain ⟨pa, va, b1, rfl, ha, qa, ra⟩ := rx
      obtain ⟨pb, vb, b2, rfl, hb, qb, rb⟩ := ry
      have la := ra.length
      have lb := rb.length
      have fl := hp.1
      rw [jo, Bool.and_eq_true] at fl
      refine ⟨pa, pb, va, vb, rfl, rfl, ha.sq, hb.sq, by rw [<- la, <- lb]; exact Nat.le_trans hp.2.1 gE, fun p hp' => ?_⟩
      have sm := cy (o := HO.lst (va ++ vb)) hp'
      refine q _ _ sm ?_
      rw [ah]
      exact ⟨p, _, true, rfl, aO, ⟨rfl, s.free hp'⟩, ((ra.flat _ fl.1).same sm).append ((rb.flat _ fl.2).same sm)⟩
    . cases h
  . cases h
theorem x5 {pins : List (Addr × Obj)} {σ : L2.St} {H : Hp} {s : Shared} {P : bg} {l : List D} {v : V} (h : ah X.K H P (.lst l) v) : ∃ a vs, v = .ref a /\ cm X.K H a vs /\ ag X.K H P l vs := by
  rw [ah] at h
  obtain ⟨a, vs, b, rfl, h, _, q⟩ := h
  exact ⟨a, vs, rfl, h.sq, q⟩
theorem oX : ∀ {l : List D} {ns : List Int}, dD l = some ns -> l = ns.map D.int
  | [], ns, h => by rw [dD] at h; cases h; rfl
  | .int i :: l, ns, h => by
    rw [dD] at h
    cases e : dD l with
    | none => rw [e] at h; cases h
    | some m => rw [e] at h; cases h; rw [oX e]; rfl
  | .non :: l, ns, h => by rw [dD] at h <;> first | cases h | (intro z; intro e; cases e)
  | .bl _ :: l, ns, h => by rw [dD] at h <;> first | cases h | (intro z; intro e; cases e)
  | .str _ :: l, ns, h => by rw [dD] at h <;> first | cases h | (intro z; intro e; cases e)
  | .dct _ _ :: l, ns, h => by rw [dD] at h <;> first | cases h | (intro z; intro e; cases e)
  | .typ _ :: l, ns, h => by cases h
  | .sn _ :: l, ns, h => by cases h
  | .obj _ _ _ :: l, ns, h => by cases h
  | .cls _ :: l, ns, h => by cases h
  | .tup _ :: l, ns, h => by rw [dD] at h <;> first | cases h | (intro z; intro e; cases e)
  | .lst _ :: l, ns, h => by rw [dD] at h <;> first | cases h | (intro z; intro e; cases e)
theorem nE : ∀ {l : List D} {ns : List Bool}, c6 l = some ns -> l = ns.map D.bl
  | [], ns, h => by rw [c6] at h; cases h; rfl
  | .bl i :: l, ns, h => by
    rw [c6] at h
    cases e : c6 l with
    | none => rw [e] at h; cases h
    | some m => rw [e] at h; cases h; rw [nE e]; rfl
  | .non :: l, ns, h => by rw [c6] at h <;> first | cases h | (intro z; intro e; cases e)
  | .int _ :: l, ns, h => by rw [c6] at h <;> first | cases h | (intro z; intro e; cases e)
  | .str _ :: l, ns, h => by rw [c6] at h <;> first | cases h | (intro z; intro e; cases e)
  | .dct _ _ :: l, ns, h => by rw [c6] at h <;> first | cases h | (intro z; intro e; cases e)
  | .typ _ :: l, ns, h => by cases h
  | .sn _ :: l, ns, h => by cases h
  | .obj _ _ _ :: l, ns, h => by cases h
  | .cls _ :: l, ns, h => by cases h
  | .tup _ :: l, ns, h => by rw [c6] at h <;> first | cases h | (intro z; intro e; cases e)
  | .lst _ :: l, ns, h => by rw [c6] at h <;> first | cases h | (intro z; intro e; cases e)
def iC (X : Cx) (op : CmpOp) (x y : D) (r : Bool) : Prop := ∀ (P P' : bg), cI X (compareOp op) (fun v u H Q => ah X.K H P x v /\ ah X.K H P' y u /\ Q (.bl r) H)
theorem ke {x : D} : ∀ {l : List D}, ((cV l).any fun y => PyData.eqv y x.py) = l.any fun y => cA y x
  | [] => by rw [cV]; rfl
  | y :: l => by rw [cV, List.any_cons, List.any_cons, ke]; rfl
theorem lh {op : CmpOp} {a b : Int} {g : Int -> Int -> Bool} (h : cI X (compareOp op) (jm fun i j => .bl (g i j))) : iC X op (.int a) (.int b) (g a b) := fun P P' pins s σ H v u xv yu Q I rx ry ⟨h1, h2, q⟩ => by
  rw [ah] at h1 h2; subst h1 h2
  exact h pins s σ H _ _ xv yu Q I rx ry ⟨a, b, rfl, rfl, q⟩
theorem Bm {l : List D} (h : SeqAt.shaped (D.tup l).py = true) : PyData.canLayAll0 (cV l) = true := by
  have := SeqAt.canLay_of_shaped h
  rw [D.py] at this
  simpa [PyData.canLay0] using this
theorem tG {x : D} {l : List D} {r : Bool} {o : List Prop} (hu : X.A.units + 70 < cLine) (h : uB x l = .ok r o) (hp : aE o) : iC X .In x (.tup l) r /\ iC X .In x (.lst l) r /\ iC X .NotIn x (.tup l) (!r) /\ iC X .NotIn x (.lst l) (!r) := by
  unfold uB at h
  cases h
  . have c := hp.1
    unfold iu at c
    rw [Bool.and_eq_true] at c
    have c1 := Bm c.1
    have c2 := SeqAt.canLay_of_shaped c.2
    have dx := SeqAt.depth_of_shaped c.2
    have hm : min (PyData.depthAll (cV l)) x.py.depth <= 64 := Nat.le_trans (Nat.min_le_right _ _) dx
    have ct : (D.tup l).py.canLay0 = true := SeqAt.canLay_of_shaped c.1
    have cl : (D.lst l).py.canLay0 = true := by rw [D.py]; simpa [PyData.canLay0] using c1
    have et : (D.tup l).py = .tuple (cV l) := by rw [D.py]
    have el : (D.lst l).py = .list (cV l) := by rw [D.py]
    refine ⟨?_, ?_, ?_, ?_⟩ <;> intro P P' pins s σ H v u xv yu Q I rx ry ⟨h1, h2, q⟩ <;> obtain ⟨as, r1⟩ := da I c2 h1 rx
    . obtain ⟨bs, r2⟩ := da I ct h2 ry
      rw [et] at r2
      exact SeqAt.in_tuple_reads r2 r1 c1 c2 (by omega) ⟨.bl _, H, I, rfl, by rw [ke]; exact q⟩
    . obtain ⟨bs, r2⟩ := da I cl h2 ry
      rw [el] at r2
      exact SeqAt.in_list_reads r2 r1 c1 c2 (by omega) ⟨.bl _, H, I, rfl, by rw [ke]; exact q⟩
    . obtain ⟨bs, r2⟩ := da I ct h2 ry
      rw [et] at r2
      exact SeqAt.notIn_tuple_reads r2 r1 c1 c2 (by omega) ⟨.bl _, H, I, rfl, by rw [ke]; exact q⟩
    . obtain ⟨bs, r2⟩ := da I cl h2 ry
      rw [el] at r2
      exact SeqAt.notIn_list_reads r2 r1 c1 c2 (by omega) ⟨.bl _, H, I, rfl, by rw [ke]; exact q⟩
theorem DI {r : Rs Bool} {b : Bool} {o : List Prop} (h : r.nt = .ok b o) : r = .ok (!b) o := by
  cases r with
  | st => cases h
  | ok c l => cases h; simp
theorem tt {P : bg} {H : Hp} {x : D} {v : V} (h : ah X.K H P x v) : decide (v = .non) = x.isNon := by
  cases x with
  | non => rw [ah] at h; subst h; rfl
  | bl _ => rw [ah] at h; subst h; rfl
  | int _ => rw [ah] at h; subst h; rfl
  | str _ => rw [ah] at h; subst h; rfl
  | dct _ _ => rw [ah] at h; obtain ⟨_, _, a, _, rfl, _⟩ := h; rfl
  | typ _ => rw [ah] at h; subst h; rfl
  | sn _ => rw [ah] at h; obtain ⟨a, _, rfl, _⟩ := h; rfl
  | obj _ _ _ => rw [ah] at h; obtain ⟨_, _, a, _, _, _, rfl, _⟩ := h; rfl
  | cls _ => rw [ah] at h; obtain ⟨_, _, rfl, _⟩ := h; rfl
  | tup _ => rw [ah] at h; obtain ⟨a, _, rfl, _⟩ := h; rfl
  | lst _ => rw [ah] at h; obtain ⟨a, _, _, rfl, _⟩ := h; rfl
theorem eQ {d : D} {l : List D} (h : eh d = some l) : d = .tup l \/ d = .lst l := by
  unfold eh at h
  split at h
  . cases h; exact .inl rfl
  . cases h; exact .inr rfl
  . cases h
theorem B2 {op : CmpOp} {a b : Int} {r : Bool} (h : fF op a b = some r) : iC X op (.int a) (.int b) r := by
  unfold fF at h
  split at h
  . cases h; exact lh GI
  . cases h; exact lh GJ
  . cases h; exact lh GK
  . cases h; exact lh GL
  . cases h
theorem Dz {op : CmpOp} {x y : D} {r : Bool} (hu : X.A.units + 70 < cLine) (h : ut op x y = some r) : iC X op x y r := by
  unfold ut at h
  split at h
  . exact B2 h
  . cases h
theorem mh {P : bg} {H : Hp} {d : D} {k : bO} {v : V} (e : mi d = some k) (h : ah X.K H P d v) : v = kV k := by
  cases d <;> first | (cases e; done) | (rw [ah] at h; subst h; injection e with e; subst e; rfl)
theorem sM {ks : List bO} {k : bO} : ∀ {vs : List V}, ks.length = vs.length -> ((ks.zip vs).any fun p => decide (p.1 = k)) = eT ks k := by
  induction ks with
  | nil => intro vs _; rfl
  | cons j ks ih =>
    intro vs h
    cases vs with
    | nil => cases h
    | cons v vs =>
      show (decide (j = k) || (ks.zip vs).any _) = (decide (j = k) || eT ks k)
      rw [ih (by simpa using h)]
theorem zN {x y : D} {r : Bool} {o : List Prop} (hu : X.A.units + 70 < cLine) (h : zO x y = .ok r o) (hp : aE o) : iC X .In x y r /\ iC X .NotIn x y (!r) := by
  unfold zO at h
  split at h
  . have m := tG hu h hp; exact ⟨m.1, m.2.2.1⟩
  . have m := tG hu h hp; exact ⟨m.2.1, m.2.2.2⟩
  . rename_i ks ds
    split at h
    . rename_i k e
      cases h
      have key : ∀ {P P' : bg} {pins : List (Addr × Obj)} {s : Shared} {σ : L2.St} {H : Hp} {v u : V} {xv yu : Value}, ak X pins σ H s -> aQ v xv -> aQ u yu -> ah X.K H P x v -> ah X.K H P' (.dct ks ds) u -> ∃ a vs, yu = .ref a /\ (fA X.prog X.w).is k xv = true /\ (a == sysModules) = false /\ s.heap.DictOf (fA X.prog X.w) a vs /\ (valueAt vs k).isSome = eT ks k := fun {P P' pins s σ H v u xv yu} I rx ry h1 h2 => by
        have hk := mh e h1
        subst hk
        rw [ah] at h2
        obtain ⟨_, e0, a, vs, rfl, ha, _, rl⟩ := h2
        obtain ⟨z, hd, ws, rel, dd⟩ := (show bV X.prog X.w H s.heap a (.dK (ks.zip vs)) from I.hok a _ ha)
        refine ⟨a, ws, ry, uI rx, hd, dd, ?_⟩
        rw [<- (rel.val k).isSome_eq, <- pW, sM (e0.trans rl.length)]
      refine ⟨?_, ?_⟩ <;> intro P P' pins s σ H v u xv yu Q I rx ry ⟨h1, h2, q⟩ <;> obtain ⟨a, vs, rfl, kk, hd, dd, ev⟩ := key I rx ry h1 h2
      . refine wpAny_in_of kk hd dd.mapOf ?_
        rw [ev]
        exact ⟨.bl _, H, I.tok _, rfl, q⟩
      . refine wpAny_notIn_of kk hd dd.mapOf ?_
        rw [ev]
        exact ⟨.bl _, H, I.tok _, rfl, q⟩
    . cases h
  . cases h
theorem iO {op : CmpOp} {x y : D} {r : Bool} {o : List Prop} (hu : X.A.units + 70 < cLine) (h : gM op x y = .ok r o) (hp : aE o) : iC X op x y r := by
  unfold gM at h
  split at h
  . cases h
    have c := hp.1
    unfold iu at c
    rw [Bool.and_eq_true] at c
    intro P P' pins s σ H v u xv yu Q I rx ry ⟨h1, h2, q⟩
    obtain ⟨as, r1⟩ := da I (SeqAt.canLay_of_shaped c.1) h1 rx
    obtain ⟨bs, r2⟩ := da I (SeqAt.canLay_of_shaped c.2) h2 ry
    exact eq_dataH r1 r2 c.1 c.2 (by omega) ⟨.bl _, H, I, rfl, q⟩
  . cases h
    have c := hp.1
    unfold iu at c
    rw [Bool.and_eq_true] at c
    intro P P' pins s σ H v u xv yu Q I rx ry ⟨h1, h2, q⟩
    obtain ⟨as, r1⟩ := da I (SeqAt.canLay_of_shaped c.1) h1 rx
    obtain ⟨bs, r2⟩ := da I (SeqAt.canLay_of_shaped c.2) h2 ry
    exact ne_dataH r1 r2 c.1 c.2 (by omega) ⟨.bl _, H, I, rfl, q⟩
  . exact (zN hu h hp).1
  . have := (zN hu (DI h) hp).2; rw [Bool.not_not] at this; exact this
  . split at h
    . cases h
      intro P P' pins s σ H v u xv yu Q I rx ry ⟨h1, h2, q⟩
      rw [ah] at h2
      subst h2
      exact DC pins s σ H v _ xv yu Q I rx ry ⟨rfl, by rw [tt h1]; exact q⟩
    . cases h
  . split at h
    . cases h
      intro P P' pins s σ H v u xv yu Q I rx ry ⟨h1, h2, q⟩
      rw [ah] at h2
      subst h2
      refine A0 pins s σ H v _ xv yu Q I rx ry ⟨rfl, ?_⟩
      rw [tt h1]
      exact q
    . cases h
  . cases e : ut op x y with
    | none => rw [e] at h; cases h
    | some b => rw [e] at h; cases h; exact Dz hu e
end Sp
set_option Elab.async false
set_option linter.all false
set_option maxRecDepth 100000
namespace Sp
open PySem PySem.Spec PyProof.Rows L2
variable {X : Cx}
theorem tM (K : W.Frag) {t : Value} : W.kitOne K t t = some true := by unfold W.kitOne; rw [if_pos (beq_self_eq_true t)]
def D.ty : D -> String
  | .non => "NoneType"
  | .bl _ => "bool"
  | .int _ => "int"
  | .str _ => "str"
  | .dct _ _ => "dict"
  | .tup _ => "tuple"
  | .lst _ => "list"
  | .typ _ => "type"
  | .sn _ => "set"
  | .obj _ _ _ => "object"
  | .cls _ => "type"
def D.plain : D -> Bool
  | .typ _ => false
  | .sn _ => false
  | .obj _ _ _ => false
  | .cls _ => false
  | _ => true
theorem D2 {x : D} {c : String} {b : Bool} (hpl : x.plain = true) (e : ∀ K, W.kitOne K (.type x.ty) (.type c) = some b) {pins : List (Addr × Obj)} {σ : L2.St} {H : Hp} {s : Shared} {v : V} {u : Value} {P : bg} {Q : Value -> Shared -> Prop} {E : Value -> Shared -> Prop}
    (I : ak X pins σ H s) (h : ah X.K H P x v) (r : aQ v u) (q : ∀ tk, Q (.bool b) { s with toks := tk }) : wpAny (model X.prog X.w) X.A (call (.builtin "isinstance") [u, .type c]) Q E s := by
  have e := e X.K
  cases x with
  | non => rw [ah] at h; subst h; cases (show u = Value.none from r); exact W.kia_one W.kitx_none I.kIn True.intro e (fun z => nomatch z) q
  | bl y => rw [ah] at h; subst h; cases (show u = Value.bool y from r); exact W.kia_one W.kitx_bool I.kIn True.intro e (fun z => nomatch z) q
  | int i => rw [ah] at h; subst h; obtain ⟨t, z⟩ := (show ∃ t, u = Value.int i t from r); cases z; exact W.kia_one W.kitx_int I.kIn True.intro e (fun z => nomatch z) q
  | str y => rw [ah] at h; subst h; obtain ⟨t, z⟩ := (show ∃ t, u = Value.str y t from r); cases z; exact W.kia_one W.kitx_str I.kIn True.intro e (fun z => nomatch z) q
  | dct ks ds =>
    rw [ah] at h
    obtain ⟨_, _, a, vs, rfl, ea, _⟩ := h
    cases (show u = Value.ref a from r)
    obtain ⟨_, _, vs, _, p⟩ := (show bV X.prog X.w H s.heap a (.dK _) from I.hok a _ ea)
    obtain ⟨o, es, ep, h1, h2, _⟩ := p
    exact W.kia_one W.kitx_dict I.kIn ⟨o, h1, h2.1⟩ e (fun z => nomatch z) q
  | typ _ => cases hpl
  | sn _ => cases hpl
  | obj _ _ _ => cases hpl
  | cls _ => cases hpl
  | tup l =>
    rw [ah] at h
    obtain ⟨a, vs, rfl, ea, _⟩ := h
    cases (show u = Value.ref a from r)
    obtain ⟨_, _, ⟨o, h1, h2, _⟩, _⟩ := I.tuple ea
    exact W.kia_one W.kitx_tuple I.kIn ⟨o, h1, h2⟩ e (fun z => nomatch z) q
  | lst l =>
    obtain ⟨a, vs, rfl, ea, _⟩ := x5 (pins := pins) (σ := σ) (s := s) h
    cases (show u = Value.ref a from r)
    obtain ⟨_, _, ⟨o, n, h1, h2, _⟩, _⟩ := I.list ea
    exact W.kia_one W.kitx_list I.kIn ⟨o, h1, h2⟩ e (fun z => nomatch z) q
theorem kt (K : W.Frag) (a b : String) (r : Bool) (h : (a == b) = false) (h2 : W.kitCls K (.type a) (.type b) = some r) : W.kitOne K (.type a) (.type b) = some r := by
  unfold W.kitOne
  rw [if_neg (by
    intro z
    have : a = b := by simpa using z
    subst this
    simp at h)]
  exact h2
theorem Bp : ∀ a ∈ ["NoneType", "bool", "int", "str", "dict", "tuple", "list"], ∀ T ∈ kF, (a == T) = false -> ∀ K, W.kitCls K (.type a) (.type T) = some (decide (a = "bool" /\ T = "int")) := by
  intro a ha T hT
  simp only [List.mem_cons, List.not_mem_nil, or_false, kF] at ha hT
  rcases ha with rfl | rfl | rfl | rfl | rfl | rfl | rfl <;> rcases hT with rfl | rfl | rfl | rfl | rfl | rfl <;> intro h K <;> first | (exact absurd h (by decide)) | kernel_rfl
theorem D3 {x : D} {T : String} {b : Bool} (h : D4 x T = some b) (hT : T ∈ kF) : x.plain = true /\ ∀ K, W.kitOne K (.type x.ty) (.type T) = some b := by
  have key : ∀ (a : String), a ∈ ["NoneType", "bool", "int", "str", "dict", "tuple", "list"] -> ∀ K, W.kitOne K (.type a) (.type T) = some (decide (a = T) || decide (a = "bool" /\ T = "int")) := fun a ha K => by
    by_cases e : a = T
    . subst e; rw [tM]; simp
    . have e' : (a == T) = false := by simpa using e
      rw [kt K a T _ e' (Bp a ha T hT e' K)]; simp [e]
  unfold D4 at h
  cases hx : x.ty0 with
  | none => rw [hx] at h; cases h
  | some a =>
    rw [hx] at h
    cases h
    have hp : x.plain = true /\ x.ty = a /\ a ∈ ["NoneType", "bool", "int", "str", "dict", "tuple", "list"] := by
      cases x <;> cases hx <;> exact ⟨rfl, rfl, by decide⟩
    refine ⟨hp.1, fun K => ?_⟩
    rw [hp.2.1]
    exact key a hp.2.2 K
def gi (X : Cx) (f : Value) (ds : List D) (z : D) (l : Nat) : Prop :=
  ∃ r : List V -> Hp -> VK -> Prop, dS X f r /\ ∀ ow H0 H2 vs (P : bg) (Q : VK), eG ow H0 -> aD H0 H2 -> ag X.K H2 P ds vs -> (∀ w H', aD H2 H' -> ah X.K H' (Kp ow H0 l) z w -> Q w H') -> r vs H2 Q
theorem ag.only {K : W.Frag} {P : bg} {H : Hp} {d : D} {vs : List V} (h : ag K H P [d] vs) : ∃ v, vs = [v] /\ ah K H P d v := by
  rw [ag] at h
  obtain ⟨v, r, rfl, h1, h2⟩ := h
  rw [ag] at h2; subst h2
  exact ⟨v, rfl, h1⟩
theorem gW {P : bg} {H : Hp} {l : List D} {v : V} (h : ah X.K H P (.lst l) v) : ∃ a vs, v = .ref a /\ cm X.K H a vs /\ ag X.K H P l vs := by
  rw [ah] at h
  obtain ⟨a, vs, b, rfl, h, _, q⟩ := h
  exact ⟨a, vs, rfl, h.sq, q⟩
theorem eI {P : bg} {H : Hp} {l : List D} {v : V} (h : ah X.K H P (.tup l) v) : ∃ a vs, v = .ref a /\ ck X.K H a vs /\ ag X.K H P l vs := by
  rw [ah] at h; exact h
theorem v5 {l : List D} : gi X (.builtin "len") [.tup l] (.int l.length) 0 /\ gi X (.builtin "len") [.lst l] (.int l.length) 0 := by
  constructor
  . refine ⟨_, j9, fun ow H0 H2 vs P Q o s rx q => ?_⟩
    obtain ⟨v, rfl, ry⟩ := rx.only
    obtain ⟨a, ws, rfl, hs, rl⟩ := eI ry
    exact ⟨a, ws, rfl, .inr hs, by rw [<- rl.length]; exact q _ _ (aD.refl _) (by rw [ah])⟩
  . refine ⟨_, j9, fun ow H0 H2 vs P Q o s rx q => ?_⟩
    obtain ⟨v, rfl, ry⟩ := rx.only
    obtain ⟨a, ws, rfl, hs, rl⟩ := gW ry
    exact ⟨a, ws, rfl, .inl hs, by rw [<- rl.length]; exact q _ _ (aD.refl _) (by rw [ah])⟩
theorem pZ {l : List D} (f : ao l = true) : gi X (.type "tuple") [.lst l] (.tup l) 0 /\ gi X (.type "tuple") [.tup l] (.tup l) 0 := by
  constructor
  . refine ⟨_, jp, fun ow H0 H2 vs P Q o s rx q => ?_⟩
    obtain ⟨v, rfl, ry⟩ := rx.only
    obtain ⟨a, ws, rfl, hs, rl⟩ := gW ry
    refine ⟨a, ws, rfl, .inl ⟨hs, fun p hp => ?_⟩⟩
    have sm := cy (o := HO.tup ws) hp
    refine q _ _ sm ?_
    rw [ah]
    exact ⟨p, ws, rfl, ck.of aO, (rl.flat _ f).same sm⟩
  . refine ⟨_, jp, fun ow H0 H2 vs P Q o s rx q => ?_⟩
    obtain ⟨v, rfl, ry⟩ := rx.only
    obtain ⟨a, ws, rfl, hs, rl⟩ := eI ry
    refine ⟨a, ws, rfl, .inr ⟨hs, q _ _ (aD.refl _) ?_⟩⟩
    rw [ah]
    exact ⟨a, ws, rfl, hs, rl.flat _ f⟩
theorem tL {l : List D} (f : ao l = true) : gi X (.type "list") [.lst l] (.lst l) 0 /\ gi X (.type "list") [.tup l] (.lst l) 0 := by
  constructor
  . refine ⟨_, j8, fun ow H0 H2 vs P Q o s rx q => ?_⟩
    obtain ⟨v, rfl, ry⟩ := rx.only
    obtain ⟨a, ws, rfl, hs, rl⟩ := gW ry
    refine ⟨a, ws, rfl, .inl hs, fun p hp => ?_⟩
    have sm := cy (o := HO.lst ws) hp
    refine q _ _ sm ?_
    rw [ah]
    exact ⟨p, ws, true, rfl, aO, ⟨rfl, s.free hp⟩, (rl.flat _ f).same sm⟩
  . refine ⟨_, j8, fun ow H0 H2 vs P Q o s rx q => ?_⟩
    obtain ⟨v, rfl, ry⟩ := rx.only
    obtain ⟨a, ws, rfl, hs, rl⟩ := eI ry
    refine ⟨a, ws, rfl, .inr hs, fun p hp => ?_⟩
    have sm := cy (o := HO.lst ws) hp
    refine q _ _ sm ?_
    rw [ah]
    exact ⟨p, ws, true, rfl, aO, ⟨rfl, s.free hp⟩, (rl.flat _ f).same sm⟩
theorem FG {i : Int} : gi X (.builtin "abs") [.int i] (.int (if i < 0 then -i else i)) 0 := by
  refine ⟨_, yE, fun ow H0 H2 vs P Q o s rx q => ?_⟩
  obtain ⟨v, rfl, ry⟩ := rx.only
  rw [ah] at ry; subst ry
  exact ⟨i, rfl, q _ _ (aD.refl _) (by rw [ah])⟩
theorem ag.mapBl {K : W.Frag} {P : bg} {H : Hp} : ∀ {ns : List Bool} {vs : List V}, ag K H P (ns.map D.bl) vs -> vs = ns.map V.bl
  | [], vs, h => by rw [List.map_nil, ag] at h; exact h
  | n :: ns, vs, h => by
    rw [List.map_cons, ag] at h
    obtain ⟨v, r, rfl, h1, h2⟩ := h
    rw [ah] at h1
    rw [h1, ag.mapBl h2]; rfl
theorem sN : ∀ {bs : List Bool} {us : List Value}, aJ (bs.map V.bl) us -> us = bs.map Value.bool
  | [], us, h => by cases h; rfl
  | b :: bs, us, h => by
    cases h with
    | cons h1 h2 => rw [show _ = Value.bool b from h1, sN h2]; rfl
theorem pV : ∀ {ns : List Int} {us : List Value}, aJ (ns.map V.int) us -> (∀ v, v ∈ us -> ∃ a t, v = Value.int a t) /\ numsOf us = ns
  | [], us, h => by cases h; exact ⟨fun _ h => (by cases h), rfl⟩
  | n :: ns, us, h => by
    cases h with
    | cons h1 h2 =>
      obtain ⟨t, rfl⟩ := (show ∃ t, _ = Value.int n t from h1)
      obtain ⟨i1, i2⟩ := pV h2
      refine ⟨fun v hv => ?_, by simp only [numsOf]; rw [i2]⟩
      rcases List.mem_cons.mp hv with rfl | hv
      . exact ⟨_, _, rfl⟩
      . exact i1 v hv
theorem wI (hc : X.calm = true) : dS X (.builtin "sum") (fun xs H Q => ∃ (p : Addr) (ns : List Int), xs = [.ref p] /\ cm X.K H p (ns.map V.int) /\ Q (.int ns.sum) H) := by
  intro pins s σ H xs us Q I r h
  obtain ⟨p, ns, rfl, hq, q⟩ := h
  obtain ⟨u, rfl, rx⟩ := d8 r
  cases rx
  obtain ⟨its, rv, pl, hz⟩ := I.list hq
  obtain ⟨hall, hnum⟩ := pV rv
  obtain ⟨xs, e⟩ := AllInts.items (vs := its.toArray) (fun v hv => hall v (by simpa using hv))
  have hl := pl.isList
  rw [e] at hl
  refine sum_intListG (I.ok.hd hc) hl fun h' tk t' hk => ?_
  refine ⟨.int ns.sum, H, I.kept hk, ⟨t', ?_⟩, q⟩
  congr 1
  rw [preSum_eq, List.take_of_length_le (by simp), <- nums_intItems, <- e]
  simp [hnum]
theorem wK (hc : X.calm = true) : dS X (.builtin "all") (fun xs H Q => ∃ (p : Addr) (bs : List Bool), xs = [.ref p] /\ cm X.K H p (bs.map V.bl) /\ Q (.bl (bs.all id)) H) := by
  intro pins s σ H xs us Q I r h
  obtain ⟨p, bs, rfl, hq, q⟩ := h
  obtain ⟨u, rfl, rx⟩ := d8 r
  cases rx
  obtain ⟨its, rv, pl, hz⟩ := I.list hq
  have ei := sN rv
  subst ei
  have hl := pl.isList
  have hlt : p < s.heap.objs.size := by obtain ⟨_, e, _⟩ := hl; exact Heap.lt_size e
  refine call_all_walk (wpAny_pyIter_list hl ?_)
  refine ⟨_, _, _, _, _, _, fun i => bs.getD i true, rfl, Walks.list (A := X.A.in1) (by exact I.ok.hd hc) _ p (Nat.ne_of_lt hlt) (bs.map Value.bool).toArray, ⟨⟨_, Heap.get?_push_size _ rfl, rfl, rfl⟩, hl.push _⟩, ?_, fun h' tk hk => ?_⟩
  . intro i v s' Q' E' hP hQ
    have hP : ((bs.map Value.bool).toArray)[i]? = some v := hP
    simp only [List.getElem?_toArray, List.getElem?_map] at hP
    cases e : bs[i]? with
    | none => rw [e] at hP; cases hP
    | some b =>
      rw [e] at hP; cases hP
      refine wpAny_truthy_bool ?_
      have : bs.getD i true = b := by rw [List.getD_eq_getElem?_getD, e]; rfl
      rw [<- this]; exact hQ
  . have : ((List.range (bs.map Value.bool).toArray.size).all fun i => bs.getD i true) = bs.all id := by
      simp only [List.size_toArray, List.length_map]
      rw [Bool.eq_iff_iff, List.all_eq_true, List.all_eq_true]
      constructor
      . intro h x hx
        obtain ⟨i, hi, rfl⟩ := List.mem_iff_getElem.mp hx
        have := h i (List.mem_range.mpr hi)
        rw [List.getD_eq_getElem?_getD, List.getElem?_eq_getElem hi] at this
        exact this
      . intro h i hi
        have hi := List.mem_range.mp hi
        rw [List.getD_eq_getElem?_getD, List.getElem?_eq_getElem hi]
        exact h _ (List.getElem_mem hi)
    rw [this]
    refine ⟨.bl _, H, I.kept (fun b o e => hk b o (fun hm => ?_) (Heap.get?_push_of_some _ e)), rfl, q⟩
    have hb : b = s.heap.objs.size := by simpa using hm
    subst hb
    exact absurd (Heap.lt_size e) (Nat.lt_irrefl _)
theorem wJ : dS X (.builtin "len") (fun xs H Q => ∃ (p : Addr) (S : Int -> Bool) (n : Nat), xs = [.ref p] /\ H p = some (.set S n) /\ Q (.int n) H) := by
  intro pins s σ H xs us Q I r h
  obtain ⟨p, S, n, rfl, hp, q⟩ := h
  obtain ⟨u, rfl, rx⟩ := d8 r
  cases rx
  obtain ⟨o, es, ep, t, h1, h2, h3, _, _, h4, h5, rfl⟩ := (show s.heap.SetOf (intKind X.prog X.w) p S n from I.hok p _ hp)
  exact call_len_set h1 h2 h3 h5 (by unfold scanBound at h4; omega) ⟨.int _, H, I.tok _, ⟨_, rfl⟩, q⟩
def eO (f : Str) (B : List D -> R1) : Prop := f ∈ gO /\ f ≠ "__name__" /\ (f == ("__debug__" : Str)) = false /\ (B [] = .st) /\ ∀ (X : Cx) (ds : List D) (z : D) (l : Nat) (o : List Prop), X.calm = true -> B ds = .ok (z, l) o -> aE o ->
  ((∃ id, bootBuiltins f = some (.builtin id) /\ gi X (.builtin id) ds z l) \/ ∃ T, bootBuiltins f = some (.type T) /\ gi X (.type T) ds z l)
theorem B7 : eO "len" yL := by
  refine ⟨by decide +kernel, by decide +kernel, by decide +kernel, rfl, fun X ds z l o hc h _ => .inl ⟨"len", by decide +kernel, ?_⟩⟩
  unfold yL at h
  split at h
  . cases h
    refine ⟨_, wJ, fun ow H0 H2 vs P Q o s rx q => ?_⟩
    obtain ⟨v, rfl, ry⟩ := rx.only
    rw [ah] at ry
    obtain ⟨a, S, rfl, ha⟩ := ry
    exact ⟨a, S, _, rfl, ha, q _ _ (aD.refl _) (by rw [ah])⟩
  . split at h
    . rename_i m e
      cases h
      rcases eQ e with rfl | rfl
      . exact v5.1
      . exact v5.2
    . cases h
  . cases h
theorem wO : eO "tuple" rN := by
  refine ⟨by decide +kernel, by decide +kernel, by decide +kernel, rfl, fun X ds z l o hc h hp => .inr ⟨"tuple", by decide +kernel, ?_⟩⟩
  unfold rN at h
  split at h
  . split at h
    . rename_i m e
      cases h
      have c := hp.1
      rcases eQ e with rfl | rfl
      . exact (pZ c).2
      . exact (pZ c).1
    . cases h
  . cases h
theorem yK : eO "list" uW := by
  refine ⟨by decide +kernel, by decide +kernel, by decide +kernel, rfl, fun X ds z l o hc h hp => .inr ⟨"list", by decide +kernel, ?_⟩⟩
  unfold uW at h
  split at h
  . split at h
    . rename_i m e
      cases h
      have c := hp.1
      rcases eQ e with rfl | rfl
      . exact (tL c).2
      . exact (tL c).1
    . cases h
  . cases h
theorem Cb : eO "abs" yP := by
  refine ⟨by decide +kernel, by decide +kernel, by decide +kernel, rfl, fun X ds z l o hc h _ => .inl ⟨"abs", by decide +kernel, ?_⟩⟩
  unfold yP at h
  split at h
  . cases h; exact FG
  . cases h
theorem Ca : eO "all" yO := by
  refine ⟨by decide +kernel, by decide +kernel, by decide +kernel, rfl, fun X ds z l o hc h _ => .inl ⟨"all", by decide +kernel, ?_⟩⟩
  unfold yO at h
  split at h
  . split at h
    . rename_i bs e
      cases h
      cases nE e
      refine ⟨_, wK hc, fun ow H0 H2 vs P Q o s rx q => ?_⟩
      obtain ⟨v, rfl, ry⟩ := rx.only
      obtain ⟨a, ws, rfl, hs, rl⟩ := gW ry
      exact ⟨a, bs, rfl, by rw [<- rl.mapBl]; exact hs, q _ _ (aD.refl _) (by rw [ah])⟩
    . cases h
  . cases h
theorem B6 : eO "sum" yJ := by
  refine ⟨by decide +kernel, by decide +kernel, by decide +kernel, rfl, fun X ds z l o hc h _ => .inl ⟨"sum", by decide +kernel, ?_⟩⟩
  unfold yJ at h
  split at h
  . split at h
    . rename_i bs e
      cases h
      cases oX e
      refine ⟨_, wI hc, fun ow H0 H2 vs P Q o s rx q => ?_⟩
      obtain ⟨v, rfl, ry⟩ := rx.only
      obtain ⟨a, ws, rfl, hs, rl⟩ := gW ry
      exact ⟨a, bs, rfl, by rw [<- rl.mapInt]; exact hs, q _ _ (aD.refl _) (by rw [ah])⟩
    . cases h
  . cases h
theorem Bs (b : Bool) : (if b = true then (1 : Int) else 0) = cond b 1 0 := by cases b <;> rfl
theorem B9 : eO "int" yN := by
  refine ⟨by decide +kernel, by decide +kernel, by decide +kernel, rfl, fun X ds z l o hc h hp => .inr ⟨"int", by decide +kernel, ?_⟩⟩
  unfold yN at h
  split at h
  . cases h
    refine ⟨_, o0, fun ow H0 H2 vs P Q o s rx q => ?_⟩
    obtain ⟨v, rfl, ry⟩ := rx.only
    rw [ah] at ry; subst ry
    exact .inl ⟨_, rfl, q _ _ (aD.refl _) (by rw [ah])⟩
  . cases h
    refine ⟨_, o0, fun ow H0 H2 vs P Q o s rx q => ?_⟩
    obtain ⟨v, rfl, ry⟩ := rx.only
    rw [ah] at ry; subst ry
    exact .inr ⟨_, rfl, q _ _ (aD.refl _) (by rw [ah, Bs])⟩
  . cases h
theorem B8 : eO "isinstance" yM := by
  refine ⟨by decide +kernel, by decide +kernel, by decide +kernel, rfl, fun X ds z l o hc h _ => .inl ⟨"isinstance", by decide +kernel, ?_⟩⟩
  unfold yM at h
  split at h
  . rename_i m ns es n
    split at h
    . rename_i hmn
      subst hmn
      cases h
      have cr : dS X (.builtin "isinstance") (fun xs H Q => ∃ a C dx fs, xs = [.ref a, .ref C] /\ H a = some (.ins C dx fs) /\ fZ X.K C /\ pQ X.K C /\ Q (.bl true) H) := by
        intro pins s σ H xs us Q I r hh
        obtain ⟨a, C, dx, fs, rfl, ea, hc, ho, q⟩ := hh
        obtain ⟨u, u2, rfl, ru, ru2⟩ := mB r
        cases (show u2 = Value.ref C from ru2)
        exact oU I ru (.ins ea hc ho.ha ho.hn ho.ht ho.hm) (tM _) fun tk => ⟨.bl true, H, I.tok tk, rfl, q⟩
      refine ⟨_, cr, fun ow H0 H2 vs P Q o s rx q => ?_⟩
      rw [ag] at rx
      obtain ⟨v, r, rfl, r1, r2⟩ := rx
      obtain ⟨w, rfl, r3⟩ := r2.only
      rw [ah] at r1
      rw [ah] at r3
      obtain ⟨_, _, a, C, dx, vs, rfl, h1, h2, h3, _⟩ := r1
      obtain ⟨C', o', rfl, h4, _, _, h5, _⟩ := r3
      rw [h1] at h4; cases h4
      exact ⟨a, C, dx, _, rfl, h3, h2, h5, q _ _ (aD.refl _) (by rw [ah])⟩
    . split at h
      . rename_i hmn
        cases h
        have cr : dS X (.builtin "isinstance") (fun xs H Q => ∃ a C C' dx fs, xs = [.ref a, .ref C'] /\ H a = some (.ins C dx fs) /\ fZ X.K C /\ pQ X.K C /\ W.kitOne X.K (.ref C) (.ref C') = some (p9 m n) /\ Q (.bl (p9 m n)) H) := by
          intro pins s σ H xs us Q I r hh
          obtain ⟨a, C, C', dx, fs, rfl, ea, hc, ho, hk, q⟩ := hh
          obtain ⟨u, u2, rfl, ru, ru2⟩ := mB r
          cases (show u2 = Value.ref C' from ru2)
          exact oU I ru (.ins ea hc ho.ha ho.hn ho.ht ho.hm) hk fun tk => ⟨.bl (p9 m n), H, I.tok tk, rfl, q⟩
        refine ⟨_, cr, fun ow H0 H2 vs P Q o s rx q => ?_⟩
        rw [ag] at rx
        obtain ⟨v, r, rfl, r1, r2⟩ := rx
        obtain ⟨w, rfl, r3⟩ := r2.only
        rw [ah] at r1
        rw [ah] at r3
        obtain ⟨_, _, a, C, dx, vs, rfl, h1, h2, h3, _⟩ := r1
        obtain ⟨C', o', rfl, _, _, _, _, h5⟩ := r3
        obtain ⟨h6, h7⟩ := h5.all m hmn C h1
        exact ⟨a, C, C', dx, _, rfl, h3, h2, h6, h7, q _ _ (aD.refl _) (by rw [ah])⟩
      . cases h
  . rename_i x T
    split at h
    . rename_i hT
      split at h
      . rename_i b hb
        cases h
        obtain ⟨h1, h2⟩ := D3 hb hT
        have cr : dS X (.builtin "isinstance") (fun xs H Q => ∃ v P, xs = [v, .ty T] /\ ah X.K H P x v /\ Q (.bl b) H) := by
          intro pins s σ H xs us Q I r hh
          obtain ⟨v, P, rfl, rp, q⟩ := hh
          obtain ⟨u, u2, rfl, ru, ru2⟩ := mB r
          cases (show u2 = Value.type T from ru2)
          exact D2 h1 h2 I rp ru fun tk => ⟨.bl b, H, I.tok tk, rfl, q⟩
        refine ⟨_, cr, fun ow H0 H2 vs P Q o s rx q => ?_⟩
        rw [ag] at rx
        obtain ⟨v, r, rfl, r1, r2⟩ := rx
        obtain ⟨w, rfl, r3⟩ := r2.only
        rw [ah] at r3; subst r3
        exact ⟨v, P, rfl, r1, q _ _ (aD.refl _) (by rw [ah])⟩
      . cases h
    . cases h
  . cases h
end Sp
set_option Elab.async false
set_option linter.all false
set_option maxRecDepth 100000
namespace Sp
open PySem PySem.Spec PyProof.Rows L2
def jE (K : W.Frag) (F : List D -> Rs D) : Sp := fun vs H Q _ => ∃ ds r l, ag K H (fun _ _ => True) ds vs /\ F ds = .ok r l /\ aE l /\ ∀ v H', aD H H' -> ah K H' (fun a b => b = true /\ H a = none) r v -> Q v H'
def Aj (X : Cx) (g : Str) (F : List D -> Rs D) : Prop := ∃ k f fd ps, cH X.prog X.w X.K X.mg X.base fR k f fd ps (jE X.K F) /\ cf k X.A /\ X.mg g = some (.ref f) /\ W.keepIn X.K (.ref f) = true /\ cN X.K fd ps [] /\ (g == ("__debug__" : Str)) = false
def Hv (K : W.Frag) (n : Str) (F : List D -> Rs D) : Sp := fun vs H Q _ => ∃ x ws C dx ds r l, vs = .ref x :: ws /\ H x = some (.ins C dx []) /\ W.nsIn K mainGlobals n = some (some (.ref C)) /\ fZ K C /\ ag K H (fun _ _ => True) ds ws /\ F ds = .ok r l /\ aE l /\ r.lless = true /\
  ∀ H', (∀ a o, a ≠ x -> H a = some o -> H' a = some o) -> ah K H' (fun _ _ => True) r (.ref x) -> Q .non H'
def FS (X : Cx) (g : Str) (F : List D -> Rs D) : Prop := ∃ k C f fd ps, (∀ ds r l, F ds = .ok r l -> r.lless = true) /\ Mk X.K C f /\ cH X.prog X.w X.K X.mg X.base fR k f fd ps (Hv X.K g F) /\ cf (k + 1) X.A /\ X.mg g = some (.ref C) /\ W.nsIn X.K mainGlobals g = some (some (.ref C)) /\ fZ X.K C /\ cN X.K fd ps [] /\ (g == ("__debug__" : Str)) = false
def NW (X : Cx) (g : Str) (F : List D -> Rs D) : Prop := Aj X g F \/ FS X g F
def FT (X : Cx) (n m : Str) (F : List D -> Rs D) : Prop := ∃ k C f fd ps, W.nsIn X.K mainGlobals n = some (some (.ref C)) /\ fZ X.K C /\ r8 X.K C m f /\ cH X.prog X.w X.K X.mg X.base fR k f fd ps (jE X.K F) /\ cf k X.A /\ cN X.K fd ps []
def jl (f : Str) (B : List D -> Nat -> R1) : Prop := f ∈ gO /\ ∀ (X : Cx) (ρ : aj) (p pos : Pos) (args : List Expr) (ds : List D) (k : Nat) (d : D) (j : Nat) (l : List D) (tg : Expr) (o : List Prop), X.calm = true -> Gl X f -> X.mg f = none -> AD X ρ args ds k ->
  (∀ e ∈ args, ∀ x p, e ≠ .Starred x p) -> args.length = ds.length -> B ds k = .ok (d, j) o -> aE o -> items d = some l -> eD (.Call (.Name f p) args [] pos) tg = true -> IE X ρ tg (.Call (.Name f p) args [] pos) l j
def ve (m : Str) (M : D -> List D -> R1) : Prop := ∀ (X : Cx) (ρ : aj) (a : Expr) (args : List Expr) (ap cp : Pos) (x : D) (k : Nat) (ds : List D) (j : Nat) (z : D) (l : Nat) (o : List Prop), X.calm = true -> X.A.units + 70 < cLine -> ED X ρ a x k -> AD X ρ args ds j ->
  (∀ e ∈ args, ∀ x p, e ≠ .Starred x p) -> args.length = ds.length -> (ap.endLine == cp.line) = true -> iR a = true -> M x ds = .ok (z, l) o -> aE o -> ED X ρ (.Call (.Attribute a m ap) args [] cp) z l
def nQ (m : Str) (M : List D -> List D -> Nat -> Rs (List D)) : Prop := ∀ X : Cx, X.calm = true -> ∃ (id : String) (r : V -> List V -> Hp -> VK -> Prop), Slot "list" m id /\ typeOf (.builtin id) = pure (.type "method_descriptor") /\ Hz X id r /\
  ∀ (ow : Ow) (H0 H : Hp) (l ds l' : List D) (j : Nat) (o : List Prop) (a : Addr) (vs ws : List V), M l ds j = .ok l' o -> aE o -> ds.length < 29 /\ (∀ (P : bg) (Q : VK), (∀ b c, Kp ow H0 0 b c -> P b c) -> eG ow H0 -> aD H0 H -> H a = some (.lst vs) -> ag X.K H P l vs -> ag X.K H (Kp ow H0 j) ds ws ->
    (∀ vs' w, ag X.K H P l' vs' -> Q w (aV H a (.lst vs'))) -> r (.ref a) ws H Q)
def N3 (X : Cx) (ow : Ow) (ρ : aj) (o : Option Int) : TO := fun σ H Q => aS X ow H σ ρ /\ ∀ H', aD H H' -> Q o H'
def OD (X : Cx) (ρ : aj) (e : Option Expr) (o : Option Int) : Prop := ∀ ow, PO X e (N3 X ow ρ o)
def pM (F : D -> Option Int -> Option Int -> R1) : Prop := ∀ (X : Cx) (ρ : aj) (a : Expr) (lo hi : Option Expr) (p2 pos : Pos) (x z : D) (l h : Option Int) (k j : Nat) (o : List Prop), ED X ρ a x k -> OD X ρ lo l -> OD X ρ hi h -> F x l h = .ok (z, j) o -> aE o -> ED X ρ (.Subscript a (.Slice lo hi none p2) pos) z j
structure aU (Φ : Fx) (X : Cx) (sc : Scope) : Prop where
  calm : X.calm = true
  nd : X.N.Nodup
  gl : ∀ x, sc.names.lookup x = some .globalImplicit -> Gl X x
  kc : ∀ x, (sc.names.lookup x = some .cell \/ sc.names.lookup x = some .free) -> X.env.kindOf x = some .cell \/ X.env.kindOf x = some .free
  lc : ∀ x, sc.names.lookup x = some .local -> X.env.scope.names.lookup x = some .local
  cc : ∀ x, sc.names.lookup x = some .cell -> X.env.scope.names.lookup x = some .cell
  fn : ∀ g F, Φ.fn g = some F -> NW X g F
  con : ∀ x d, Φ.con x = some d -> ∃ v u, X.mg x = some u /\ aQ v u /\ ∀ H P, ah X.K H P d v
  blt : ∀ f B, Φ.blt f = some B -> eO f B
  itr : ∀ f B, Φ.itr f = some B -> jl f B
  mth : ∀ m M, Φ.mth m = some M -> ve m M
  mtt : ∀ m M, Φ.mtt m = some M -> nQ m M
  slf : pM Φ.slf
  fld : ∀ n f, Φ.fld n f = true -> ∀ C, W.nsIn X.K mainGlobals n = some (some (.ref C)) -> nO X.K C f
  omt : ∀ n m F, Φ.omt n m = some F -> FT X n m F
  bl : ∀ f ∈ gO, X.mg f = none
  room : X.A.units + 70 < cLine
  ns : ∀ x, dJ sc x = true -> x ∈ X.N
  ft : ∀ x, sc.names.lookup x = some .cell -> X.fn x = true
variable {X : Cx}
theorem dW {x : Str} (h : gB x = true) : (x == ("__debug__" : Str)) = false /\ (x == ("__classdict__" : Str)) = false := by
  unfold gB at h
  rw [Bool.and_eq_true] at h
  exact ⟨of_decide_eq_true h.1, of_decide_eq_true h.2⟩
theorem BR {ρ : aj} {x : Str} {pos : Pos} {d : D} {o : Bool} (h : ρ x = some (d, o)) (hx : gB x = true) : ED X ρ (.Name x pos) d (kn d (cond o 2 1)) := by
  refine ED.kn fun ow pins s σ H Q I ⟨E, q⟩ => ?_
  obtain ⟨i, v, e1, e2, e3, e4⟩ := E.get x d o h
  refine mM (i := i) e1 e2 (dW hx).1 (dW hx).2 pins s σ H Q I ⟨v, e3, q v H (aD.refl _) (e4.imp fun a b p => ?_)⟩
  cases o with
  | true => exact ⟨p.1, .inl (by rw [p.2]; exact (fun z => nomatch z))⟩
  | false => exact p
theorem EC {Φ : Fx} {sc : Scope} {ρ : aj} {x : Str} {pos : Pos} {d : D} (G : aU Φ X sc) (h : Φ.con x = some d) (hg : sc.names.lookup x = some .globalImplicit) (hx : gB x = true) : ED X ρ (.Name x pos) d 0 := by
  obtain ⟨v, u, h1, h2, h3⟩ := G.con x d h
  exact fun ow => bE (AV (G.gl x hg) h1 h2 (dW hx).1) fun σ H Q ⟨E, q⟩ => q v H (aD.refl _) (h3 H _)
theorem Ar {x : Str} {T : String} (h : ua x = some T) : bootBuiltins x = some (.type T) /\ x ≠ "__name__" /\ (x == ("__debug__" : Str)) = false /\ x ∈ gO := by
  unfold ua at h
  split at h
  . rename_i e; subst e; cases h; exact ⟨by decide +kernel, by decide +kernel, by decide +kernel, by decide +kernel⟩
  split at h
  . rename_i e; subst e; cases h; exact ⟨by decide +kernel, by decide +kernel, by decide +kernel, by decide +kernel⟩
  split at h
  . rename_i e; subst e; cases h; exact ⟨by decide +kernel, by decide +kernel, by decide +kernel, by decide +kernel⟩
  split at h
  . rename_i e; subst e; cases h; exact ⟨by decide +kernel, by decide +kernel, by decide +kernel, by decide +kernel⟩
  split at h
  . rename_i e; subst e; cases h; exact ⟨by decide +kernel, by decide +kernel, by decide +kernel, by decide +kernel⟩
  . cases h
theorem Ex {Φ : Fx} {sc : Scope} {ρ : aj} {x : Str} {pos : Pos} {T : String} (G : aU Φ X sc) (h : ua x = some T) (hg : sc.names.lookup x = some .globalImplicit) : ED X ρ (.Name x pos) (.typ T) 0 := by
  obtain ⟨h1, h2, h3, h4⟩ := Ar h
  exact fun ow => bE (AX (v := .ty T) (G.gl x hg) (G.bl x h4) h1 rfl h2 h3) fun σ H Q ⟨E, q⟩ => q _ H (aD.refl _) (by rw [ah])
theorem EB {ρ : aj} {c : Const} {n : Nat} {pos : Pos} {d : D} (h : zW c = some d) : ED X ρ (.Constant c n pos) d 0 := by
  intro ow
  unfold zW at h
  split at h
  . cases h; exact bE Do fun σ H Q ⟨E, q⟩ => q _ H (aD.refl _) (by rw [ah])
  . cases h; exact bE GH fun σ H Q ⟨E, q⟩ => q _ H (aD.refl _) (by rw [ah])
  . cases h; exact bE Dq fun σ H Q ⟨E, q⟩ => q _ H (aD.refl _) (by rw [ah])
  . cases h; exact bE Dl fun σ H Q ⟨E, q⟩ => q _ H (aD.refl _) (by rw [ah])
  . cases h
theorem EG {ρ : aj} {a b : Expr} {op : Operator} {pos : Pos} {x y z : D} {k j l : Nat} (ha : ED X ρ a x k) (hb : ED X ρ b y j) {o : List Prop} (h : rL op x y k j = .ok (z, l) o) (hp : aE o) : ED X ρ (.BinOp a op b pos) z l := by
  obtain ⟨r, h1, h2⟩ := Fz (X := X) h hp
  refine fun ow => bE (GF h1 (ha ow) (hb ow)) fun σ H Q ⟨E, q⟩ => ⟨E, fun v H1 s1 r1 => ⟨E.same s1, fun u H2 s2 r2 => ?_⟩⟩
  exact h2 ow H H2 v u Q E.own (s1.trans s2) (r1.same s2) (r2.imp (Kp.back s1 j)) fun w H' s3 r3 => q w H' ((s1.trans s2).trans s3) r3
theorem Hf {ρ : aj} {a : Expr} {op : UnaryOp} {pos : Pos} {x z : D} {k : Nat} (ha : ED X ρ a x k) (h : vi op x = some z) : ED X ρ (.UnaryOp op a pos) z 0 := by
  unfold vi at h
  split at h
  . cases h
    refine fun ow => bE (GE Cp (ha ow)) fun σ H Q ⟨E, q⟩ => ⟨E, fun v H1 s1 r1 => ?_⟩
    rw [ah] at r1; subst r1
    exact ⟨_, rfl, q _ H1 s1 (by rw [ah])⟩
  . cases h
    refine fun ow => bE (Dn (ha ow)) fun σ H Q ⟨E, q⟩ => ⟨E, fun v H1 s1 r1 => ?_⟩
    rw [ah] at r1; subst r1
    exact ⟨_, rfl, q _ H1 s1 (by rw [ah])⟩
  . cases h
theorem EE {ρ : aj} {a b : Expr} {op : CmpOp} {pos : Pos} {x y : D} {r : Bool} {k j : Nat} (hu : X.A.units + 70 < cLine) {o : List Prop} (ha : ED X ρ a x k) (hb : ED X ρ b y j) (h : gM op x y = .ok r o) (hp : aE o) (hm : behindInMarks op b = false) : ED X ρ (.Compare a [op] [b] pos) (.bl r) 0 := by
  have c := iO hu h hp
  intro ow pins s σ H Q I ⟨E, q⟩
  refine wpAny_Compare1 (Hw (ha ow) (hb ow) I (R := fun v u H2 => aD H H2 /\ ah X.K H2 (fun _ _ => True) x v /\ ah X.K H2 (fun _ _ => True) y u) ⟨E, fun v H1 s1 r1 => ⟨E.same s1, fun u H2 s2 r2 => ⟨s1.trans s2, (r1.imp fun _ _ _ => True.intro).same s2, r2.imp fun _ _ _ => True.intro⟩⟩⟩ fun v u s2 x y H2 I2 rx ry ⟨sm, r1, r2⟩ => ?_) hm
  exact c _ _ pins s2 σ H2 x y v u Q I2 rx ry ⟨r1, r2, q _ H2 sm (by rw [ah])⟩
theorem B3 {op op2 : CmpOp} {x y z : D} {r : D × Nat} {l : List Prop} (h : EO op op2 x y z = .ok r l) : ∃ a b c r1 r2, x = .int a /\ y = .int b /\ z = .int c /\ fF op a b = some r1 /\ fF op2 b c = some r2 /\ r = (.bl (r1 && r2), 0) := by
  unfold EO at h
  split at h
  . split at h
    . rename_i h1 h2; cases h; exact ⟨_, _, _, _, _, rfl, rfl, rfl, h1, h2, rfl⟩
    . cases h
  . cases h
theorem nB {op : CmpOp} {a b : Int} {r : Bool} (h : fF op a b = some r) : gM op (.int a) (.int b) = .ok r [] := by
  unfold fF at h
  split at h <;> first | (cases h; rfl) | cases h
theorem yy {ρ : aj} {a b c : Expr} {op op2 : CmpOp} {pos : Pos} {x y z : Int} {r r2 : Bool} {k j i : Nat} (hu : X.A.units + 70 < cLine) (ha : ED X ρ a (.int x) k) (hb : ED X ρ b (.int y) j) (hc : ED X ρ c (.int z) i) (h : fF op x y = some r) (h2 : fF op2 y z = some r2) (hm : behindInMarks op2 c = false) : ED X ρ (.Compare a [op, op2] [b, c] pos) (.bl (r && r2)) 0 := by
  have c1 := iO (X := X) hu (nB h) (show aE [] from True.intro)
  have c2 := iO (X := X) hu (nB h2) (show aE [] from True.intro)
  refine fun ow => bE (xL (c1 (fun _ _ => True) (fun _ _ => True)) (c2 (fun _ _ => True) (fun _ _ => True)) (ha ow) (hb ow) (hc ow) hm) fun σ H Q ⟨E, q⟩ => ⟨E, fun v H1 s1 r1 => ⟨E.same s1, fun u H2 s2 r2 => ?_⟩⟩
  rw [ah] at r1 r2
  subst r1 r2
  refine ⟨by rw [ah], by rw [ah], r, rfl, ?_⟩
  cases r with
  | false => exact q _ H2 (s1.trans s2) (by rw [ah]; rfl)
  | true =>
    rw [if_pos rfl]
    refine ⟨(E.same s1).same s2, fun w H3 s3 r3 => ?_⟩
    rw [ah] at r3
    subst r3
    exact ⟨by rw [ah], by rw [ah], q _ H3 ((s1.trans s2).trans s3) (by rw [ah]; rfl)⟩
theorem Gi {ρ : aj} {e : Expr} {b : Bool} {k : Nat} (h : ED X ρ e (.bl b) k) (he : ∀ whole, isTrue e X.env whole = (do let v <- whole; standAt e.pos; holding [v] (truthy v))) : TD X ρ e b :=
  fun ow => vc (C6 (h ow) he) fun σ H Q ⟨E, q⟩ => ⟨E, fun v H1 s1 r1 => by rw [ah] at r1; exact ⟨b, r1, q H1 s1⟩⟩
theorem wQ {ρ : aj} : AD X ρ [] [] 0 := fun ow => Ac Dw fun σ H Q ⟨E, q⟩ => q [] H (aD.refl _) ag.nil
theorem oB {ρ : aj} {e : Expr} {es : List Expr} {d : D} {ds : List D} {k j : Nat} (h1 : ED X ρ e d k) (h2 : AD X ρ es ds j) (hs : starEach (e :: es) X.env = (false, eval e X.env) :: starEach es X.env) : AD X ρ (e :: es) (d :: ds) (kj k j) :=
  fun ow => Ac (AZ (h1 ow) (h2 ow) hs) fun σ H Q ⟨E, q⟩ => ⟨E, fun v H1 s1 r1 => ⟨E.same s1, fun vs H2 s2 r2 => q _ H2 (s1.trans s2) (ag.cons ((r1.imp (Kp.joinL E.own k j)).same s2) (r2.imp fun a b p => Kp.joinR E.own k j a b (Kp.back s1 j a b p)))⟩⟩
theorem rB {ρ : aj} {es : List Expr} {n : Nat} {pos : Pos} {ds : List D} {k : Nat} (h : AD X ρ es ds k) (hl : ds.length <= bI) : ED X ρ (.Tuple es n pos) (.tup ds) (kn (.tup ds) k) := by
  refine ED.kn fun ow => bE (Dk (h ow)) fun σ H Q ⟨E, q⟩ => ⟨E, fun vs H1 s1 r1 => ⟨by rw [<- r1.length]; exact Nat.le_trans hl gE, fun p hp => ?_⟩⟩
  have sm := cy (o := HO.tup vs) hp
  refine q _ _ (s1.trans sm) ?_
  rw [ah]
  exact ⟨p, vs, rfl, ck.of aO, r1.same sm⟩
theorem EA {ρ : aj} {pos : Pos} : ED X ρ (.Dict [] [] pos) (.dct [] []) 0 := by
  intro ow pins s σ H Q I ⟨E, q⟩
  refine wpAny_Dict_empty ⟨.ref s.heap.objs.size, _, I.laid (t' := s.toks) (o := .dK []) (fun b ob q => Heap.get?_push_of_some _ q) (Nat.le_refl _) ?_, rfl, q _ _ (cy (I.hok.fresh (Nat.le_refl _))) ?_⟩
  . exact ⟨Nat.zero_le _, beq_eq_false_iff_ne.mpr (Nat.ne_of_gt (modules_low I.nolimit)), [], .nil, Heap.DictOf.new _⟩
  . rw [ah]; exact ⟨rfl, rfl, _, [], rfl, aO, ⟨rfl, I.hok.fresh (Nat.le_refl _)⟩, ag.nil⟩
theorem BV {ρ : aj} {es : List Expr} {pos : Pos} {ds : List D} {k : Nat} (h : AD X ρ es ds k) (hk : k <= 1) (hl : ds.length <= bI) : ED X ρ (.List es pos) (.lst ds) k := by
  refine fun ow => bE (Dp (h ow)) fun σ H Q ⟨E, q⟩ => ⟨E, fun vs H1 s1 r1 => ⟨by rw [<- r1.length]; exact Nat.le_trans hl gE, fun p hp => ?_⟩⟩
  have sm := cy (o := HO.lst vs) hp
  refine q _ _ (s1.trans sm) ?_
  rw [ah]
  exact ⟨p, vs, true, rfl, aO, v9 E.own (s1.free hp) hk, r1.same sm⟩
theorem zU {ρ : aj} {c a b : Expr} {pos : Pos} {t : Bool} {d : D} {k : Nat} (hc : TD X ρ c t) (h : if t = true then ED X ρ a d k else ED X ρ b d k) : ED X ρ (.IfExp c a b pos) d k := by
  cases t with
  | true =>
    intro ow pins s σ H Q I ⟨E, q⟩
    refine PyProof.Rows.IfExp_ (aN (hc ow pins s σ H (fun t H1 => t = true /\ aD H H1) I ⟨E, fun H1 s1 => ⟨rfl, s1⟩⟩) fun t s1 ⟨H1, I1, e1, s1'⟩ => ?_)
    subst e1
    exact h ow pins s1 σ H1 Q I1 ⟨E.same s1', fun v H2 s2 r2 => q v H2 (s1'.trans s2) (r2.imp (Kp.back s1' k))⟩
  | false =>
    intro ow pins s σ H Q I ⟨E, q⟩
    refine PyProof.Rows.IfExp_ (aN (hc ow pins s σ H (fun t H1 => t = false /\ aD H H1) I ⟨E, fun H1 s1 => ⟨rfl, s1⟩⟩) fun t s1 ⟨H1, I1, e1, s1'⟩ => ?_)
    subst e1
    exact h ow pins s1 σ H1 Q I1 ⟨E.same s1', fun v H2 s2 r2 => q v H2 (s1'.trans s2) (r2.imp (Kp.back s1' k))⟩
end Sp
set_option Elab.async false
set_option linter.all false
set_option maxRecDepth 100000
namespace Sp
open PySem PySem.Spec PyProof.Rows L2
variable {X : Cx}
theorem ag.atI {K : W.Frag} {P : bg} {H : Hp} {l : List D} {vs : List V} {i : Int} {d : D} (h : ag K H P l vs) (e : L2.atI l i = some d) : ∃ v, L2.atI vs i = some v /\ ah K H P d v := by
  unfold L2.atI at e ⊢
  rw [<- h.length]
  cases q : jT l.length i with
  | none => rw [q] at e; cases e
  | some j => rw [q] at e; exact h.get e
theorem Hg {ρ : aj} {a b : Expr} {pos : Pos} {x z : D} {i : Int} {k j l : Nat} {o : List Prop} (ha : ED X ρ a x k) (hb : ED X ρ b (.int i) j) (hs : lz b) (h : qN x i k = .ok (z, l) o) : ED X ρ (.Subscript a b pos) z l := by
  unfold qN at h
  split at h
  . rename_i m e0
    split at h
    . rename_i d e
      unfold mk at h
      cases h
      rcases eQ e0 with rfl | rfl
      . refine ED.kn fun ow => bE (uo DZ (ha ow) (hb ow) hs) fun σ H Q ⟨E, q⟩ => ⟨E, fun v H1 s1 r1 => ⟨E.same s1, fun u H2 s2 r2 => ?_⟩⟩
        obtain ⟨p, vs, rfl, hq, rl⟩ := eI (r1.same s2)
        rw [ah] at r2; subst r2
        obtain ⟨w, h1, h2⟩ := rl.atI e
        exact ⟨p, vs, i, w, rfl, rfl, hq, h1, q w H2 (s1.trans s2) h2⟩
      . refine ED.kn fun ow => bE (uo Bq (ha ow) (hb ow) hs) fun σ H Q ⟨E, q⟩ => ⟨E, fun v H1 s1 r1 => ⟨E.same s1, fun u H2 s2 r2 => ?_⟩⟩
        obtain ⟨p, vs, rfl, hq, rl⟩ := gW (r1.same s2)
        rw [ah] at r2; subst r2
        obtain ⟨w, h1, h2⟩ := rl.atI e
        exact ⟨p, vs, i, w, rfl, rfl, hq, h1, q w H2 (s1.trans s2) h2⟩
    . cases h
  . cases h
def JA : R2 := fun x y H Q => ∃ p kvs k v, x = .ref p /\ y = kV k /\ H p = some (.dK kvs) /\ iU kvs k = some v /\ Q v H
theorem Br : Ag X JA := by
  intro value slice pins s σ H x y v u Q I rx ry h hs
  obtain ⟨p, kvs, k, z, rfl, rfl, hq, he, q⟩ := h
  cases rx
  obtain ⟨_, hd, vs, rel, dd⟩ := (show bV X.prog X.w H s.heap p (.dK kvs) from I.hok p _ hq)
  obtain ⟨w, hw, rw'⟩ := eU.some_of (v := z) (o := valueAt vs k) (by rw [<- he]; exact rel.val k)
  exact subscriptTail_builtinR (x := w) dd.typeIs PySem.F.slot_dict_getitem.lookup (wpAny_getItem_of (Q := fun r s' => r = w /\ EP X pins σ Q r s') (uI ry) dd.mapOf hw ⟨rfl, z, H, I.tok _, rw', q⟩) hs
theorem rC {K : W.Frag} {P : bg} {H : Hp} {k : bO} {d : D} : ∀ {ks : List bO} {ds : List D} {vs : List V}, ag K H P ds vs -> jY ks ds k = some d -> ∃ v, iU (ks.zip vs) k = some v /\ ah K H P d v /\ d ∈ ds
  | [], ds, vs, _, e => by cases e
  | j :: ks, [], vs, _, e => by cases e
  | j :: ks, x :: ds, vs, h, e => by
    rw [ag] at h
    obtain ⟨v, r, rfl, h1, h2⟩ := h
    by_cases hj : j = k
    . have e' : some x = some d := by rw [<- e]; simp [jY, List.find?_cons, hj]
      cases e'
      exact ⟨v, lU hj, h1, List.mem_cons_self⟩
    . have e' : jY ks ds k = some d := by rw [<- e]; simp [jY, List.find?_cons, hj]
      obtain ⟨w, g1, g2, g3⟩ := rC h2 e'
      exact ⟨w, (lV hj).trans g1, g2, List.mem_cons_of_mem _ g3⟩
theorem oT : ∀ {l : List D} {d : D}, ao l = true -> d ∈ l -> d.lless = true
  | x :: l, d, h, m => by
    rw [ao, Bool.and_eq_true] at h
    rcases List.mem_cons.mp m with rfl | m
    . exact h.1
    . exact oT h.2 m
theorem Ey {ρ : aj} {a b : Expr} {pos : Pos} {p q r : D × Nat} {o : List Prop} (ha : ED X ρ a p.1 p.2) (hb : ED X ρ b q.1 q.2) (hs : lz b) (h : iW p q = .ok r o) : ED X ρ (.Subscript a b pos) r.1 r.2 := by
  obtain ⟨z, k⟩ := p
  unfold iW at h
  split at h
  . rename_i ks ds e0
    have e0 : z = _ := e0
    subst e0
    split at h
    . rename_i key e
      split at h
      . rename_i d e2
        cases h
        refine fun ow => bE (uo Br (ha ow) (hb ow) hs) fun σ H Q ⟨E, qq⟩ => ⟨E, fun v H1 s1 r1 => ⟨E.same s1, fun u H2 s2 r2 => ?_⟩⟩
        have r1' := r1.same s2
        rw [ah] at r1'
        obtain ⟨f, e1, p, vs, rfl, hq, _, rl⟩ := r1'
        have hk := mh (X := X) e r2
        obtain ⟨w, g1, g2, g3⟩ := rC rl e2
        exact ⟨p, _, key, w, rfl, hk, hq, g1, qq w H2 (s1.trans s2) (g2.flat _ (oT f g3))⟩
      . cases h
    . cases h
  . unfold i6 at h
    split at h
    . rename_i j hj
      rw [hj] at hb
      exact Hg ha hb hs h
    . cases h
theorem Ab {X : Cx} {e : Option Expr} {t t' : TO} (h : PO X e t) (i : ∀ σ H Q, t' σ H Q -> t σ H Q) : PO X e t' := fun pins s σ H Q I q => h pins s σ H Q I (i σ H Q q)
theorem Bb {ρ : aj} : OD X ρ none none := fun ow => Ab AQ fun σ H Q ⟨E, q⟩ => q H (aD.refl _)
theorem Ba {ρ : aj} {e : Expr} {i : Int} {k : Nat} (h : ED X ρ e (.int i) k) : OD X ρ (some e) (some i) := fun ow => Ab (AO (h ow)) fun σ H Q ⟨E, q⟩ => ⟨E, fun v H1 s1 r1 => by rw [ah] at r1; exact ⟨i, r1, q H1 s1⟩⟩
theorem ag.cut {K : W.Frag} {P : bg} {H : Hp} {l : List D} {vs : List V} {lo hi : Option Int} (h : ag K H P l vs) : ag K H P (jg l lo hi) (iw vs lo hi) := by
  unfold jg iw
  rw [<- h.length]
  exact (h.drop _).take _
theorem io : ∀ {l : List D} {n : Nat}, ao l = true -> ao (l.take n) = true
  | [], n, h => by simp [ao]
  | d :: l, 0, h => by simp [ao]
  | d :: l, n + 1, h => by
    rw [ao, Bool.and_eq_true] at h
    rw [List.take_succ_cons, ao, Bool.and_eq_true]; exact ⟨h.1, io h.2⟩
theorem ip : ∀ {l : List D} {n : Nat}, ao l = true -> ao (l.drop n) = true
  | [], n, h => by simp [ao]
  | d :: l, 0, h => h
  | d :: l, n + 1, h => by
    rw [ao, Bool.and_eq_true] at h
    exact ip (n := n) h.2
theorem yx {ρ : aj} {a : Expr} {lo hi : Option Expr} {p2 pos : Pos} {x z : D} {l h : Option Int} {k j : Nat} (ha : ED X ρ a x k) (hl : OD X ρ lo l) (hh : OD X ρ hi h) {o : List Prop} (e : aT x l h = .ok (z, j) o) (hp : aE o) : ED X ρ (.Subscript a (.Slice lo hi none p2) pos) z j := by
  unfold aT at e
  split at e
  . rename_i m
    . cases e
      have c : ao m = true /\ ¬ (HT.sIx m.length 0 l = 0 /\ HT.sIx m.length m.length h = m.length) := ⟨hp.1, by have hx := hp.2.1; unfold EK at hx; intro z; rw [decide_eq_true z.1, decide_eq_true z.2] at hx; cases hx⟩
      refine fun ow => bE (qy CS (ha ow) (hl ow) (hh ow)) fun σ H Q ⟨E, q⟩ => ⟨E, fun v H1 s1 r1 => ⟨E.same s1, fun H2 s2 => ⟨(E.same s1).same s2, fun H3 s3 => ?_⟩⟩⟩
      have s13 := s2.trans s3
      obtain ⟨p, vs, rfl, hq, rl⟩ := eI (r1.same s13)
      refine ⟨p, vs, rfl, hq, by rw [<- rl.length]; exact c.2, fun p' hp' => ?_⟩
      have sm := cy (o := HO.tup (iw vs l h)) hp'
      refine q _ _ ((s1.trans s13).trans sm) ?_
      rw [ah]
      exact ⟨p', _, rfl, ck.of aO, ag.flat _ (by unfold jg; exact io (ip c.1)) (rl.cut.same sm)⟩
  . rename_i m
    . cases e
      have c : ao m = true := hp.1
      refine fun ow => bE (qy Ay (ha ow) (hl ow) (hh ow)) fun σ H Q ⟨E, q⟩ => ⟨E, fun v H1 s1 r1 => ⟨E.same s1, fun H2 s2 => ⟨(E.same s1).same s2, fun H3 s3 => ?_⟩⟩⟩
      have s13 := s2.trans s3
      obtain ⟨p, vs, rfl, hq, rl⟩ := gW (r1.same s13)
      refine ⟨p, vs, rfl, hq, fun p' hp' => ?_⟩
      have sm := cy (o := HO.lst (iw vs l h)) hp'
      refine q _ _ ((s1.trans s13).trans sm) ?_
      rw [ah]
      exact ⟨p', _, true, rfl, aO, ⟨rfl, (s1.trans s13).free hp'⟩, ag.flat _ (by unfold jg; exact io (ip c)) (rl.cut.same sm)⟩
  . cases e
theorem aF : pM aT := fun X ρ a lo hi p2 pos x z l h k j o ha hl hh e hp => yx ha hl hh e hp
theorem cC {env : Env} {pos : Pos} : ∀ {es : List Expr}, (∀ e ∈ es, ∀ x p, e ≠ .Starred x p) -> (backTo pos (starEach es env)).any (·.1) = false
  | [], _ => rfl
  | e :: es, h => by
    have ih := cC (env := env) (es := es) (pos := pos) fun x hx => h x (List.mem_cons_of_mem _ hx)
    have he := h e List.mem_cons_self
    cases e <;> first | exact absurd rfl (he _ _) | exact ih
theorem bj {e : Expr} {es : List Expr} {env : Env} (h : ∀ x p, e ≠ .Starred x p) : starEach (e :: es) env = (false, eval e env) :: starEach es env := by
  cases e <;> first | exact absurd rfl (h _ _) | rfl
theorem yz {Φ : Fx} {sc : Scope} {ρ : aj} {f : Str} {p pos : Pos} {args : List Expr} {F : List D -> Rs D} {ds : List D} {k : Nat} {r : D} {o : List Prop} (G : aU Φ X sc) (hf : Aj X f F) (hg : sc.names.lookup f = some .globalImplicit)
    (ha : AD X ρ args ds k) (hst : ∀ e ∈ args, ∀ x p, e ≠ .Starred x p) (hnil : args = [] -> ds = []) (h : F ds = .ok r o) (hp : aE o) : ED X ρ (.Call (.Name f p) args [] pos) r 0 := by
  obtain ⟨n, fa, fd, ps, hF, hr, hm, hk, hb, hd⟩ := hf
  intro ow
  cases args with
  | nil =>
    refine bE (xN hF hr (G.gl f hg) hm hk hb .nil kK hd) fun σ H Q ⟨E, q⟩ => ?_
    have hds := hnil rfl
    subst hds
    exact ⟨[], r, o, ag.nil, h, hp, fun v H' s1 r1 => q v H' s1 r1⟩
  | cons e es =>
    refine bE (AW hF hr (G.gl f hg) hm hk hb .nil kK (ha ow) hd (bj (hst e List.mem_cons_self)) (cC fun x hx => hst x (List.mem_cons_of_mem _ hx))) fun σ H Q ⟨E, q⟩ => ⟨E, fun vs H1 s1 r1 => ?_⟩
    refine ⟨ds, r, o, by rw [List.append_nil]; exact r1.imp fun _ _ _ => True.intro, h, hp, fun v H' s2 r2 => q v H' (s1.trans s2) (r2.imp fun a b p => ⟨p.1, s1.free p.2⟩)⟩
theorem jG {H : Hp} {x dx C : Addr} (hx : H x = none) (hd : H dx = none) : aD H (aV (aV H dx (.own x)) x (.ins C dx [])) := fun a o h => by
  rw [aH (fun z => by subst z; rw [hx] at h; cases h), aH (fun z => by subst z; rw [hd] at h; cases h)]
  exact h
theorem BT {Φ : Fx} {sc : Scope} {ρ : aj} {f : Str} {p pos : Pos} {args : List Expr} {F : List D -> Rs D} {ds : List D} {k : Nat} {r : D} {o : List Prop} (G : aU Φ X sc) (hf : FS X f F) (hg : sc.names.lookup f = some .globalImplicit)
    (ha : AD X ρ args ds k) (hst : ∀ e ∈ args, ∀ x p, e ≠ .Starred x p) (hnil : args = [] -> ds = []) (h : F ds = .ok r o) (hp : aE o) : ED X ρ (.Call (.Name f p) args [] pos) r 0 := by
  obtain ⟨n, C, fa, fd, ps, hfl, hM, hF, hr, hm, hns, hc, hb, hd⟩ := hf
  have hl := hfl ds r o h
  intro ow
  cases args with
  | nil =>
    refine bE (xK hM hF hr (G.gl f hg) hm hb .nil kK hd) fun σ H Q ⟨E, q⟩ => ?_
    have hds := hnil rfl
    subst hds
    intro x dx hx hdx ne
    refine ⟨x, [], C, dx, [], r, o, rfl, aO, hns, hc, ag.nil, h, hp, hl, fun H' kp rr => ⟨rfl, q _ H' (fun a ob ha => ?_) (rr.flat _ hl)⟩⟩
    exact kp a ob (fun z => by subst z; rw [hx] at ha; cases ha) (jG hx hdx a ob ha)
  | cons e es =>
    refine bE (AU hM hF hr (G.gl f hg) hm hb .nil kK (ha ow) hd (bj (hst e List.mem_cons_self)) (cC fun x hx => hst x (List.mem_cons_of_mem _ hx))) fun σ H Q ⟨E, q⟩ => ⟨E, fun vs H1 s1 r1 => ?_⟩
    intro x dx hx hdx ne
    refine ⟨x, vs ++ [], C, dx, ds, r, o, rfl, aO, hns, hc, by rw [List.append_nil]; exact (r1.same (jG hx hdx)).imp fun _ _ _ => True.intro, h, hp, hl, fun H' kp rr => ⟨rfl, q _ H' (s1.trans fun a ob ha => ?_) (rr.flat _ hl)⟩⟩
    exact kp a ob (fun z => by subst z; rw [hx] at ha; cases ha) (jG hx hdx a ob ha)
theorem BX {Φ : Fx} {sc : Scope} {ρ : aj} {f : Str} {p pos : Pos} {args : List Expr} {F : List D -> Rs D} {ds : List D} {k : Nat} {r : D} {o : List Prop} (G : aU Φ X sc) (hf : Φ.fn f = some F) (hg : sc.names.lookup f = some .globalImplicit)
    (ha : AD X ρ args ds k) (hst : ∀ e ∈ args, ∀ x p, e ≠ .Starred x p) (hnil : args = [] -> ds = []) (h : F ds = .ok r o) (hp : aE o) : ED X ρ (.Call (.Name f p) args [] pos) r 0 := by
  rcases G.fn f F hf with z | z
  . exact yz G z hg ha hst hnil h hp
  . exact BT G z hg ha hst hnil h hp
theorem G5 {o : Expr} {name : Str} {apos pos : Pos} {args : List Expr} {env : Env} (hb : attributeBase o name env (eval o env) = eval o env) (hf : methodCallForm (args.length + ([] : List Keyword).length) (backTo pos (starEach args env)) (backToKw pos (keywordEach [] env)) = true)
    (hl : (apos.endLine == pos.line) = true) : eval (.Call (.Attribute o name apos) args [] pos) env = (do
      let ov <- eval o env
      standAt apos.atName
      let (f, first) <- holding [ov] (getMethod ov name (do return (<- importBound o env).getD true))
      callWith pos f first (backTo pos (starEach args env)) (backToKw pos (keywordEach [] env))) := by
  show (do
    let ov <- attributeBase o name env (eval o env)
    standAt apos.atName
    methodCall o name apos pos env ov (args.length + ([] : List Keyword).length) (backTo pos (starEach args env)) (backToKw pos (keywordEach [] env))) = _
  rw [hb]
  unfold methodCall calleeOf methodCallPos
  rw [hf, hl]
  rfl
theorem iQ {a : Expr} {m : Str} {env : Env} {t : Sem Value} (h : iR a = true) : attributeBase a m env t = t := by
  unfold attributeBase
  split
  . cases h
  . rfl
theorem Eh {env : Env} {pos : Pos} {args : List Expr} (hst : ∀ e ∈ args, ∀ x p, e ≠ .Starred x p) (hn : args.length < 29) : methodCallForm (args.length + ([] : List Keyword).length) (backTo pos (starEach args env)) (backToKw pos (keywordEach [] env)) = true := by
  unfold methodCallForm
  have e1 : (backTo pos (starEach args env)).all (fun x => !x.1) = true := by
    have := cC (env := env) (pos := pos) hst
    rw [List.all_eq_true]
    intro x hx
    have h2 : ¬ (backTo pos (starEach args env)).any (·.1) = true := by rw [this]; exact Bool.false_ne_true
    cases hb : x.1 with
    | false => rfl
    | true => exact absurd (List.any_eq_true.mpr ⟨x, hx, hb⟩) h2
  rw [e1]
  show (true && true && decide (args.length + 0 + 0 < 30)) = true
  simp; omega
theorem pS {ns : List Str} {vs : List V} {m : Str} : ns.contains m = false -> (ns.zip vs).lookup m = none := by
  induction ns generalizing vs with
  | nil => intro _; rfl
  | cons a ns ih =>
    intro h
    cases vs with
    | nil => rfl
    | cons v vs =>
      rw [List.contains_cons, Bool.or_eq_false_iff] at h
      show List.lookup m ((a, v) :: ns.zip vs) = none
      rw [List.lookup_cons, h.1]
      exact ih h.2
theorem BS {Φ : Fx} {sc : Scope} {ρ : aj} {a : Expr} {n m : Str} {ap pos : Pos} {args : List Expr} {F : List D -> Rs D} {ns : List Str} {es ds : List D} {j k : Nat} {r : D} {o : List Prop} (G : aU Φ X sc) (hf : Φ.omt n m = some F) (he : ED X ρ a (.obj n ns es) j)
    (ha : AD X ρ args ds k) (hst : ∀ e ∈ args, ∀ x p, e ≠ .Starred x p) (hlen : args.length = ds.length) (hn : ns.contains m = false) (hb : iR a = true) (hfew : ds.length < 29) (hl : (ap.endLine == pos.line) = true) (h : F (.obj n ns es :: ds) = .ok r o) (hp : aE o) : ED X ρ (.Call (.Attribute a m ap) args [] pos) r 0 := by
  obtain ⟨kk, C, fa, fd, ps, hns, hc, hm, hF, hr, hbd⟩ := G.omt n m F hf
  intro ow
  have ht := G5 (o := a) (name := m) (apos := ap) (pos := pos) (args := args) (env := X.env) (iQ hb) (Eh hst (by omega)) hl
  cases args with
  | nil =>
    refine bE (xJ (he ow) hc hm hF hr hbd .nil kK ht) fun σ H Q ⟨E, q⟩ => ⟨E, fun v H1 s1 r1 => ?_⟩
    have hds : ds = [] := List.length_eq_zero_iff.mp hlen.symm
    subst hds
    have r0 := r1
    rw [ah] at r1
    obtain ⟨f, e0, x, C', dx, vs, rfl, h1, h2, h3, r2⟩ := r1
    rw [hns] at h1; cases h1
    refine ⟨x, dx, _, rfl, h3, pS hn, [.obj n ns es], r, o, ag.one (r0.imp fun _ _ _ => True.intro), h, hp, fun v H' s2 r2 => q v H' (s1.trans s2) (r2.imp fun a b p => ⟨p.1, s1.free p.2⟩)⟩
  | cons e es' =>
    refine bE (AT (he ow) hc hm hF hr hbd .nil kK (ha ow) (bj (hst e List.mem_cons_self)) (cC fun x hx => hst x (List.mem_cons_of_mem _ hx)) ht) fun σ H Q ⟨E, q⟩ => ⟨E, fun v H1 s1 r1 => ?_⟩
    have r0 := r1
    rw [ah] at r1
    obtain ⟨f, e0, x, C', dx, vs, rfl, h1, h2, h3, r2⟩ := r1
    rw [hns] at h1; cases h1
    refine ⟨x, dx, _, rfl, h3, pS hn, E.same s1, fun ws H2 s2 rw2 => ?_⟩
    refine ⟨.obj n ns es :: ds, r, o, by rw [List.append_nil]; exact ag.cons ((r0.same s2).imp fun _ _ _ => True.intro) (rw2.imp fun _ _ _ => True.intro), h, hp, fun v H' s3 r3 => q v H' ((s1.trans s2).trans s3) (r3.imp fun a b p => ⟨p.1, s1.free (s2.free p.2)⟩)⟩
theorem pT {K : W.Frag} {H : Hp} {P : bg} {f : Str} {d : D} : ∀ {ns : List Str} {ds : List D} {vs : List V}, ag K H P ds vs -> (ns.zip ds).lookup f = some d -> ∃ v, (ns.zip vs).lookup f = some v /\ ah K H P d v /\ (ao ds = true -> d.lless = true)
  | [], ds, vs, _, h => by cases h
  | a :: ns, [], vs, _, h => by cases h
  | a :: ns, e :: ds, vs, r, h => by
    rw [ag] at r
    obtain ⟨v, ws, rfl, r1, r2⟩ := r
    replace h : List.lookup f ((a, e) :: ns.zip ds) = some d := h
    show ∃ u, List.lookup f ((a, v) :: ns.zip ws) = some u /\ _
    rw [List.lookup_cons] at h ⊢
    cases hb : f == a with
    | true =>
      rw [hb] at h; cases h
      exact ⟨v, rfl, r1, fun z => by rw [ao, Bool.and_eq_true] at z; exact z.1⟩
    | false =>
      rw [hb] at h
      obtain ⟨u, u1, u2, u3⟩ := pT r2 h
      exact ⟨u, u1, u2, fun z => by rw [ao, Bool.and_eq_true] at z; exact u3 z.2⟩
theorem Ez {Φ : Fx} {sc : Scope} {ρ : aj} {a : Expr} {n f : Str} {pos : Pos} {ns : List Str} {ds : List D} {j : Nat} {d : D} (G : aU Φ X sc) (hf : Φ.fld n f = true) (he : ED X ρ a (.obj n ns ds) j) (hb : iR a = true) (h : (ns.zip ds).lookup f = some d) : ED X ρ (.Attribute a f pos) d 0 := by
  intro ow
  refine bE (Dr (he ow) (iQ hb)) fun σ H Q ⟨E, q⟩ => ⟨E, fun v H1 s1 r1 => ?_⟩
  rw [ah] at r1
  obtain ⟨fl, e0, x, C, dx, vs, rfl, h1, h2, h3, r2⟩ := r1
  obtain ⟨u, u1, u2, u3⟩ := pT r2 h
  exact ⟨x, C, dx, _, u, rfl, h3, h2, G.fld n f hf C h1, u1, q u H1 s1 (u2.flat _ (u3 fl))⟩
theorem EF {Φ : Fx} {sc : Scope} {ρ : aj} {f : Str} {B : List D -> R1} {p pos : Pos} {e : Expr} {es : List Expr} {ds : List D} {k l : Nat} {z : D} {o : List Prop} (G : aU Φ X sc) (hB : eO f B) (hg : sc.names.lookup f = some .globalImplicit)
    (ha : AD X ρ (e :: es) ds k) (hst : ∀ x ∈ e :: es, ∀ y p, x ≠ .Starred y p) (h : B ds = .ok (z, l) o) (hp : aE o) : ED X ρ (.Call (.Name f p) (e :: es) [] pos) z l := by
  obtain ⟨h3, h1, h2, _, h4⟩ := hB
  have h4 := h4 X ds z l o G.calm h hp
  intro ow
  have n1 := bj (env := X.env) (es := es) (hst e List.mem_cons_self)
  have n2 : (backTo pos (starEach es X.env)).any (·.1) = false := cC fun x hx => hst x (List.mem_cons_of_mem _ hx)
  rcases h4 with ⟨id, e1, r, e2, e3⟩ | ⟨T, e1, r, e2, e3⟩
  . refine bE (xM e2 (G.gl f hg) (G.bl f h3) e1 (ha ow) h1 h2 n1 n2) fun σ H Q ⟨E, q⟩ => ⟨E, fun vs H1 s1 r1 => ?_⟩
    exact e3 ow H H1 vs _ Q E.own s1 r1 fun w H' s2 r2 => q w H' (s1.trans s2) r2
  . refine bE (vH e2 (G.gl f hg) (G.bl f h3) e1 (ha ow) h1 h2 n1 n2) fun σ H Q ⟨E, q⟩ => ⟨E, fun vs H1 s1 r1 => ?_⟩
    exact e3 ow H H1 vs _ Q E.own s1 r1 fun w H' s2 r2 => q w H' (s1.trans s2) r2
theorem Bw {ρ : aj} {tg e : Expr} {l : List D} {k : Nat} (h : ED X ρ e (.lst l) k) : IE X ρ tg e l k := by
  intro ow pins s σ H R I ⟨E, q⟩
  refine AR (tg := tg) (h ow) pins s σ H R I ⟨E, fun v H1 s1 r1 => ?_⟩
  rw [ah] at r1
  obtain ⟨a, vs, b, rfl, hl, hp, rl⟩ := r1
  have rl' : ag X.K H1 (Kd ow H k H1) l vs := rl.impH (fun a o ho p => ⟨p, fun _ => ⟨o, ho⟩⟩) fun a p => ⟨p, fun z => (by cases z)⟩
  have hp' : Kd ow H k H1 a b := ⟨hp, fun hb => by subst hb; exact ⟨_, hl⟩⟩
  have sq : ∀ {H2 : Hp}, r9 X.K H2 a vs b -> cm X.K H2 a vs := fun {H2} h => h.sq
  refine ⟨a, rfl, ⟨vs, sq hl⟩, q _ H1 s1 fun i H2 st => ⟨fun d hd => ?_, fun hle => ?_⟩⟩
  . have h2 := sq (st.ls hl hp')
    obtain ⟨w, hw, rw'⟩ := rl'.get hd
    refine ⟨⟨vs, w, h2, hw⟩, fun x H3 ⟨e3, y3⟩ => ?_⟩
    subst e3
    have := y3 vs h2
    rw [hw] at this; cases this
    exact ⟨aD.refl _, rw'.mono st⟩
  . exact ⟨vs, sq (st.ls hl hp'), by rw [<- rl.length]; exact hle⟩
theorem D7 {ρ : aj} {tg e : Expr} {l : List D} {k : Nat} (h : ED X ρ e (.tup l) k) : IE X ρ tg e l k := by
  intro ow pins s σ H R I ⟨E, q⟩
  refine Di (tg := tg) (h ow) pins s σ H R I ⟨E, fun v H1 s1 r1 => ?_⟩
  rw [ah] at r1
  obtain ⟨a, vs, rfl, hl, rl⟩ := r1
  have rl' : ag X.K H1 (Kd ow H k H1) l vs := rl.impH (fun a o ho p => ⟨p, fun _ => ⟨o, ho⟩⟩) fun a p => ⟨p, fun z => (by cases z)⟩
  refine ⟨a, rfl, ⟨vs, hl⟩, q _ H1 s1 fun i H2 st => ⟨fun d hd => ?_, fun hle => ?_⟩⟩
  . have h2 := st.sq hl
    obtain ⟨w, hw, rw'⟩ := rl'.get hd
    refine ⟨⟨vs, w, h2, hw⟩, fun x H3 ⟨e3, y3⟩ => ?_⟩
    subst e3
    have := y3 vs h2
    rw [hw] at this; cases this
    exact ⟨aD.refl _, rw'.mono st⟩
  . exact ⟨vs, st.sq hl, by rw [<- rl.length]; exact hle⟩
theorem G1 {ρ : aj} {tg e : Expr} {d : D} {l : List D} {k : Nat} (h : ED X ρ e d k) (hi : items d = some l) : IE X ρ tg e l k := by
  unfold items at hi
  split at hi
  . cases hi; exact Bw h
  . cases hi; exact D7 h
  . cases hi
theorem ye {ρ : aj} {tg a : Expr} {p pos : Pos} {j : Int} {k : Nat} (hg : Gl X "range") (hm0 : X.mg "range" = none) (ha : AD X ρ [a] [.int j] k) (hst : ∀ y p, a ≠ .Starred y p) (h1 : -4611686018427387904 <= j) (h2 : j <= bI) :
    IE X ρ tg (.Call (.Name "range" p) [a] [] pos) ((List.range j.toNat).map fun i => .int (i : Nat)) 0 := by
  intro ow pins s σ H R I ⟨E, q⟩
  refine vE (tg := tg) hg hm0 (ha ow) (by rw [bj hst]; rfl) pins s σ H R I ⟨E, fun vs H1 s1 r1 => ?_⟩
  obtain ⟨v, rfl, rv⟩ := r1.only
  rw [ah] at rv; subst rv
  have hm : (bI : Int) < 2 ^ 62 := by decide
  refine ⟨j, rfl, h1, by omega, q _ H1 s1 fun i H2 st => ⟨fun d hd => ?_, fun hle => ?_⟩⟩
  . rw [List.getElem?_map] at hd
    cases e : (List.range j.toNat)[i]? with
    | none => rw [e] at hd; cases hd
    | some n =>
      rw [e] at hd; cases hd
      obtain ⟨hi, hn⟩ := List.getElem?_eq_some_iff.mp e
      rw [List.getElem_range] at hn
      subst hn
      rw [List.length_range] at hi
      refine ⟨hi, fun x H3 ⟨e3, y3⟩ => ?_⟩
      subst e3 y3
      exact ⟨aD.refl _, by rw [ah, Int.zero_add]⟩
  . rw [List.length_map, List.length_range] at hle
    exact hle
theorem wj {ρ : aj} {tg a b : Expr} {p pos : Pos} {j0 j : Int} {k : Nat} (hg : Gl X "range") (hm0 : X.mg "range" = none) (ha : AD X ρ [a, b] [.int j0, .int j] k) (hst : ∀ y p, a ≠ .Starred y p) (hst2 : ∀ y p, b ≠ .Starred y p) (h1 : -4611686018427387904 <= j0) (h2 : j0 <= 4611686018427387000) (h3 : -4611686018427387904 <= j) (h4 : j - j0 <= 800) :
    IE X ρ tg (.Call (.Name "range" p) [a, b] [] pos) ((List.range (j - j0).toNat).map fun i => .int (j0 + (i : Nat))) 0 := by
  intro ow pins s σ H R I ⟨E, q⟩
  refine vD (tg := tg) hg hm0 (ha ow) (by rw [bj hst, bj hst2]; rfl) (by rw [bj hst2]; rfl) pins s σ H R I ⟨E, fun vs H1 s1 r1 => ?_⟩
  rw [ag] at r1
  obtain ⟨v1, r, rfl, r2, r3⟩ := r1
  rw [ag] at r3
  obtain ⟨v2, r', rfl, r4, r5⟩ := r3
  rw [ag] at r5
  rw [ah] at r2 r4
  subst r2 r4 r5
  refine ⟨j0, j, rfl, ⟨h1, by omega, h3, by omega⟩, q _ H1 s1 fun i H2 st => ⟨fun d hd => ?_, fun hle => ?_⟩⟩
  . rw [List.getElem?_map] at hd
    cases e : (List.range (j - j0).toNat)[i]? with
    | none => rw [e] at hd; cases hd
    | some n =>
      rw [e] at hd; cases hd
      obtain ⟨hi, hn⟩ := List.getElem?_eq_some_iff.mp e
      rw [List.getElem_range] at hn
      subst hn
      rw [List.length_range] at hi
      refine ⟨hi, fun x H3 ⟨e3, y3⟩ => ?_⟩
      subst e3 y3
      exact ⟨aD.refl _, by rw [ah]⟩
  . rw [List.length_map, List.length_range] at hle
    exact hle
theorem wk : jl "range" jV := by
  refine ⟨by decide +kernel, fun X ρ p pos args ds k d j l tg o hc hg hm ha hst hlen h hp hl ht => ?_⟩
  unfold jV at h
  split at h
  . rename_i n
    cases h
    cases hl
    match args, hlen, ha, hst with
    | [a], _, ha, hst => exact ye hg hm ha (hst a List.mem_cons_self) hp.1 hp.2.1
  . rename_i m n
    cases h
    cases hl
    match args, hlen, ha, hst with
    | [a, b], _, ha, hst => exact wj hg hm ha (hst a List.mem_cons_self) (hst b (List.mem_cons_of_mem _ List.mem_cons_self)) hp.1 hp.2.1 hp.2.2.1 hp.2.2.2.1
  . cases h
end Sp
set_option Elab.async false
set_option linter.all false
set_option maxRecDepth 100000
namespace Sp
open PySem PySem.Spec PyProof.Rows L2
variable {X : Cx}
theorem de {x : Str} {y : D × Bool} {ρ : aj} (z : Str) : bR ρ x y z = if z = x then some y else ρ z := rfl
theorem e7 {ow : Ow} {H : Hp} {σ : L2.St} {ρ : aj} {x : Str} {d : D} {o : Bool} {v : V} {i : Nat} (hN : X.N.Nodup) (hl : σ.length = X.N.length) (E : aS X ow H σ ρ) (hi : X.N[i]? = some x) (hv : jr X.env.scope x) (r : ah X.K H (jM ow x o) d v) :
    aS X ow H (σ.set i (some v)) (bR ρ x (d, o)) := by
  have hil : i < σ.length := by rw [hl]; exact (List.getElem?_eq_some_iff.mp hi).1
  refine ⟨fun y e o' h => ?_, E.own⟩
  rw [de] at h
  by_cases hy : y = x
  . subst hy
    rw [if_pos rfl] at h
    cases h
    exact ⟨i, v, hi, hv, by rw [List.getElem?_set_self hil], r⟩
  . rw [if_neg hy] at h
    obtain ⟨j, w, e1, e2, e3, e4⟩ := E.get y e o' h
    have hij : i ≠ j := by intro z; subst z; rw [hi] at e1; cases e1; exact hy rfl
    exact ⟨j, w, e1, e2, by rw [List.getElem?_set_ne hij]; exact e3, e4⟩
theorem gF {Φ : Fx} {sc : Scope} {x : Str} (G : aU Φ X sc) (h : dJ sc x = true) : se X.env.scope x /\ jr X.env.scope x /\ (X.fn x = true \/ X.env.scope.names.lookup x = some .local) /\ ∃ i : Nat, X.N[i]? = some x := by
  have hx := G.ns x h
  have hlt := List.idxOf_lt_length_iff.mpr hx
  have hi : ∃ i : Nat, X.N[i]? = some x := ⟨X.N.idxOf x, by rw [List.getElem?_eq_getElem hlt, List.getElem_idxOf hlt]⟩
  unfold dJ at h
  rw [Bool.or_eq_true] at h
  rcases h with h | h
  . have h := G.lc x (by simpa using h)
    exact ⟨.inl h, .inl h, .inr h, hi⟩
  . have h0 : sc.names.lookup x = some .cell := by simpa using h
    have h := G.cc x h0
    exact ⟨.inr h, .inr (.inl h), .inl (G.ft x h0), hi⟩
theorem jL {Φ : Fx} {sc : Scope} (G : aU Φ X sc) : ∀ {es : List Expr} {ds : List D} {ρ ρ' : aj}, aP sc es ds ρ = some ρ' -> ∃ t, t7 X es t /\ (assignEach es X.env).length = ds.length /\ (assignEach es X.env).findIdx? (·.1) = none /\
    ∀ (ow : Ow) (vs : List V) (σ : L2.St) (H : Hp) (Q : L2.St -> Hp -> Prop), σ.length = X.N.length -> aS X ow H σ ρ -> ag X.K H (fun a b => b = true -> ow a = none) ds vs -> (∀ σ', σ'.length = X.N.length -> aS X ow H σ' ρ' -> Q σ' H) -> t vs σ H Q
  | [], [], ρ, ρ', h => by
    rw [aP] at h; cases h
    refine ⟨_, AS, rfl, rfl, fun ow vs σ H Q hl E r q => ?_⟩
    rw [ag] at r
    exact ⟨r, q σ hl E⟩
  | .Name x p :: es, d :: ds, ρ, ρ', h => by
    rw [aP] at h
    split at h
    . rename_i hx
      obtain ⟨t, h1, h2, h3, h4⟩ := jL G h
      obtain ⟨g1, g2, g3, i, g4⟩ := gF G hx
      refine ⟨_, xI (n5 (i := i) G.nd g4 g1 g3) h1 rfl, ?_, ?_, fun ow vs σ H Q hl E r q => ?_⟩
      . show (assignEach es X.env).length + 1 = ds.length + 1
        rw [h2]
      . show List.findIdx? (·.1) ((false, _) :: assignEach es X.env) = none
        rw [List.findIdx?_cons, h3]; rfl
      . rw [ag] at r
        obtain ⟨v, vr, rfl, r1, r2⟩ := r
        refine ⟨v, vr, rfl, ?_⟩
        exact h4 ow vr _ H Q (by rw [List.length_set]; exact hl) (e7 G.nd hl E g4 g2 r1) r2 q
    . cases h
  | [], _ :: _, ρ, ρ', h => by simp [aP] at h
  | .Name _ _ :: _, [], ρ, ρ', h => by simp [aP] at h
  | .BoolOp .. :: _, ds, ρ, ρ', h => by cases ds <;> simp [aP] at h
  | .NamedExpr .. :: _, ds, ρ, ρ', h => by cases ds <;> simp [aP] at h
  | .BinOp .. :: _, ds, ρ, ρ', h => by cases ds <;> simp [aP] at h
  | .UnaryOp .. :: _, ds, ρ, ρ', h => by cases ds <;> simp [aP] at h
  | .Lambda .. :: _, ds, ρ, ρ', h => by cases ds <;> simp [aP] at h
  | .IfExp .. :: _, ds, ρ, ρ', h => by cases ds <;> simp [aP] at h
  | .Dict .. :: _, ds, ρ, ρ', h => by cases ds <;> simp [aP] at h
  | .Set .. :: _, ds, ρ, ρ', h => by cases ds <;> simp [aP] at h
  | .ListComp .. :: _, ds, ρ, ρ', h => by cases ds <;> simp [aP] at h
  | .SetComp .. :: _, ds, ρ, ρ', h => by cases ds <;> simp [aP] at h
  | .DictComp .. :: _, ds, ρ, ρ', h => by cases ds <;> simp [aP] at h
  | .GeneratorExp .. :: _, ds, ρ, ρ', h => by cases ds <;> simp [aP] at h
  | .Await .. :: _, ds, ρ, ρ', h => by cases ds <;> simp [aP] at h
  | .Yield .. :: _, ds, ρ, ρ', h => by cases ds <;> simp [aP] at h
  | .YieldFrom .. :: _, ds, ρ, ρ', h => by cases ds <;> simp [aP] at h
  | .Compare .. :: _, ds, ρ, ρ', h => by cases ds <;> simp [aP] at h
  | .Call .. :: _, ds, ρ, ρ', h => by cases ds <;> simp [aP] at h
  | .FormattedValue .. :: _, ds, ρ, ρ', h => by cases ds <;> simp [aP] at h
  | .JoinedStr .. :: _, ds, ρ, ρ', h => by cases ds <;> simp [aP] at h
  | .Constant .. :: _, ds, ρ, ρ', h => by cases ds <;> simp [aP] at h
  | .Attribute .. :: _, ds, ρ, ρ', h => by cases ds <;> simp [aP] at h
  | .Subscript .. :: _, ds, ρ, ρ', h => by cases ds <;> simp [aP] at h
  | .Starred .. :: _, ds, ρ, ρ', h => by cases ds <;> simp [aP] at h
  | .List .. :: _, ds, ρ, ρ', h => by cases ds <;> simp [aP] at h
  | .Tuple .. :: _, ds, ρ, ρ', h => by cases ds <;> simp [aP] at h
  | .Slice .. :: _, ds, ρ, ρ', h => by cases ds <;> simp [aP] at h
theorem zR {Φ : Fx} {sc : Scope} {tg : Expr} {d : D} {ρ ρ' : aj} (G : aU Φ X sc) (h : bJ sc tg d ρ = some ρ') : GD X ρ tg d ρ' := by
  unfold bJ at h
  split at h
  . split at h
    . rename_i x p hx
      cases h
      obtain ⟨g1, g2, g3, i, g4⟩ := gF G hx
      exact ⟨_, n5 (i := i) G.nd g4 g1 g3, fun ow v σ H Q hl E r q => q _ (by rw [List.length_set]; exact hl) (e7 G.nd hl E g4 g2 r)⟩
    . cases h
  . split at h
    . obtain ⟨t, h1, h2, h3, h4⟩ := jL G h
      refine ⟨_, vF (n := _) G.calm h1 h2 h3, fun ow v σ H Q hl E r q => ?_⟩
      obtain ⟨a, vs, rfl, hs, rl⟩ := eI r
      exact ⟨a, vs, rfl, hs, rl.length.symm, h4 ow vs σ H Q hl E rl q⟩
    . cases h
  . cases h
theorem ue {c : Expr} {cs : List Expr} {env : Env} {M : Model} {A : Around} {E : Value -> Shared -> Prop} {s : Shared} {Q : Bool -> Shared -> Prop}
    (h : wpAny M A (isTrue c env (eval c env)) (fun b s' => if b = true then wpAny M A (gK cs env) Q E s' else Q false s') E s) : wpAny M A (gK (c :: cs) env) Q E s := by
  have no : ∀ (l : List Expr) (s : Shared), Q false s -> wpAny M A (forIn l false fun c r => if r = true then do let ok <- isTrue c env (eval c env); pure (ForInStep.yield ok) else pure (ForInStep.yield r)) Q E s := by
    intro l
    induction l with
    | nil => intro s h; exact wpAny_pure h
    | cons x l ih =>
      intro s h
      rw [List.forIn_cons]
      simp only [Bool.false_eq_true, if_false]
      exact wpAny_bind (wpAny_pure (ih s h))
  unfold gK
  rw [List.forIn_cons]
  simp only [if_true]
  refine wpAny_bind (wpAny_bind (wpAny_mono h (fun b s' hb => wpAny_pure ?_) fun _ _ x => x))
  cases b with
  | true => exact hb
  | false => exact no cs s' hb
theorem vo {ρ : aj} : w6 X ρ [] true := fun ow pins s σ H Q I ⟨E, q⟩ => wpAny_pure ⟨H, I, q H (aD.refl _)⟩
theorem nS {ρ : aj} {c : Expr} {cs : List Expr} {b b' : Bool} (h : TD X ρ c b) (h' : if b = true then w6 X ρ cs b' else b' = false) : w6 X ρ (c :: cs) b' := by
  intro ow pins s σ H Q I ⟨E, q⟩
  refine ue (aN (h ow pins s σ H (fun t H1 => t = b /\ aD H H1) I ⟨E, fun H1 s1 => ⟨rfl, s1⟩⟩) fun t s1 ⟨H1, I1, e, sm⟩ => ?_)
  subst e
  cases t with
  | true =>
    rw [if_pos rfl] at h' ⊢
    exact h' ow pins s1 σ H1 Q I1 ⟨E.same sm, fun H2 s2 => q H2 (sm.trans s2)⟩
  | false =>
    rw [if_neg Bool.false_ne_true] at h' ⊢
    subst h'
    exact ⟨H1, I1, q H1 sm⟩
end Sp
set_option Elab.async false
set_option linter.all false
set_option maxRecDepth 100000
namespace Sp
open PySem PySem.Spec PyProof.Rows L2
variable {X : Cx}
structure e9 (X : Cx) (ρ : aj) (e : Expr) (it : Bool) (d : D) (k : Nat) : Prop where
  ed : it = false -> ED X ρ e d k
  td : it = false -> ∀ b, d = .bl b -> TD X ρ e b
  ie : it = true -> ∀ tg l, items d = some l -> eD e tg = true -> IE X ρ tg e l k
theorem e9.of {ρ : aj} {e : Expr} {it : Bool} {d : D} {k : Nat} (h : ED X ρ e d k) (t : ∀ b, d = .bl b -> TD X ρ e b) : e9 X ρ e it d k := ⟨fun _ => h, fun _ => t, fun _ tg l hi _ => G1 h hi⟩
theorem nA {Φ : Fx} {e : Expr} {it : Bool} {sc : Scope} {ρ : aj} {r : D × Nat} {l : List Prop} (h : ay Φ e it sc ρ = .ok r l) : ∀ x p, e ≠ .Starred x p := by
  intro x p z; subst z; cases h
theorem dG {Φ : Fx} {sc : Scope} {ρ : aj} : ∀ {es : List Expr} {r : List D × Nat} {l : List Prop}, cx Φ es sc ρ = .ok r l -> aE l -> (∀ e ∈ es, ∀ x p, e ≠ .Starred x p) /\ es.length = r.1.length
  | [], r, l, h, _ => by cases h; exact ⟨fun e he => (by cases he), rfl⟩
  | e :: es, r, l, h, hp => by
    obtain ⟨p, l1, l2, h1, p1, h, p2⟩ := aM h hp
    obtain ⟨q, l3, l4, h2, p3, h, p4⟩ := aM h p2
    cases h
    obtain ⟨i1, i2⟩ := dG h2 p3
    refine ⟨fun e' he => ?_, by rw [List.length_cons, List.length_cons, i2]⟩
    rcases List.mem_cons.mp he with rfl | he
    . exact nA h1
    . exact i1 e' he
theorem GW {d : D} {k : Nat} : kn d k = 0 \/ kn d k = k := by
  unfold kn; split
  . exact .inl rfl
  . exact .inr rfl
theorem wL {sc scope : Scope} (h : nD sc scope = true) : scope.kind = .function /\ (∀ y ∈ scope.names, y.2 = .local -> scope.names.lookup y.1 = some .local) /\
    (∀ y ∈ scope.names, y.2 = .free -> sc.names.lookup y.1 = some .cell \/ sc.names.lookup y.1 = some .free) /\ (scope.names.map (·.1)).Nodup := by
  unfold nD at h
  simp only [Bool.and_eq_true, List.all_eq_true, decide_eq_true_eq, Bool.or_eq_true] at h
  obtain ⟨⟨⟨h1, h3⟩, h4⟩, h5⟩ := h
  refine ⟨h1, fun y hy e => (h3 y hy).resolve_left (fun z => z e), fun y hy e => ?_, h5⟩
  rcases h4 y hy with (q | q) | q
  . exact absurd e q
  . exact .inl q.2
  . exact .inr q
theorem cT {env : Env} : ∀ {names : List (Str × NameKind)} {x : Str} {k0 : NameKind}, k0 ≠ .free -> names.lookup x = some k0 ->
    (names.map fun (n, k) => if (k == NameKind.free && env.scope.kind == .function && env.kindOf n == some .cell) then (n, NameKind.cell) else (n, k)).lookup x = some k0
  | [], _, _, _, h => by simp at h
  | (n, k) :: r, x, k0, hk, h => by
    have ih := @cT env r x k0 hk
    show List.lookup x ((if (k == NameKind.free && env.scope.kind == .function && env.kindOf n == some .cell) = true then (n, NameKind.cell) else (n, k)) :: _) = _
    cases hx : x == n with
    | true =>
      simp only [List.lookup_cons, hx] at h
      cases h
      have : (k == NameKind.free) = false := by simpa using hk
      simp [List.lookup_cons, hx, this]
    | false =>
      simp only [List.lookup_cons, hx] at h
      by_cases hc : (k == NameKind.free && env.scope.kind == .function && env.kindOf n == some .cell) = true
      . rw [if_pos hc]; simp only [List.lookup_cons, hx]; exact ih h
      . rw [if_neg hc]; simp only [List.lookup_cons, hx]; exact ih h
theorem mR {names : List (Str × NameKind)} : ∀ {x : Str} {k : NameKind}, names.lookup x = some k -> x ∈ names.map (·.1) := fun {x k} h => List.mem_map.mpr ⟨_, PySem.mem_of_lookup h, rfl⟩
theorem BA {Φ : Fx} {sc scope : Scope} {cl : List (Str × Addr)} {C : Addr} {s : Shared} {H : Hp} {fp : List Addr} (G : aU Φ X sc) (h : nD sc scope = true) : aU Φ (jU X scope cl C (scope.names.map (·.1)) s H fp) scope := by
  obtain ⟨h1, h3, h4, h5⟩ := wL h
  refine ⟨G.calm, h5, fun x hx => ?_, fun x hx => ?_, fun x hx => lookup_relabel_local hx, fun x hx => cT (by decide) hx, fun g F hg => G.fn g F hg, G.con, G.blt, G.itr, G.mth, G.mtt, G.slf, G.fld, G.omt, G.bl, G.room, fun x hx => ?_, fun x hx => decide_eq_true hx⟩
  . exact cT (by decide) hx
  . rcases hx with hx | hx
    . exact .inl (cT (by decide) hx)
    . exact cU hx
  . unfold dJ at hx
    rw [Bool.or_eq_true] at hx
    rcases hx with hx | hx <;> exact mR (by simpa using hx)
theorem wG {Φ : Fx} {sc scope : Scope} (G : aU Φ X sc) (h : nD sc scope = true) : fS X.env scope (scope.names.map (·.1)) := by
  obtain ⟨h1, h3, h4, h5⟩ := wL h
  exact ⟨h1, h5, h3, h5, fun n hn => G.kc n (h4 (n, .free) hn rfl)⟩
theorem GX : ∀ {a b : Nat}, kj a b <= 1 -> a <= kj a b /\ b <= kj a b
  | 0, 0, _ => by decide
  | 0, 1, _ => by decide
  | 0, 2, h => absurd h (by decide)
  | 0, _ + 3, h => by rw [kj] at h; omega
  | 1, 0, _ => by decide
  | 1, 1, _ => by decide
  | 1, 2, h => absurd h (by decide)
  | 1, _ + 3, h => absurd h (by rw [kj] <;> simp)
  | 2, 0, h => absurd h (by decide)
  | 2, 1, h => absurd h (by decide)
  | 2, 2, h => absurd h (by decide)
  | 2, _ + 3, h => absurd h (by rw [kj] <;> simp)
  | _ + 3, 0, h => by rw [kj] at h <;> simp_all <;> omega
  | _ + 3, 1, h => absurd h (by rw [kj] <;> simp)
  | _ + 3, 2, h => absurd h (by rw [kj] <;> simp)
  | _ + 3, _ + 3, h => absurd h (by rw [kj] <;> simp)
theorem Kp.up {ow : Ow} {H : Hp} (o : eG ow H) {a : Addr} {b : Bool} : ∀ {i j : Nat}, i <= j -> j <= 1 -> Kp ow H i a b -> Kp ow H j a b
  | 0, 0, _, _, p => p
  | 0, 1, _, _, p => fun _ => o.free p.2
  | 1, 1, _, _, p => p
  | 1, 0, h, _, _ => absurd h (by omega)
  | _ + 2, _, h, g, _ => absurd h (by omega)
  | 0, _ + 2, _, g, _ => absurd g (by omega)
  | 1, _ + 2, _, g, _ => absurd g (by omega)
theorem ED.up {ρ : aj} {e : Expr} {d : D} {i j : Nat} (h : ED X ρ e d i) (h1 : i <= j) (h2 : j <= 1) : ED X ρ e d j := fun ow => bE (h ow) fun σ H Q ⟨E, q⟩ => ⟨E, fun v H' s r => q v H' s (r.imp fun a b p => Kp.up E.own h1 h2 p)⟩
def pD (step : D -> Rs (Option (D × Nat))) (d : D) : Option D := match step d with | .ok (some p) _ => some p.1 | _ => none
theorem rE {step : D -> Rs (Option (D × Nat))} : ∀ {ds : List D} {r : List D × Nat} {l : List Prop}, gc step ds = .ok r l -> aE l ->
    (∀ d ∈ ds, ∃ r l, step d = .ok r l /\ aE l) /\ r.1 = ds.filterMap (pD step) /\ (r.2 <= 1 -> ∀ d ∈ ds, ∀ p l, step d = .ok (some p) l -> p.2 <= r.2)
  | [], r, l, h, _ => by
    cases h
    exact ⟨fun d hd => (by cases hd), rfl, fun _ d hd => (by cases hd)⟩
  | d :: ds, r, l, h, hp => by
    obtain ⟨x, l1, l2, h1, p1, h, p2⟩ := aM h hp
    obtain ⟨q, l3, l4, h2, p3, h, p4⟩ := aM h p2
    obtain ⟨i1, i2, i3⟩ := rE h2 p3
    have i1' : ∀ y ∈ d :: ds, ∃ r l, step y = .ok r l /\ aE l := fun y hy => by
      rcases List.mem_cons.mp hy with rfl | hy
      . exact ⟨_, _, h1, p1⟩
      . exact i1 y hy
    cases x with
    | none =>
      cases h
      refine ⟨i1', ?_, fun hj x hx y i e => ?_⟩
      . rw [List.filterMap_cons_none (by unfold pD; rw [h1])]; exact i2
      . rcases List.mem_cons.mp hx with rfl | hx
        . rw [h1] at e; cases e
        . exact i3 hj x hx y i e
    | some p =>
      cases h
      refine ⟨i1', ?_, fun hj x hx y i e => ?_⟩
      . rw [List.filterMap_cons_some (by unfold pD; rw [h1]), i2]
      . obtain ⟨a1, a2⟩ := GX hj
        rcases List.mem_cons.mp hx with rfl | hx
        . rw [h1] at e; cases e; exact a1
        . exact Nat.le_trans (i3 (Nat.le_trans a2 hj) x hx y i e) a2
end Sp
set_option Elab.async false
set_option linter.all false
set_option maxRecDepth 100000
namespace Sp
open PySem PySem.Spec PyProof.Rows L2
theorem bN {X : Cx} {ρ : aj} {e : Expr} {it : Bool} {d : D} {k : Nat} (h : ED X ρ e d k) (he : ∀ whole, isTrue e X.env whole = (do let v <- whole; standAt e.pos; holding [v] (truthy v))) : e9 X ρ e it d k := .of h fun b hb => by subst hb; exact Gi h he
theorem CJ {X : Cx} {ρ : aj} {a b : Expr} {op : CmpOp} {pos : Pos} {x y : D} {r : Bool} {k j : Nat} {o : List Prop} (hu : X.A.units + 70 < cLine) (ha : ED X ρ a x k) (hb : ED X ρ b y j) (h : gM op x y = .ok r o) (hp : aE o) (hm : behindInMarks op b = false) : TD X ρ (.Compare a [op] [b] pos) r := by
  have c := iO (X := X) hu h hp
  intro ow pins s σ H Q I ⟨E, q⟩
  refine wpAny_isTrue_Compare1 (Hw (ha ow) (hb ow) I (R := fun v u H2 => aD H H2 /\ ah X.K H2 (fun _ _ => True) x v /\ ah X.K H2 (fun _ _ => True) y u) ⟨E, fun v H1 s1 r1 => ⟨E.same s1, fun u H2 s2 r2 => ⟨s1.trans s2, (r1.imp fun _ _ _ => True.intro).same s2, r2.imp fun _ _ _ => True.intro⟩⟩⟩ fun v u s2 x y H2 I2 rx ry ⟨sm, r1, r2⟩ => ?_) hm
  refine aN (c _ _ pins s2 σ H2 x y v u (fun w H' => w = .bl r /\ H2 = H') I2 rx ry ⟨r1, r2, rfl, rfl⟩) fun u' s3 ⟨w, H3, I3, r3, e1, e2⟩ => ?_
  subst e1 e2
  cases (show u' = Value.bool r from r3)
  exact wpAny_truthy_bool ⟨H2, I3, q H2 sm⟩
theorem xp {X : Cx} {ρ : aj} {a b c : Expr} {op op2 : CmpOp} {pos : Pos} {x y z : Int} {r r2 : Bool} {k j i : Nat} (hu : X.A.units + 70 < cLine) (ha : ED X ρ a (.int x) k) (hb : ED X ρ b (.int y) j) (hc : ED X ρ c (.int z) i) (h : fF op x y = some r) (h2 : fF op2 y z = some r2) (hm : behindInMarks op2 c = false) : TD X ρ (.Compare a [op, op2] [b, c] pos) (r && r2) := by
  have c1 := iO (X := X) hu (nB h) (show aE [] from True.intro)
  have c2 := iO (X := X) hu (nB h2) (show aE [] from True.intro)
  refine fun ow => vc (xD (c1 (fun _ _ => True) (fun _ _ => True)) (c2 (fun _ _ => True) (fun _ _ => True)) (ha ow) (hb ow) (hc ow) hm) fun σ H Q ⟨E, q⟩ => ⟨E, fun v H1 s1 r1 => ⟨E.same s1, fun u H2 s2 r2 => ?_⟩⟩
  rw [ah] at r1 r2
  subst r1 r2
  refine ⟨by rw [ah], by rw [ah], r, rfl, ?_⟩
  cases r with
  | false => exact ⟨false, rfl, q H2 (s1.trans s2)⟩
  | true =>
    rw [if_pos rfl]
    refine ⟨(E.same s1).same s2, fun w H3 s3 r3 => ?_⟩
    rw [ah] at r3
    subst r3
    exact ⟨by rw [ah], by rw [ah], _, rfl, q H3 ((s1.trans s2).trans s3)⟩
theorem CI {X : Cx} {ρ : aj} {a : Expr} {pos : Pos} {b : Bool} (h : TD X ρ a b) : TD X ρ (.UnaryOp .Not a pos) (!b) := fun ow => vc (C7 (h ow)) fun σ H Q ⟨E, q⟩ => ⟨E, fun H1 s1 => q H1 s1⟩
structure dH (X : Cx) (ρ : aj) (op : BoolOp) (es : List Expr) (b : Bool) : Prop where
  ed : es ≠ [] -> ∀ pos, ED X ρ (.BoolOp op es pos) (.bl b) 0
  tw : es ≠ [] -> ∀ pos ow, PW X (.BoolOp op es pos) (zi X ow ρ b)
  ts : op = .And -> w6 X ρ es b
theorem fJ {X : Cx} {ρ : aj} {op : BoolOp} {e : Expr} {b : Bool} {k : Nat} (h : ED X ρ e (.bl b) k) (t : TD X ρ e b) : dH X ρ op [e] b := by
  have h0 : ED X ρ e (.bl b) 0 := by
    have := h.kn
    rw [show kn (.bl b) k = 0 from rfl] at this
    exact this
  refine ⟨fun _ pos ow => Dm (h0 ow), fun _ pos ow => ?_, fun _ => nS t (by cases b; rfl; exact vo)⟩
  cases op with
  | And => exact AH (t ow)
  | Or => exact C5 (t ow)
theorem sE {X : Cx} {ρ : aj} {e e2 : Expr} {es : List Expr} {b : Bool} {k : Nat} (h : ED X ρ e (.bl true) k) (t : TD X ρ e true) (r : dH X ρ .And (e2 :: es) b) : dH X ρ .And (e :: e2 :: es) b := by
  refine ⟨fun _ pos ow => ?_, fun _ pos ow => ?_, fun _ => nS t (by rw [if_pos rfl]; exact r.ts rfl)⟩
  . refine bE (vI (h ow) (r.ed (by simp) pos ow)) fun σ H Q ⟨E, q⟩ => ⟨E, fun v H1 s1 r1 => ?_⟩
    rw [ah] at r1
    exact ⟨true, r1, by rw [if_pos rfl]; exact ⟨E.same s1, fun w H2 s2 r2 => q w H2 (s1.trans s2) (r2.imp (Kp.back s1 0))⟩⟩
  . intro wh pins s σ H Q I hq
    exact vA (t ow) (r.tw (by simp) pos ow) wh pins s σ H Q I ⟨hq.1, fun H1 s1 => by dsimp only; rw [if_pos rfl]; exact ⟨hq.1.same s1, fun H2 s2 => hq.2 H2 (s1.trans s2)⟩⟩
theorem rJ {X : Cx} {ρ : aj} {e e2 : Expr} {es : List Expr} {k : Nat} (h : ED X ρ e (.bl false) k) (t : TD X ρ e false) (ne : ∀ pos, ∃ t, PE X (.BoolOp .And (e2 :: es) pos) t) (nw : ∀ pos, ∃ t, PW X (.BoolOp .And (e2 :: es) pos) t) : dH X ρ .And (e :: e2 :: es) false := by
  refine ⟨fun _ pos ow => ?_, fun _ pos ow => ?_, fun _ => nS t (by rw [if_neg Bool.false_ne_true])⟩
  . obtain ⟨t2, h2⟩ := ne pos
    refine bE (vI (h ow) h2) fun σ H Q ⟨E, q⟩ => ⟨E, fun v H1 s1 r1 => ?_⟩
    rw [ah] at r1
    exact ⟨false, r1, by rw [if_neg Bool.false_ne_true]; exact q _ H1 s1 (by rw [ah])⟩
  . obtain ⟨t2, h2⟩ := nw pos
    intro wh pins s σ H Q I hq
    exact vA (t ow) h2 wh pins s σ H Q I ⟨hq.1, fun H1 s1 => by dsimp only; rw [if_neg Bool.false_ne_true]; exact hq.2 H1 s1⟩
theorem uU {X : Cx} {ρ : aj} {e e2 : Expr} {es : List Expr} {b : Bool} {k : Nat} (h : ED X ρ e (.bl false) k) (t : TD X ρ e false) (r : dH X ρ .Or (e2 :: es) b) : dH X ρ .Or (e :: e2 :: es) b := by
  refine ⟨fun _ pos ow => ?_, fun _ pos ow => ?_, fun z => by cases z⟩
  . refine bE (zE (h ow) (r.ed (by simp) pos ow)) fun σ H Q ⟨E, q⟩ => ⟨E, fun v H1 s1 r1 => ?_⟩
    rw [ah] at r1
    exact ⟨false, r1, by rw [if_neg Bool.false_ne_true]; exact ⟨E.same s1, fun w H2 s2 r2 => q w H2 (s1.trans s2) (r2.imp (Kp.back s1 0))⟩⟩
  . intro wh pins s σ H Q I hq
    exact zx (t ow) (r.tw (by simp) pos ow) wh pins s σ H Q I ⟨hq.1, fun H1 s1 => by dsimp only; rw [if_neg Bool.false_ne_true]; exact ⟨hq.1.same s1, fun H2 s2 => hq.2 H2 (s1.trans s2)⟩⟩
theorem sD {X : Cx} {ρ : aj} {e e2 : Expr} {es : List Expr} {k : Nat} (h : ED X ρ e (.bl true) k) (t : TD X ρ e true) (ne : ∀ pos, ∃ t, PE X (.BoolOp .Or (e2 :: es) pos) t) (nw : ∀ pos, ∃ t, PW X (.BoolOp .Or (e2 :: es) pos) t) : dH X ρ .Or (e :: e2 :: es) true := by
  refine ⟨fun _ pos ow => ?_, fun _ pos ow => ?_, fun z => by cases z⟩
  . obtain ⟨t2, h2⟩ := ne pos
    refine bE (zE (h ow) h2) fun σ H Q ⟨E, q⟩ => ⟨E, fun v H1 s1 r1 => ?_⟩
    rw [ah] at r1
    exact ⟨true, r1, by rw [if_pos rfl]; exact q _ H1 s1 (by rw [ah])⟩
  . obtain ⟨t2, h2⟩ := nw pos
    intro wh pins s σ H Q I hq
    exact zx (t ow) h2 wh pins s σ H Q I ⟨hq.1, fun H1 s1 => by dsimp only; rw [if_pos rfl]; exact hq.2 H1 s1⟩
theorem qz {X : Cx} {e : Expr} : PE X e (fun _ _ _ => False) := fun _ _ _ _ _ _ h => h.elim
theorem qv {X : Cx} {e : Expr} : PW X e (fun _ _ _ => False) := fun _ _ _ _ _ _ _ h => h.elim
theorem zY {op : CmpOp} {b : Expr} {Φ : Fx} {sc : Scope} {ρ : aj} {r : D × Nat} {it : Bool} {l : List Prop} (h : ay Φ b it sc ρ = .ok r l) : behindInMarks op b = false := by
  cases b <;> first | rfl | cases h
theorem tK {sc : Scope} {x z : Str} (h : dJ sc z = true) (hx : sc.names.lookup x = some .free) : x ≠ z := by
  intro e; subst e
  unfold dJ at h
  rw [hx] at h
  revert h; decide
theorem uV {sc : Scope} : ∀ {es : List Expr} {ds : List D} {ρ ρ' : aj}, aP sc es ds ρ = some ρ' -> ∀ x y, sc.names.lookup x = some .free -> ρ x = some y -> ρ' x = some y := by
  intro es
  induction es with
  | nil =>
    intro ds ρ ρ' h x y hx hl
    cases ds with
    | nil => rw [aP] at h; cases h; exact hl
    | cons d ds => cases h
  | cons e es ih =>
    intro ds ρ ρ' h x y hx hl
    cases ds with
    | nil => cases e <;> cases h
    | cons d ds =>
      cases e with
      | Name z p =>
        rw [aP] at h
        split at h
        . rename_i hz
          exact ih h x y hx (by rw [de, if_neg (tK hz hx)]; exact hl)
        . cases h
      | _ => cases h
theorem wM {sc : Scope} {tg : Expr} {d : D} {ρ ρ' : aj} (h : bJ sc tg d ρ = some ρ') : ∀ x y, sc.names.lookup x = some .free -> ρ x = some y -> ρ' x = some y := by
  intro x y hx hl
  unfold bJ at h
  split at h
  . split at h
    . rename_i hz
      cases h
      rw [de, if_neg (tK hz hx)]; exact hl
    . cases h
  . split at h
    . exact uV h x y hx hl
    . cases h
  . cases h
theorem oY {Φ : Fx} {e : Expr} {it : Bool} {sc : Scope} {ρ : aj} {r : D × Nat} {l : List Prop} {env : Env} (h : ay Φ e it sc ρ = .ok r l) (x : Value) : foldedSetIterable e env x = pure x := by
  cases e <;> first | rfl | cases h
mutual
theorem qG : ∀ x y : D, oh true x y = x
  | .int _, .int _ => rfl
  | .bl _, .bl _ => rfl
  | .tup l, .tup m => by
    show (if l.length = m.length then D.tup (jN true l m) else cond true (.tup l) (.tup m)) = .tup l
    split
    . rename_i h; rw [vO l m h]
    . rfl
  | .non, _ => rfl
  | .str _, _ => rfl
  | .dct _ _, _ => rfl
  | .lst _, _ => rfl
  | .typ _, _ => rfl
  | .sn _, _ => rfl
  | .obj _ _ _, _ => rfl
  | .cls _, _ => rfl
  | .int _, .non => rfl
  | .int _, .bl _ => rfl
  | .int _, .str _ => rfl
  | .int _, .dct _ _ => rfl
  | .int _, .typ _ => rfl
  | .int _, .sn _ => rfl
  | .int _, .obj _ _ _ => rfl
  | .int _, .cls _ => rfl
  | .int _, .tup _ => rfl
  | .int _, .lst _ => rfl
  | .bl _, .non => rfl
  | .bl _, .int _ => rfl
  | .bl _, .str _ => rfl
  | .bl _, .dct _ _ => rfl
  | .bl _, .typ _ => rfl
  | .bl _, .sn _ => rfl
  | .bl _, .obj _ _ _ => rfl
  | .bl _, .cls _ => rfl
  | .bl _, .tup _ => rfl
  | .bl _, .lst _ => rfl
  | .tup _, .non => rfl
  | .tup _, .int _ => rfl
  | .tup _, .bl _ => rfl
  | .tup _, .str _ => rfl
  | .tup _, .dct _ _ => rfl
  | .tup _, .typ _ => rfl
  | .tup _, .sn _ => rfl
  | .tup _, .obj _ _ _ => rfl
  | .tup _, .cls _ => rfl
  | .tup _, .lst _ => rfl
theorem vO : ∀ l m : List D, l.length = m.length -> jN true l m = l
  | [], [], _ => rfl
  | x :: l, y :: m, h => by
    show oh true x y :: jN true l m = x :: l
    rw [qG x y, vO l m (by simpa using h)]
  | [], _ :: _, h => by cases h
  | _ :: _, [], h => by cases h
end
mutual
theorem qH : ∀ x y : D, oh false x y = y
  | .int _, .int _ => rfl
  | .bl _, .bl _ => rfl
  | .tup l, .tup m => by
    show (if l.length = m.length then D.tup (jN false l m) else cond false (.tup l) (.tup m)) = .tup m
    split
    . rename_i h; rw [vP l m h]
    . rfl
  | .non, _ => rfl
  | .str _, _ => rfl
  | .dct _ _, _ => rfl
  | .lst _, _ => rfl
  | .typ _, _ => rfl
  | .sn _, _ => rfl
  | .obj _ _ _, _ => rfl
  | .cls _, _ => rfl
  | .int _, .non => rfl
  | .int _, .bl _ => rfl
  | .int _, .str _ => rfl
  | .int _, .dct _ _ => rfl
  | .int _, .typ _ => rfl
  | .int _, .sn _ => rfl
  | .int _, .obj _ _ _ => rfl
  | .int _, .cls _ => rfl
  | .int _, .tup _ => rfl
  | .int _, .lst _ => rfl
  | .bl _, .non => rfl
  | .bl _, .int _ => rfl
  | .bl _, .str _ => rfl
  | .bl _, .dct _ _ => rfl
  | .bl _, .typ _ => rfl
  | .bl _, .sn _ => rfl
  | .bl _, .obj _ _ _ => rfl
  | .bl _, .cls _ => rfl
  | .bl _, .tup _ => rfl
  | .bl _, .lst _ => rfl
  | .tup _, .non => rfl
  | .tup _, .int _ => rfl
  | .tup _, .bl _ => rfl
  | .tup _, .str _ => rfl
  | .tup _, .dct _ _ => rfl
  | .tup _, .typ _ => rfl
  | .tup _, .sn _ => rfl
  | .tup _, .obj _ _ _ => rfl
  | .tup _, .cls _ => rfl
  | .tup _, .lst _ => rfl
theorem vP : ∀ l m : List D, l.length = m.length -> jN false l m = m
  | [], [], _ => rfl
  | x :: l, y :: m, h => by
    show oh false x y :: jN false l m = y :: m
    rw [qH x y, vP l m (by simpa using h)]
  | [], _ :: _, h => by cases h
  | _ :: _, [], h => by cases h
end
theorem zL {k j : Nat} : wc true k j = k := by unfold wc; split <;> rfl
theorem zM {k j : Nat} : wc false k j = j := by
  unfold wc; split
  . assumption
  . rfl
theorem tO {t : Bool} {r s : R1} {d : D × Nat} {l : List Prop} (h : zQ t r s = .ok d l) (hp : aE l) : ∃ m, (if t = true then r else s) = .ok d m /\ aE m := by
  unfold zQ at h
  split at h
  . cases t with
    | true => cases h
    | false => exact ⟨l, h, hp⟩
  . rename_i p m
    split at h
    . cases t with
      | true => exact ⟨l, h, hp⟩
      | false => cases h
    . rename_i q n
      cases h
      obtain ⟨p1, p2⟩ := df.mp hp
      cases t with
      | true => exact ⟨m, by rw [qG, zL]; rfl, ng p1 rfl⟩
      | false => exact ⟨n, by rw [qH, zM]; rfl, ng p2 rfl⟩
theorem lj {α : Type} {p : D × Nat} {f : Bool -> Rs α} {a : α} {l : List Prop} (h : ib p f = .ok a l) : ∃ b, p.1 = .bl b /\ f b = .ok a l := by
  unfold ib at h
  split at h
  . rename_i b e; exact ⟨b, e, h⟩
  . cases h
theorem yd {p : D × Nat} {f : Int -> R1} {a : D × Nat} {l : List Prop} (h : i6 p f = .ok a l) : ∃ b, p.1 = .int b /\ f b = .ok a l := by
  unfold i6 at h
  split at h
  . rename_i b e; exact ⟨b, e, h⟩
  . cases h
structure Ih (Φ : Fx) (n : Nat) : Prop where
  e : ∀ (e : Expr) {it : Bool} {sc : Scope} {ρ : aj} {p : D × Nat} {l : List Prop} {X : Cx}, sizeOf e < n -> ay Φ e it sc ρ = .ok p l -> aE l -> aU Φ X sc -> e9 X ρ e it p.1 p.2
  es : ∀ (es : List Expr) {sc : Scope} {ρ : aj} {p : List D × Nat} {l : List Prop} {X : Cx}, sizeOf es < n -> cx Φ es sc ρ = .ok p l -> aE l -> aU Φ X sc -> AD X ρ es p.1 p.2
  b : ∀ (op : BoolOp) (es : List Expr) {sc : Scope} {ρ : aj} {b : Bool} {l : List Prop} {X : Cx}, sizeOf es < n -> dl Φ op es sc ρ = .ok b l -> aE l -> aU Φ X sc -> dH X ρ op es b
  o : ∀ (e : Option Expr) {sc : Scope} {ρ : aj} {o : Option Int} {l : List Prop} {X : Cx}, sizeOf e < n -> lK Φ e sc ρ = .ok o l -> aE l -> aU Φ X sc -> OD X ρ e o
theorem aX {a b n : Nat} (h : a < b) (hs : b < n + 1) : a < n := Nat.lt_of_lt_of_le h (Nat.le_of_lt_succ hs)
section
variable {Φ : Fx} {n : Nat} {it : Bool} {sc : Scope} {ρ : aj} {r : D × Nat} {l : List Prop} {X : Cx}
theorem Au {x : Str} {pos : Pos} (h : i5 Φ x sc ρ = .ok r l) (G : aU Φ X sc) : e9 X ρ (.Name x pos) it r.1 r.2 := by
  unfold i5 at h
  split at h
  . rename_i hx
    split at h
    . rename_i hg
      split at h
      . rename_i d hd; cases h; exact bN (EC G hd hg hx) (fun _ => rfl)
      . split at h
        . rename_i T hT; cases h; exact bN (Ex G hT hg) (fun _ => rfl)
        . cases h
    . split at h
      . rename_i p hl
        unfold mk at h; cases h
        exact bN (BR (o := p.2) hl hx) (fun _ => rfl)
      . cases h
  . cases h
theorem CQ (I : Ih Φ n) {a b : Expr} {op : Operator} {pos : Pos} (hs : sizeOf (Expr.BinOp a op b pos) < n + 1) (h : ay Φ (.BinOp a op b pos) it sc ρ = .ok r l) (hp : aE l) (G : aU Φ X sc) : e9 X ρ (.BinOp a op b pos) it r.1 r.2 := by
  obtain ⟨p, l1, l2, h1, p1, h, p2⟩ := aM (show Rs.bnd _ _ = _ from h) hp
  obtain ⟨q, l3, l4, h2, p3, h, p4⟩ := aM h p2
  exact bN (EG ((I.e a (aX (by simp <;> omega) hs) h1 p1 G).ed rfl) ((I.e b (aX (by simp <;> omega) hs) h2 p3 G).ed rfl) h p4) (fun _ => rfl)
theorem Gv (I : Ih Φ n) {a : Expr} {op : UnaryOp} {pos : Pos} (hs : sizeOf (Expr.UnaryOp op a pos) < n + 1) (h : ay Φ (.UnaryOp op a pos) it sc ρ = .ok r l) (hp : aE l) (G : aU Φ X sc) : e9 X ρ (.UnaryOp op a pos) it r.1 r.2 := by
  obtain ⟨p, l1, l2, h1, p1, h, p2⟩ := aM (show Rs.bnd _ _ = _ from h) hp
  split at h
  . rename_i z hu
    cases h
    have c := I.e a (aX (by simp <;> omega) hs) h1 p1 G
    refine .of (Hf (c.ed rfl) hu) fun b hb => ?_
    have hb : z = .bl b := hb
    subst hb
    unfold vi at hu
    split at hu
    . cases hu
    . rename_i e; cases hu; exact CI (c.td rfl _ e)
    . cases hu
  . cases h
theorem CP (I : Ih Φ n) {a b : Expr} {op : CmpOp} {pos : Pos} (hs : sizeOf (Expr.Compare a [op] [b] pos) < n + 1) (h : ay Φ (.Compare a [op] [b] pos) it sc ρ = .ok r l) (hp : aE l) (G : aU Φ X sc) : e9 X ρ (.Compare a [op] [b] pos) it r.1 r.2 := by
  obtain ⟨p, l1, l2, h1, p1, h, p2⟩ := aM (show Rs.bnd _ _ = _ from h) hp
  obtain ⟨q, l3, l4, h2, p3, h, p4⟩ := aM h p2
  obtain ⟨z, l5, l6, hc, p5, h, p6⟩ := aM h p4
  cases h
  have ca := (I.e a (aX (by simp <;> omega) hs) h1 p1 G).ed rfl
  have cb := (I.e b (aX (by simp <;> omega) hs) h2 p3 G).ed rfl
  exact .of (EE G.room ca cb hc p5 (zY h2)) fun b' hb' => by cases hb'; exact CJ G.room ca cb hc p5 (zY h2)
theorem xr (I : Ih Φ n) {a b c : Expr} {op op2 : CmpOp} {pos : Pos} (hs : sizeOf (Expr.Compare a [op, op2] [b, c] pos) < n + 1) (h : ay Φ (.Compare a [op, op2] [b, c] pos) it sc ρ = .ok r l) (hp : aE l) (G : aU Φ X sc) : e9 X ρ (.Compare a [op, op2] [b, c] pos) it r.1 r.2 := by
  obtain ⟨p, l1, l2, h1, p1, h, p2⟩ := aM (show Rs.bnd _ _ = _ from h) hp
  obtain ⟨q, l3, l4, h2, p3, h, p4⟩ := aM h p2
  obtain ⟨t, l5, l6, h3, p5, h, p6⟩ := aM h p4
  obtain ⟨x, y, z, r1, r2, e1, e2, e3, k1, k2, rfl⟩ := B3 h
  have ca := (I.e a (aX (by simp <;> omega) hs) h1 p1 G).ed rfl
  have cb := (I.e b (aX (by simp <;> omega) hs) h2 p3 G).ed rfl
  have cc := (I.e c (aX (by simp <;> omega) hs) h3 p5 G).ed rfl
  rw [e1] at ca
  rw [e2] at cb
  rw [e3] at cc
  exact .of (yy G.room ca cb cc k1 k2 (zY h3)) fun b' hb' => by cases hb'; exact xp G.room ca cb cc k1 k2 (zY h3)
theorem Gw (I : Ih Φ n) {c a b : Expr} {pos : Pos} (hs : sizeOf (Expr.IfExp c a b pos) < n + 1) (h : ay Φ (.IfExp c a b pos) it sc ρ = .ok r l) (hp : aE l) (G : aU Φ X sc) : e9 X ρ (.IfExp c a b pos) it r.1 r.2 := by
  obtain ⟨p, l1, l2, h1, p1, h, p2⟩ := aM (show Rs.bnd _ _ = _ from h) hp
  obtain ⟨t, ht, h⟩ := lj h
  obtain ⟨m, he, hm⟩ := tO h p2
  have hc := (I.e c (aX (by simp <;> omega) hs) h1 p1 G).td rfl t ht
  cases t with
  | true =>
    rw [if_pos rfl] at he
    have ha := I.e a (aX (by simp <;> omega) hs) he hm G
    refine .of (zU hc (by rw [if_pos rfl]; exact ha.ed rfl)) fun b' hb' => ?_
    intro ow pins s σ H Q I ⟨E, q⟩
    refine isTrue_IfExp (aN (hc ow pins s σ H (fun t H1 => t = true /\ aD H H1) I ⟨E, fun H1 s1 => ⟨rfl, s1⟩⟩) fun t s1 ⟨H1, I1, e1, s1'⟩ => ?_)
    subst e1
    exact ha.td rfl b' hb' ow pins s1 σ H1 Q I1 ⟨E.same s1', fun H2 s2 => q H2 (s1'.trans s2)⟩
  | false =>
    rw [if_neg Bool.false_ne_true] at he
    have hb := I.e b (aX (by simp <;> omega) hs) he hm G
    refine .of (zU hc (by rw [if_neg Bool.false_ne_true]; exact hb.ed rfl)) fun b' hb' => ?_
    intro ow pins s σ H Q I ⟨E, q⟩
    refine isTrue_IfExp (aN (hc ow pins s σ H (fun t H1 => t = false /\ aD H H1) I ⟨E, fun H1 s1 => ⟨rfl, s1⟩⟩) fun t s1 ⟨H1, I1, e1, s1'⟩ => ?_)
    subst e1
    exact hb.td rfl b' hb' ow pins s1 σ H1 Q I1 ⟨E.same s1', fun H2 s2 => q H2 (s1'.trans s2)⟩
theorem ul {Φ : Fx} {e : Expr} {it : Bool} {sc : Scope} {ρ : aj} {r : D × Nat} {l : List Prop} (h : ay Φ e it sc ρ = .ok r l) : lz e := by
  cases e <;> first | (intro _ _; rfl) | cases h
theorem zr (I : Ih Φ n) {a i : Expr} {pos : Pos} (hs : sizeOf (Expr.Subscript a i pos) < n + 1) (h : ((ay Φ a false sc ρ).bnd fun p => (ay Φ i false sc ρ).bnd fun q => iW p q) = .ok r l) (hp : aE l) (G : aU Φ X sc) : e9 X ρ (.Subscript a i pos) it r.1 r.2 := by
  obtain ⟨p, l1, l2, h1, p1, h, p2⟩ := aM h hp
  obtain ⟨q, l3, l4, h2, p3, h, p4⟩ := aM h p2
  exact bN (Ey ((I.e a (aX (by simp <;> omega) hs) h1 p1 G).ed rfl) ((I.e i (aX (by simp <;> omega) hs) h2 p3 G).ed rfl) (ul h2) h) (fun _ => rfl)
theorem xq (I : Ih Φ n) {a : Expr} {lo hi : Option Expr} {p2 pos : Pos} (hs : sizeOf (Expr.Subscript a (.Slice lo hi none p2) pos) < n + 1) (h : ay Φ (.Subscript a (.Slice lo hi none p2) pos) it sc ρ = .ok r l) (hp : aE l) (G : aU Φ X sc) : e9 X ρ (.Subscript a (.Slice lo hi none p2) pos) it r.1 r.2 := by
  obtain ⟨p, l1, l2, h1, p1, h, q2⟩ := aM (show Rs.bnd _ _ = _ from h) hp
  obtain ⟨q, l3, l4, h2, p3, h, p4⟩ := aM h q2
  obtain ⟨q', l5, l6, h3, p5, h, p6⟩ := aM h p4
  exact bN (G.slf X ρ a lo hi p2 pos p.1 r.1 q q' p.2 r.2 l6 ((I.e a (aX (by simp <;> omega) hs) h1 p1 G).ed rfl) (I.o lo (aX (by simp <;> omega) hs) h2 p3 G) (I.o hi (aX (by simp <;> omega) hs) h3 p5 G) h p6) (fun _ => rfl)
theorem CO (I : Ih Φ n) {a i : Expr} {pos : Pos} (hs : sizeOf (Expr.Subscript a i pos) < n + 1) (h : ay Φ (.Subscript a i pos) it sc ρ = .ok r l) (hp : aE l) (G : aU Φ X sc) : e9 X ρ (.Subscript a i pos) it r.1 r.2 := by
  cases i with
  | Slice lo hi st p2 =>
    cases st with
    | none => exact xq I hs h hp G
    | some e => exact zr I hs h hp G
  | _ => exact zr I hs h hp G
theorem Av (I : Ih Φ n) {f : Str} {p pos : Pos} {args : List Expr} (hs : sizeOf args < n) (hf : sc.names.lookup f = some .globalImplicit) (h0 : ((cx Φ args sc ρ).bnd fun p => li Φ f it p.1 p.2) = .ok r l) (hp : aE l) (G : aU Φ X sc) : e9 X ρ (.Call (.Name f p) args [] pos) it r.1 r.2 := by
  obtain ⟨q, l1, l2, h1, p1, h, p2⟩ := aM h0 hp
  clear h0
  have ha := I.es args hs h1 p1 G
  obtain ⟨hst, hlen⟩ := dG h1 p1
  unfold li at h
  split at h
  . rename_i F hF
    obtain ⟨d, l3, l4, h2, p3, h, p4⟩ := aM h p2
    cases h
    exact bN (BX G hF hf ha hst (fun z => by subst z; exact List.length_eq_zero_iff.mp hlen.symm) h2 p3) (fun _ => rfl)
  . split at h
    . rename_i B hB
      split at hB
      . rename_i hit
        have hI := G.itr f B hB
        refine ⟨fun z => (by rw [hit] at z; cases z), fun z => (by rw [hit] at z; cases z), fun _ tg l' hl ht => ?_⟩
        exact hI.2 X ρ p pos args q.1 q.2 r.1 r.2 l' tg l2 G.calm (G.gl f hf) (G.bl f hI.1) ha hst hlen h p2 hl ht
      . cases hB
    . split at h
      . rename_i B hB
        have hb := G.blt f B hB
        cases args with
        | nil =>
          have e0 : q.1 = [] := List.length_eq_zero_iff.mp hlen.symm
          rw [e0, hb.2.2.2.1] at h; cases h
        | cons e es => exact bN (EF G hb hf ha hst h p2) (fun _ => rfl)
      . cases h
theorem xt (I : Ih Φ n) {f : Str} {p pos : Pos} {args : List Expr} (hs : sizeOf (Expr.Call (.Name f p) args [] pos) < n + 1) (h : ay Φ (.Call (.Name f p) args [] pos) it sc ρ = .ok r l) (hp : aE l) (G : aU Φ X sc) : e9 X ρ (.Call (.Name f p) args [] pos) it r.1 r.2 := by
  rw [jc] at h
  split at h
  . rename_i hf
    exact Av I (aX (by simp <;> omega) hs) hf h hp G
  . cases h
theorem xu (I : Ih Φ n) {a : Expr} {m : Str} {ap pos : Pos} {args : List Expr} (hs : sizeOf (Expr.Call (.Attribute a m ap) args [] pos) < n + 1) (h : ay Φ (.Call (.Attribute a m ap) args [] pos) it sc ρ = .ok r l) (hp : aE l) (G : aU Φ X sc) : e9 X ρ (.Call (.Attribute a m ap) args [] pos) it r.1 r.2 := by
  rw [rA] at h
  split at h
  . rename_i hln
    obtain ⟨p, l1, l2, h1, p1, h, p2⟩ := aM h hp
    obtain ⟨q, l3, l4, h2, p3, h, p4⟩ := aM h p2
    obtain ⟨hst, hlen⟩ := dG h2 p3
    have hea := (I.e a (aX (by simp <;> omega) hs) h1 p1 G).ed rfl
    have hes := I.es args (aX (by simp <;> omega) hs) h2 p3 G
    obtain ⟨x, kx⟩ := p
    unfold xU at h
    dsimp only at h hea
    split at h
    . rename_i n ns es
      split at h
      . rename_i hc
        split at h
        . rename_i F hF
          obtain ⟨d, l5, l6, h3, p5, h, p6⟩ := aM h p4
          cases h
          exact bN (BS G hF hea hes hst hlen hc.1 hc.2.1 hc.2.2 hln h3 p5) (fun _ => rfl)
        . cases h
      . cases h
    . split at h
      . rename_i hb
        split at h
        . rename_i M hM
          exact bN (G.mth m M hM X ρ a args ap pos x kx q.1 q.2 r.1 r.2 l4 G.calm G.room hea hes hst hlen hln hb h p4) (fun _ => rfl)
        . cases h
      . cases h
  . cases h
theorem As {elt tg : Expr} {ifs : List Expr} {scope : Scope} {ds : List D} {q : List D × Nat} {m : List Prop} (hE : ∀ {ρ : aj} {p : D × Nat} {l : List Prop} {X : Cx}, ay Φ elt false scope ρ = .ok p l -> aE l -> aU Φ X scope -> e9 X ρ elt false p.1 p.2)
    (hB : ∀ {ρ : aj} {b : Bool} {l : List Prop} {X : Cx}, dl Φ .And ifs scope ρ = .ok b l -> aE l -> aU Φ X scope -> dH X ρ .And ifs b) (hc : nD sc scope = true) (G : aU Φ X sc)
    (h : gc (fun d => match bJ scope tg d (flt scope ρ) with
            | none => .st
            | some ρ' => (dl Φ .And ifs scope ρ').bnd fun b => cond b ((ay Φ elt false scope ρ').bnd fun r => .ok (some r) []) (.ok none [])) ds = .ok q m) (hp : aE m) (hj : q.2 <= 1) :
    ∃ f : D -> Option D, q.1 = ds.filterMap f /\ ∀ cl C s H fp, ∀ d ∈ ds, ln (jU X scope cl C (scope.names.map (·.1)) s H fp) (flt scope ρ) tg ifs elt q.2 d (f d) := by
  generalize hst : (fun d => match bJ scope tg d (flt scope ρ) with
            | none => .st
            | some ρ' => (dl Φ .And ifs scope ρ').bnd fun b => cond b ((ay Φ elt false scope ρ').bnd fun r => .ok (some r) []) (.ok none []) : D -> Rs (Option (D × Nat))) = step at h
  obtain ⟨c1, c2, c3⟩ := rE h hp
  refine ⟨_, c2, fun cl C s H fp d hd => ?_⟩
  have G' := BA (cl := cl) (C := C) (s := s) (H := H) (fp := fp) G hc
  obtain ⟨x, lx, hx, px⟩ := c1 d hd
  have c3 := c3 hj d hd
  have hs := congrFun hst d
  unfold pD
  rw [hx]
  split at hs
  . rw [<- hs] at hx; cases hx
  . rename_i ρ' hb
    have gd := zR G' hb
    have ext : ∀ x y, flt scope ρ x = some y -> ρ' x = some y := fun x y hxy => wM hb x y (ja hxy).2 hxy
    have hx0 := hx
    rw [<- hs] at hx
    obtain ⟨b, l3, l4, h2, p3, hx, p4⟩ := aM hx px
    have ts := (hB h2 p3 G').ts rfl
    cases b with
    | false =>
      cases hx
      exact ⟨ρ', false, gd, ext, ts, rfl⟩
    | true =>
      rw [cond_true] at hx
      obtain ⟨z, l5, l6, h3, p5, hx, p6⟩ := aM hx p4
      cases hx
      exact ⟨ρ', true, gd, ext, ts, rfl, ((hE h3 p5 G').ed rfl).up (c3 z lx hx0) hj⟩
theorem sT (I : Ih Φ n) {elt tg iter : Expr} {ifs : List Expr} {scope : Scope} {pos : Pos} (hs : sizeOf (Expr.ListComp elt [⟨tg, iter, ifs, 0⟩] scope pos) < n + 1) (h : ay Φ (.ListComp elt [⟨tg, iter, ifs, 0⟩] scope pos) it sc ρ = .ok r l) (hp : aE l) (G : aU Φ X sc) :
    ∃ ds f k, (ao ds = true \/ k <= 1) /\ r.2 <= 1 /\ ds.length < sizeLine /\ fS X.env scope (scope.names.map (·.1)) /\ (∀ x d o, flt scope ρ x = some (d, o) -> x ∈ scope.names.map (·.1)) /\ IE X ρ tg iter ds k /\
      (∀ cl C s H fp, ∀ d ∈ ds, ln (jU X scope cl C (scope.names.map (·.1)) s H fp) (flt scope ρ) tg ifs elt r.2 d (f d)) /\ (∀ x, foldedSetIterable iter X.env x = pure x) /\ r.1 = .lst (ds.filterMap f) := by
  rw [ou] at h
  split at h
  . rename_i hc
    obtain ⟨p, l1, l2, h1, p1, h, p2⟩ := aM h hp
    split at h
    . rename_i ds hd
      split at h
      . rename_i ht
        obtain ⟨u0, l7, l8, h7, p7, h, p8⟩ := aM h p2
        cases h7
        have hl := And.intro p7.1 p7.2.1
        obtain ⟨q, l3, l4, h2, p3, h, p4⟩ := aM h p8
        split at h
        . rename_i hj
          cases h
          obtain ⟨f, e1, t⟩ := As (fun a b c => I.e elt (by first | omega | (simp at *; omega)) a b c) (fun a b c => I.b .And ifs (by first | omega | (simp at *; omega)) a b c) hc G h2 p3 hj
          refine ⟨ds, f, p.2, hl.2, hj, Nat.lt_of_le_of_lt hl.1 oS, wG G hc, fun x d o hx => mR (ja hx).2, (I.e iter (by first | omega | (simp at *; omega)) h1 p1 G).ie rfl tg ds hd ht, t, oY h1, by rw [e1]⟩
        . cases h
      . cases h
    . cases h
  . cases h
theorem om {elt : Expr} {gens : List Comprehension} {scope : Scope} {pos : Pos} (h : ay Φ (.ListComp elt gens scope pos) it sc ρ = .ok r l) : ∃ tg iter ifs, gens = [⟨tg, iter, ifs, 0⟩] := by
  match gens, h with
  | [⟨tg, iter, ifs, 0⟩], h => exact ⟨_, _, _, rfl⟩
  | [], h => cases h
  | ⟨_, _, _, .ofNat (n + 1)⟩ :: r, h => cases r <;> cases h
  | ⟨_, _, _, .negSucc n⟩ :: _, h => cases h
  | ⟨_, _, _, 0⟩ :: _ :: _, h => cases h
theorem G9 (I : Ih Φ n) (e : Expr) (hs : sizeOf e < n + 1) (h : ay Φ e it sc ρ = .ok r l) (hp : aE l) (G : aU Φ X sc) : e9 X ρ e it r.1 r.2 := by
  cases e with
  | Constant c k p =>
    replace h : (match zW c with | some d => .ok (d, 0) [] | none => .st : R1) = .ok r l := h
    split at h
    . rename_i d hc; cases h; exact bN (EB hc) (fun _ => rfl)
    . cases h
  | Name x p => exact Au h G
  | BinOp a op b p => exact CQ I hs h hp G
  | UnaryOp op a p => exact Gv I hs h hp G
  | BoolOp op es p =>
    rw [ox] at h
    split at h
    . cases h
    . rename_i hne
      obtain ⟨b, l1, l2, h1, p1, h, p2⟩ := aM h hp
      cases h
      have ne : es ≠ [] := fun z => hne (by rw [z]; rfl)
      have c := I.b op es (aX (by simp <;> omega) hs) h1 p1 G
      exact .of (c.ed ne p) fun b' hb' => by cases hb'; exact fun ow => (c.tw ne p ow).pt
  | Compare a ops bs p =>
    match ops, bs, hs, h with
    | [op], [b], hs, h => exact CP I hs h hp G
    | [], bs, _, h => cases h
    | [op], [], _, h => cases h
    | [op], _ :: _ :: _, _, h => cases h
    | [op, op2], [b, c], hs, h => exact xr I hs h hp G
    | [_, _], [], _, h => cases h
    | [_, _], [_], _, h => cases h
    | [_, _], _ :: _ :: _ :: _, _, h => cases h
    | _ :: _ :: _ :: _, bs, _, h => cases h
  | IfExp c a b p => exact Gw I hs h hp G
  | Tuple es k p =>
    obtain ⟨q, l1, l2, h1, p1, h, p2⟩ := aM (show Rs.bnd _ _ = _ from h) hp
    split at h
    . rename_i hl
      unfold mk at h; cases h
      exact bN (rB (I.es es (aX (by simp <;> omega) hs) h1 p1 G) hl) (fun _ => rfl)
    . cases h
  | List es p =>
    obtain ⟨q, l1, l2, h1, p1, h, p2⟩ := aM (show Rs.bnd _ _ = _ from h) hp
    split at h
    . rename_i hl
      cases h
      exact bN (BV (I.es es (aX (by simp <;> omega) hs) h1 p1 G) hl.2 hl.1) (fun _ => rfl)
    . cases h
  | Attribute a f p =>
    cases a with
    | Name x pn =>
      obtain ⟨q, l1, l2, h1, p1, h, p2⟩ := aM (show Rs.bnd _ _ = _ from h) hp
      have hea := (I.e (.Name x pn) (aX (by simp <;> omega) hs) (it := false) h1 p1 G).ed rfl
      obtain ⟨d, kd⟩ := q
      unfold Eg at h
      dsimp only at h hea
      split at h
      . rename_i n ns ds
        split at h
        . rename_i hf
          split at h
          . rename_i e hl
            cases h
            exact bN (Ez G hf hea rfl hl) (fun _ => rfl)
          . cases h
        . cases h
      . cases h
    | _ => cases h
  | Dict ks vs p =>
    match ks, vs, h with
    | [], [], h => cases h; exact bN EA (fun _ => rfl)
    | _ :: _, _, h => cases h
    | [], _ :: _, h => cases h
  | Subscript a i p => exact CO I hs h hp G
  | Call f args kws p =>
    cases f with
    | Name f fp =>
      cases kws with
      | nil => exact xt I hs h hp G
      | cons _ _ => cases h
    | Attribute a m ap =>
      cases kws with
      | nil => exact xu I hs h hp G
      | cons _ _ => cases h
    | _ => cases h
  | ListComp elt gens scope p =>
    obtain ⟨tg, iter, ifs, rfl⟩ := om h
    obtain ⟨ds, f, k, a1, a2, a3, a4, a5, a6, a7, a8, a9⟩ := sT I hs h hp G
    rw [a9]
    exact bN (BW G.calm G.nd a1 a2 a3 a4 a5 a6 a7 a8) (fun _ => rfl)
  | _ => cases h
theorem Ek (I : Ih Φ n) (es : List Expr) {r : List D × Nat} (hs : sizeOf es < n + 1) (h : cx Φ es sc ρ = .ok r l) (hp : aE l) (G : aU Φ X sc) : AD X ρ es r.1 r.2 := by
  cases es with
  | nil => cases h; exact wQ
  | cons e es =>
    obtain ⟨p, l1, l2, h1, p1, h, p2⟩ := aM (show Rs.bnd _ _ = _ from h) hp
    obtain ⟨q, l3, l4, h2, p3, h, p4⟩ := aM h p2
    cases h
    exact oB ((I.e e (aX (by simp <;> omega) hs) h1 p1 G).ed rfl) (I.es es (aX (by simp <;> omega) hs) h2 p3 G) (bj (nA h1))
theorem rQ {b c : Bool} {r : Rs Bool} {l : List Prop} (h : uX b r = .ok c l) (hp : aE l) : (b = true /\ ∃ m, r = .ok c m /\ aE m) \/ (b = false /\ c = false) := by
  unfold uX at h
  split at h
  . rename_i c' m
    cases h
    cases b with
    | true => exact .inl ⟨rfl, m, rfl, ng hp rfl⟩
    | false => exact .inr ⟨rfl, rfl⟩
  . cases b with
    | true => cases h
    | false => cases h; exact .inr ⟨rfl, rfl⟩
theorem tm {b c : Bool} {r : Rs Bool} {l : List Prop} (h : zG b r = .ok c l) (hp : aE l) : (b = false /\ ∃ m, r = .ok c m /\ aE m) \/ (b = true /\ c = true) := by
  unfold zG at h
  split at h
  . rename_i c' m
    cases h
    cases b with
    | false => exact .inl ⟨rfl, m, rfl, ng hp rfl⟩
    | true => exact .inr ⟨rfl, rfl⟩
  . cases b with
    | false => cases h
    | true => cases h; exact .inr ⟨rfl, rfl⟩
theorem Em (I : Ih Φ n) (op : BoolOp) (es : List Expr) {b : Bool} (hs : sizeOf es < n + 1) (h : dl Φ op es sc ρ = .ok b l) (hp : aE l) (G : aU Φ X sc) : dH X ρ op es b := by
  cases es with
  | nil =>
    cases op with
    | And => cases h; exact ⟨fun z => absurd rfl z, fun z => absurd rfl z, fun _ => vo⟩
    | Or => cases h; exact ⟨fun z => absurd rfl z, fun z => absurd rfl z, fun z => (by cases z)⟩
  | cons e es =>
    cases op with
    | And =>
      obtain ⟨p, l1, l2, h1, p1, h, p2⟩ := aM (show Rs.bnd _ _ = _ from h) hp
      obtain ⟨b', hb, h⟩ := lj h
      have c := I.e e (aX (by simp <;> omega) hs) h1 p1 G
      have ce := c.ed rfl
      rw [hb] at ce
      have ct := c.td rfl b' hb
      rcases rQ h p2 with ⟨rfl, m, h, pm⟩ | ⟨rfl, rfl⟩
      . cases es with
        | nil => cases h; exact fJ ce ct
        | cons e2 es => exact sE ce ct (I.b .And (e2 :: es) (aX (by simp <;> omega) hs) h pm G)
      . cases es with
        | nil => exact fJ ce ct
        | cons e2 es => exact rJ ce ct (fun pos => ⟨_, qz⟩) (fun pos => ⟨_, qv⟩)
    | Or =>
      obtain ⟨p, l1, l2, h1, p1, h, p2⟩ := aM (show Rs.bnd _ _ = _ from h) hp
      obtain ⟨b', hb, h⟩ := lj h
      have c := I.e e (aX (by simp <;> omega) hs) h1 p1 G
      have ce := c.ed rfl
      rw [hb] at ce
      have ct := c.td rfl b' hb
      rcases tm h p2 with ⟨rfl, m, h, pm⟩ | ⟨rfl, rfl⟩
      . cases es with
        | nil => cases h; exact fJ ce ct
        | cons e2 es => exact uU ce ct (I.b .Or (e2 :: es) (aX (by simp <;> omega) hs) h pm G)
      . cases es with
        | nil => exact fJ ce ct
        | cons e2 es => exact sD ce ct (fun pos => ⟨_, qz⟩) (fun pos => ⟨_, qv⟩)
theorem El (I : Ih Φ n) (e : Option Expr) {o : Option Int} (hs : sizeOf e < n + 1) (h : lK Φ e sc ρ = .ok o l) (hp : aE l) (G : aU Φ X sc) : OD X ρ e o := by
  cases e with
  | none => cases h; exact Bb
  | some e =>
    obtain ⟨p, l1, l2, h1, p1, h, p2⟩ := aM (show Rs.bnd _ _ = _ from h) hp
    have c := (I.e e (aX (by simp <;> omega) hs) h1 p1 G).ed rfl
    split at h
    . rename_i i hi
      cases h
      rw [hi] at c
      exact Ba c
    . cases h
end
theorem gH (Φ : Fx) : ∀ n, Ih Φ n
  | 0 => ⟨fun _ _ _ _ _ _ _ h => absurd h (Nat.not_lt_zero _), fun _ _ _ _ _ _ h => absurd h (Nat.not_lt_zero _), fun _ _ _ _ _ _ _ h => absurd h (Nat.not_lt_zero _), fun _ _ _ _ _ _ h => absurd h (Nat.not_lt_zero _)⟩
  | n + 1 => ⟨fun e _ _ _ _ _ _ hs h hp G => G9 (gH Φ n) e hs h hp G, fun e _ _ _ _ _ hs h hp G => Ek (gH Φ n) e hs h hp G, fun op e _ _ _ _ _ hs h hp G => Em (gH Φ n) op e hs h hp G, fun e _ _ _ _ _ hs h hp G => El (gH Φ n) e hs h hp G⟩
theorem Ha {Φ : Fx} (e : Expr) {it : Bool} {sc : Scope} {ρ : aj} {p : D × Nat} {l : List Prop} {X : Cx} (h : ay Φ e it sc ρ = .ok p l) (hp : aE l) (G : aU Φ X sc) : e9 X ρ e it p.1 p.2 := (gH Φ _).e e (Nat.lt_succ_self _) h hp G
theorem rj {Φ : Fx} (es : List Expr) {sc : Scope} {ρ : aj} {p : List D × Nat} {l : List Prop} {X : Cx} (h : cx Φ es sc ρ = .ok p l) (hp : aE l) (G : aU Φ X sc) : AD X ρ es p.1 p.2 := (gH Φ _).es es (Nat.lt_succ_self _) h hp G
end Sp
set_option Elab.async false
set_option linter.all false
set_option maxRecDepth 100000
namespace Sp
open PySem PySem.Spec PyProof.Rows L2
structure bh (ow : Ow) (H : Hp) (ow' : Ow) (H' : Hp) : Prop where
  keep : ∀ a o, H a = some o -> (nm o \/ ow a = none) -> H' a = some o
  low : ∀ a o, H a = some o -> ow a = none -> ow' a = none
theorem bh.refl (ow : Ow) (H : Hp) : bh ow H ow H := ⟨fun _ _ h _ => h, fun _ _ _ h => h⟩
theorem bh.same {ow : Ow} {H H' : Hp} (s : aD H H') : bh ow H ow H' := ⟨fun a o h _ => s a o h, fun _ _ _ h => h⟩
theorem bh.trans {ow ow1 ow2 : Ow} {H H1 H2 : Hp} (a : bh ow H ow1 H1) (b : bh ow1 H1 ow2 H2) : bh ow H ow2 H2 :=
  ⟨fun x o h c => b.keep x o (a.keep x o h c) (c.imp id fun z => a.low x o h z), fun x o h z => b.low x o (a.keep x o h (.inr z)) (a.low x o h z)⟩
def dF (H0 : Hp) (ow : Ow) (H : Hp) : Prop := ∀ a o, H0 a = some o -> H a = some o /\ ow a = none
theorem dF.keep {H0 : Hp} {ow ow' : Ow} {H H' : Hp} (b : dF H0 ow H) (k : bh ow H ow' H') : dF H0 ow' H' := fun a o h => let ⟨h1, h2⟩ := b a o h; ⟨k.keep a o h1 (.inr h2), k.low a o h1 h2⟩
theorem dF.sm {H0 : Hp} {ow : Ow} {H : Hp} (b : dF H0 ow H) : aD H0 H := fun a o h => (b a o h).1
variable {X : Cx}
def oI (X : Cx) (H0 : Hp) (ow : Ow) (H : Hp) (fl : Fl) (D : kD) : Prop :=
  match fl with
  | .nx ρ => ∀ ow' σ' H', aS X ow' H' σ' ρ -> σ'.length = X.N.length -> bh ow H ow' H' -> D.nx σ' H'
  | .bk ρ => ∀ ow' σ' H', aS X ow' H' σ' ρ -> σ'.length = X.N.length -> bh ow H ow' H' -> D.bk σ' H'
  | .ct ρ => ∀ ow' σ' H', aS X ow' H' σ' ρ -> σ'.length = X.N.length -> bh ow H ow' H' -> D.ct σ' H'
  | .rt d => ∀ v H', aD H0 H' -> ah X.K H' (fun a b => b = true /\ H0 a = none) d v -> D.rt v H'
theorem oI.keep {H0 : Hp} {ow ow' : Ow} {H H' : Hp} {fl : Fl} {D : kD} (p : oI X H0 ow H fl D) (k : bh ow H ow' H') : oI X H0 ow' H' fl D := by
  cases fl with
  | nx ρ => exact fun ow2 σ2 H2 a b c => p ow2 σ2 H2 a b (k.trans c)
  | bk ρ => exact fun ow2 σ2 H2 a b c => p ow2 σ2 H2 a b (k.trans c)
  | ct ρ => exact fun ow2 σ2 H2 a b c => p ow2 σ2 H2 a b (k.trans c)
  | rt d => exact p
def zj (X : Cx) (H0 : Hp) (ρ : aj) (fl : Fl) : TS := fun D σ H => ∃ ow, aS X ow H σ ρ /\ σ.length = X.N.length /\ dF H0 ow H /\ oI X H0 ow H fl D
def SD (X : Cx) (H0 : Hp) (ρ : aj) (st : Stmt) (fl : Fl) : Prop := PS X st (zj X H0 ρ fl)
def iS (X : Cx) (H0 : Hp) (ρ : aj) (st : List Stmt) (fl : Fl) : Prop := fY X st (zj X H0 ρ fl)
theorem Aw {H0 : Hp} {ρ : aj} : iS X H0 ρ [] (.nx ρ) := fun pins s σ H D I ⟨ow, E, hl, B, q⟩ => AK pins s σ H D I (q ow σ H E hl (bh.refl _ _))
theorem qh {H0 : Hp} {ρ ρ1 : aj} {st : Stmt} {ss : List Stmt} {fl : Fl} (h1 : SD X H0 ρ st (.nx ρ1)) (h2 : iS X H0 ρ1 ss fl) : iS X H0 ρ (st :: ss) fl := fun pins s σ H D I ⟨ow, E, hl, B, q⟩ =>
  qx h1 h2 pins s σ H D I ⟨ow, E, hl, B, fun ow' σ' H' E' hl' k => ⟨ow', E', hl', B.keep k, q.keep k⟩⟩
theorem iX {H0 : Hp} {ρ : aj} {st : Stmt} {ss : List Stmt} {fl : Fl} (h1 : SD X H0 ρ st fl) (hf : ∀ ρ', fl ≠ .nx ρ') : iS X H0 ρ (st :: ss) fl := fun pins s σ H D I ⟨ow, E, hl, B, q⟩ =>
  qx h1 jJ pins s σ H D I ⟨ow, E, hl, B, by
    cases fl with
    | nx ρ' => exact absurd rfl (hf ρ')
    | bk ρ' => exact q
    | ct ρ' => exact q
    | rt d => exact q⟩
theorem vy {H0 : Hp} {ρ : aj} {e : Expr} {pos : Pos} {d : D} {k : Nat} (h : ED X ρ e d k) (hk : k = 0 \/ k = 2) : SD X H0 ρ (.Return (some e) pos) (.rt d) := fun pins s σ H D I ⟨ow, E, hl, B, q⟩ =>
  C9 (h ow) pins s σ H D I ⟨E, fun v H1 s1 r1 => q v H1 (B.sm.trans s1) (r1.imp fun a b p => by
    rcases hk with rfl | rfl
    . exact ⟨p.1, B.sm.free p.2⟩
    . refine ⟨p.1, p.2.elim (fun z => ?_) B.sm.free⟩
      cases e0 : H0 a with
      | none => rfl
      | some o => exact absurd (B a o e0).2 z)⟩
theorem AC {H0 : Hp} {ρ : aj} {e : Expr} {pos : Pos} {d : D} {k : Nat} (h : ED X ρ e d k) (hc : ∃ f p args ks cp, e = .Call (.Name f p) args ks cp) : SD X H0 ρ (.Expr e pos) (.nx ρ) := fun pins s σ H D I ⟨ow, E, hl, B, q⟩ => by
  obtain ⟨f, p, args, ks, cp, rfl⟩ := hc
  exact nZ (h ow) rfl pins s σ H D I ⟨E, fun v H1 s1 r1 => q ow σ H1 (E.same s1) hl (bh.same s1)⟩
theorem Az {H0 : Hp} {ρ : aj} {pos : Pos} : SD X H0 ρ (.Return none pos) (.rt .non) := fun pins s σ H D I ⟨ow, E, hl, B, q⟩ => AL pins s σ H D I (q .non H B.sm (by rw [ah]))
theorem AB {H0 : Hp} {ρ : aj} {pos : Pos} : SD X H0 ρ (.Pass pos) (.nx ρ) := fun pins s σ H D I ⟨ow, E, hl, B, q⟩ => AM pins s σ H D I (q ow σ H E hl (bh.refl _ _))
theorem xB {H0 : Hp} {ρ : aj} {pos : Pos} : SD X H0 ρ (.Break pos) (.bk ρ) := fun pins s σ H D I ⟨ow, E, hl, B, q⟩ => xF pins s σ H D I (q ow σ H E hl (bh.refl _ _))
theorem AF {H0 : Hp} {ρ : aj} {pos : Pos} : SD X H0 ρ (.Continue pos) (.ct ρ) := fun pins s σ H D I ⟨ow, E, hl, B, q⟩ => sk pins s σ H D I (q ow σ H E hl (bh.refl _ _))
theorem Gx {H0 : Hp} {ρ : aj} {c : Expr} {a b : List Stmt} {pos : Pos} {t : Bool} {fl : Fl} (hc : TD X ρ c t) (h : if t = true then iS X H0 ρ a fl else iS X H0 ρ b fl) : SD X H0 ρ (.If c a b pos) fl := by
  cases t with
  | true =>
    intro pins s σ H D I ⟨ow, E, hl, B, q⟩
    exact zy (hc ow) h jJ pins s σ H D I ⟨E, fun H1 s1 => by
      show if true = true then _ else _
      rw [if_pos rfl]
      exact ⟨ow, E.same s1, hl, B.keep (bh.same s1), q.keep (bh.same s1)⟩⟩
  | false =>
    intro pins s σ H D I ⟨ow, E, hl, B, q⟩
    exact zy (hc ow) jJ h pins s σ H D I ⟨E, fun H1 s1 => by
      show if false = true then _ else _
      rw [if_neg Bool.false_ne_true]
      exact ⟨ow, E.same s1, hl, B.keep (bh.same s1), q.keep (bh.same s1)⟩⟩
theorem tW {ow : Ow} {H H1 : Hp} {σ : L2.St} {ρ : aj} {x : Str} {d : D} {v : V} {i : Nat} (hN : X.N.Nodup) (hl : σ.length = X.N.length) (E : aS X ow H σ ρ) (sm : aD H H1) (hi : X.N[i]? = some x) (hv : jr X.env.scope x) (r : ah X.K H1 (Kp ow H 0) d v) :
    ∃ ow', aS X ow' H1 (σ.set i (some v)) (bR ρ x (d, true)) /\ bh ow H ow' H1 := by
  classical
  let ow' : Ow := fun a => if H a = none /\ ∃ o, H1 a = some o then some (some x) else ow a
  have o1 : ∀ a o, H a = some o -> ow' a = ow a := fun a o h => if_neg (fun z => by rw [h] at z; cases z.1)
  have E1 : aS X ow' H1 σ ρ := ⟨fun y e o h => by
    obtain ⟨j, w, e1, e2, e3, e4⟩ := E.get y e o h
    refine ⟨j, w, e1, e2, e3, ah.same sm (e4.impH (fun a ob ha p => ?_) fun a p => ?_)⟩
    . cases o with
      | true => exact ⟨p.1, (o1 a ob ha).trans p.2⟩
      | false => exact fun z => (o1 a ob ha).trans (p z)
    . cases o with
      | true => cases p.1
      | false => exact fun z => (by cases z), fun a ha => by
    by_cases hz : H a = none /\ ∃ o, H1 a = some o
    . exact hz.2
    . have : ow' a = ow a := if_neg hz
      rw [this] at ha
      exact (E.own.same sm) a ha⟩
  refine ⟨ow', e7 hN hl E1 hi hv (r.impH (fun a o ha p => ⟨rfl, if_pos ⟨p.2, o, ha⟩⟩) fun a p => (by cases p.1)), fun a o h _ => sm a o h, fun a o h z => (o1 a o h).trans z⟩
theorem sj {e : Expr} {t : Option Expr} {n : Nat} {env : Env} (h : mW e = false) : swapsWith e t n env = pure false := by
  cases e <;> first | rfl | cases h
theorem vx {Φ : Fx} {sc : Scope} {H0 : Hp} {ρ : aj} {e : Expr} {x : Str} {p pos : Pos} {d : D} {k : Nat} {o : Bool} (G : aU Φ X sc) (hx : dJ sc x = true) (h : ED X ρ e d k) (ho : (k = 0 /\ o = true) \/ (k = 1 /\ o = false)) (hs : swapsWith e (some (.Name x p)) pos.line X.env = pure false) :
    SD X H0 ρ (.Assign [.Name x p] e pos) (.nx (bR ρ x (d, o))) := by
  obtain ⟨g1, g2, g3, i, g4⟩ := gF G hx
  intro pins s σ H D I ⟨ow, E, hl, B, q⟩
  refine C8 (i := i) G.nd g4 g1 (h ow) hs g3 pins s σ H D I ⟨E, fun v H1 s1 r1 => ?_⟩
  show D.nx (σ.set i (some v)) H1
  rcases ho with ⟨rfl, rfl⟩ | ⟨rfl, rfl⟩
  . obtain ⟨ow', E', k'⟩ := tW G.nd hl E s1 g4 g2 r1
    exact q ow' _ H1 E' (by rw [List.length_set]; exact hl) k'
  . exact q ow _ H1 (e7 G.nd hl (E.same s1) g4 g2 r1) (by rw [List.length_set]; exact hl) (bh.same s1)
theorem jA {e : Expr} {es : List Expr} {n k : Nat} {p : Pos} {env : Env} : swapsWithSole [.Tuple es n p] e k env = pure false := by
  cases e <;> rfl
theorem oO {e a i : Expr} {k : Nat} {p : Pos} {env : Env} : swapsWithSole [.Subscript a i p] e k env = pure false := by
  cases e <;> rfl
def L5 (K : W.Frag) (n : Nat) (t : nJ) : TG := fun v σ H Q => ∃ a xs, v = .ref a /\ cm K H a xs /\ xs.length = n /\ t xs σ H Q
theorem Dj {es : List Expr} {k : Nat} {t : nJ} {n : Nat} {pos : Pos} (hc : X.calm = true) (h : t7 X es t)
    (hn : (assignEach es X.env).length = n) (hst : (assignEach es X.env).findIdx? (·.1) = none) : PG X (.Tuple es k pos) (L5 X.K n t) := by
  intro pins s σ H v u Q I r hw
  obtain ⟨a, xs, e1, hq, hl, hw⟩ := hw
  subst e1
  cases r
  obtain ⟨its, rv, pl, hz⟩ := I.list hq
  have hsz : (assignEach es X.env).length = its.toArray.size := by simp [hn, <- hl, rv.length]
  rw [assign_Tuple]
  refine wpAny_bind (wpAny_standAt ?_)
  unfold unpack
  rw [hst, hsz]
  refine wpAny_bind (wpAny_holding (W.kun_itemsOf (I.ok.hd hc) pl.isList fun h' hx => ?_))
  have I1 : ak X pins σ H { s with heap := h' } := I.kept (t' := s.toks) fun b o e => hx b o (Nat.ne_of_lt (Heap.lt_size e)) e
  exact h pins _ σ H xs _ Q I1 (by simpa using rv) hw
theorem mK {ow : Ow} {H H1 : Hp} {ds : List D} {vs : List V} {k : Nat} (o : eG ow H) (hf : ao ds = true \/ k <= 1) (r : ag X.K H1 (Kp ow H k) ds vs) : ag X.K H1 (fun a b => b = true -> ow a = none) ds vs := by
  rcases hf with hf | hf
  . exact r.flat _ hf
  . exact r.imp fun a b p hb => by subst hb; exact g8 o hf p
theorem sR {Φ : Fx} {sc : Scope} {es : List Expr} {e : Expr} {n : Nat} {p : Pos} (G : aU Φ X sc) (ht : sS sc es e = false) : swappedStores [.Tuple es n p] e X.env = pure none := by
  unfold sS at ht
  cases hte : gG e with
  | false => cases e <;> first | rfl | cases hte
  | true =>
    rw [hte] at ht
    have hc : rH sc es e = true := by simpa using ht
    unfold rH at hc
    split at hc
    . rename_i x px y py a b m q
      have k1 : X.env.kindOf x = some .cell := G.cc x (by simpa using hc)
      unfold swappedStores
      dsimp only
      split
      . rfl
      . split
        . rfl
        . rw [if_pos]
          rw [List.filterMap_cons_none (by simp [k1])]
          have : ∀ l : List Str, l.length <= 1 -> (l.length != [Expr.Name x px, Expr.Name y py].length || l.eraseDups.length != l.length) = true := fun l hl => by
            have : (l.length != [Expr.Name x px, Expr.Name y py].length) = true := by simp; omega
            rw [this]; rfl
          exact this _ (Nat.le_trans (List.length_filterMap_le _ _) (Nat.le_refl _))
    . cases hc
theorem CU {Φ : Fx} {sc : Scope} {H0 : Hp} {ρ ρ' : aj} {es : List Expr} {e : Expr} {n : Nat} {p pos : Pos} {d : D} {ds : List D} {k : Nat} (G : aU Φ X sc) (h : ED X ρ e d k) (hd : eh d = some ds) (hf : ao ds = true \/ k <= 1) (hb : aP sc es ds ρ = some ρ') (ht : sS sc es e = false) :
    SD X H0 ρ (.Assign [.Tuple es n p] e pos) (.nx ρ') := by
  obtain ⟨t, h1, h2, h3, h4⟩ := jL G hb
  intro pins s σ H D I ⟨ow, E, hl, B, q⟩
  have fin : ∀ H1 vs, aD H H1 -> ag X.K H1 (Kp ow H k) ds vs -> t vs σ H1 D.nx := fun H1 vs s1 rl => h4 ow vs σ H1 D.nx hl (E.same s1) (mK E.own hf rl) fun σ' hl' E' => q ow σ' H1 E' hl' (bh.same s1)
  rcases eQ hd with rfl | rfl
  . refine mL (h ow) (vF (n := _) G.calm h1 h2 h3) jA (sR G ht) rfl pins s σ H D I ⟨E, fun v H1 s1 r1 => ?_⟩
    obtain ⟨a, vs, rfl, hs, rl⟩ := eI r1
    exact ⟨a, vs, rfl, hs, rl.length.symm, fin H1 vs s1 rl⟩
  . refine mL (h ow) (Dj (n := _) G.calm h1 h2 h3) jA (sR G ht) rfl pins s σ H D I ⟨E, fun v H1 s1 r1 => ?_⟩
    obtain ⟨a, vs, rfl, hs, rl⟩ := gW r1
    exact ⟨a, vs, rfl, hs, rl.length.symm, fin H1 vs s1 rl⟩
theorem ui {sc : Scope} {Φ : Fx} {x y : Str} {px py p p2 : Pos} {n n2 : Nat} {a b : Expr} (G : aU Φ X sc) (hk : X.env.scope.kind = .function) (h : mN sc x y px py a b = true) (ha : ∀ x p, a ≠ .Starred x p) (hb : ∀ x p, b ≠ .Starred x p) :
    swappedStores [.Tuple [.Name x px, .Name y py] n p] (.Tuple [a, b] n2 p2) X.env = pure (some [x, y]) := by
  unfold mN at h
  simp only [Bool.and_eq_true, Bool.not_eq_true', beq_iff_eq, decide_eq_false_iff_not] at h
  obtain ⟨⟨⟨⟨⟨h1, h2⟩, h3⟩, h4⟩, h5⟩, h6⟩ := h
  have k1 : X.env.kindOf x = some .local := G.lc x h1
  have k2 : X.env.kindOf y = some .local := G.lc y h2
  have bk : X.env.blockKind = .function := by unfold Env.blockKind; rw [hk]; rfl
  have an : ∀ f : Expr -> Bool, (∀ e, (∀ x p, e ≠ .Starred x p) -> f e = false) -> ¬ ([a, b].any f = true) := fun f hf => by simp [hf a ha, hf b hb]
  have fm : ∀ f : Expr -> Option Str, f (.Name x px) = some x -> f (.Name y py) = some y -> [Expr.Name x px, Expr.Name y py].filterMap f = [x, y] := fun f h1 h2 => by simp [h1, h2]
  have ed : [x, y].eraseDups = [x, y] := by
    have e1 : (!(y == x)) = true := by simp; exact fun z => h4 z.symm
    rw [List.eraseDups_cons, List.filter_cons_of_pos (p := fun b => !b == x) e1, List.filter_nil]
    rfl
  unfold swappedStores
  dsimp only
  rw [bk]
  refine (if_neg (by simp)).trans ?_
  refine (if_neg (an _ fun e he => by cases e <;> first | rfl | exact absurd rfl (he _ _))).trans ?_
  rw [fm _ (by show (if (X.env.kindOf x == some NameKind.local && px.line == px.line) = true then some x else none) = some x; rw [k1]; simp) (by show (if (X.env.kindOf y == some NameKind.local && py.line == px.line) = true then some y else none) = some y; rw [k2, h3]; simp)]
  rw [ed]
  refine (if_neg (by simp)).trans ?_
  rw [h5, h6]
  rfl
theorem CV {Φ : Fx} {sc : Scope} {H0 : Hp} {ρ : aj} {a b : Expr} {x y : Str} {px py p p2 pos : Pos} {n n2 : Nat} {u v : D} {k : Nat} (G : aU Φ X sc) (h : AD X ρ [a, b] [u, v] k) (hf : ao [u, v] = true \/ k <= 1) (hp : mN sc x y px py a b = true) (ha : ∀ x p, a ≠ .Starred x p) (hb : ∀ x p, b ≠ .Starred x p) :
    SD X H0 ρ (.Assign [.Tuple [.Name x px, .Name y py] n p] (.Tuple [a, b] n2 p2) pos) (.nx (bR (bR ρ x (u, false)) y (v, false))) := by
  have hp0 := hp
  unfold mN at hp
  simp only [Bool.and_eq_true, Bool.not_eq_true', beq_iff_eq, decide_eq_false_iff_not] at hp
  obtain ⟨⟨⟨⟨⟨l1, l2⟩, _⟩, hxy⟩, _⟩, _⟩ := hp
  obtain ⟨g1, g2, g3, i, g4⟩ := gF (x := x) G (by unfold dJ; rw [l1]; rfl)
  obtain ⟨j1, j2, j3, j, j4⟩ := gF (x := y) G (by unfold dJ; rw [l2]; rfl)
  have hij : i ≠ j := by intro z; subst z; rw [g4] at j4; cases j4; exact hxy rfl
  intro pins s σ H D I ⟨ow, E, hl, B, q⟩
  refine Da (i := i) (j := j) G.calm G.nd g4 j4 hij (G.lc x l1) (G.lc y l2) (h ow) (ui G I.ok.kind hp0 ha hb) jA pins s σ H D I ⟨E, fun vs H1 s1 r1 => ?_⟩
  have rs := mK E.own hf r1
  rw [ag] at rs
  obtain ⟨v1, r, rfl, rv1, rs⟩ := rs
  obtain ⟨v2, rfl, rv2⟩ := rs.only
  refine ⟨v1, v2, rfl, ?_⟩
  have E1 := e7 (o := false) G.nd hl (E.same s1) g4 g2 rv1
  have hl1 : (σ.set i (some v1)).length = X.N.length := by rw [List.length_set]; exact hl
  exact q ow _ H1 (e7 (o := false) G.nd hl1 E1 j4 j2 rv2) (by rw [List.length_set]; exact hl1) (bh.same s1)
theorem wA {ow : Ow} {H1 : Hp} {σ : L2.St} {ρ : aj} {x : Str} {l' : List D} {a : Addr} {vs vs' : List V} {i : Nat} (E : aS X ow H1 σ ρ) (hi : X.N[i]? = some x) (hs : σ[i]? = some (some (.ref a)))
    (hv : jr X.env.scope x) (ha : H1 a = some (.lst vs)) (ho : ow a = some (some x)) (f : ao l' = true) (r : ag X.K H1 (fun _ _ => True) l' vs') :
    aS X ow (aV H1 a (.lst vs')) σ (bR ρ x (.lst l', true)) := by
  have st : ∀ {P : bg}, (P a true -> False) -> dM P P H1 (aV H1 a (.lst vs')) := fun {P} h => ⟨fun b o hb hn => by rw [aH (fun z => by subst z; rw [ha] at hb; cases hb; exact hn)]; exact hb, fun b ws hb p => by rw [aH (fun z => by subst z; exact h p)]; exact hb, fun _ _ _ p => p, fun _ p => p⟩
  have r' : ag X.K (aV H1 a (.lst vs')) (jM ow x true) l' vs' := ag.flat _ f ((r.flat (fun _ _ => False) f).mono (st fun z => z))
  refine ⟨fun y e o h => ?_, fun b hb => ?_⟩
  . rw [de] at h
    by_cases hy : y = x
    . subst hy
      rw [if_pos rfl] at h
      cases h
      exact ⟨i, .ref a, hi, hv, hs, by rw [ah]; exact ⟨a, vs', true, rfl, aO, ⟨rfl, ho⟩, r'⟩⟩
    . rw [if_neg hy] at h
      obtain ⟨j, w, e1, e2, e3, e4⟩ := E.get y e o h
      refine ⟨j, w, e1, e2, e3, e4.mono (st fun p => ?_)⟩
      cases o with
      | true => have := p.2; rw [ho] at this; cases this; exact hy rfl
      | false => have := p rfl; rw [ho] at this; cases this
  . by_cases hz : b = a
    . subst hz; exact ⟨_, aO⟩
    . rw [aH hz]; exact E.own b hb
theorem Dx {ow : Ow} {H : Hp} {σ : L2.St} {ρ : aj} {x : Str} {l : List D} (E : aS X ow H σ ρ) (h : ρ x = some (.lst l, true)) : ∃ (i : Nat) (a : Addr) (vs : List V), X.N[i]? = some x /\ jr X.env.scope x /\ σ[i]? = some (some (.ref a)) /\ H a = some (.lst vs) /\ ow a = some (some x) /\ ag X.K H (fun _ _ => True) l vs := by
  obtain ⟨i, v, e1, e2, e3, e4⟩ := E.get x _ _ h
  rw [ah] at e4
  obtain ⟨a, vs, b, rfl, hl, hp, rl⟩ := e4
  cases hp.1
  exact ⟨i, a, vs, e1, e2, e3, hl, hp.2, rl.imp fun _ _ _ => True.intro⟩
theorem uH {ow : Ow} {H H1 : Hp} {a : Addr} {vs vs' : List V} {x : Str} (sm : aD H H1) (h0 : H a = some (.lst vs)) (ho : ow a = some (some x)) : bh ow H ow (aV H1 a (.lst vs')) :=
  ⟨fun b o h c => by
    rw [aH (fun z => by
      subst z
      rw [h0] at h; cases h
      rcases c with c | c
      . exact c
      . rw [ho] at c; cases c)]
    exact sm b o h, fun _ _ _ z => z⟩
theorem jS {pins : List (Addr × Obj)} {σ : L2.St} {H : Hp} {s : Shared} (I : ak X pins σ H s) {a : Addr} {o : Obj} (h : X.K.lookup a = some o) : H a = none := (I.bs a o (I.ok.mod.kin a o h)).2
mutual
def D.lsz : D -> Nat
  | .lst l => 1 + im l
  | .tup l => im l
  | _ => 0
def im : List D -> Nat
  | [] => 0
  | d :: l => d.lsz + im l
end
theorem xY {pins : List (Addr × Obj)} {σ : L2.St} {H : Hp} {s : Shared} (I : ak X pins σ H s) {P : bg} {d : D} {a : Addr} {vs : List V} (ha : H a = some (.lst vs)) (h : ah X.K H P d (.ref a)) : ∃ l, d = .lst l := by
  cases d with
  | lst l => exact ⟨l, rfl⟩
  | tup l =>
    rw [ah] at h
    obtain ⟨a', vs', e, hs, _⟩ := h
    cases e
    rcases hs with (q | ⟨o, q⟩) | ⟨o, its, n, q, _⟩
    . rw [ha] at q; cases q
    . rw [ha] at q; cases q
    . rw [jS I q] at ha; cases ha
  | dct _ _ => rw [ah] at h; obtain ⟨_, _, a', _, e, hl, _⟩ := h; cases e; rw [ha] at hl; cases hl
  | sn m => rw [ah] at h; obtain ⟨a', S, e, hl⟩ := h; cases e; rw [ha] at hl; cases hl
  | obj n ns es => rw [ah] at h; obtain ⟨_, _, a', C, dx, vs', e, _, _, hl, _⟩ := h; cases e; rw [ha] at hl; cases hl
  | cls n => rw [ah] at h; obtain ⟨C, o', e, _, hl, _⟩ := h; cases e; rw [jS I hl] at ha; cases ha
  | _ => rw [ah] at h; cases h
theorem xo {pins : List (Addr × Obj)} {σ : L2.St} {H : Hp} {s : Shared} (I : ak X pins σ H s) {P : bg} (hP : ∀ a b, P a b -> b = true) {d : D} {a : Addr} {vs : List V} (ha : ck X.K H a vs) (h : ah X.K H P d (.ref a)) : ∃ l, d = .tup l /\ ag X.K H P l vs := by
  have no : ∀ o, H a = some o -> (∀ xs, o ≠ .tup xs) -> (∀ p q, o ≠ .frz p q) -> False := fun o e h1 h2 => by
    rcases ha with (q | ⟨o', q⟩) | ⟨o', its, n, q, _⟩
    . rw [e] at q; cases q; exact h1 _ rfl
    . rw [e] at q; cases q; exact h2 _ _ rfl
    . rw [jS I q] at e; cases e
  cases d with
  | lst l =>
    rw [ah] at h
    obtain ⟨a', vs', b, e, hl, p, _⟩ := h
    cases e
    cases hP _ _ p
    exact (no _ hl (fun _ z => nomatch z) fun _ _ z => nomatch z).elim
  | tup l =>
    rw [ah] at h
    obtain ⟨a', vs', e, hs, rl⟩ := h
    cases e
    have := I.tuple_inj ha hs
    subst this
    exact ⟨l, rfl, rl⟩
  | dct _ _ => rw [ah] at h; obtain ⟨_, _, a', _, e, hl, _⟩ := h; cases e; exact (no _ hl (fun _ z => nomatch z) fun _ _ z => nomatch z).elim
  | sn m => rw [ah] at h; obtain ⟨a', S, e, hl⟩ := h; cases e; exact (no _ hl (fun _ z => nomatch z) fun _ _ z => nomatch z).elim
  | obj n ns es => rw [ah] at h; obtain ⟨_, _, a', C, dx, vs', e, _, _, hl, _⟩ := h; cases e; exact (no _ hl (fun _ z => nomatch z) fun _ _ z => nomatch z).elim
  | cls n =>
    rw [ah] at h
    obtain ⟨C, o', e, _, hl, ht, _⟩ := h
    cases e
    rcases ha with (q | ⟨o, q⟩) | ⟨o, its, n, q, hc, _⟩
    . rw [jS I hl] at q; cases q
    . rw [jS I hl] at q; cases q
    . rw [hl] at q; cases q; rw [hc] at ht; injection ht with ht; exact absurd ht (by decide)
  | _ => rw [ah] at h; cases h
mutual
theorem qt {pins : List (Addr × Obj)} {σ : L2.St} {H : Hp} {s : Shared} (I : ak X pins σ H s) {P : bg} (hP : ∀ a b, P a b -> b = true) : ∀ (d d' : D) (v : V), ah X.K H P d v -> ah X.K H P d' v -> d.lsz <= d'.lsz
  | .tup l, d', v, h, h' => by
    rw [ah] at h
    obtain ⟨a, vs, rfl, hs, rl⟩ := h
    obtain ⟨l', rfl, rl'⟩ := xo I hP hs h'
    rw [D.lsz, D.lsz]; exact jH I hP l l' vs rl rl'
  | .lst l, d', v, h, h' => by
    rw [ah] at h
    obtain ⟨a, vs, b, rfl, hs, p, rl⟩ := h
    cases hP _ _ p
    replace hs : H a = some (.lst vs) := hs
    obtain ⟨l', rfl⟩ := xY I hs h'
    rw [ah] at h'
    obtain ⟨a', vs', b, e, hl, p', rl'⟩ := h'
    cases e
    cases hP _ _ p'
    replace hl : H a = some (.lst vs') := hl
    rw [hs] at hl; cases hl
    rw [D.lsz, D.lsz]
    exact Nat.add_le_add_left (jH I hP l l' vs rl rl') 1
  | .non, _, _, _, _ => Nat.zero_le _
  | .bl _, _, _, _, _ => Nat.zero_le _
  | .int _, _, _, _, _ => Nat.zero_le _
  | .str _, _, _, _, _ => Nat.zero_le _
  | .dct _ _, _, _, _, _ => Nat.zero_le _
  | .typ _, _, _, _, _ => Nat.zero_le _
  | .sn _, _, _, _, _ => Nat.zero_le _
  | .obj _ _ _, _, _, _, _ => Nat.zero_le _
  | .cls _, _, _, _, _ => Nat.zero_le _
theorem jH {pins : List (Addr × Obj)} {σ : L2.St} {H : Hp} {s : Shared} (I : ak X pins σ H s) {P : bg} (hP : ∀ a b, P a b -> b = true) : ∀ (l l' : List D) (vs : List V), ag X.K H P l vs -> ag X.K H P l' vs -> im l <= im l'
  | [], l', vs, h, h' => Nat.zero_le _
  | d :: l, l', vs, h, h' => by
    rw [ag] at h
    obtain ⟨v, r, rfl, h1, h2⟩ := h
    cases l' with
    | nil => rw [ag] at h'; cases h'
    | cons d' l' =>
      rw [ag] at h'
      obtain ⟨v', r', e, h1', h2'⟩ := h'
      cases e
      rw [im, im]
      exact Nat.add_le_add (qt I hP d d' v h1 h1') (jH I hP l l' r h2 h2')
end
mutual
theorem C3 {pins : List (Addr × Obj)} {σ : L2.St} {H : Hp} {s : Shared} (I : ak X pins σ H s) {P : bg} (hP : ∀ a b, P a b -> b = true) {A : Addr} {l : List D} (hA : ah X.K H P (.lst l) (.ref A)) : ∀ (d : D) (v : V), d.lsz < (D.lst l).lsz -> ah X.K H P d v -> ah X.K H (fun a b => P a b /\ a ≠ A) d v
  | .tup m, v, hs, h => by
    rw [ah] at h ⊢
    obtain ⟨a, vs, e, h1, h2⟩ := h
    exact ⟨a, vs, e, h1, kI I hP hA m vs (by rw [D.lsz] at hs; exact hs) h2⟩
  | .lst m, v, hs, h => by
    have h0 := h
    rw [ah] at h ⊢
    obtain ⟨a, vs, b, e, h1, p, h2⟩ := h
    refine ⟨a, vs, b, e, h1, ⟨p, fun z => ?_⟩, kI I hP hA m vs (by rw [D.lsz] at hs; omega) h2⟩
    subst e z
    have := qt I hP _ _ _ hA h0
    exact absurd (Nat.lt_of_lt_of_le hs this) (Nat.lt_irrefl _)
  | .non, v, _, h => by rw [ah] at h ⊢; exact h
  | .bl _, v, _, h => by rw [ah] at h ⊢; exact h
  | .int _, v, _, h => by rw [ah] at h ⊢; exact h
  | .str _, v, _, h => by rw [ah] at h ⊢; exact h
  | .dct ks es, v, _, h => by
    rw [ah] at h ⊢
    obtain ⟨f, e0, a, vs, e, h1, p, r⟩ := h
    refine ⟨f, e0, a, vs, e, h1, ⟨p, fun z => ?_⟩, r.flat _ f⟩
    subst z
    rw [ah] at hA
    obtain ⟨a2, vs2, b, e2, hl, p2, _⟩ := hA
    cases e2
    cases hP _ _ p2
    replace hl : H a = some (.lst vs2) := hl
    rw [h1] at hl; cases hl
  | .typ _, v, _, h => by rw [ah] at h ⊢; exact h
  | .sn _, v, _, h => by rw [ah] at h ⊢; exact h
  | .obj n ns es, v, _, h => h.flat _ rfl
  | .cls n, v, _, h => h.flat _ rfl
theorem kI {pins : List (Addr × Obj)} {σ : L2.St} {H : Hp} {s : Shared} (I : ak X pins σ H s) {P : bg} (hP : ∀ a b, P a b -> b = true) {A : Addr} {l : List D} (hA : ah X.K H P (.lst l) (.ref A)) : ∀ (m : List D) (vs : List V), im m < (D.lst l).lsz -> ag X.K H P m vs -> ag X.K H (fun a b => P a b /\ a ≠ A) m vs
  | [], vs, _, h => by rw [ag] at h ⊢; exact h
  | d :: m, vs, hs, h => by
    rw [ag] at h ⊢
    obtain ⟨v, r, e, h1, h2⟩ := h
    exact ⟨v, r, e, C3 I hP hA d v (by rw [im] at hs; omega) h1, kI I hP hA m r (by rw [im] at hs; omega) h2⟩
end
theorem Dy {pins : List (Addr × Obj)} {s : Shared} {ow : Ow} {H : Hp} {σ : L2.St} {ρ : aj} {x : Str} {l : List D} (I : ak X pins σ H s) (E : aS X ow H σ ρ) (h : ρ x = some (.lst l, true)) : ∃ (i : Nat) (a : Addr) (vs : List V), X.N[i]? = some x /\ jr X.env.scope x /\ σ[i]? = some (some (.ref a)) /\ H a = some (.lst vs) /\ ow a = some (some x) /\ ag X.K H (fun b c => jM ow x true b c /\ b ≠ a) l vs := by
  obtain ⟨i, v, e1, e2, e3, e4⟩ := E.get x _ _ h
  have e5 := e4
  rw [ah] at e4
  obtain ⟨a, vs, b, rfl, hl, hp, rl⟩ := e4
  cases hp.1
  exact ⟨i, a, vs, e1, e2, e3, hl, hp.2, kI I (fun _ _ p => p.1) e5 l vs (by rw [D.lsz]; omega) rl⟩
theorem BK {ow : Ow} {H H1 : Hp} {σ : L2.St} {ρ : aj} {x : Str} {l' : List D} {a : Addr} {vs vs' : List V} {i : Nat} (E : aS X ow H σ ρ) (sm : aD H H1) (hi : X.N[i]? = some x) (hs : σ[i]? = some (some (.ref a)))
    (hv : jr X.env.scope x) (h0 : H a = some (.lst vs)) (ho : ow a = some (some x)) (r : ag X.K H1 (fun b c => (jM ow x true b c /\ b ≠ a) \/ Kp ow H 0 b c) l' vs') :
    ∃ ow', aS X ow' (aV H1 a (.lst vs')) σ (bR ρ x (.lst l', true)) /\ bh ow H ow' (aV H1 a (.lst vs')) := by
  classical
  let ow' : Ow := fun a => if H a = none /\ ∃ o, H1 a = some o then some (some x) else ow a
  have o1 : ∀ a o, H a = some o -> ow' a = ow a := fun a o h => if_neg (fun z => by rw [h] at z; cases z.1)
  have ha : H1 a = some (.lst vs) := sm _ _ h0
  have ho' : ow' a = some (some x) := (o1 a _ h0).trans ho
  have E1 : aS X ow' H1 σ ρ := ⟨fun y e o h => by
    obtain ⟨j, w, e1, e2, e3, e4⟩ := E.get y e o h
    refine ⟨j, w, e1, e2, e3, ah.same sm (e4.impH (fun a ob ha p => ?_) fun a p => ?_)⟩
    . cases o with
      | true => exact ⟨p.1, (o1 a ob ha).trans p.2⟩
      | false => exact fun z => (o1 a ob ha).trans (p z)
    . cases o with
      | true => cases p.1
      | false => exact fun z => (by cases z), fun a ha => by
    by_cases hz : H a = none /\ ∃ o, H1 a = some o
    . exact hz.2
    . have : ow' a = ow a := if_neg hz
      rw [this] at ha
      exact (E.own.same sm) a ha⟩
  have st : ∀ {P : bg}, (P a true -> False) -> dM P P H1 (aV H1 a (.lst vs')) := fun {P} h => ⟨fun b o hb hn => by rw [aH (fun z => by subst z; rw [ha] at hb; cases hb; exact hn)]; exact hb, fun b ws hb p => by rw [aH (fun z => by subst z; exact h p)]; exact hb, fun _ _ _ p => p, fun _ p => p⟩
  have r1 : ag X.K H1 (fun b c => jM ow' x true b c /\ b ≠ a) l' vs' := r.impH (fun b o hb p => by
    rcases p with ⟨p, hne⟩ | p
    . refine ⟨⟨rfl, ?_⟩, hne⟩
      by_cases hz : H b = none /\ ∃ o, H1 b = some o
      . exact if_pos hz
      . exact (if_neg hz).trans p.2
    . exact ⟨⟨rfl, if_pos ⟨p.2, o, hb⟩⟩, fun z => by subst z; rw [p.2] at h0; cases h0⟩) fun b p => by
    rcases p with ⟨p, _⟩ | p
    . cases p.1
    . cases p.1
  have r' : ag X.K (aV H1 a (.lst vs')) (jM ow' x true) l' vs' := (r1.mono (st fun z => z.2 rfl)).imp fun _ _ p => p.1
  refine ⟨ow', ⟨fun y e o h => ?_, fun b hb => ?_⟩, fun b o h c => ?_, fun b o h z => (o1 b o h).trans z⟩
  . rw [de] at h
    by_cases hy : y = x
    . subst hy
      rw [if_pos rfl] at h
      cases h
      exact ⟨i, .ref a, hi, hv, hs, by rw [ah]; exact ⟨a, vs', true, rfl, aO, ⟨rfl, ho'⟩, r'⟩⟩
    . rw [if_neg hy] at h
      obtain ⟨j, w, e1, e2, e3, e4⟩ := E1.get y e o h
      refine ⟨j, w, e1, e2, e3, e4.mono (st fun p => ?_)⟩
      cases o with
      | true => have := p.2; rw [ho'] at this; cases this; exact hy rfl
      | false => have := p rfl; rw [ho'] at this; cases this
  . by_cases hz : b = a
    . subst hz; exact ⟨_, aO⟩
    . rw [aH hz]; exact E1.own b hb
  . rw [aH (fun z => by
      subst z
      rw [h0] at h; cases h
      rcases c with c | c
      . exact c
      . rw [ho] at c; cases c)]
    exact sm b o h
theorem mO {env : Env} {pos : Pos} : ∀ {es : List Expr}, (∀ e ∈ es, ∀ x p, e ≠ .Starred x p) -> (backTo pos (starEach es env)).all (fun x => !x.1) = true
  | [], _ => rfl
  | e :: es, h => by
    have ih := mO (env := env) (es := es) (pos := pos) fun x hx => h x (List.mem_cons_of_mem _ hx)
    have he := h e List.mem_cons_self
    cases e <;> first | exact absurd rfl (he _ _) | exact ih
theorem CW {H0 : Hp} {ρ : aj} {x m : Str} {M : List D -> List D -> Nat -> Rs (List D)} {args : List Expr} {p1 ap cp p4 : Pos} {l l' ds : List D} {k : Nat} {o : List Prop} (hcalm : X.calm = true) (hM : nQ m M) (hx : ρ x = some (.lst l, true)) (h : AD X ρ args ds k) (hst : ∀ e ∈ args, ∀ y p, e ≠ .Starred y p) (hlen : args.length = ds.length)
    (hn : gB x = true) (hln : (ap.endLine == cp.line) = true) (hm : M l ds k = .ok l' o) (hp : aE o) : SD X H0 ρ (.Expr (.Call (.Attribute (.Name x p1) m ap) args [] cp) p4) (.nx (bR ρ x (.lst l', true))) := by
  obtain ⟨id, r, sl, ty, mt, hr⟩ := hM X hcalm
  intro pins s σ H D I ⟨ow, E, hl, B, q⟩
  obtain ⟨i, a, vs, g1, g2, g3, g4, g5, g6⟩ := Dy I E hx
  have pn : PE X (.Name x p1) (uf i) := mM g1 g2 (dW hn).1 (dW hn).2
  have fin : ∀ (H1 : Hp) (ws : List V), aD H H1 -> ag X.K H1 (Kp ow H k) ds ws -> r (.ref a) ws H1 fun _ H2 => D.nx σ H2 := fun H1 ws s1 r1 =>
    (hr ow H H1 l ds l' k o a vs ws hm hp).2 (fun b c => (jM ow x true b c /\ b ≠ a) \/ Kp ow H 0 b c) _ (fun _ _ p => .inr p) E.own s1 (s1 _ _ g4) ((g6.same s1).imp fun _ _ p => .inl p) r1 fun vs' _ rv => by
      obtain ⟨ow', E', k'⟩ := BK E s1 g1 g3 g2 g4 g5 rv
      exact q ow' σ _ E' hl k'
  have few : ds.length < 29 := (hr ow H H l ds l' k o a vs vs hm hp).1
  cases args with
  | nil =>
    have e0 : ds = [] := List.length_eq_zero_iff.mp hlen.symm
    refine nZ (Ds PySem.F.plainAttrs_list sl ty mt pn rfl hln) rfl pins s σ H D I ⟨_, g3, .inl ⟨rfl, _, cm.of g4⟩, ?_⟩
    exact fin H [] (aD.refl _) (by rw [e0]; exact ag.nil)
  | cons e es =>
    have hfew : ((backTo cp (starEach (e :: es) X.env)).all (fun x => !x.1) && (backToKw cp (keywordEach [] X.env)).all (fun x => x.1.isSome) && decide ((e :: es).length + ([] : List Keyword).length + (if ([] : List Keyword).isEmpty then 0 else 1) < 30)) = true := by
      rw [mO hst, hlen]
      have : decide (ds.length + 0 + 0 < 30) = true := by simp; omega
      exact this
    refine nZ (GG PySem.F.plainAttrs_list sl ty mt pn (h ow) rfl hfew hln (bj (hst e List.mem_cons_self)) (cC fun x hx => hst x (List.mem_cons_of_mem _ hx))) rfl pins s σ H D I ⟨_, g3, .inl ⟨rfl, _, cm.of g4⟩, E, fun ws H1 s1 r1 => ?_⟩
    exact fin H1 ws s1 r1
theorem mS : ∀ {l : List D} {j : Nat} {d : D}, ao l = true -> d.lless = true -> ao (l.set j d) = true
  | [], j, d, h, f => by simp [ao]
  | x :: l, 0, d, h, f => by
    rw [ao, Bool.and_eq_true] at h
    rw [List.set_cons_zero, ao, Bool.and_eq_true]; exact ⟨f, h.2⟩
  | x :: l, j + 1, d, h, f => by
    rw [ao, Bool.and_eq_true] at h
    rw [List.set_cons_succ, ao, Bool.and_eq_true]; exact ⟨h.1, mS h.2 f⟩
theorem ag.set {K : W.Frag} {P : bg} {H : Hp} {d : D} {v : V} (r : ah K H P d v) : ∀ {l : List D} {vs : List V} (j : Nat), ag K H P l vs -> ag K H P (l.set j d) (vs.set j v)
  | [], vs, j, h => by rw [ag] at h; subst h; simp; exact ag.nil
  | x :: l, vs, 0, h => by
    rw [ag] at h
    obtain ⟨w, u, rfl, h1, h2⟩ := h
    exact ag.cons r h2
  | x :: l, vs, j + 1, h => by
    rw [ag] at h
    obtain ⟨w, u, rfl, h1, h2⟩ := h
    exact ag.cons h1 (ag.set r j h2)
theorem xA {H0 : Hp} {ρ : aj} {x : Str} {e i : Expr} {p1 p2 pos : Pos} {l l' : List D} {d : D} {j : Int} {k k2 : Nat} (hx : ρ x = some (.lst l, true)) (h : ED X ρ e d k) (hi : ED X ρ i (.int j) k2) (f : ao l = true) (fd : d.lless = true) (hn : gB x = true) (hm : uj l j d = some l') (hsl : ∀ a b c p, i ≠ .Slice a b c p) :
    SD X H0 ρ (.Assign [.Subscript (.Name x p1) i p2] e pos) (.nx (bR ρ x (.lst l', true))) := by
  unfold uj at hm
  cases hj : jT l.length j with
  | none => rw [hj] at hm; cases hm
  | some n =>
    rw [hj] at hm; cases hm
    intro pins s σ H D I ⟨ow, E, hl, B, q⟩
    obtain ⟨ix, a, vs, g1, g2, g3, g4, g5, g6⟩ := Dx E hx
    have pn : PE X (.Name x p1) (uf ix) := mM g1 g2 (dW hn).1 (dW hn).2
    refine mL (h ow) (vG pn (hi ow) xw (fun v => by cases i <;> first | rfl | exact absurd rfl (hsl _ _ _ _))) oO (by cases e <;> rfl) rfl pins s σ H D I ⟨E, fun v H1 s1 r1 => ?_⟩
    refine ⟨_, g3, E.same s1, fun u H2 s2 r2 => ?_⟩
    rw [ah] at r2; subst r2
    have s12 := s1.trans s2
    refine ⟨a, vs, j, n, rfl, rfl, s12 _ _ g4, by rw [<- g6.length]; exact hj, ?_⟩
    exact q ow σ _ (wA (E.same s12) g1 g3 g2 (s12 _ _ g4) g5 (mS f fd) (ag.set ((r1.imp fun _ _ _ => True.intro).same s2) n (g6.same s12))) hl (uH s12 g4 g5)
def Gz : u6 := fun o i v H Q => ∃ p kvs k, o = .ref p /\ i = kV k /\ H p = some (.dK kvs) /\ kvs.length < sizeLine /\ Q (aV H p (.dK (ik kvs k v)))
theorem xy : y6 X Gz := by
  intro pins s σ H o i v ov iv u Q I ro ri rv h
  obtain ⟨p, kvs, k, rfl, rfl, hp, hz, q⟩ := h
  cases ro
  obtain ⟨z, hd, vs, rel, dd⟩ := (show bV X.prog X.w H s.heap p (.dK kvs) from I.hok p _ hp)
  have hz' : vs.length <= sizeLine := by rw [<- rel.length]; exact z
  have hl : (ik kvs k v).length <= sizeLine := by have := sB kvs k v; omega
  refine wpAny_setItem_pairs (hsz := hz') (uI ri) dd fun h' dd' hs => ?_
  have he : ∃ q, h'.get? p = some q := let ⟨q, _, _, hq, _⟩ := dd'; ⟨q, hq⟩
  exact ⟨_, I.write (x := p) (e := p) (by rw [hp]; exact True.intro) (.inl rfl) (fun b q hb z => (hs.2 b hb).trans z) he (show bV X.prog X.w (aV H p (.dK (ik kvs k v))) h' p (.dK (ik kvs k v)) from ⟨hl, hd, _, rel.put k rv, dd'⟩), q⟩
theorem Al {ks : List bO} {k : bO} {v : V} {vs : List V} (h : ks.length = vs.length) : (jf ks k).zip (dO ks vs k v) = ik (ks.zip vs) k v := by
  unfold jf dO ik
  rw [sM h]
  cases eT ks k with
  | true =>
    rw [if_pos rfl]
    show ks.zip (List.zipWith _ ks vs) = _
    induction ks generalizing vs with
    | nil => rfl
    | cons j ks ih =>
      cases vs with
      | nil => cases h
      | cons w vs =>
        show (j, if j = k then v else w) :: ks.zip (List.zipWith _ ks vs) = (if j = k then (j, v) else (j, w)) :: (ks.zip vs).map _
        rw [ih (by simpa using h)]
        split <;> rfl
  | false =>
    rw [if_neg Bool.false_ne_true]
    show (ks ++ [k]).zip (vs ++ [v]) = _
    rw [List.zip_append h]; rfl
theorem AJ {α : Type} {ks : List bO} {k : bO} {v : α} {vs : List α} (h : ks.length = vs.length) : (jf ks k).length = (dO ks vs k v).length := by
  unfold jf dO
  cases eT ks k with
  | true => show ks.length = (List.zipWith _ ks vs).length; rw [List.length_zipWith, <- h, Nat.min_self]
  | false => show (ks ++ [k]).length = (vs ++ [v]).length; rw [List.length_append, List.length_append, h]; rfl
theorem AI {K : W.Frag} {P : bg} {H : Hp} {d : D} {v : V} {k : bO} {ks : List bO} {ds : List D} {vs : List V} (r : ah K H P d v) (rl : ag K H P ds vs) (h : ks.length = ds.length) : ag K H P (dO ks ds k d) (dO ks vs k v) := by
  unfold dO
  cases eT ks k with
  | true =>
    show ag K H P (List.zipWith _ ks ds) (List.zipWith _ ks vs)
    induction ks generalizing ds vs with
    | nil => exact ag.nil
    | cons j ks ih =>
      cases ds with
      | nil => cases h
      | cons x ds =>
        rw [ag] at rl
        obtain ⟨w, u, rfl, h1, h2⟩ := rl
        refine ag.cons ?_ (ih h2 (by simpa using h))
        by_cases hj : j = k
        . simp only [if_pos hj]; exact r
        . simp only [if_neg hj]; exact h1
  | false => exact rl.append (ag.one r)
theorem qw {k : bO} {d : D} {ks : List bO} {ds : List D} (f : ao ds = true) (fd : d.lless = true) : ao (dO ks ds k d) = true := by
  unfold dO
  cases eT ks k with
  | true =>
    show ao (List.zipWith _ ks ds) = true
    induction ks generalizing ds with
    | nil => rfl
    | cons j ks ih =>
      cases ds with
      | nil => rfl
      | cons x ds =>
        rw [ao, Bool.and_eq_true] at f
        show ao ((if j = k then d else x) :: List.zipWith _ ks ds) = true
        rw [ao, Bool.and_eq_true]
        refine ⟨?_, ih f.2⟩
        split
        . exact fd
        . exact f.1
  | false =>
    show ao (ds ++ [d]) = true
    induction ds with
    | nil => show ao [d] = true; rw [ao, fd]; rfl
    | cons x ds ih =>
      rw [ao, Bool.and_eq_true] at f
      show ao (x :: (ds ++ [d])) = true
      rw [ao, f.1, ih f.2]; rfl
theorem AE {H0 : Hp} {ρ : aj} {x : Str} {e i : Expr} {p1 p2 pos : Pos} {ks : List bO} {ds : List D} {d di : D} {key : bO} {k k2 : Nat} (hx : ρ x = some (.dct ks ds, true)) (h : ED X ρ e d k) (hi : ED X ρ i di k2) (hk : mi di = some key) (fd : d.lless = true) (hz : ks.length < bI) (hn : gB x = true) (hsl : ∀ a b c p, i ≠ .Slice a b c p) :
    SD X H0 ρ (.Assign [.Subscript (.Name x p1) i p2] e pos) (.nx (bR ρ x (.dct (jf ks key) (dO ks ds key d), true))) := by
  intro pins s σ H D I ⟨ow, E, hl, B, q⟩
  obtain ⟨ix, v0, g1, g2, g3, g4⟩ := E.get x _ _ hx
  rw [ah] at g4
  obtain ⟨f, e0, a, vs, rfl, ha, hp, rl⟩ := g4
  have ho : ow a = some (some x) := hp.2
  have pn : PE X (.Name x p1) (uf ix) := mM g1 g2 (dW hn).1 (dW hn).2
  refine mL (h ow) (vG pn (hi ow) xy (fun v => by cases i <;> first | rfl | exact absurd rfl (hsl _ _ _ _))) oO (by cases e <;> rfl) rfl pins s σ H D I ⟨E, fun v H1 s1 r1 => ?_⟩
  refine ⟨_, g3, E.same s1, fun u H2 s2 r2 => ?_⟩
  have s12 := s1.trans s2
  have el : ks.length = vs.length := e0.trans rl.length
  refine ⟨a, _, key, rfl, mh hk r2, s12 _ _ ha, ?_, ?_⟩
  . rw [List.length_zip, <- el, Nat.min_self]; exact Nat.lt_of_lt_of_le hz gE
  rw [<- Al el]
  have ha2 := s12 _ _ ha
  have st : ∀ {P : bg} {o' : HO}, (P a true -> False) -> dM P P H2 (aV H2 a o') := fun {P o'} h => ⟨fun b o hb hn => by rw [aH (fun z => by subst z; rw [ha2] at hb; cases hb; exact hn)]; exact hb, fun b ws hb p => by rw [aH (fun z => by subst z; exact h p)]; exact hb, fun _ _ _ p => p, fun _ p => p⟩
  have rr : ag X.K H2 (fun _ _ => False) (dO ks ds key d) (dO ks vs key v) := AI ((r1.same s2).flat _ fd) ((rl.same s12).flat _ f) e0
  refine q ow σ _ ⟨fun y e o h => ?_, fun b hb => ?_⟩ hl ⟨fun b o h c => ?_, fun _ _ _ z => z⟩
  . rw [de] at h
    by_cases hy : y = x
    . subst hy
      rw [if_pos rfl] at h
      cases h
      exact ⟨ix, .ref a, g1, g2, g3, by rw [ah]; exact ⟨qw f fd, AJ e0, a, _, rfl, aO, ⟨rfl, ho⟩, (rr.mono (st fun z => z)).flat _ (qw f fd)⟩⟩
    . rw [if_neg hy] at h
      obtain ⟨j, w, e1, e2, e3, e4⟩ := (E.same s12).get y e o h
      refine ⟨j, w, e1, e2, e3, e4.mono (st fun p => ?_)⟩
      cases o with
      | true => have := p.2; rw [ho] at this; cases this; exact hy rfl
      | false => have := p rfl; rw [ho] at this; cases this
  . by_cases hz : b = a
    . subst hz; exact ⟨_, aO⟩
    . rw [aH hz]; exact (E.same s12).own b hb
  . rw [aH (fun z => by
      subst z
      rw [ha] at h; cases h
      rcases c with c | c
      . exact c
      . rw [ho] at c; cases c)]
    exact s12 b o h
theorem GZ {op : Operator} {r : R2} (h : cI X (inplaceOp op) r) : Hx X op r := h
theorem yc : cI X (inplaceOp .Mult) (rI (fun i j => bH i j) fun i j => .int (i * j)) := tq fun _ _ _ _ _ _ _ hc q => imul_int q (qF hc)
theorem wf : cI X (inplaceOp .FloorDiv) (rI (fun _ j => gb j) fun i j => .int (i.fdiv j)) := tq fun i j _ _ _ _ _ hc q => ifloordiv_int hc.1 q (.inl (PyProof.noPylong_of_log2 (by
  rcases Nat.eq_zero_or_pos j.natAbs with h1 | hp
  . exact absurd (by simpa using h1) hc.1
  . exact (Nat.log2_lt (Nat.ne_of_gt hp)).mpr hc.2)))
theorem CZ {Φ : Fx} {sc : Scope} {H0 : Hp} {ρ : aj} {e : Expr} {x : Str} {p pos : Pos} {op : Operator} {a b : Int} {d : D} {k k2 : Nat} {o : Bool} {l : List Prop} (G : aU Φ X sc) (hx : dJ sc x = true) (ha : ρ x = some (.int a, o)) (h : ED X ρ e (.int b) k) (hr : yQ op a b = .ok (d, k2) l) (hp : aE l) :
    SD X H0 ρ (.AugAssign (.Name x p) op e pos) (.nx (bR ρ x (d, true))) := by
  obtain ⟨g1, g2, g3, i, g4⟩ := gF G hx
  obtain ⟨r, hr1, hr2⟩ : ∃ r : R2, cI X (inplaceOp op) r /\ d.lless = true /\ ∀ H (Q : VK), (∀ v, ah X.K H (fun _ _ => False) d v -> Q v H) -> r (.int a) (.int b) H Q := by
    unfold yQ at hr
    split at hr
    . cases hr; exact ⟨_, Bu, rfl, fun H Q q => ⟨a, b, rfl, rfl, q _ (by rw [ah])⟩⟩
    . cases hr; exact ⟨_, Bt, rfl, fun H Q q => ⟨a, b, rfl, rfl, q _ (by rw [ah])⟩⟩
    . cases hr; exact ⟨_, yc, rfl, fun H Q q => ⟨a, b, rfl, rfl, hp.1, q _ (by rw [ah])⟩⟩
    . cases hr; exact ⟨_, wf, rfl, fun H Q q => ⟨a, b, rfl, rfl, hp.1, q _ (by rw [ah])⟩⟩
    . cases hr
  intro pins s σ H D I ⟨ow, E, hl, B, q⟩
  obtain ⟨i2, v, e1, e2, e3, e4⟩ := E.get x _ _ ha
  rw [ah] at e4; subst e4
  have hi : i2 = i := i0 G.nd e1 g4
  subst hi
  refine Dd (i := i2) G.nd g4 g1 (h ow) (GZ hr1) g3 pins s σ H D I ⟨.int a, e3, E, fun v H1 s1 r1 => ?_⟩
  rw [ah] at r1; subst r1
  refine hr2.2 H1 _ fun w rw' => ?_
  exact q ow _ H1 (e7 G.nd hl (E.same s1) g4 g2 (rw'.flat _ hr2.1)) (by rw [List.length_set]; exact hl) (bh.same s1)
theorem uF : nQ "append" kU := fun X hc => ⟨"list.append", _, PySem.F.slot_list_append, PySem.F.type_list_append, oR, fun ow H0 H l ds l' j o a vs ws h hp => by
  unfold kU at h
  split at h
  . rename_i d
    cases h
    have c := hp.1
    refine ⟨by simp, fun P Q hP oi sm ha rl rd q => ?_⟩
    obtain ⟨w, rfl, rw'⟩ := rd.only
    refine ⟨a, vs, w, rfl, rfl, ha, ?_, q _ _ (rl.append (ag.one ?_))⟩
    . rw [<- rl.length]; exact Nat.lt_trans hp.2.1 oS
    . rcases c with c | c
      . exact rw'.flat _ c
      . subst c; exact rw'.imp hP
  . cases h⟩
theorem ag.rev {K : W.Frag} {P : bg} {H : Hp} : ∀ {l : List D} {vs : List V}, ag K H P l vs -> ag K H P l.reverse vs.reverse
  | [], vs, h => by rw [ag] at h; subst h; exact ag.nil
  | d :: l, vs, h => by
    rw [ag] at h
    obtain ⟨v, r, rfl, h1, h2⟩ := h
    rw [List.reverse_cons, List.reverse_cons]
    exact (ag.rev h2).append (ag.one h1)
end Sp
set_option Elab.async false
set_option linter.all false
set_option maxRecDepth 100000
namespace Sp
open PySem PySem.Spec PyProof.Rows L2
variable {X : Cx}
theorem ml {ow : Ow} {H : Hp} {σ : L2.St} {ρ : aj} (x : Str) (E : aS X ow H σ ρ) : ∃ ow', aS X ow' H σ (demX x ρ) /\ bh ow H ow' H := by
  classical
  unfold demX
  let ow' : Ow := fun a => if ow a = some (some x) then none else ow a
  have o1 : ∀ a, ow a = none -> ow' a = none := fun a h => by show (if _ then _ else _) = _; split; rfl; exact h
  refine ⟨ow', ⟨fun y e o h => ?_, fun a ha => ?_⟩, fun a o h _ => h, fun a o h z => o1 a z⟩
  . by_cases hy : y = x
    . subst hy
      simp only [if_true] at h
      cases hd : ρ y with
      | none => rw [hd] at h; cases h
      | some q =>
        obtain ⟨d, o'⟩ := q
        rw [hd] at h
        cases h
        obtain ⟨j, w, e1, e2, e3, e4⟩ := E.get y _ _ hd
        refine ⟨j, w, e1, e2, e3, e4.imp fun a b p z => ?_⟩
        cases o' with
        | true => exact if_pos p.2
        | false => exact o1 a (p z)
    . simp only [if_neg hy] at h
      obtain ⟨j, w, e1, e2, e3, e4⟩ := E.get y e o h
      refine ⟨j, w, e1, e2, e3, e4.imp fun a b p => ?_⟩
      cases o with
      | true => exact ⟨p.1, by show (if _ then _ else _) = _; rw [if_neg (fun z => by rw [p.2] at z; cases z; exact hy rfl)]; exact p.2⟩
      | false => exact fun z => o1 a (p z)
  . refine E.own a fun z => ha (o1 a z)
theorem BZ (x : Str) (ρ : aj) : demA x ρ = ρ \/ demA x ρ = demX x ρ := by
  cases h : ρ x with
  | none => exact .inl (funext fun y => by unfold demA; split; (rename_i e; subst e; rw [h]; rfl); rfl)
  | some p =>
    cases hl : p.1.lless with
    | true => exact .inl (funext fun y => by unfold demA; split; (rename_i e; subst e; rw [h]; show some (p.1, p.2 && p.1.lless) = _; rw [hl, Bool.and_true]); rfl)
    | false => exact .inr (funext fun y => by unfold demA demX; split; (rename_i e; subst e; rw [h]; show some (p.1, p.2 && p.1.lless) = _; rw [hl, Bool.and_false]; rfl); rfl)
theorem jd : ∀ {es : List Expr} {ow : Ow} {H : Hp} {σ : L2.St} {ρ : aj}, aS X ow H σ ρ -> ∃ ow', aS X ow' H σ (demL es ρ) /\ bh ow H ow' H
  | [], ow, H, σ, ρ, E => ⟨ow, E, bh.refl _ _⟩
  | e :: es, ow, H, σ, ρ, E => by
    have one : ∀ x, ∃ ow', aS X ow' H σ (demL es (demA x ρ)) /\ bh ow H ow' H := fun x => by
      rcases BZ x ρ with h | h
      . rw [h]; exact jd E
      . rw [h]
        obtain ⟨ow1, E1, k1⟩ := ml x E
        obtain ⟨ow2, E2, k2⟩ := jd (es := es) E1
        exact ⟨ow2, E2, k1.trans k2⟩
    unfold demL
    split
    . rename_i z; cases z
    . rename_i z; cases z; exact one _
    . rename_i z; cases z; exact one _
    . rename_i z; cases z; exact jd E
theorem uT {ow : Ow} {H : Hp} {σ : L2.St} {ρ : aj} {e : Expr} (E : aS X ow H σ ρ) : ∃ ow', aS X ow' H σ (demote e ρ) /\ bh ow H ow' H := by
  unfold demote
  split
  . exact ml _ E
  . exact ml _ E
  . exact jd E
  . exact ⟨ow, E, bh.refl _ _⟩
def aa {α : Type} (r : Rs α) (a : α) : Prop := ∃ l, r = .ok a l /\ aE l
theorem av {α β : Type} {r : Rs α} {f : α -> Rs β} {b : β} (h : aa (r.bnd f) b) : ∃ a, aa r a /\ aa (f a) b := by
  obtain ⟨l, h, hp⟩ := h
  obtain ⟨a, l1, l2, h1, p1, h2, p2⟩ := aM h hp
  exact ⟨a, ⟨l1, h1, p1⟩, l2, h2, p2⟩
theorem ar {α : Type} {a : α} (h : aa (.st) a) : False := by obtain ⟨l, h, _⟩ := h; cases h
theorem aI {α : Type} {a b : α} {l : List Prop} (h : aa (.ok a l) b) : a = b := by obtain ⟨m, h, _⟩ := h; cases h; rfl
theorem CY {H0 : Hp} {ρ : aj} {tg iter : Expr} {body : List Stmt} {pos : Pos} {bind : D -> aj -> Option aj} {bodyF : aj -> Rs Fl} {ds : List D} {k : Nat} {fl : Fl} (hp : PassesOwn (model X.prog X.w) X.A X.env X.xe) (hcalm : X.calm = true)
    (hi : IE X (demote iter ρ) tg iter ds k) (hk : k <= 1) (hg : ∀ d ρ ρ', bind d ρ = some ρ' -> GD X ρ tg d ρ') (hb : ∀ ρ fl, aa (bodyF ρ) fl -> iS X H0 ρ body fl) (h : aa (cR bind bodyF ds (demote iter ρ)) fl)
    (hs : ∀ x, foldedSetIterable iter X.env x = pure x) : SD X H0 ρ (.For tg iter body [] pos) fl := by
  intro pins s σ H D0 I ⟨ow0, E0, hl, B0, q0⟩
  obtain ⟨ow, E, k0⟩ := uT (e := iter) E0
  have B := B0.keep k0
  have q := q0.keep k0
  have pb : fY X body (fun D σ H => ∃ ρ fl, aa (bodyF ρ) fl /\ zj X H0 ρ fl D σ H) := fun pins s σ H D I ⟨ρ1, fl1, h1, h2⟩ => hb ρ1 fl1 h1 pins s σ H D I h2
  have pg : PG X tg (fun v σ H Q => ∃ g : TG, PG X tg g /\ g v σ H Q) := fun pins s σ H v u Q I r ⟨g, h1, h2⟩ => h1 pins s σ H v u Q I r h2
  refine Db hp hcalm (hi ow) pg pb hs pins s σ H D0 I ⟨E, fun J H1 s1 itd => ?_⟩
  refine ⟨fun i m σ' H' => m = ds.length - i /\ i <= ds.length /\ ∃ ow' ρ', aS X ow' H' σ' ρ' /\ σ'.length = X.N.length /\ dF H0 ow' H' /\ bh ow H1 ow' H' /\ aa (cR bind bodyF (ds.drop i) ρ') fl,
    ⟨ds.length, by simp, Nat.zero_le _, ow, _, E.same s1, hl, B.keep (bh.same s1), bh.refl _ _, h⟩, ?_⟩
  rintro i m σ' H' ⟨rfl, hile, ow', ρ', E', hl', B', k', hf⟩
  have q' : oI X H0 ow' H' fl D0 := q.keep ((bh.same s1).trans k')
  have st : dM (Kd ow H k H1) (Kd ow H k H1) H1 H' := ⟨fun a o ha hn => k'.keep a o ha (.inl hn), fun a vs ha p => k'.keep a _ ha (.inr (g8 E.own hk p.1)), fun _ _ _ p => p, fun _ p => p⟩
  have it := itd i H' st
  by_cases hlt : i < ds.length
  . obtain ⟨go, yl⟩ := it.1 ds[i] (List.getElem?_eq_getElem hlt)
    have hdrop : ds.drop i = ds[i] :: ds.drop (i + 1) := List.drop_eq_getElem_cons hlt
    rw [hdrop, cR] at hf
    refine .inr ⟨go, fun σ2 H2 => i + 1 <= ds.length /\ ∃ ow2 ρ2, aS X ow2 H2 σ2 ρ2 /\ σ2.length = X.N.length /\ dF H0 ow2 H2 /\ bh ow H1 ow2 H2 /\ aa (cR bind bodyF (ds.drop (i + 1)) ρ2) fl, fun σ2 H2 n => ⟨ds.length - (i + 1), by omega, rfl, n.1, n.2⟩, fun x H3 y3 => ?_⟩
    obtain ⟨sm3, rx⟩ := yl x H3 y3
    cases hbd : bind ds[i] ρ' with
    | none => rw [hbd] at hf; exact (ar hf).elim
    | some ρ1 =>
      rw [hbd] at hf
      dsimp only at hf
      obtain ⟨g, g1, g2⟩ := hg _ _ _ hbd
      have rx' : ah X.K H3 (fun a b => b = true -> ow' a = none) ds[i] x := rx.impH (fun a o ha p _ => by
        obtain ⟨o1, h1⟩ := p.2 rfl
        exact k'.low a o1 h1 (g8 E.own hk p.1)) fun a _ z => (by cases z)
      refine ⟨g, g1, g2 ow' x σ' H3 _ hl' (E'.same sm3) rx' fun σ2 hl2 E2 => ?_⟩
      have k3 : bh ow' H' ow' H3 := bh.same sm3
      obtain ⟨f1, hbo, hf⟩ := av hf
      refine ⟨ρ1, f1, hbo, ow', E2, hl2, B'.keep k3, ?_⟩
      cases f1 with
      | nx ρ2 => exact fun ow2 σ3 H4 a b c => ⟨hlt, ow2, ρ2, a, b, (B'.keep k3).keep c, k'.trans (k3.trans c), hf⟩
      | ct ρ2 => exact fun ow2 σ3 H4 a b c => ⟨hlt, ow2, ρ2, a, b, (B'.keep k3).keep c, k'.trans (k3.trans c), hf⟩
      | bk ρ2 => cases aI hf; exact fun ow2 σ3 H4 a b c => q' ow2 σ3 H4 a b (k3.trans c)
      | rt d => cases aI hf; exact q'
  . have ei : i = ds.length := by omega
    subst ei
    rw [List.drop_length, cR] at hf
    cases aI hf
    exact .inl ⟨it.2 (Nat.le_refl _), q' ow' σ' H' E' hl' (bh.refl _ _)⟩
theorem xz {H0 : Hp} {c : Expr} {body : List Stmt} {pos : Pos} {test : aj -> Rs Bool} {bodyF : aj -> Rs Fl} {fl : Fl} (hp : PassesOwn (model X.prog X.w) X.A X.env X.xe)
    (hc : ∀ ρ b, aa (test ρ) b -> TD X ρ c b) (hb : ∀ ρ fl, aa (bodyF ρ) fl -> iS X H0 ρ body fl) {n0 : Nat} {ρ0 : aj} (h : aa (lF test bodyF n0 ρ0) fl) : SD X H0 ρ0 (.While c body [] pos) fl := by
  intro pins s σ H D0 I ⟨ow, E, hl, B, q⟩
  have pc : PT X c (fun σ H Q => ∃ ow ρ b, aa (test ρ) b /\ zi X ow ρ b σ H Q) := fun pins s σ H Q I ⟨ow, ρ, b, h1, h2⟩ => hc ρ b h1 ow pins s σ H Q I h2
  have pb : fY X body (fun D σ H => ∃ ρ fl, aa (bodyF ρ) fl /\ zj X H0 ρ fl D σ H) := fun pins s σ H D I ⟨ρ1, fl1, h1, h2⟩ => hb ρ1 fl1 h1 pins s σ H D I h2
  refine xE hp pc pb pins s σ H D0 I ?_
  refine ⟨fun m σ' H' => ∃ ow' ρ', aS X ow' H' σ' ρ' /\ σ'.length = X.N.length /\ dF H0 ow' H' /\ bh ow H ow' H' /\ aa (lF test bodyF m ρ') fl, ⟨n0, ow, ρ0, E, hl, B, bh.refl _ _, h⟩, ?_⟩
  rintro m σ' H' ⟨ow', ρ', E', hl', B', k', hw⟩
  have q' : oI X H0 ow' H' fl D0 := q.keep k'
  cases m with
  | zero => exact (ar hw).elim
  | succ m =>
    rw [lF] at hw
    obtain ⟨b, ht, hw⟩ := av hw
    refine ⟨ow', ρ', b, ht, E', fun H1 s1 => ?_⟩
    have k1 : bh ow' H' ow' H1 := bh.same s1
    cases b with
    | false =>
      cases aI hw
      exact q' ow' σ' H1 (E'.same s1) hl' k1
    | true =>
      rw [cond_true] at hw
      show if true = true then _ else _
      rw [if_pos rfl]
      refine ⟨fun σ2 H2 => ∃ ow2 ρ2, aS X ow2 H2 σ2 ρ2 /\ σ2.length = X.N.length /\ dF H0 ow2 H2 /\ bh ow H ow2 H2 /\ aa (lF test bodyF m ρ2) fl, fun σ2 H2 z => ⟨m, Nat.lt_succ_self _, z⟩, ?_⟩
      obtain ⟨f1, hbo, hw⟩ := av hw
      refine ⟨ρ', f1, hbo, ow', E'.same s1, hl', B'.keep k1, ?_⟩
      cases f1 with
      | nx ρ2 => exact fun ow2 σ3 H4 a b c => ⟨ow2, ρ2, a, b, (B'.keep k1).keep c, k'.trans (k1.trans c), hw⟩
      | ct ρ2 => exact fun ow2 σ3 H4 a b c => ⟨ow2, ρ2, a, b, (B'.keep k1).keep c, k'.trans (k1.trans c), hw⟩
      | bk ρ2 => cases aI hw; exact fun ow2 σ3 H4 a b c => q' ow2 σ3 H4 a b (k1.trans c)
      | rt d => cases aI hw; exact q'
theorem ej {Φ : Fx} {e : Expr} {it : Bool} {sc : Scope} {ρ : aj} {p : D × Nat} {X : Cx} (h : aa (ay Φ e it sc ρ) p) (G : aU Φ X sc) : e9 X ρ e it p.1 p.2 := let ⟨_, h, hp⟩ := h; Ha e h hp G
theorem we {e : Expr} (h : mW e = true) : (∃ a b c d, e = .ListComp a b c d) \/ ∀ (Φ : Fx) (sc : Scope) (ρ : aj), ay Φ e false sc ρ = .st := by
  cases e <;> first | exact .inl ⟨_, _, _, _, rfl⟩ | exact .inr fun _ _ _ => rfl | cases h
theorem oQ {Φ : Fx} {sc : Scope} {H0 : Hp} {ρ : aj} {e : Expr} {x : Str} {p pos : Pos} {r : D × Nat} {o : Bool} (G : aU Φ X sc) (hx : dJ sc x = true) (h : aa (ay Φ e false sc ρ) r) (ho : (r.2 = 0 /\ o = true) \/ (r.2 = 1 /\ o = false)) :
    SD X H0 ρ (.Assign [.Name x p] e pos) (.nx (bR ρ x (r.1, o))) := by
  by_cases hc : mW e = true
  . rcases we hc with ⟨elt, gens, scope, q, rfl⟩ | hno
    rotate_left
    . rw [hno] at h; exact (ar h).elim
    . clear hc
      have hsw : ∃ b, swapsWith (.ListComp elt gens scope q) (some (.Name x p)) pos.line X.env = pure b := ⟨_, rfl⟩
      obtain ⟨b, hsw⟩ := hsw
      cases b with
      | false => exact vx G hx ((ej h G).ed rfl) ho hsw
      | true =>
        obtain ⟨l, h, hp⟩ := h
        obtain ⟨tg, iter, ifs, rfl⟩ := om h
        obtain ⟨ds, f, k1, a1, a2, a3, a4, a5, a6, a7, a8, a9⟩ := sT (gH Φ _) (Nat.lt_succ_self _) h hp G
        obtain ⟨g1, g2, g3, i, g4⟩ := gF G hx
        rw [a9]
        intro pins s σ H D0 I ⟨ow, E, hl, B, q⟩
        refine AN (D0 := D0) (i := i) G.calm G.nd a1 a2 a3 a4 a5 a6 a7 a8 I E hsw g4 g1 g3 fun v H1 s1 r1 => ?_
        rcases ho with ⟨ho, rfl⟩ | ⟨ho, rfl⟩ <;> rw [ho] at r1
        . obtain ⟨ow', E', k'⟩ := tW G.nd hl E s1 g4 g2 r1
          exact q ow' _ H1 E' (by rw [List.length_set]; exact hl) k'
        . exact q ow _ H1 (e7 G.nd hl (E.same s1) g4 g2 r1) (by rw [List.length_set]; exact hl) (bh.same s1)
  . exact vx G hx ((ej h G).ed rfl) ho (sj (by simpa using hc))
theorem lL {Φ : Fx} {e : Expr} {it : Bool} {sc : Scope} {ρ : aj} {r : D × Nat} (h : aa (ay Φ e it sc ρ) r) : ∀ a b c p, e ≠ .Slice a b c p := by
  intro a b c p z; subst z; exact (ar h).elim
theorem qB {ρ : aj} {x : Str} {f : List D -> Rs Fl} {fl : Fl} (h : aa (n9 ρ x f) fl) : ∃ l, ρ x = some (.lst l, true) /\ gB x = true /\ aa (f l) fl := by
  unfold n9 at h
  split at h
  . rename_i l e
    split at h
    . rename_i c
      exact ⟨l, e, c, h⟩
    . exact (ar h).elim
  . exact (ar h).elim
theorem bK {α : Type} {a b : α} {l : List Prop} (h : aa (.ok a l) b) : a = b /\ aE l := by obtain ⟨m, h, hp⟩ := h; cases h; exact ⟨rfl, hp⟩
theorem qf {ρ : aj} {x : Str} {i d : D} {fl : Fl} (h : aa (qg ρ x i d) fl) : (∃ l j l', ρ x = some (.lst l, true) /\ ao l = true /\ gB x = true /\ i = .int j /\ uj l j d = some l' /\ d.lless = true /\ fl = .nx (bR ρ x (.lst l', true))) \/ ∃ ks ds k, ρ x = some (.dct ks ds, true) /\ mi i = some k /\ gB x = true /\ d.lless = true /\ ks.length < bI /\ fl = .nx (bR ρ x (.dct (jf ks k) (dO ks ds k d), true)) := by
  unfold qg at h
  split at h
  . rename_i l e
    split at h
    . split at h
      . rename_i hn
        split at h
        . rename_i l' hs
          obtain ⟨h9, h1, h2, _⟩ := bK h
          exact .inl ⟨l, _, l', e, h1, hn, rfl, hs, h2, h9.symm⟩
        . exact (ar h).elim
      . exact (ar h).elim
    . exact (ar h).elim
  . rename_i ks ds e
    split at h
    . rename_i k hk
      split at h
      . rename_i hn
        obtain ⟨h9, h1, h2, _⟩ := bK h
        exact .inr ⟨ks, ds, k, e, hk, hn, h1, h2, h9.symm⟩
      . exact (ar h).elim
    . exact (ar h).elim
  . exact (ar h).elim
theorem Du {Φ : Fx} {es : List Expr} {e : Expr} {n : Nat} {p pos : Pos} {sc : Scope} {ρ : aj} {fl : Fl} {X : Cx} {H0 : Hp} (h : aa (ni Φ es e sc ρ) fl) (G : aU Φ X sc) : SD X H0 ρ (.Assign [.Tuple es n p] e pos) fl := by
  unfold ni at h
  split at h
  . split at h
    . rename_i hp
      obtain ⟨q, ⟨lq, h1, hq⟩, h⟩ := av h
      split at h
      . rename_i u v hd
        split at h
        . rename_i hf
          cases aI h
          obtain ⟨n1, _⟩ := dG h1 hq
          have c := rj _ h1 hq G
          rw [hd] at c
          exact CV G c hf hp (n1 _ (by simp)) (n1 _ (by simp))
        . exact (ar h).elim
      . exact (ar h).elim
    . exact (ar h).elim
  . exact (ar h).elim
theorem FE {Φ : Fx} {tgs : List Expr} {e : Expr} {sc : Scope} {ρ : aj} {fl : Fl} {X : Cx} {H0 : Hp} {pos : Pos} (h : aa (nl Φ tgs e sc ρ) fl) (G : aU Φ X sc) : SD X H0 ρ (.Assign tgs e pos) fl := by
  unfold nl at h
  split at h
  . obtain ⟨p, h1, h⟩ := av h
    unfold nY at h
    split at h
    . rename_i hx
      split at h
      . rename_i ho; cases aI h; exact oQ G hx h1 (.inl ⟨ho, rfl⟩)
      . rename_i ho; cases aI h; exact oQ G hx h1 (.inr ⟨ho, rfl⟩)
      . exact (ar h).elim
    . exact (ar h).elim
  . split at h
    . exact Du h G
    . rename_i ht
      have ht := Bool.eq_false_iff.mpr ht
      obtain ⟨p, h1, h⟩ := av h
      split at h
      . rename_i ds hd
        split at h
        . rename_i hf
          split at h
          . rename_i ρ' hb
            cases aI h
            exact CU G ((ej h1 G).ed rfl) hd hf hb ht
          . exact (ar h).elim
        . exact (ar h).elim
      . exact (ar h).elim
  . split at h
    . rename_i hc
      obtain ⟨p, h1, h⟩ := av h
      obtain ⟨q, h2, h⟩ := av h
      have c2 := (ej h2 G).ed rfl
      rcases qf h with ⟨l, j, l', a1, a2, a3, hj, hs, hf, rfl⟩ | ⟨ks, ds, k, a1, hk, a3, hf, hz, rfl⟩
      . rw [hj] at c2
        exact xA a1 ((ej h1 G).ed rfl) c2 a2 hf a3 hs (lL h2)
      . exact AE a1 ((ej h1 G).ed rfl) c2 hk hf hz a3 (lL h2)
    . exact (ar h).elim
  . exact (ar h).elim
theorem oa {p : D × Nat} {f : Int -> R1} {a : D × Nat} (h : aa (i6 p f) a) : ∃ b, p.1 = .int b /\ aa (f b) a := by
  obtain ⟨l, h, hp⟩ := h
  obtain ⟨b, h1, h2⟩ := yd h
  exact ⟨b, h1, l, h2, hp⟩
theorem FD {Φ : Fx} {t e : Expr} {op : Operator} {sc : Scope} {ρ : aj} {fl : Fl} {X : Cx} {H0 : Hp} {pos : Pos} (h : aa (nk Φ t op e sc ρ) fl) (G : aU Φ X sc) : SD X H0 ρ (.AugAssign t op e pos) fl := by
  unfold nk at h
  split at h
  . split at h
    . rename_i hx
      split at h
      . rename_i p hp
        obtain ⟨r, h1, h⟩ := av h
        cases aI h
        obtain ⟨a, ha, h3⟩ := oa h1
        obtain ⟨q, h2, h4⟩ := av h3
        obtain ⟨b, hb, h5⟩ := oa h4
        obtain ⟨l, h9, hpl⟩ := h5
        have c := (ej h2 G).ed rfl
        rw [hb] at c
        obtain ⟨p1, p2⟩ := p
        have ha : p1 = .int a := ha
        subst ha
        exact CZ G hx hp c h9 hpl
      . exact (ar h).elim
    . exact (ar h).elim
  . exact (ar h).elim
theorem Ej {Φ : Fx} {e : Expr} {sc : Scope} {ρ : aj} {fl : Fl} {X : Cx} {H0 : Hp} {pos : Pos} (h : aa (nj Φ e sc ρ) fl) (G : aU Φ X sc) : SD X H0 ρ (.Expr e pos) fl := by
  unfold nj at h
  split at h
  . split at h
    . rename_i hln
      obtain ⟨p, ⟨lp, h1, hp1⟩, h⟩ := av h
      split at h
      . rename_i M hM
        obtain ⟨l, a1, a3, h⟩ := qB h
        obtain ⟨l', ⟨o, h2, hp2⟩, h⟩ := av h
        cases aI h
        obtain ⟨n1, n2⟩ := dG h1 hp1
        exact CW G.calm (G.mtt _ M hM) a1 (rj _ h1 hp1 G) n1 n2 a3 hln h2 hp2
      . exact (ar h).elim
    . exact (ar h).elim
  . obtain ⟨p, h1, h⟩ := av h
    cases aI h
    exact AC ((ej h1 G).ed rfl) ⟨_, _, _, _, _, rfl⟩
  . exact (ar h).elim
structure Is (Φ : Fx) (n : Nat) : Prop where
  s : ∀ (st : Stmt) {sc : Scope} {ρ : aj} {fl : Fl} {X : Cx} {H0 : Hp}, sizeOf st < n -> aa (du Φ st sc ρ) fl -> aU Φ X sc -> PassesOwn (model X.prog X.w) X.A X.env X.xe -> SD X H0 ρ st fl
  ss : ∀ (st : List Stmt) {sc : Scope} {ρ : aj} {fl : Fl} {X : Cx} {H0 : Hp}, sizeOf st < n -> aa (az Φ st sc ρ) fl -> aU Φ X sc -> PassesOwn (model X.prog X.w) X.A X.env X.xe -> iS X H0 ρ st fl
theorem fM {p : D × Nat} {α : Type} {f : Bool -> Rs α} {a : α} (h : aa (ib p f) a) : ∃ b, p.1 = .bl b /\ aa (f b) a := by
  obtain ⟨l, h, hp⟩ := h
  obtain ⟨b, h1, h2⟩ := lj h
  exact ⟨b, h1, l, h2, hp⟩
theorem G8 {Φ : Fx} {n : Nat} (I : Is Φ n) (st : Stmt) {sc : Scope} {ρ : aj} {fl : Fl} {X : Cx} {H0 : Hp} (hs : sizeOf st < n + 1) (h : aa (du Φ st sc ρ) fl) (G : aU Φ X sc) (hp : PassesOwn (model X.prog X.w) X.A X.env X.xe) : SD X H0 ρ st fl := by
  cases st with
  | Return e p =>
    cases e with
    | none => cases aI h; exact Az
    | some e =>
      obtain ⟨p, h1, h⟩ := av (show aa (Rs.bnd _ _) fl from h)
      unfold uk at h
      split at h
      . rename_i hk
        cases aI h
        exact vy ((ej h1 G).ed rfl) hk
      . exact (ar h).elim
  | Pass p => cases aI h; exact AB
  | Break p => cases aI h; exact xB
  | Continue p => cases aI h; exact AF
  | Assign tgs e p => exact FE h G
  | AugAssign t op e p => exact FD h G
  | Expr e p => exact Ej h G
  | If c a b p =>
    obtain ⟨p, h1, h⟩ := av (show aa (Rs.bnd _ _) fl from h)
    obtain ⟨t, ht, h⟩ := fM h
    refine Gx ((ej h1 G).td rfl t ht) ?_
    cases t with
    | true => rw [if_pos rfl]; exact I.ss _ (aX (by simp <;> omega) hs) h G hp
    | false => rw [if_neg Bool.false_ne_true]; exact I.ss _ (aX (by simp <;> omega) hs) h G hp
  | For tg it body els p =>
    rw [oq] at h
    split at h
    . rename_i he
      have he := List.isEmpty_iff.mp he
      subst he
      obtain ⟨p, h1, h⟩ := av h
      split at h
      . rename_i ds hd
        split at h
        . rename_i hk
          obtain ⟨lq, h1', _⟩ := id h1
          exact CY hp G.calm ((ej h1 G).ie rfl _ ds hd hk.2) hk.1 (fun d ρ ρ' hb => zR G hb) (fun ρ1 f1 h2 => I.ss _ (aX (by simp <;> omega) hs) h2 G hp) h (oY h1')
        . exact (ar h).elim
      . exact (ar h).elim
    . exact (ar h).elim
  | While c body els p =>
    rw [rh] at h
    split at h
    . rename_i he
      have he := List.isEmpty_iff.mp he
      subst he
      refine xz hp (fun ρ b hb => ?_) (fun ρ1 f1 h2 => I.ss _ (aX (by simp <;> omega) hs) h2 G hp) h
      obtain ⟨p, h1, hb⟩ := av hb
      obtain ⟨t, ht, hb⟩ := fM hb
      cases aI hb
      exact (ej h1 G).td rfl _ ht
    . exact (ar h).elim
  | _ => exact (ar h).elim
theorem Ei {Φ : Fx} {n : Nat} (I : Is Φ n) (ss : List Stmt) {sc : Scope} {ρ : aj} {fl : Fl} {X : Cx} {H0 : Hp} (hs : sizeOf ss < n + 1) (h : aa (az Φ ss sc ρ) fl) (G : aU Φ X sc) (hp : PassesOwn (model X.prog X.w) X.A X.env X.xe) : iS X H0 ρ ss fl := by
  cases ss with
  | nil => cases aI h; exact Aw
  | cons s ss =>
    obtain ⟨f1, h1, h⟩ := av (show aa (Rs.bnd _ _) fl from h)
    have c := I.s s (H0 := H0) (aX (by simp <;> omega) hs) h1 G hp
    cases f1 with
    | nx ρ' => exact qh c (I.ss ss (aX (by simp <;> omega) hs) h G hp)
    | bk ρ' => cases aI h; exact iX c (fun _ z => (by cases z))
    | ct ρ' => cases aI h; exact iX c (fun _ z => (by cases z))
    | rt d => cases aI h; exact iX c (fun _ z => (by cases z))
theorem mV (Φ : Fx) : ∀ n, Is Φ n
  | 0 => ⟨fun _ _ _ _ _ _ h => absurd h (Nat.not_lt_zero _), fun _ _ _ _ _ _ h => absurd h (Nat.not_lt_zero _)⟩
  | n + 1 => ⟨fun e _ _ _ _ _ hs h G hp => G8 (mV Φ n) e hs h G hp, fun e _ _ _ _ _ hs h G hp => Ei (mV Φ n) e hs h G hp⟩
theorem wv {Φ : Fx} (ss : List Stmt) {sc : Scope} {ρ : aj} {fl : Fl} {X : Cx} {H0 : Hp} (h : aa (az Φ ss sc ρ) fl) (G : aU Φ X sc) (hp : PassesOwn (model X.prog X.w) X.A X.env X.xe) : iS X H0 ρ ss fl := (mV Φ _).ss ss (Nat.lt_succ_self _) h G hp
end Sp
set_option Elab.async false
set_option linter.all false
set_option maxRecDepth 100000
namespace Sp
open PySem PySem.Spec PyProof.Rows L2
def aA (sc : Scope) : List Str := (sc.names.filter fun y => y.2 == .local || y.2 == .cell).map (·.1)
def cv (P : Program) (w : World) (K : W.Frag) (mg : Str -> Option Value) (base : Heap) (k : Nat) (g : Str) (F : List D -> Rs D) : Prop :=
  ∃ f fd ps, cH P w K mg base fR k f fd ps (jE K F) /\ mg g = some (.ref f) /\ W.keepIn K (.ref f) = true /\ cN K fd ps [] /\ (g == ("__debug__" : Str)) = false
theorem cv.mono {P : Program} {w : World} {K : W.Frag} {mg : Str -> Option Value} {base : Heap} {j k : Nat} {g : Str} {F : List D -> Rs D} (h : cv P w K mg base j g F) (hjk : j <= k) : cv P w K mg base k g F :=
  let ⟨f, fd, ps, h1, h2⟩ := h; ⟨f, fd, ps, h1.mono hjk, h2⟩
def Af (P : Program) (w : World) (K : W.Frag) (mg : Str -> Option Value) (base : Heap) (k : Nat) (g : Str) (F : List D -> Rs D) : Prop :=
  ∃ j C f fd ps, j + 1 <= k /\ (∀ ds r l, F ds = .ok r l -> r.lless = true) /\ Mk K C f /\ cH P w K mg base fR j f fd ps (Hv K g F) /\ mg g = some (.ref C) /\ W.nsIn K mainGlobals g = some (some (.ref C)) /\ fZ K C /\ cN K fd ps [] /\ (g == ("__debug__" : Str)) = false
theorem Af.mono {P : Program} {w : World} {K : W.Frag} {mg : Str -> Option Value} {base : Heap} {j k : Nat} {g : Str} {F : List D -> Rs D} (h : Af P w K mg base j g F) (hjk : j <= k) : Af P w K mg base k g F :=
  let ⟨i, C, f, fd, ps, h0, h1⟩ := h; ⟨i, C, f, fd, ps, Nat.le_trans h0 hjk, h1⟩
def HD (P : Program) (w : World) (K : W.Frag) (mg : Str -> Option Value) (base : Heap) (k : Nat) (g : Str) (F : List D -> Rs D) : Prop := cv P w K mg base k g F \/ Af P w K mg base k g F
def pP (P : Program) (w : World) (K : W.Frag) (mg : Str -> Option Value) (base : Heap) (k : Nat) (n m : Str) (F : List D -> Rs D) : Prop :=
  ∃ C f fd ps, W.nsIn K mainGlobals n = some (some (.ref C)) /\ fZ K C /\ r8 K C m f /\ cH P w K mg base fR k f fd ps (jE K F) /\ cN K fd ps []
theorem pP.mono {P : Program} {w : World} {K : W.Frag} {mg : Str -> Option Value} {base : Heap} {j k : Nat} {n m : Str} {F : List D -> Rs D} (h : pP P w K mg base j n m F) (hjk : j <= k) : pP P w K mg base k n m F :=
  let ⟨C, f, fd, ps, h1, h2, h3, h4, h5⟩ := h; ⟨C, f, fd, ps, h1, h2, h3, h4.mono hjk, h5⟩
theorem rO : ∀ {ps : List Str} {ds : List D} {x : Str} {d : D} {o : Bool}, fh ps ds x = some (d, o) -> o = false /\ ∃ i : Nat, ps[i]? = some x /\ ds[i]? = some d
  | [], ds, x, d, o, h => by cases ds <;> cases h
  | p :: ps, [], x, d, o, h => by cases h
  | p :: ps, y :: ds, x, d, o, h => by
    replace h : (if x = p then some (y, false) else fh ps ds x) = some (d, o) := h
    by_cases e : x = p
    . rw [if_pos e] at h
      cases h; subst e; exact ⟨rfl, 0, rfl, rfl⟩
    . rw [if_neg e] at h
      obtain ⟨h1, i, h2, h3⟩ := rO h
      exact ⟨h1, i + 1, by simpa using h2, by simpa using h3⟩
structure xi (P : Program) (w : World) (K : W.Frag) (mg : Str -> Option Value) (base : Heap) (k : Nat) (Φ : Fx) : Prop where
  fn : ∀ g F, Φ.fn g = some F -> HD P w K mg base k g F
  con : ∀ x d, Φ.con x = some d -> ∃ v u, mg x = some u /\ aQ v u /\ ∀ H P, ah K H P d v
  blt : ∀ f B, Φ.blt f = some B -> eO f B
  itr : ∀ f B, Φ.itr f = some B -> jl f B
  mth : ∀ m M, Φ.mth m = some M -> ve m M
  mtt : ∀ m M, Φ.mtt m = some M -> nQ m M
  slf : pM Φ.slf
  fld : ∀ n f, Φ.fld n f = true -> ∀ C, W.nsIn K mainGlobals n = some (some (.ref C)) -> nO K C f
  omt : ∀ n m F, Φ.omt n m = some F -> pP P w K mg base k n m F
  bl : ∀ n ∈ gO, mg n = none
def dg (Φ : Fx) (sc : Scope) (ps : List Str) (body : List Stmt) (F : List D -> Rs D) : Prop := ∀ ds r, aa (F ds) r -> aa (bD Φ sc ps body ds) r
theorem dg.self {Φ : Fx} {sc : Scope} {ps : List Str} {body : List Stmt} : dg Φ sc ps body (bD Φ sc ps body) := fun _ _ h => h
theorem tQ {P : Program} {w : World} {K : W.Frag} {mg : Str -> Option Value} {base : Heap} {k : Nat} {qual : Str} {st : Stmt} {f : Addr} {ps : List Str} {Φ : Fx} {cdv : Value} {A : Around} {outer : List Env} {s : Shared} {H : Hp} {E : XK}
    (S : aK (aA (ac st)) ps (ac st)) (hΦ : xi P w K mg base k Φ) (hr : cf k (A.deeper (envOfC qual (ac st) s.heap.objs.size f cdv))) :
    aU Φ (jZ fR P w K mg base (aA (ac st)) qual (ac st) f cdv A outer s H E).nox (ac st) := by
  have hun := hr.un
  refine ⟨rfl, S.nd, fun x hx => hx, fun x hx => hx, fun x hx => hx, fun x hx => hx, fun g' F' hg => ?_, hΦ.con, hΦ.blt, hΦ.itr, hΦ.mth, hΦ.mtt, hΦ.slf, hΦ.fld, fun n m F hF => ?_, hΦ.bl, ?_, fun x hx => ?_, fun x _ => rfl⟩
  . rcases hΦ.fn g' F' hg with z | z
    . obtain ⟨f', fd', ps', a1, a2, a3, a4, a5⟩ := z
      exact .inl ⟨k, f', fd', ps', a1, hr, a2, a3, a4, a5⟩
    . obtain ⟨j, C, f', fd', ps', a0, a1, a2, a3, a4⟩ := z
      exact .inr ⟨j, C, f', fd', ps', a1, a2, a3, hr.mono a0, a4⟩
  . obtain ⟨C, f', fd', ps', a1, a2, a3, a4, a5⟩ := hΦ.omt n m F hF
    exact ⟨k, C, f', fd', ps', a1, a2, a3, a4, hr, a5⟩
  . show (A.deeper _).units + 70 < cLine
    omega
  . show x ∈ aA (ac st)
    unfold aA
    unfold dJ at hx
    rw [Bool.or_eq_true] at hx
    rcases hx with hx | hx
    . have hx : (ac st).names.lookup x = some .local := by simpa using hx
      exact List.mem_map.mpr ⟨(x, .local), List.mem_filter.mpr ⟨PySem.mem_of_lookup hx, by simp⟩, rfl⟩
    . have hx : (ac st).names.lookup x = some .cell := by simpa using hx
      exact List.mem_map.mpr ⟨(x, .cell), List.mem_filter.mpr ⟨PySem.mem_of_lookup hx, by simp⟩, rfl⟩
theorem wB {P : Program} {w : World} {K : W.Frag} {mg : Str -> Option Value} {base : Heap} {qual : Str} {st : Stmt} {f : Addr} {ps : List Str} {cdv : Value} {A : Around} {outer : List Env} {s : Shared} {H : Hp} {E : XK} {ds : List D} {vs : List V}
    (S : aK (aA (ac st)) ps (ac st)) (h1 : ag K H (fun _ _ => True) ds vs) (hl : ds.length = ps.length) :
    aS (jZ fR P w K mg base (aA (ac st)) qual (ac st) f cdv A outer s H E).nox (fun _ => none) H (start (aA (ac st)) vs) (fh ps ds) /\ (start (aA (ac st)) vs).length = (aA (ac st)).length := by
  have hpl : ps.length <= (aA (ac st)).length := by have := congrArg List.length S.pre; rw [List.length_take] at this; omega
  have hvl : vs.length = ps.length := by rw [<- h1.length]; exact hl
  refine ⟨⟨fun x d o hx => ?_, fun a ha => absurd rfl ha⟩, by unfold L2.start; rw [List.length_append, List.length_map, List.length_replicate]; omega⟩
  obtain ⟨rfl, i, i1, i2⟩ := rO hx
  obtain ⟨v, i3, i4⟩ := h1.get i2
  have hi : i < ps.length := (List.getElem?_eq_some_iff.mp i1).1
  refine ⟨i, v, ?_, ?_, ?_, i4.imp fun a b _ _ => rfl⟩
  . show (aA (ac st))[i]? = some x
    rw [<- S.pre, List.getElem?_take_of_lt hi] at i1
    exact i1
  . rcases S.par x (List.mem_of_getElem? i1) with z | z
    . exact .inl z
    . exact .inr (.inl z)
  . unfold L2.start
    rw [List.getElem?_append_left (by rw [List.length_map]; omega), List.getElem?_map, i3]; rfl
theorem tS {P : Program} {w : World} {K : W.Frag} {mg : Str -> Option Value} {base : Heap} {k : Nat} {g qual : Str} {st : Stmt} {f : Addr} {fd : FuncData} {ps : List Str} {F : List D -> Rs D} {Φ : Fx} (Fn : pp K g qual st f fd)
    (S : aK (aA (ac st)) ps (ac st)) (hΦ : xi P w K mg base k Φ)
    (hrun : dg Φ (ac st) ps (al st) F) : cH P w K mg base fR (k + 1) f fd ps (jE K F) := by
  refine Fn.ok S (fun vs H Q E h => ?_) (fun cdv A outer s H vs Q E hr h => ?_)
  . obtain ⟨ds, r, l, h1, h2, hp, _⟩ := h
    have := hrun ds r ⟨l, h2, hp⟩
    unfold bD at this
    split at this
    . rename_i hl; rw [<- h1.length]; exact hl
    . exact (ar this).elim
  . obtain ⟨ds, r, l, h1, h2, hp, q⟩ := h
    have hr1 := hrun ds r ⟨l, h2, hp⟩
    unfold bD at hr1
    split at hr1
    . rename_i hl
      have G := tQ (outer := outer) (H := H) (E := E) S hΦ hr
      obtain ⟨E0, hsl⟩ := wB (P := P) (w := w) (mg := mg) (base := base) (qual := qual) (f := f) (cdv := cdv) (A := A) (outer := outer) (s := s) (E := E) S h1 hl
      have B0 : dF H (fun _ => none) H := fun a o h => ⟨h, rfl⟩
      obtain ⟨fl, hx, hr1⟩ := av hr1
      cases fl with
      | rt d =>
        cases aI hr1
        exact ⟨_, wv _ (H0 := H) hx G PassesOwn.never, fun _ => none, E0, hsl, B0, fun v H' sm rp => q v H' sm rp⟩
      | nx ρ' =>
        cases aI hr1
        exact ⟨_, wv _ (H0 := H) hx G PassesOwn.never, fun _ => none, E0, hsl, B0, fun ow' σ' H' _ _ kp => q .non H' (fun a o h => kp.keep a o h (.inr rfl)) (by rw [ah])⟩
      | bk ρ' => exact (ar hr1).elim
      | ct ρ' => exact (ar hr1).elim
    . exact (ar hr1).elim
mutual
def D.noObj : D -> Bool
  | .obj _ _ _ => false
  | .tup l => iI l
  | .lst l => iI l
  | .dct _ l => iI l
  | _ => true
def iI : List D -> Bool
  | [] => true
  | d :: l => d.noObj && iI l
end
mutual
theorem ah.off {K : W.Frag} {P : bg} {H H' : Hp} {x C dx : Addr} {fs : List (Str × V)} (hx : H x = some (.ins C dx fs)) (s : ∀ a o, a ≠ x -> H a = some o -> H' a = some o) : ∀ {d : D} {v : V}, d.noObj = true -> ah K H P d v -> ah K H' P d v
  | .non, v, _, h => by rw [ah] at h ⊢; exact h
  | .bl b, v, _, h => by rw [ah] at h ⊢; exact h
  | .int i, v, _, h => by rw [ah] at h ⊢; exact h
  | .str x, v, _, h => by rw [ah] at h ⊢; exact h
  | .dct ks es, v, f, h => by
    rw [ah] at h ⊢
    obtain ⟨f0, e0, a, vs, e, h1, p, r⟩ := h
    exact ⟨f0, e0, a, vs, e, s _ _ (kM h1 hx (fun z => nomatch z)) h1, p, ag.off hx s (by rw [D.noObj] at f; exact f) r⟩
  | .typ n, v, _, h => by rw [ah] at h ⊢; exact h
  | .sn n, v, _, h => by
    rw [ah] at h ⊢
    obtain ⟨a, S, e, h⟩ := h
    exact ⟨a, S, e, s _ _ (kM h hx (fun z => nomatch z)) h⟩
  | .obj n ns ds, v, f, h => by rw [D.noObj] at f; cases f
  | .cls n, v, _, h => by rw [ah] at h ⊢; exact h
  | .tup l, v, f, h => by
    rw [ah] at h ⊢
    obtain ⟨a, vs, e, h, r⟩ := h
    refine ⟨a, vs, e, ?_, ag.off hx s (by rw [D.noObj] at f; exact f) r⟩
    rcases h with (h | ⟨o, h⟩) | h
    . exact .inl (.inl (s _ _ (kM h hx (fun z => nomatch z)) h))
    . exact .inl (.inr ⟨o, s _ _ (kM h hx (fun z => nomatch z)) h⟩)
    . exact .inr h
  | .lst l, v, f, h => by
    rw [ah] at h ⊢
    obtain ⟨a, vs, b, e, h, p, r⟩ := h
    refine ⟨a, vs, b, e, ?_, p, ag.off hx s (by rw [D.noObj] at f; exact f) r⟩
    cases b with
    | true => exact s _ _ (kM h hx (fun z => nomatch z)) h
    | false =>
      rcases h with ⟨o, h⟩ | h
      . exact .inl ⟨o, s _ _ (kM h hx (fun z => nomatch z)) h⟩
      . exact .inr h
theorem ag.off {K : W.Frag} {P : bg} {H H' : Hp} {x C dx : Addr} {fs : List (Str × V)} (hx : H x = some (.ins C dx fs)) (s : ∀ a o, a ≠ x -> H a = some o -> H' a = some o) : ∀ {l : List D} {vs : List V}, iI l = true -> ag K H P l vs -> ag K H' P l vs
  | [], vs, _, h => by rw [ag] at h ⊢; exact h
  | d :: l, vs, f, h => by
    rw [ag] at h ⊢
    rw [iI, Bool.and_eq_true] at f
    obtain ⟨v, r, e, h1, h2⟩ := h
    exact ⟨v, r, e, ah.off hx s f.1 h1, ag.off hx s f.2 h2⟩
end
theorem be {P : Program} {w : World} {K : W.Frag} {mg : Str -> Option Value} {base : Heap} {k : Nat} {g qual : Str} {st : Stmt} {f : Addr} {fd : FuncData} {ps : List Str} {F : List D -> Rs D} {Φ : Fx} (Fn : pp K g qual st f fd)
    (S : aK (aA (ac st)) ps (ac st)) (hm : mg g = some (.ref f)) (hb : cN K fd ps []) (hd : (g == ("__debug__" : Str)) = false)
    (hΦ : xi P w K mg base k Φ) (hrun : dg Φ (ac st) ps (al st) F) : cv P w K mg base (k + 1) g F :=
  ⟨f, fd, ps, tS Fn S hΦ hrun, hm, Fn.kp, hb, hd⟩
theorem aw {α : Type} {Pr : α -> Prop} {x : α} {l : List α} (h1 : Pr x) (h2 : ∀ y ∈ l, Pr y) : ∀ y ∈ x :: l, Pr y := fun y hy => (List.mem_cons.mp hy).elim (fun e => e ▸ h1) (h2 y)
theorem ax {α : Type} {Pr : α -> Prop} : ∀ y ∈ ([] : List α), Pr y := fun y hy => by cases hy
theorem Eb {K : W.Frag} {H : Hp} {a : Addr} {ns : List Int} {F : List D -> Rs D} (hO : vd H) (hS : cm K H a (ns.map V.int)) (h : aa (F [.lst (ns.map D.int)]) (.bl true)) : jE K F [.ref a] H (fun v _ => v = .bl true) fun _ _ _ => False := by
  obtain ⟨l, h, hp⟩ := h
  refine ⟨[.lst (ns.map D.int)], .bl true, l, ag.one ?_, h, hp, fun v H' _ r => by rw [ah] at r; exact r⟩
  rw [ah]
  rcases hS with (hS | hS) | hS
  . rcases hO a with z | ⟨o, xs, z⟩
    . rw [z] at hS; cases hS
    . rw [z] at hS; cases hS
  . exact ⟨a, _, false, rfl, .inl hS, True.intro, ag.ofInts⟩
  . exact ⟨a, _, false, rfl, .inr hS, True.intro, ag.ofInts⟩
abbrev Ai (P : Program) (w : World) (K : W.Frag) (mg : Str -> Option Value) (base : Heap) (k : Nat) : Str × (List D -> Rs D) -> Prop := fun p => HD P w K mg base k p.1 p.2
abbrev gT (mg : Str -> Option Value) (K : W.Frag) : Str × D -> Prop := fun p => ∃ v u, mg p.1 = some u /\ aQ v u /\ ∀ H P, ah K H P p.2 v
abbrev iD : Str × (List D -> R1) -> Prop := fun p => eO p.1 p.2
abbrev oJ : Str × (List D -> Nat -> R1) -> Prop := fun p => jl p.1 p.2
abbrev FO : Str × (D -> List D -> R1) -> Prop := fun p => ve p.1 p.2
abbrev y8 : Str × (List D -> List D -> Nat -> Rs (List D)) -> Prop := fun p => nQ p.1 p.2
theorem aY {P : Program} {w : World} {K : W.Frag} {mg : Str -> Option Value} {base : Heap} {k : Nat} {l : List (Str × (List D -> Rs D))} {c : List (Str × D)} {b : List (Str × (List D -> R1))} {i : List (Str × (List D -> Nat -> R1))} {m : List (Str × (D -> List D -> R1))} {t : List (Str × (List D -> List D -> Nat -> Rs (List D)))} {sf : D -> Option Int -> Option Int -> R1}
    (hl : ∀ p ∈ l, Ai P w K mg base k p) (hc : ∀ p ∈ c, gT mg K p) (hb : ∀ p ∈ b, iD p) (hi : ∀ p ∈ i, oJ p) (hm : ∀ p ∈ m, FO p) (ht : ∀ p ∈ t, y8 p) (hs : pM sf) (hn : ∀ n ∈ gO, mg n = none) : xi P w K mg base k (Tb l c b i m t sf) :=
  ⟨fun g F h => hl (g, F) (PySem.mem_of_lookup h), fun x d h => hc (x, d) (PySem.mem_of_lookup h), fun f B h => hb (f, B) (PySem.mem_of_lookup h), fun f B h => hi (f, B) (PySem.mem_of_lookup h), fun f B h => hm (f, B) (PySem.mem_of_lookup h), fun f B h => ht (f, B) (PySem.mem_of_lookup h), hs, (fun _ _ h => by cases h), (fun _ _ _ h => by cases h), hn⟩
theorem dz {mg : Str -> Option Value} {K : W.Frag} {x : Str} {c : Addr} {dd : Option Addr} {ss : Array (Option Value)} {nn : Nat} {its : Array Value} {ns : List Int} (hm : mg x = some (.ref c)) (hl : K.lookup c = some ⟨.type "tuple", dd, .seq its nn, ss⟩) (hz : its.size <= sizeLine) (hv : aJ (ns.map V.int) its.toList) :
    gT mg K (x, .tup (ns.map .int)) := ⟨.ref c, .ref c, hm, rfl, fun H P => by rw [ah]; exact ⟨c, _, rfl, .inr ⟨_, its, nn, hl, rfl, rfl, hz, hv⟩, ag.ofInts⟩⟩
end Sp
set_option Elab.async false
set_option linter.all false
set_option maxRecDepth 100000
namespace Sp
open PySem PySem.Spec PyProof.Rows L2
open AutoSeq1 (wpAny_loadPart')
theorem Ev (tu : Addr) (vs : Array Value) (n : Nat) (dc : Option Addr) (so : Array (Option Value)) :
    Meets (Builtin.«enumerate.__new__» ⟨[.type "enumerate", .ref tu], []⟩) (fun _ R st => st.heap.get? tu = some { cls := .type "tuple", dict := dc, data := .seq vs n, slots := so } /\
      R (.ok (.ret (.ref (st.heap.push { cls := .type "tuple_iterator", data := .fields #[.ref tu, .int 0 0] }).objs.size)))
        { st with heap := (st.heap.push { cls := .type "tuple_iterator", data := .fields #[.ref tu, .int 0 0] }).push { cls := .type "enumerate", data := .fields #[.none, .bool false, .ref st.heap.objs.size, rawInt 0, .none, .none] } }) :=
  .of_wp fun pg wd AA RR st hh => by
    obtain ⟨hp0, gg, dd, tk0, oo⟩ := st; obtain ⟨htu, hh⟩ := hh
    have hsub0 := sub_enumerate
    have hTT : Heap.IsTuple (Shared.heap ⟨hp0, gg, dd, tk0, oo⟩) tu vs := ⟨_, htu, rfl, n, rfl⟩
    wp_walk using wpAny_loadPart' htu
    refine wpAny_stack_any fun stk0 => wpAny_pure ?_
    split
    . rename_i c0 _ _ _ _ _
      cases (c0 == Value.type "enumerate")
      . wp_walk using wpAny_loadPart' htu, wpAny_pyIter_tuple hTT
        exact ⟨_, rfl, hh⟩
      . wp_walk using wpAny_loadPart' htu, wpAny_pyIter_tuple hTT
        exact ⟨_, rfl, hh⟩
    . wp_walk using wpAny_loadPart' htu, wpAny_pyIter_tuple hTT
      exact ⟨_, rfl, hh⟩
section
variable {prog : Program} {w : World} {A : Around} {E : Value -> Shared -> Prop} {s : Shared}
theorem BQ {tu : Addr} {vs : Array Value} {Q : Value -> Shared -> Prop} (hT : s.heap.IsTuple tu vs)
    (go : ∀ h1, IsEnum h1 (s.heap.objs.size + 1) s.heap.objs.size 0 .none -> h1.IsTupleIter s.heap.objs.size tu 0 -> h1.objs.size = s.heap.objs.size + 2 -> (∀ b o, s.heap.get? b = some o -> h1.get? b = some o) -> Q (.ref (s.heap.objs.size + 1)) { s with heap := h1 }) :
    wpAny (model prog w) A (call (.type "enumerate") [.ref tu]) Q E s := by
  obtain ⟨⟨cc, dc, dt, so⟩, htu, hcc, n, hdd⟩ := hT
  replace hcc : cc = .type "tuple" := hcc
  replace hdd : dt = .seq vs n := hdd
  subst hcc hdd
  refine callType_new F.called_enumerate (by decide) (F.typeCall_enumerate_1 _) (F.newCall_enumerate_1 _) (fun ob => F.args_object_init_2 ob _) F.entry_enumerate_new (Ev tu vs n dc so) ⟨htu, ?_⟩
  have sz : (s.heap.push { cls := .type "tuple_iterator", data := .fields #[.ref tu, .int 0 0] }).objs.size = s.heap.objs.size + 1 := Heap.size_push ..
  show _ /\ _
  rw [sz]
  have isE : IsEnum ((s.heap.push { cls := .type "tuple_iterator", data := .fields #[.ref tu, .int 0 0] }).push { cls := .type "enumerate", data := .fields #[.none, .bool false, .ref s.heap.objs.size, rawInt 0, .none, .none] }) (s.heap.objs.size + 1) s.heap.objs.size 0 .none := by
    have q := Heap.get?_push_size (s.heap.push { cls := .type "tuple_iterator", data := .fields #[.ref tu, .int 0 0] }) (o := { cls := .type "enumerate", data := .fields #[.none, .bool false, .ref s.heap.objs.size, rawInt 0, .none, .none] }) rfl
    rw [sz] at q; exact q
  refine ⟨⟨_, isE, rfl⟩, go _ isE ⟨_, Heap.get?_push_of_some _ (Heap.get?_push_size _ rfl), rfl, rfl⟩ (by rw [Heap.size_push, sz]) fun b o z => Heap.get?_push_of_some _ (Heap.get?_push_of_some _ z)⟩
theorem sP {it tu : Addr} {i : Nat} {vs : Array Value} {x : Value} {Q : Value -> Shared -> Prop} (hIt : s.heap.IsTupleIter it tu i) (hT : s.heap.IsTuple tu vs) (hx : vs[i]? = some x)
    (go : ∀ h1, h1.IsTupleIter it tu (i + 1) -> Heap.SameBut it s.heap h1 -> Q x { s with heap := h1 }) : wpAny (model prog w) A (Builtin.SmallTypes.nextOf (.ref it)) Q E s := by
  have key := wpAny_pyNext_tuple_item (prog := prog) (w := w) (A := A) (E := E) (Q := fun r s1 => ∃ v, r = some v /\ Q v s1) hIt hT hx (fun h1 a b => ⟨x, rfl, go h1 a b⟩)
  obtain ⟨o, ho, hc, hd⟩ := id hIt
  obtain ⟨ot, hot, _, nt, hdt⟩ := hT
  unfold Builtin.SmallTypes.nextOf
  refine wpAny_bind (wpAny_callSpecial?_slot (name := Str.ofString "__next__") hIt.typeIs F.slot_tuple_iterator_next (wpAny_call_entry F.slot_tuple_iterator_next hIt.typeIs F.entry_tuple_iterator_next ?_ (F.args_tuple_iterator_next_1 _)))
  show wpAny _ _ (field (.ref it) 0 >>= _) _ _ s
  refine wpAny_bind (wpAny_field ho hd (x := .ref tu) rfl ?_)
  show wpAny _ _ (if (Value.ref tu == Value.none) = true then _ else _) _ _ s
  rw [if_neg (show ¬ ((Value.ref tu == Value.none) = true) from Bool.false_ne_true)]
  show wpAny _ _ (field (.ref it) 1 >>= _) _ _ s
  refine wpAny_bind (wpAny_field ho hd (x := Value.int (i : Int) 0) rfl ?_)
  show wpAny _ _ (seqItems? (.ref tu) >>= _) _ _ s
  refine wpAny_bind (wpAny_seqItems hot hdt ?_)
  simp only [Int.toNat_natCast, hx]
  refine wpAny_bind (wpAny_setField ho hd (by simp) (wpAny_pure ⟨x, rfl, wpAny_pure (go _ ?_ (Heap.SameBut.update ..))⟩))
  refine ⟨_, Heap.get?_update_self _ ho (Obj.isFreed_of_fields (Obj.data_mapFields hd _)), (Obj.cls_mapFields ..).trans hc, ?_⟩
  rw [Obj.data_mapFields hd]; simp [rawInt]
theorem vp {it tu : Addr} {i : Nat} {vs : Array Value} {Q : Value -> Shared -> Prop} (hh : A.handled = none) (hIt : s.heap.IsTupleIter it tu i) (hT : s.heap.IsTuple tu vs) (hx : vs[i]? = none)
    (go : ∀ h1 x, Heap.ExtBut it s.heap h1 -> (∃ o, h1.get? x = some o /\ o.cls = .type "StopIteration") -> E (.ref x) { s with heap := h1 }) : wpAny (model prog w) A (Builtin.SmallTypes.nextOf (.ref it)) Q E s := by
  obtain ⟨o, ho, hc, hd⟩ := id hIt
  obtain ⟨ot, hot, _, nt, hdt⟩ := hT
  unfold Builtin.SmallTypes.nextOf
  refine wpAny_bind (wpAny_callSpecial?_slot (name := Str.ofString "__next__") hIt.typeIs F.slot_tuple_iterator_next (wpAny_call_entry F.slot_tuple_iterator_next hIt.typeIs F.entry_tuple_iterator_next ?_ (F.args_tuple_iterator_next_1 _)))
  show wpAny _ _ (field (.ref it) 0 >>= _) _ _ s
  refine wpAny_bind (wpAny_field ho hd (x := .ref tu) rfl ?_)
  show wpAny _ _ (if (Value.ref tu == Value.none) = true then _ else _) _ _ s
  rw [if_neg (show ¬ ((Value.ref tu == Value.none) = true) from Bool.false_ne_true)]
  show wpAny _ _ (field (.ref it) 1 >>= _) _ _ s
  refine wpAny_bind (wpAny_field ho hd (x := Value.int (i : Int) 0) rfl ?_)
  show wpAny _ _ (seqItems? (.ref tu) >>= _) _ _ s
  refine wpAny_bind (wpAny_seqItems hot hdt ?_)
  simp only [Int.toNat_natCast, hx]
  refine wpAny_bind (wpAny_rule (wpAny_bind (wpAny_setField ho hd (by simp) ?_)))
  show wpAny _ _ (newExc (.type "StopIteration") [] >>= _) _ _ _
  refine wpAny_bind ?_
  simp only [newExc, newTuple]
  refine wpAny_bind (wpAny_newObj_type ?_ (by size_fits))
  refine wpAny_bind (m := firstArgMember _ _) (wpAny_of_eq (a := Value.none) (by first | rfl | (simp only [firstArgMember] <;> rfl)) ?_)
  refine wpAny_newObj_type ?_ (by size_fits)
  simp only [raiseNew]
  refine wpAny_bind (wpAny_handled ?_)
  first | rw [show A.in1.handled = none from hh] | rw [hh]
  refine wpAny_bind (wpAny_pure (wpAny_throw ?_))
  exact go _ _ (((Heap.SameBut.update ..).extBut.push _).push _) ⟨_, Heap.get?_push_size _ rfl, rfl⟩
theorem tX {e it : Addr} {i : Nat} {x old : Value} {Q : Value -> Shared -> Prop} {Kn : Heap -> Prop} (isE : IsEnum s.heap e it i old) (hne : e ≠ it)
    (stay : ∀ h1 h2 : Heap, Kn h1 -> (∀ o, h1.get? it = some o -> h2.get? it = some o) -> Kn h2)
    (inner : ∀ (Q1 : Value -> Shared -> Prop), (∀ h1, Kn h1 -> Heap.SameBut it s.heap h1 -> Q1 x { s with heap := h1 }) -> wpAny (model prog w) A.in1 (Builtin.SmallTypes.nextOf (.ref it)) Q1 E s)
    (go : ∀ h1, IsEnumOut h1 e it ((i : Int) + 1) x s.heap.objs.size -> Kn h1 -> h1.get? s.heap.objs.size = some { cls := .type "tuple", data := .seq #[.int i s.toks, x] } -> (∀ b o, b ≠ e -> b ≠ it -> s.heap.get? b = some o -> h1.get? b = some o) -> Q (.ref s.heap.objs.size) { s with heap := h1, toks := s.toks + 1 }) :
    wpAny (model prog w) A.in1 (Builtin.«enumerate.__next__» ⟨[.ref e], []⟩) (fun fin s' => ∃ v, fin = .done (.ret v) /\ Q v s') E s := by
  obtain ⟨h0, gg, dd, t0, oo⟩ := s
  have elt : e < h0.objs.size := Heap.lt_size isE
  show wpAny _ _ (field (.ref e) 2 >>= _) _ _ _
  refine wpAny_bind (wpAny_field isE rfl (x := Value.ref it) rfl (wpAny_bind (inner _ fun h1 k1 b1 => ?_)))
  have b1' : Heap.SameBut it h0 h1 := b1
  have E1 : IsEnum h1 e it i old := (b1'.2 e hne).trans isE
  show wpAny _ _ (field (.ref e) 3 >>= _) _ _ ⟨h1, gg, dd, t0, oo⟩
  refine wpAny_bind (wpAny_field E1 rfl (x := rawInt (i : Int)) rfl ?_)
  show wpAny _ _ (field (.ref e) 4 >>= _) _ _ ⟨h1, gg, dd, t0, oo⟩
  refine wpAny_bind (wpAny_field E1 rfl (x := Value.none) rfl ?_)
  show wpAny _ _ (mkInt i >>= _) _ _ ⟨h1, gg, dd, t0, oo⟩
  refine wpAny_bind (wpAny_mkInt ?_)
  show wpAny _ _ (setField (.ref e) 3 (rawInt ((i : Int) + 1)) >>= _) _ _ ⟨h1, gg, dd, t0 + 1, oo⟩
  refine wpAny_bind (wpAny_setField_rec E1 (by simp) fun h2 E2 b2 => ?_)
  have b2' : Heap.SameBut e h1 h2 := b2
  have E2' : IsEnum h2 e it ((i : Int) + 1) old := E2
  show wpAny _ _ (setField (.ref e) 4 .none >>= _) _ _ ⟨h2, gg, dd, t0 + 1, oo⟩
  refine wpAny_bind (wpAny_setField_rec E2' (by simp) fun h3 E3 b3 => ?_)
  have b3' : Heap.SameBut e h2 h3 := b3
  have E3' : IsEnum h3 e it ((i : Int) + 1) old := E3
  show wpAny _ _ (newTuple [.int i t0, x] >>= _) _ _ ⟨h3, gg, dd, t0 + 1, oo⟩
  refine wpAny_bind (wpAny_newTuple ?_)
  have z3 : h3.objs.size = h0.objs.size := by rw [b3'.1, b2'.1, b1'.1]
  have E4 : IsEnum (h3.push { cls := .type "tuple", data := .seq #[.int i t0, x] }) e it ((i : Int) + 1) old := Heap.get?_push_of_some _ E3'
  have T4 : (h3.push { cls := .type "tuple", data := .seq #[.int i t0, x] }).get? h0.objs.size = some { cls := .type "tuple", data := .seq #[.int i t0, x] } := by rw [<- z3]; exact Heap.get?_push_size _ rfl
  have K4 : ∀ b o, b ≠ e -> b ≠ it -> h0.get? b = some o -> (h3.push { cls := .type "tuple", data := .seq #[.int i t0, x] }).get? b = some o := fun b o n1 n2 q => Heap.get?_push_of_some _ (b3'.extBut b o n1 (b2'.extBut b o n1 (b1'.extBut b o n2 q)))
  have N4 : Kn (h3.push { cls := .type "tuple", data := .seq #[.int i t0, x] }) := stay h1 _ k1 fun o q => Heap.get?_push_of_some _ (b3'.extBut it o (Ne.symm hne) (b2'.extBut it o (Ne.symm hne) q))
  rw [z3]
  generalize h3.push { cls := .type "tuple", data := .seq #[.int i t0, x] } = h4 at E4 T4 K4 N4
  show wpAny _ _ (Builtin.SmallTypes.ownedTupleIsFree (.ref e) >>= _) _ _ ⟨h4, gg, dd, t0 + 1, oo⟩
  refine wpAny_bind ?_
  unfold Builtin.SmallTypes.ownedTupleIsFree
  refine wpAny_bind (wpAny_field E4 rfl (x := Value.none) rfl (wpAny_pure ?_))
  simp only [if_true]
  refine wpAny_bind (wpAny_rule (wpAny_bind (wpAny_field E4 rfl (x := old) rfl ?_)))
  refine wpAny_bind (wpAny_setField_rec E4 (by simp) fun h5 E5 b5 => ?_)
  have b5' : Heap.SameBut e h4 h5 := b5
  have E5' : IsEnum h5 e it ((i : Int) + 1) x := E5
  show wpAny _ _ (Builtin.SmallTypes.ownedTupleHandOut (.ref e) (.ref h0.objs.size) >>= _) _ _ ⟨h5, gg, dd, t0 + 1, oo⟩
  refine wpAny_bind ?_
  unfold Builtin.SmallTypes.ownedTupleHandOut
  refine wpAny_bind (wpAny_setField_rec E5' (by simp) fun h6 E6 b6 => ?_)
  have b6' : Heap.SameBut e h5 h6 := b6
  have E6' : IsEnumOut h6 e it ((i : Int) + 1) x h0.objs.size := E6
  refine wpAny_setField_rec E6' (by simp) fun h7 E7 b7 => ?_
  have b7' : Heap.SameBut e h6 h7 := b7
  have E7' : IsEnumOut h7 e it ((i : Int) + 1) x h0.objs.size := E7
  have far : ∀ b o, b ≠ e -> h4.get? b = some o -> h7.get? b = some o := fun b o n1 q => b7'.extBut b o n1 (b6'.extBut b o n1 (b5'.extBut b o n1 q))
  refine wpAny_bind (wpAny_letGo (wpAny_pure ⟨_, rfl, go h7 E7' ?_ (far _ _ (Nat.ne_of_gt elt) T4) fun b o n1 n2 q => far b o n1 (K4 b o n1 n2 q)⟩))
  exact stay h4 h7 N4 fun o q => far it o (Ne.symm hne) q
theorem BO {e it tu : Addr} {i : Nat} {vs : Array Value} {x old : Value} {Q : Option Value -> Shared -> Prop} (isE : IsEnum s.heap e it i old) (hIt : s.heap.IsTupleIter it tu i) (hT : s.heap.IsTuple tu vs) (hx : vs[i]? = some x) (hne : e ≠ it)
    (go : ∀ h1, IsEnumOut h1 e it ((i : Int) + 1) x s.heap.objs.size -> h1.IsTupleIter it tu (i + 1) -> h1.get? s.heap.objs.size = some { cls := .type "tuple", data := .seq #[.int i s.toks, x] } -> (∀ b o, b ≠ e -> b ≠ it -> s.heap.get? b = some o -> h1.get? b = some o) -> Q (some (.ref s.heap.objs.size)) { s with heap := h1, toks := s.toks + 1 }) :
    wpAny (model prog w) A (pyNext (.ref e)) Q E s := by
  have tyE : s.TypeIs (.ref e) "enumerate" := ⟨_, isE, rfl⟩
  unfold pyNext
  refine wpAny_bind (wpAny_attempt (wpAny_callSpecial?_slot (name := Str.ofString "__next__") tyE F.slot_enumerate_next (wpAny_call_entry F.slot_enumerate_next tyE F.entry_enumerate_next ?_ (F.args_enumerate_next_1 _))))
  exact tX (Kn := fun h1 => h1.IsTupleIter it tu (i + 1)) isE hne (fun h1 h2 k hk => k.at hk) (fun Q1 q1 => sP hIt hT hx q1) fun h1 a b c d => wpAny_pure (go h1 a b c d)
theorem Ew {e it tu : Addr} {i : Nat} {vs : Array Value} {old : Value} {Q : Option Value -> Shared -> Prop} (hh : A.handled = none) (isE : IsEnum s.heap e it i old) (hIt : s.heap.IsTupleIter it tu i) (hT : s.heap.IsTuple tu vs) (hx : vs[i]? = none)
    (go : ∀ h1, Heap.ExtBut it s.heap h1 -> Q none { s with heap := h1 }) : wpAny (model prog w) A (pyNext (.ref e)) Q E s := by
  have tyE : s.TypeIs (.ref e) "enumerate" := ⟨_, isE, rfl⟩
  unfold pyNext
  refine wpAny_bind (wpAny_attempt (wpAny_callSpecial?_slot (name := Str.ofString "__next__") tyE F.slot_enumerate_next (wpAny_call_entry F.slot_enumerate_next tyE F.entry_enumerate_next ?_ (F.args_enumerate_next_1 _))))
  show wpAny _ _ (field (.ref e) 2 >>= _) _ _ _
  refine wpAny_bind (wpAny_field isE rfl (x := Value.ref it) rfl (wpAny_bind (vp hh hIt hT hx fun h1 xx eb hx' => ?_)))
  obtain ⟨o, ho, hc⟩ := hx'
  exact wpAny_bind (wpAny_isInstance (T := "StopIteration") (b := true) ⟨o, ho, hc⟩ isSubtype_stop (wpAny_pure (go _ eb)))
end
end Sp
set_option Elab.async false
set_option linter.all false
set_option maxRecDepth 100000
namespace Sp
open PySem PySem.Spec PyProof.Rows L2
variable {X : Cx}
theorem hJ {pins : List (Addr × Obj)} {σ : L2.St} {H : Hp} {s : Shared} {h2 : Heap} {t2 : Nat} {ch : List Addr} {p : Addr} {o : HO} (I : ak X pins σ H s)
    (k : ∀ b u, b ∉ ch -> s.heap.get? b = some u -> h2.get? b = some u) (hp : s.heap.objs.size <= p) (hn : ∀ b ∈ ch, fq X pins H b) (new : bV X.prog X.w (aV H p o) h2 p o) : ak X pins σ (aV H p o) { s with heap := h2, toks := t2 } := by
  have hH : H p = none := I.hok.fresh hp
  have tr : ∀ b u, H b = some u -> b ∉ ch := fun b u e z => by rw [(hn b z).1] at e; cases e
  have un : Un (iL X.stack) ch H (aV H p o) s.heap h2 := by
    refine ⟨fun b ob e n _ c => k b ob c e, fun b ob e n _ c => ⟨ob.slots, k b ob c e⟩, fun b ob e n c => ?_, fun b ob e c => ⟨ob, k b ob c e⟩, fun b xs e => ?_, fun b ob u e => ?_, fun b ps e => ⟨#[], ?_⟩⟩
    . rw [aH (Nat.ne_of_lt (Nat.lt_of_lt_of_le (Heap.lt_size e) hp))]; exact n
    . rw [aH (bz e hH)]; exact e
    . rw [aH (bz e hH)]; exact e
    . rw [aH (bz e hH), e]; simp
  refine I.call (g' := s.gens) (d' := s.drawn) un (fun b u e => ?_) I.bare fun b hb => ⟨(hn b hb).2.2.2.1, (hn b hb).2.1, (hn b hb).2.2.2.2.1, (hn b hb).2.2.2.2.2⟩
  by_cases hb : b = p
  . subst hb; rw [aO] at e; cases e; exact new
  . rw [aH hb] at e
    refine (I.hok b u e).stay (fun c v hc q => k c v ?_ q) (fun c q => by rw [aH (bz q hH)]; exact q) fun c xs q => by rw [aH (bz q hH)]; exact q
    rcases hc with z | z
    . rw [z]; exact tr b u e
    . exact tr c _ z
def Oj (K : W.Frag) (a : Addr) : It :=
  ⟨fun i H => ∃ xs x, ck K H a xs /\ xs[i]? = some x, fun i H x H' => ∃ p v, x = .ref p /\ H p = none /\ H' = aV H p (.tup [.int (i : Nat), v]) /\ ∀ xs, ck K H a xs -> xs[i]? = some v, fun i H => ∃ xs, ck K H a xs /\ xs.length <= i⟩
theorem vn {P : Program} {w : World} {K : W.Frag} {es : List Expr} {n1 : Nat} {pos : Pos} (a e it : Addr) (hne : e ≠ it) :
    L2.Turn P w K (.Tuple es n1 pos) (Oj K a) [e, it] e (fun i h => (∃ old, IsEnum h e it ((i : Nat) : Int) old) /\ h.IsTupleIter it a i) where
  mem := by simp
  obj := fun i h st b hb => by
    obtain ⟨⟨old, q⟩, o, q2, c, d⟩ := st
    rcases List.mem_cons.mp hb with rfl | hb
    . exact ⟨_, q, fun v z => by have z' : Data.fields _ = Data.cell v := z; cases z'⟩
    . have eb : b = it := by simpa using hb
      subst eb
      exact ⟨o, q2, fun v z => by rw [d] at z; cases z⟩
  keep := fun i h h' st k => ⟨let ⟨old, q⟩ := st.1; ⟨old, k e (by simp) _ q⟩, st.2.at fun o q => k it (by simp) o q⟩
  item := by
    intro Y hP hw hK hc i pins s σ H E I hf st hg
    subst hP hw hK
    obtain ⟨xs, x, hq, hx⟩ := hg
    obtain ⟨its, rv, p, hz⟩ := I.tuple hq
    obtain ⟨u, hu, ru⟩ := rv.get hx
    obtain ⟨⟨old, isE⟩, hIt⟩ := st
    refine BO isE hIt (show s.heap.IsTuple a its.toArray from p) (x := u) (by simpa using hu) hne fun h1 eo it1 t1 k1 => ?_
    refine ⟨_, rfl, wpAny_letOwnedTupleGo_enum eo fun h2 e2 sb2 => ?_⟩
    have sb2' : Heap.SameBut e h1 h2 := sb2
    have elt : e < s.heap.objs.size := Heap.lt_size isE
    have k2 : ∀ b o, b ∉ [e, it] -> s.heap.get? b = some o -> h2.get? b = some o := fun b o nb q => by
      have n1 : b ≠ e := fun z => nb (by simp [z])
      have n2 : b ≠ it := fun z => nb (by simp [z])
      exact sb2'.extBut b o n1 (k1 b o n1 n2 q)
    have t2 : h2.get? s.heap.objs.size = some { cls := .type "tuple", data := .seq #[.int i s.toks, u] } := sb2'.extBut _ _ (Nat.ne_of_gt elt) t1
    have hn0 : H s.heap.objs.size = none := I.hok.fresh (Nat.le_refl _)
    refine ⟨.ref s.heap.objs.size, aV H s.heap.objs.size (.tup [.int (i : Nat), x]), hJ (s := s) (h2 := h2) (t2 := s.toks + 1) I k2 (Nat.le_refl _) hf ?_, rfl, ⟨_, x, rfl, hn0, rfl, fun ys hy => by rw [I.tuple_inj hy hq]; exact hx⟩, ⟨⟨u, ?_⟩, it1.at fun o q => sb2'.extBut it o (Ne.symm hne) q⟩, fun b hb => ?_⟩
    . exact ⟨by show 2 <= sizeLine; decide, [.int i s.toks, u], .cons ⟨_, rfl⟩ (.cons ru .nil), ⟨_, t2, rfl, _, rfl⟩⟩
    . have q := e2
      rw [show ((i : Nat) : Int) + 1 = ((i + 1 : Nat) : Int) by omega] at q
      exact q
    . have hb' := hf b hb
      have lt : b < s.heap.objs.size := by
        rcases List.mem_cons.mp hb with rfl | hb
        . exact elt
        . have eb : b = it := by simpa using hb
          subst eb
          obtain ⟨o, q, _⟩ := hIt
          exact Heap.lt_size q
      rw [aH (Nat.ne_of_lt lt)]; exact hb'.1
  done := by
    intro Y hP hw hK hc i pins s σ H E I hf st hg
    subst hP hw hK
    obtain ⟨xs, hq, hx⟩ := hg
    obtain ⟨its, rv, p, hz⟩ := I.tuple hq
    obtain ⟨⟨old, isE⟩, hIt⟩ := st
    obtain ⟨f0, f1, f2, f3, f4, f5⟩ := hf it (by simp)
    have hl := rv.length
    exact Ew (I.ok.hd hc) isE hIt (show s.heap.IsTuple a its.toArray from p) (by simp; omega) fun h1 eb => ⟨rfl, I.turned (t' := s.toks) (fun b o hb q => eb b o hb q) f0 f1 f3 f4 f5⟩
  self := fun _ _ _ _ _ st h => let ⟨old, q⟩ := st.1; wpAny_pyIter_enum q h
theorem Bx {ρ : aj} {es : List Expr} {n1 : Nat} {tp p pos : Pos} {a : Expr} {l : List D} {k : Nat} (hg : Gl X "enumerate") (hm0 : X.mg "enumerate" = none) (ha : AD X ρ [a] [.tup l] k) (hst : ∀ y p, a ≠ .Starred y p) (hf : ao l = true) :
    IE X ρ (.Tuple es n1 tp) (.Call (.Name "enumerate" p) [a] [] pos) (l.mapIdx fun i x => .tup [.int (i : Nat), x]) 0 := by
  intro ow pins s σ H R I ⟨E, q⟩
  refine Call_ (dC I hg hm0 (show bootBuiltins "enumerate" = some (.type "enumerate") by decide +kernel) (PyProof.Rows.callWith_type1 (aN (ha ow pos pins s σ H (fun vs H1 => aD H H1 /\ ag X.K H1 (Kp ow H k) [.tup l] vs) I ⟨E, fun vs H1 s1 r1 => ⟨s1, r1⟩⟩) fun us s1 ⟨vs, H1, I1, rv, sm, rp⟩ => ?_) (bj hst) rfl) (by decide +kernel) (by decide +kernel))
  obtain ⟨v, rfl, rv1⟩ := rp.only
  obtain ⟨ta, xs, rfl, hq, rl⟩ := eI rv1
  obtain ⟨u, rfl, ru⟩ := d8 rv
  cases (show u = Value.ref ta from ru)
  obtain ⟨its, rvs, pt, hz⟩ := I1.tuple hq
  refine BQ (show s1.heap.IsTuple ta its.toArray from pt) fun h2 isE hIt sz k2 => ?_
  refine wpAny_pyIter_enum isE ?_
  have I2 : ak X pins σ H1 { s1 with heap := h2 } := I1.kept (t' := s1.toks) k2
  have f0 : H1 s1.heap.objs.size = none := I1.hok.fresh (Nat.le_refl _)
  have f1 : H1 (s1.heap.objs.size + 1) = none := I1.hok.fresh (Nat.le_succ _)
  refine ⟨s1.heap.objs.size + 1, [s1.heap.objs.size + 1, s1.heap.objs.size], _, _, H1, rfl, I2, vn ta _ _ (Nat.ne_of_gt (Nat.lt_succ_self _)), ⟨⟨_, isE⟩, hIt⟩, fun b hb => ?_, q _ H1 sm ?_⟩
  . rcases List.mem_cons.mp hb with rfl | hb
    . exact I1.fpOk (Nat.le_succ _) f1
    . have eb : b = s1.heap.objs.size := by simpa using hb
      subst eb
      exact I1.fpOk (Nat.le_refl _) f0
  . intro i H2 st
    have rl' : ag X.K H1 (Kd ow H 0 H1) l xs := rl.flat _ hf
    refine ⟨fun d hd => ?_, fun hle => ?_⟩
    . rw [List.getElem?_mapIdx] at hd
      cases e : l[i]? with
      | none => rw [e] at hd; cases hd
      | some x =>
        rw [e] at hd; cases hd
        obtain ⟨y, hy, ry⟩ := rl'.get e
        refine ⟨⟨xs, y, st.sq hq, hy⟩, fun x' H3 ⟨p', v', e1, e2, e3, e4⟩ => ?_⟩
        have hv := e4 xs (st.sq hq)
        rw [hy] at hv; cases hv
        subst e1 e3
        have sm3 := cy (o := HO.tup [.int (i : Nat), y]) e2
        refine ⟨sm3, ?_⟩
        rw [ah]
        exact ⟨p', _, rfl, ck.of aO, ag.cons (by rw [ah]) (ag.one ((ry.mono st).same sm3))⟩
    . rw [List.length_mapIdx] at hle
      exact ⟨xs, st.sq hq, by rw [<- rl.length]; exact hle⟩
theorem oV {tg : Expr} (h : gG tg = true) : ∃ es n p, tg = .Tuple es n p := by
  cases tg <;> first | exact ⟨_, _, _, rfl⟩ | cases h
end Sp
set_option Elab.async false
set_option linter.all false
set_option maxRecDepth 100000
namespace Sp
open PySem PySem.Spec PyProof.Rows L2
open AutoSeq1 (wpAny_loadPart')
structure Wk (prog : Program) (w : World) (i l : Addr) (P : Nat -> Heap -> Prop) (g : Nat -> Option Value) : Prop where
  stay : ∀ k (h h' : Heap), P k h -> (∀ c o, c = i \/ c = l -> h.get? c = some o -> h'.get? c = some o) -> P k h'
  here : ∀ k (h : Heap), P k h -> ∃ o, h.get? i = some o /\ ∀ v, o.data ≠ Data.cell v
  item : ∀ (A : Around) (E : Value -> Shared -> Prop) (s : Shared) (k : Nat) (x : Value) (Q : Value -> Shared -> Prop), P k s.heap -> g k = some x -> (∀ h1, P (k + 1) h1 -> Heap.SameBut i s.heap h1 -> Q x { s with heap := h1 }) -> wpAny (model prog w) A (Builtin.SmallTypes.nextOf (.ref i)) Q E s
  done : ∀ (A : Around) (E : Value -> Shared -> Prop) (s : Shared) (k : Nat) (Q : Value -> Shared -> Prop), A.handled = none -> P k s.heap -> g k = none -> (∀ h1 x, Heap.ExtBut i s.heap h1 -> (∃ o, h1.get? x = some o /\ o.cls = .type "StopIteration") -> E (.ref x) { s with heap := h1 }) -> wpAny (model prog w) A (Builtin.SmallTypes.nextOf (.ref i)) Q E s
theorem jy {prog : Program} {w : World} {i l : Addr} {xs : Array Value} (ne : l ≠ i) : Wk prog w i l (fun k h => h.IsTupleIter i l k /\ h.IsTuple l xs) (fun k => xs[k]?) where
  stay := fun k h h' p q => ⟨p.1.at fun o e => q i o (.inl rfl) e, p.2.at fun o e => q l o (.inr rfl) e⟩
  here := fun k h p => let ⟨o, e, _, d⟩ := p.1; ⟨o, e, fun v z => by rw [d] at z; cases z⟩
  item := fun A E s k x Q p hx q => sP p.1 p.2 hx fun h1 a b => q h1 ⟨a, p.2.extBut b.extBut ne⟩ b
  done := fun A E s k Q hh p hx q => vp hh p.1 p.2 hx q
theorem Cn {prog : Program} {w : World} {i l : Addr} {xs : Array Value} (ne : l ≠ i) : Wk prog w i l (fun k h => h.IsListIter i l k /\ h.IsList l xs) (fun k => xs[k]?) where
  stay := fun k h h' p q => ⟨p.1.at fun o e => q i o (.inl rfl) e, p.2.at fun o e => q l o (.inr rfl) e⟩
  here := fun k h p => let ⟨o, e, _, d⟩ := p.1; ⟨o, e, fun v z => by rw [d] at z; cases z⟩
  item := fun A E s k x Q p hx q => wpAny_nextOf_list_item p.1 p.2 hx fun h1 a b => q h1 ⟨a, p.2.extBut b.extBut ne⟩ b
  done := fun A E s k Q hh p hx q => wpAny_nextOf_list_end hh p.1 p.2 hx q
section
variable {prog : Program} {w : World} {A : Around} {E : Value -> Shared -> Prop} {s : Shared}
variable {z TI TO i1 i2 l1 l2 : Addr} {k1 k2 : Nat} {P1 P2 : Nat -> Heap -> Prop} {g1 g2 : Nat -> Option Value} {x y a b : Value}
structure Zs (z TI TO i1 i2 l1 l2 : Addr) (P1 P2 : Nat -> Heap -> Prop) (k : Nat) (h : Heap) : Prop where
  ap : ZipApart z TI TO i1 i2 l1 l2
  rd : IsZip h z TI TO .none
  ins : IsPair h TI (.ref i1) (.ref i2)
  out : ∃ a b, IsPair h TO a b
  fst : P1 k h
  snd : P2 k h
theorem Zs.item {k : Nat} {Q : Value -> Shared -> Prop} (W1 : Wk prog w i1 l1 P1 g1) (W2 : Wk prog w i2 l2 P2 g2) (S : Zs z TI TO i1 i2 l1 l2 P1 P2 k s.heap) (hx : g1 k = some x) (hy : g2 k = some y)
    (go : ∀ h1, (∀ h2, IsZip h2 z TI TO .none -> Heap.SameBut z h1 h2 -> Zs z TI TO i1 i2 l1 l2 P1 P2 (k + 1) h2) -> IsZip h1 z TI TO (rawInt s.heap.objs.size) -> IsPair h1 s.heap.objs.size x y -> (∀ c o, c ∉ [z, TO, i1, i2] -> s.heap.get? c = some o -> h1.get? c = some o) -> Q (.ref s.heap.objs.size) { s with heap := h1 }) :
    wpAny (model prog w) A (Builtin.«zip.__next__» ⟨[.ref z], []⟩) (fun fin s' => ∃ v, fin = .done (.ret v) /\ Q v s') E s := by
  obtain ⟨D, isZ, pI, ⟨a, b, pO⟩, p1, p2⟩ := S
  obtain ⟨h0, gg, dd, t0, oo⟩ := s
  show wpAny _ _ (field (.ref z) 2 >>= _) _ _ ⟨h0, gg, dd, t0, oo⟩
  refine wpAny_bind (wpAny_field isZ rfl (x := Value.bool false) rfl ?_)
  show wpAny _ _ (field (.ref z) 3 >>= _) _ _ ⟨h0, gg, dd, t0, oo⟩
  refine wpAny_bind (wpAny_field isZ rfl (x := Value.ref TI) rfl (wpAny_bind (wpAny_seqItems pI rfl ?_)))
  show wpAny _ _ (Builtin.SmallTypes.ownedTupleIsFree (.ref z) >>= _) _ _ ⟨h0, gg, dd, t0, oo⟩
  unfold Builtin.SmallTypes.ownedTupleIsFree
  refine wpAny_bind (wpAny_bind (wpAny_field isZ rfl (x := Value.none) rfl (wpAny_pure ?_)))
  simp only [if_true]
  refine wpAny_bind (wpAny_rule (wpAny_bind (wpAny_field isZ rfl (x := Value.ref TO) rfl (wpAny_bind (wpAny_setField_rec isZ (by simp) fun q1 Z1 m1 => ?_)))))
  have Z1 : IsZip q1 z TI TO .ellipsis := Z1
  have m1 : Heap.SameBut z h0 q1 := m1
  simp only [List.zipIdx_cons, List.zipIdx_nil, List.forIn_cons, List.forIn_nil]
  refine wpAny_bind (wpAny_bind (wpAny_bind (wpAny_onRaise ?_)))
  show wpAny _ _ (Builtin.SmallTypes.nextOf (.ref i1) >>= _) _ _ ⟨q1, gg, dd, t0, oo⟩
  have e1 : ∀ c o, c ≠ z -> h0.get? c = some o -> q1.get? c = some o := fun c o n u => m1.extBut c o n u
  refine wpAny_bind (W1.item _ _ _ k x _ (W1.stay k _ _ p1 fun c o hc u => e1 c o (by rcases hc with rfl | rfl; exact D.i1z; exact D.l1z) u) hx fun q2 p1' m2 => wpAny_pure ?_)
  have m2 : Heap.SameBut i1 q1 q2 := m2
  have e2 : ∀ c o, c ≠ z -> c ≠ i1 -> h0.get? c = some o -> q2.get? c = some o := fun c o n n' u => m2.extBut c o n' (e1 c o n u)
  have O2 : IsPair q2 TO a b := e2 _ _ D.TOz D.TOi1 pO
  refine wpAny_bind (wpAny_seqItems O2 rfl (wpAny_bind (wpAny_updateSeq_pair O2 fun q3 O3 m3 => wpAny_bind (wpAny_letGo (wpAny_pure ?_)))))
  have O3 : IsPair q3 TO x b := O3
  have m3 : Heap.SameBut TO q2 q3 := m3
  have e3 : ∀ c o, c ≠ z -> c ≠ i1 -> c ≠ TO -> h0.get? c = some o -> q3.get? c = some o := fun c o n n' n'' u => m3.extBut c o n'' (e2 c o n n' u)
  refine wpAny_bind (wpAny_bind (wpAny_onRaise ?_))
  show wpAny _ _ (Builtin.SmallTypes.nextOf (.ref i2) >>= _) _ _ ⟨q3, gg, dd, t0, oo⟩
  refine wpAny_bind (W2.item _ _ _ k y _ (W2.stay k _ _ p2 fun c o hc u => by
    rcases hc with rfl | rfl
    . exact e3 c o D.i2z D.i12.symm D.TOi2.symm u
    . exact e3 c o D.l2z D.l2i1 D.l2TO u) hy fun q4 p2' m4 => wpAny_pure ?_)
  have m4 : Heap.SameBut i2 q3 q4 := m4
  have O4 : IsPair q4 TO x b := m4.extBut _ _ D.TOi2 O3
  refine wpAny_bind (wpAny_seqItems O4 rfl (wpAny_bind (wpAny_updateSeq_pair O4 fun q5 O5 m5 => wpAny_bind (wpAny_letGo (wpAny_pure (wpAny_pure ?_))))))
  have O5 : IsPair q5 TO x y := O5
  have m5 : Heap.SameBut TO q4 q5 := m5
  refine wpAny_bind (wpAny_seqItems O5 rfl (wpAny_bind (wpAny_newTuple ?_)))
  have sz : q5.objs.size = h0.objs.size := by rw [m5.1, m4.1, m3.1, m2.1, m1.1]
  have e5 : ∀ c o, c ≠ z -> c ≠ i1 -> c ≠ TO -> c ≠ i2 -> h0.get? c = some o -> q5.get? c = some o := fun c o n n' n'' n3 u => m5.extBut c o n'' (m4.extBut c o n3 (e3 c o n n' n'' u))
  have Z5 : IsZip q5 z TI TO .ellipsis := m5.extBut _ _ D.TOz.symm (m4.extBut _ _ D.i2z.symm (m3.extBut _ _ D.TOz.symm (m2.extBut _ _ D.i1z.symm Z1)))
  have r1 : P1 (k + 1) q5 := W1.stay _ _ _ p1' fun c o hc u => by
    rcases hc with rfl | rfl
    . exact m5.extBut c o D.TOi1.symm (m4.extBut c o D.i12 (m3.extBut c o D.TOi1.symm u))
    . exact m5.extBut c o D.l1TO (m4.extBut c o D.l1i2 (m3.extBut c o D.l1TO u))
  have r2 : P2 (k + 1) q5 := W2.stay _ _ _ p2' fun c o hc u => by
    rcases hc with rfl | rfl
    . exact m5.extBut c o D.TOi2.symm u
    . exact m5.extBut c o D.l2TO u
  have I5 : IsPair q5 TI (.ref i1) (.ref i2) := e5 _ _ D.TIz D.TIi1 D.TITO D.TIi2 pI
  have zl : z < q5.objs.size := Heap.lt_size Z5
  show wpAny _ _ (Builtin.SmallTypes.ownedTupleHandOut (.ref z) (.ref q5.objs.size) >>= _) _ _ ⟨q5.push { cls := .type "tuple", data := .seq #[x, y] }, gg, dd, t0, oo⟩
  unfold Builtin.SmallTypes.ownedTupleHandOut
  have Z6 : IsZip (q5.push { cls := .type "tuple", data := .seq #[x, y] }) z TI TO .ellipsis := Heap.get?_push_of_some _ Z5
  refine wpAny_bind (wpAny_bind (wpAny_setField_rec Z6 (by simp) fun q7 Z7 m7 => ?_))
  have Z7 : IsZip q7 z TI TO (rawInt q5.objs.size) := Z7
  refine wpAny_setField_rec Z7 (by simp) fun q8 Z8 m8 => ?_
  have Z8 : IsZip q8 z TI TO (rawInt q5.objs.size) := Z8
  have far : ∀ c o, c ≠ z -> q5.get? c = some o -> q8.get? c = some o := fun c o n u => m8.extBut _ _ n (m7.extBut _ _ n (Heap.get?_push_of_some _ u))
  have T8 : IsPair q8 q5.objs.size x y := m8.extBut _ _ (Nat.ne_of_gt zl) (m7.extBut _ _ (Nat.ne_of_gt zl) (Heap.get?_push_size _ rfl))
  refine wpAny_pure ⟨_, rfl, ?_⟩
  show Q (.ref q5.objs.size) _
  rw [sz] at Z8 T8 ⊢
  refine go q8 (fun h2 Zn mn => ⟨D, Zn, mn.extBut _ _ D.TIz (far _ _ D.TIz I5), ⟨x, y, mn.extBut _ _ D.TOz (far _ _ D.TOz O5)⟩, W1.stay _ _ _ r1 fun c o hc u => ?_, W2.stay _ _ _ r2 fun c o hc u => ?_⟩) Z8 T8 fun c o hc u => ?_
  . have n : c ≠ z := by rcases hc with rfl | rfl; exact D.i1z; exact D.l1z
    exact mn.extBut c o n (far c o n u)
  . have n : c ≠ z := by rcases hc with rfl | rfl; exact D.i2z; exact D.l2z
    exact mn.extBut c o n (far c o n u)
  . have c1 : c ≠ z := fun q => hc (by simp [q])
    have c2 : c ≠ TO := fun q => hc (by simp [q])
    have c3 : c ≠ i1 := fun q => hc (by simp [q])
    have c4 : c ≠ i2 := fun q => hc (by simp [q])
    exact far c o c1 (e5 c o c1 c3 c2 c4 u)
theorem Zs.done {k : Nat} {Q : Fin -> Shared -> Prop} (hh : A.handled = none) (W1 : Wk prog w i1 l1 P1 g1) (W2 : Wk prog w i2 l2 P2 g2) (S : Zs z TI TO i1 i2 l1 l2 P1 P2 k s.heap) (hxy : g1 k = none \/ g2 k = none)
    (go : ∀ h1 e, (∀ c o, c ∉ [z, TO, i1, i2] -> s.heap.get? c = some o -> h1.get? c = some o) -> (∃ o, h1.get? e = some o /\ o.cls = .type "StopIteration") -> E (.ref e) { s with heap := h1 }) :
    wpAny (model prog w) A (Builtin.«zip.__next__» ⟨[.ref z], []⟩) Q E s := by
  obtain ⟨D, isZ, pI, ⟨a, b, pO⟩, p1, p2⟩ := S
  obtain ⟨h0, gg, dd, t0, oo⟩ := s
  show wpAny _ _ (field (.ref z) 2 >>= _) _ _ ⟨h0, gg, dd, t0, oo⟩
  refine wpAny_bind (wpAny_field isZ rfl (x := Value.bool false) rfl ?_)
  show wpAny _ _ (field (.ref z) 3 >>= _) _ _ ⟨h0, gg, dd, t0, oo⟩
  refine wpAny_bind (wpAny_field isZ rfl (x := Value.ref TI) rfl (wpAny_bind (wpAny_seqItems pI rfl ?_)))
  show wpAny _ _ (Builtin.SmallTypes.ownedTupleIsFree (.ref z) >>= _) _ _ ⟨h0, gg, dd, t0, oo⟩
  unfold Builtin.SmallTypes.ownedTupleIsFree
  refine wpAny_bind (wpAny_bind (wpAny_field isZ rfl (x := Value.none) rfl (wpAny_pure ?_)))
  simp only [if_true]
  refine wpAny_bind (wpAny_rule (wpAny_bind (wpAny_field isZ rfl (x := Value.ref TO) rfl (wpAny_bind (wpAny_setField_rec isZ (by simp) fun q1 Z1 m1 => ?_)))))
  have Z1 : IsZip q1 z TI TO .ellipsis := Z1
  have m1 : Heap.SameBut z h0 q1 := m1
  simp only [List.zipIdx_cons, List.zipIdx_nil, List.forIn_cons, List.forIn_nil]
  refine wpAny_bind (wpAny_bind (wpAny_bind (wpAny_onRaise ?_)))
  show wpAny _ _ (Builtin.SmallTypes.nextOf (.ref i1) >>= _) _ _ ⟨q1, gg, dd, t0, oo⟩
  have e1 : ∀ c o, c ≠ z -> h0.get? c = some o -> q1.get? c = some o := fun c o n u => m1.extBut c o n u
  have p1 : P1 k q1 := W1.stay k _ _ p1 fun c o hc u => e1 c o (by rcases hc with rfl | rfl; exact D.i1z; exact D.l1z) u
  have nin : ∀ c, c ∉ [z, TO, i1, i2] -> c ≠ z /\ c ≠ TO /\ c ≠ i1 /\ c ≠ i2 := fun c hc => ⟨fun q => hc (by simp [q]), fun q => hc (by simp [q]), fun q => hc (by simp [q]), fun q => hc (by simp [q])⟩
  have last : ∀ (q2 : Heap) (ex : Addr) (oe : Obj), IsZip q2 z TI TO .ellipsis -> (∀ c o, c ∉ [z, TO, i1, i2] -> h0.get? c = some o -> q2.get? c = some o) -> q2.get? ex = some oe -> oe.cls = .type "StopIteration" ->
      wpAny (model prog w) A (setField (.ref z) 0 .none) (fun _ s' => E (.ref ex) s') E ⟨q2, gg, dd, t0, oo⟩ := fun q2 ex oe Z2 k2 ho hc => by
    have hez : ex ≠ z := fun u => by subst u; rw [Z2] at ho; cases ho; simp at hc
    refine wpAny_setField_rec Z2 (by simp) fun q3 _ m3 => go q3 ex (fun c o hc u => ?_) ⟨oe, m3.extBut _ _ hez ho, hc⟩
    exact m3.extBut c o (nin c hc).1 (k2 c o hc u)
  cases hx : g1 k with
  | none =>
    refine wpAny_bind (W1.done _ _ _ k _ hh p1 hx fun q2 ex m2 he => ?_)
    obtain ⟨oe, ho, hc⟩ := he
    have m2 : Heap.ExtBut i1 q1 q2 := m2
    exact last q2 ex oe (m2 _ _ D.i1z.symm Z1) (fun c o hc u => m2 c o (nin c hc).2.2.1 (e1 c o (nin c hc).1 u)) ho hc
  | some x =>
    have hy : g2 k = none := hxy.resolve_left (by rw [hx]; exact fun q => nomatch q)
    refine wpAny_bind (W1.item _ _ _ k x _ p1 hx fun q2 p1' m2 => wpAny_pure ?_)
    have m2 : Heap.SameBut i1 q1 q2 := m2
    have e2 : ∀ c o, c ≠ z -> c ≠ i1 -> h0.get? c = some o -> q2.get? c = some o := fun c o n n' u => m2.extBut c o n' (e1 c o n u)
    have O2 : IsPair q2 TO a b := e2 _ _ D.TOz D.TOi1 pO
    refine wpAny_bind (wpAny_seqItems O2 rfl (wpAny_bind (wpAny_updateSeq_pair O2 fun q3 O3 m3 => wpAny_bind (wpAny_letGo (wpAny_pure ?_)))))
    have m3 : Heap.SameBut TO q2 q3 := m3
    have e3 : ∀ c o, c ≠ z -> c ≠ i1 -> c ≠ TO -> h0.get? c = some o -> q3.get? c = some o := fun c o n n' n'' u => m3.extBut c o n'' (e2 c o n n' u)
    refine wpAny_bind (wpAny_bind (wpAny_onRaise ?_))
    show wpAny _ _ (Builtin.SmallTypes.nextOf (.ref i2) >>= _) _ _ ⟨q3, gg, dd, t0, oo⟩
    refine wpAny_bind (W2.done _ _ _ k _ hh (W2.stay k _ _ p2 fun c o hc u => by
      rcases hc with rfl | rfl
      . exact e3 c o D.i2z D.i12.symm D.TOi2.symm u
      . exact e3 c o D.l2z D.l2i1 D.l2TO u) hy fun q4 ex m4 he => ?_)
    obtain ⟨oe, ho, hc⟩ := he
    have m4 : Heap.ExtBut i2 q3 q4 := m4
    exact last q4 ex oe (m4 _ _ D.i2z.symm (m3.extBut _ _ D.TOz.symm (m2.extBut _ _ D.i1z.symm Z1))) (fun c o hc u => m4 c o (nin c hc).2.2.2 (e3 c o (nin c hc).1 (nin c hc).2.2.1 (nin c hc).2.1 u)) ho hc
theorem Zs.pyItem {k : Nat} {Q : Option Value -> Shared -> Prop} (W1 : Wk prog w i1 l1 P1 g1) (W2 : Wk prog w i2 l2 P2 g2) (S : Zs z TI TO i1 i2 l1 l2 P1 P2 k s.heap) (hx : g1 k = some x) (hy : g2 k = some y)
    (go : ∀ h1, (∀ h2, IsZip h2 z TI TO .none -> Heap.SameBut z h1 h2 -> Zs z TI TO i1 i2 l1 l2 P1 P2 (k + 1) h2) -> IsZip h1 z TI TO (rawInt s.heap.objs.size) -> IsPair h1 s.heap.objs.size x y -> (∀ c o, c ∉ [z, TO, i1, i2] -> s.heap.get? c = some o -> h1.get? c = some o) -> Q (some (.ref s.heap.objs.size)) { s with heap := h1 }) :
    wpAny (model prog w) A (pyNext (.ref z)) Q E s := by
  have ty : s.TypeIs (.ref z) "zip" := ⟨_, S.rd, rfl⟩
  unfold pyNext
  exact wpAny_bind (wpAny_attempt (wpAny_callSpecial?_slot (name := Str.ofString "__next__") ty F.slot_zip_next (wpAny_call_entry F.slot_zip_next ty F.entry_zip_next (S.item W1 W2 hx hy fun h1 a b c d => wpAny_pure (go h1 a b c d)) (F.args_zip_next_1 _))))
theorem Zs.pyDone {k : Nat} {Q : Option Value -> Shared -> Prop} (hh : A.handled = none) (W1 : Wk prog w i1 l1 P1 g1) (W2 : Wk prog w i2 l2 P2 g2) (S : Zs z TI TO i1 i2 l1 l2 P1 P2 k s.heap) (hxy : g1 k = none \/ g2 k = none)
    (go : ∀ h1, (∀ c o, c ∉ [z, TO, i1, i2] -> s.heap.get? c = some o -> h1.get? c = some o) -> Q none { s with heap := h1 }) : wpAny (model prog w) A (pyNext (.ref z)) Q E s := by
  have ty : s.TypeIs (.ref z) "zip" := ⟨_, S.rd, rfl⟩
  unfold pyNext
  refine wpAny_bind (wpAny_attempt (wpAny_callSpecial?_slot (name := Str.ofString "__next__") ty F.slot_zip_next (wpAny_call_entry F.slot_zip_next ty F.entry_zip_next (S.done hh W1 W2 hxy fun h1 e kk he => ?_) (F.args_zip_next_1 _))))
  obtain ⟨oe, ho, hc⟩ := he
  exact wpAny_bind (wpAny_isInstance (T := "StopIteration") (b := true) ⟨oe, ho, hc⟩ isSubtype_stop (wpAny_pure (go h1 kk)))
end
abbrev zc (h : Heap) (a : Addr) : Heap := h.push { cls := .type "tuple_iterator", data := .fields #[.ref a, .int 0 0] }
abbrev zb (h : Heap) (a b : Addr) : Heap := (zc h a).push { cls := .type "tuple_iterator", data := .fields #[.ref b, .int 0 0] }
abbrev za (h : Heap) (a b : Addr) : Heap := (zb h a b).push { cls := .type "tuple", data := .seq #[.ref h.objs.size, .ref (zc h a).objs.size] }
abbrev y9 (h : Heap) (a b : Addr) : Heap := (za h a b).push { cls := .type "tuple", data := .seq #[.none, .none] }
abbrev pR (h : Heap) (a b : Addr) : Heap := (y9 h a b).push { cls := .type "zip", data := .fields #[.none, .bool false, .bool false, .ref (zb h a b).objs.size, .ref (za h a b).objs.size] }
theorem Ck (a b : Addr) (xs ys : Array Value) :
    Meets (Builtin.«zip.__new__» ⟨[.type "zip", .ref a, .ref b], []⟩) (fun _ R s => s.heap.IsTuple a xs /\ s.heap.IsTuple b ys /\ R (.ok (.ret (.ref (y9 s.heap a b).objs.size))) { s with heap := pR s.heap a b }) :=
  .of_wp fun pg wd AA RR st hh => by
    obtain ⟨hp0, gg, dd, tk0, oo⟩ := st; obtain ⟨ha, hb, hh⟩ := hh
    have hsub0 := sub_zip
    have T1 : Heap.IsTuple (Shared.heap ⟨hp0, gg, dd, tk0, oo⟩) a xs := ha
    have T2 : Heap.IsTuple (Shared.heap ⟨hp0.push { cls := .type "tuple_iterator", data := .fields #[.ref a, .int 0 0] }, gg, dd, tk0, oo⟩) b ys := hb.at fun o e => Heap.get?_push_of_some _ e
    wp_walk using wpAny_pyIter_tuple T1, wpAny_pyIter_tuple T2
    exact ⟨_, rfl, hh⟩
theorem Ak {prog : Program} {w : World} {A : Around} {E : Value -> Shared -> Prop} {s : Shared} {a b : Addr} {xs ys : Array Value} {Q : Value -> Shared -> Prop} (ha : s.heap.IsTuple a xs) (hb : s.heap.IsTuple b ys)
    (go : ∀ h1, Zs (s.heap.objs.size + 4) (s.heap.objs.size + 2) (s.heap.objs.size + 3) s.heap.objs.size (s.heap.objs.size + 1) a b (fun k h => h.IsTupleIter s.heap.objs.size a k /\ h.IsTuple a xs) (fun k h => h.IsTupleIter (s.heap.objs.size + 1) b k /\ h.IsTuple b ys) 0 h1 -> (∀ c o, s.heap.get? c = some o -> h1.get? c = some o) -> Q (.ref (s.heap.objs.size + 4)) { s with heap := h1 }) :
    wpAny (model prog w) A (call (.type "zip") [.ref a, .ref b]) Q E s := by
  refine callType_new F.called_zip (by decide) (F.typeCall_zip_2 _ _) (F.newCall_zip_2 _ _) (fun ob => F.args_object_init_3 ob _ _) F.entry_zip_new (Ck a b xs ys) ⟨ha, hb, ?_⟩
  have s1 : (zc s.heap a).objs.size = s.heap.objs.size + 1 := Heap.size_push ..
  have s2 : (zb s.heap a b).objs.size = s.heap.objs.size + 2 := by rw [Heap.size_push, s1]
  have s3 : (za s.heap a b).objs.size = s.heap.objs.size + 3 := by rw [Heap.size_push, s2]
  have s4 : (y9 s.heap a b).objs.size = s.heap.objs.size + 4 := by rw [Heap.size_push, s3]
  have r5 : (pR s.heap a b).get? (y9 s.heap a b).objs.size = some _ := Heap.get?_push_size _ rfl
  have r4 : (pR s.heap a b).get? (za s.heap a b).objs.size = some _ := Heap.get?_push_of_some _ (Heap.get?_push_size _ rfl)
  have r3 : (pR s.heap a b).get? (zb s.heap a b).objs.size = some _ := Heap.get?_push_of_some _ (Heap.get?_push_of_some _ (Heap.get?_push_size _ rfl))
  have r2 : (pR s.heap a b).get? (zc s.heap a).objs.size = some _ := Heap.get?_push_of_some _ (Heap.get?_push_of_some _ (Heap.get?_push_of_some _ (Heap.get?_push_size _ rfl)))
  have r1 : (pR s.heap a b).get? s.heap.objs.size = some _ := Heap.get?_push_of_some _ (Heap.get?_push_of_some _ (Heap.get?_push_of_some _ (Heap.get?_push_of_some _ (Heap.get?_push_size _ rfl))))
  have up : ∀ c o, s.heap.get? c = some o -> (pR s.heap a b).get? c = some o := fun c o e => Heap.get?_push_of_some _ (Heap.get?_push_of_some _ (Heap.get?_push_of_some _ (Heap.get?_push_of_some _ (Heap.get?_push_of_some _ e))))
  have la : a < s.heap.objs.size := by obtain ⟨_, e, _⟩ := ha; exact Heap.lt_size e
  have lb : b < s.heap.objs.size := by obtain ⟨_, e, _⟩ := hb; exact Heap.lt_size e
  rw [s2, s3, s4] at r5
  rw [s1, s2] at r3
  rw [s3] at r4
  rw [s1] at r2
  show _ /\ _
  rw [s4]
  have ne : ∀ {m n : Nat}, m < n -> m ≠ n := fun h => Nat.ne_of_lt h
  refine ⟨⟨_, r5, rfl⟩, go _ ⟨?_, r5, r3, ⟨_, _, r4⟩, ⟨⟨_, r1, rfl, rfl⟩, ha.at fun o e => up _ _ e⟩, ⟨⟨_, r2, rfl, rfl⟩, hb.at fun o e => up _ _ e⟩⟩ up⟩
  generalize s.heap.objs.size = n at la lb
  have la' : (a : Nat) < n := la
  have lb' : (b : Nat) < n := lb
  constructor <;> first | exact ne (by omega) | exact (ne (by omega)).symm | exact ne (Nat.lt_of_lt_of_le la (by omega)) | exact ne (Nat.lt_of_lt_of_le lb (by omega)) | exact ne la | exact ne lb
end Sp
set_option Elab.async false
set_option linter.all false
set_option maxRecDepth 100000
namespace Sp
open PySem PySem.Spec PyProof.Rows L2
variable {X : Cx}
theorem mX {pins : List (Addr × Obj)} {σ : L2.St} {H : Hp} {s : Shared} {h2 : Heap} {t2 : Nat} {ch : List Addr} (I : ak X pins σ H s)
    (k : ∀ b u, b ∉ ch -> s.heap.get? b = some u -> h2.get? b = some u) (hn : ∀ b ∈ ch, fq X pins H b) : ak X pins σ H { s with heap := h2, toks := t2 } := by
  have tr : ∀ b u, H b = some u -> b ∉ ch := fun b u e z => by rw [(hn b z).1] at e; cases e
  have un : Un (iL X.stack) ch H H s.heap h2 := ⟨fun b ob e n _ c => k b ob c e, fun b ob e n _ c => ⟨ob.slots, k b ob c e⟩, fun b ob e n c => n, fun b ob e c => ⟨ob, k b ob c e⟩, fun b xs e => e, fun b ob u e => e, fun b ps e => ⟨#[], by rw [e]; simp⟩⟩
  refine I.call (g' := s.gens) (d' := s.drawn) un (fun b u e => ?_) I.bare fun b hb => ⟨(hn b hb).2.2.2.1, (hn b hb).2.1, (hn b hb).2.2.2.2.1, (hn b hb).2.2.2.2.2⟩
  refine (I.hok b u e).stay (fun c v hc q => k c v ?_ q) (fun c q => q) fun c xs q => q
  rcases hc with z | z
  . rw [z]; exact tr b u e
  . exact tr c _ z
def Oi (K : W.Frag) (a b : Addr) : It :=
  ⟨fun i H => ∃ xs ys x y, ck K H a xs /\ xs[i]? = some x /\ ck K H b ys /\ ys[i]? = some y, fun i H x H' => ∃ p u v, x = .ref p /\ H p = none /\ H' = aV H p (.tup [u, v]) /\ (∀ xs, ck K H a xs -> xs[i]? = some u) /\ ∀ ys, ck K H b ys -> ys[i]? = some v, fun i H => ∃ xs ys, ck K H a xs /\ ck K H b ys /\ (xs.length <= i \/ ys.length <= i)⟩
theorem xm {P : Program} {w : World} {K : W.Frag} {es : List Expr} {n1 : Nat} {pos : Pos} (a b z TI TO i1 i2 : Addr) (D : ZipApart z TI TO i1 i2 a b) :
    L2.Turn P w K (.Tuple es n1 pos) (Oi K a b) [z, TI, TO, i1, i2] z (fun i h => IsZip h z TI TO .none /\ IsPair h TI (.ref i1) (.ref i2) /\ (∃ u v, IsPair h TO u v) /\ h.IsTupleIter i1 a i /\ h.IsTupleIter i2 b i) where
  mem := by simp
  obj := fun i h st c hc => by
    obtain ⟨q1, q2, ⟨u, v, q3⟩, ⟨o4, q4, c4, d4⟩, ⟨o5, q5, c5, d5⟩⟩ := st
    simp only [List.mem_cons, List.not_mem_nil, or_false] at hc
    rcases hc with rfl | rfl | rfl | rfl | rfl
    . exact ⟨_, q1, fun v e => by have e' : Data.fields _ = Data.cell v := e; cases e'⟩
    . exact ⟨_, q2, fun v e => by have e' : Data.seq _ _ = Data.cell v := e; cases e'⟩
    . exact ⟨_, q3, fun v e => by have e' : Data.seq _ _ = Data.cell v := e; cases e'⟩
    . exact ⟨_, q4, fun v e => by rw [d4] at e; cases e⟩
    . exact ⟨_, q5, fun v e => by rw [d5] at e; cases e⟩
  keep := fun i h h' ⟨q1, q2, ⟨u, v, q3⟩, q4, q5⟩ k => ⟨k _ (by simp) _ q1, k _ (by simp) _ q2, ⟨u, v, k _ (by simp) _ q3⟩, q4.at fun o e => k _ (by simp) o e, q5.at fun o e => k _ (by simp) o e⟩
  item := by
    intro Y hP hw hK hc i pins s σ H E I hf st hg
    subst hP hw hK
    obtain ⟨xs, ys, x, y, hq, hx, hr, hy⟩ := hg
    obtain ⟨its, rv, p1, hz⟩ := I.tuple hq
    obtain ⟨jts, rw', p2, hz'⟩ := I.tuple hr
    obtain ⟨u, hu, ru⟩ := rv.get hx
    obtain ⟨v, hv, rv'⟩ := rw'.get hy
    obtain ⟨q1, q2, q3, q4, q5⟩ := st
    have zlt : z < s.heap.objs.size := Heap.lt_size q1
    refine Zs.pyItem (jy (i := i1) (l := a) (xs := its.toArray) D.l1i1) (jy (i := i2) (l := b) (xs := jts.toArray) D.l2i2) ⟨D, q1, q2, q3, ⟨q4, p1⟩, ⟨q5, p2⟩⟩ (x := u) (y := v) (by simpa using hu) (by simpa using hv) fun h1 gY zo t1 k1 => ?_
    refine ⟨_, rfl, wpAny_letOwnedTupleGo_zip zo fun h2 z2 m2 => ?_⟩
    have m2 : Heap.SameBut z h1 h2 := m2
    have N := gY h2 z2 m2
    have k2 : ∀ c o, c ∉ [z, TI, TO, i1, i2] -> s.heap.get? c = some o -> h2.get? c = some o := fun c o nc q => by
      have n1 : c ≠ z := fun e => nc (by simp [e])
      refine m2.extBut c o n1 (k1 c o (fun e => nc ?_) q)
      simp only [List.mem_cons, List.not_mem_nil, or_false] at e ⊢
      rcases e with e | e | e | e <;> simp [e]
    have t2 : h2.get? s.heap.objs.size = some { cls := .type "tuple", data := .seq #[u, v] } := m2.extBut _ _ (Nat.ne_of_gt zlt) t1
    have hn0 : H s.heap.objs.size = none := I.hok.fresh (Nat.le_refl _)
    refine ⟨.ref s.heap.objs.size, aV H s.heap.objs.size (.tup [x, y]), hJ (s := s) (h2 := h2) (t2 := s.toks) I k2 (Nat.le_refl _) hf ?_, rfl, ⟨_, x, y, rfl, hn0, rfl, fun ws hw => by rw [I.tuple_inj hw hq]; exact hx, fun ws hw => by rw [I.tuple_inj hw hr]; exact hy⟩, ⟨N.rd, N.ins, N.out, N.fst.1, N.snd.1⟩, fun c hc => ?_⟩
    . exact ⟨by show 2 <= sizeLine; decide, [u, v], .cons ru (.cons rv' .nil), ⟨_, t2, rfl, _, rfl⟩⟩
    . have hb' := hf c hc
      have lt : c < s.heap.objs.size := by
        obtain ⟨u', v', q3⟩ := q3
        obtain ⟨o4, q4, _⟩ := q4
        obtain ⟨o5, q5, _⟩ := q5
        simp only [List.mem_cons, List.not_mem_nil, or_false] at hc
        rcases hc with rfl | rfl | rfl | rfl | rfl
        . exact zlt
        . exact Heap.lt_size q2
        . exact Heap.lt_size q3
        . exact Heap.lt_size q4
        . exact Heap.lt_size q5
      rw [aH (Nat.ne_of_lt lt)]; exact hb'.1
  done := by
    intro Y hP hw hK hc i pins s σ H E I hf st hg
    subst hP hw hK
    obtain ⟨xs, ys, hq, hr, hl⟩ := hg
    obtain ⟨its, rv, p1, hz⟩ := I.tuple hq
    obtain ⟨jts, rw', p2, hz'⟩ := I.tuple hr
    obtain ⟨q1, q2, q3, q4, q5⟩ := st
    have l1 := rv.length
    have l2 := rw'.length
    refine Zs.pyDone (I.ok.hd hc) (jy (i := i1) (l := a) (xs := its.toArray) D.l1i1) (jy (i := i2) (l := b) (xs := jts.toArray) D.l2i2) ⟨D, q1, q2, q3, ⟨q4, p1⟩, ⟨q5, p2⟩⟩ ?_ fun h1 k1 => ⟨rfl, mX (s := s) (t2 := s.toks) (ch := [z, TI, TO, i1, i2]) I (fun c o nc q => k1 c o (fun e => nc ?_) q) hf⟩
    . rcases hl with hl | hl
      . exact .inl (by simp; omega)
      . exact .inr (by simp; omega)
    . simp only [List.mem_cons, List.not_mem_nil, or_false] at e ⊢
      rcases e with e | e | e | e <;> simp [e]
  self := fun _ _ _ _ _ st h => wpAny_pyIter_zip st.1 h
theorem D6 {ρ : aj} {es : List Expr} {n1 : Nat} {tp p pos : Pos} {a b : Expr} {l m : List D} {k : Nat} (hg : Gl X "zip") (hm0 : X.mg "zip" = none) (ha : AD X ρ [a, b] [.tup l, .tup m] k) (hst : ∀ e ∈ [a, b], ∀ y p, e ≠ .Starred y p) (hf : ao l = true) (hm : ao m = true) :
    IE X ρ (.Tuple es n1 tp) (.Call (.Name "zip" p) [a, b] [] pos) (List.zipWith (fun x y => .tup [x, y]) l m) 0 := by
  intro ow pins s σ H R I ⟨E, q⟩
  have n1' := bj (env := X.env) (es := [b]) (hst a (by simp))
  have n2' : (backTo pos (starEach [b] X.env)).any (·.1) = false := cC fun x hx => hst x (by simp at hx; simp [hx])
  refine Call_ (dC I hg hm0 (show bootBuiltins "zip" = some (.type "zip") by decide +kernel) (PyProof.Rows.callWith_type1 (aN (ha ow pos pins s σ H (fun vs H1 => aD H H1 /\ ag X.K H1 (Kp ow H k) [.tup l, .tup m] vs) I ⟨E, fun vs H1 s1 r1 => ⟨s1, r1⟩⟩) fun us s1 ⟨vs, H1, I1, rv, sm, rp⟩ => ?_) n1' n2') (by decide +kernel) (by decide +kernel))
  rw [ag] at rp
  obtain ⟨v1, vr, rfl, rp1, rp2⟩ := rp
  obtain ⟨v2, rfl, rp3⟩ := rp2.only
  obtain ⟨ta, xs, rfl, hq, rl⟩ := eI rp1
  obtain ⟨tb, ys, rfl, hr, rm⟩ := eI rp3
  obtain ⟨u1, u2, rfl, ru1, ru2⟩ := mB rv
  cases (show u1 = Value.ref ta from ru1)
  cases (show u2 = Value.ref tb from ru2)
  obtain ⟨its, rvs, pt, hz⟩ := I1.tuple hq
  obtain ⟨jts, rvs', pt', hz'⟩ := I1.tuple hr
  refine Ak (show s1.heap.IsTuple ta its.toArray from pt) (show s1.heap.IsTuple tb jts.toArray from pt') fun h2 Z k2 => ?_
  refine wpAny_pyIter_zip Z.rd ?_
  have I2 : ak X pins σ H1 { s1 with heap := h2 } := I1.kept (t' := s1.toks) k2
  have fr : ∀ j, fq X pins H1 (s1.heap.objs.size + j) := fun j => I1.fpOk (Nat.le_add_right _ _) (I1.hok.fresh (Nat.le_add_right _ _))
  refine ⟨s1.heap.objs.size + 4, [s1.heap.objs.size + 4, s1.heap.objs.size + 2, s1.heap.objs.size + 3, s1.heap.objs.size, s1.heap.objs.size + 1], _, _, H1, rfl, I2, xm ta tb _ _ _ _ _ Z.ap, ⟨Z.rd, Z.ins, Z.out, Z.fst.1, Z.snd.1⟩, fun c hc => ?_, q _ H1 sm ?_⟩
  . simp only [List.mem_cons, List.not_mem_nil, or_false] at hc
    rcases hc with rfl | rfl | rfl | rfl | rfl
    . exact fr 4
    . exact fr 2
    . exact fr 3
    . exact fr 0
    . exact fr 1
  . intro i H2 st
    have rl' : ag X.K H1 (Kd ow H 0 H1) l xs := rl.flat _ hf
    have rm' : ag X.K H1 (Kd ow H 0 H1) m ys := rm.flat _ hm
    refine ⟨fun d hd => ?_, fun hle => ?_⟩
    . rw [List.getElem?_zipWith] at hd
      cases e : l[i]? with
      | none => rw [e] at hd; cases hd
      | some x =>
        cases e' : m[i]? with
        | none => rw [e, e'] at hd; cases hd
        | some y =>
          rw [e, e'] at hd; cases hd
          obtain ⟨u, hu, ru⟩ := rl'.get e
          obtain ⟨v, hv, rv⟩ := rm'.get e'
          refine ⟨⟨xs, ys, u, v, st.sq hq, hu, st.sq hr, hv⟩, fun x' H3 ⟨p', u', v', e1, e2, e3, e4, e5⟩ => ?_⟩
          have c1 := e4 xs (st.sq hq)
          have c2 := e5 ys (st.sq hr)
          rw [hu] at c1; cases c1
          rw [hv] at c2; cases c2
          subst e1 e3
          have sm3 := cy (o := HO.tup [u, v]) e2
          refine ⟨sm3, ?_⟩
          rw [ah]
          exact ⟨p', _, rfl, ck.of aO, ag.cons ((ru.mono st).same sm3) (ag.one ((rv.mono st).same sm3))⟩
    . rw [List.length_zipWith] at hle
      have l1 := rl.length
      have l2 := rm.length
      exact ⟨xs, ys, st.sq hq, st.sq hr, by omega⟩
end Sp
set_option Elab.async false
set_option linter.all false
set_option maxRecDepth 100000
namespace Sp
open PySem PySem.Spec PyProof.Rows L2
variable {X : Cx}
def gh (κ : Bool) (h : Heap) (i a : Addr) (k : Nat) : Prop := match κ with | true => h.IsTupleIter i a k | false => h.IsListIter i a k
def fo (κ : Bool) (h : Heap) (a : Addr) (xs : Array Value) : Prop := match κ with | true => h.IsTuple a xs | false => h.IsList a xs
def kl (κ : Bool) (K : W.Frag) (H : Hp) (a : Addr) (xs : List V) : Prop := match κ with | true => ck K H a xs | false => cm K H a xs
def jF (κ : Bool) (l : List D) : D := match κ with | true => .tup l | false => .lst l
def D1 (κ : Bool) : String := match κ with | true => "tuple_iterator" | false => "list_iterator"
theorem t9 (κ : Bool) {prog : Program} {w : World} {i l : Addr} {xs : Array Value} (ne : l ≠ i) : Wk prog w i l (fun k h => gh κ h i l k /\ fo κ h l xs) (fun k => xs[k]?) := by
  cases κ
  . exact Cn ne
  . exact jy ne
theorem g9 {κ : Bool} {h : Heap} {i a : Addr} {k : Nat} (p : gh κ h i a k) : ∃ o, h.get? i = some o /\ ∀ v, o.data ≠ Data.cell v := by
  cases κ
  . obtain ⟨o, e, _, d⟩ := (show h.IsListIter i a k from p); exact ⟨o, e, fun v z => by rw [d] at z; cases z⟩
  . obtain ⟨o, e, _, d⟩ := (show h.IsTupleIter i a k from p); exact ⟨o, e, fun v z => by rw [d] at z; cases z⟩
theorem qT {κ : Bool} {h h' : Heap} {i a : Addr} {k : Nat} (p : gh κ h i a k) (q : ∀ o, h.get? i = some o -> h'.get? i = some o) : gh κ h' i a k := by
  cases κ
  . exact (show h.IsListIter i a k from p).at q
  . exact (show h.IsTupleIter i a k from p).at q
theorem qR {κ : Bool} {h h' : Heap} {a : Addr} {xs : Array Value} (p : fo κ h a xs) (q : ∀ o, h.get? a = some o -> h'.get? a = some o) : fo κ h' a xs := by
  cases κ
  . exact (show h.IsList a xs from p).at q
  . exact (show h.IsTuple a xs from p).at q
theorem qQ {κ : Bool} {h : Heap} {a : Addr} {xs : Array Value} (p : fo κ h a xs) : a < h.objs.size := by
  cases κ
  . obtain ⟨_, e, _⟩ := (show h.IsList a xs from p); exact Heap.lt_size e
  . obtain ⟨_, e, _⟩ := (show h.IsTuple a xs from p); exact Heap.lt_size e
theorem kX {κ : Bool} {pins : List (Addr × Obj)} {σ : L2.St} {H : Hp} {s : Shared} {a : Addr} {xs : List V} (I : ak X pins σ H s) (h : kl κ X.K H a xs) : ∃ its : List Value, aJ xs its /\ fo κ s.heap a its.toArray /\ xs.length <= sizeLine := by
  cases κ
  . obtain ⟨its, r, p, z⟩ := I.list h; exact ⟨its, r, p.isList, z⟩
  . obtain ⟨its, r, p, z⟩ := I.tuple h; exact ⟨its, r, p, z⟩
theorem oW {κ : Bool} {pins : List (Addr × Obj)} {σ : L2.St} {H : Hp} {s : Shared} {a : Addr} {xs ys : List V} (I : ak X pins σ H s) (h : kl κ X.K H a xs) (h' : kl κ X.K H a ys) : xs = ys := by
  cases κ
  . exact I.list_inj h h'
  . exact I.tuple_inj h h'
theorem jD {κ : Bool} {ow : Ow} {H H1 : Hp} {k : Nat} {l : List D} {v : V} (h : ah X.K H1 (Kp ow H k) (jF κ l) v) : ∃ a vs, v = .ref a /\ kl κ X.K H1 a vs /\ ag X.K H1 (Kp ow H k) l vs /\ ∀ {P' : bg} {H2 : Hp}, dM (Kd ow H k H1) P' H1 H2 -> kl κ X.K H2 a vs := by
  cases κ
  . rw [show jF false l = .lst l from rfl, ah] at h
    obtain ⟨a, vs, b, rfl, hl, hp, rl⟩ := h
    have hp' : Kd ow H k H1 a b := ⟨hp, fun hb => by subst hb; exact ⟨_, hl⟩⟩
    exact ⟨a, vs, rfl, hl.sq, rl, fun st => (st.ls hl hp').sq⟩
  . rw [show jF true l = .tup l from rfl, ah] at h
    obtain ⟨a, vs, rfl, hl, rl⟩ := h
    exact ⟨a, vs, rfl, hl, rl, fun st => st.sq hl⟩
abbrev zf (κ : Bool) (h : Heap) (a : Addr) : Heap := h.push { cls := .type (D1 κ), data := .fields #[.ref a, .int 0 0] }
abbrev ze (κ κ' : Bool) (h : Heap) (a b : Addr) : Heap := (zf κ h a).push { cls := .type (D1 κ'), data := .fields #[.ref b, .int 0 0] }
abbrev zd (κ κ' : Bool) (h : Heap) (a b : Addr) : Heap := (ze κ κ' h a b).push { cls := .type "tuple", data := .seq #[.ref h.objs.size, .ref (zf κ h a).objs.size] }
abbrev oK (κ κ' : Bool) (h : Heap) (a b : Addr) : Heap := (zd κ κ' h a b).push { cls := .type "tuple", data := .seq #[.none, .none] }
abbrev jx (κ κ' : Bool) (h : Heap) (a b : Addr) : Heap := (oK κ κ' h a b).push { cls := .type "zip", data := .fields #[.none, .bool false, .bool false, .ref (ze κ κ' h a b).objs.size, .ref (zd κ κ' h a b).objs.size] }
theorem jw (a b : Addr) (xs ys : Array Value) :
    Meets (Builtin.«zip.__new__» ⟨[.type "zip", .ref a, .ref b], []⟩) (fun _ R s => s.heap.IsList a xs /\ s.heap.IsList b ys /\ R (.ok (.ret (.ref (oK false false s.heap a b).objs.size))) { s with heap := jx false false s.heap a b }) :=
  .of_wp fun pg wd AA RR st hh => by
    obtain ⟨hp0, gg, dd, tk0, oo⟩ := st; obtain ⟨ha, hb, hh⟩ := hh
    have hsub0 := sub_zip
    have T1 : Heap.IsList (Shared.heap ⟨hp0, gg, dd, tk0, oo⟩) a xs := ha
    have T2 : Heap.IsList (Shared.heap ⟨hp0.push { cls := .type "list_iterator", data := .fields #[.ref a, .int 0 0] }, gg, dd, tk0, oo⟩) b ys := hb.at fun o e => Heap.get?_push_of_some _ e
    wp_walk using wpAny_pyIter_list T1, wpAny_pyIter_list T2
    exact ⟨_, rfl, hh⟩
theorem lD (a b : Addr) (xs ys : Array Value) :
    Meets (Builtin.«zip.__new__» ⟨[.type "zip", .ref a, .ref b], []⟩) (fun _ R s => s.heap.IsList a xs /\ s.heap.IsTuple b ys /\ R (.ok (.ret (.ref (oK false true s.heap a b).objs.size))) { s with heap := jx false true s.heap a b }) :=
  .of_wp fun pg wd AA RR st hh => by
    obtain ⟨hp0, gg, dd, tk0, oo⟩ := st; obtain ⟨ha, hb, hh⟩ := hh
    have hsub0 := sub_zip
    have T1 : Heap.IsList (Shared.heap ⟨hp0, gg, dd, tk0, oo⟩) a xs := ha
    have T2 : Heap.IsTuple (Shared.heap ⟨hp0.push { cls := .type "list_iterator", data := .fields #[.ref a, .int 0 0] }, gg, dd, tk0, oo⟩) b ys := hb.at fun o e => Heap.get?_push_of_some _ e
    wp_walk using wpAny_pyIter_list T1, wpAny_pyIter_tuple T2
    exact ⟨_, rfl, hh⟩
theorem lC (a b : Addr) (xs ys : Array Value) :
    Meets (Builtin.«zip.__new__» ⟨[.type "zip", .ref a, .ref b], []⟩) (fun _ R s => s.heap.IsTuple a xs /\ s.heap.IsList b ys /\ R (.ok (.ret (.ref (oK true false s.heap a b).objs.size))) { s with heap := jx true false s.heap a b }) :=
  .of_wp fun pg wd AA RR st hh => by
    obtain ⟨hp0, gg, dd, tk0, oo⟩ := st; obtain ⟨ha, hb, hh⟩ := hh
    have hsub0 := sub_zip
    have T1 : Heap.IsTuple (Shared.heap ⟨hp0, gg, dd, tk0, oo⟩) a xs := ha
    have T2 : Heap.IsList (Shared.heap ⟨hp0.push { cls := .type "tuple_iterator", data := .fields #[.ref a, .int 0 0] }, gg, dd, tk0, oo⟩) b ys := hb.at fun o e => Heap.get?_push_of_some _ e
    wp_walk using wpAny_pyIter_tuple T1, wpAny_pyIter_list T2
    exact ⟨_, rfl, hh⟩
theorem lO (a b : Addr) (xs ys : Array Value) :
    Meets (Builtin.«zip.__new__» ⟨[.type "zip", .ref a, .ref b], []⟩) (fun _ R s => s.heap.IsTuple a xs /\ s.heap.IsTuple b ys /\ R (.ok (.ret (.ref (oK true true s.heap a b).objs.size))) { s with heap := jx true true s.heap a b }) :=
  .of_wp fun pg wd AA RR st hh => by
    obtain ⟨hp0, gg, dd, tk0, oo⟩ := st; obtain ⟨ha, hb, hh⟩ := hh
    have hsub0 := sub_zip
    have T1 : Heap.IsTuple (Shared.heap ⟨hp0, gg, dd, tk0, oo⟩) a xs := ha
    have T2 : Heap.IsTuple (Shared.heap ⟨hp0.push { cls := .type "tuple_iterator", data := .fields #[.ref a, .int 0 0] }, gg, dd, tk0, oo⟩) b ys := hb.at fun o e => Heap.get?_push_of_some _ e
    wp_walk using wpAny_pyIter_tuple T1, wpAny_pyIter_tuple T2
    exact ⟨_, rfl, hh⟩
theorem Cl (κ κ' : Bool) (a b : Addr) (xs ys : Array Value) :
    Meets (Builtin.«zip.__new__» ⟨[.type "zip", .ref a, .ref b], []⟩) (fun _ R s => fo κ s.heap a xs /\ fo κ' s.heap b ys /\ R (.ok (.ret (.ref (oK κ κ' s.heap a b).objs.size))) { s with heap := jx κ κ' s.heap a b }) := by
  cases κ <;> cases κ'
  . exact jw a b xs ys
  . exact lD a b xs ys
  . exact lC a b xs ys
  . exact lO a b xs ys
theorem qS {κ : Bool} {h : Heap} {i a : Addr} (e : h.get? i = some { cls := .type (D1 κ), data := .fields #[.ref a, .int 0 0] }) : gh κ h i a 0 := by
  cases κ
  . exact ⟨_, e, rfl, rfl⟩
  . exact ⟨_, e, rfl, rfl⟩
theorem xl {κ κ' : Bool} {prog : Program} {w : World} {A : Around} {E : Value -> Shared -> Prop} {s : Shared} {a b : Addr} {xs ys : Array Value} {Q : Value -> Shared -> Prop} (ha : fo κ s.heap a xs) (hb : fo κ' s.heap b ys)
    (go : ∀ h1, Zs (s.heap.objs.size + 4) (s.heap.objs.size + 2) (s.heap.objs.size + 3) s.heap.objs.size (s.heap.objs.size + 1) a b (fun k h => gh κ h s.heap.objs.size a k /\ fo κ h a xs) (fun k h => gh κ' h (s.heap.objs.size + 1) b k /\ fo κ' h b ys) 0 h1 -> (∀ c o, s.heap.get? c = some o -> h1.get? c = some o) -> Q (.ref (s.heap.objs.size + 4)) { s with heap := h1 }) :
    wpAny (model prog w) A (call (.type "zip") [.ref a, .ref b]) Q E s := by
  refine callType_new F.called_zip (by decide) (F.typeCall_zip_2 _ _) (F.newCall_zip_2 _ _) (fun ob => F.args_object_init_3 ob _ _) F.entry_zip_new (Cl κ κ' a b xs ys) ⟨ha, hb, ?_⟩
  have s1 : (zf κ s.heap a).objs.size = s.heap.objs.size + 1 := Heap.size_push ..
  have s2 : (ze κ κ' s.heap a b).objs.size = s.heap.objs.size + 2 := by rw [Heap.size_push, s1]
  have s3 : (zd κ κ' s.heap a b).objs.size = s.heap.objs.size + 3 := by rw [Heap.size_push, s2]
  have s4 : (oK κ κ' s.heap a b).objs.size = s.heap.objs.size + 4 := by rw [Heap.size_push, s3]
  have r5 : (jx κ κ' s.heap a b).get? (oK κ κ' s.heap a b).objs.size = some _ := Heap.get?_push_size _ rfl
  have r4 : (jx κ κ' s.heap a b).get? (zd κ κ' s.heap a b).objs.size = some _ := Heap.get?_push_of_some _ (Heap.get?_push_size _ rfl)
  have r3 : (jx κ κ' s.heap a b).get? (ze κ κ' s.heap a b).objs.size = some _ := Heap.get?_push_of_some _ (Heap.get?_push_of_some _ (Heap.get?_push_size _ rfl))
  have r2 : (jx κ κ' s.heap a b).get? (zf κ s.heap a).objs.size = some _ := Heap.get?_push_of_some _ (Heap.get?_push_of_some _ (Heap.get?_push_of_some _ (Heap.get?_push_size _ rfl)))
  have r1 : (jx κ κ' s.heap a b).get? s.heap.objs.size = some _ := Heap.get?_push_of_some _ (Heap.get?_push_of_some _ (Heap.get?_push_of_some _ (Heap.get?_push_of_some _ (Heap.get?_push_size _ rfl))))
  have up : ∀ c o, s.heap.get? c = some o -> (jx κ κ' s.heap a b).get? c = some o := fun c o e => Heap.get?_push_of_some _ (Heap.get?_push_of_some _ (Heap.get?_push_of_some _ (Heap.get?_push_of_some _ (Heap.get?_push_of_some _ e))))
  have la : a < s.heap.objs.size := qQ ha
  have lb : b < s.heap.objs.size := qQ hb
  rw [s2, s3, s4] at r5
  rw [s1, s2] at r3
  rw [s3] at r4
  rw [s1] at r2
  show _ /\ _
  rw [s4]
  have ne : ∀ {m n : Nat}, m < n -> m ≠ n := fun h => Nat.ne_of_lt h
  refine ⟨⟨_, r5, rfl⟩, go _ ⟨?_, r5, r3, ⟨_, _, r4⟩, ⟨qS r1, qR ha fun o e => up _ _ e⟩, ⟨qS r2, qR hb fun o e => up _ _ e⟩⟩ up⟩
  generalize s.heap.objs.size = n at la lb
  have la' : (a : Nat) < n := la
  have lb' : (b : Nat) < n := lb
  constructor <;> first | exact ne (by omega) | exact (ne (by omega)).symm | exact ne (Nat.lt_of_lt_of_le la (by omega)) | exact ne (Nat.lt_of_lt_of_le lb (by omega)) | exact ne la | exact ne lb
def NU (κ κ' : Bool) (K : W.Frag) (a b : Addr) : It :=
  ⟨fun i H => ∃ xs ys x y, kl κ K H a xs /\ xs[i]? = some x /\ kl κ' K H b ys /\ ys[i]? = some y, fun i H x H' => ∃ p u v, x = .ref p /\ H p = none /\ H' = aV H p (.tup [u, v]) /\ (∀ xs, kl κ K H a xs -> xs[i]? = some u) /\ ∀ ys, kl κ' K H b ys -> ys[i]? = some v, fun i H => ∃ xs ys, kl κ K H a xs /\ kl κ' K H b ys /\ (xs.length <= i \/ ys.length <= i)⟩
theorem vk (κ κ' : Bool) {P : Program} {w : World} {K : W.Frag} {es : List Expr} {n1 : Nat} {pos : Pos} (a b z TI TO i1 i2 : Addr) (D : ZipApart z TI TO i1 i2 a b) :
    L2.Turn P w K (.Tuple es n1 pos) (NU κ κ' K a b) [z, TI, TO, i1, i2] z (fun i h => IsZip h z TI TO .none /\ IsPair h TI (.ref i1) (.ref i2) /\ (∃ u v, IsPair h TO u v) /\ gh κ h i1 a i /\ gh κ' h i2 b i) where
  mem := by simp
  obj := fun i h st c hc => by
    obtain ⟨q1, q2, ⟨u, v, q3⟩, q4, q5⟩ := st
    obtain ⟨o4, q4, d4⟩ := g9 q4
    obtain ⟨o5, q5, d5⟩ := g9 q5
    simp only [List.mem_cons, List.not_mem_nil, or_false] at hc
    rcases hc with rfl | rfl | rfl | rfl | rfl
    . exact ⟨_, q1, fun v e => by have e' : Data.fields _ = Data.cell v := e; cases e'⟩
    . exact ⟨_, q2, fun v e => by have e' : Data.seq _ _ = Data.cell v := e; cases e'⟩
    . exact ⟨_, q3, fun v e => by have e' : Data.seq _ _ = Data.cell v := e; cases e'⟩
    . exact ⟨_, q4, d4⟩
    . exact ⟨_, q5, d5⟩
  keep := fun i h h' ⟨q1, q2, ⟨u, v, q3⟩, q4, q5⟩ k => ⟨k _ (by simp) _ q1, k _ (by simp) _ q2, ⟨u, v, k _ (by simp) _ q3⟩, qT q4 fun o e => k _ (by simp) o e, qT q5 fun o e => k _ (by simp) o e⟩
  item := by
    intro Y hP hw hK hc i pins s σ H E I hf st hg
    subst hP hw hK
    obtain ⟨xs, ys, x, y, hq, hx, hr, hy⟩ := hg
    obtain ⟨its, rv, p1, hz⟩ := kX I hq
    obtain ⟨jts, rw', p2, hz'⟩ := kX I hr
    obtain ⟨u, hu, ru⟩ := rv.get hx
    obtain ⟨v, hv, rv'⟩ := rw'.get hy
    obtain ⟨q1, q2, q3, q4, q5⟩ := st
    have zlt : z < s.heap.objs.size := Heap.lt_size q1
    refine Zs.pyItem (t9 κ (i := i1) (l := a) (xs := its.toArray) D.l1i1) (t9 κ' (i := i2) (l := b) (xs := jts.toArray) D.l2i2) ⟨D, q1, q2, q3, ⟨q4, p1⟩, ⟨q5, p2⟩⟩ (x := u) (y := v) (by simpa using hu) (by simpa using hv) fun h1 gY zo t1 k1 => ?_
    refine ⟨_, rfl, wpAny_letOwnedTupleGo_zip zo fun h2 z2 m2 => ?_⟩
    have m2 : Heap.SameBut z h1 h2 := m2
    have N := gY h2 z2 m2
    have k2 : ∀ c o, c ∉ [z, TI, TO, i1, i2] -> s.heap.get? c = some o -> h2.get? c = some o := fun c o nc q => by
      have n1 : c ≠ z := fun e => nc (by simp [e])
      refine m2.extBut c o n1 (k1 c o (fun e => nc ?_) q)
      simp only [List.mem_cons, List.not_mem_nil, or_false] at e ⊢
      rcases e with e | e | e | e <;> simp [e]
    have t2 : h2.get? s.heap.objs.size = some { cls := .type "tuple", data := .seq #[u, v] } := m2.extBut _ _ (Nat.ne_of_gt zlt) t1
    have hn0 : H s.heap.objs.size = none := I.hok.fresh (Nat.le_refl _)
    refine ⟨.ref s.heap.objs.size, aV H s.heap.objs.size (.tup [x, y]), hJ (s := s) (h2 := h2) (t2 := s.toks) I k2 (Nat.le_refl _) hf ?_, rfl, ⟨_, x, y, rfl, hn0, rfl, fun ws hw => by rw [oW I hw hq]; exact hx, fun ws hw => by rw [oW I hw hr]; exact hy⟩, ⟨N.rd, N.ins, N.out, N.fst.1, N.snd.1⟩, fun c hc => ?_⟩
    . exact ⟨by show 2 <= sizeLine; decide, [u, v], .cons ru (.cons rv' .nil), ⟨_, t2, rfl, _, rfl⟩⟩
    . have hb' := hf c hc
      have lt : c < s.heap.objs.size := by
        obtain ⟨u', v', q3⟩ := q3
        obtain ⟨o4, q4, _⟩ := g9 q4
        obtain ⟨o5, q5, _⟩ := g9 q5
        simp only [List.mem_cons, List.not_mem_nil, or_false] at hc
        rcases hc with rfl | rfl | rfl | rfl | rfl
        . exact zlt
        . exact Heap.lt_size q2
        . exact Heap.lt_size q3
        . exact Heap.lt_size q4
        . exact Heap.lt_size q5
      rw [aH (Nat.ne_of_lt lt)]; exact hb'.1
  done := by
    intro Y hP hw hK hc i pins s σ H E I hf st hg
    subst hP hw hK
    obtain ⟨xs, ys, hq, hr, hl⟩ := hg
    obtain ⟨its, rv, p1, hz⟩ := kX I hq
    obtain ⟨jts, rw', p2, hz'⟩ := kX I hr
    obtain ⟨q1, q2, q3, q4, q5⟩ := st
    have l1 := rv.length
    have l2 := rw'.length
    refine Zs.pyDone (I.ok.hd hc) (t9 κ (i := i1) (l := a) (xs := its.toArray) D.l1i1) (t9 κ' (i := i2) (l := b) (xs := jts.toArray) D.l2i2) ⟨D, q1, q2, q3, ⟨q4, p1⟩, ⟨q5, p2⟩⟩ ?_ fun h1 k1 => ⟨rfl, mX (s := s) (t2 := s.toks) (ch := [z, TI, TO, i1, i2]) I (fun c o nc q => k1 c o (fun e => nc ?_) q) hf⟩
    . rcases hl with hl | hl
      . exact .inl (by simp; omega)
      . exact .inr (by simp; omega)
    . simp only [List.mem_cons, List.not_mem_nil, or_false] at e ⊢
      rcases e with e | e | e | e <;> simp [e]
  self := fun _ _ _ _ _ st h => wpAny_pyIter_zip st.1 h
theorem Bv {κ κ' : Bool} {ρ : aj} {es : List Expr} {n1 : Nat} {tp p pos : Pos} {a b : Expr} {l m : List D} {k : Nat} (hg : Gl X "zip") (hm0 : X.mg "zip" = none) (ha : AD X ρ [a, b] [jF κ l, jF κ' m] k) (hst : ∀ e ∈ [a, b], ∀ y p, e ≠ .Starred y p) (hf : ao l = true) (hm : ao m = true) :
    IE X ρ (.Tuple es n1 tp) (.Call (.Name "zip" p) [a, b] [] pos) (List.zipWith (fun x y => .tup [x, y]) l m) k := by
  intro ow pins s σ H R I ⟨E, q⟩
  have n1' := bj (env := X.env) (es := [b]) (hst a (by simp))
  have n2' : (backTo pos (starEach [b] X.env)).any (·.1) = false := cC fun x hx => hst x (by simp at hx; simp [hx])
  refine Call_ (dC I hg hm0 (show bootBuiltins "zip" = some (.type "zip") by decide +kernel) (PyProof.Rows.callWith_type1 (aN (ha ow pos pins s σ H (fun vs H1 => aD H H1 /\ ag X.K H1 (Kp ow H k) [jF κ l, jF κ' m] vs) I ⟨E, fun vs H1 s1 r1 => ⟨s1, r1⟩⟩) fun us s1 ⟨vs, H1, I1, rv, sm, rp⟩ => ?_) n1' n2') (by decide +kernel) (by decide +kernel))
  rw [ag] at rp
  obtain ⟨v1, vr, rfl, rp1, rp2⟩ := rp
  obtain ⟨v2, rfl, rp3⟩ := rp2.only
  obtain ⟨ta, xs, rfl, hq, rl, hk1⟩ := jD rp1
  obtain ⟨tb, ys, rfl, hr, rm, hk2⟩ := jD rp3
  obtain ⟨u1, u2, rfl, ru1, ru2⟩ := mB rv
  cases (show u1 = Value.ref ta from ru1)
  cases (show u2 = Value.ref tb from ru2)
  obtain ⟨its, rvs, pt, hz⟩ := kX I1 hq
  obtain ⟨jts, rvs', pt', hz'⟩ := kX I1 hr
  refine xl (κ := κ) (κ' := κ') pt pt' fun h2 Z k2 => ?_
  refine wpAny_pyIter_zip Z.rd ?_
  have I2 : ak X pins σ H1 { s1 with heap := h2 } := I1.kept (t' := s1.toks) k2
  have fr : ∀ j, fq X pins H1 (s1.heap.objs.size + j) := fun j => I1.fpOk (Nat.le_add_right _ _) (I1.hok.fresh (Nat.le_add_right _ _))
  refine ⟨s1.heap.objs.size + 4, [s1.heap.objs.size + 4, s1.heap.objs.size + 2, s1.heap.objs.size + 3, s1.heap.objs.size, s1.heap.objs.size + 1], _, _, H1, rfl, I2, vk κ κ' ta tb _ _ _ _ _ Z.ap, ⟨Z.rd, Z.ins, Z.out, Z.fst.1, Z.snd.1⟩, fun c hc => ?_, q _ H1 sm ?_⟩
  . simp only [List.mem_cons, List.not_mem_nil, or_false] at hc
    rcases hc with rfl | rfl | rfl | rfl | rfl
    . exact fr 4
    . exact fr 2
    . exact fr 3
    . exact fr 0
    . exact fr 1
  . intro i H2 st
    have rl' : ag X.K H1 (Kd ow H k H1) l xs := rl.flat _ hf
    have rm' : ag X.K H1 (Kd ow H k H1) m ys := rm.flat _ hm
    refine ⟨fun d hd => ?_, fun hle => ?_⟩
    . rw [List.getElem?_zipWith] at hd
      cases e : l[i]? with
      | none => rw [e] at hd; cases hd
      | some x =>
        cases e' : m[i]? with
        | none => rw [e, e'] at hd; cases hd
        | some y =>
          rw [e, e'] at hd; cases hd
          obtain ⟨u, hu, ru⟩ := rl'.get e
          obtain ⟨v, hv, rv⟩ := rm'.get e'
          refine ⟨⟨xs, ys, u, v, hk1 st, hu, hk2 st, hv⟩, fun x' H3 ⟨p', u', v', e1, e2, e3, e4, e5⟩ => ?_⟩
          have c1 := e4 xs (hk1 st)
          have c2 := e5 ys (hk2 st)
          rw [hu] at c1; cases c1
          rw [hv] at c2; cases c2
          subst e1 e3
          have sm3 := cy (o := HO.tup [u, v]) e2
          refine ⟨sm3, ?_⟩
          rw [ah]
          exact ⟨p', _, rfl, ck.of aO, ag.cons ((ru.mono st).same sm3) (ag.one ((rv.mono st).same sm3))⟩
    . rw [List.length_zipWith] at hle
      have l1 := rl.length
      have l2 := rm.length
      exact ⟨xs, ys, hk1 st, hk2 st, by omega⟩
theorem sV {x : D} {l : List D} (h : eh x = some l) : ∃ κ, x = jF κ l := by
  rcases eQ h with rfl | rfl
  . exact ⟨true, rfl⟩
  . exact ⟨false, rfl⟩
theorem By : jl "zip" yg := by
  refine ⟨by decide +kernel, fun X ρ p pos args ds k d j l tg o hc hg hm ha hst hlen h hp hl ht => ?_⟩
  have ht2 : gG tg = true := by simpa [eD] using ht
  obtain ⟨es, n1, tp, rfl⟩ := oV ht2
  unfold yg at h
  split at h
  . cases h
    cases hl
    match args, hlen, ha, hst with
    | [a', b'], _, ha, hst => exact D6 hg hm ha hst hp.1 hp.2.1
  . split at h
    . rename_i x y _ a b e1 e2
      cases h
      cases hl
      obtain ⟨κ, rfl⟩ := sV e1
      obtain ⟨κ', rfl⟩ := sV e2
      match args, hlen, ha, hst with
      | [a', b'], _, ha, hst => exact Bv hg hm ha hst hp.1 hp.2.1
    . cases h
  . cases h
end Sp
set_option Elab.async false
set_option linter.all false
set_option maxRecDepth 100000
namespace Sp
open PySem PySem.Spec PyProof.Rows L2
open AutoSeq1 (wpAny_loadPart')
variable {X : Cx}
theorem BN (tu : Addr) (vs : Array Value) (n : Nat) (dc : Option Addr) (so : Array (Option Value)) :
    Meets (Builtin.«enumerate.__new__» ⟨[.type "enumerate", .ref tu], []⟩) (fun _ R st => st.heap.get? tu = some { cls := .type "list", dict := dc, data := .seq vs n, slots := so } /\
      R (.ok (.ret (.ref (st.heap.push { cls := .type "list_iterator", data := .fields #[.ref tu, .int 0 0] }).objs.size)))
        { st with heap := (st.heap.push { cls := .type "list_iterator", data := .fields #[.ref tu, .int 0 0] }).push { cls := .type "enumerate", data := .fields #[.none, .bool false, .ref st.heap.objs.size, rawInt 0, .none, .none] } }) :=
  .of_wp fun pg wd AA RR st hh => by
    obtain ⟨hp0, gg, dd, tk0, oo⟩ := st; obtain ⟨htu, hh⟩ := hh
    have hsub0 := sub_enumerate
    have hTT : Heap.IsList (Shared.heap ⟨hp0, gg, dd, tk0, oo⟩) tu vs := ⟨_, htu, rfl, n, rfl⟩
    wp_walk using wpAny_loadPart' htu
    refine wpAny_stack_any fun stk0 => wpAny_pure ?_
    split
    . rename_i c0 _ _ _ _ _
      cases (c0 == Value.type "enumerate")
      . wp_walk using wpAny_loadPart' htu, wpAny_pyIter_list hTT
        exact ⟨_, rfl, hh⟩
      . wp_walk using wpAny_loadPart' htu, wpAny_pyIter_list hTT
        exact ⟨_, rfl, hh⟩
    . wp_walk using wpAny_loadPart' htu, wpAny_pyIter_list hTT
      exact ⟨_, rfl, hh⟩
section
variable {prog : Program} {w : World} {A : Around} {E : Value -> Shared -> Prop} {s : Shared}
theorem yw {tu : Addr} {vs : Array Value} {Q : Value -> Shared -> Prop} (hT : s.heap.IsList tu vs)
    (go : ∀ h1, IsEnum h1 (s.heap.objs.size + 1) s.heap.objs.size 0 .none -> h1.IsListIter s.heap.objs.size tu 0 -> h1.objs.size = s.heap.objs.size + 2 -> (∀ b o, s.heap.get? b = some o -> h1.get? b = some o) -> Q (.ref (s.heap.objs.size + 1)) { s with heap := h1 }) :
    wpAny (model prog w) A (call (.type "enumerate") [.ref tu]) Q E s := by
  obtain ⟨⟨cc, dc, dt, so⟩, htu, hcc, n, hdd⟩ := hT
  replace hcc : cc = .type "list" := hcc
  replace hdd : dt = .seq vs n := hdd
  subst hcc hdd
  refine callType_new F.called_enumerate (by decide) (F.typeCall_enumerate_1 _) (F.newCall_enumerate_1 _) (fun ob => F.args_object_init_2 ob _) F.entry_enumerate_new (BN tu vs n dc so) ⟨htu, ?_⟩
  have sz : (s.heap.push { cls := .type "list_iterator", data := .fields #[.ref tu, .int 0 0] }).objs.size = s.heap.objs.size + 1 := Heap.size_push ..
  show _ /\ _
  rw [sz]
  have isE : IsEnum ((s.heap.push { cls := .type "list_iterator", data := .fields #[.ref tu, .int 0 0] }).push { cls := .type "enumerate", data := .fields #[.none, .bool false, .ref s.heap.objs.size, rawInt 0, .none, .none] }) (s.heap.objs.size + 1) s.heap.objs.size 0 .none := by
    have q := Heap.get?_push_size (s.heap.push { cls := .type "list_iterator", data := .fields #[.ref tu, .int 0 0] }) (o := { cls := .type "enumerate", data := .fields #[.none, .bool false, .ref s.heap.objs.size, rawInt 0, .none, .none] }) rfl
    rw [sz] at q; exact q
  refine ⟨⟨_, isE, rfl⟩, go _ isE ⟨_, Heap.get?_push_of_some _ (Heap.get?_push_size _ rfl), rfl, rfl⟩ (by rw [Heap.size_push, sz]) fun b o z => Heap.get?_push_of_some _ (Heap.get?_push_of_some _ z)⟩
theorem yv {e it tu : Addr} {i : Nat} {vs : Array Value} {x old : Value} {Q : Option Value -> Shared -> Prop} (isE : IsEnum s.heap e it i old) (hIt : s.heap.IsListIter it tu i) (hT : s.heap.IsList tu vs) (hx : vs[i]? = some x) (hne : e ≠ it)
    (go : ∀ h1, IsEnumOut h1 e it ((i : Int) + 1) x s.heap.objs.size -> h1.IsListIter it tu (i + 1) -> h1.get? s.heap.objs.size = some { cls := .type "tuple", data := .seq #[.int i s.toks, x] } -> (∀ b o, b ≠ e -> b ≠ it -> s.heap.get? b = some o -> h1.get? b = some o) -> Q (some (.ref s.heap.objs.size)) { s with heap := h1, toks := s.toks + 1 }) :
    wpAny (model prog w) A (pyNext (.ref e)) Q E s := by
  have tyE : s.TypeIs (.ref e) "enumerate" := ⟨_, isE, rfl⟩
  unfold pyNext
  refine wpAny_bind (wpAny_attempt (wpAny_callSpecial?_slot (name := Str.ofString "__next__") tyE F.slot_enumerate_next (wpAny_call_entry F.slot_enumerate_next tyE F.entry_enumerate_next ?_ (F.args_enumerate_next_1 _))))
  exact tX (Kn := fun h1 => h1.IsListIter it tu (i + 1)) isE hne (fun h1 h2 k hk => k.at hk) (fun Q1 q1 => wpAny_nextOf_list_item hIt hT hx q1) fun h1 a b c d => wpAny_pure (go h1 a b c d)
theorem BP {e it tu : Addr} {i : Nat} {vs : Array Value} {old : Value} {Q : Option Value -> Shared -> Prop} (hh : A.handled = none) (isE : IsEnum s.heap e it i old) (hIt : s.heap.IsListIter it tu i) (hT : s.heap.IsList tu vs) (hx : vs[i]? = none)
    (go : ∀ h1, Heap.ExtBut it s.heap h1 -> Q none { s with heap := h1 }) : wpAny (model prog w) A (pyNext (.ref e)) Q E s := by
  have tyE : s.TypeIs (.ref e) "enumerate" := ⟨_, isE, rfl⟩
  unfold pyNext
  refine wpAny_bind (wpAny_attempt (wpAny_callSpecial?_slot (name := Str.ofString "__next__") tyE F.slot_enumerate_next (wpAny_call_entry F.slot_enumerate_next tyE F.entry_enumerate_next ?_ (F.args_enumerate_next_1 _))))
  show wpAny _ _ (field (.ref e) 2 >>= _) _ _ _
  refine wpAny_bind (wpAny_field isE rfl (x := Value.ref it) rfl (wpAny_bind (wpAny_nextOf_list_end hh hIt hT hx fun h1 xx eb hx' => ?_)))
  obtain ⟨o, ho, hc⟩ := hx'
  exact wpAny_bind (wpAny_isInstance (T := "StopIteration") (b := true) ⟨o, ho, hc⟩ isSubtype_stop (wpAny_pure (go _ eb)))
end
def NV (K : W.Frag) (a : Addr) : It :=
  ⟨fun i H => ∃ xs x, cm K H a xs /\ xs[i]? = some x, fun i H x H' => ∃ p v, x = .ref p /\ H p = none /\ H' = aV H p (.tup [.int (i : Nat), v]) /\ ∀ xs, cm K H a xs -> xs[i]? = some v, fun i H => ∃ xs, cm K H a xs /\ xs.length <= i⟩
theorem ud {P : Program} {w : World} {K : W.Frag} {es : List Expr} {n1 : Nat} {pos : Pos} (a e it : Addr) (hne : e ≠ it) :
    L2.Turn P w K (.Tuple es n1 pos) (NV K a) [e, it] e (fun i h => (∃ old, IsEnum h e it ((i : Nat) : Int) old) /\ h.IsListIter it a i) where
  mem := by simp
  obj := fun i h st b hb => by
    obtain ⟨⟨old, q⟩, o, q2, c, d⟩ := st
    rcases List.mem_cons.mp hb with rfl | hb
    . exact ⟨_, q, fun v z => by have z' : Data.fields _ = Data.cell v := z; cases z'⟩
    . have eb : b = it := by simpa using hb
      subst eb
      exact ⟨o, q2, fun v z => by rw [d] at z; cases z⟩
  keep := fun i h h' st k => ⟨let ⟨old, q⟩ := st.1; ⟨old, k e (by simp) _ q⟩, st.2.at fun o q => k it (by simp) o q⟩
  item := by
    intro Y hP hw hK hc i pins s σ H E I hf st hg
    subst hP hw hK
    obtain ⟨xs, x, hq, hx⟩ := hg
    obtain ⟨its, rv, p, hz⟩ := I.list hq
    obtain ⟨u, hu, ru⟩ := rv.get hx
    obtain ⟨⟨old, isE⟩, hIt⟩ := st
    refine yv isE hIt (show s.heap.IsList a its.toArray from p.isList) (x := u) (by simpa using hu) hne fun h1 eo it1 t1 k1 => ?_
    refine ⟨_, rfl, wpAny_letOwnedTupleGo_enum eo fun h2 e2 sb2 => ?_⟩
    have sb2' : Heap.SameBut e h1 h2 := sb2
    have elt : e < s.heap.objs.size := Heap.lt_size isE
    have k2 : ∀ b o, b ∉ [e, it] -> s.heap.get? b = some o -> h2.get? b = some o := fun b o nb q => by
      have n1 : b ≠ e := fun z => nb (by simp [z])
      have n2 : b ≠ it := fun z => nb (by simp [z])
      exact sb2'.extBut b o n1 (k1 b o n1 n2 q)
    have t2 : h2.get? s.heap.objs.size = some { cls := .type "tuple", data := .seq #[.int i s.toks, u] } := sb2'.extBut _ _ (Nat.ne_of_gt elt) t1
    have hn0 : H s.heap.objs.size = none := I.hok.fresh (Nat.le_refl _)
    refine ⟨.ref s.heap.objs.size, aV H s.heap.objs.size (.tup [.int (i : Nat), x]), hJ (s := s) (h2 := h2) (t2 := s.toks + 1) I k2 (Nat.le_refl _) hf ?_, rfl, ⟨_, x, rfl, hn0, rfl, fun ys hy => by rw [I.list_inj hy hq]; exact hx⟩, ⟨⟨u, ?_⟩, it1.at fun o q => sb2'.extBut it o (Ne.symm hne) q⟩, fun b hb => ?_⟩
    . exact ⟨by show 2 <= sizeLine; decide, [.int i s.toks, u], .cons ⟨_, rfl⟩ (.cons ru .nil), ⟨_, t2, rfl, _, rfl⟩⟩
    . have q := e2
      rw [show ((i : Nat) : Int) + 1 = ((i + 1 : Nat) : Int) by omega] at q
      exact q
    . have hb' := hf b hb
      have lt : b < s.heap.objs.size := by
        rcases List.mem_cons.mp hb with rfl | hb
        . exact elt
        . have eb : b = it := by simpa using hb
          subst eb
          obtain ⟨o, q, _⟩ := hIt
          exact Heap.lt_size q
      rw [aH (Nat.ne_of_lt lt)]; exact hb'.1
  done := by
    intro Y hP hw hK hc i pins s σ H E I hf st hg
    subst hP hw hK
    obtain ⟨xs, hq, hx⟩ := hg
    obtain ⟨its, rv, p, hz⟩ := I.list hq
    obtain ⟨⟨old, isE⟩, hIt⟩ := st
    obtain ⟨f0, f1, f2, f3, f4, f5⟩ := hf it (by simp)
    have hl := rv.length
    exact BP (I.ok.hd hc) isE hIt (show s.heap.IsList a its.toArray from p.isList) (by simp; omega) fun h1 eb => ⟨rfl, I.turned (t' := s.toks) (fun b o hb q => eb b o hb q) f0 f1 f3 f4 f5⟩
  self := fun _ _ _ _ _ st h => let ⟨old, q⟩ := st.1; wpAny_pyIter_enum q h
theorem yf {ρ : aj} {es : List Expr} {n1 : Nat} {tp p pos : Pos} {a : Expr} {l : List D} {k : Nat} (hg : Gl X "enumerate") (hm0 : X.mg "enumerate" = none) (ha : AD X ρ [a] [.lst l] k) (hst : ∀ y p, a ≠ .Starred y p) (hf : ao l = true) :
    IE X ρ (.Tuple es n1 tp) (.Call (.Name "enumerate" p) [a] [] pos) (l.mapIdx fun i x => .tup [.int (i : Nat), x]) k := by
  intro ow pins s σ H R I ⟨E, q⟩
  refine Call_ (dC I hg hm0 (show bootBuiltins "enumerate" = some (.type "enumerate") by decide +kernel) (PyProof.Rows.callWith_type1 (aN (ha ow pos pins s σ H (fun vs H1 => aD H H1 /\ ag X.K H1 (Kp ow H k) [.lst l] vs) I ⟨E, fun vs H1 s1 r1 => ⟨s1, r1⟩⟩) fun us s1 ⟨vs, H1, I1, rv, sm, rp⟩ => ?_) (bj hst) rfl) (by decide +kernel) (by decide +kernel))
  obtain ⟨v, rfl, rv1⟩ := rp.only
  obtain ⟨ta, xs, rfl, hq, rl, hk1⟩ := jD (κ := false) rv1
  replace hq : cm X.K H1 ta xs := hq
  obtain ⟨u, rfl, ru⟩ := d8 rv
  cases (show u = Value.ref ta from ru)
  obtain ⟨its, rvs, pt, hz⟩ := I1.list hq
  refine yw (show s1.heap.IsList ta its.toArray from pt.isList) fun h2 isE hIt sz k2 => ?_
  refine wpAny_pyIter_enum isE ?_
  have I2 : ak X pins σ H1 { s1 with heap := h2 } := I1.kept (t' := s1.toks) k2
  have f0 : H1 s1.heap.objs.size = none := I1.hok.fresh (Nat.le_refl _)
  have f1 : H1 (s1.heap.objs.size + 1) = none := I1.hok.fresh (Nat.le_succ _)
  refine ⟨s1.heap.objs.size + 1, [s1.heap.objs.size + 1, s1.heap.objs.size], _, _, H1, rfl, I2, ud ta _ _ (Nat.ne_of_gt (Nat.lt_succ_self _)), ⟨⟨_, isE⟩, hIt⟩, fun b hb => ?_, q _ H1 sm ?_⟩
  . rcases List.mem_cons.mp hb with rfl | hb
    . exact I1.fpOk (Nat.le_succ _) f1
    . have eb : b = s1.heap.objs.size := by simpa using hb
      subst eb
      exact I1.fpOk (Nat.le_refl _) f0
  . intro i H2 st
    have rl' : ag X.K H1 (Kd ow H k H1) l xs := rl.flat _ hf
    refine ⟨fun d hd => ?_, fun hle => ?_⟩
    . rw [List.getElem?_mapIdx] at hd
      cases e : l[i]? with
      | none => rw [e] at hd; cases hd
      | some x =>
        rw [e] at hd; cases hd
        obtain ⟨y, hy, ry⟩ := rl'.get e
        refine ⟨⟨xs, y, hk1 st, hy⟩, fun x' H3 ⟨p', v', e1, e2, e3, e4⟩ => ?_⟩
        have hv := e4 xs (hk1 st)
        rw [hy] at hv; cases hv
        subst e1 e3
        have sm3 := cy (o := HO.tup [.int (i : Nat), y]) e2
        refine ⟨sm3, ?_⟩
        rw [ah]
        exact ⟨p', _, rfl, ck.of aO, ag.cons (by rw [ah]) (ag.one ((ry.mono st).same sm3))⟩
    . rw [List.length_mapIdx] at hle
      exact ⟨xs, hk1 st, by rw [<- rl.length]; exact hle⟩
theorem yi : jl "enumerate" uL := by
  refine ⟨by decide +kernel, fun X ρ p pos args ds k d j l tg o hc hg hm ha hst hlen h hp hl ht => ?_⟩
  unfold uL at h
  have ht2 : gG tg = true := by simpa [eD] using ht
  obtain ⟨es, n1, tp, rfl⟩ := oV ht2
  split at h
  . cases h
    cases hl
    match args, hlen, ha, hst with
    | [a'], _, ha, hst => rw [lg]; simp only [Nat.zero_add]; exact Bx hg hm ha (hst a' List.mem_cons_self) hp.1
  . cases h
    cases hl
    match args, hlen, ha, hst with
    | [a'], _, ha, hst => rw [lg]; simp only [Nat.zero_add]; exact yf hg hm ha (hst a' List.mem_cons_self) hp.1
  . cases h
end Sp
set_option Elab.async false
set_option linter.all false
set_option maxRecDepth 100000
namespace Sp
open PySem PySem.Spec PyProof.Rows L2
open PySem.W (KasT kas_sort kas_ask KatLex KatTups kat_sorted kat_kind kat_lt kat_cons kat_nil kat_go kat_yes kat_no kat_one KasFin)
section
variable {prog : Program} {w : World} {A : Around} {E : Value -> Shared -> Prop} {s : Shared}
end
variable {X : Cx}
end Sp
set_option Elab.async false
set_option linter.all false
set_option maxRecDepth 100000
namespace Sp
open PySem PySem.Spec PyProof.Rows L2
theorem cq {α : Type} {r : Rs α} {a : α} {l : List Prop} (h : r = .ok a l) (hp : aE l) : aa r a := ⟨l, h, hp⟩
theorem aa.eq {α : Type} {r : Rs α} {a b : α} (h : aa r a) (e : a = b) : aa r b := e ▸ h
theorem aa.bnd {α β : Type} {r : Rs α} {f : α -> Rs β} {a : α} {b : β} (h1 : aa r a) (h2 : aa (f a) b) : aa (r.bnd f) b := by
  obtain ⟨l, rfl, p1⟩ := h1
  obtain ⟨m, h2, p2⟩ := h2
  refine ⟨l ++ m, ?_, df.mpr ⟨p1, p2⟩⟩
  show (match f a with | .st => (.st : Rs β) | .ok b m => Rs.ok b (l ++ m)) = _
  rw [h2]
theorem aa.inj {α : Type} {r : Rs α} {a b : α} (h : aa r a) (g : aa r b) : a = b := by
  obtain ⟨l, h, _⟩ := h; obtain ⟨m, g, _⟩ := g; rw [h] at g; cases g; rfl
section
variable {Φ : Fx} {sc : Scope} {ρ ρ' : aj} {fl : Fl} {ss : List Stmt}
theorem cj {ps : List Str} {body : List Stmt} {ds : List D} {d : D} (h : aa (az Φ body sc (fh ps ds)) (.rt d)) (hl : ds.length = ps.length := by rfl) : aa (bD Φ sc ps body ds) d := by
  unfold bD; rw [if_pos hl]; exact h.bnd ⟨[], rfl, True.intro⟩
theorem eH : aa (az Φ [] sc ρ) (.nx ρ) := ⟨[], rfl, True.intro⟩
theorem ci {s : Stmt} (h : aa (du Φ s sc ρ) (.nx ρ')) (h2 : aa (az Φ ss sc ρ') fl) : aa (az Φ (s :: ss) sc ρ) fl := aa.bnd h h2
theorem jC {s : Stmt} (h : aa (du Φ s sc ρ) fl) (hf : ∀ ρ, fl ≠ .nx ρ) : aa (az Φ (s :: ss) sc ρ) fl := aa.bnd h (by
  cases fl with
  | nx ρ => exact absurd rfl (hf ρ)
  | rt d => exact ⟨[], rfl, True.intro⟩
  | bk ρ => exact ⟨[], rfl, True.intro⟩
  | ct ρ => exact ⟨[], rfl, True.intro⟩)
theorem fb {s : Stmt} {d : D} (h : aa (du Φ s sc ρ) (.rt d)) : aa (az Φ (s :: ss) sc ρ) (.rt d) := jC h fun _ z => by cases z
theorem qi {s : Stmt} (h : aa (az Φ (s :: ss) sc ρ) fl) : (∃ ρ', aa (du Φ s sc ρ) (.nx ρ') /\ aa (az Φ ss sc ρ') fl) \/ ((∀ ρ, fl ≠ .nx ρ) /\ aa (du Φ s sc ρ) fl) := by
  obtain ⟨f, h1, h2⟩ := av (show aa (Rs.bnd _ _) fl from h)
  cases f with
  | nx ρ' => exact .inl ⟨ρ', h1, h2⟩
  | rt d => cases aI h2; exact .inr ⟨fun _ z => (by cases z), h1⟩
  | bk ρ => cases aI h2; exact .inr ⟨fun _ z => (by cases z), h1⟩
  | ct ρ => cases aI h2; exact .inr ⟨fun _ z => (by cases z), h1⟩
theorem wP : ∀ {a : List Stmt} {ρ : aj}, aa (az Φ a sc ρ) (.nx ρ') -> aa (az Φ ss sc ρ') fl -> aa (az Φ (a ++ ss) sc ρ) fl
  | [], ρ, h, h2 => by cases aI h; exact h2
  | s :: a, ρ, h, h2 => by
    rcases qi h with ⟨ρ1, h3, h4⟩ | ⟨h3, _⟩
    . exact ci h3 (wP h4 h2)
    . exact absurd rfl (h3 _)
theorem oA : ∀ {a : List Stmt} {ρ : aj}, aa (az Φ (a ++ ss) sc ρ) fl -> (∃ ρ', aa (az Φ a sc ρ) (.nx ρ') /\ aa (az Φ ss sc ρ') fl) \/ ((∀ ρ, fl ≠ .nx ρ) /\ aa (az Φ a sc ρ) fl)
  | [], ρ, h => .inl ⟨ρ, eH, h⟩
  | s :: a, ρ, h => by
    rcases qi h with ⟨ρ1, h3, h4⟩ | ⟨h3, h4⟩
    . rcases oA h4 with ⟨ρ2, h5, h6⟩ | ⟨h5, h6⟩
      . exact .inl ⟨ρ2, ci h3 h5, h6⟩
      . exact .inr ⟨h5, ci h3 h6⟩
    . exact .inr ⟨h3, jC h4 h3⟩
theorem bi (n : Nat) (h : aa (az Φ (ss.take n) sc ρ) (.nx ρ')) (h2 : aa (az Φ (ss.drop n) sc ρ') fl) : aa (az Φ ss sc ρ) fl := by
  rw [<- List.take_append_drop n ss]; exact wP h h2
theorem kG {c : Expr} {a b : List Stmt} {p : Pos} {t : Bool} {k : Nat} (hc : aa (ay Φ c false sc ρ) (.bl t, k)) (h1 : t = true -> aa (az Φ (a ++ ss) sc ρ) fl) (h2 : t = false -> aa (az Φ (b ++ ss) sc ρ) fl) : aa (az Φ (.If c a b p :: ss) sc ρ) fl := by
  have key : ∀ x, aa (cond t (az Φ a sc ρ) (az Φ b sc ρ)) x -> aa (du Φ (.If c a b p) sc ρ) x := fun x hx => aa.bnd hc hx
  cases t with
  | true =>
    rcases oA (h1 rfl) with ⟨ρ1, h3, h4⟩ | ⟨h3, h4⟩
    . exact ci (key _ h3) h4
    . exact jC (key _ h4) h3
  | false =>
    rcases oA (h2 rfl) with ⟨ρ1, h3, h4⟩ | ⟨h3, h4⟩
    . exact ci (key _ h3) h4
    . exact jC (key _ h4) h3
theorem iE {c : Expr} {a b : List Stmt} {p : Pos} {t : Bool} {k : Nat} (hc : aa (ay Φ c false sc ρ) (.bl t, k)) (ht : t = true) (h1 : aa (az Φ (a ++ ss) sc ρ) fl) : aa (az Φ (.If c a b p :: ss) sc ρ) fl := kG hc (fun _ => h1) fun z => by rw [ht] at z; cases z
theorem cn {c : Expr} {a b : List Stmt} {p : Pos} {t : Bool} {k : Nat} (hc : aa (ay Φ c false sc ρ) (.bl t, k)) (ht : t = false) (h1 : aa (az Φ (b ++ ss) sc ρ) fl) : aa (az Φ (.If c a b p :: ss) sc ρ) fl := kG hc (fun z => by rw [ht] at z; cases z) fun _ => h1
theorem jW {tg it : Expr} {body : List Stmt} {p : Pos} {d : D} {ds : List D} {k : Nat} (hi : aa (ay Φ it true sc (demote it ρ)) (d, k)) (hd : items d = some ds) (hk : k <= 1) (ht : eD it tg = true) (h : aa (cR (bJ sc tg) (az Φ body sc) ds (demote it ρ)) fl) : aa (du Φ (.For tg it body [] p) sc ρ) fl := by
  rw [oq, if_pos (show List.isEmpty ([] : List Stmt) = true from rfl)]
  refine hi.bnd ?_
  dsimp only
  rw [hd]
  dsimp only
  rw [if_pos ⟨hk, ht⟩]
  exact h
theorem rf {c : Expr} {body : List Stmt} {p : Pos} (h : aa (lF (fun ρ => (ay Φ c false sc ρ).bnd fun p => ib p fun b => .ok b []) (az Φ body sc) bI ρ) fl) : aa (du Φ (.While c body [] p) sc ρ) fl := by
  rw [rh, if_pos (show List.isEmpty ([] : List Stmt) = true from rfl)]; exact h
theorem bn {f : Str} {p q : Pos} {args : List Expr} {it : Bool} {ds : List D} {k : Nat} {F : List D -> Rs D} {v : D} (ha : aa (cx Φ args sc ρ) (ds, k)) (hv : aa (F ds) v) (hF : Φ.fn f = some F := by rfl) (hg : sc.names.lookup f = some .globalImplicit := by rfl) : aa (ay Φ (.Call (.Name f p) args [] q) it sc ρ) (v, 0) := by
  rw [jc, if_pos hg]
  refine ha.bnd ?_
  unfold li
  rw [hF]
  exact hv.bnd ⟨[], rfl, True.intro⟩
theorem cP : aa (cx Φ [] sc ρ) ([], 0) := ⟨[], rfl, True.intro⟩
theorem bf {e : Expr} {es : List Expr} {d : D} {ds : List D} {k j : Nat} (h : aa (ay Φ e false sc ρ) (d, k)) (h2 : aa (cx Φ es sc ρ) (ds, j)) : aa (cx Φ (e :: es) sc ρ) (d :: ds, kj k j) := aa.bnd h (aa.bnd h2 ⟨[], rfl, True.intro⟩)
theorem BJ {elt tg iter : Expr} {ifs : List Expr} {scope : Scope} {p : Pos} {it : Bool} {d : D} {ds out : List D} {k j : Nat} (hi : aa (ay Φ iter true sc ρ) (d, k)) (hd : items d = some ds) (hl : ds.length <= bI /\ (ao ds = true \/ k <= 1))
    (h : aa (gc (fun d => match bJ scope tg d (flt scope ρ) with
            | none => .st
            | some ρ' => (dl Φ .And ifs scope ρ').bnd fun b => cond b ((ay Φ elt false scope ρ').bnd fun r => .ok (some r) []) (.ok none [])) ds) (out, j)) (hj : j <= 1) (hc : nD sc scope = true := by rfl) (ht : eD iter tg = true := by rfl) : aa (ay Φ (.ListComp elt [⟨tg, iter, ifs, 0⟩] scope p) it sc ρ) (.lst out, j) := by
  rw [ou, if_pos hc]
  refine hi.bnd ?_
  dsimp only
  rw [hd]
  dsimp only
  rw [if_pos ht]
  refine aa.bnd (a := ()) ⟨_, rfl, hl.1, hl.2, True.intro⟩ ?_
  refine h.bnd ?_
  rw [if_pos hj]
  exact ⟨[], rfl, True.intro⟩
theorem ia {a i : Expr} {p : Pos} {it : Bool} {x d : D} {l : List D} {j : Int} {k k2 : Nat} (ha : aa (ay Φ a false sc ρ) (x, k)) (hi : aa (ay Φ i false sc ρ) (.int j, k2)) (hx : eh x = some l) (hd : L2.atI l j = some d) : aa (ay Φ (.Subscript a i p) it sc ρ) (d, kn d k) := by
  have key : aa ((ay Φ a false sc ρ).bnd fun p => (ay Φ i false sc ρ).bnd fun q => iW p q) (d, kn d k) := by
    refine ha.bnd (hi.bnd ?_)
    rcases eQ hx with rfl | rfl
    . show aa (qN (.tup l) j k) _
      unfold qN
      rw [hx]; dsimp only
      rw [hd]; exact ⟨[], rfl, True.intro⟩
    . show aa (qN (.lst l) j k) _
      unfold qN
      rw [hx]; dsimp only
      rw [hd]; exact ⟨[], rfl, True.intro⟩
  cases i with
  | Slice lo hi st p2 => exact (ar hi).elim
  | _ => exact key
theorem bX {e : Expr} {x : Str} {p q : Pos} {d : D} (h : aa (ay Φ e false sc ρ) (d, 0)) (hx : dJ sc x = true := by rfl) : aa (du Φ (.Assign [.Name x p] e q) sc ρ) (.nx (bR ρ x (d, true))) := by
  refine aa.bnd h ?_
  unfold nY
  rw [if_pos hx]
  exact ⟨[], rfl, True.intro⟩
theorem eM {e : Expr} {q : Pos} {d : D} {k : Nat} (h : aa (ay Φ e false sc ρ) (d, k)) (hk : k = 0 \/ k = 2 := by exact .inl rfl) (hn : zH e = false := by rfl) : aa (du Φ (.Return (some e) q) sc ρ) (.rt d) := by
  refine aa.bnd h ?_
  unfold uk
  rw [if_pos hk]
  exact ⟨[], rfl, True.intro⟩
end
theorem mj {bind : D -> aj -> Option aj} {body : aj -> Rs Fl} (ak : List D -> aj -> Prop) (step : ∀ d l ρ, ak (d :: l) ρ -> ∃ ρ1 ρ2, bind d ρ = some ρ1 /\ (aa (body ρ1) (.nx ρ2) \/ aa (body ρ1) (.ct ρ2)) /\ ak l ρ2) : ∀ {ds : List D} {ρ : aj}, ak ds ρ -> ∃ ρ', aa (cR bind body ds ρ) (.nx ρ') /\ ak [] ρ'
  | [], ρ, h => ⟨ρ, ⟨[], rfl, True.intro⟩, h⟩
  | d :: l, ρ, h => by
    obtain ⟨ρ1, ρ2, h1, h2, h3⟩ := step d l ρ h
    obtain ⟨ρ', h4, h5⟩ := mj ak step h3
    refine ⟨ρ', ?_, h5⟩
    show aa (match bind d ρ with | none => (.st : Rs Fl) | some ρ1 => (body ρ1).bnd (gY (cR bind body l))) _
    rw [h1]
    rcases h2 with h2 | h2
    . exact h2.bnd h4
    . exact h2.bnd h4
theorem tR {bind : D -> aj -> Option aj} {body : aj -> Rs Fl} (ak : List D -> aj -> Prop) (R : D -> Prop) (step : ∀ d l ρ, ak (d :: l) ρ -> ∃ ρ1, bind d ρ = some ρ1 /\ ((∃ ρ2, (aa (body ρ1) (.nx ρ2) \/ aa (body ρ1) (.ct ρ2)) /\ ak l ρ2) \/ ∃ r, aa (body ρ1) (.rt r) /\ R r)) : ∀ {ds : List D} {ρ : aj}, ak ds ρ -> (∃ ρ', aa (cR bind body ds ρ) (.nx ρ') /\ ak [] ρ') \/ ∃ r, aa (cR bind body ds ρ) (.rt r) /\ R r
  | [], ρ, h => .inl ⟨ρ, ⟨[], rfl, True.intro⟩, h⟩
  | d :: l, ρ, h => by
    obtain ⟨ρ1, h1, h2⟩ := step d l ρ h
    have key : cR bind body (d :: l) ρ = (body ρ1).bnd (gY (cR bind body l)) := by
      show (match bind d ρ with | none => (.st : Rs Fl) | some ρ1 => (body ρ1).bnd (gY (cR bind body l))) = _
      rw [h1]
    rw [key]
    rcases h2 with ⟨ρ2, h2, h3⟩ | ⟨r, h2, h3⟩
    . have go : ∀ x, aa (cR bind body l ρ2) x -> aa ((body ρ1).bnd (gY (cR bind body l))) x := fun x hx => by
        rcases h2 with h2 | h2
        . exact h2.bnd hx
        . exact h2.bnd hx
      rcases tR ak R step h3 with ⟨ρ', h4, h5⟩ | ⟨r, h4, h5⟩
      . exact .inl ⟨ρ', go _ h4, h5⟩
      . exact .inr ⟨r, go _ h4, h5⟩
    . exact .inr ⟨r, h2.bnd ⟨[], rfl, True.intro⟩, h3⟩
theorem j5 {α : Type} {step : D -> Rs (Option (D × Nat))} {g : α -> D} {f : α -> D} {c : α -> Bool} : ∀ {l : List α}, (∀ x ∈ l, aa (step (g x)) (cond (c x) (some (f x, 0)) none)) -> aa (gc step (l.map g)) ((l.filter c).map f, 0)
  | [], _ => ⟨[], rfl, True.intro⟩
  | x :: l, h => by
    have h1 := h x List.mem_cons_self
    have h2 := j5 (c := c) fun y hy => h y (List.mem_cons_of_mem _ hy)
    cases e : c x with
    | true =>
      rw [e] at h1
      rw [List.filter_cons_of_pos e]
      exact aa.bnd h1 (aa.bnd h2 ⟨[], rfl, True.intro⟩)
    | false =>
      rw [e] at h1
      rw [List.filter_cons_of_neg (by rw [e]; decide)]
      exact aa.bnd h1 (aa.bnd h2 ⟨[], rfl, True.intro⟩)
theorem fz {a b : Int} (h : a.natAbs < 18446744073709551616) : bH a b := .inl h
theorem tz {a b : Int} (h : b.natAbs < 18446744073709551616) : bH a b := .inr (.inl h)
theorem bL {a b : Int} (h : a.natAbs < cO) (g : b.natAbs < cO) : bH a b := .inr (.inr (.inl ⟨h, g⟩))
theorem FB {n : Nat} (h : n < 2 ^ 64) : n < cO := Nat.lt_of_lt_of_le h (Nat.pow_le_pow_right (by decide) (by decide))
theorem BY {b : Int} (h0 : b ≠ 0) (h : b.natAbs < 18446744073709551616) : gb b := ⟨h0, FB h⟩
theorem Cd {ns : List Int} {i : Int} (h0 : 0 <= i) (h1 : i < ns.length) : L2.atI (ns.map D.int) i = some (.int (ns.getD i.toNat 0)) := by
  obtain ⟨j, rfl⟩ := Int.eq_ofNat_of_zero_le h0
  have hj : j < ns.length := by omega
  have := t5 (xs := ns.map D.int) (j := j) (v := .int (ns.getD j 0)) (by simp [hj])
  simpa using this
theorem yS : aE [] := True.intro
theorem uY {l m : List Prop} (h : aE l) (g : aE m) : aE (l ++ m) := df.mpr ⟨h, g⟩
theorem yR {p : Prop} (h : p) : aE [p] := ⟨h, True.intro⟩
theorem sF {p : Prop} {l : List Prop} (h : p) (g : aE l) : aE (p :: l) := ⟨h, g⟩
end Sp
set_option Elab.async false
set_option linter.all false
set_option maxRecDepth 100000
namespace Sp
open PySem PySem.Spec PyProof.Rows L2
def Sub (C ρ : aj) : Prop := ∀ x y, C x = some y -> ρ x = some y
theorem Sub.refl (ρ : aj) : Sub ρ ρ := fun _ _ h => h
theorem Sub.trans {a b c : aj} (h : Sub a b) (g : Sub b c) : Sub a c := fun x y e => g x y (h x y e)
theorem Sub.put {C ρ : aj} (h : Sub C ρ) (x : Str) (y : D × Bool) : Sub (bR C x y) (bR ρ x y) := fun z w e => by
  rw [de] at e ⊢
  by_cases hz : z = x
  . rw [if_pos hz] at e ⊢; exact e
  . rw [if_neg hz] at e ⊢; exact h z w e
theorem Sub.flt {C ρ : aj} (h : Sub C ρ) (scope : Scope) : Sub (flt scope C) (flt scope ρ) := fun z w e => by
  obtain ⟨e1, e2⟩ := ja e
  unfold Sp.flt
  rw [if_pos e2]; exact h z w e1
theorem Sub.demX {C ρ : aj} (h : Sub C ρ) (x : Str) : Sub (demX x C) (demX x ρ) := by
  unfold Sp.demX
  intro z w hz
  by_cases hx : z = x
  . simp only [if_pos hx] at hz ⊢
    cases hc : C z with
    | none => rw [hc] at hz; cases hz
    | some q => rw [hc] at hz; rw [h z q hc]; exact hz
  . simp only [if_neg hx] at hz ⊢; exact h z w hz
theorem Sub.demA {C ρ : aj} (h : Sub C ρ) (x : Str) : Sub (demA x C) (demA x ρ) := by
  intro z w hz
  unfold Sp.demA at hz ⊢
  by_cases hx : z = x
  . simp only [if_pos hx] at hz ⊢
    cases hc : C z with
    | none => rw [hc] at hz; cases hz
    | some q => rw [hc] at hz; rw [h z q hc]; exact hz
  . simp only [if_neg hx] at hz ⊢; exact h z w hz
theorem Sub.demL : ∀ {es : List Expr} {C ρ : aj}, Sub C ρ -> Sub (demL es C) (demL es ρ)
  | [], _, _, h => h
  | e :: es, C, ρ, h => by
    cases e with
    | Name x p => exact Sub.demL (es := es) (h.demA x)
    | Subscript a i p =>
      cases a with
      | Name x q => exact Sub.demL (es := es) (h.demA x)
      | _ => exact Sub.demL (es := es) h
    | _ => exact Sub.demL (es := es) h
theorem Sub.demote {C ρ : aj} (h : Sub C ρ) (e : Expr) : Sub (demote e C) (demote e ρ) := by
  unfold Sp.demote
  split
  . exact h.demX _
  . exact h.demX _
  . exact h.demL
  . exact h
theorem oP {sc : Scope} : ∀ {es : List Expr} {ds : List D} {C C' ρ : aj}, aP sc es ds C = some C' -> Sub C ρ -> ∃ ρ', aP sc es ds ρ = some ρ' /\ Sub C' ρ' := by
  intro es
  induction es with
  | nil =>
    intro ds C C' ρ h s
    cases ds with
    | nil => cases h; exact ⟨ρ, rfl, s⟩
    | cons d ds => cases h
  | cons e es ih =>
    intro ds C C' ρ h s
    cases ds with
    | nil => cases e <;> cases h
    | cons d ds =>
      cases e with
      | Name z p =>
        rw [aP] at h ⊢
        split at h
        . rename_i hz
          rw [if_pos hz]
          exact ih h (s.put _ _)
        . cases h
      | _ => cases h
theorem qe {sc : Scope} {tg : Expr} {d : D} {C C' ρ : aj} (h : bJ sc tg d C = some C') (s : Sub C ρ) : ∃ ρ', bJ sc tg d ρ = some ρ' /\ Sub C' ρ' := by
  unfold bJ at h ⊢
  split at h
  . split at h
    . rename_i hx; cases h; exact ⟨_, if_pos hx, s.put _ _⟩
    . cases h
  . split at h
    . exact oP h s
    . cases h
  . cases h
theorem er {b : Bool} {m : List Prop} (h : b = true -> aE m) : aE (gd b m) := by
  cases m with
  | nil => exact True.intro
  | cons p l => exact ⟨h, True.intro⟩
theorem rR {b c : Bool} {r : Rs Bool} (h : b = true -> aa r c) (hf : b = false -> c = false) : aa (uX b r) c := by
  cases b with
  | true =>
    obtain ⟨m, rfl, hm⟩ := h rfl
    exact ⟨_, rfl, er fun _ => hm⟩
  | false =>
    rw [hf rfl]
    cases r with
    | ok c' m => exact ⟨_, rfl, er fun z => (by cases z)⟩
    | st => exact ⟨_, rfl, True.intro⟩
theorem uu {b c : Bool} {r : Rs Bool} (h : b = false -> aa r c) (hf : b = true -> c = true) : aa (zG b r) c := by
  cases b with
  | false =>
    obtain ⟨m, rfl, hm⟩ := h rfl
    exact ⟨_, rfl, er fun _ => hm⟩
  | true =>
    rw [hf rfl]
    cases r with
    | ok c' m => exact ⟨_, rfl, er fun z => (by cases z)⟩
    | st => exact ⟨_, rfl, True.intro⟩
theorem zP {t : Bool} {r s : R1} {d : D × Nat} (h : aa (if t = true then r else s) d) : aa (zQ t r s) d := by
  cases t with
  | true =>
    rw [if_pos rfl] at h
    obtain ⟨m, rfl, hm⟩ := h
    cases s with
    | ok q n => exact ⟨_, by show Rs.ok _ _ = Rs.ok _ _; rw [qG, zL], df.mpr ⟨er fun _ => hm, er fun z => (by cases z)⟩⟩
    | st => exact ⟨m, rfl, hm⟩
  | false =>
    rw [if_neg Bool.false_ne_true] at h
    obtain ⟨m, rfl, hm⟩ := h
    cases r with
    | ok q n => exact ⟨_, by show Rs.ok _ _ = Rs.ok _ _; rw [qH, zM], df.mpr ⟨er fun z => (by cases z), er fun _ => hm⟩⟩
    | st => exact ⟨m, rfl, hm⟩
theorem iy {α : Type} {p : D × Nat} {f : Bool -> Rs α} {a : α} {b : Bool} (h : p.1 = .bl b) (h2 : aa (f b) a) : aa (ib p f) a := by
  unfold ib; rw [h]; exact h2
theorem G0 {p : D × Nat} {f : Int -> R1} {a : D × Nat} {b : Int} (h : p.1 = .int b) (h2 : aa (f b) a) : aa (i6 p f) a := by
  unfold i6; rw [h]; exact h2
structure Mo (Φ : Fx) (n : Nat) : Prop where
  e : ∀ (e : Expr) {it : Bool} {sc : Scope} {C ρ : aj} {p : D × Nat}, sizeOf e < n -> aa (ay Φ e it sc C) p -> Sub C ρ -> aa (ay Φ e it sc ρ) p
  es : ∀ (es : List Expr) {sc : Scope} {C ρ : aj} {p : List D × Nat}, sizeOf es < n -> aa (cx Φ es sc C) p -> Sub C ρ -> aa (cx Φ es sc ρ) p
  b : ∀ (op : BoolOp) (es : List Expr) {sc : Scope} {C ρ : aj} {b : Bool}, sizeOf es < n -> aa (dl Φ op es sc C) b -> Sub C ρ -> aa (dl Φ op es sc ρ) b
  o : ∀ (e : Option Expr) {sc : Scope} {C ρ : aj} {o : Option Int}, sizeOf e < n -> aa (lK Φ e sc C) o -> Sub C ρ -> aa (lK Φ e sc ρ) o
theorem tF {step step2 : D -> Rs (Option (D × Nat))} (h : ∀ d r, aa (step d) r -> aa (step2 d) r) : ∀ {ds : List D} {q : List D × Nat}, aa (gc step ds) q -> aa (gc step2 ds) q
  | [], q, hq => hq
  | d :: ds, q, hq => by
    obtain ⟨r, h1, h2⟩ := av (show aa (Rs.bnd _ _) q from hq)
    obtain ⟨q1, h3, h4⟩ := av h2
    exact aa.bnd (h _ _ h1) (aa.bnd (tF h h3) h4)
section
variable {Φ : Fx} {n : Nat} {it : Bool} {sc : Scope} {C ρ : aj} {p : D × Nat}
theorem zK (I : Mo Φ n) {a i : Expr} {pos : Pos} (hs : sizeOf (Expr.Subscript a i pos) < n + 1) (h : aa ((ay Φ a false sc C).bnd fun p => (ay Φ i false sc C).bnd fun q => iW p q) p) (s : Sub C ρ) : aa ((ay Φ a false sc ρ).bnd fun p => (ay Φ i false sc ρ).bnd fun q => iW p q) p := by
  obtain ⟨x, h1, h⟩ := av h
  obtain ⟨y, h2, h⟩ := av h
  exact aa.bnd (I.e a (aX (by simp <;> omega) hs) h1 s) (aa.bnd (I.e i (aX (by simp <;> omega) hs) h2 s) h)
theorem Lo (I : Mo Φ n) (e : Expr) (hs : sizeOf e < n + 1) (h : aa (ay Φ e it sc C) p) (s : Sub C ρ) : aa (ay Φ e it sc ρ) p := by
  cases e with
  | Constant c k q => exact h
  | Name x q =>
    replace h : aa (i5 Φ x sc C) p := h
    show aa (i5 Φ x sc ρ) p
    unfold i5 at h ⊢
    split at h
    . rename_i hx
      rw [if_pos hx]
      split at h
      . rename_i hg; rw [if_pos hg]; exact h
      . rename_i hg
        rw [if_neg hg]
        split at h
        . rename_i y hy; rw [s x y hy]; exact h
        . exact (ar h).elim
    . exact (ar h).elim
  | BinOp a op b q =>
    obtain ⟨x, h1, h⟩ := av (show aa (Rs.bnd _ _) p from h)
    obtain ⟨y, h2, h⟩ := av h
    exact aa.bnd (I.e a (aX (by simp <;> omega) hs) h1 s) (aa.bnd (I.e b (aX (by simp <;> omega) hs) h2 s) h)
  | UnaryOp op a q =>
    obtain ⟨x, h1, h⟩ := av (show aa (Rs.bnd _ _) p from h)
    exact aa.bnd (I.e a (aX (by simp <;> omega) hs) h1 s) h
  | BoolOp op es q =>
    rw [ox] at h ⊢
    split at h
    . exact (ar h).elim
    . rename_i hne
      rw [if_neg hne]
      obtain ⟨b, h1, h⟩ := av h
      exact aa.bnd (I.b op es (aX (by simp <;> omega) hs) h1 s) h
  | Compare a ops bs q =>
    match ops, bs, hs, h with
    | [op], [b], hs, h =>
      obtain ⟨x, h1, h⟩ := av (show aa (Rs.bnd _ _) p from h)
      obtain ⟨y, h2, h⟩ := av h
      exact aa.bnd (I.e a (aX (by simp <;> omega) hs) h1 s) (aa.bnd (I.e b (aX (by simp <;> omega) hs) h2 s) h)
    | [], bs, _, h => exact (ar h).elim
    | [op], [], _, h => exact (ar h).elim
    | [op], _ :: _ :: _, _, h => exact (ar h).elim
    | [op, op2], [b, c], hs, h =>
      obtain ⟨x, h1, h⟩ := av (show aa (Rs.bnd _ _) p from h)
      obtain ⟨y, h2, h⟩ := av h
      obtain ⟨z, h3, h⟩ := av h
      exact aa.bnd (I.e a (aX (by simp <;> omega) hs) h1 s) (aa.bnd (I.e b (aX (by simp <;> omega) hs) h2 s) (aa.bnd (I.e c (aX (by simp <;> omega) hs) h3 s) h))
    | [_, _], [], _, h => exact (ar h).elim
    | [_, _], [_], _, h => exact (ar h).elim
    | [_, _], _ :: _ :: _ :: _, _, h => exact (ar h).elim
    | _ :: _ :: _ :: _, bs, _, h => exact (ar h).elim
  | IfExp c a b q =>
    obtain ⟨x, h1, h⟩ := av (show aa (Rs.bnd _ _) p from h)
    obtain ⟨t, ht, h⟩ := fM h
    obtain ⟨l, h, hp⟩ := h
    obtain ⟨m, h, hm⟩ := tO h hp
    refine aa.bnd (I.e c (aX (by simp <;> omega) hs) h1 s) (iy ht (zP ?_))
    cases t with
    | true => exact I.e a (aX (by simp <;> omega) hs) ⟨m, h, hm⟩ s
    | false => exact I.e b (aX (by simp <;> omega) hs) ⟨m, h, hm⟩ s
  | Tuple es k q =>
    obtain ⟨x, h1, h⟩ := av (show aa (Rs.bnd _ _) p from h)
    exact aa.bnd (I.es es (aX (by simp <;> omega) hs) h1 s) h
  | List es q =>
    obtain ⟨x, h1, h⟩ := av (show aa (Rs.bnd _ _) p from h)
    exact aa.bnd (I.es es (aX (by simp <;> omega) hs) h1 s) h
  | Attribute a f q =>
    cases a with
    | Name x pn =>
      obtain ⟨y, h1, h⟩ := av (show aa (Rs.bnd _ _) p from h)
      exact aa.bnd (I.e (.Name x pn) (it := false) (aX (by simp <;> omega) hs) h1 s) h
    | _ => exact (ar h).elim
  | Dict ks vs q =>
    match ks, vs, h with
    | [], [], h => exact h
    | _ :: _, _, h => exact (ar h).elim
    | [], _ :: _, h => exact (ar h).elim
  | Subscript a i q =>
    cases i with
    | Slice lo hi st p2 =>
      cases st with
      | none =>
        obtain ⟨x, h1, h⟩ := av (show aa (Rs.bnd _ _) p from h)
        obtain ⟨y, h2, h⟩ := av h
        obtain ⟨z, h3, h⟩ := av h
        exact aa.bnd (I.e a (aX (by simp <;> omega) hs) h1 s) (aa.bnd (I.o lo (aX (by simp <;> omega) hs) h2 s) (aa.bnd (I.o hi (aX (by simp <;> omega) hs) h3 s) h))
      | some e => exact zK I hs h s
    | _ => exact zK I hs h s
  | Call f args kws q =>
    cases f with
    | Name f fp =>
      cases kws with
      | nil =>
        rw [jc] at h ⊢
        split at h
        . rename_i hf
          rw [if_pos hf]
          obtain ⟨x, h1, h⟩ := av h
          exact aa.bnd (I.es args (aX (by simp <;> omega) hs) h1 s) h
        . exact (ar h).elim
      | cons _ _ => exact (ar h).elim
    | Attribute a m ap =>
      cases kws with
      | nil =>
        rw [rA] at h ⊢
        split at h
        . rename_i hf
          rw [if_pos hf]
          obtain ⟨x, h1, h⟩ := av h
          obtain ⟨y, h2, h⟩ := av h
          exact aa.bnd (I.e a (aX (by simp <;> omega) hs) h1 s) (aa.bnd (I.es args (aX (by simp <;> omega) hs) h2 s) h)
        . exact (ar h).elim
      | cons _ _ => exact (ar h).elim
    | _ => exact (ar h).elim
  | ListComp elt gens scope q =>
    obtain ⟨l0, h0, _⟩ := id h
    obtain ⟨tg, iter, ifs, rfl⟩ := om h0
    rw [ou] at h ⊢
    split at h
    . rename_i hc
      rw [if_pos hc]
      obtain ⟨x, h1, h⟩ := av h
      refine aa.bnd (I.e iter (by first | omega | (simp at *; omega)) h1 s) ?_
      split at h
      . split at h
        . rename_i hl
          rw [if_pos hl]
          obtain ⟨u0, h0', h⟩ := av h
          obtain ⟨y, h2, h⟩ := av h
          refine aa.bnd h0' (aa.bnd (tF (fun d r hr => ?_) h2) h)
          split at hr
          . exact (ar hr).elim
          . rename_i C' hb
            obtain ⟨ρ', hb', s'⟩ := qe hb (s.flt scope)
            rw [hb']
            obtain ⟨b, h3, hr⟩ := av hr
            refine aa.bnd (I.b .And ifs (by first | omega | (simp at *; omega)) h3 s') ?_
            cases b with
            | false => exact hr
            | true =>
              rw [cond_true] at hr ⊢
              obtain ⟨z, h4, hr⟩ := av hr
              exact aa.bnd (I.e elt (by first | omega | (simp at *; omega)) h4 s') hr
        . exact (ar h).elim
      . exact (ar h).elim
    . exact (ar h).elim
  | _ => exact (ar h).elim
theorem GT (I : Mo Φ n) (es : List Expr) {p : List D × Nat} (hs : sizeOf es < n + 1) (h : aa (cx Φ es sc C) p) (s : Sub C ρ) : aa (cx Φ es sc ρ) p := by
  cases es with
  | nil => exact h
  | cons e es =>
    obtain ⟨x, h1, h⟩ := av (show aa (Rs.bnd _ _) p from h)
    obtain ⟨y, h2, h⟩ := av h
    exact aa.bnd (I.e e (aX (by simp <;> omega) hs) h1 s) (aa.bnd (I.es es (aX (by simp <;> omega) hs) h2 s) h)
theorem Lp (I : Mo Φ n) (op : BoolOp) (es : List Expr) {b : Bool} (hs : sizeOf es < n + 1) (h : aa (dl Φ op es sc C) b) (s : Sub C ρ) : aa (dl Φ op es sc ρ) b := by
  cases es with
  | nil => cases op <;> exact h
  | cons e es =>
    cases op with
    | And =>
      obtain ⟨x, h1, h⟩ := av (show aa (Rs.bnd _ _) b from h)
      obtain ⟨t, ht, l, h, hp⟩ := fM h
      refine aa.bnd (I.e e (aX (by simp <;> omega) hs) h1 s) (iy ht ?_)
      rcases rQ h hp with ⟨rfl, m, h, pm⟩ | ⟨rfl, rfl⟩
      . exact rR (fun _ => I.b .And es (aX (by simp <;> omega) hs) ⟨m, h, pm⟩ s) fun z => (by cases z)
      . exact rR (fun z => (by cases z)) fun _ => rfl
    | Or =>
      obtain ⟨x, h1, h⟩ := av (show aa (Rs.bnd _ _) b from h)
      obtain ⟨t, ht, l, h, hp⟩ := fM h
      refine aa.bnd (I.e e (aX (by simp <;> omega) hs) h1 s) (iy ht ?_)
      rcases tm h hp with ⟨rfl, m, h, pm⟩ | ⟨rfl, rfl⟩
      . exact uu (fun _ => I.b .Or es (aX (by simp <;> omega) hs) ⟨m, h, pm⟩ s) fun z => (by cases z)
      . exact uu (fun z => (by cases z)) fun _ => rfl
theorem Ln (I : Mo Φ n) (e : Option Expr) {o : Option Int} (hs : sizeOf e < n + 1) (h : aa (lK Φ e sc C) o) (s : Sub C ρ) : aa (lK Φ e sc ρ) o := by
  cases e with
  | none => exact h
  | some e =>
    obtain ⟨x, h1, h⟩ := av (show aa (Rs.bnd _ _) o from h)
    exact aa.bnd (I.e e (aX (by simp <;> omega) hs) h1 s) h
end
theorem iJ (Φ : Fx) : ∀ n, Mo Φ n
  | 0 => ⟨fun _ _ _ _ _ _ h => absurd h (Nat.not_lt_zero _), fun _ _ _ _ _ h => absurd h (Nat.not_lt_zero _), fun _ _ _ _ _ _ h => absurd h (Nat.not_lt_zero _), fun _ _ _ _ _ h => absurd h (Nat.not_lt_zero _)⟩
  | n + 1 => ⟨fun e _ _ _ _ _ hs h s => Lo (iJ Φ n) e hs h s, fun e _ _ _ _ hs h s => GT (iJ Φ n) e hs h s, fun op e _ _ _ _ hs h s => Lp (iJ Φ n) op e hs h s, fun e _ _ _ _ hs h s => Ln (iJ Φ n) e hs h s⟩
theorem cQ {Φ : Fx} {e : Expr} {it : Bool} {sc : Scope} {C ρ : aj} {p : D × Nat} (h : aa (ay Φ e it sc C) p) (s : Sub C ρ) : aa (ay Φ e it sc ρ) p := (iJ Φ _).e e (Nat.lt_succ_self _) h s
theorem tE {Φ : Fx} {e : List Expr} {sc : Scope} {C ρ : aj} {p : List D × Nat} (h : aa (cx Φ e sc C) p) (s : Sub C ρ) : aa (cx Φ e sc ρ) p := (iJ Φ _).es e (Nat.lt_succ_self _) h s
def yW : Fl -> Fl -> Prop
  | .nx a, .nx b => Sub a b
  | .bk a, .bk b => Sub a b
  | .ct a, .ct b => Sub a b
  | .rt a, .rt b => a = b
  | _, _ => False
theorem cG {α : Type} {a : α} : aa (.ok a []) a := ⟨[], rfl, True.intro⟩
def js (f : aj -> Rs Fl) : Prop := ∀ C ρ fl, aa (f C) fl -> Sub C ρ -> ∃ fl', aa (f ρ) fl' /\ yW fl fl'
theorem vS {f : aj -> Rs Fl} (h : js f) {x y z : Fl} (hx : aa (gY f x) z) (s : yW x y) : ∃ z', aa (gY f y) z' /\ yW z z' := by
  cases x <;> cases y <;> first | exact s.elim | skip
  . exact h _ _ _ hx s
  . cases aI hx; cases s; exact ⟨_, cG, rfl⟩
  . cases aI hx; exact ⟨_, cG, s⟩
  . exact h _ _ _ hx s
theorem vT {sc : Scope} {tg : Expr} {body : aj -> Rs Fl} (hb : js body) : ∀ ds, js (cR (bJ sc tg) body ds)
  | [] => fun C ρ fl h s => by cases aI h; exact ⟨_, cG, s⟩
  | d :: ds => fun C ρ fl h s => by
    replace h : aa (match bJ sc tg d C with | none => (.st : Rs Fl) | some ρ1 => (body ρ1).bnd (gY (cR (bJ sc tg) body ds))) fl := h
    split at h
    . exact (ar h).elim
    . rename_i C1 hC
      obtain ⟨ρ1, hρ, s1⟩ := qe hC s
      obtain ⟨x, h1, h2⟩ := av h
      obtain ⟨y, h3, s2⟩ := hb _ _ _ h1 s1
      obtain ⟨z, h4, s3⟩ := vS (vT hb ds) h2 s2
      refine ⟨z, ?_, s3⟩
      show aa (match bJ sc tg d ρ with | none => (.st : Rs Fl) | some ρ1 => (body ρ1).bnd (gY (cR (bJ sc tg) body ds))) z
      rw [hρ]; exact aa.bnd h3 h4
theorem zJ {test : aj -> Rs Bool} {body : aj -> Rs Fl} (ht : ∀ C ρ b, aa (test C) b -> Sub C ρ -> aa (test ρ) b) (hb : js body) : ∀ n, js (lF test body n)
  | 0 => fun C ρ fl h s => (ar h).elim
  | n + 1 => fun C ρ fl h s => by
    obtain ⟨b, h1, h2⟩ := av (show aa (Rs.bnd _ _) fl from h)
    have h1' := ht _ _ _ h1 s
    cases b with
    | false => cases aI h2; exact ⟨_, aa.bnd h1' cG, s⟩
    | true =>
      obtain ⟨x, h3, h4⟩ := av (show aa (Rs.bnd _ _) fl from h2)
      obtain ⟨y, h5, s2⟩ := hb _ _ _ h3 s
      obtain ⟨z, h6, s3⟩ := vS (zJ ht hb n) h4 s2
      exact ⟨z, aa.bnd h1' (aa.bnd h5 h6), s3⟩
theorem DP {Φ : Fx} {tgs : List Expr} {e : Expr} {sc : Scope} : js (nl Φ tgs e sc) := by
  intro C ρ fl h s
  unfold nl at h ⊢
  split at h
  . obtain ⟨p, h1, h⟩ := av h
    unfold nY at h
    split at h
    . rename_i hx
      split at h
      . rename_i ho; cases aI h
        exact ⟨.nx _, aa.bnd (cQ h1 s) (by unfold nY; rw [if_pos hx, ho]; exact cG), s.put _ _⟩
      . rename_i ho; cases aI h
        exact ⟨.nx _, aa.bnd (cQ h1 s) (by unfold nY; rw [if_pos hx, ho]; exact cG), s.put _ _⟩
      . exact (ar h).elim
    . exact (ar h).elim
  . split at h
    . rename_i ht
      rw [if_pos ht]
      unfold ni at h ⊢
      split at h
      . split at h
        . rename_i hp
          rw [if_pos hp]
          obtain ⟨q, h1, h⟩ := av h
          split at h
          . rename_i u v hd
            split at h
            . rename_i hf
              cases aI h
              refine ⟨.nx _, aa.bnd (tE h1 s) ?_, (s.put _ _).put _ _⟩
              rw [hd]; dsimp only; rw [if_pos hf]; exact cG
            . exact (ar h).elim
          . exact (ar h).elim
        . exact (ar h).elim
      . exact (ar h).elim
    . rename_i ht
      rw [if_neg ht]
      obtain ⟨p, h1, h⟩ := av h
      split at h
      . rename_i ds hd
        split at h
        . rename_i hf
          split at h
          . rename_i C' hb
            cases aI h
            obtain ⟨ρ', hb', s'⟩ := oP hb s
            refine ⟨.nx _, aa.bnd (cQ h1 s) ?_, s'⟩
            rw [hd]; dsimp only; rw [if_pos hf, hb']; exact cG
          . exact (ar h).elim
        . exact (ar h).elim
      . exact (ar h).elim
  . split at h
    . rename_i hc
      rw [if_pos hc]
      obtain ⟨p, h1, h⟩ := av h
      obtain ⟨q, h2, h⟩ := av h
      rcases qf h with ⟨l, j, l', a1, a2, a3, hj, hs, hf, rfl⟩ | ⟨ks, ds, k, a1, hk, a3, hf, hz, rfl⟩
      . refine ⟨.nx _, aa.bnd (cQ h1 s) (aa.bnd (cQ h2 s) ?_), s.put _ _⟩
        rw [hj]; unfold qg; rw [s _ _ a1]; dsimp only; rw [if_pos a3, hs]
        exact ⟨_, rfl, a2, hf, True.intro⟩
      . refine ⟨.nx _, aa.bnd (cQ h1 s) (aa.bnd (cQ h2 s) ?_), s.put _ _⟩
        unfold qg; rw [s _ _ a1]; dsimp only; rw [hk]; dsimp only; rw [if_pos a3]
        exact ⟨_, rfl, hf, hz, True.intro⟩
    . exact (ar h).elim
  . exact (ar h).elim
theorem DO {Φ : Fx} {t e : Expr} {op : Operator} {sc : Scope} : js (nk Φ t op e sc) := by
  intro C ρ fl h s
  unfold nk at h ⊢
  split at h
  . split at h
    . rename_i hx
      rw [if_pos hx]
      split at h
      . rename_i p hp
        rw [s _ _ hp]
        obtain ⟨r, h1, h⟩ := av h
        cases aI h
        obtain ⟨a, ha, h3⟩ := oa h1
        obtain ⟨q, h2, h4⟩ := av h3
        exact ⟨.nx _, aa.bnd (G0 ha (aa.bnd (cQ h2 s) h4)) cG, s.put _ _⟩
      . exact (ar h).elim
    . exact (ar h).elim
  . exact (ar h).elim
theorem DN {Φ : Fx} {e : Expr} {sc : Scope} : js (nj Φ e sc) := by
  intro C ρ fl h s
  unfold nj at h ⊢
  split at h
  . split at h
    . rename_i hln
      rw [if_pos hln]
      obtain ⟨p, h1, h⟩ := av h
      split at h
      . rename_i M hM
        obtain ⟨l, a1, a3, h⟩ := qB h
        obtain ⟨l', h2, h⟩ := av h
        cases aI h
        refine ⟨.nx _, aa.bnd (tE h1 s) ?_, s.put _ _⟩
        unfold n9; rw [s _ _ a1]; dsimp only; rw [if_pos a3]; exact aa.bnd h2 cG
      . exact (ar h).elim
    . exact (ar h).elim
  . obtain ⟨p, h1, h⟩ := av h
    cases aI h
    exact ⟨.nx _, aa.bnd (cQ h1 s) cG, s⟩
  . exact (ar h).elim
structure FQ (Φ : Fx) (n : Nat) : Prop where
  s : ∀ (st : Stmt) (sc : Scope), sizeOf st < n -> js (du Φ st sc)
  ss : ∀ (st : List Stmt) (sc : Scope), sizeOf st < n -> js (az Φ st sc)
theorem GS {Φ : Fx} {n : Nat} (I : FQ Φ n) (st : Stmt) (sc : Scope) (hs : sizeOf st < n + 1) : js (du Φ st sc) := by
  intro C ρ fl h s
  cases st with
  | Return e p =>
    cases e with
    | none => cases aI h; exact ⟨_, cG, rfl⟩
    | some e =>
      obtain ⟨p, h1, h⟩ := av (show aa (Rs.bnd _ _) fl from h)
      refine ⟨fl, aa.bnd (cQ h1 s) h, ?_⟩
      unfold uk at h
      split at h
      . cases aI h; rfl
      . exact (ar h).elim
  | Pass p => cases aI h; exact ⟨_, cG, s⟩
  | Break p => cases aI h; exact ⟨_, cG, s⟩
  | Continue p => cases aI h; exact ⟨_, cG, s⟩
  | Assign tgs e p => exact DP C ρ fl h s
  | AugAssign t op e p => exact DO C ρ fl h s
  | Expr e p => exact DN C ρ fl h s
  | If c a b p =>
    obtain ⟨p, h1, h⟩ := av (show aa (Rs.bnd _ _) fl from h)
    obtain ⟨t, ht, h⟩ := fM h
    cases t with
    | true =>
      obtain ⟨z, h2, s2⟩ := I.ss a sc (aX (by simp <;> omega) hs) C ρ fl h s
      exact ⟨z, aa.bnd (cQ h1 s) (iy ht h2), s2⟩
    | false =>
      obtain ⟨z, h2, s2⟩ := I.ss b sc (aX (by simp <;> omega) hs) C ρ fl h s
      exact ⟨z, aa.bnd (cQ h1 s) (iy ht h2), s2⟩
  | For tg it body els p =>
    rw [oq] at h ⊢
    split at h
    . rename_i he
      rw [if_pos he]
      obtain ⟨p, h1, h⟩ := av h
      split at h
      . rename_i ds hd
        split at h
        . rename_i hk
          obtain ⟨z, h2, s2⟩ := vT (I.ss body sc (aX (by simp <;> omega) hs)) ds _ _ fl h (s.demote it)
          refine ⟨z, aa.bnd (cQ h1 (s.demote it)) ?_, s2⟩
          rw [hd]; dsimp only; rw [if_pos hk]; exact h2
        . exact (ar h).elim
      . exact (ar h).elim
    . exact (ar h).elim
  | While c body els p =>
    rw [rh] at h ⊢
    split at h
    . rename_i he
      rw [if_pos he]
      refine zJ (fun C ρ b hb s => ?_) (I.ss body sc (aX (by simp <;> omega) hs)) bI C ρ fl h s
      obtain ⟨q, h1, hb⟩ := av hb
      exact aa.bnd (cQ h1 s) hb
    . exact (ar h).elim
  | _ => exact (ar h).elim
theorem DM {Φ : Fx} {n : Nat} (I : FQ Φ n) (ss : List Stmt) (sc : Scope) (hs : sizeOf ss < n + 1) : js (az Φ ss sc) := by
  intro C ρ fl h s
  cases ss with
  | nil => cases aI h; exact ⟨_, cG, s⟩
  | cons st ss =>
    rcases qi h with ⟨C', h1, h2⟩ | ⟨h1, h2⟩
    . obtain ⟨x, h3, s2⟩ := I.s st sc (aX (by simp <;> omega) hs) C ρ _ h1 s
      cases x with
      | nx ρ' =>
        obtain ⟨z, h4, s3⟩ := I.ss ss sc (aX (by simp <;> omega) hs) C' ρ' fl h2 s2
        exact ⟨z, ci h3 h4, s3⟩
      | rt _ => exact s2.elim
      | bk _ => exact s2.elim
      | ct _ => exact s2.elim
    . obtain ⟨x, h3, s2⟩ := I.s st sc (aX (by simp <;> omega) hs) C ρ _ h2 s
      refine ⟨x, jC h3 fun ρ' z => ?_, s2⟩
      subst z
      cases fl <;> first | exact h1 _ rfl | exact s2
theorem kT (Φ : Fx) : ∀ n, FQ Φ n
  | 0 => ⟨fun _ _ h => absurd h (Nat.not_lt_zero _), fun _ _ h => absurd h (Nat.not_lt_zero _)⟩
  | n + 1 => ⟨fun e sc hs => GS (kT Φ n) e sc hs, fun e sc hs => DM (kT Φ n) e sc hs⟩
theorem Bi {Φ : Fx} {ss : List Stmt} {sc : Scope} {C C' ρ : aj} (h : aa (az Φ ss sc C) (.nx C')) (s : Sub C ρ) : ∃ ρ', aa (az Φ ss sc ρ) (.nx ρ') /\ Sub C' ρ' := by
  obtain ⟨z, h1, h2⟩ := (kT Φ _).ss ss sc (Nat.lt_succ_self _) C ρ _ h s
  cases z with
  | nx ρ' => exact ⟨ρ', h1, h2⟩
  | rt _ => exact h2.elim
  | bk _ => exact h2.elim
  | ct _ => exact h2.elim
theorem Bh {Φ : Fx} {ss : List Stmt} {sc : Scope} {C ρ : aj} {d : D} (h : aa (az Φ ss sc C) (.rt d)) (s : Sub C ρ) : aa (az Φ ss sc ρ) (.rt d) := by
  obtain ⟨z, h1, h2⟩ := (kT Φ _).ss ss sc (Nat.lt_succ_self _) C ρ _ h s
  cases z with
  | rt _ => cases h2; exact h1
  | nx _ => exact h2.elim
  | bk _ => exact h2.elim
  | ct _ => exact h2.elim
def bT : List (Str × D × Bool) -> aj
  | [] => fun _ => none
  | p :: l => fun z => if z = p.1 then some p.2 else bT l z
theorem aG {ρ : aj} : Sub (bT []) ρ := fun _ _ h => by cases h
theorem ae {ρ : aj} {x : Str} {y : D × Bool} {l : List (Str × D × Bool)} (h : ρ x = some y) (g : Sub (bT l) ρ) : Sub (bT ((x, y) :: l)) ρ := fun z w e => by
  replace e : (if z = x then some y else bT l z) = some w := e
  by_cases hz : z = x
  . rw [if_pos hz] at e; cases e; rw [hz]; exact h
  . rw [if_neg hz] at e; exact g z w e
theorem Sub.get {C ρ : aj} {x : Str} {y : D × Bool} (s : Sub C ρ) (h : C x = some y := by rfl) : ρ x = some y := s x y h
end Sp
set_option Elab.async false
set_option linter.all false
set_option maxRecDepth 100000
namespace Sp
open PySem PySem.Spec PyProof.Rows L2
section
variable {Φ : Fx} {sc : Scope} {ρ ρ' : aj} {fl : Fl} {ss : List Stmt}
theorem cz {C C' : aj} {P : aj -> Prop} (s : Sub C ρ) (h : aa (az Φ ss sc C) (.nx C')) (k : ∀ ρ', Sub C' ρ' -> P ρ') : ∃ ρ', aa (az Φ ss sc ρ) (.nx ρ') /\ P ρ' :=
  let ⟨ρ', h1, h2⟩ := Bi h s; ⟨ρ', h1, k ρ' h2⟩
theorem cJ {C : aj} {d : D} (s : Sub C ρ) (h : aa (az Φ ss sc C) (.rt d)) : aa (az Φ ss sc ρ) (.rt d) := Bh h s
theorem bC {C : aj} {e : Expr} {it : Bool} {p : D × Nat} (s : Sub C ρ) (h : aa (ay Φ e it sc C) p) : aa (ay Φ e it sc ρ) p := cQ h s
theorem nW {tg it : Expr} {body : List Stmt} {p : Pos} {d : D} {ds : List D} {k : Nat} (ak : List D -> aj -> Prop) (hi : aa (ay Φ it true sc (demote it ρ)) (d, k)) (h0 : ak ds (demote it ρ))
    (step : ∀ d l ρ, ak (d :: l) ρ -> ∃ ρ1, bJ sc tg d ρ = some ρ1 /\ ∃ ρ2, aa (az Φ body sc ρ1) (.nx ρ2) /\ ak l ρ2) (rest : ∀ ρ', ak [] ρ' -> aa (az Φ ss sc ρ') fl) (hd : items d = some ds := by rfl) (hk : k <= 1 := by first | exact Nat.le_refl 1 | exact Nat.zero_le 1) (ht : eD it tg = true := by rfl) : aa (az Φ (.For tg it body [] p :: ss) sc ρ) fl := by
  obtain ⟨ρ', h1, h2⟩ := mj (bind := bJ sc tg) (body := az Φ body sc) ak (fun d l ρ h => let ⟨ρ1, a, ρ2, b, c⟩ := step d l ρ h; ⟨ρ1, ρ2, a, .inl b, c⟩) h0
  exact ci (jW hi hd hk ht h1) (rest ρ' h2)
theorem Ax {tg it : Expr} {body : List Stmt} {p : Pos} {d : D} {ds : List D} {k : Nat} (ak : List D -> aj -> Prop) (R : D -> Prop) (hi : aa (ay Φ it true sc (demote it ρ)) (d, k)) (h0 : ak ds (demote it ρ))
    (step : ∀ d l ρ, ak (d :: l) ρ -> ∃ ρ1, bJ sc tg d ρ = some ρ1 /\ ((∃ ρ2, aa (az Φ body sc ρ1) (.nx ρ2) /\ ak l ρ2) \/ ∃ r, aa (az Φ body sc ρ1) (.rt r) /\ R r)) (rest : ∀ ρ', ak [] ρ' -> ∃ r, aa (az Φ ss sc ρ') (.rt r) /\ R r) (hd : items d = some ds := by rfl) (hk : k <= 1 := by first | exact Nat.le_refl 1 | exact Nat.zero_le 1) (ht : eD it tg = true := by rfl) : ∃ r, aa (az Φ (.For tg it body [] p :: ss) sc ρ) (.rt r) /\ R r := by
  rcases tR (bind := bJ sc tg) (body := az Φ body sc) ak R (fun d l ρ h => by
    obtain ⟨ρ1, a, b⟩ := step d l ρ h
    rcases b with ⟨ρ2, b, c⟩ | ⟨r, b, c⟩
    . exact ⟨ρ1, a, .inl ⟨ρ2, .inl b, c⟩⟩
    . exact ⟨ρ1, a, .inr ⟨r, b, c⟩⟩) h0 with ⟨ρ', h1, h2⟩ | ⟨r, h1, h2⟩
  . obtain ⟨r, h3, h4⟩ := rest ρ' h2
    exact ⟨r, ci (jW hi hd hk ht h1) h3, h4⟩
  . exact ⟨r, fb (jW hi hd hk ht h1), h2⟩
theorem dE {a b : Expr} {op : CmpOp} {p : Pos} {it : Bool} {x y : D} {k j : Nat} {r : Bool} (ha : aa (ay Φ a false sc ρ) (x, k)) (hb : aa (ay Φ b false sc ρ) (y, j)) (h : aa (gM op x y) r) : aa (ay Φ (.Compare a [op] [b] p) it sc ρ) (.bl r, 0) :=
  aa.bnd ha (aa.bnd hb (aa.bnd h cG))
theorem dj {op : BoolOp} {e : Expr} {es : List Expr} {p : Pos} {it : Bool} {b : Bool} (h : aa (dl Φ op (e :: es) sc ρ) b) : aa (ay Φ (.BoolOp op (e :: es) p) it sc ρ) (.bl b, 0) := by
  rw [ox, if_neg (show ¬ (List.isEmpty (e :: es) = true) from Bool.false_ne_true)]; exact aa.bnd h cG
theorem gk {e : Expr} {es : List Expr} {b c : Bool} {k : Nat} (h : aa (ay Φ e false sc ρ) (.bl b, k)) (h1 : b = true -> aa (dl Φ .And es sc ρ) c) (h2 : b = false -> c = false) : aa (dl Φ .And (e :: es) sc ρ) c := aa.bnd h (iy rfl (rR h1 h2))
theorem rk {e : Expr} {es : List Expr} {b c : Bool} {k : Nat} (h : aa (ay Φ e false sc ρ) (.bl b, k)) (h1 : b = false -> aa (dl Φ .Or es sc ρ) c) (h2 : b = true -> c = true) : aa (dl Φ .Or (e :: es) sc ρ) c := aa.bnd h (iy rfl (uu h1 h2))
theorem jb {e : Expr} {es : List Expr} {c : Bool} {k : Nat} (h : aa (ay Φ e false sc ρ) (.bl true, k)) (h1 : aa (dl Φ .And es sc ρ) c) : aa (dl Φ .And (e :: es) sc ρ) c := gk h (fun _ => h1) fun z => by cases z
theorem dN {e : Expr} {es : List Expr} {c : Bool} {k : Nat} (h : aa (ay Φ e false sc ρ) (.bl false, k)) (h1 : aa (dl Φ .Or es sc ρ) c) : aa (dl Φ .Or (e :: es) sc ρ) c := rk h (fun _ => h1) fun z => by cases z
theorem jX : aa (dl Φ .And [] sc ρ) true := cG
theorem gL : aa (dl Φ .Or [] sc ρ) false := cG
theorem aa.bl {r : R1} {b c : Bool} {k : Nat} (h : aa r (.bl b, k)) (e : b = c) : aa r (.bl c, k) := e ▸ h
theorem rn {es : List Expr} {n : Nat} {p : Pos} {it : Bool} {ds : List D} {k : Nat} (h : aa (cx Φ es sc ρ) (ds, k)) (hl : ds.length <= bI) : aa (ay Φ (.Tuple es n p) it sc ρ) (.tup ds, kn (.tup ds) k) := aa.bnd h (by dsimp only; rw [if_pos hl]; exact cG)
theorem Eo {es : List Expr} {p : Pos} {it : Bool} {ds : List D} {k : Nat} (h : aa (cx Φ es sc ρ) (ds, k)) (hl : ds.length <= bI /\ k <= 1) : aa (ay Φ (.List es p) it sc ρ) (.lst ds, k) := aa.bnd h (by dsimp only; rw [if_pos hl]; exact cG)
theorem yt {a : Expr} {lo hi : Option Expr} {p p2 : Pos} {it : Bool} {x : D} {k : Nat} {l h : Option Int} {r : D × Nat} (ha : aa (ay Φ a false sc ρ) (x, k)) (hl : aa (lK Φ lo sc ρ) l) (hh : aa (lK Φ hi sc ρ) h) (hr : aa (Φ.slf x l h) r) : aa (ay Φ (.Subscript a (.Slice lo hi none p2) p) it sc ρ) r := aa.bnd ha (aa.bnd hl (aa.bnd hh hr))
theorem CT {l : List D} {lo hi : Option Int} (h : ao l = true) : aa (aT (.lst l) lo hi) (.lst (jg l lo hi), 0) := ⟨_, rfl, h, True.intro⟩
end
theorem Lq {us : List Value} (h : us.length = 0) : us = [] := List.eq_nil_of_length_eq_zero h
theorem ff {us : List Value} (h : us.length = 1) : ∃ a, us = [a] := List.length_eq_one_iff.mp h
theorem DS {us : List Value} {n : Nat} (h : us.length = n + 1) : ∃ a r, us = a :: r /\ r.length = n := by
  cases us with
  | nil => cases h
  | cons a r => exact ⟨a, r, rfl, by simpa using h⟩
theorem fe {us : List Value} (h : us.length = 2) : ∃ a b, us = [a, b] := by
  obtain ⟨a, r, e1, h1⟩ := DS h; subst e1; obtain ⟨b, rfl⟩ := ff h1; exact ⟨a, b, rfl⟩
theorem jR {us : List Value} (h : us.length = 3) : ∃ a b c, us = [a, b, c] := by
  obtain ⟨a, r, e1, h1⟩ := DS h; subst e1; obtain ⟨b, c, rfl⟩ := fe h1; exact ⟨a, b, c, rfl⟩
end Sp
set_option linter.all false
namespace Qm
def nN (a b c d : Int) : Prop := ∃ e x y z w : Int, (e = 0 \/ e = 1) /\ a = 2 * x + e /\ b = 2 * y + e /\ c = 2 * z + e /\ d = 2 * w + e
theorem qA {P Q R S k1 k2 k3 : Int} (h1 : Q = P + 2 * k1) (h2 : R = P + 2 * k2) (h3 : S = P + 2 * k3) : nN P Q R S :=
  ⟨P % 2, P / 2, P / 2 + k1, P / 2 + k2, P / 2 + k3, by omega, by omega, by omega, by omega, by omega⟩
theorem par_fmod {a b c d : Int} (h : nN a b c d) : b.fmod 2 = a.fmod 2 /\ c.fmod 2 = a.fmod 2 /\ d.fmod 2 = a.fmod 2 := by
  obtain ⟨e, x, y, z, w, he, rfl, rfl, rfl, rfl⟩ := h
  simp only [Int.fmod_eq_emod_of_nonneg _ (show (0 : Int) <= 2 by decide)]
  omega
theorem Dt {a b c d : Int} (h : nN a b c d) : ∃ t, a * a + (b * b + (c * c + (d * d + 0))) = 4 * t := by
  obtain ⟨e, x, y, z, w, he, rfl, rfl, rfl, rfl⟩ := h
  rcases he with rfl | rfl
  . exact ⟨x * x + y * y + z * z + w * w, by grind⟩
  . exact ⟨x * x + y * y + z * z + w * w + x + y + z + w + 1, by grind⟩
theorem fd4 (t : Int) : (4 * t).fdiv 4 = t := by rw [Int.fdiv_eq_ediv_of_nonneg _ (by decide)]; omega
theorem fd2 (t : Int) : (2 * t).fdiv 2 = t := by rw [Int.fdiv_eq_ediv_of_nonneg _ (by decide)]; omega
theorem xO {a b c d e f g h : Int} (h1 : nN a b c d) (h2 : nN e f g h) : ∃ P Q R S, a * e - b * f - c * g - d * h = 2 * P /\ a * f + b * e + c * h - d * g = 2 * Q /\ a * g - b * h + c * e + d * f = 2 * R /\ a * h + b * g - c * f + d * e = 2 * S /\ nN P Q R S := by
  obtain ⟨s, x1, x2, x3, x4, _, rfl, rfl, rfl, rfl⟩ := h1
  obtain ⟨u, y1, y2, y3, y4, _, rfl, rfl, rfl, rfl⟩ := h2
  refine ⟨2 * (x1 * y1 - x2 * y2 - x3 * y3 - x4 * y4) + u * (x1 - x2 - x3 - x4) + s * (y1 - y2 - y3 - y4) - s * u,
    2 * (x1 * y2 + x2 * y1 + x3 * y4 - x4 * y3) + u * (x1 + x2 + x3 - x4) + s * (y2 + y1 + y4 - y3) + s * u,
    2 * (x1 * y3 - x2 * y4 + x3 * y1 + x4 * y2) + u * (x1 - x2 + x3 + x4) + s * (y3 - y4 + y1 + y2) + s * u,
    2 * (x1 * y4 + x2 * y3 - x3 * y2 + x4 * y1) + u * (x1 + x2 - x3 + x4) + s * (y4 + y3 - y2 + y1) + s * u, by grind, by grind, by grind, by grind, ?_⟩
  refine qA (k1 := (x1 * y2 + x2 * y1 + x3 * y4 - x4 * y3) - (x1 * y1 - x2 * y2 - x3 * y3 - x4 * y4) + u * (x2 + x3) + s * (y2 + y4) + s * u)
    (k2 := (x1 * y3 - x2 * y4 + x3 * y1 + x4 * y2) - (x1 * y1 - x2 * y2 - x3 * y3 - x4 * y4) + u * (x3 + x4) + s * (y3 + y2) + s * u)
    (k3 := (x1 * y4 + x2 * y3 - x3 * y2 + x4 * y1) - (x1 * y1 - x2 * y2 - x3 * y3 - x4 * y4) + u * (x2 + x4) + s * (y4 + y3) + s * u) ?_ ?_ ?_ <;> grind
theorem Hc (a b c d e f g h : Int) : (a * e - b * f - c * g - d * h) * (a * e - b * f - c * g - d * h) + ((a * f + b * e + c * h - d * g) * (a * f + b * e + c * h - d * g) + ((a * g - b * h + c * e + d * f) * (a * g - b * h + c * e + d * f) + ((a * h + b * g - c * f + d * e) * (a * h + b * g - c * f + d * e) + 0))) =
    (a * a + (b * b + (c * c + (d * d + 0)))) * (e * e + (f * f + (g * g + (h * h + 0)))) := by grind
theorem bU {p P : Int} (h : p = 2 * P) : p.fdiv 2 = P := by rw [h, fd2]
end Qm
set_option Elab.async false
set_option linter.all false
set_option maxRecDepth 100000
namespace K
open PySem L2 Sp
structure Dc (α : Type) where
  dec : D -> Option α
  enc : α -> D
  ok : ∀ x a, dec x = some a -> x = enc a
def dI : Dc Int := ⟨fun | .int i => some i | _ => none, .int, fun x a h => by cases x <;> cases h; rfl⟩
def dL : Dc (List D) := ⟨fun | .lst i => some i | _ => none, .lst, fun x a h => by cases x <;> cases h; rfl⟩
def qk {α : Type} (A : Dc α) (f : α -> Rs D) : List D -> Rs D
  | [x] => (match A.dec x with | some a => f a | none => .st)
  | _ => .st
def mG {α β : Type} (A : Dc α) (B : Dc β) (f : α -> β -> Rs D) : List D -> Rs D
  | [x, y] => (match A.dec x with | some a => (match B.dec y with | some b => f a b | none => .st) | none => .st)
  | _ => .st
def qj {α β γ : Type} (A : Dc α) (B : Dc β) (C : Dc γ) (f : α -> β -> γ -> Rs D) : List D -> Rs D
  | [x, y, z] => (match A.dec x with | some a => (match B.dec y with | some b => (match C.dec z with | some c => f a b c | none => .st) | none => .st) | none => .st)
  | _ => .st
theorem iN {α β : Type} {A : Dc α} {x : D} {f : α -> Rs β} {r : β} (h : aa (match A.dec x with | some a => f a | none => .st) r) : ∃ a, x = A.enc a /\ aa (f a) r := by
  split at h
  . rename_i a e; exact ⟨a, A.ok _ _ e, h⟩
  . exact (ar h).elim
theorem iG {α : Type} {A : Dc α} {f : α -> Rs D} {ds : List D} {r : D} (h : aa (qk A f ds) r) : ∃ a, ds = [A.enc a] /\ aa (f a) r := by
  unfold qk at h
  split at h
  . obtain ⟨a, e1, h1⟩ := iN h; exact ⟨a, by rw [e1], h1⟩
  . exact (ar h).elim
theorem fv {α β : Type} {A : Dc α} {B : Dc β} {f : α -> β -> Rs D} {ds : List D} {r : D} (h : aa (mG A B f ds) r) : ∃ a b, ds = [A.enc a, B.enc b] /\ aa (f a b) r := by
  unfold mG at h
  split at h
  . obtain ⟨a, e1, h1⟩ := iN h
    obtain ⟨b, e2, h2⟩ := iN h1
    exact ⟨a, b, by rw [e1, e2], h2⟩
  . exact (ar h).elim
theorem iF {α β γ : Type} {A : Dc α} {B : Dc β} {C : Dc γ} {f : α -> β -> γ -> Rs D} {ds : List D} {r : D} (h : aa (qj A B C f ds) r) : ∃ a b c, ds = [A.enc a, B.enc b, C.enc c] /\ aa (f a b c) r := by
  unfold qj at h
  split at h
  . obtain ⟨a, e1, h1⟩ := iN h
    obtain ⟨b, e2, h2⟩ := iN h1
    obtain ⟨c, e3, h3⟩ := iN h2
    exact ⟨a, b, c, by rw [e1, e2, e3], h3⟩
  . exact (ar h).elim
def NZ : D -> Int
  | .int i => i
  | _ => 0
def mD (l : List D) : List Int := l.map NZ
theorem mC (ns : List Int) : mD (ns.map D.int) = ns := by
  induction ns with
  | nil => rfl
  | cons n ns ih => show n :: mD (ns.map D.int) = _; rw [ih]
def DH (l : List D) : Prop := ∃ ns : List Int, l = ns.map D.int
def j6 (ns : List Int) (k : Int) : Int := if ns = [] then 0 else ns.getD (k.fmod ns.length).toNat 0
def zX (ns : List Int) (k : Int) : Int :=
  (j6 ns k).fdiv 2147483647 * 2147483647 + ((((j6 ns k).fmod 2147483647 + 7919 * k + 1) * 48271).fmod 2147483647 * 69621 + k).fmod 2147483647
def j7 (l : List D) (k : Int) : Int := zX (mD l) k
abbrev t4 (a b c d : Int) : D := .tup [.int a, .int b, .int c, .int d]
abbrev Qd := Int × Int × Int × Int
def dq (q : Qd) : D := t4 q.1 q.2.1 q.2.2.1 q.2.2.2
def q4 : D -> Option Qd
  | .tup [.int a, .int b, .int c, .int d] => some (a, b, c, d)
  | _ => none
theorem GB (x : D) (q : Qd) (h : q4 x = some q) : x = dq q := by
  unfold q4 at h
  split at h
  . cases h; rfl
  . cases h
def dQ : Dc Qd := ⟨q4, dq, GB⟩
abbrev dm (q : Qd) : Prop := q.1.natAbs < cO /\ q.2.1.natAbs < cO /\ q.2.2.1.natAbs < cO /\ q.2.2.2.natAbs < cO
theorem en {α : Type} {G : α -> D} (h : ∀ x, (G x).lless = true) : ∀ l : List α, ao (l.map G) = true
  | [] => rfl
  | x :: l => by rw [List.map_cons, ao, h x, en h l]; rfl
@[simp] theorem eN (a b : Int) : cA (.int a) (.int b) = decide (a = b) := by
  show (a == b) = _
  rw [Bool.eq_iff_iff]; simp
@[simp] theorem fg (p q : Qd) : cA (dq p) (dq q) = decide (p = q) := by
  show (p.1 == q.1 && (p.2.1 == q.2.1 && (p.2.2.1 == q.2.2.1 && (p.2.2.2 == q.2.2.2 && true)))) = _
  obtain ⟨a, b, c, d⟩ := p; obtain ⟨e, f, g, h⟩ := q
  rw [Bool.eq_iff_iff]; simp
theorem dY (qs : List Qd) : ao (qs.map dq) = true := by
  induction qs with
  | nil => rfl
  | cons n ns ih => rw [List.map_cons, ao, ih]; rfl
end K
set_option Elab.async false
set_option linter.all false
set_option maxRecDepth 100000
namespace Sp
open PySem PySem.Spec PyProof.Rows L2
open AutoSeq1 (wpAny_loadPart')
section
variable {prog : Program} {w : World} {A : Around} {E : Value -> Shared -> Prop} {s : Shared}
variable {n l1 l2 l3 : Nat} {xs ys ws : Array Value} {k : Nat} {x y u : Value} {f0 f1 : Value}
end
end Sp
set_option Elab.async false
set_option linter.all false
set_option maxRecDepth 100000
namespace Sp
open PySem PySem.Spec PyProof.Rows L2
open AutoSeq1 (wpAny_loadPart')
section
variable {prog : Program} {w : World} {A : Around} {E : Value -> Shared -> Prop} {s : Shared}
end
end Sp
set_option Elab.async false
set_option linter.all false
set_option maxRecDepth 100000
namespace Sp
open PySem PySem.Spec PyProof.Rows L2
section
variable {prog : Program} {w : World} {A : Around} {E : Value -> Shared -> Prop} {s : Shared}
abbrev qJ (acc : Array Value) (c : Nat) : Obj := { cls := .type "list", dict := none, data := .seq acc c, slots := #[] }
theorem tJ {S I : Addr} {res : Value} {R : Result -> Shared -> Prop} (h : wpAny (model prog w) A.in1 (pyNext (.ref I)) (fun r s' => match r with
      | some v => ∃ acc c, s'.heap.get? S = some (qJ acc c) /\ acc.size + 1 <= sizeLine /\ ∀ h2 c2, h2.get? S = some (qJ (acc.push v) c2) -> Heap.SameBut S s'.heap h2 -> codeAny (model prog w) A (.builtin "list.extend.loop" ⟨[.ref S, .ref I, res], []⟩) R { s' with heap := h2 }
      | none => R (.ok (.ret res)) s') (fun e s' => R (.error e) s') s) : codeAny (model prog w) A (.builtin "list.extend.loop" ⟨[.ref S, .ref I, res], []⟩) R s := by
  refine codeAny_builtin F.entry_extend_loop ?_
  rw [Around.under_plainId F.plain_extend_loop _]
  show wpAny _ A.in1 (pyNext (.ref I) >>= _) _ _ s
  refine wpAny_bind (wpAny_mono h (fun r s' hr => ?_) fun _ _ z => z)
  cases r with
  | none => exact wpAny_pure hr
  | some v =>
    obtain ⟨acc, c, hS, hz, k⟩ := hr
    show wpAny _ A.in1 (updateSeq S (·.push v) >>= _) _ _ _
    refine wpAny_bind (wpAny_updateSeq hS rfl (wpAny_pure ⟨plainId_quiet F.plain_extend_loop _, k _ _ (Heap.get?_update_self _ hS rfl) (Heap.SameBut.update ..)⟩) ?_ ?_)
    . omega
    . show (acc.push v).size <= sizeLine + 1
      rw [Array.size_push]; omega
end
end Sp
set_option Elab.async false
set_option linter.all false
set_option maxRecDepth 100000
namespace Sp
open PySem PySem.Spec PyProof.Rows L2
variable {X : Cx}
theorem yj {P : Program} {w : World} {H : Hp} {h : Heap} {b : Addr} {o : HO} (x : dn P w H h) (hb : H b = none) (new : bV P w (aV H b o) h b o) : dn P w (aV H b o) h := fun c u e => by
  by_cases hc : c = b
  . subst hc; rw [aO] at e; cases e; exact new
  . rw [aH hc] at e
    exact (x c u e).stay (fun d v _ r => r) (fun d r => by rw [aH (bz r hb)]; exact r) (fun d xs r => by rw [aH (bz r hb)]; exact r)
theorem Aq {fs ex : List Addr} {H H' : Hp} {h h' : Heap} (k : ∀ b u, h.get? b = some u -> h'.get? b = some u) (hH : ∀ c, c < h.objs.size -> H' c = H c) (hin : ∀ c o, H c = some o -> c < h.objs.size) : Un fs ex H H' h h' where
  keep := fun b u q _ _ _ => k b u q
  slot := fun b u q _ _ _ => ⟨u.slots, k b u q⟩
  free := fun b u q n _ => (hH b (Heap.lt_size q)).trans n
  there := fun b u q _ => ⟨u, k b u q⟩
  tups := fun b xs r => (hH b (hin b _ r)).trans r
  frzs := fun b o u r => (hH b (hin b _ r)).trans r
  tbls := fun b ps r => ⟨#[], by rw [Array.append_empty]; exact (hH b (hin b _ r)).trans r⟩
theorem sU {Φ : Fx} {sc : Scope} {H0 : Hp} {fl : Fl} {rest : List Stmt} (G : aU Φ X sc) (hp : PassesOwn (model X.prog X.w) X.A X.env X.xe) : ∀ {pre : List Stmt} {ρ ρ1 : aj}, aa (az Φ pre sc ρ) (.nx ρ1) -> iS X H0 ρ1 rest fl -> iS X H0 ρ (pre ++ rest) fl
  | [], ρ, ρ1, h, k => by cases aI h; exact k
  | st :: ss, ρ, ρ1, h, k => by
    obtain ⟨f1, h1, h2⟩ := av (show aa (Rs.bnd _ _) _ from h)
    cases f1 with
    | nx ρ' => exact qh ((mV Φ _).s st (Nat.lt_succ_self _) h1 G hp) (sU G hp h2 k)
    | rt d => cases aI h2
    | bk ρ' => cases aI h2
    | ct ρ' => cases aI h2
theorem Ee {P : Program} {w : World} {K : W.Frag} {mg : Str -> Option Value} {base : Heap} {k : Nat} {g : Str} {f : Addr} {fd : FuncData} {ps : List Str} {F : List D -> Rs D} (h : cH P w K mg base fR k f fd ps (jE K F)) (hm : mg g = some (.ref f)) (hk : W.keepIn K (.ref f) = true) (hb : cN K fd ps []) (hd : (g == ("__debug__" : Str)) = false) : cv P w K mg base k g F :=
  ⟨f, fd, ps, h, hm, hk, hb, hd⟩
end Sp
set_option Elab.async false
set_option linter.all false
set_option maxRecDepth 100000
namespace Sp
open PySem PySem.Spec PyProof.Rows L2
variable {X : Cx}
end Sp
set_option Elab.async false
set_option linter.all false
set_option maxRecDepth 100000
namespace Sp
open PySem PySem.Spec PyProof.Rows L2
variable {Φ : Fx} {sc : Scope} {ρ ρ' : aj} {fl : Fl} {ss : List Stmt}
theorem nu {c a b : Expr} {p : Pos} {it : Bool} {t : Bool} {k : Nat} {r : D × Nat} (hc : aa (ay Φ c false sc ρ) (.bl t, k)) (h1 : t = true -> aa (ay Φ a false sc ρ) r) (h2 : t = false -> aa (ay Φ b false sc ρ) r) : aa (ay Φ (.IfExp c a b p) it sc ρ) r := by
  refine aa.bnd hc (iy rfl (zP ?_))
  cases t with
  | true => exact h1 rfl
  | false => exact h2 rfl
theorem pU {test : aj -> Rs Bool} {body : aj -> Rs Fl} (ak : Nat -> aj -> Prop) (step : ∀ m ρ, ak m ρ -> ∃ b, aa (test ρ) b /\ (b = true -> ∃ m' ρ2, m' < m /\ aa (body ρ) (.nx ρ2) /\ ak m' ρ2)) : ∀ {n m : Nat} {ρ : aj}, ak m ρ -> m < n -> ∃ m' ρ', aa (lF test body n ρ) (.nx ρ') /\ ak m' ρ' /\ aa (test ρ') false := by
  intro n
  induction n with
  | zero => intro m ρ _ h; omega
  | succ n ih =>
    intro m ρ hi hm
    obtain ⟨b, hb, h⟩ := step m ρ hi
    cases b with
    | false => exact ⟨m, ρ, aa.bnd hb cG, hi, hb⟩
    | true =>
      obtain ⟨m', ρ2, h1, h2, h3⟩ := h rfl
      obtain ⟨m2, ρ3, h4, h5, h6⟩ := ih h3 (show m' < n by omega)
      exact ⟨m2, ρ3, aa.bnd hb (aa.bnd h2 h4), h5, h6⟩
theorem jB {c : Expr} {body : List Stmt} {p : Pos} {m : Nat} (ak : Nat -> aj -> Prop) (h0 : ak m ρ) (hm : m < bI)
    (step : ∀ m ρ, ak m ρ -> ∃ b k, aa (ay Φ c false sc ρ) (.bl b, k) /\ (b = true -> ∃ m' ρ2, m' < m /\ aa (az Φ body sc ρ) (.nx ρ2) /\ ak m' ρ2)) (rest : ∀ m ρ', ak m ρ' -> (∃ k, aa (ay Φ c false sc ρ') (.bl false, k)) -> aa (az Φ ss sc ρ') fl) : aa (az Φ (.While c body [] p :: ss) sc ρ) fl := by
  obtain ⟨m', ρ', h1, h2, h3⟩ := pU (test := fun ρ => (ay Φ c false sc ρ).bnd fun p => ib p fun b => .ok b []) (body := az Φ body sc) ak (fun m ρ h => by
    obtain ⟨b, k, a1, a2⟩ := step m ρ h
    exact ⟨b, a1.bnd (iy rfl cG), a2⟩) h0 hm
  obtain ⟨q, h4, h5⟩ := av h3
  obtain ⟨t, ht, h5⟩ := fM h5
  cases aI h5
  obtain ⟨q1, q2⟩ := q
  have ht : q1 = .bl false := ht
  subst ht
  exact ci (rf h1) (rest m' ρ' h2 ⟨q2, h4⟩)
theorem kE {m m' : Nat} {A : aj -> Prop} {P : Nat -> aj -> Prop} (h : m' < m) (k : ∃ ρ2, A ρ2 /\ P m' ρ2) : ∃ m' ρ2, m' < m /\ A ρ2 /\ P m' ρ2 := by
  obtain ⟨ρ2, a, b⟩ := k
  exact ⟨m', ρ2, h, a, b⟩
end Sp
set_option Elab.async false
set_option linter.all false
set_option maxRecDepth 100000
namespace K
open PySem L2 Sp
def J9 (p q : Qd) : Qd :=
  (p.1 * q.1 - p.2.1 * q.2.1 - p.2.2.1 * q.2.2.1 - p.2.2.2 * q.2.2.2, p.1 * q.2.1 + p.2.1 * q.1 + p.2.2.1 * q.2.2.2 - p.2.2.2 * q.2.2.1,
    p.1 * q.2.2.1 - p.2.1 * q.2.2.2 + p.2.2.1 * q.1 + p.2.2.2 * q.2.1, p.1 * q.2.2.2 + p.2.1 * q.2.2.1 - p.2.2.1 * q.2.1 + p.2.2.2 * q.1)
theorem nH {p q : Qd} (h : dm p) (g : dm q) : (bH p.1 q.1 /\ bH p.2.1 q.2.1 /\ bH p.2.2.1 q.2.2.1 /\ bH p.2.2.2 q.2.2.2) /\ (bH p.1 q.2.1 /\ bH p.2.1 q.1 /\ bH p.2.2.1 q.2.2.2 /\ bH p.2.2.2 q.2.2.1) /\ (bH p.1 q.2.2.1 /\ bH p.2.1 q.2.2.2 /\ bH p.2.2.1 q.1 /\ bH p.2.2.2 q.2.1) /\ (bH p.1 q.2.2.2 /\ bH p.2.1 q.2.2.1 /\ bH p.2.2.1 q.2.1 /\ bH p.2.2.2 q.1) :=
  ⟨⟨bL h.1 g.1, bL h.2.1 g.2.1, bL h.2.2.1 g.2.2.1, bL h.2.2.2 g.2.2.2⟩, ⟨bL h.1 g.2.1, bL h.2.1 g.1, bL h.2.2.1 g.2.2.2, bL h.2.2.2 g.2.2.1⟩, ⟨bL h.1 g.2.2.1, bL h.2.1 g.2.2.2, bL h.2.2.1 g.1, bL h.2.2.2 g.2.1⟩, ⟨bL h.1 g.2.2.2, bL h.2.1 g.2.2.1, bL h.2.2.1 g.2.1, bL h.2.2.2 g.1⟩⟩
end K
set_option Elab.async false
set_option linter.all false
set_option maxRecDepth 100000
namespace K
open PySem L2 Sp
theorem L6 (q : Qd) : aa (gM .Eq (dq q) (dq q)) true := by
  refine (cq rfl (by exact ⟨rfl, True.intro⟩)).eq ?_
  show (q.1 == q.1 && (q.2.1 == q.2.1 && (q.2.2.1 == q.2.2.1 && (q.2.2.2 == q.2.2.2 && true)))) = _
  simp
theorem GV (qs : List Qd) : PyData.canLayAll0 (cV (qs.map dq)) = true := by
  induction qs with
  | nil => rfl
  | cons q qs ih => rw [List.map_cons, cV, PyData.canLayAll0, ih]; rfl
theorem Hh (q : Qd) : PyData.depth (dq q).py = 1 := by
  simp [dq, D.py, cV, PyData.depth, PyData.depthAll]
theorem Hi (qs : List Qd) : PyData.depthAll (cV (qs.map dq)) <= 1 := by
  induction qs with
  | nil => simp [cV, PyData.depthAll]
  | cons q qs ih => rw [List.map_cons, cV, PyData.depthAll, Hh]; omega
end K
set_option Elab.async false
set_option linter.all false
set_option maxRecDepth 100000
namespace K
open PySem L2 Sp Qm
abbrev bd (a b c d : Int) : Prop := a.natAbs < cO /\ b.natAbs < cO /\ c.natAbs < cO /\ d.natAbs < cO
theorem Ho {a b c d e f g h x y z w P Q R S P2 Q2 R2 S2 U V W X P3 Q3 R3 S3 : Int}
    (hP : a * e - b * f - c * g - d * h = 2 * P) (hQ : a * f + b * e + c * h - d * g = 2 * Q) (hR : a * g - b * h + c * e + d * f = 2 * R) (hS : a * h + b * g - c * f + d * e = 2 * S)
    (kP : P * x - Q * y - R * z - S * w = 2 * P2) (kQ : P * y + Q * x + R * w - S * z = 2 * Q2) (kR : P * z - Q * w + R * x + S * y = 2 * R2) (kS : P * w + Q * z - R * y + S * x = 2 * S2)
    (hU : e * x - f * y - g * z - h * w = 2 * U) (hV : e * y + f * x + g * w - h * z = 2 * V) (hW : e * z - f * w + g * x + h * y = 2 * W) (hX : e * w + f * z - g * y + h * x = 2 * X)
    (lP : a * U - b * V - c * W - d * X = 2 * P3) (lQ : a * V + b * U + c * X - d * W = 2 * Q3) (lR : a * W - b * X + c * U + d * V = 2 * R3) (lS : a * X + b * W - c * V + d * U = 2 * S3) :
    P2 = P3 /\ Q2 = Q3 /\ R2 = R3 /\ S2 = S3 := by
  have e1 : 4 * P2 = (2 * P) * x - (2 * Q) * y - (2 * R) * z - (2 * S) * w := by grind
  have e2 : 4 * Q2 = (2 * P) * y + (2 * Q) * x + (2 * R) * w - (2 * S) * z := by grind
  have e3 : 4 * R2 = (2 * P) * z - (2 * Q) * w + (2 * R) * x + (2 * S) * y := by grind
  have e4 : 4 * S2 = (2 * P) * w + (2 * Q) * z - (2 * R) * y + (2 * S) * x := by grind
  have f1 : 4 * P3 = a * (2 * U) - b * (2 * V) - c * (2 * W) - d * (2 * X) := by grind
  have f2 : 4 * Q3 = a * (2 * V) + b * (2 * U) + c * (2 * X) - d * (2 * W) := by grind
  have f3 : 4 * R3 = a * (2 * W) - b * (2 * X) + c * (2 * U) + d * (2 * V) := by grind
  have f4 : 4 * S3 = a * (2 * X) + b * (2 * W) - c * (2 * V) + d * (2 * U) := by grind
  rw [<- hP, <- hQ, <- hR, <- hS] at e1 e2 e3 e4
  rw [<- hU, <- hV, <- hW, <- hX] at f1 f2 f3 f4
  clear hP hQ hR hS kP kQ kR kS hU hV hW hX lP lQ lR lS
  have m1 : 4 * P2 = 4 * P3 := by rw [e1, f1]; clear e1 e2 e3 e4 f1 f2 f3 f4; grind
  have m2 : 4 * Q2 = 4 * Q3 := by rw [e2, f2]; clear e1 e2 e3 e4 f1 f2 f3 f4; grind
  have m3 : 4 * R2 = 4 * R3 := by rw [e3, f3]; clear e1 e2 e3 e4 f1 f2 f3 f4; grind
  have m4 : 4 * S2 = 4 * S3 := by rw [e4, f4]; clear e1 e2 e3 e4 f1 f2 f3 f4; grind
  omega
def aq (p q : Qd) : Qd :=
  ((p.1 * q.1 - p.2.1 * q.2.1 - p.2.2.1 * q.2.2.1 - p.2.2.2 * q.2.2.2).fdiv 2, (p.1 * q.2.1 + p.2.1 * q.1 + p.2.2.1 * q.2.2.2 - p.2.2.2 * q.2.2.1).fdiv 2,
    (p.1 * q.2.2.1 - p.2.1 * q.2.2.2 + p.2.2.1 * q.1 + p.2.2.2 * q.2.1).fdiv 2, (p.1 * q.2.2.2 + p.2.1 * q.2.2.1 - p.2.2.1 * q.2.1 + p.2.2.2 * q.1).fdiv 2)
def am (q : Qd) : Int := (q.1 * q.1 + (q.2.1 * q.2.1 + (q.2.2.1 * q.2.2.1 + (q.2.2.2 * q.2.2.2 + 0)))).fdiv 4
def ai (q : Qd) : Prop := nN q.1 q.2.1 q.2.2.1 q.2.2.2
def cK (M : Nat) (q : Qd) : Prop := q.1.natAbs <= M /\ q.2.1.natAbs <= M /\ q.2.2.1.natAbs <= M /\ q.2.2.2.natAbs <= M
def bS : Qd := (2, 0, 0, 0)
theorem bY {p q : Qd} (h : ai p) (g : ai q) : ∃ P Q R S, p.1 * q.1 - p.2.1 * q.2.1 - p.2.2.1 * q.2.2.1 - p.2.2.2 * q.2.2.2 = 2 * P /\ p.1 * q.2.1 + p.2.1 * q.1 + p.2.2.1 * q.2.2.2 - p.2.2.2 * q.2.2.1 = 2 * Q /\
    p.1 * q.2.2.1 - p.2.1 * q.2.2.2 + p.2.2.1 * q.1 + p.2.2.2 * q.2.1 = 2 * R /\ p.1 * q.2.2.2 + p.2.1 * q.2.2.1 - p.2.2.1 * q.2.1 + p.2.2.2 * q.1 = 2 * S /\ nN P Q R S /\ aq p q = (P, Q, R, S) := by
  obtain ⟨P, Q, R, S, h1, h2, h3, h4, h5⟩ := xO h g
  exact ⟨P, Q, R, S, h1, h2, h3, h4, h5, by unfold aq; rw [bU h1, bU h2, bU h3, bU h4]⟩
theorem bZ {p q : Qd} (h : ai p) (g : ai q) : ai (aq p q) := by
  obtain ⟨P, Q, R, S, h1, h2, h3, h4, h5, e⟩ := bY h g
  rw [e]; exact h5
theorem iZ : ai bS := ⟨0, 1, 0, 0, 0, .inl rfl, rfl, rfl, rfl, rfl⟩
theorem cu {p q r : Qd} (h : ai p) (g : ai q) (k : ai r) : aq (aq p q) r = aq p (aq q r) := by
  obtain ⟨P, Q, R, S, hP, hQ, hR, hS, p1, e1⟩ := bY h g
  obtain ⟨U, V, W, X, hU, hV, hW, hX, p2, e2⟩ := bY g k
  obtain ⟨P2, Q2, R2, S2, kP, kQ, kR, kS, p3, e3⟩ := bY (p := (P, Q, R, S)) p1 k
  obtain ⟨P3, Q3, R3, S3, lP, lQ, lR, lS, p4, e4⟩ := bY (q := (U, V, W, X)) h p2
  rw [e1, e2, e3, e4]
  obtain ⟨q1, q2, q3, q4⟩ := Ho hP hQ hR hS kP kQ kR kS hU hV hW hX lP lQ lR lS
  rw [q1, q2, q3, q4]
theorem fy (q : Qd) : aq bS q = q := by
  obtain ⟨a, b, c, d⟩ := q
  show (_, _, _, _) = _
  rw [bU (P := a) (by show 2 * a - 0 * b - 0 * c - 0 * d = _; omega), bU (P := b) (by show 2 * b + 0 * a + 0 * d - 0 * c = _; omega), bU (P := c) (by show 2 * c - 0 * d + 0 * a + 0 * b = _; omega), bU (P := d) (by show 2 * d + 0 * c - 0 * b + 0 * a = _; omega)]
theorem qE (q : Qd) : aq q bS = q := by
  obtain ⟨a, b, c, d⟩ := q
  show (_, _, _, _) = _
  rw [bU (P := a) (by show a * 2 - b * 0 - c * 0 - d * 0 = _; omega), bU (P := b) (by show a * 0 + b * 2 + c * 0 - d * 0 = _; omega), bU (P := c) (by show a * 0 - b * 0 + c * 2 + d * 0 = _; omega), bU (P := d) (by show a * 0 + b * 0 - c * 0 + d * 2 = _; omega)]
theorem re {qs : List Qd} {p : Qd} (h : ai p) (g : ∀ q ∈ qs, ai q) : ai (qs.foldl aq p) := by
  induction qs generalizing p with
  | nil => exact h
  | cons q qs ih => exact ih (bZ h (g q (by simp))) fun r hr => g r (by simp [hr])
theorem cE {p : Qd} (h : ai p) : ∃ t, p.1 * p.1 + (p.2.1 * p.2.1 + (p.2.2.1 * p.2.2.1 + (p.2.2.2 * p.2.2.2 + 0))) = 4 * t /\ am p = t := by
  obtain ⟨t, ht⟩ := Dt h
  exact ⟨t, ht, by unfold am; rw [ht, fd4]⟩
theorem cZ {p q : Qd} (h : ai p) (g : ai q) : am (aq p q) = am p * am q := by
  obtain ⟨t1, h1, e1⟩ := cE h
  obtain ⟨t2, h2, e2⟩ := cE g
  obtain ⟨t3, h3, e3⟩ := cE (bZ h g)
  rw [e1, e2, e3]
  obtain ⟨P, Q, R, S, hP, hQ, hR, hS, p1, e⟩ := bY h g
  rw [e] at h3
  have eu := Hc p.1 p.2.1 p.2.2.1 p.2.2.2 q.1 q.2.1 q.2.2.1 q.2.2.2
  rw [hP, hQ, hR, hS, h1, h2] at eu
  have : 4 * (4 * t3) = 4 * (4 * (t1 * t2)) := by rw [<- h3]; clear e h3 e1 e2 e3 h1 h2 hP hQ hR hS p1 h g; grind
  omega
theorem bA {a e : Int} {M N : Nat} (h : a.natAbs <= M) (g : e.natAbs <= N) : (a * e).natAbs <= M * N := by
  rw [Int.natAbs_mul]; exact Nat.mul_le_mul h g
theorem Oe {x y z w P : Int} {K : Nat} (h1 : x.natAbs <= K) (h2 : y.natAbs <= K) (h3 : z.natAbs <= K) (h4 : w.natAbs <= K) (e : x - y - z - w = 2 * P) : P.natAbs <= 2 * K := by omega
theorem Od {x y z w P : Int} {K : Nat} (h1 : x.natAbs <= K) (h2 : y.natAbs <= K) (h3 : z.natAbs <= K) (h4 : w.natAbs <= K) (e : x + y + z - w = 2 * P) : P.natAbs <= 2 * K := by omega
theorem Oc {x y z w P : Int} {K : Nat} (h1 : x.natAbs <= K) (h2 : y.natAbs <= K) (h3 : z.natAbs <= K) (h4 : w.natAbs <= K) (e : x - y + z + w = 2 * P) : P.natAbs <= 2 * K := by omega
theorem Ob {x y z w P : Int} {K : Nat} (h1 : x.natAbs <= K) (h2 : y.natAbs <= K) (h3 : z.natAbs <= K) (h4 : w.natAbs <= K) (e : x + y - z + w = 2 * P) : P.natAbs <= 2 * K := by omega
theorem oj {p q : Qd} {M N : Nat} (h : cK M p) (g : cK N q) (hp : ai p) (hq : ai q) : cK (2 * (M * N)) (aq p q) := by
  obtain ⟨P, Q, R, S, hP, hQ, hR, hS, p1, e⟩ := bY hp hq
  rw [e]
  obtain ⟨a1, a2, a3, a4⟩ := h
  obtain ⟨b1, b2, b3, b4⟩ := g
  exact ⟨Oe (bA a1 b1) (bA a2 b2) (bA a3 b3) (bA a4 b4) hP, Od (bA a1 b2) (bA a2 b1) (bA a3 b4) (bA a4 b3) hQ,
    Oc (bA a1 b3) (bA a2 b4) (bA a3 b1) (bA a4 b2) hR, Ob (bA a1 b4) (bA a2 b3) (bA a3 b2) (bA a4 b1) hS⟩
theorem dZ {M : Nat} {q : Qd} (h : cK M q) (hM : M < cO) : bd q.1 q.2.1 q.2.2.1 q.2.2.2 :=
  ⟨Nat.lt_of_le_of_lt h.1 hM, Nat.lt_of_le_of_lt h.2.1 hM, Nat.lt_of_le_of_lt h.2.2.1 hM, Nat.lt_of_le_of_lt h.2.2.2 hM⟩
def bG (q : Qd) : Qd := (q.1, -q.2.1, -q.2.2.1, -q.2.2.2)
def bc (p q : Qd) : Qd := (p.1 - q.1, p.2.1 - q.2.1, p.2.2.1 - q.2.2.1, p.2.2.2 - q.2.2.2)
def bW (p q : Qd) : Qd := (p.1 + q.1, p.2.1 + q.2.1, p.2.2.1 + q.2.2.1, p.2.2.2 + q.2.2.2)
def aR (q : Qd) (n : Int) : Qd := (q.1 * n, q.2.1 * n, q.2.2.1 * n, q.2.2.2 * n)
def aC (s : Bool) (p q : Qd) : Qd := if s = true then aq p q else aq q p
def au : Qd := (0, 0, 0, 0)
theorem cM {p q : Qd} (h1 : p.1 = q.1) (h2 : p.2.1 = q.2.1) (h3 : p.2.2.1 = q.2.2.1) (h4 : p.2.2.2 = q.2.2.2) : p = q := by
  obtain ⟨a, b, c, d⟩ := p
  obtain ⟨e, f, g, h⟩ := q
  cases h1; cases h2; cases h3; cases h4; rfl
theorem zD {a b x y e f : Int} (h : a = 2 * x + e) (g : b = 2 * y + f) : a - b = 2 * (x - y) + (e - f) := by omega
theorem tj {a b x y e f : Int} (h : a = 2 * x + e) (g : b = 2 * y + f) : a + b = 2 * (x + y) + (e + f) := by omega
theorem uq {a b c d x y z w : Int} {n : Int} (h1 : a = 2 * x + n) (h2 : b = 2 * y + n) (h3 : c = 2 * z + n) (h4 : d = 2 * w + n) : nN a b c d := by
  have k : ∀ {u v : Int}, u = 2 * v + n -> u = 2 * (v + n / 2) + n % 2 := by omega
  exact ⟨n % 2, _, _, _, _, Int.emod_two_eq n, k h1, k h2, k h3, k h4⟩
theorem Dh {a x e : Int} (h : a = 2 * x + e) : -a = 2 * (-x - e) + e := by omega
theorem cw {q : Qd} (h : ai q) : ai (bG q) := by
  obtain ⟨e, x, y, z, w, he, h1, h2, h3, h4⟩ := h
  exact ⟨e, x, _, _, _, he, h1, Dh h2, Dh h3, Dh h4⟩
theorem bM {p q : Qd} (h : ai p) (g : ai q) : ai (bc p q) := by
  obtain ⟨e, x, y, z, w, he, h1, h2, h3, h4⟩ := h
  obtain ⟨e', x', y', z', w', he', g1, g2, g3, g4⟩ := g
  exact uq (zD h1 g1) (zD h2 g2) (zD h3 g3) (zD h4 g4)
theorem fx {p q : Qd} (h : ai p) (g : ai q) : ai (bW p q) := by
  obtain ⟨e, x, y, z, w, he, h1, h2, h3, h4⟩ := h
  obtain ⟨e', x', y', z', w', he', g1, g2, g3, g4⟩ := g
  exact uq (tj h1 g1) (tj h2 g2) (tj h3 g3) (tj h4 g4)
theorem zB {a x e : Int} (he : e = 0 \/ e = 1) (h : a = 2 * x + e) : a % 2 = e := by omega
theorem iH {q : Qd} : ai q ↔ q.2.1 % 2 = q.1 % 2 /\ q.2.2.1 % 2 = q.1 % 2 /\ q.2.2.2 % 2 = q.1 % 2 := by
  constructor
  . rintro ⟨e, x, y, z, w, he, h1, h2, h3, h4⟩
    rw [zB he h1, zB he h2, zB he h3, zB he h4]
    exact ⟨rfl, rfl, rfl⟩
  . rintro ⟨h1, h2, h3⟩
    have k : ∀ a : Int, a = 2 * (a / 2) + a % 2 := fun a => (Int.mul_ediv_add_emod a 2).symm
    exact ⟨q.1 % 2, _, _, _, _, Int.emod_two_eq _, k _, by rw [<- h1]; exact k _, by rw [<- h2]; exact k _, by rw [<- h3]; exact k _⟩
theorem zC {a x e n : Int} (h : a = 2 * x + e) : a * n = 2 * (x * n) + e * n := by rw [h, Int.add_mul, Int.mul_assoc]
theorem e6 {q : Qd} (n : Int) (h : ai q) : ai (aR q n) := by
  obtain ⟨e, x, y, z, w, he, h1, h2, h3, h4⟩ := h
  exact uq (zC h1) (zC h2) (zC h3) (zC h4)
theorem gA : ai au := ⟨0, 0, 0, 0, 0, .inl rfl, rfl, rfl, rfl, rfl⟩
theorem bQ {s : Bool} {p q : Qd} (h : ai p) (g : ai q) : ai (aC s p q) := by
  unfold aC; split
  . exact bZ h g
  . exact bZ g h
theorem jP {a b c P U P3 : Int} (h : a = 2 * P) (g : b = 2 * U) (k : c = 2 * P3) (e : c = a - b) : P3 = P - U := by omega
theorem lI {p r q : Qd} (h : ai p) (k : ai r) (g : ai q) : aq (bc p r) q = bc (aq p q) (aq r q) := by
  obtain ⟨P, Q, R, S, hP, hQ, hR, hS, _, e1⟩ := bY h g
  obtain ⟨U, V, W, X, hU, hV, hW, hX, _, e2⟩ := bY k g
  obtain ⟨P3, Q3, R3, S3, lP, lQ, lR, lS, _, e3⟩ := bY (bM h k) g
  rw [e1, e2, e3]
  simp only [bc] at *
  clear e1 e2 e3 h k g
  refine cM ?_ ?_ ?_ ?_
  . exact jP hP hU lP (by simp only [Int.sub_mul, Int.mul_sub]; omega)
  . exact jP hQ hV lQ (by simp only [Int.sub_mul, Int.mul_sub]; omega)
  . exact jP hR hW lR (by simp only [Int.sub_mul, Int.mul_sub]; omega)
  . exact jP hS hX lS (by simp only [Int.sub_mul, Int.mul_sub]; omega)
theorem lH {p r q : Qd} (h : ai p) (k : ai r) (g : ai q) : aq q (bc p r) = bc (aq q p) (aq q r) := by
  obtain ⟨P, Q, R, S, hP, hQ, hR, hS, _, e1⟩ := bY g h
  obtain ⟨U, V, W, X, hU, hV, hW, hX, _, e2⟩ := bY g k
  obtain ⟨P3, Q3, R3, S3, lP, lQ, lR, lS, _, e3⟩ := bY g (bM h k)
  rw [e1, e2, e3]
  simp only [bc] at *
  clear e1 e2 e3 h k g
  refine cM ?_ ?_ ?_ ?_
  . exact jP hP hU lP (by simp only [Int.sub_mul, Int.mul_sub]; omega)
  . exact jP hQ hV lQ (by simp only [Int.sub_mul, Int.mul_sub]; omega)
  . exact jP hR hW lR (by simp only [Int.sub_mul, Int.mul_sub]; omega)
  . exact jP hS hX lS (by simp only [Int.sub_mul, Int.mul_sub]; omega)
theorem db (k : Qd) (n : Int) : aq k (2 * n, 0, 0, 0) = aR k n := by
  obtain ⟨a, b, c, d⟩ := k
  show (_, _, _, _) = (a * n, b * n, c * n, d * n)
  rw [bU (P := a * n) (by show a * (2 * n) - b * 0 - c * 0 - d * 0 = _; grind), bU (P := b * n) (by show a * 0 + b * (2 * n) + c * 0 - d * 0 = _; grind), bU (P := c * n) (by show a * 0 - b * 0 + c * (2 * n) + d * 0 = _; grind), bU (P := d * n) (by show a * 0 + b * 0 - c * 0 + d * (2 * n) = _; grind)]
theorem fI (k : Qd) (n : Int) : aq (2 * n, 0, 0, 0) k = aR k n := by
  obtain ⟨a, b, c, d⟩ := k
  show (_, _, _, _) = (a * n, b * n, c * n, d * n)
  rw [bU (P := a * n) (by show 2 * n * a - 0 * b - 0 * c - 0 * d = _; grind), bU (P := b * n) (by show 2 * n * b + 0 * a + 0 * d - 0 * c = _; grind), bU (P := c * n) (by show 2 * n * c - 0 * d + 0 * a + 0 * b = _; grind), bU (P := d * n) (by show 2 * n * d + 0 * c - 0 * b + 0 * a = _; grind)]
theorem dX {q : Qd} (h : ai q) : aq q (bG q) = (2 * am q, 0, 0, 0) /\ aq (bG q) q = (2 * am q, 0, 0, 0) := by
  obtain ⟨t, ht, e⟩ := cE h
  obtain ⟨a, b, c, d⟩ := q
  rw [e]
  simp only at ht
  constructor
  . show (_, _, _, _) = _
    rw [bU (P := 2 * t) (by show a * a - b * -b - c * -c - d * -d = _; grind), bU (P := 0) (by show a * -b + b * a + c * -d - d * -c = _; grind), bU (P := 0) (by show a * -c - b * -d + c * a + d * -b = _; grind), bU (P := 0) (by show a * -d + b * -c - c * -b + d * a = _; grind)]
  . show (_, _, _, _) = _
    rw [bU (P := 2 * t) (by show a * a - -b * b - -c * c - -d * d = _; grind), bU (P := 0) (by show a * b + -b * a + -c * d - -d * c = _; grind), bU (P := 0) (by show a * c - -b * d + -c * a + -d * b = _; grind), bU (P := 0) (by show a * d + -b * c - -c * b + -d * a = _; grind)]
theorem nV (q : Qd) : am (bG q) = am q := by unfold am bG; simp only [Int.neg_mul_neg]
theorem d9 (x : Int) : 0 <= x * x := by
  rcases Int.le_total 0 x with h | h
  . exact Int.mul_nonneg h h
  . have := Int.mul_nonneg (show 0 <= -x by omega) (show 0 <= -x by omega); rwa [Int.neg_mul_neg] at this
theorem c7 {q : Qd} (h : ai q) : 0 <= am q := by
  obtain ⟨t, ht, e⟩ := cE h
  have := d9 q.1; have := d9 q.2.1; have := d9 q.2.2.1; have := d9 q.2.2.2
  omega
theorem kH {x : Int} (h : x * x = 0) : x = 0 := by rcases Int.mul_eq_zero.mp h with h | h <;> exact h
theorem lW {q : Qd} (h : ai q) (g : am q = 0) : q = au := by
  obtain ⟨t, ht, e⟩ := cE h
  have := d9 q.1; have := d9 q.2.1; have := d9 q.2.2.1; have := d9 q.2.2.2
  exact cM (kH (by omega)) (kH (by omega)) (kH (by omega)) (kH (by omega))
theorem eY {q : Qd} (h : ai q) (g : q ≠ au) : 0 < am q := by
  have := c7 h
  have : am q ≠ 0 := fun z => g (lW h z)
  omega
def fO (x n : Int) : Int := (x + n).fdiv (2 * n) * 2
def gC (x n : Int) : Int := x.fdiv (2 * n) * 2 + 1
def fX (q : Qd) (n : Int) : Qd := (fO q.1 n, fO q.2.1 n, fO q.2.2.1 n, fO q.2.2.2 n)
def gX (q : Qd) (n : Int) : Qd := (gC q.1 n, gC q.2.1 n, gC q.2.2.1 n, gC q.2.2.2 n)
def fu (q t : Qd) (n : Int) : Int := am (bc q (aR t n))
def dw (q : Qd) (n : Int) : Qd := if fu q (fX q n) n <= fu q (gX q n) n then fX q n else gX q n
theorem gZ {x n : Int} (h : 0 < n) : (x - fO x n * n) * (x - fO x n * n) + (x - gC x n * n) * (x - gC x n * n) <= n * n := by
  unfold fO gC
  rw [Int.fdiv_eq_ediv_of_nonneg _ (by omega), Int.fdiv_eq_ediv_of_nonneg _ (by omega)]
  have e := Int.mul_ediv_add_emod x (2 * n)
  have r0 := Int.emod_nonneg x (show 2 * n ≠ 0 by omega)
  have r1 := Int.emod_lt_of_pos x (show 0 < 2 * n by omega)
  generalize x % (2 * n) = r at *
  generalize hk : x / (2 * n) = k at *
  have hx : x = 2 * n * k + r := by omega
  by_cases hr : r < n
  . have hd : (x + n) / (2 * n) = k := by
      rw [hx, show 2 * n * k + r + n = (r + n) + 2 * n * k by omega, Int.add_mul_ediv_left _ _ (by omega), Int.ediv_eq_zero_of_lt (by omega) (by omega)]; omega
    rw [hd]
    have h1 : x - k * 2 * n = r := by rw [hx]; grind
    have h2 : x - (k * 2 + 1) * n = r - n := by rw [hx]; grind
    rw [h1, h2]
    have := Int.mul_nonneg r0 (show 0 <= n - r by omega)
    have e2 : r * r + (r - n) * (r - n) = n * n - 2 * (r * (n - r)) := by grind
    omega
  . have hd : (x + n) / (2 * n) = k + 1 := by
      rw [hx, show 2 * n * k + r + n = (r - n) + 2 * n * (k + 1) by grind, Int.add_mul_ediv_left _ _ (by omega), Int.ediv_eq_zero_of_lt (by omega) (by omega)]; omega
    rw [hd]
    have h1 : x - (k + 1) * 2 * n = r - 2 * n := by rw [hx]; grind
    have h2 : x - (k * 2 + 1) * n = r - n := by rw [hx]; grind
    rw [h1, h2]
    have := Int.mul_nonneg (show 0 <= r - n by omega) (show 0 <= 2 * n - r by omega)
    have e2 : (r - 2 * n) * (r - 2 * n) + (r - n) * (r - n) = n * n - 2 * ((r - n) * (2 * n - r)) := by grind
    omega
theorem n8 (q : Qd) (n : Int) : ai (fX q n) := ⟨0, (q.1 + n).fdiv (2 * n), (q.2.1 + n).fdiv (2 * n), (q.2.2.1 + n).fdiv (2 * n), (q.2.2.2 + n).fdiv (2 * n), .inl rfl, by simp only [fX, fO]; omega, by simp only [fX, fO]; omega, by simp only [fX, fO]; omega, by simp only [fX, fO]; omega⟩
theorem n6 (q : Qd) (n : Int) : ai (gX q n) := ⟨1, q.1.fdiv (2 * n), q.2.1.fdiv (2 * n), q.2.2.1.fdiv (2 * n), q.2.2.2.fdiv (2 * n), .inr rfl, by simp only [gX, gC]; omega, by simp only [gX, gC]; omega, by simp only [gX, gC]; omega, by simp only [gX, gC]; omega⟩
theorem Be {q : Qd} {n : Int} (h : ai q) (g : 0 < n) : ai (dw q n) /\ 2 * fu q (dw q n) n <= n * n := by
  have c1 := gZ (x := q.1) g
  have c2 := gZ (x := q.2.1) g
  have c3 := gZ (x := q.2.2.1) g
  have c4 := gZ (x := q.2.2.2) g
  obtain ⟨t1, h1, e1⟩ := cE (bM h (e6 n (n8 q n)))
  obtain ⟨t2, h2, e2⟩ := cE (bM h (e6 n (n6 q n)))
  have s1 : fu q (fX q n) n = t1 := e1
  have s2 : fu q (gX q n) n = t2 := e2
  simp only [bc, aR, fX, gX] at h1 h2
  have : t1 + t2 <= n * n := by omega
  unfold dw
  split
  . exact ⟨n8 q n, by rw [s1] at *; omega⟩
  . exact ⟨n6 q n, by rw [s2] at *; omega⟩
theorem ux {k : Qd} {n : Int} (h : ai k) (g : 0 < n) : dw (aR k n) n = k := by
  have hp := e6 n h
  obtain ⟨e, x, y, z, w, he, h1, h2, h3, h4⟩ := h
  have ev : ∀ (a b : Int), a = 2 * b -> fO (a * n) n = a := fun a b hab => by
    unfold fO
    rw [Int.fdiv_eq_ediv_of_nonneg _ (by omega), hab, show 2 * b * n + n = n + 2 * n * b by grind, Int.add_mul_ediv_left _ _ (by omega), Int.ediv_eq_zero_of_lt (by omega) (by omega)]; omega
  have od : ∀ (a b : Int), a = 2 * b + 1 -> gC (a * n) n = a := fun a b hab => by
    unfold gC
    rw [Int.fdiv_eq_ediv_of_nonneg _ (by omega), hab, show (2 * b + 1) * n = n + 2 * n * b by grind, Int.add_mul_ediv_left _ _ (by omega), Int.ediv_eq_zero_of_lt (by omega) (by omega)]; omega
  have eo : ∀ (a b : Int), a = 2 * b + 1 -> a * n - fO (a * n) n * n = -n := fun a b hab => by
    unfold fO
    rw [Int.fdiv_eq_ediv_of_nonneg _ (by omega), hab, show (2 * b + 1) * n + n = 0 + 2 * n * (b + 1) by grind, Int.add_mul_ediv_left _ _ (by omega), Int.zero_ediv]; grind
  have zz : fu (aR k n) k n = 0 := by
    unfold fu bc aR am
    simp only [Int.sub_self]; decide
  rcases he with rfl | rfl
  . have hev : fX (aR k n) n = k := cM (ev _ x (by omega)) (ev _ y (by omega)) (ev _ z (by omega)) (ev _ w (by omega))
    unfold dw
    rw [hev, zz, if_pos]
    exact c7 (bM hp (e6 n (n6 _ n)))
  . have hod : gX (aR k n) n = k := cM (od _ x (by omega)) (od _ y (by omega)) (od _ z (by omega)) (od _ w (by omega))
    obtain ⟨t, ht, e⟩ := cE (bM hp (e6 n (n8 (aR k n) n)))
    have s1 : fu (aR k n) (fX (aR k n) n) n = t := e
    simp only [bc, fX] at ht
    simp only [aR] at ht
    rw [eo _ x (by omega), eo _ y (by omega), eo _ z (by omega), eo _ w (by omega), Int.neg_mul_neg] at ht
    have := Int.mul_pos g g
    unfold dw
    rw [hod, zz, s1, if_neg (by omega)]
def cF (s : Bool) (p q : Qd) : Qd := dw (aC s p (bG q)) (am q)
def cY (s : Bool) (p q : Qd) : Qd := bc p (aC s (cF s p q) q)
theorem lZ {s : Bool} {p q k : Qd} (hp : ai p) (hq : ai q) (hk : ai k) : aC s (bc p (aC s k q)) (bG q) = bc (aC s p (bG q)) (aR k (am q)) := by
  have hb := cw hq
  unfold aC
  cases s with
  | true =>
    simp only [if_true]
    rw [lI hp (bZ hk hq) hb, cu hk hq hb, (dX hq).1, db]
  | false =>
    simp only [Bool.false_eq_true, if_false]
    rw [lH hp (bZ hq hk) hb, <- cu hb hq hk, (dX hq).2, fI]
theorem eZ {s : Bool} {p q : Qd} (hp : ai p) (hq : ai q) : am (aC s p q) = am p * am q := by
  unfold aC
  split
  . exact cZ hp hq
  . rw [cZ hq hp, Int.mul_comm]
theorem iM {s : Bool} {p q : Qd} (hp : ai p) (hq : ai q) (h0 : q ≠ au) : ai (cF s p q) /\ ai (cY s p q) /\ 2 * am (cY s p q) <= am q := by
  have hn := eY hq h0
  obtain ⟨hk, hs⟩ := Be (bQ (s := s) hp (cw hq)) hn
  have hr : ai (cY s p q) := bM hp (bQ hk hq)
  refine ⟨hk, hr, ?_⟩
  have e := eZ (s := s) hr (cw hq)
  rw [nV] at e
  have e2 : am (aC s (cY s p q) (bG q)) = fu (aC s p (bG q)) (cF s p q) (am q) := by
    unfold cY fu
    rw [lZ (k := cF s p q) hp hq hk]
  rw [e] at e2
  have hs' : 2 * (am (cY s p q) * am q) <= am q * am q := by rw [e2]; exact hs
  have h3 : 2 * am (cY s p q) * am q <= am q * am q := by rw [Int.mul_assoc]; exact hs'
  exact Int.le_of_mul_le_mul_right h3 hn
theorem wD {s : Bool} {p q k : Qd} (hp : ai p) (hq : ai q) (h0 : q ≠ au) (hk : ai k) (h : aC s p (bG q) = aR k (am q)) : cF s p q = k /\ cY s p q = au := by
  have hn := eY hq h0
  have e1 : cF s p q = k := by unfold cF; rw [h, ux hk hn]
  have hr : ai (cY s p q) := bM hp (bQ (by rw [e1]; exact hk) hq)
  refine ⟨e1, lW hr ?_⟩
  have e := eZ (s := s) hr (cw hq)
  have e2 := lZ (s := s) hp hq hk
  have e3 : aC s (cY s p q) (bG q) = au := by
    unfold cY
    rw [e1, e2, h]
    unfold bc au
    simp only [Int.sub_self]
  rw [e3, nV] at e
  have : am au = 0 := by decide
  rw [this] at e
  rcases Int.mul_eq_zero.mp e.symm with z | z
  . exact z
  . omega
end K
set_option Elab.async false
set_option linter.all false
set_option maxRecDepth 100000
namespace K
open PySem L2 Sp Qm
abbrev vK (q t : Qd) (n : Int) : Prop := dm t /\ n.natAbs < cO /\ dm (bc q (aR t n))
abbrev xR (q : Qd) (n : Int) : Prop := 0 < n /\ (2 * n).natAbs < cO /\ vK q (fX q n) n /\ vK q (gX q n) n
abbrev okD (s : Bool) (p q : Qd) : Prop := dm p /\ dm q /\ dm (bG q) /\ xR (aC s p (bG q)) (am q) /\ dm (cF s p q)
theorem dy {M N : Nat} {q : Qd} (h : cK M q) (g : M <= N) : cK N q := ⟨Nat.le_trans h.1 g, Nat.le_trans h.2.1 g, Nat.le_trans h.2.2.1 g, Nat.le_trans h.2.2.2 g⟩
theorem tH {M : Nat} {q : Qd} (h : cK M q) : cK M (bG q) := ⟨h.1, by simp only [bG, Int.natAbs_neg]; exact h.2.1, by simp only [bG, Int.natAbs_neg]; exact h.2.2.1, by simp only [bG, Int.natAbs_neg]; exact h.2.2.2⟩
theorem Bk {s : Bool} {M N : Nat} {p q : Qd} (h : cK M p) (g : cK N q) (hp : ai p) (hq : ai q) : cK (2 * (M * N)) (aC s p q) := by
  unfold aC; split
  . exact oj h g hp hq
  . rw [Nat.mul_comm M N]; exact oj g h hq hp
theorem uz {x y : Int} {M N : Nat} (h : x.natAbs <= M) (g : y.natAbs <= N) : (x - y).natAbs <= M + N := by omega
theorem uy {x y : Int} {M N : Nat} (h : x.natAbs <= M) (g : y.natAbs <= N) : (x + y).natAbs <= M + N := by omega
theorem me {M N : Nat} {p q : Qd} (h : cK M p) (g : cK N q) : cK (M + N) (bc p q) := ⟨uz h.1 g.1, uz h.2.1 g.2.1, uz h.2.2.1 g.2.2.1, uz h.2.2.2 g.2.2.2⟩
theorem Bj {M N : Nat} {p q : Qd} (h : cK M p) (g : cK N q) : cK (M + N) (bW p q) := ⟨uy h.1 g.1, uy h.2.1 g.2.1, uy h.2.2.1 g.2.2.1, uy h.2.2.2 g.2.2.2⟩
theorem qI {M N : Nat} {q : Qd} {n : Int} (h : cK M q) (g : n.natAbs <= N) : cK (M * N) (aR q n) := ⟨bA h.1 g, bA h.2.1 g, bA h.2.2.1 g, bA h.2.2.2 g⟩
theorem tT (x : Int) {n : Int} (h : 0 < n) : (x.fdiv n).natAbs <= x.natAbs := by
  rw [Int.fdiv_eq_ediv_of_nonneg _ (by omega)]
  exact Int.natAbs_ediv_le_natAbs x n
theorem vX {M N : Nat} {q : Qd} {n : Int} (h : cK M q) (g : n.natAbs <= N) (hn : 0 < n) : cK (2 * (M + N)) (fX q n) := by
  have k : ∀ x : Int, x.natAbs <= M -> (fO x n).natAbs <= 2 * (M + N) := fun x hx => by
    have := tT (x + n) (show 0 < 2 * n by omega)
    unfold fO; omega
  exact ⟨k _ h.1, k _ h.2.1, k _ h.2.2.1, k _ h.2.2.2⟩
theorem vW {M : Nat} {q : Qd} {n : Int} (h : cK M q) (hn : 0 < n) : cK (2 * M + 1) (gX q n) := by
  have k : ∀ x : Int, x.natAbs <= M -> (gC x n).natAbs <= 2 * M + 1 := fun x hx => by
    have := tT x (show 0 < 2 * n by omega)
    unfold gC; omega
  exact ⟨k _ h.1, k _ h.2.1, k _ h.2.2.1, k _ h.2.2.2⟩
theorem xX {M N : Nat} {q : Qd} {n : Int} (h : cK M q) (g : n.natAbs <= N) (hn : 0 < n) : cK (2 * (M + N) + 1) (dw q n) := by
  unfold dw; split
  . exact dy (vX h g hn) (by omega)
  . exact dy (vW h hn) (by omega)
theorem vv {q : Qd} {M : Nat} (h : cK M q) : (am q).natAbs <= M * M := by
  obtain ⟨a1, a2, a3, a4⟩ := h
  have c1 := bA a1 a1; have c2 := bA a2 a2; have c3 := bA a3 a3; have c4' := bA a4 a4
  unfold am
  rw [Int.fdiv_eq_ediv_of_nonneg _ (by decide)]
  generalize q.1 * q.1 = x at *
  generalize q.2.1 * q.2.1 = y at *
  generalize q.2.2.1 * q.2.2.1 = z at *
  generalize q.2.2.2 * q.2.2.2 = w at *
  generalize M * M = K at *
  omega
theorem dW {M : Nat} {q : Qd} {n : Int} (h : cK M q) (g : n.natAbs <= M) (hn : 0 < n) (hM : 4 * M + 1 + (4 * M + 1) * M < cO) : xR q n := by
  have hM0 : 4 * M + 1 < cO := Nat.lt_of_le_of_lt (Nat.le_add_right _ _) hM
  have e1 : cK (4 * M + 1) (fX q n) := dy (vX h g hn) (by omega)
  have e2 : cK (4 * M + 1) (gX q n) := dy (vW h hn) (by omega)
  refine ⟨hn, by omega, ⟨dZ e1 hM0, by omega, ?_⟩, dZ e2 hM0, by omega, ?_⟩
  . exact dZ (dy (me h (qI e1 g)) (by omega)) hM
  . exact dZ (dy (me h (qI e2 g)) (by omega)) hM
def yG (L : Nat) : Prop := 1 <= L /\ 4 * (2 * (L * L)) + 1 + (4 * (2 * (L * L)) + 1) * (2 * (L * L)) < cO
theorem vL {s : Bool} {L : Nat} {p q : Qd} (hp : ai p) (hq : ai q) (h0 : q ≠ au) (h : cK L p) (g : cK L q) (hL : yG L) : okD s p q := by
  obtain ⟨h1, hL⟩ := hL
  have hn := eY hq h0
  have hLL : L <= L * L := Nat.le_mul_of_pos_left L h1
  have hb : 4 * (2 * (L * L)) + 1 < cO := Nat.lt_of_le_of_lt (Nat.le_add_right _ _) hL
  have hLb : L < cO := by omega
  have w := Bk (s := s) h (tH g) hp (cw hq)
  have sz := vv g
  refine ⟨dZ h hLb, dZ g hLb, dZ (tH g) hLb, dW w (by omega) hn hL, ?_⟩
  unfold cF
  exact dZ (dy (xX w (N := 2 * (L * L)) (by omega) hn) (by omega)) hb
theorem rM {n : Nat} (h : n <= 2000) : yG (2 ^ n) := by
  refine ⟨Nat.one_le_two_pow, ?_⟩
  have e : 2 ^ n * 2 ^ n = 2 ^ (n + n) := (Nat.pow_add 2 n n).symm
  rw [e]
  have k : 2 ^ (n + n) <= 2 ^ 4000 := Nat.pow_le_pow_right (by decide) (by omega)
  generalize 2 ^ (n + n) = x at k
  have b1 : (4 * (2 * x) + 1) * (2 * x) <= 9 * 2 ^ 4000 * (2 * 2 ^ 4000) := Nat.mul_le_mul (by have : 1 <= 2 ^ 4000 := Nat.one_le_two_pow; omega) (by omega)
  have b2 : 9 * 2 ^ 4000 * (2 * 2 ^ 4000) = 18 * 2 ^ 8000 := by rw [show (8000 : Nat) = 4000 + 4000 from rfl, Nat.pow_add]; generalize 2 ^ 4000 = y; grind
  have b3 : 2 ^ 4000 <= 2 ^ 8000 := Nat.pow_le_pow_right (by decide) (by decide)
  have b4 : 32 * 2 ^ 8000 = 2 ^ 8005 := by rw [show (8005 : Nat) = 5 + 8000 from rfl, Nat.pow_add 2 5 8000]
  have b5 : 2 ^ 8005 < cO := Nat.pow_lt_pow_right (by decide) (by decide)
  have b6 : 1 <= 2 ^ 8000 := Nat.one_le_two_pow
  rw [b2] at b1
  generalize 2 ^ 4000 = y at *
  generalize 2 ^ 8000 = z at *
  generalize (4 * (2 * x) + 1) * (2 * x) = w at *
  omega
def oy (q : Qd) (n : Int) : Qd := (q.1.fdiv n, q.2.1.fdiv n, q.2.2.1.fdiv n, q.2.2.2.fdiv n)
abbrev DL (q : Qd) (n : Int) : Prop := q.1.fmod n = 0 /\ q.2.1.fmod n = 0 /\ q.2.2.1.fmod n = 0 /\ q.2.2.2.fmod n = 0
abbrev ur (q : Qd) : Prop := q.2.1.fmod 2 = q.1.fmod 2 /\ q.2.2.1.fmod 2 = q.1.fmod 2 /\ q.2.2.2.fmod 2 = q.1.fmod 2
def wx (W : Qd) (n : Int) : D := if DL W n /\ ur (oy W n) then dq (oy W n) else .non
def qL (s : Bool) (p q : Qd) : D := wx (aC s p (bG q)) (am q)
theorem md {q : Qd} : ur q ↔ ai q := by
  rw [iH]; unfold ur; simp only [Int.fmod_eq_emod_of_nonneg _ (show (0 : Int) <= 2 by decide)]
theorem b0 (a : Int) {n : Int} (h : 0 < n) : (a * n).fmod n = 0 /\ (a * n).fdiv n = a := by
  rw [Int.fmod_eq_emod_of_nonneg _ (by omega), Int.fdiv_eq_ediv_of_nonneg _ (by omega)]
  exact ⟨Int.mul_emod_left _ _, Int.mul_ediv_cancel _ (by omega)⟩
theorem BI {k W : Qd} {n : Int} (hn : 0 < n) (hk : ai k) (h : W = aR k n) : wx W n = dq k := by
  subst h
  have hd : oy (aR k n) n = k := cM (b0 _ hn).2 (b0 _ hn).2 (b0 _ hn).2 (b0 _ hn).2
  unfold wx
  rw [hd, if_pos ⟨⟨(b0 _ hn).1, (b0 _ hn).1, (b0 _ hn).1, (b0 _ hn).1⟩, md.mpr hk⟩]
theorem yr {W : Qd} {n : Int} (hn : 0 < n) : (∃ k, ai k /\ W = aR k n /\ wx W n = dq k) \/ (wx W n = .non /\ ∀ k, ai k -> W ≠ aR k n) := by
  by_cases h : DL W n /\ ur (oy W n)
  . refine .inl ⟨oy W n, md.mp h.2, ?_, if_pos h⟩
    have e : ∀ x : Int, x.fmod n = 0 -> x = x.fdiv n * n := fun x hx => by
      have := Int.mul_fdiv_add_fmod x n
      rw [hx, Int.add_zero, Int.mul_comm] at this; exact this.symm
    exact cM (e _ h.1.1) (e _ h.1.2.1) (e _ h.1.2.2.1) (e _ h.1.2.2.2)
  . refine .inr ⟨if_neg h, fun k hk e => h ?_⟩
    have hd : oy (aR k n) n = k := cM (b0 _ hn).2 (b0 _ hn).2 (b0 _ hn).2 (b0 _ hn).2
    subst e
    exact ⟨⟨(b0 _ hn).1, (b0 _ hn).1, (b0 _ hn).1, (b0 _ hn).1⟩, by rw [hd]; exact md.mpr hk⟩
theorem pB (x : Int) : (x.natAbs : Int) <= x * x := by
  rw [<- Int.natAbs_mul_self' x]
  have : x.natAbs <= x.natAbs * x.natAbs := by
    rcases Nat.eq_zero_or_pos x.natAbs with h | h
    . omega
    . exact Nat.le_mul_of_pos_left _ h
  exact_mod_cast this
theorem jO {q : Qd} {K : Nat} (h : ai q) (g : am q <= K) : cK (4 * K) q := by
  obtain ⟨t, ht, e⟩ := cE h
  rw [e] at g
  have s1 := d9 q.1; have s2 := d9 q.2.1; have s3 := d9 q.2.2.1; have s4 := d9 q.2.2.2
  have r1 := pB q.1; have r2 := pB q.2.1; have r3 := pB q.2.2.1; have r4 := pB q.2.2.2
  refine ⟨?_, ?_, ?_, ?_⟩ <;> omega
def ir (s : Bool) (p q : Qd) : D := if cY s p q = au then dq (cF s p q) else .non
theorem qM {p q : Qd} (h : bc p q = au) : p = q := by
  unfold bc au at h
  have h1 := congrArg (·.1) h
  have h2 := congrArg (·.2.1) h
  have h3 := congrArg (·.2.2.1) h
  have h4 := congrArg (·.2.2.2) h
  simp only at h1 h2 h3 h4
  exact cM (by omega) (by omega) (by omega) (by omega)
theorem kO (q : Qd) : aq au q = au /\ aq q au = au := by
  unfold aq au
  simp only [Int.zero_mul, Int.mul_zero, Int.sub_zero, Int.add_zero]
  exact ⟨by decide, by decide⟩
theorem iP (s : Bool) (q : Qd) : aC s au q = au := by
  unfold aC; split
  . exact (kO q).1
  . exact (kO q).2
theorem BH {s : Bool} {p q : Qd} (hp : ai p) (hq : ai q) (h0 : q ≠ au) : ir s p q = qL s p q := by
  obtain ⟨d1, d2, _⟩ := iM (s := s) hp hq h0
  rcases yr (W := aC s p (bG q)) (eY hq h0) with ⟨k, k1, k2, k3⟩ | ⟨k1, k2⟩
  . obtain ⟨e1, e2⟩ := wD hp hq h0 k1 k2
    unfold ir qL
    rw [if_pos e2, e1, k3]
  . unfold qL
    rw [k1]
    refine if_neg fun e => k2 _ d1 (qM ?_)
    rw [<- lZ hp hq d1]
    show aC s (cY s p q) (bG q) = _
    rw [e, iP]
theorem yH {s : Bool} {q : Qd} (hq : ai q) : aC s q (bG q) = aR bS (am q) := by
  have e : aR bS (am q) = (2 * am q, 0, 0, 0) := by unfold aR bS; simp
  rw [e]
  unfold aC; split
  . exact (dX hq).1
  . exact (dX hq).2
theorem mQ {p r q : Qd} (h : ai p) (k : ai r) (g : ai q) : aq (bW p r) q = bW (aq p q) (aq r q) := by
  obtain ⟨P, Q, R, S, hP, hQ, hR, hS, _, e1⟩ := bY h g
  obtain ⟨U, V, W, X, hU, hV, hW, hX, _, e2⟩ := bY k g
  obtain ⟨P3, Q3, R3, S3, lP, lQ, lR, lS, _, e3⟩ := bY (fx h k) g
  rw [e1, e2, e3]
  simp only [bW] at *
  clear e1 e2 e3 h k g
  refine cM ?_ ?_ ?_ ?_
  . show P3 = P + U; grind
  . show Q3 = Q + V; grind
  . show R3 = R + W; grind
  . show S3 = S + X; grind
theorem mP {p r q : Qd} (h : ai p) (k : ai r) (g : ai q) : aq q (bW p r) = bW (aq q p) (aq q r) := by
  obtain ⟨P, Q, R, S, hP, hQ, hR, hS, _, e1⟩ := bY g h
  obtain ⟨U, V, W, X, hU, hV, hW, hX, _, e2⟩ := bY g k
  obtain ⟨P3, Q3, R3, S3, lP, lQ, lR, lS, _, e3⟩ := bY g (fx h k)
  rw [e1, e2, e3]
  simp only [bW] at *
  clear e1 e2 e3 h k g
  refine cM ?_ ?_ ?_ ?_
  . show P3 = P + U; grind
  . show Q3 = Q + V; grind
  . show R3 = R + W; grind
  . show S3 = S + X; grind
theorem pi {s : Bool} {p r q : Qd} (h : ai p) (k : ai r) (g : ai q) : aC s (bW p r) q = bW (aC s p q) (aC s r q) := by
  unfold aC; cases s
  . exact mP h k g
  . exact mQ h k g
theorem ph {s : Bool} {p r q : Qd} (h : ai p) (k : ai r) (g : ai q) : aC s q (bW p r) = bW (aC s q p) (aC s q r) := by
  unfold aC; cases s
  . exact mQ h k g
  . exact mP h k g
theorem ji {s : Bool} {p r q : Qd} (h : ai p) (k : ai r) (g : ai q) : aC s (bc p r) q = bc (aC s p q) (aC s r q) := by
  unfold aC; cases s
  . exact lH h k g
  . exact lI h k g
theorem fP {s : Bool} {p q r : Qd} (h : ai p) (g : ai q) (k : ai r) : aC s (aC s p q) r = aC s p (aC s q r) := by
  unfold aC; cases s
  . exact (cu k g h).symm
  . exact cu h g k
theorem lm (s : Bool) (q : Qd) : aC s bS q = q := by
  unfold aC; cases s
  . exact qE q
  . exact fy q
theorem yI (s : Bool) (q : Qd) : aC s q au = au := by
  unfold aC; split
  . exact (kO q).2
  . exact (kO q).1
abbrev eB := Qd × Qd × Qd
structure lu (s : Bool) (p q : Qd) (r : eB) : Prop where
  h0 : ai r.1
  h1 : ai r.2.1
  h2 : ai r.2.2
  sum : bW (aC s r.2.1 p) (aC s r.2.2 q) = r.1
def pG (s : Bool) (a b : eB) : eB := (bc a.1 (aC s (cF s a.1 b.1) b.1), bc a.2.1 (aC s (cF s a.1 b.1) b.2.1), bc a.2.2 (aC s (cF s a.1 b.1) b.2.2))
theorem Bd {s : Bool} {p q : Qd} {a b : eB} (hp : ai p) (hq : ai q) (ha : lu s p q a) (hb : lu s p q b) (h0 : b.1 ≠ au) : lu s p q (pG s a b) := by
  obtain ⟨d1, d2, _⟩ := iM (s := s) ha.h0 hb.h0 h0
  refine ⟨bM ha.h0 (bQ d1 hb.h0), bM ha.h1 (bQ d1 hb.h1), bM ha.h2 (bQ d1 hb.h2), ?_⟩
  show bW (aC s (bc a.2.1 (aC s (cF s a.1 b.1) b.2.1)) p) (aC s (bc a.2.2 (aC s (cF s a.1 b.1) b.2.2)) q) = bc a.1 (aC s (cF s a.1 b.1) b.1)
  generalize cF s a.1 b.1 = k at *
  rw [ji ha.h1 (bQ d1 hb.h1) hp, ji ha.h2 (bQ d1 hb.h2) hq, fP d1 hb.h1 hp, fP d1 hb.h2 hq]
  rw [<- ha.sum]
  conv => rhs; rw [<- hb.sum]
  rw [ph (bQ hb.h1 hp) (bQ hb.h2 hq) d1]
  unfold bW bc
  exact cM (by simp only; omega) (by simp only; omega) (by simp only; omega) (by simp only; omega)
def pL (s : Bool) (p a b : Qd) : Prop := ∃ u v, ai u /\ ai v /\ p = bW (aC s u a) (aC s v b)
theorem mF {s : Bool} {p a b k : Qd} (ha : ai a) (hb : ai b) (hk : ai k) (h : pL s p a b) : pL s p b (bc a (aC s k b)) := by
  obtain ⟨u, v, hu, hv, rfl⟩ := h
  refine ⟨bW (aC s u k) v, u, fx (bQ hu hk) hv, hu, ?_⟩
  rw [pi (bQ hu hk) hv hb, fP hu hk hb]
  have e : aC s u a = bW (aC s u (aC s k b)) (aC s u (bc a (aC s k b))) := by
    rw [<- ph (bQ hk hb) (bM ha (bQ hk hb)) hu]
    congr 1
    unfold bW bc
    exact cM (by simp only; omega) (by simp only; omega) (by simp only; omega) (by simp only; omega)
  rw [e]
  unfold bW
  exact cM (by simp only; omega) (by simp only; omega) (by simp only; omega) (by simp only; omega)
theorem sQ {p q : Qd} (hp : ai p) (hq : ai q) : am (bc p q) <= 2 * am p + 2 * am q := by
  obtain ⟨t1, h1, e1⟩ := cE hp
  obtain ⟨t2, h2, e2⟩ := cE hq
  obtain ⟨t3, h3, e3⟩ := cE (bM hp hq)
  rw [e1, e2, e3]
  simp only [bc] at h3
  have k : ∀ x y : Int, (x - y) * (x - y) <= 2 * (x * x) + 2 * (y * y) := fun x y => by
    have := d9 (x + y)
    have e : (x - y) * (x - y) = 2 * (x * x) + 2 * (y * y) - (x + y) * (x + y) := by grind
    omega
  have := k p.1 q.1; have := k p.2.1 q.2.1; have := k p.2.2.1 q.2.2.1; have := k p.2.2.2 q.2.2.2
  omega
theorem C4 {s : Bool} {a b : Qd} (ha : ai a) (hb : ai b) (h0 : b ≠ au) : am (cF s a b) * am b <= 2 * am a + am b := by
  obtain ⟨d1, d2, d3⟩ := iM (s := s) ha hb h0
  rw [<- eZ (s := s) d1 hb]
  have e : aC s (cF s a b) b = bc a (cY s a b) := by unfold cY bc; exact cM (by simp only; omega) (by simp only; omega) (by simp only; omega) (by simp only; omega)
  rw [e]
  have := sQ ha d2
  omega
structure Gr (E A B Na Nb : Int) : Prop where
  a : A <= E
  b : B <= E
  ba : B * Na <= E
  ab : A * Nb <= E
  bb : B * Nb <= E
theorem tP {s : Bool} {a b x y : Qd} {E : Int} (ha : ai a) (hb : ai b) (hx : ai x) (hy : ai y) (h0 : b ≠ au) (hE : 0 <= E) (g : Gr E (am x) (am y) (am a) (am b)) :
    Gr (8 * E) (am y) (am (bc x (aC s (cF s a b) y))) (am b) (am (cY s a b)) := by
  obtain ⟨d1, d2, d3⟩ := iM (s := s) ha hb h0
  have nb := eY hb h0
  have nx := c7 hx; have ny := c7 hy; have nr := c7 d2; have na := c7 ha
  have q1 := C4 (s := s) ha hb h0
  have l1 := sQ hx (bQ (s := s) d1 hy)
  rw [eZ d1 hy] at l1
  have nz := c7 (bM hx (bQ (s := s) d1 hy))
  generalize am (bc x (aC s (cF s a b) y)) = z at *
  generalize am (cF s a b) = k at *
  generalize am (cY s a b) = r at *
  generalize am a = Na at *
  generalize am b = Nb at *
  generalize am x = X at *
  generalize am y = Y at *
  obtain ⟨g1, g2, g3, g4, g5⟩ := g
  have m1 : k * Y * Nb <= 2 * (Y * Na) + Y * Nb := by
    have := Int.mul_le_mul_of_nonneg_left q1 ny
    have e1 : Y * (k * Nb) = k * Y * Nb := by grind
    have e2 : Y * (2 * Na + Nb) = 2 * (Y * Na) + Y * Nb := by grind
    omega
  have m2 : z * Nb <= 8 * E := by
    have := Int.mul_le_mul_of_nonneg_right l1 (show 0 <= Nb by omega)
    have e1 : (2 * X + 2 * (k * Y)) * Nb = 2 * (X * Nb) + 2 * (k * Y * Nb) := by grind
    omega
  have m3 : z <= z * Nb := by
    have := Int.mul_le_mul_of_nonneg_left (show 1 <= Nb by omega) nz
    omega
  have m4 : Y * r <= Y * Nb := Int.mul_le_mul_of_nonneg_left (by omega) ny
  have m5 : z * r <= z * Nb := Int.mul_le_mul_of_nonneg_left (by omega) nz
  exact ⟨by omega, by omega, m2, by omega, by omega⟩
def KN : Nat := 2 ^ 800
def EM : Nat := 2 ^ 3400
theorem FC : yG (4 * KN) := by
  have : 4 * KN = 2 ^ 802 := by unfold KN; rw [show (802 : Nat) = 2 + 800 from rfl, Nat.pow_add]
  rw [this]; exact rM (by decide)
theorem xk : 4 * EM < cO := by
  have : 4 * EM = 2 ^ 3402 := by unfold EM; rw [show (3402 : Nat) = 2 + 3400 from rfl, Nat.pow_add]
  rw [this]; exact Nat.pow_lt_pow_right (by decide) (by decide)
theorem FU : 1 <= KN := Nat.one_le_two_pow
theorem Hr : KN * 8 ^ 801 <= EM := by
  unfold KN EM
  rw [show (8 : Nat) = 2 ^ 3 from rfl, <- Nat.pow_mul, <- Nat.pow_add]
  exact Nat.pow_le_pow_right (by decide) (by decide)
structure fQ (s : Bool) (p q : Qd) (m E : Nat) (a b : eB) : Prop where
  ra : lu s p q a
  rb : lu s p q b
  sp : pL s p a.1 b.1
  sq : pL s q a.1 b.1
  lt : am b.1 < ((2 ^ m : Nat) : Int)
  ka : am a.1 <= (KN : Nat)
  kb : am b.1 <= (KN : Nat)
  gs : Gr (E : Nat) (am a.2.1) (am b.2.1) (am a.1) (am b.1)
  gt : Gr (E : Nat) (am a.2.2) (am b.2.2) (am a.1) (am b.1)
  em : E * 8 ^ m <= EM
theorem fQ.step {s : Bool} {p q : Qd} {m E : Nat} {a b : eB} (hp : ai p) (hq : ai q) (h : fQ s p q m E a b) (h0 : b.1 ≠ au) : ∃ m', m = m' + 1 /\ fQ s p q m' (8 * E) b (pG s a b) := by
  obtain ⟨d1, d2, d3⟩ := iM (s := s) h.ra.h0 h.rb.h0 h0
  have nb := eY h.rb.h0 h0
  have hm : m ≠ 0 := fun z => by have := h.lt; subst z; simp at this; omega
  obtain ⟨m', rfl⟩ : ∃ k, m = k + 1 := ⟨m - 1, by omega⟩
  refine ⟨m', rfl, h.rb, Bd hp hq h.ra h.rb h0, mF h.ra.h0 h.rb.h0 d1 h.sp, mF h.ra.h0 h.rb.h0 d1 h.sq, ?_, h.kb, ?_, ?_, ?_, ?_⟩
  . show am (cY s a.1 b.1) < _
    have := h.lt
    rw [Nat.pow_succ] at this
    omega
  . show am (cY s a.1 b.1) <= _
    have := h.kb
    omega
  . have := tP (s := s) h.ra.h0 h.rb.h0 h.ra.h1 h.rb.h1 h0 (Int.natCast_nonneg E) h.gs
    rw [Int.natCast_mul]; exact this
  . have := tP (s := s) h.ra.h0 h.rb.h0 h.ra.h2 h.rb.h2 h0 (Int.natCast_nonneg E) h.gt
    rw [Int.natCast_mul]; exact this
  . have := h.em
    rw [Nat.pow_succ] at this
    rw [show 8 * E * 8 ^ m' = E * (8 ^ m' * 8) by grind]; exact this
theorem fQ.E_le {s : Bool} {p q : Qd} {m E : Nat} {a b : eB} (h : fQ s p q m E a b) : E <= EM := Nat.le_trans (Nat.le_mul_of_pos_right E (Nat.pow_pos (by decide))) h.em
theorem fQ.bd {s : Bool} {p q : Qd} {m E : Nat} {a b : eB} (h : fQ s p q m E a b) (h0 : b.1 ≠ au) : okD s a.1 b.1 /\ dm b.1 /\ dm b.2.1 /\ dm b.2.2 := by
  have la := jO h.ra.h0 h.ka
  have lb := jO h.rb.h0 h.kb
  have k := vL (s := s) h.ra.h0 h.rb.h0 h0 la lb FC
  have e := h.E_le
  have b1 := h.gs.b
  have b2 := h.gt.b
  exact ⟨k, k.2.1, dZ (jO (K := EM) h.rb.h1 (by omega)) xk, dZ (jO (K := EM) h.rb.h2 (by omega)) xk⟩
theorem fQ.start {s : Bool} {p q : Qd} (hp : ai p) (hq : ai q) (kp : am p <= (KN : Nat)) (kq : am q <= (KN : Nat)) : fQ s p q 801 KN (p, bS, au) (q, au, bS) := by
  have hk := FU
  have s1 : am bS = 1 := by decide
  have s0 : am au = 0 := by decide
  have np := c7 hp
  have nq := c7 hq
  refine ⟨⟨hp, iZ, gA, ?_⟩, ⟨hq, gA, iZ, ?_⟩, ⟨bS, au, iZ, gA, ?_⟩, ⟨au, bS, gA, iZ, ?_⟩, ?_, kp, kq, ?_, ?_, Hr⟩
  . show bW (aC s bS p) (aC s au q) = p
    rw [lm, iP]; unfold bW au; exact cM (by simp) (by simp) (by simp) (by simp)
  . show bW (aC s au p) (aC s bS q) = q
    rw [lm, iP]; unfold bW au; exact cM (by simp) (by simp) (by simp) (by simp)
  . show p = bW (aC s bS p) (aC s au q)
    rw [lm, iP]; unfold bW au; exact cM (by simp) (by simp) (by simp) (by simp)
  . show q = bW (aC s au p) (aC s bS q)
    rw [lm, iP]; unfold bW au; exact cM (by simp) (by simp) (by simp) (by simp)
  . show am q < ((2 ^ 801 : Nat) : Int)
    have : KN < 2 ^ 801 := Nat.pow_lt_pow_right (by decide) (by decide)
    omega
  . show Gr _ (am bS) (am au) (am p) (am q)
    rw [s1, s0]
    exact ⟨by omega, by omega, by omega, by omega, by omega⟩
  . show Gr _ (am au) (am bS) (am p) (am q)
    rw [s1, s0]
    exact ⟨by omega, by omega, by omega, by omega, by omega⟩
structure xh (s : Bool) (p q : Qd) (a : eB) : Prop where
  ra : lu s p q a
  dp : ∃ u, ai u /\ p = aC s u a.1
  dq' : ∃ u, ai u /\ q = aC s u a.1
  k0 : am a.1 <= (KN : Nat)
  k1 : am a.2.1 <= (EM : Nat)
  k2 : am a.2.2 <= (EM : Nat)
theorem fQ.fin {s : Bool} {p q : Qd} {m E : Nat} {a b : eB} (h : fQ s p q m E a b) (h0 : b.1 = au) : xh s p q a := by
  have sp := h.sp
  have sq := h.sq
  rw [h0] at sp sq
  have e := h.E_le
  have b1 := h.gs.a
  have b2 := h.gt.a
  have z : ∀ u v : Qd, bW (aC s u a.1) (aC s v au) = aC s u a.1 := fun u v => by
    rw [yI]; unfold bW au; exact cM (by simp) (by simp) (by simp) (by simp)
  obtain ⟨u, v, hu, hv, e1⟩ := sp
  obtain ⟨u', v', hu', hv', e2⟩ := sq
  exact ⟨h.ra, ⟨u, hu, by rw [e1, z]⟩, ⟨u', hu', by rw [e2, z]⟩, h.ka, by omega, by omega⟩
theorem vV (n : Int) : aR bS n = (2 * n, 0, 0, 0) := by unfold aR bS; simp
theorem x9 {s : Bool} {p d u : Qd} (hu : ai u) (hd : ai d) (h0 : d ≠ au) (h : p = aC s u d) : qL s p d = dq u := by
  unfold qL
  refine BI (eY hd h0) hu ?_
  rw [h, fP hu hd (cw hd), yH hd, vV]
  unfold aC; split
  . exact db u _
  . exact fI u _
end K
set_option Elab.async false
set_option linter.all false
set_option maxRecDepth 100000
namespace K
open PySem L2 Sp Qm
def N7 (s : Bool) : Str := match s with | true => "right" | false => "left"
def qo (x : Str) : Option Bool := if x = Str.ofString "right" then some true else if x = Str.ofString "left" then some false else none
def mI (s : Bool) : D := .str (N7 s)
def wE : Dc Bool := ⟨fun | .str x => qo x | _ => none, mI, fun x a h => by
  cases x <;> try cases h
  rename_i x
  replace h : qo x = some a := h
  unfold qo at h
  split at h
  . rename_i e; cases h; rw [e]; rfl
  . split at h
    . rename_i e; cases h; rw [e]; rfl
    . cases h⟩
theorem rK (c : Int) : c.fmod 2 = 0 \/ c.fmod 2 = 1 := by
  have g0 := Int.fmod_nonneg_of_pos c (show (0 : Int) < 2 by decide)
  have g1 := Int.fmod_lt_of_pos c (show (0 : Int) < 2 by decide)
  omega
end K
set_option Elab.async false
set_option linter.all false
set_option maxRecDepth 100000
namespace K
open PySem L2 Sp Qm
def dR (r : eB) : D := .tup [dq r.1, dq r.2.1, dq r.2.2]
def gU (s : Bool) : Nat -> eB -> eB -> eB
  | 0, a, _ => a
  | n + 1, a, b => if b.1 = au then a else gU s n b (pG s a b)
def gJ (s : Bool) (p q : Qd) : eB := gU s 801 (p, bS, au) (q, au, bS)
theorem lT {s : Bool} {m : Nat} {a b : eB} (h : b.1 = au) : gU s m a b = a := by
  cases m with
  | zero => rfl
  | succ m => exact if_pos h
theorem jz {s : Bool} {m : Nat} {a b : eB} (h : b.1 ≠ au) : gU s (m + 1) a b = gU s m b (pG s a b) := if_neg h
theorem An {s : Bool} {p q : Qd} (hp : ai p) (hq : ai q) : ∀ {m E : Nat} {a b : eB}, fQ s p q m E a b -> xh s p q (gU s m a b) := by
  intro m
  induction m with
  | zero =>
    intro E a b h
    by_cases h0 : b.1 = au
    . exact h.fin h0
    . obtain ⟨m', z, _⟩ := h.step hp hq h0; cases z
  | succ m ih =>
    intro E a b h
    by_cases h0 : b.1 = au
    . rw [lT h0]; exact h.fin h0
    . obtain ⟨m', z, h1⟩ := h.step hp hq h0
      cases z
      rw [jz h0]
      exact ih h1
def okG (p q : Qd) : Prop := ai p /\ ai q /\ am p <= (KN : Nat) /\ am q <= (KN : Nat)
theorem wn {s : Bool} {p q : Qd} (h : okG p q) : xh s p q (gJ s p q) := An h.1 h.2.1 (fQ.start h.1 h.2.1 h.2.2.1 h.2.2.2)
def Dv (s : Bool) (d p : Qd) : Prop := ∃ u, ai u /\ p = aC s u d
theorem Dv.sum {s : Bool} {d p q : Qd} (hd : ai d) (h : Dv s d p) (g : Dv s d q) : Dv s d (bW p q) := by
  obtain ⟨u, hu, rfl⟩ := h
  obtain ⟨v, hv, rfl⟩ := g
  exact ⟨bW u v, fx hu hv, (pi hu hv hd).symm⟩
theorem Dv.less {s : Bool} {d p q : Qd} (hd : ai d) (h : Dv s d p) (g : Dv s d q) : Dv s d (bc p q) := by
  obtain ⟨u, hu, rfl⟩ := h
  obtain ⟨v, hv, rfl⟩ := g
  exact ⟨bc u v, bM hu hv, (ji hu hv hd).symm⟩
theorem Dv.mul {s : Bool} {d p k : Qd} (hd : ai d) (hk : ai k) (h : Dv s d p) : Dv s d (aC s k p) := by
  obtain ⟨u, hu, rfl⟩ := h
  exact ⟨aC s k u, bQ hk hu, (fP hk hu hd).symm⟩
theorem Dv.grt {s : Bool} {d p q : Qd} {a : eB} (hd : ai d) (h : Dv s d p) (g : Dv s d q) (ga : xh s p q a) : Dv s d a.1 := by
  rw [<- ga.ra.sum]
  exact Dv.sum hd (h.mul hd ga.ra.h1) (g.mul hd ga.ra.h2)
theorem Gu {q : Qd} {n : Nat} (h : am q <= ((2 ^ n : Nat) : Int)) (hn : n <= 800) : am q <= (KN : Nat) := by
  have : 2 ^ n <= KN := Nat.pow_le_pow_right (by decide) hn
  omega
theorem og {a b : Int} (h : a = b) : (!cA (.int a) (.int b)) = false := by rw [h]; simp
end K
set_option Elab.async false
set_option linter.all false
set_option maxRecDepth 100000
namespace K
open PySem L2 Sp Qm
theorem GO {a b : Int} (h : a ≠ b) : (!cA (.int a) (.int b)) = true := by simp [h]
theorem Hd {p q : Qd} (h : p = q) : cA (dq p) (dq q) = true := by simp [h]
end K
set_option Elab.async false
set_option linter.all false
set_option maxRecDepth 100000
namespace K
open PySem L2 Sp Qm
theorem rz {Φ : Fx} {sc : Scope} {ρ : aj} {a b : Expr} {op : Operator} {p : Pos} {it : Bool} {x y : D} {k j : Nat} {r : D × Nat} (ha : aa (ay Φ a false sc ρ) (x, k)) (hb : aa (ay Φ b false sc ρ) (y, j)) (h : aa (rL op x y k j) r) : aa (ay Φ (.BinOp a op b p) it sc ρ) r := aa.bnd ha (aa.bnd hb h)
theorem pK {α : Type} {f : α -> D} {l : List α} {i : Int} (h0 : 0 <= i) (h1 : i < l.length) : ∃ x ∈ l, L2.atI (l.map f) i = some (f x) := by
  obtain ⟨j, rfl⟩ := Int.eq_ofNat_of_zero_le h0
  have hj : j < l.length := by omega
  exact ⟨l[j], List.getElem_mem _, t5 (by simp [hj])⟩
def gQ (n : Nat) (q : Qd) : Prop := ai q /\ cK (2 ^ n) q
theorem gQ.mono {m n : Nat} {q : Qd} (h : gQ m q) (g : m <= n) : gQ n q := ⟨h.1, dy h.2 (Nat.pow_le_pow_right (by decide) g)⟩
theorem gQ.bd {n : Nat} {q : Qd} (h : gQ n q) (g : n < 9000) : dm q := dZ h.2 (Nat.pow_lt_pow_right (by decide) g)
theorem gQ.mul {m n : Nat} {p q : Qd} (h : gQ m p) (g : gQ n q) : gQ (m + n + 1) (aq p q) := by
  refine ⟨bZ h.1 g.1, ?_⟩
  have := oj h.2 g.2 h.1 g.1
  rwa [show 2 * (2 ^ m * 2 ^ n) = 2 ^ (m + n + 1) by rw [Nat.pow_succ, Nat.pow_add]; omega] at this
theorem gQ.sum {n : Nat} {p q : Qd} (h : gQ n p) (g : gQ n q) : gQ (n + 1) (bW p q) := ⟨fx h.1 g.1, by rw [Nat.pow_succ, Nat.mul_two]; exact Bj h.2 g.2⟩
theorem gQ.less {n : Nat} {p q : Qd} (h : gQ n p) (g : gQ n q) : gQ (n + 1) (bc p q) := ⟨bM h.1 g.1, by rw [Nat.pow_succ, Nat.mul_two]; exact me h.2 g.2⟩
end K
set_option Elab.async false
set_option linter.all false
set_option maxRecDepth 100000
namespace K
open PySem L2 Sp Qm
def t8 (Φ : Fx) (sc : Scope) (tg : Expr) (body ss : List Stmt) (r : D) : List D -> aj -> Prop
  | [], ρ => aa (az Φ ss sc ρ) (.rt r)
  | d :: l, ρ => ∃ ρ1, bJ sc tg d ρ = some ρ1 /\ ((∃ ρ2, aa (az Φ body sc ρ1) (.nx ρ2) /\ t8 Φ sc tg body ss r l ρ2) \/ aa (az Φ body sc ρ1) (.rt r))
theorem nX {Φ : Fx} {sc : Scope} {ρ : aj} {ss : List Stmt} {tg it : Expr} {body : List Stmt} {p : Pos} {d r : D} (ds : List D) {k : Nat} (hi : aa (ay Φ it true sc (demote it ρ)) (d, k)) (h : t8 Φ sc tg body ss r ds (demote it ρ)) (hd : items d = some ds := by rfl) (hk : k <= 1 := by first | exact Nat.le_refl 1 | exact Nat.zero_le 1) (ht : eD it tg = true := by rfl) : aa (az Φ (.For tg it body [] p :: ss) sc ρ) (.rt r) := by
  obtain ⟨r', h1, rfl⟩ := Ax (ds := ds) (fun ds ρ => t8 Φ sc tg body ss r ds ρ) (fun r' => r' = r) hi h (fun d l ρ ⟨ρ1, h1, h2⟩ => ⟨ρ1, h1, by
    rcases h2 with h2 | h2
    . exact .inl h2
    . exact .inr ⟨r, h2, rfl⟩⟩) (fun ρ' h => ⟨r, h, rfl⟩) hd hk ht
  exact h1
theorem nG {n m : Nat} (h : n <= 2 ^ m) (hm : m < 9000) : n < cO := Nat.lt_of_le_of_lt h (Nat.pow_lt_pow_right (by decide) hm)
end K
set_option Elab.async false
set_option linter.all false
set_option maxRecDepth 100000
namespace K
open PySem L2 Sp Qm
open Builtin.Int (intBits)
end K
set_option Elab.async false
set_option linter.all false
set_option maxRecDepth 100000
namespace K
open PySem L2 Sp Qm
def dh : Nat -> List Int -> Nat
  | g, [] => g
  | g, n :: r => dh (Nat.gcd g n.natAbs) r
@[irreducible] def uN (l : List D) : Int := (dh 0 (mD l) : Nat)
def vJ (l : List D) : Prop := ∃ ns : List Int, l = ns.map D.int /\ ns.length <= 100 /\ ∀ n ∈ ns, n.natAbs < 2 ^ 1000
theorem DG {l : List D} (h : vJ l) : vJ l := h
theorem qZ (ns : List Int) : uN (ns.map D.int) = (dh 0 ns : Nat) := by unfold uN; rw [mC]
theorem i8 : ∀ (ns : List Int) (g : Nat), dh g ns ∣ g /\ ∀ n ∈ ns, dh g ns ∣ n.natAbs
  | [], g => ⟨Nat.dvd_refl _, fun n h => by cases h⟩
  | n :: r, g => by
    obtain ⟨h1, h2⟩ := i8 r (Nat.gcd g n.natAbs)
    refine ⟨Nat.dvd_trans h1 (Nat.gcd_dvd_left _ _), fun m hm => ?_⟩
    rcases List.mem_cons.mp hm with rfl | hm
    . exact Nat.dvd_trans h1 (Nat.gcd_dvd_right _ _)
    . exact h2 m hm
theorem wp {ns : List Int} {n : Int} (h : n ∈ ns) : ((dh 0 ns : Nat) : Int) ∣ n := Int.ofNat_dvd_left.mpr ((i8 ns 0).2 n h)
theorem qX {ns : List Int} {n : Int} (h : n ∈ ns) (h0 : n ≠ 0) : 0 < dh 0 ns := by
  rcases Nat.eq_zero_or_pos (dh 0 ns) with e | e
  . have := (i8 ns 0).2 n h
    rw [e] at this
    have := Nat.eq_zero_of_zero_dvd this
    omega
  . exact e
theorem MI {ns : List Int} {n m : Int} (h : n ∈ ns) (h0 : n ≠ 0) (hm : m ∈ ns) : m = (dh 0 ns : Nat) * m.fdiv (dh 0 ns : Nat) := by
  obtain ⟨u, e⟩ := wp hm
  have hp := qX h h0
  generalize dh 0 ns = g at *
  rw [e, Int.mul_fdiv_cancel_left _ (by omega)]
theorem qY (c : Nat) : ∀ (ns : List Int) (g : Nat), dh (c * g) (ns.map fun m => (c : Int) * m) = c * dh g ns
  | [], g => rfl
  | n :: r, g => by
    show dh (Nat.gcd (c * g) ((c : Int) * n).natAbs) _ = _
    rw [Int.natAbs_mul, Int.natAbs_natCast, Nat.gcd_mul_left]
    exact qY c r _
theorem BC {ns : List Int} {n : Int} (h : n ∈ ns) (h0 : n ≠ 0) : dh 0 ns <= n.natAbs := Nat.le_of_dvd (by omega) ((i8 ns 0).2 n h)
theorem Oh (d : D) : kn d 1 <= 1 := by rcases GW (d := d) (k := 1) with q | q <;> omega
def xj (a b m : Nat) : Prop := (b <= a /\ a * b < 2 ^ m) \/ (a < b /\ a * b < 2 ^ (m - 1) /\ 1 <= m)
theorem tV {a b m : Nat} (h : xj a b m) (h0 : b ≠ 0) : ∃ m', m' < m /\ xj b (a % b) m' := by
  rcases h with ⟨h1, h2⟩ | ⟨h1, h2, h3⟩
  . have hm : 1 <= m := by
      rcases Nat.eq_zero_or_pos m with e | e
      . subst e
        have : 1 * 1 <= a * b := Nat.mul_le_mul (by omega) (by omega)
        omega
      . exact e
    refine ⟨m - 1, by omega, .inl ⟨Nat.le_of_lt (Nat.mod_lt _ (by omega)), ?_⟩⟩
    have e : 2 ^ m = 2 * 2 ^ (m - 1) := by rw [<- Nat.pow_succ']; congr 1; omega
    rw [e] at h2
    have hk : b + a % b <= a := by
      have := Nat.div_add_mod a b
      have q : 1 <= a / b := (Nat.one_le_div_iff (by omega)).mpr h1
      have := Nat.mul_le_mul_left b q
      omega
    have hlt := Nat.mod_lt a (show 0 < b by omega)
    have : b * (a % b) + b * (a % b) <= a * b := by
      rw [<- Nat.mul_add, Nat.mul_comm a b]
      exact Nat.mul_le_mul_left b (by omega)
    omega
  . refine ⟨m - 1, by omega, .inl ?_⟩
    rw [Nat.mod_eq_of_lt h1, Nat.mul_comm]
    exact ⟨Nat.le_of_lt h1, h2⟩
theorem Ep {a b : Nat} (ha : a < 2 ^ 1000) (hb : b < 2 ^ 1000) : xj a b 2002 := by
  have h : a * b < 2 ^ 2001 := Nat.lt_of_lt_of_le (Nat.mul_lt_mul'' ha hb) (by rw [<- Nat.pow_add]; exact Nat.pow_le_pow_right (by decide) (by decide))
  rcases Nat.lt_or_ge a b with q | q
  . exact .inr ⟨q, h, by decide⟩
  . exact .inl ⟨q, Nat.lt_trans h (Nat.pow_lt_pow_right (by decide) (by decide))⟩
theorem wt (a b : Nat) : (a : Int).fmod b = ((a % b : Nat) : Int) := by
  rw [Int.fmod_eq_emod_of_nonneg _ (by omega)]; rfl
theorem FV {Φ : Fx} {sc : Scope} {ρ : aj} {c : Expr} {body : List Stmt} {p : Pos} {m : Nat} {P : aj -> Prop} (ak : Nat -> aj -> Prop) (h0 : ak m ρ) (hm : m < bI)
    (step : ∀ m ρ, ak m ρ -> ∃ b k, aa (ay Φ c false sc ρ) (.bl b, k) /\ (b = true -> ∃ m' ρ2, m' < m /\ aa (az Φ body sc ρ) (.nx ρ2) /\ ak m' ρ2)) (rest : ∀ m ρ', ak m ρ' -> (∃ k, aa (ay Φ c false sc ρ') (.bl false, k)) -> P ρ') : ∃ ρ', aa (az Φ [.While c body [] p] sc ρ) (.nx ρ') /\ P ρ' := by
  obtain ⟨m', ρ', h1, h2, h3⟩ := pU (test := fun ρ => (ay Φ c false sc ρ).bnd fun p => ib p fun b => .ok b []) (body := az Φ body sc) ak (fun m ρ h => by
    obtain ⟨b, k, a1, a2⟩ := step m ρ h
    exact ⟨b, a1.bnd (iy rfl cG), a2⟩) h0 hm
  obtain ⟨q, h4, h5⟩ := av h3
  obtain ⟨t, ht, h5⟩ := fM h5
  cases aI h5
  obtain ⟨q1, q2⟩ := q
  have ht : q1 = .bl false := ht
  subst ht
  exact ⟨ρ', ci (rf h1) eH, rest m' ρ' h2 ⟨q2, h4⟩⟩
end K
set_option Elab.async false
set_option linter.all false
set_option maxRecDepth 100000
namespace K
open PySem L2 Sp Qm
theorem ww {Φ : Fx} {sc : Scope} {ρ ρ' : aj} {es : List Expr} {e : Expr} {n : Nat} {p q : Pos} {d : D} {ds : List D} {k : Nat} (h : aa (ay Φ e false sc ρ) (d, k)) (hs : eh d = some ds) (hk : ao ds = true \/ k <= 1) (hb : aP sc es ds ρ = some ρ') (ht : gG e = false := by rfl) : aa (du Φ (.Assign [.Tuple es n p] e q) sc ρ) (.nx ρ') := by
  show aa (if sS sc es e = true then ni Φ es e sc ρ else _) _
  rw [if_neg (by unfold sS; rw [ht]; exact Bool.false_ne_true)]
  refine aa.bnd h ?_
  dsimp only
  rw [hs]; dsimp only
  rw [if_pos hk, hb]
  exact cG
def gI (ns : List Int) : Int := (dh 0 ns : Nat)
theorem BD (ns : List Int) : uN (ns.map D.int) = gI ns := qZ ns
theorem q9 {ns : List Int} {n : Int} (h : n ∈ ns) (h0 : n ≠ 0) : 0 < gI ns := by have := qX h h0; unfold gI; omega
theorem nh {ns : List Int} {n m : Int} (h : n ∈ ns) (h0 : n ≠ 0) (hm : m ∈ ns) : m = gI ns * m.fdiv (gI ns) := MI h h0 hm
theorem Ec {c : Int} (hc : 0 < c) (ns : List Int) : gI (ns.map fun m => c * m) = c * gI ns := by
  obtain ⟨k, rfl⟩ := Int.eq_ofNat_of_zero_le (Int.le_of_lt hc)
  have := qY k ns 0
  unfold gI
  rw [Nat.mul_zero] at this
  rw [this]; simp
theorem zT {ns : List Int} {n : Int} (h : n ∈ ns) (h0 : n ≠ 0) : (gI ns).natAbs <= n.natAbs := by
  have := BC h h0
  unfold gI; omega
theorem uR {c x g : Int} (hc : 0 < c) (hg : 0 < g) : (c * x).fdiv (c * g) = x.fdiv g := Int.mul_fdiv_mul_of_pos x g hc
theorem DF {ns : List Int} {k : Nat} (hk : k <= 999) (hl : ns.length <= 100) (h : ∀ n ∈ ns, n.natAbs <= 2 ^ k) : vJ (ns.map D.int) :=
  ⟨ns, rfl, hl, fun n hn => Nat.lt_of_le_of_lt (h n hn) (Nat.pow_lt_pow_right (by decide) (by omega))⟩
end K
set_option Elab.async false
set_option linter.all false
set_option maxRecDepth 100000
namespace K
open PySem L2 Sp Qm
def pE : List Qd := [(-2, 0, 0, 0), (-1, -1, -1, -1), (-1, -1, -1, 1), (-1, -1, 1, -1), (-1, -1, 1, 1), (-1, 1, -1, -1), (-1, 1, -1, 1), (-1, 1, 1, -1), (-1, 1, 1, 1), (0, -2, 0, 0), (0, 0, -2, 0), (0, 0, 0, -2), (0, 0, 0, 2), (0, 0, 2, 0), (0, 2, 0, 0), (1, -1, -1, -1), (1, -1, -1, 1), (1, -1, 1, -1), (1, -1, 1, 1), (1, 1, -1, -1), (1, 1, -1, 1), (1, 1, 1, -1), (1, 1, 1, 1), (2, 0, 0, 0)]
theorem qA {p : Qd} (h : p.1 % 2 = p.2.1 % 2 /\ p.1 % 2 = p.2.2.1 % 2 /\ p.1 % 2 = p.2.2.2 % 2) : ai p :=
  ⟨p.1 % 2, p.1 / 2, p.2.1 / 2, p.2.2.1 / 2, p.2.2.2 / 2, by omega, by omega, by omega, by omega, by omega⟩
theorem qD : ∀ p ∈ pE, (p.1 % 2 = p.2.1 % 2 /\ p.1 % 2 = p.2.2.1 % 2 /\ p.1 % 2 = p.2.2.2 % 2) /\ am p = 1 /\ p.1.natAbs <= 2 /\ p.2.1.natAbs <= 2 /\ p.2.2.1.natAbs <= 2 /\ p.2.2.2.natAbs <= 2 := by decide +kernel
theorem gj {p : Qd} (h : p ∈ pE) : ai p /\ am p = 1 /\ dm p := by
  obtain ⟨h1, h2, h3, h4, h5, h6⟩ := qD p h
  exact ⟨qA h1, h2, nG (m := 1) h3 (by decide), nG (m := 1) h4 (by decide), nG (m := 1) h5 (by decide), nG (m := 1) h6 (by decide)⟩
theorem f7 {p : Qd} (hp : p ∈ pE) : gQ 1 p := ⟨(gj hp).1, (qD p hp).2.2⟩
end K
set_option Elab.async false
set_option linter.all false
set_option maxRecDepth 100000
namespace K
open PySem PySem.Spec PyProof.Rows L2 Sp Qm
theorem Ef (u : Int) : u.fmod 2 = u % 2 := Int.fmod_eq_emod_of_nonneg u (by decide)
end K
set_option Elab.async false
set_option linter.all false
set_option maxRecDepth 100000
namespace K
open PySem PySem.Spec PyProof.Rows L2 Sp Qm
end K
set_option Elab.async false
set_option linter.all false
set_option maxRecDepth 100000
namespace K
open PySem L2 Sp Qm
section
variable {Φ : Fx} {sc : Scope} {ρ ρ1 : aj} {ss : List Stmt}
theorem uK {c : Expr} {a b : List Stmt} {p : Pos} {t : Bool} {k : Nat} {P : aj -> Prop} (hc : aa (ay Φ c false sc ρ) (.bl t, k)) (h1 : t = true -> ∃ ρ', aa (az Φ a sc ρ) (.nx ρ') /\ P ρ') (h2 : t = false -> ∃ ρ', aa (az Φ b sc ρ) (.nx ρ') /\ P ρ') : ∃ ρ', aa (du Φ (.If c a b p) sc ρ) (.nx ρ') /\ P ρ' := by
  have key : ∀ x, aa (cond t (az Φ a sc ρ) (az Φ b sc ρ)) x -> aa (du Φ (.If c a b p) sc ρ) x := fun x hx => aa.bnd hc hx
  cases t with
  | true => obtain ⟨ρ', h, q⟩ := h1 rfl; exact ⟨ρ', key _ h, q⟩
  | false => obtain ⟨ρ', h, q⟩ := h2 rfl; exact ⟨ρ', key _ h, q⟩
theorem eL {P : aj -> Prop} (h : P ρ) : ∃ ρ', aa (az Φ [] sc ρ) (.nx ρ') /\ P ρ' := ⟨ρ, eH, h⟩
theorem fc {s : Stmt} {P Q : aj -> Prop} (h : ∃ ρ1, aa (du Φ s sc ρ) (.nx ρ1) /\ P ρ1) (k : ∀ ρ1, P ρ1 -> ∃ ρ2, aa (az Φ ss sc ρ1) (.nx ρ2) /\ Q ρ2) : ∃ ρ2, aa (az Φ (s :: ss) sc ρ) (.nx ρ2) /\ Q ρ2 := by
  obtain ⟨ρ1, h1, h2⟩ := h
  obtain ⟨ρ2, h3, h4⟩ := k ρ1 h2
  exact ⟨ρ2, ci h1 h3, h4⟩
theorem dv {s : Stmt} {Q : aj -> Prop} (h : aa (du Φ s sc ρ) (.nx ρ1)) (k : ∃ ρ2, aa (az Φ ss sc ρ1) (.nx ρ2) /\ Q ρ2) : ∃ ρ2, aa (az Φ (s :: ss) sc ρ) (.nx ρ2) /\ Q ρ2 := by
  obtain ⟨ρ2, h3, h4⟩ := k
  exact ⟨ρ2, ci h h3, h4⟩
theorem vN (n : Nat) {Q : aj -> Prop} (h : aa (az Φ (ss.take n) sc ρ) (.nx ρ1)) (k : ∃ ρ2, aa (az Φ (ss.drop n) sc ρ1) (.nx ρ2) /\ Q ρ2) : ∃ ρ2, aa (az Φ ss sc ρ) (.nx ρ2) /\ Q ρ2 := by
  obtain ⟨ρ2, h3, h4⟩ := k
  exact ⟨ρ2, bi n h h3, h4⟩
theorem tU {a b : Expr} {p : Pos} {it : Bool} {s t : Bool} {k j : Nat} (h : aa (ay Φ a false sc ρ) (.bl s, k)) (g : aa (ay Φ b false sc ρ) (.bl t, j)) : aa (ay Φ (.BoolOp .And [a, b] p) it sc ρ) (.bl (s && t), 0) := by
  refine dj (gk h (fun e => ?_) (fun e => ?_))
  . subst e
    refine gk g (fun e => ?_) (fun e => ?_)
    . subst e; exact jX
    . subst e; rfl
  . subst e; rfl
theorem wy {a b : Expr} {p : Pos} {it : Bool} {s t : Bool} {k j : Nat} (h : aa (ay Φ a false sc ρ) (.bl s, k)) (g : aa (ay Φ b false sc ρ) (.bl t, j)) : aa (ay Φ (.BoolOp .Or [a, b] p) it sc ρ) (.bl (s || t), 0) := by
  refine dj (rk h (fun e => ?_) (fun e => ?_))
  . subst e
    refine rk g (fun e => ?_) (fun e => ?_)
    . subst e; exact gL
    . subst e; rfl
  . subst e; rfl
end
end K
set_option Elab.async false
set_option linter.all false
set_option maxRecDepth 100000
namespace Sp
open PySem PySem.Spec PyProof.Rows L2
variable {X : Cx}
end Sp
set_option Elab.async false
set_option linter.all false
set_option maxRecDepth 100000
namespace K
open PySem L2 Sp Qm
section
variable {Φ : Fx} {sc : Scope} {ρ ρ1 : aj} {ss : List Stmt}
theorem gQ.okD {s : Bool} {n : Nat} {p q : Qd} (h : gQ n p) (g : gQ n q) (h0 : q ≠ au) (hn : n <= 2000) : okD s p q := vL h.1 g.1 h0 h.2 g.2 (rM hn)
theorem gQ.szl {n : Nat} {p : Qd} (h : gQ n p) (hn : n + n <= 800) : am p <= (KN : Nat) := by
  have := vv h.2
  rw [<- Nat.pow_add] at this
  exact Gu (n := n + n) (by omega) hn
theorem gQ.okG {n : Nat} {p q : Qd} (h : gQ n p) (g : gQ n q) (hn : n + n <= 800) : okG p q := ⟨h.1, g.1, h.szl hn, g.szl hn⟩
theorem fE {s : Bool} {p q k : Qd} (hk : ai k) (hq : ai q) (h0 : q ≠ au) (h : p = aC s k q) : ir s p q = dq k := by
  rw [BH (h ▸ bQ hk hq) hq h0]
  exact x9 hk hq h0 h
theorem vt {p : Qd} (hp : ai p) (h : p ≠ au) : am p ≠ 0 := fun z => h (lW hp z)
theorem wN {s : Bool} {p q : Qd} (hp : ai p) (hq : ai q) (h : p ≠ au) (g : q ≠ au) : aC s p q ≠ au := fun z => by
  have e := eZ (s := s) hp hq
  rw [z] at e
  rcases Int.mul_eq_zero.mp e.symm with e | e
  . exact vt hp h e
  . exact vt hq g e
end
end K
set_option Elab.async false
set_option linter.all false
set_option maxRecDepth 100000
namespace K
open PySem L2 Sp Qm
section
variable {Φ : Fx} {sc : Scope} {ρ ρ1 : aj} {ss : List Stmt} {P Q : aj -> Prop}
def kY : Stmt -> Expr
  | .For t _ _ _ _ => t
  | _ => .Name (Str.ofString "") ⟨0, 0, 0, 0⟩
def pJ : Stmt -> Expr
  | .For _ i _ _ _ => i
  | _ => .Name (Str.ofString "") ⟨0, 0, 0, 0⟩
def fD : Stmt -> List Stmt
  | .For _ _ b _ _ => b
  | _ => []
theorem uS {a : Expr} {p : Pos} {it : Bool} {b c : Bool} {k : Nat} (h : aa (ay Φ a false sc ρ) (.bl b, k)) (e : (!b) = c) : aa (ay Φ (.UnaryOp .Not a p) it sc ρ) (.bl c, 0) := by
  subst e
  exact (show aa (Rs.bnd (ay Φ a false sc ρ) fun p => (match vi .Not p.1 with | some d => .ok (d, 0) [] | none => .st)) (.bl (!b), 0) from aa.bnd h cG)
theorem Og (n : Nat) (h : ∃ ρ1, aa (az Φ (ss.take n) sc ρ) (.nx ρ1) /\ Q ρ1) (k : ∀ ρ1, Q ρ1 -> ∃ ρ2, aa (az Φ (ss.drop n) sc ρ1) (.nx ρ2) /\ P ρ2) : ∃ ρ2, aa (az Φ ss sc ρ) (.nx ρ2) /\ P ρ2 := by
  obtain ⟨ρ1, h1, q⟩ := h
  obtain ⟨ρ2, h2, p⟩ := k ρ1 q
  exact ⟨ρ2, bi n h1 h2, p⟩
theorem Oa {d : D} (n : Nat) (h : ∃ ρ1, aa (az Φ (ss.take n) sc ρ) (.nx ρ1) /\ Q ρ1) (k : ∀ ρ1, Q ρ1 -> aa (az Φ (ss.drop n) sc ρ1) (.rt d)) : aa (az Φ ss sc ρ) (.rt d) := by
  obtain ⟨ρ1, h1, q⟩ := h
  exact bi n h1 (k ρ1 q)
theorem wR {α β : Type} {h : α -> D} {g : α -> List β} {T : List β} {bind : D -> aj -> Option aj} {body : aj -> Rs Fl} (Q : List β -> aj -> Prop) : ∀ (xs : List α) (F R : List β) (ρ : aj), (∀ x ∈ xs, ∀ F R ρ, F ++ (g x ++ R) = T -> Q F ρ -> ∃ ρ1, bind (h x) ρ = some ρ1 /\ ∃ ρ2, aa (body ρ1) (.nx ρ2) /\ Q (F ++ g x) ρ2) -> F ++ (xs.flatMap g ++ R) = T -> Q F ρ -> ∃ ρ', aa (cR bind body (xs.map h) ρ) (.nx ρ') /\ Q (F ++ xs.flatMap g) ρ'
  | [], F, R, ρ, _, _, q => ⟨ρ, cG, by simpa using q⟩
  | x :: xs, F, R, ρ, st, e, q => by
    rw [List.flatMap_cons, List.append_assoc] at e
    obtain ⟨ρ1, h1, ρ2, h2, q2⟩ := st x List.mem_cons_self F _ ρ e q
    obtain ⟨ρ', h3, q3⟩ := wR Q xs (F ++ g x) R ρ2 (fun y hy => st y (List.mem_cons_of_mem _ hy)) (by rw [<- e]; simp only [List.append_assoc]) q2
    refine ⟨ρ', ?_, by rw [List.flatMap_cons, <- List.append_assoc]; exact q3⟩
    rw [List.map_cons, cR, h1]
    exact aa.bnd h2 h3
theorem fC {α β : Type} {h : α -> D} {g : α -> List β} {T : List β} {tg it : Expr} {body : List Stmt} {p : Pos} {d : D} {k : Nat} (Q : List β -> aj -> Prop) (xs : List α) {F R : List β} (hi : aa (ay Φ it true sc (demote it ρ)) (d, k)) (hd : items d = some (xs.map h)) (q : Q F (demote it ρ)) (e : F ++ (xs.flatMap g ++ R) = T) (st : ∀ x ∈ xs, ∀ F R ρ, F ++ (g x ++ R) = T -> Q F ρ -> ∃ ρ1, bJ sc tg (h x) ρ = some ρ1 /\ ∃ ρ2, aa (az Φ body sc ρ1) (.nx ρ2) /\ Q (F ++ g x) ρ2)
    (hk : k <= 1 := by first | exact Nat.le_refl 1 | exact Nat.zero_le 1) (ht : eD it tg = true := by rfl) : ∃ ρ', aa (du Φ (.For tg it body [] p) sc ρ) (.nx ρ') /\ Q (F ++ xs.flatMap g) ρ' := by
  obtain ⟨ρ', h1, h2⟩ := wR (bind := bJ sc tg) (body := az Φ body sc) Q xs F R _ st e q
  exact ⟨ρ', jW hi hd hk ht h1, h2⟩
theorem Ed {tg it : Expr} {body : List Stmt} {p : Pos} {n : Nat} (ak : Nat -> aj -> Prop) (hi : aa (ay Φ it true sc (demote it ρ)) (.lst ((List.range n).map fun i => .int (i : Nat)), 0)) (h0 : ak 0 (demote it ρ))
    (step : ∀ i ρ, i < n -> ak i ρ -> ∃ ρ1, bJ sc tg (.int (i : Nat)) ρ = some ρ1 /\ ∃ ρ2, aa (az Φ body sc ρ1) (.nx ρ2) /\ ak (i + 1) ρ2) (rest : ∀ ρ', ak n ρ' -> P ρ') (ht : eD it tg = true := by rfl) : ∃ ρ', aa (du Φ (.For tg it body [] p) sc ρ) (.nx ρ') /\ P ρ' := by
  obtain ⟨ρ', h1, i, hi', e, h2⟩ := mj (bind := bJ sc tg) (body := az Φ body sc) (fun rem ρ => ∃ i, i <= n /\ rem = (List.range' i (n - i)).map (fun i => D.int (i : Nat)) /\ ak i ρ) (fun d l ρ ⟨i, hi, e, h⟩ => by
    have hlt : i < n := by
      rcases Nat.lt_or_ge i n with h | h
      . exact h
      . rw [show n - i = 0 by omega] at e; cases e
    obtain ⟨m, hm⟩ : ∃ m, n - i = m + 1 := ⟨n - i - 1, by omega⟩
    rw [hm, List.range'_succ, List.map_cons] at e
    cases e
    obtain ⟨ρ1, h1, ρ2, h2, h3⟩ := step i ρ hlt h
    exact ⟨ρ1, ρ2, h1, .inl h2, i + 1, hlt, by rw [show n - (i + 1) = m by omega], h3⟩) (ds := (List.range n).map fun i => D.int (i : Nat)) ⟨0, Nat.zero_le _, by rw [List.range_eq_range']; simp, h0⟩
  refine ⟨ρ', jW hi rfl (Nat.zero_le 1) ht h1, rest ρ' ?_⟩
  have : i = n := by
    rcases Nat.lt_or_ge i n with h | h
    . obtain ⟨m, hm⟩ : ∃ m, n - i = m + 1 := ⟨n - i - 1, by omega⟩
      rw [hm, List.range'_succ] at e; cases e
    . omega
  exact this ▸ h2
theorem Hb {f : Str} {p q : Pos} {args : List Expr} {ds : List D} {k : Nat} {B : List D -> Nat -> R1} {v : D × Nat} (ha : aa (cx Φ args sc ρ) (ds, k)) (hv : aa (B ds k) v) (hF : Φ.fn f = none := by rfl) (hI : Φ.itr f = some B := by rfl) (hg : sc.names.lookup f = some .globalImplicit := by rfl) : aa (ay Φ (.Call (.Name f p) args [] q) true sc ρ) v := by
  rw [jc, if_pos hg]
  refine aa.bnd ha ?_
  unfold li
  dsimp only
  rw [hF]
  dsimp only
  rw [if_pos rfl, hI]
  exact hv
theorem C2 {m k : Nat} (h : m <= 1000) : aa (jV [.int (m : Int)] k) (.lst ((List.range m).map fun i => .int (i : Nat)), 0) := ⟨_, rfl, by omega, by show (m : Int) <= ((40000 : Nat) : Int); omega, True.intro⟩
theorem zt {s : Stmt} {fl : Fl} (h : ∃ ρ1, aa (du Φ s sc ρ) (.nx ρ1) /\ Q ρ1) (k : ∀ ρ1, Q ρ1 -> aa (az Φ ss sc ρ1) fl) : aa (az Φ (s :: ss) sc ρ) fl := by
  obtain ⟨ρ1, h1, h2⟩ := h
  exact ci h1 (k ρ1 h2)
theorem rg {x m : Str} {p ap cp q : Pos} {args : List Expr} {M : List D -> List D -> Nat -> Rs (List D)} {l ds l' : List D} {k : Nat} (ha : aa (cx Φ args sc ρ) (ds, k)) (hx : ρ x = some (.lst l, true)) (h : aa (M l ds k) l') (hm : Φ.mtt m = some M := by rfl) (hp : (ap.endLine == cp.line) = true := by rfl) (hn : gB x = true := by rfl) : aa (du Φ (.Expr (.Call (.Attribute (.Name x p) m ap) args [] cp) q) sc ρ) (.nx (bR ρ x (.lst l', true))) := by
  show aa (if (ap.endLine == cp.line) = true then (cx Φ args sc ρ).bnd fun p => (match Φ.mtt m with
      | some M => n9 ρ x fun l => (M l p.1 p.2).bnd fun l' => .ok (.nx (bR ρ x (.lst l', true))) []
      | none => .st) else .st) _
  rw [if_pos hp]
  refine aa.bnd ha ?_
  rw [hm]; dsimp only
  unfold n9
  rw [hx]; dsimp only
  rw [if_pos hn]
  exact aa.bnd h cG
theorem gn {a i : Expr} {p : Pos} {it : Bool} {ks : List bO} {ds : List D} {di d : D} {key : bO} {k k2 : Nat} (ha : aa (ay Φ a false sc ρ) (.dct ks ds, k)) (hi : aa (ay Φ i false sc ρ) (di, k2)) (hk : mi di = some key) (hd : jY ks ds key = some d) : aa (ay Φ (.Subscript a i p) it sc ρ) (d, 0) := by
  have key : aa ((ay Φ a false sc ρ).bnd fun p => (ay Φ i false sc ρ).bnd fun q => iW p q) (d, 0) := by
    refine ha.bnd (hi.bnd ?_)
    unfold iW; dsimp only
    rw [hk]; dsimp only
    rw [hd]; exact cG
  cases i with
  | Slice lo hi st p2 => exact (ar hi).elim
  | _ => exact key
theorem En {a : Expr} {p : Pos} {it : Bool} {i : Int} {k : Nat} (h : aa (ay Φ a false sc ρ) (.int i, k)) : aa (ay Φ (.UnaryOp .USub a p) it sc ρ) (.int (-i), 0) := aa.bnd h cG
theorem mZ {ks : List bO} {ds : List D} {m : Int} {b : Bool} (h : eT ks (.inl m) = b) : aa (gM .In (.int m) (.dct ks ds)) b := ⟨[], congrArg (fun b => Rs.ok b []) h, True.intro⟩
theorem rP {l : List D} {d : D} {k : Nat} (h : l.length < bI) (hd : d.lless = true := by rfl) : aa (kU l [d] k) (l ++ [d]) := ⟨_, rfl, .inl hd, h, True.intro⟩
theorem rq {α : Type} {elt tg iter c : Expr} {scope : Scope} {p : Pos} {it : Bool} {d : D} {g f : α -> D} {t : α -> Bool} {l : List α} {k : Nat} (hi : aa (ay Φ iter true sc ρ) (d, k)) (hd : items d = some (l.map g)) (hl : l.length <= bI) (hk : ao (l.map g) = true \/ k <= 1)
    (h : ∀ x ∈ l, ∃ ρ' j, bJ scope tg (g x) (flt scope ρ) = some ρ' /\ aa (ay Φ c false scope ρ') (.bl (t x), j) /\ (t x = true -> aa (ay Φ elt false scope ρ') (f x, 0))) (hc : nD sc scope = true := by rfl) (ht : eD iter tg = true := by rfl) : aa (ay Φ (.ListComp elt [⟨tg, iter, [c], 0⟩] scope p) it sc ρ) (.lst ((l.filter t).map f), 0) := by
  refine BJ hi hd ⟨by rw [List.length_map]; exact hl, hk⟩ (j5 fun x hx => ?_) (Nat.zero_le _) hc ht
  obtain ⟨ρ', j, h1, h2, h3⟩ := h x hx
  rw [h1]
  refine aa.bnd (a := t x) (gk h2 (fun e => by rw [e]; exact jX) (fun e => e)) ?_
  cases e : t x with
  | false => exact cG
  | true =>
    show aa ((ay Φ elt false scope ρ').bnd fun r => .ok (some r) []) (some (f x, 0))
    exact aa.bnd (h3 e) cG
end
def fN : List Int := [0, 1, 2, 3, 4, 5, 6, 7, 8, 9, 10, 11, 12, 13, 14, 15, 16, 17, 18, 19, 20]
def lG (l : List Int) : List bO := l.map fun d => .inl (d * d)
def sX (l : List Int) : List D := l.map D.int
def qr (l : List Int) (m : Int) : Option Int := l.find? fun d => decide (d * d = m)
theorem qV (m : Int) : ∀ l : List Int, eT (lG l) (.inl m) = (qr l m).isSome
  | [] => rfl
  | d :: l => by
    show (decide ((Sum.inl (d * d) : bO) = .inl m) || eT (lG l) (.inl m)) = _
    rw [qV m l]
    unfold qr
    by_cases e : d * d = m
    . rw [List.find?_cons, decide_eq_true e, decide_eq_true (congrArg Sum.inl e)]; rfl
    . rw [List.find?_cons, decide_eq_false e, decide_eq_false (fun z => e (Sum.inl.inj z))]; rfl
theorem wo (m : Int) : ∀ l : List Int, jY (lG l) (sX l) (.inl m) = (qr l m).map D.int
  | [] => rfl
  | d :: l => by
    have ih := wo m l
    unfold jY qr at ih ⊢
    show Option.map _ (List.find? _ ((Sum.inl (d * d), D.int d) :: (lG l).zip (sX l))) = _
    by_cases e : d * d = m
    . rw [List.find?_cons, List.find?_cons, decide_eq_true e, decide_eq_true (congrArg Sum.inl e)]; rfl
    . rw [List.find?_cons, List.find?_cons, decide_eq_false e, decide_eq_false (fun z => e (Sum.inl.inj z))]; exact ih
theorem sW {m d : Int} (h : qr fN m = some d) : d * d = m /\ 0 <= d /\ d <= 20 := by
  have h1 := List.find?_some h
  have h2 := List.mem_of_find?_eq_some h
  have h3 : ∀ x ∈ fN, 0 <= x /\ x <= 20 := by decide
  exact ⟨of_decide_eq_true h1, h3 d h2⟩
def dU (n par : Int) : List Int := ((List.range 41).map fun i : Nat => -20 + (i : Int)).filter fun k => decide (k.fmod 2 = par) && decide (k * k <= 4 * n)
def lJ (n a b c : Int) : Int := 4 * n - a * a - b * b - c * c
def jh (n par a b c : Int) : List Qd :=
  match qr fN (lJ n a b c) with
  | some d => if d.fmod 2 = par then (a, b, c, d) :: (if 0 < lJ n a b c then [(a, b, c, -d)] else []) else []
  | none => []
def uO (n par a b : Int) : List Qd := (dU n par).flatMap (jh n par a b)
def uP (n par a : Int) : List Qd := (dU n par).flatMap (uO n par a)
def uQ (n par : Int) : List Qd := (dU n par).flatMap (uP n par)
def eF (n : Int) : List Qd := ([0, 1] : List Int).flatMap (uQ n)
theorem jQ {α β : Type} {f : α -> List β} {m : Nat} : ∀ (l : List α), (∀ x ∈ l, (f x).length <= m) -> (l.flatMap f).length <= l.length * m
  | [], _ => by simp
  | x :: l, h => by
    rw [List.flatMap_cons, List.length_append, List.length_cons, Nat.add_mul]
    have h1 := h x List.mem_cons_self
    have h2 := jQ l fun y hy => h y (List.mem_cons_of_mem _ hy)
    omega
theorem v6 {α : Type} {p q : α -> Bool} : ∀ l : List α, (l.filter fun k => p k && q k).length <= (l.filter p).length
  | [] => Nat.le_refl _
  | x :: l => by
    have := v6 (p := p) (q := q) l
    rw [List.filter_cons, List.filter_cons]
    cases p x <;> cases q x <;> simp only [Bool.and_true, Bool.and_false, Bool.false_eq_true, if_false, if_true, List.length_cons] <;> omega
theorem ql {n par : Int} (h : par = 0 \/ par = 1) : (dU n par).length <= 21 := by
  refine Nat.le_trans (v6 _) ?_
  rcases h with rfl | rfl <;> decide
theorem yB (n par a b c : Int) : (jh n par a b c).length <= 2 := by
  unfold jh
  split
  . split
    . split <;> simp
    . simp
  . simp
theorem yo (n : Int) : (eF n).length <= 37044 := by
  have k0 : ∀ par : Int, par = 0 \/ par = 1 -> (uQ n par).length <= 18522 := fun par h => by
    have s := ql (n := n) h
    have k2 : ∀ a b, (uO n par a b).length <= 42 := fun a b => Nat.le_trans (jQ _ fun c _ => yB n par a b c) (by omega)
    have k1 : ∀ a, (uP n par a).length <= 882 := fun a => Nat.le_trans (jQ _ fun b _ => k2 a b) (by omega)
    exact Nat.le_trans (jQ _ fun a _ => k1 a) (by omega)
  exact Nat.le_trans (jQ (m := 18522) _ fun par h => k0 par (by simpa using h)) (by decide)
theorem fw {n par k : Int} (h : k ∈ dU n par) : k.fmod 2 = par /\ -20 <= k /\ k <= 20 := by
  unfold dU at h
  rw [List.mem_filter, List.mem_map] at h
  obtain ⟨⟨i, hi, rfl⟩, h2⟩ := h
  rw [Bool.and_eq_true] at h2
  have h3 : i < 41 := by simpa using hi
  exact ⟨of_decide_eq_true h2.1, by omega, by omega⟩
theorem yA {n par a b c : Int} {q : Qd} (ha : a ∈ dU n par) (hb : b ∈ dU n par) (hc : c ∈ dU n par) (h : q ∈ jh n par a b c) : gQ 5 q /\ am q = n := by
  obtain ⟨a1, a2, a3⟩ := fw ha
  obtain ⟨b1, b2, b3⟩ := fw hb
  obtain ⟨c1, c2, c3⟩ := fw hc
  unfold jh at h
  split at h
  . rename_i d hd
    obtain ⟨d1, d2, d3⟩ := sW hd
    split at h
    . rename_i hp
      rw [Int.fmod_eq_emod_of_nonneg _ (by decide)] at a1 b1 c1 hp
      have key : ∀ e : Int, e * e = d * d -> e % 2 = d % 2 -> e.natAbs <= 20 -> gQ 5 (a, b, c, e) /\ am (a, b, c, e) = n := fun e he hp2 h20 => by
        refine ⟨⟨iH.mpr ⟨by show b % 2 = a % 2; omega, by show c % 2 = a % 2; omega, by show e % 2 = a % 2; omega⟩, by show a.natAbs <= 32; omega, by show b.natAbs <= 32; omega, by show c.natAbs <= 32; omega, by show e.natAbs <= 32; omega⟩, ?_⟩
        show (a * a + (b * b + (c * c + (e * e + 0)))).fdiv 4 = n
        rw [he, d1]
        unfold lJ
        rw [show a * a + (b * b + (c * c + (4 * n - a * a - b * b - c * c + 0))) = 4 * n by omega, Qm.fd4]
      rcases List.mem_cons.mp h with rfl | h
      . exact key d rfl rfl (by omega)
      . split at h
        . have := List.mem_singleton.mp h
          subst this
          exact key (-d) (by rw [Int.neg_mul_neg]) (by omega) (by omega)
        . cases h
    . cases h
  . cases h
theorem yn {n : Int} {q : Qd} (h : q ∈ eF n) : gQ 5 q /\ am q = n := by
  unfold eF at h
  obtain ⟨par, _, h⟩ := List.mem_flatMap.mp h
  unfold uQ at h
  obtain ⟨a, ha, h⟩ := List.mem_flatMap.mp h
  unfold uP at h
  obtain ⟨b, hb, h⟩ := List.mem_flatMap.mp h
  unfold uO at h
  obtain ⟨c, hc, h⟩ := List.mem_flatMap.mp h
  exact yA ha hb hc h
def cX : List Int := [2, 3, 5, 7, 11, 13, 17, 19, 23, 29, 31, 37, 41, 43, 47, 53, 59, 61, 67, 71, 73, 79, 83, 89, 97]
theorem wq : ∀ n ∈ cX, (eF n).isEmpty = false := by decide +kernel
theorem rc {n : Int} (h : n ∈ cX) : 0 < (eF n).length := by
  have := wq n h
  cases e : eF n with
  | nil => rw [e] at this; cases this
  | cons x l => simp
end K
set_option Elab.async false
set_option linter.all false
set_option maxRecDepth 100000
namespace K
open PySem L2 Sp Qm
theorem Er (p q : Qd) : PyData.eqv (dq p).py (dq q).py = decide (p = q) := fg p q
theorem wz : ∀ ps qs : List Qd, PyData.eqvAll (cV (ps.map dq)) (cV (qs.map dq)) = decide (ps = qs)
  | [], [] => by rw [List.map_nil, cV, PyData.eqvAll]; rfl
  | [], q :: qs => by rw [List.map_nil, List.map_cons, cV, cV]; simp [PyData.eqvAll]
  | p :: ps, [] => by rw [List.map_nil, List.map_cons, cV, cV]; simp [PyData.eqvAll]
  | p :: ps, q :: qs => by
    rw [List.map_cons, List.map_cons, cV, cV, PyData.eqvAll, Er, wz ps qs]
    by_cases h : p = q
    . by_cases g : ps = qs
      . simp [h, g]
      . simp [h, g]
    . simp [h]
theorem zu (qs : List Qd) : SeqAt.shaped (D.lst (qs.map dq)).py = true := by
  unfold SeqAt.shaped
  rw [Bool.and_eq_true_iff]
  constructor
  . rw [D.py, PyData.canLay0]; exact GV qs
  . rw [D.py, PyData.depth]; have := Hi qs; exact decide_eq_true (by omega)
theorem He (ps qs : List Qd) : cA (.lst (ps.map dq)) (.lst (qs.map dq)) = decide (ps = qs) := by
  show PyData.eqv (D.lst (ps.map dq)).py (D.lst (qs.map dq)).py = _
  rw [D.py, D.py, PyData.eqv]; exact wz ps qs
theorem Es (ps qs : List Qd) : iu (.lst (ps.map dq)) (.lst (qs.map dq)) = true := by unfold iu; rw [zu, zu]; rfl
theorem B1 (ps qs : List Qd) : aa (gM .Eq (.lst (ps.map dq)) (.lst (qs.map dq))) (decide (ps = qs)) := aa.eq ⟨_, rfl, Es ps qs, True.intro⟩ (He ps qs)
abbrev mE (u : Qd) (qs : List Qd) : D := .tup [dq u, .lst (qs.map dq)]
theorem k7 {α β : Type} (f : α -> β) : ∀ l : List α, (l.flatMap fun x => [f x]) = l.map f
  | [] => rfl
  | x :: l => by rw [List.flatMap_cons, k7 f l]; rfl
theorem x6 {α : Type} (d : α) (ws : List α) : ws = (List.range ws.length).map fun i => ws.getD i d := by
  apply List.ext_getElem?
  intro i
  by_cases h : i < ws.length
  . rw [List.getElem?_map, List.getElem?_range h]
    simp [h]
  . rw [List.getElem?_eq_none (by omega), List.getElem?_eq_none (by simp; omega)]
theorem BM {f : Nat -> D} (n : Nat) : je 0 ((List.range n).map f) = (List.range n).map fun i => .tup [.int (i : Nat), f i] := by
  rw [lg]
  apply List.ext_getElem?
  intro i
  by_cases h : i < n
  . simp [h]
  . rw [List.getElem?_eq_none (by simp; omega), List.getElem?_eq_none (by simp; omega)]
end K
set_option Elab.async false
set_option linter.all false
set_option maxRecDepth 100000
namespace Sp
open PySem PySem.Spec PyProof.Rows L2
variable {X : Cx}
def Ol (K : W.Frag) (a : Addr) (n : Nat) : It :=
  ⟨fun i H => ∃ xs x, cm K H a xs /\ xs.length = n /\ i < n /\ xs[n - 1 - i]? = some x, fun i H x H' => H' = H /\ ∀ xs, cm K H a xs -> xs[n - 1 - i]? = some x, fun i H => ∃ xs, cm K H a xs /\ xs.length = n /\ n <= i⟩
theorem xn {P : Program} {w : World} {K : W.Frag} {tg : Expr} (a it : Addr) (n : Nat) : L2.Turn P w K tg (Ol K a n) [it] it (fun i h => i <= n /\ h.IsRevIter it a ((n : Int) - 1 - (i : Int))) where
  mem := by simp
  obj := fun i h st b hb => by
    have e : b = it := by simpa using hb
    subst e
    obtain ⟨_, o, e, c, d⟩ := st
    exact ⟨o, e, fun v z => by rw [d] at z; cases z⟩
  keep := fun i h h' st k => ⟨st.1, st.2.at fun o e => k it (by simp) o e⟩
  item := by
    intro X hP hw hK hc i pins s σ H E I hf st hg
    subst hP hw hK
    obtain ⟨xs, x, hq, hn, hi, hx⟩ := hg
    obtain ⟨its, rv, p, hz⟩ := I.list hq
    obtain ⟨u, hu, ru⟩ := rv.get hx
    obtain ⟨f0, f1, f2, f3, f4, f5⟩ := hf it (by simp)
    have e : (n : Int) - 1 - (i : Int) = ((n - 1 - i : Nat) : Int) := by omega
    have st := st.2
    rw [e] at st
    refine wpAny_pyNext_rev_item st p.isList (x := u) (by simpa using hu) fun h' st' sb => ?_
    have I1 : ak X pins σ H { s with heap := h' } := I.turned (t' := s.toks) (fun b o hb e => (sb.2 b hb).trans e) f0 f1 f3 f4 f5
    have e2 : ((n - 1 - i : Nat) : Int) - 1 = (n : Int) - 1 - ((i + 1 : Nat) : Int) := by omega
    rw [e2] at st'
    obtain ⟨o, e, c, d⟩ := id st'
    exact ⟨u, rfl, pH (s := { s with heap := h' }) e c d (by decide) ⟨x, H, I1, ru, ⟨rfl, fun ys hy => by rw [I.list_inj hy hq]; exact hx⟩, ⟨hi, st'⟩, fun b hb => (hf b hb).1⟩⟩
  done := by
    intro X hP hw hK hc i pins s σ H E I hf st hg
    subst hP hw hK
    obtain ⟨xs, hq, hn, hx⟩ := hg
    obtain ⟨f0, f1, f2, f3, f4, f5⟩ := hf it (by simp)
    have e : (n : Int) - 1 - (i : Int) = -1 := by have := st.1; omega
    have st := st.2
    rw [e] at st
    exact wpAny_pyNext_rev_end (I.ok.hd hc) st fun h' eb => ⟨rfl, I.turned (t' := s.toks) (fun b o hb e => eb b o hb e) f0 f1 f3 f4 f5⟩
  self := fun _ _ _ _ _ st h => wpAny_pyIter_revIter st.2 h
def yh (ds : List D) (k : Nat) : R1 :=
  match ds with
  | [.lst a] => .ok (.lst a.reverse, k) [ao a = true]
  | _ => .st
theorem Ea {ρ : aj} {tg : Expr} {p pos : Pos} {a : Expr} {l : List D} {k : Nat} (hg : Gl X "reversed") (hm0 : X.mg "reversed" = none) (ha : AD X ρ [a] [.lst l] k) (hst : ∀ y p, a ≠ .Starred y p) (hf : ao l = true) :
    IE X ρ tg (.Call (.Name "reversed" p) [a] [] pos) l.reverse k := by
  intro ow pins s σ H R I ⟨E, q⟩
  refine Call_ (dC I hg hm0 (show bootBuiltins "reversed" = some (.type "reversed") by decide +kernel) (PyProof.Rows.callWith_type1 (aN (ha ow pos pins s σ H (fun vs H1 => aD H H1 /\ ag X.K H1 (Kp ow H k) [.lst l] vs) I ⟨E, fun vs H1 s1 r1 => ⟨s1, r1⟩⟩) fun us s1 ⟨vs, H1, I1, rv, sm, rp⟩ => ?_) (bj hst) rfl) (by decide +kernel) (by decide +kernel))
  obtain ⟨v, rfl, rv1⟩ := rp.only
  obtain ⟨ta, xs, rfl, hq, rl, hk1⟩ := jD (κ := false) rv1
  replace hq : cm X.K H1 ta xs := hq
  obtain ⟨u, rfl, ru⟩ := d8 rv
  cases (show u = Value.ref ta from ru)
  obtain ⟨its, rvs, pt, hz⟩ := I1.list hq
  have hlen : its.length = xs.length := rvs.length.symm
  refine call_reversed_list (show s1.heap.IsList ta its.toArray from pt.isList) ?_
  have isR : (s1.heap.push (revObj ta ((its.toArray.size : Int) - 1))).IsRevIter s1.heap.objs.size ta ((xs.length : Int) - 1 - ((0 : Nat) : Int)) := ⟨_, Heap.get?_push_size _ rfl, rfl, by simp [revObj, hlen]⟩
  refine wpAny_pyIter_revIter isR ?_
  have I2 : ak X pins σ H1 { s1 with heap := s1.heap.push (revObj ta ((its.toArray.size : Int) - 1)) } := I1.kept (t' := s1.toks) fun b o z => Heap.get?_push_of_some _ z
  have f0 : H1 s1.heap.objs.size = none := I1.hok.fresh (Nat.le_refl _)
  refine ⟨s1.heap.objs.size, [s1.heap.objs.size], _, _, H1, rfl, I2, xn ta _ xs.length, ⟨Nat.zero_le _, isR⟩, fun b hb => ?_, q _ H1 sm ?_⟩
  . have eb : b = s1.heap.objs.size := by simpa using hb
    subst eb
    exact I1.fpOk (Nat.le_refl _) f0
  . intro i H2 st
    have rl' : ag X.K H1 (Kd ow H k H1) l xs := rl.flat _ hf
    have ll := rl.length
    refine ⟨fun d hd => ?_, fun hle => ?_⟩
    . have hi : i < l.length := by
        have := (List.getElem?_eq_some_iff.mp hd).1
        rwa [List.length_reverse] at this
      rw [List.getElem?_reverse hi] at hd
      obtain ⟨y, hy, ry⟩ := rl'.get hd
      rw [ll] at hy
      refine ⟨⟨xs, y, hk1 st, rfl, by omega, hy⟩, fun x' H3 ⟨e1, e2⟩ => ?_⟩
      have hv := e2 xs (hk1 st)
      rw [hy] at hv; cases hv
      subst e1
      exact ⟨aD.refl _, ry.mono st⟩
    . rw [List.length_reverse] at hle
      exact ⟨xs, hk1 st, rfl, by omega⟩
theorem Bz : jl "reversed" yh := by
  refine ⟨by decide +kernel, fun X ρ p pos args ds k d j l tg o hc hg hm ha hst hlen h hp hl ht => ?_⟩
  unfold yh at h
  split at h
  . cases h
    cases hl
    match args, hlen, ha, hst with
    | [a'], _, ha, hst => exact Ea hg hm ha (hst a' List.mem_cons_self) hp.1
  . cases h
end Sp
set_option Elab.async false
set_option linter.all false
set_option maxRecDepth 100000
namespace Sp
open PySem PySem.Spec PyProof.Rows L2
variable {X : Cx}
end Sp
set_option Elab.async false
set_option linter.all false
set_option maxRecDepth 100000
namespace Sp
open PySem PySem.Spec PyProof.Rows L2
section
variable {prog : Program} {w : World} {A : Around} {E : Value -> Shared -> Prop} {s : Shared}
theorem uG : typeLookup (.type "list_reverseiterator") "__len__" = pure none := by rw [typeLookup_type, builtinLookup_eq_fast]; kernel_rfl
theorem xZ : typeLookup (.type "list_reverseiterator") "__length_hint__" = pure (some (.builtin "list_reverseiterator.__length_hint__")) := by rw [typeLookup_type, builtinLookup_eq_fast]; kernel_rfl
theorem Bl : isSubtype (.type "list_reverseiterator") (.type "list_reverseiterator") = pure true := by kernel_rfl
theorem vY : splitId "list_reverseiterator.__length_hint__" = some ("list_reverseiterator", "__length_hint__") := by decide +kernel
theorem vZ {S I l : Nat} {items : Array Value} {res : Value} {R : Result -> Shared -> Prop} (hh : A.in1.handled = none) (n1 : S ≠ I) (n2 : S ≠ l) (n3 : l ≠ I) : ∀ (k : Nat) (s : Shared) (acc : Array Value) (c : Nat), k <= items.size -> s.heap.IsRevIter I l ((k : Int) - 1) -> s.heap.IsList l items -> s.heap.get? S = some (qJ acc c) -> acc.size + k <= sizeLine ->
    (∀ h' acc' c', h'.get? S = some (qJ acc' c') -> acc'.toList = acc.toList ++ (items.toList.take k).reverse -> (∀ (b : Nat) o, b ≠ S -> b ≠ I -> s.heap.get? b = some o -> h'.get? b = some o) -> R (.ok (.ret res)) { s with heap := h' }) ->
    codeAny (model prog w) A (.builtin "list.extend.loop" ⟨[.ref S, .ref I, res], []⟩) R s
  | 0, s, acc, c, _, st, pl, hS, hz, q => by
    refine tJ (wpAny_pyNext_rev_end hh (by simpa using st) fun h' eb => ?_)
    exact q h' acc c (eb _ _ n1 hS) (by simp) fun b o _ hb e => eb b o hb e
  | k + 1, s, acc, c, hk, st, pl, hS, hz, q => by
    have e : ((k + 1 : Nat) : Int) - 1 = (k : Int) := by omega
    rw [e] at st
    have hx : items[k]? = some items[k] := Array.getElem?_eq_getElem (by omega)
    refine tJ (wpAny_pyNext_rev_item st pl hx fun h' st' sb => ?_)
    refine ⟨acc, c, (sb.2 _ n1).trans hS, by omega, fun h2 c2 hS2 sb2 => ?_⟩
    have sb2 : Heap.SameBut S h' h2 := sb2
    obtain ⟨o, e1, e2, e3⟩ := st'
    obtain ⟨o2, f1, f2, f3⟩ := pl
    refine vZ hh n1 n2 n3 k { s with heap := h2 } (acc.push items[k]) c2 (by omega) ⟨o, (sb2.2 _ (Ne.symm n1)).trans e1, e2, e3⟩ ⟨o2, (sb2.2 _ (Ne.symm n2)).trans ((sb.2 _ n3).trans f1), f2, f3⟩ hS2 (by rw [Array.size_push]; omega) fun h3 acc' c' g1 g2 g3 => ?_
    refine q h3 acc' c' g1 ?_ fun b o hb1 hb2 e => g3 b o hb1 hb2 ((sb2.2 b hb1).trans ((sb.2 b hb2).trans e))
    rw [g2, Array.toList_push, List.take_add_one, List.append_assoc]
    congr 1
    have : items.toList[k]? = some items[k] := by rw [Array.getElem?_toList]; exact hx
    rw [this]
    simp
theorem x8 {n l : Nat} {items : Array Value} {Q : Value -> Shared -> Prop} (hh : A.handled = none) (hl : l < n) (st : s.heap.IsRevIter n l ((items.size : Int) - 1)) (pl : s.heap.IsList l items) (sz : s.heap.objs.size = n + 1) (hz : items.size <= sizeLine)
    (go : ∀ h1 acc m, h1.get? (n + 1) = some (qJ acc m) -> acc.toList = items.toList.reverse -> (∀ (d : Nat) o, d < n -> s.heap.get? d = some o -> h1.get? d = some o) -> Q (.ref (n + 1)) { s with heap := h1 }) :
    wpAny (model prog w) A (call (.type "list") [.ref n]) Q E s := by
  obtain ⟨h0, gg, dd, t0, oo⟩ := s
  have sz : h0.objs.size = n + 1 := sz
  refine callType_codes (Q₁ := fun ob s₁ => ob = .ref (n + 1) /\ s₁ = ⟨h0.push { cls := .type "list", data := .seq #[] }, gg, dd, t0, oo⟩) F.called_list (F.typeCall_list_1 _) F.entry_list_init (code_list_new _ ⟨by show Value.ref h0.objs.size = _; rw [sz], rfl⟩) fun ob s₁ hq => ?_
  obtain ⟨rfl, rfl⟩ := hq
  have hS : (h0.push { cls := .type "list", data := .seq #[] }).get? (n + 1) = some (qJ #[] 0) := by rw [<- sz]; exact Heap.get?_push_size _ rfl
  refine ⟨⟨_, hS, rfl⟩, F.args_list_init_2 _ _, ?_⟩
  show wpAny _ A.in1.in1 (Builtin.List.listItems (.ref (n + 1)) >>= fun old => Builtin.List.listUpdate (.ref (n + 1)) (fun _ => #[]) >>= fun _ => letGo old.toList.reverse >>= fun _ => Builtin.List.listExtendWith (.ref (n + 1)) (.ref n) .none) _ _ _
  unfold Builtin.List.listItems
  refine wpAny_bind (wpAny_bind (wpAny_seqItems hS rfl (wpAny_pure ?_)))
  show wpAny _ A.in1.in1 (updateSeq (n + 1) (fun _ => #[]) >>= _) _ _ _
  refine wpAny_bind (wpAny_updateSeq hS rfl ?_)
  refine wpAny_bind (wpAny_letGo ?_)
  have S1 := Heap.get?_update_self (Obj.mapSeq (fun _ => (#[] : Array Value))) hS rfl
  generalize hr1 : (h0.push { cls := .type "list", data := .seq #[] }).update (n + 1) (Obj.mapSeq fun _ => (#[] : Array Value)) = r1 at S1
  have k1 : ∀ (d : Nat) o, d ≠ n + 1 -> h0.get? d = some o -> r1.get? d = some o := fun d o g e => by rw [<- hr1]; exact (Heap.get?_update_other _ _ (Ne.symm g)).trans (Heap.get?_push_of_some _ e)
  obtain ⟨m1, S1⟩ : ∃ m, r1.get? (n + 1) = some (qJ #[] m) := ⟨_, S1⟩
  obtain ⟨o, e1, e2, e3⟩ := st
  obtain ⟨o2, f1, f2, f3⟩ := pl
  have z1 : r1.IsRevIter n l ((items.size : Int) - 1) := ⟨o, k1 _ _ (by omega) e1, e2, e3⟩
  have p1 : r1.IsList l items := ⟨o2, k1 _ _ (by omega) f1, f2, f3⟩
  have ty : Shared.TypeIs ⟨r1, gg, dd, t0, oo⟩ (.ref n) "list_reverseiterator" := ⟨_, k1 _ _ (by omega) e1, e2⟩
  unfold Builtin.List.listExtendWith
  refine wpAny_bind (wpAny_typeOf ty ?_)
  have g1 : Builtin.List.listSameRef (.ref (n + 1)) (.ref n) = false := by simp [Builtin.List.listSameRef]
  have g2 : (Value.type "list_reverseiterator" == Value.type "list") = false := by decide
  have g3 : (Value.type "list_reverseiterator" == Value.type "tuple") = false := by decide
  simp only [g1, g2, g3, Bool.or_false, Bool.false_eq_true, if_false]
  refine wpAny_bind (wpAny_pyIter_revIter z1 (wpAny_bind (wpAny_holding ?_)))
  unfold Builtin.List.listLengthHint
  refine wpAny_bind (wpAny_specialOf ty uG ?_)
  show wpAny _ _ (specialOf (Value.ref n) (Str.ofString "__length_hint__") >>= _) _ _ _
  refine wpAny_bind (wpAny_specialOf ty xZ ?_)
  dsimp only
  rw [vY]
  refine wpAny_bind (wpAny_isInstance ty Bl ?_)
  rw [if_neg (by decide)]
  rw [if_pos (by decide +kernel)]
  rw [if_neg (by decide)]
  refine wpAny_pure ?_
  rw [if_neg (by decide +kernel)]
  refine wpAny_pure ⟨plainId_quiet F.plain_extend_loop _, ?_⟩
  refine vZ (A := A.in1) (S := n + 1) (I := n) (l := l) hh (by omega) (by omega) (by omega) items.size ⟨r1, gg, dd, t0, oo⟩ #[] m1 (Nat.le_refl _) z1 p1 S1 (by simpa using hz) fun h' acc' c' q1 q2 q3 => ?_
  refine ⟨rfl, go h' acc' c' q1 (by rw [q2]; simp; exact List.take_of_length_le (by simp)) fun d o hd e => q3 d o (by omega) (by omega) (k1 _ _ (by omega) e)⟩
end
variable {X : Cx}
theorem BU {ρ : aj} {e : Expr} {f g : Str} {p q r t : Pos} {l : List D} {k : Nat} (hc : X.calm = true) (hf : f = "list") (hg : g = "reversed") (gf : Gl X f) (gg : Gl X g) (mf : X.mg f = none) (mg : X.mg g = none)
    (h : AD X ρ [e] [.lst l] k) (hst : ∀ y ∈ [e], ∀ x p, y ≠ .Starred x p) (fl : ao l = true) : ED X ρ (.Call (.Name f p) [.Call (.Name g q) [e] [] r] [] t) (.lst l.reverse) 0 := by
  intro ow pins s σ H Q I ⟨E, qq⟩
  subst hf hg
  refine wpAny_Call_Name_kw (dC I gf mf (u := .type "list") (by decide +kernel) ?_ (by decide +kernel) (by decide +kernel))
  refine PyProof.Rows.callWith_type1 (Calls.spliced_cons (wpAny_Call_Name_kw (dC I gg mg (u := .type "reversed") (by decide +kernel) ?_ (by decide +kernel) (by decide +kernel)))) rfl rfl
  have n1 := bj (env := X.env) (es := []) (hst e List.mem_cons_self)
  have n2 : (backTo r (starEach [] X.env)).any (·.1) = false := cC fun x hx => by cases hx
  refine PyProof.Rows.callWith_type1 (aN (h ow r pins s σ H _ I ⟨E, fun vs H1 s1 r1 => (show (fun vs H1 => aD H H1 /\ ag X.K H1 (Kp ow H k) [.lst l] vs) vs H1 from ⟨s1, r1⟩)⟩) fun us s1 ⟨vs, H1, I1, rv, sm, rp⟩ => ?_) n1 n2
  obtain ⟨v, rfl, rv1⟩ := rp.only
  obtain ⟨a, xs, rfl, hq, rl, hk1⟩ := jD (κ := false) rv1
  replace hq : cm X.K H1 a xs := hq
  obtain ⟨u, rfl, ru⟩ := d8 rv
  cases (show u = Value.ref a from ru)
  obtain ⟨its, rvs, pt, hz⟩ := I1.list hq
  have hh : X.A.handled = none := I.ok.hd hc
  have pl := pt.isList
  refine call_reversed_list pl ?_
  refine Calls.spliced_nil ?_
  obtain ⟨hp, gs, dr, tk, os⟩ := s1
  have pl : hp.IsList a its.toArray := pl
  have el := rvs.length
  have fr : ∀ j : Nat, H1 (hp.objs.size + j) = none := fun j => I1.hok.fresh (Nat.le_add_right _ _)
  have alt : (a : Nat) < hp.objs.size := let ⟨o, e, _⟩ := pl; Heap.lt_size e
  have tj : (hp.push (revObj a (((its.toArray.size : Nat) : Int) - 1))).IsList a its.toArray := let ⟨o, e, c⟩ := pl; ⟨o, Heap.get?_push_of_some _ e, c⟩
  refine x8 (n := hp.objs.size) (l := a) (items := its.toArray) hh alt ⟨_, Heap.get?_push_size _ rfl, rfl, rfl⟩ tj (Heap.size_push ..) (by rw [List.size_toArray, <- el]; exact hz) fun h3 acc m S3 eA kp => ?_
  have kk : ∀ b o, hp.get? b = some o -> h3.get? b = some o := fun b o e => kp b o (Heap.lt_size e) (Heap.get?_push_of_some _ e)
  generalize hn : hp.objs.size = n at *
  have hk0 : dn X.prog X.w H1 h3 := I1.hok.kept kk
  have ob : bV X.prog X.w (aV H1 (n + 1) (.lst xs.reverse)) h3 (n + 1) (.lst xs.reverse) := ⟨by rw [List.length_reverse]; exact hz, acc.toList, m, by rw [eA]; exact rvs.reverse, by rw [Array.toArray_toList]; exact S3⟩
  have hk1 := yj hk0 (fr 1) ob
  generalize hH : aV H1 (n + 1) (.lst xs.reverse) = H4 at hk1
  have g6 : H4 (n + 1) = some (.lst xs.reverse) := by rw [<- hH]; exact aO
  have old : ∀ c : Nat, c < n -> H4 c = H1 c := fun c hc => by rw [<- hH, aH (by show (c : Nat) ≠ n + 1; omega)]
  have inn : ∀ (c : Nat) o, H1 c = some o -> c < n := fun c o e => by
    rcases Nat.lt_or_ge c n with z | z
    . exact z
    . have := fr (c - n); rw [Nat.add_sub_cancel' z] at this; rw [this] at e; cases e
  have s4 : aD H1 H4 := fun c o e => (old c (inn c o e)).trans e
  have I4 : ak X pins σ H4 ⟨h3, gs, dr, tk, os⟩ := I1.un (t' := tk) (Aq kk (fun c hc => old c (by rw [<- hn]; exact hc)) fun c o e => by rw [hn]; exact inn c o e) hk1
  refine ⟨.ref (n + 1), H4, I4, rfl, qq _ H4 (sm.trans s4) ?_⟩
  rw [ah]
  exact ⟨n + 1, _, true, rfl, g6, ⟨rfl, sm.free (fr 1)⟩, (ag.flat _ fl (rl.same s4)).rev⟩
def Jv : Stmt -> Expr
  | .Return (some (.Tuple [e, _] _ _)) _ => e
  | _ => .Name (Str.ofString "") ⟨0, 0, 0, 0⟩
def Ju : Stmt -> Expr
  | .Return (some (.Tuple [_, .Call _ [.Call _ [e] _ _] _ _] _ _)) _ => e
  | _ => .Name (Str.ofString "") ⟨0, 0, 0, 0⟩
def iY (Φ : Fx) (sc : Scope) (ps : List Str) (pre : List Stmt) (e1 e2 : Expr) (ds : List D) : Rs D :=
  if ds.length = ps.length then (az Φ pre sc (fh ps ds)).bnd fun
    | .nx ρ1 => (ay Φ e1 false sc ρ1).bnd fun p => (cx Φ [e2] sc ρ1).bnd fun q => (match p.2, q.1 with
      | 0, [.lst l] => .ok (.tup [p.1, .lst l.reverse]) [ao l = true]
      | _, _ => .st)
    | _ => .st
  else .st
theorem BF {P : Program} {w : World} {K : W.Frag} {mg : Str -> Option Value} {base : Heap} {k : Nat} {g qual : Str} {st : Stmt} {f : Addr} {fd : FuncData} {ps : List Str} {Φ : Fx} {pre post : List Stmt} {n1 n2 : Str} {e1 e2 : Expr} {nn : Nat} {p pf pg rr t q : Pos} (Fn : pp K g qual st f fd)
    (S : aK (aA (ac st)) ps (ac st)) (hΦ : xi P w K mg base k Φ) (hb : al st = pre ++ .Return (some (.Tuple [e1, .Call (.Name n1 pf) [.Call (.Name n2 pg) [e2] [] rr] [] t] nn p)) q :: post) (hn1 : n1 = "list") (hn2 : n2 = "reversed")
    (gf : (ac st).names.lookup n1 = some .globalImplicit) (gg : (ac st).names.lookup n2 = some .globalImplicit) : cH P w K mg base fR (k + 1) f fd ps (jE K (iY Φ (ac st) ps pre e1 e2)) := by
  refine Fn.ok S (fun vs H Q E h => ?_) (fun cdv A outer s H vs Q E hr h => ?_)
  . obtain ⟨ds, r, l, h1, h2, hp, _⟩ := h
    unfold iY at h2
    split at h2
    . rename_i hl; rw [<- h1.length]; exact hl
    . cases h2
  . obtain ⟨ds, r, l, h1, h2, hp, qq⟩ := h
    have h2 : aa (iY Φ (ac st) ps pre e1 e2 ds) r := ⟨l, h2, hp⟩
    unfold iY at h2
    split at h2
    . rename_i hl
      have G := tQ (outer := outer) (H := H) (E := E) S hΦ hr
      obtain ⟨E0, hsl⟩ := wB (P := P) (w := w) (mg := mg) (base := base) (qual := qual) (f := f) (cdv := cdv) (A := A) (outer := outer) (s := s) (E := E) S h1 hl
      have B0 : dF H (fun _ => none) H := fun a o h => ⟨h, rfl⟩
      obtain ⟨fl, h3, h4⟩ := av h2
      cases fl with
      | nx ρ1 =>
        obtain ⟨⟨d1, k1⟩, h5, h6⟩ := av h4
        obtain ⟨⟨qs, k2⟩, h7, h8⟩ := av h6
        dsimp only at h8
        split at h8
        . rename_i l0
          obtain ⟨h9, hfl, _⟩ := bK h8
          subst h9
          obtain ⟨l7, h7, p7⟩ := h7
          obtain ⟨hst, _⟩ := dG h7 p7
          have ad := rj [e2] h7 p7 G
          have ed := BU (p := pf) (q := pg) (r := rr) (t := t) G.calm hn1 hn2 (G.gl n1 gf) (G.gl n2 gg) (by subst hn1; exact G.bl _ (by decide +kernel)) (by subst hn2; exact G.bl _ (by decide +kernel)) ad hst hfl
          have ed1 := (ej h5 G).ed rfl
          obtain ⟨l5, h5, p5⟩ := h5
          have st1 : ∀ y p, e1 ≠ .Starred y p := fun y p z => by subst z; cases h5
          have at2 : AD _ ρ1 [e1, .Call (.Name n1 pf) [.Call (.Name n2 pg) [e2] [] rr] [] t] [d1, .lst l0.reverse] (kj 0 (kj 0 0)) := oB ed1 (oB ed wQ (bj fun _ _ z => nomatch z)) (bj st1)
          have sd := vy (pos := q) (H0 := H) (rB (n := nn) (pos := p) at2 (by show 2 <= 40000; decide)) (.inl (by show kn _ 0 = 0; unfold kn; split <;> rfl))
          rw [hb]
          exact ⟨_, sU G PassesOwn.never h3 (iX sd fun _ z => nomatch z), fun _ => none, E0, hsl, B0, fun v H' sm rp => qq v H' sm rp⟩
        . exact (ar h8).elim
      | rt _ => exact (ar h4).elim
      | bk _ => exact (ar h4).elim
      | ct _ => exact (ar h4).elim
    . exact (ar h2).elim
theorem DE {Φ : Fx} {sc : Scope} {ps : List Str} {pre : List Stmt} {e1 e2 : Expr} {ds l : List D} {k : Nat} {ρ1 : aj} {d1 : D} (h1 : aa (az Φ pre sc (fh ps ds)) (.nx ρ1)) (h2 : aa (ay Φ e1 false sc ρ1) (d1, 0)) (h3 : aa (cx Φ [e2] sc ρ1) ([.lst l], k)) (h4 : ao l = true) (hl : ds.length = ps.length := by rfl) : aa (iY Φ sc ps pre e1 e2 ds) (.tup [d1, .lst l.reverse]) := by
  unfold iY
  rw [if_pos hl]
  exact aa.bnd h1 (aa.bnd h2 (aa.bnd h3 ⟨_, rfl, h4, True.intro⟩))
end Sp
set_option Elab.async false
set_option linter.all false
set_option maxRecDepth 100000
namespace K
open PySem L2 Sp Qm
def fj (q : Qd) : Prop := ∀ (k : Qd) (n : Int), ai k -> 1 < n -> q ≠ aR k n
theorem gz (n : Int) : ai (2 * n, 0, 0, 0) := ⟨0, n, 0, 0, 0, .inl rfl, by simp, rfl, rfl, rfl⟩
theorem nT (n : Int) : am (2 * n, 0, 0, 0) = n * n := by
  show ((2 * n) * (2 * n) + (0 * 0 + (0 * 0 + (0 * 0 + 0)))).fdiv 4 = n * n
  rw [show (2 * n) * (2 * n) + (0 * 0 + (0 * 0 + (0 * 0 + 0))) = 4 * (n * n) by grind, Qm.fd4]
theorem xV {k d : Qd} (n : Int) (hk : ai k) (hd : ai d) : aq (aR k n) d = aR (aq k d) n := by
  rw [<- fI, <- fI, cu (gz n) hk hd]
theorem xT {k d : Qd} (n : Int) (hk : ai k) (hd : ai d) : aq d (aR k n) = aR (aq d k) n := by
  rw [<- db, <- db, cu hd hk (gz n)]
theorem fj.left {u d : Qd} (hu : ai u) (hd : ai d) (h : fj (aq u d)) : fj u := fun k n hk hn e => h (aq k d) n (bZ hk hd) hn (by rw [e, xV n hk hd])
theorem fj.ne {q : Qd} (h : fj q) : q ≠ au := fun e => h au 2 gA (by decide) (by rw [e]; rfl)
theorem si {A y : Qd} (p : Int) (hA : ai A) (hy : ai y) : ∃ t, am (bW A (aR y p)) = am A + p * t := by
  obtain ⟨t1, h1, e1⟩ := cE (fx hA (e6 p hy))
  obtain ⟨t2, h2, e2⟩ := cE hA
  obtain ⟨t3, h3, e3⟩ := cE hy
  obtain ⟨e, x1, x2, x3, x4, he, a1, a2, a3, a4⟩ := hA
  obtain ⟨f, y1, y2, y3, y4, hf, b1, b2, b3, b4⟩ := hy
  rw [e1, e2]
  obtain ⟨A1, A2, A3, A4⟩ := A
  obtain ⟨Y1, Y2, Y3, Y4⟩ := y
  dsimp only at a1 a2 a3 a4 b1 b2 b3 b4 h1 h2 h3
  have hs : A1 * Y1 + A2 * Y2 + A3 * Y3 + A4 * Y4 = 2 * (2 * (x1 * y1 + x2 * y2 + x3 * y3 + x4 * y4) + f * (x1 + x2 + x3 + x4) + e * (y1 + y2 + y3 + y4) + 2 * (e * f)) := by
    rw [a1, a2, a3, a4, b1, b2, b3, b4]; grind
  generalize 2 * (x1 * y1 + x2 * y2 + x3 * y3 + x4 * y4) + f * (x1 + x2 + x3 + x4) + e * (y1 + y2 + y3 + y4) + 2 * (e * f) = t at hs
  refine ⟨t + p * t3, ?_⟩
  have h1' : (A1 + Y1 * p) * (A1 + Y1 * p) + ((A2 + Y2 * p) * (A2 + Y2 * p) + ((A3 + Y3 * p) * (A3 + Y3 * p) + ((A4 + Y4 * p) * (A4 + Y4 * p) + 0))) = 4 * t1 := h1
  have h1'' : (A1 * A1 + (A2 * A2 + (A3 * A3 + (A4 * A4 + 0)))) + 2 * p * (A1 * Y1 + A2 * Y2 + A3 * Y3 + A4 * Y4) + p * p * (Y1 * Y1 + (Y2 * Y2 + (Y3 * Y3 + (Y4 * Y4 + 0)))) = 4 * t1 := by rw [<- h1']; grind
  rw [h2, h3, hs] at h1''
  have : 4 * t2 + 4 * (p * t) + 4 * (p * (p * t3)) = 4 * t1 := by rw [<- h1'']; grind
  have e4 : p * (t + p * t3) = p * t + p * (p * t3) := Int.mul_add _ _ _
  omega
theorem Df : ∀ p ∈ cX, ∀ c ∈ (List.range 98).map (fun i : Nat => (i : Int)), c ≠ 0 -> p % c = 0 -> c = 1 \/ c = p := by decide +kernel
theorem eJ : ∀ p ∈ cX, 1 < p /\ p <= 97 := by decide
theorem De {p c n : Int} (hp : p ∈ cX) (hc : 0 <= c) (hn : 0 <= n) (e : c * n = p) : c = 1 \/ n = 1 := by
  obtain ⟨p1, p2⟩ := eJ p hp
  have c0 : c ≠ 0 := fun z => by rw [z, Int.zero_mul] at e; omega
  have n0 : n ≠ 0 := fun z => by rw [z, Int.mul_zero] at e; omega
  have cp : c <= p := by
    rw [<- e]
    have := Int.mul_le_mul_of_nonneg_left (show 1 <= n by omega) hc
    omega
  have hm : c ∈ (List.range 98).map (fun i : Nat => (i : Int)) := List.mem_map.mpr ⟨c.toNat, by simp; omega, by omega⟩
  rcases Df p hp c hm c0 (by rw [<- e]; exact Int.mul_emod_right c n) with h | h
  . exact .inl h
  . right
    rw [h] at e
    have : p * (n - 1) = 0 := by rw [Int.mul_sub, e]; omega
    rcases Int.mul_eq_zero.mp this with z | z <;> omega
theorem qW {r : Qd} {p : Int} {a : eB} (hr : ai r) (pl : fj r) (hp : p ∈ cX) (hd : ∃ c, am r = p * c) (g : xh true r (2 * p, 0, 0, 0) a) : am a.1 = p /\ ai a.1 /\ ∃ u, ai u /\ r = aq u a.1 := by
  obtain ⟨u, hu, eu⟩ := g.dp
  obtain ⟨v, hv, ev⟩ := g.dq'
  obtain ⟨d0, hx, hy, hs⟩ := g.ra
  have eu : r = aq u a.1 := eu
  have ev : (2 * p, 0, 0, 0) = aq v a.1 := ev
  have hs : bW (aq a.2.1 r) (aq a.2.2 (2 * p, 0, 0, 0)) = a.1 := hs
  rw [db] at hs
  obtain ⟨p1, p2⟩ := eJ p hp
  refine ⟨?_, d0, u, hu, eu⟩
  obtain ⟨t, ht⟩ := si p (bZ hx hr) hy
  obtain ⟨c, hc⟩ := hd
  rw [hs, cZ hx hr, hc] at ht
  have ht : am a.1 = p * (am a.2.1 * c + t) := by rw [ht]; grind
  have hv2 : p * p = am v * am a.1 := by rw [<- cZ hv d0, <- ev, nT]
  have nv := c7 hv
  have na := c7 d0
  generalize am a.2.1 * c + t = m at ht
  have m0 : 0 <= m := by
    rcases Int.le_total 0 m with h | h
    . exact h
    . rcases Int.lt_or_eq_of_le h with h | h
      . have := Int.mul_neg_of_pos_of_neg (show 0 < p by omega) h; omega
      . omega
  have em : am v * m = p := by
    have : p * (am v * m - p) = 0 := by
      rw [Int.mul_sub, hv2, ht]; grind
    rcases Int.mul_eq_zero.mp this with z | z <;> omega
  rcases De hp nv m0 em with h | h
  . exfalso
    have e1 : a.1 = aR (bG v) p := by
      rw [<- db, ev, <- cu (cw hv) hv d0, (dX hv).2, h]
      exact (fy a.1).symm
    exact pl (aq u (bG v)) p (bZ hu (cw hv)) p1 (by rw [<- xT p (cw hv) hu, <- e1]; exact eu)
  . rw [ht, h, Int.mul_one]
def cW (ns : List Int) : Int := ns.foldr (· * ·) 1
theorem eS (n : Int) (ns : List Int) : cW (n :: ns) = n * cW ns := rfl
theorem kJ : ∀ ms ns : List Int, cW (ms ++ ns) = cW ms * cW ns
  | [], ns => (Int.one_mul _).symm
  | m :: ms, ns => by rw [List.cons_append, eS, eS, kJ ms ns, Int.mul_assoc]
theorem sZ (n : Int) : cW [n] = n := Int.mul_one n
theorem nU : ∀ (ws : List Qd) (u : Qd), ai u -> (∀ w ∈ ws, ai w) -> am (ws.foldl aq u) = am u * cW (ws.map am)
  | [], u, _, _ => (Int.mul_one _).symm
  | w :: ws, u, hu, h => by
    rw [List.foldl_cons, nU ws _ (bZ hu (h w List.mem_cons_self)) fun x hx => h x (List.mem_cons_of_mem _ hx), cZ hu (h w List.mem_cons_self), List.map_cons, eS, Int.mul_assoc]
theorem i9 {q : Qd} {n : Nat} (h : ai q) (g : am q <= ((2 ^ n : Nat) : Int)) : gQ (n + 2) q := ⟨h, dy (jO h g) (by rw [Nat.pow_add]; omega)⟩
end K
set_option Elab.async false
set_option linter.all false
set_option maxRecDepth 100000
namespace K
open PySem L2 Sp Qm
def iq (a b c d : Int) : Bool := decide (b.fmod 2 = a.fmod 2) && (decide (c.fmod 2 = a.fmod 2) && decide (d.fmod 2 = a.fmod 2))
def gv (q : Qd) : Int := cond (iq (q.1.fdiv (gI [q.1, q.2.1, q.2.2.1, q.2.2.2])) (q.2.1.fdiv (gI [q.1, q.2.1, q.2.2.1, q.2.2.2])) (q.2.2.1.fdiv (gI [q.1, q.2.1, q.2.2.1, q.2.2.2])) (q.2.2.2.fdiv (gI [q.1, q.2.1, q.2.2.1, q.2.2.2]))) (gI [q.1, q.2.1, q.2.2.1, q.2.2.2]) ((gI [q.1, q.2.1, q.2.2.1, q.2.2.2]).fdiv 2)
theorem qP {a b c d : Int} : iq a b c d = true ↔ ai (a, b, c, d) := by
  unfold iq
  simp only [Bool.and_eq_true, decide_eq_true_eq]
  rw [iH]
  simp only [Ef]
theorem tx {q : Qd} (h : q ≠ au) : ∃ n ∈ [q.1, q.2.1, q.2.2.1, q.2.2.2], n ≠ 0 := by
  obtain ⟨a, b, c, d⟩ := q
  by_cases q1 : a = 0
  . by_cases q2 : b = 0
    . by_cases q3 : c = 0
      . refine ⟨d, by simp, fun q4 => h ?_⟩
        rw [q1, q2, q3, q4]; rfl
      . exact ⟨c, by simp, q3⟩
    . exact ⟨b, by simp, q2⟩
  . exact ⟨a, by simp, q1⟩
theorem rD {q : Qd} (h : q ≠ au) (hp : ai q) : ∃ (g : Int) (k : Qd), 0 < g /\ g = gI [q.1, q.2.1, q.2.2.1, q.2.2.2] /\ q = aR k g /\ k = (q.1.fdiv g, q.2.1.fdiv g, q.2.2.1.fdiv g, q.2.2.2.fdiv g) /\ (¬ ai k -> ∃ t, g = 2 * t) := by
  obtain ⟨n, hn, n0⟩ := tx h
  have hg := q9 hn n0
  have ea := nh (m := q.1) hn n0 (by simp)
  have eb := nh (m := q.2.1) hn n0 (by simp)
  have ec := nh (m := q.2.2.1) hn n0 (by simp)
  have ed := nh (m := q.2.2.2) hn n0 (by simp)
  refine ⟨_, _, hg, rfl, ?_, rfl, fun np => ?_⟩
  . unfold aR
    exact cM (ea.trans (Int.mul_comm _ _)) (eb.trans (Int.mul_comm _ _)) (ec.trans (Int.mul_comm _ _)) (ed.trans (Int.mul_comm _ _))
  . rcases rK (gI [q.1, q.2.1, q.2.2.1, q.2.2.2]) with e | e
    . exact ⟨gI [q.1, q.2.1, q.2.2.1, q.2.2.2] / 2, by rw [Ef] at e; omega⟩
    . exfalso
      apply np
      have pm : ∀ m s : Int, m = gI [q.1, q.2.1, q.2.2.1, q.2.2.2] * s -> m % 2 = s % 2 := fun m s hm => by
        rw [hm, Int.mul_emod]
        rw [Ef] at e
        rw [e, Int.one_mul, Int.emod_emod_of_dvd _ (Int.dvd_refl 2)]
      have p := iH.mp hp
      rw [iH]
      rw [pm _ _ ea, pm _ _ eb, pm _ _ ec, pm _ _ ed] at p
      exact p
theorem Ao {q : Qd} (h : q ≠ au) (hp : ai q) : 0 < gv q /\ ∃ k, ai k /\ q = aR k (gv q) := by
  obtain ⟨g, k, g0, eg, ek, dk, ev⟩ := rD h hp
  unfold gv
  rw [<- eg]
  have hk : iq (q.1.fdiv g) (q.2.1.fdiv g) (q.2.2.1.fdiv g) (q.2.2.2.fdiv g) = true ↔ ai k := by rw [qP, dk]
  cases hs : iq (q.1.fdiv g) (q.2.1.fdiv g) (q.2.2.1.fdiv g) (q.2.2.2.fdiv g) with
  | true => exact ⟨g0, k, hk.mp hs, ek⟩
  | false =>
    obtain ⟨t, ht⟩ := ev fun z => by rw [hk.mpr z] at hs; cases hs
    have e2 : g.fdiv 2 = t := by rw [ht, Qm.fd2]
    show 0 < g.fdiv 2 /\ ∃ k, ai k /\ q = aR k (g.fdiv 2)
    rw [e2]
    refine ⟨by omega, aR k 2, ⟨0, k.1, k.2.1, k.2.2.1, k.2.2.2, .inl rfl, by unfold aR; simp only; omega, by unfold aR; simp only; omega, by unfold aR; simp only; omega, by unfold aR; simp only; omega⟩, ?_⟩
    rw [ek, ht]
    unfold aR
    exact cM (by simp only [Int.mul_assoc]) (by simp only [Int.mul_assoc]) (by simp only [Int.mul_assoc]) (by simp only [Int.mul_assoc])
theorem FX {q k : Qd} {n : Int} (h : q ≠ au) (hk : ai k) (hn : 1 < n) (e : q = aR k n) : 1 < gv q := by
  have k0 : k ≠ au := fun z => h (by rw [e, z]; unfold aR au; simp)
  obtain ⟨g, k', g0, eg, ek, dk, ev⟩ := rD k0 hk
  have gq : gI [q.1, q.2.1, q.2.2.1, q.2.2.2] = n * g := by
    rw [eg, e]
    have := Ec (c := n) (by omega) [k.1, k.2.1, k.2.2.1, k.2.2.2]
    simp only [List.map_cons, List.map_nil] at this
    rw [<- this]
    unfold aR
    simp only [Int.mul_comm n]
  have fd : ∀ x : Int, (x * n).fdiv (n * g) = x.fdiv g := fun x => by rw [Int.mul_comm x n]; exact uR (by omega) g0
  have m1 : q.1.fdiv (n * g) = k.1.fdiv g := by rw [e]; exact fd _
  have m2 : q.2.1.fdiv (n * g) = k.2.1.fdiv g := by rw [e]; exact fd _
  have m3 : q.2.2.1.fdiv (n * g) = k.2.2.1.fdiv g := by rw [e]; exact fd _
  have m4 : q.2.2.2.fdiv (n * g) = k.2.2.2.fdiv g := by rw [e]; exact fd _
  unfold gv
  rw [gq, m1, m2, m3, m4]
  have hk : iq (k.1.fdiv g) (k.2.1.fdiv g) (k.2.2.1.fdiv g) (k.2.2.2.fdiv g) = true ↔ ai k' := by rw [qP, dk]
  cases hs : iq (k.1.fdiv g) (k.2.1.fdiv g) (k.2.2.1.fdiv g) (k.2.2.2.fdiv g) with
  | true =>
    show 1 < n * g
    have := Int.mul_le_mul_of_nonneg_left (show 1 <= g by omega) (show 0 <= n by omega)
    omega
  | false =>
    obtain ⟨t, ht⟩ := ev fun z => by rw [hk.mpr z] at hs; cases hs
    show 1 < (n * g).fdiv 2
    rw [ht, show n * (2 * t) = 2 * (n * t) by grind, Qm.fd2]
    have := Int.mul_le_mul_of_nonneg_left (show 1 <= t by omega) (show 0 <= n by omega)
    omega
theorem tf {q : Qd} (h : q ≠ au) (hp : ai q) : fj q ↔ gv q <= 1 := by
  constructor
  . intro pl
    obtain ⟨v0, k, hk, e⟩ := Ao h hp
    rcases Int.lt_or_le 1 (gv q) with z | z
    . exact absurd e (pl k _ hk z)
    . exact z
  . intro le k n hk hn e
    have := FX h hk hn e
    omega
theorem xG {u : Qd} (hu : ai u) (h : am u = 1) : fj u := fun k n hk hn e => by
  have e2 : u = aq k (2 * n, 0, 0, 0) := by rw [db]; exact e
  have := cZ hk (gz n)
  rw [<- e2, h, nT] at this
  have k0 := c7 hk
  rcases Int.lt_or_eq_of_le k0 with z | z
  . have n2 : 1 < n * n := by have := Int.mul_lt_mul_of_pos_left hn (show 0 < n by omega); omega
    have := Int.mul_le_mul_of_nonneg_right (show 1 <= am k by omega) (show 0 <= n * n by omega)
    omega
  . rw [<- z, Int.zero_mul] at this; omega
theorem AY (a b c d : Int) : ((([D.int (a.fmod 2), .int (b.fmod 2), .int (c.fmod 2), .int (d.fmod 2)].any fun z => cA z (.int 0))) && ([D.int (a.fmod 2), .int (b.fmod 2), .int (c.fmod 2), .int (d.fmod 2)].any fun z => cA z (.int 1))) = !iq a b c d := by
  unfold iq
  simp only [List.any_cons, List.any_nil, eN, Bool.or_false]
  rcases rK a with ha | ha <;> rcases rK b with hb | hb <;> rcases rK c with hc | hc <;> rcases rK d with hd | hd <;> rw [ha, hb, hc, hd] <;> decide
end K
set_option Elab.async false
set_option linter.all false
set_option maxRecDepth 100000
namespace K
open PySem L2 Sp Qm
theorem wC {p q : Qd} (h : dq p = dq q) : p = q := by
  have : q4 (dq p) = q4 (dq q) := by rw [h]
  injection this
theorem Hk {X Z w : Qd} (hX : ai X) (hZ : ai Z) (hw : ai w) (w0 : w ≠ au) (e : aq X w = aq Z w) : X = Z :=
  wC ((fE (s := true) hX hw w0 (show aq X w = aC true X w from rfl)).symm.trans (fE (s := true) hZ hw w0 (show aq X w = aC true Z w from e)))
theorem Hl {X Z w : Qd} (hX : ai X) (hZ : ai Z) (hw : ai w) (w0 : w ≠ au) (e : aq w X = aq w Z) : X = Z :=
  wC ((fE (s := false) hX hw w0 (show aq w X = aC false X w from rfl)).symm.trans (fE (s := false) hZ hw w0 (show aq w X = aC false Z w from e)))
theorem vh {z q : Qd} (hz : ai z) (h1 : am z = 1) (hq : ai q) : aq (bG z) (aq z q) = q := by
  rw [<- cu (cw hz) hz hq, (dX hz).2, h1]
  exact fy q
theorem Ap {z q : Qd} (hz : ai z) (h1 : am z = 1) (hq : ai q) : aq z (aq (bG z) q) = q := by
  rw [<- cu hz (cw hz) hq, (dX hz).1, h1]
  exact fy q
theorem xC {Q d w A B : Qd} {p : Int} (hA : ai A) (hB : ai B) (hd : ai d) (hw : ai w) (pl : fj Q) (e1 : Q = aq A d) (e2 : Q = aq B w) (sd : am d = p) (sw : am w = p) (hp : p ∈ cX) (hk : am Q <= (KN : Nat)) : ∃ e, ai e /\ am e = 1 /\ d = aq e w := by
  have hQ : ai Q := by rw [e1]; exact bZ hA hd
  obtain ⟨p1, p2⟩ := eJ p hp
  have oG : okG Q (2 * p, 0, 0, 0) := ⟨hQ, gz p, hk, by
    rw [nT]
    have : p * p <= 97 * 97 := Int.mul_le_mul p2 p2 (by omega) (by decide)
    exact Int.le_trans (show p * p <= ((2 ^ 14 : Nat) : Int) by omega) (Int.ofNat_le.mpr (Nat.pow_le_pow_right (by decide) (by decide)))⟩
  have g := wn (s := true) oG
  obtain ⟨sg, pg, _⟩ := qW hQ pl hp ⟨am A, by rw [e1, cZ hA hd, sd, Int.mul_comm]⟩ g
  have one : ∀ {x y : Qd}, ai x -> ai y -> am x = p -> Q = aq y x -> ∃ z, ai z /\ am z = 1 /\ (gJ true Q (2 * p, 0, 0, 0)).1 = aq z x := fun {x y} hx hy sx ex => by
    have d1 : Dv true x Q := ⟨y, hy, ex⟩
    have d2 : Dv true x (2 * p, 0, 0, 0) := ⟨bG x, cw hx, by show _ = aq (bG x) x; rw [(dX hx).2, sx]⟩
    obtain ⟨z, hz, ez⟩ := Dv.grt hx d1 d2 g
    have ez : (gJ true Q (2 * p, 0, 0, 0)).1 = aq z x := ez
    refine ⟨z, hz, ?_, ez⟩
    have := cZ hz hx
    rw [<- ez, sg, sx] at this
    have k : p * (am z - 1) = 0 := by rw [Int.mul_sub, Int.mul_comm p (am z), <- this]; omega
    rcases Int.mul_eq_zero.mp k with z | z <;> omega
  obtain ⟨z, hz, z1, ez⟩ := one hd hA sd e1
  obtain ⟨y, hy, y1, ey⟩ := one hw hB sw e2
  refine ⟨aq (bG z) y, bZ (cw hz) hy, by rw [cZ (cw hz) hy, nV, z1, y1]; rfl, ?_⟩
  rw [cu (cw hz) hy hw, <- ey, ez, vh hz z1 hd]
def FR (u : Qd) : List Qd -> Qd
  | [] => u
  | w :: wr => aq (FR u wr) w
theorem kZ : ∀ (ws : List Qd) (u : Qd), ws.foldl aq u = FR u ws.reverse := by
  have key : ∀ (l : List Qd) (u : Qd), l.reverse.foldl aq u = FR u l := fun l u => by
    induction l with
    | nil => rfl
    | cons w l ih => rw [List.reverse_cons, List.foldl_append, ih]; rfl
  intro ws u
  rw [<- key ws.reverse u, List.reverse_reverse]
theorem sh {u : Qd} (hu : ai u) : ∀ {l : List Qd}, (∀ w ∈ l, ai w) -> ai (FR u l)
  | [], _ => hu
  | w :: l, h => bZ (sh hu fun x hx => h x (List.mem_cons_of_mem _ hx)) (h w List.mem_cons_self)
theorem vB : ∀ {l : List Int}, (∀ n ∈ l, n ∈ cX) -> 0 <= cW l /\ cW l <= ((2 ^ (7 * l.length) : Nat) : Int)
  | [], _ => by decide
  | n :: l, h => by
    obtain ⟨h0, h1⟩ := vB fun m hm => h m (List.mem_cons_of_mem _ hm)
    obtain ⟨p1, p2⟩ := eJ n (h n List.mem_cons_self)
    rw [eS]
    refine ⟨Int.mul_nonneg (by omega) h0, ?_⟩
    have := Int.mul_le_mul (show n <= 128 by omega) h1 h0 (by decide)
    refine Int.le_trans this ?_
    rw [List.length_cons, Nat.mul_add, Nat.pow_add]
    generalize 2 ^ (7 * l.length) = x
    show (128 : Int) * (x : Int) <= ((x * 128 : Nat) : Int)
    omega
theorem EJ (ns : List Int) (c : Nat) (h : c <= ns.length) : jg (ns.map D.int) none (some (c : Int)) = (ns.take c).map D.int := by
  simp only [jg, HT.sIx_none, HT.sIx_nat, List.length_map, List.drop_zero, Nat.min_eq_left h, Nat.sub_zero, List.map_take]
theorem tZ (acc : List Qd) (l : Qd) : L2.atI ((acc ++ [l]).map dq) (-1) = some (dq l) := by
  unfold L2.atI jT
  rw [if_neg (by decide), if_pos (by simp; omega)]
  show ((acc ++ [l]).map dq)[_]? = _
  have : ((-1 : Int) + (((acc ++ [l]).map dq).length : Nat)).toNat = acc.length := by simp; omega
  rw [this]
  simp
end K
set_option Elab.async false
set_option linter.all false
set_option maxRecDepth 100000
namespace K
open PySem L2 Sp
def af (i : Nat) : Stmt := PySem.Challenge.pw_spaceturns_k24_one_order_one_way.main.body.getD i (.Pass ⟨0, 0, 0, 0⟩)
local macro_rules | `(tactic| walk_at "leaf") => `(tactic| first | ((with_reducible apply tz); decide) | ((with_reducible apply fz); decide) | ((with_reducible apply BY) <;> decide) | ((with_reducible apply bL) <;> (with_reducible assumption)) | ((with_reducible apply powOk_s) <;> decide) | ((with_reducible refine Eq.trans ?_ rfl); exact rfl) | ((with_reducible apply cel_bits); (with_reducible assumption)) | ((with_reducible apply DG); assumption) | exact Nat.le_of_ble_eq_true rfl | exact Or.inl rfl | exact Or.inr rfl | exact Or.inr (Nat.le_refl 1) | exact Or.inr (Nat.zero_le 1) | decide | decide +kernel)
local macro_rules | `(tactic| walk_at "ob") => `(tactic| (repeat' (first | with_reducible exact True.intro | with_reducible exact yS | with_reducible apply uY | with_reducible apply yR | with_reducible apply sF | with_reducible assumption | ((with_reducible apply er); intro hgd) | walk_at "leaf")))
local macro_rules | `(decl_name%) => `(cq rfl (by walk_at "ob"))
def BL : List (Str × (List D -> R1)) := [("len", yL), ("tuple", rN), ("list", uW), ("abs", yP), ("all", yO), ("sum", yJ), ("isinstance", yM), ("int", yN)]
def IL : List (Str × (List D -> Nat -> R1)) := [("range", jV), ("zip", yg), ("enumerate", uL), ("reversed", yh)]
def ML : List (Str × (D -> List D -> R1)) := []
def TL : List (Str × (List D -> List D -> Nat -> Rs (List D))) := [("append", kU)]
def yU : Fx := Tb [] [] BL IL ML TL aT
def yY : List D -> Rs D := bD yU (ac (af 40)) ["_law_script", "_law_k"] (al (af 40))
def jj : List D -> Rs D := mG dL dI fun l k => .ok (.int (j7 l k)) [DH l]
theorem sK : ∀ ds r, aa (jj ds) r -> aa (yY ds) r := by
  intro ds r h
  obtain ⟨l, k, rfl, h⟩ := fv h
  obtain ⟨rfl, ⟨ns, rfl⟩, _⟩ := bK h
  refine cj (bi 1 (cq rfl True.intro) (kG (cq rfl True.intro) (fun ht => ?_) (fun hf => ?_)))
  . have hl : (ns.map D.int).length = ns.length := by simp
    have hp : (0 : Int) < ((ns.map D.int).length : Nat) := by simpa using ht
    have hi : L2.atI (ns.map D.int) (k.fmod (((ns.map D.int).length : Nat) : Int)) = some (.int (j6 ns k)) := by
      rw [hl] at hp ⊢
      have hne : ns ≠ [] := by intro z; subst z; simp at hp
      unfold j6
      rw [if_neg hne]
      exact Cd (Int.fmod_nonneg_of_pos _ hp) (Int.fmod_lt_of_pos _ hp)
    refine ci (bX (d := .int (j6 ns k)) (ia (cq rfl True.intro) (cq rfl ⟨Int.ne_of_gt hp, True.intro⟩) rfl hi)) ?_
    refine decl_name%.eq ?_
    unfold j7 zX; rw [mC]
  . have hp : ns = [] := by
      cases ns with
      | nil => rfl
      | cons n ns => simp at hf
    subst hp
    refine decl_name%.eq ?_
    rfl
def wX : Fx := Tb [] [] BL IL ML TL aT
def ij : List D -> Rs D := bD wX (ac (af 46)) [] (al (af 46))
def aW : List Qd := [(2, 0, 0, 0), (-2, 0, 0, 0), (0, 2, 0, 0), (0, -2, 0, 0), (0, 0, 2, 0), (0, 0, -2, 0), (0, 0, 0, 2), (0, 0, 0, -2), (1, 1, 1, 1), (-1, 1, 1, 1), (1, -1, 1, 1), (-1, -1, 1, 1), (1, 1, -1, 1), (-1, 1, -1, 1), (1, -1, -1, 1), (-1, -1, -1, 1), (1, 1, 1, -1), (-1, 1, 1, -1), (1, -1, 1, -1), (-1, -1, 1, -1), (1, 1, -1, -1), (-1, 1, -1, -1), (1, -1, -1, -1), (-1, -1, -1, -1)]
theorem sO : aa (ij []) (.lst (aW.map dq)) := cq rfl (by walk_at "ob")
theorem cg : ∀ p ∈ aW, p ∈ pE := by decide +kernel
theorem vg : ∀ a ∈ ([-2, -1, 0, 1, 2] : List Int), ∀ b ∈ ([-2, -1, 0, 1, 2] : List Int), ∀ c ∈ ([-2, -1, 0, 1, 2] : List Int), ∀ d ∈ ([-2, -1, 0, 1, 2] : List Int), a % 2 = b % 2 -> a % 2 = c % 2 -> a % 2 = d % 2 -> a * a + (b * b + (c * c + (d * d + 0))) = 4 -> (a, b, c, d) ∈ aW := by decide +kernel
theorem iV {q : Qd} (hp : ai q) (h1 : am q = 1) : q ∈ aW := by
  obtain ⟨a, b, c, d⟩ := q
  obtain ⟨e, x, y, z, w, he, h2, h3, h4, h5⟩ := hp
  dsimp only at h2 h3 h4 h5
  have hs : (a * a + (b * b + (c * c + (d * d + 0)))).fdiv 4 = 1 := h1
  have sq : a * a + (b * b + (c * c + (d * d + 0))) = 4 := by
    have k : ∃ t, a * a + (b * b + (c * c + (d * d + 0))) = 4 * t := by
      rcases he with rfl | rfl
      . exact ⟨x * x + y * y + z * z + w * w, by rw [h2, h3, h4, h5]; grind⟩
      . exact ⟨x * x + x + y * y + y + z * z + z + w * w + w + 1, by rw [h2, h3, h4, h5]; grind⟩
    obtain ⟨t, ht⟩ := k
    rw [ht, Int.mul_fdiv_cancel_left _ (by decide)] at hs
    rw [ht, hs]; rfl
  have n0 : ∀ t : Int, 0 <= t * t := fun t => by
    rcases Int.le_total 0 t with q | q
    . exact Int.mul_nonneg q q
    . exact Int.mul_nonneg_of_nonpos_of_nonpos q q
  have two : ∀ t : Int, t * t <= 4 -> t ∈ ([-2, -1, 0, 1, 2] : List Int) := fun t h => by
    have : -2 <= t /\ t <= 2 := by
      constructor
      . rcases (show -2 <= t \/ t <= -3 by omega) with q | q
        . exact q
        . have := Int.mul_le_mul (show 3 <= -t by omega) (show 3 <= -t by omega) (by decide) (show 0 <= -t by omega)
          rw [Int.neg_mul_neg] at this
          omega
      . rcases (show t <= 2 \/ 3 <= t by omega) with q | q
        . exact q
        . have := Int.mul_le_mul_of_nonneg_left (show 3 <= t from q) (show 0 <= t by omega)
          omega
    have : t = -2 \/ t = -1 \/ t = 0 \/ t = 1 \/ t = 2 := by omega
    rcases this with rfl | rfl | rfl | rfl | rfl <;> decide
  have qa := n0 a; have qb := n0 b; have qc := n0 c; have qd := n0 d
  exact vg a (two a (by omega)) b (two b (by omega)) c (two c (by omega)) d (two d (by omega)) (by omega) (by omega) (by omega) sq
def wZ : Fx := Tb [] [] BL IL ML TL aT
def kA : List D -> Rs D := bD wZ (ac (af 47)) ["_law_n"] (al (af 47))
theorem BE {n : Int} (hn : n ∈ cX) : aa (kA [.int n]) (.lst ((eF n).map dq)) := by
  have hb : n.natAbs <= 97 := by
    have : ∀ x ∈ cX, x.natAbs <= 97 := by decide
    exact this n hn
  have m4 : bH 4 n := fz (by decide)
  refine cj (bi 3 decl_name% (Oa (Q := Sub (bT [("_law_found", .lst ((eF n).map dq), true)])) 1 ?_ fun ρ1 s => cJ s decl_name%))
  refine fc (fC (h := D.int) (g := uQ n) (T := eF n) (F := []) (R := []) (fun F ρ => Sub (bT [("_law_n", .int n, false), ("_law_roots", .dct (lG fN) (sX fN), true), ("_law_found", .lst (F.map dq), true)]) ρ) ([0, 1] : List Int) decl_name% rfl (ae rfl (ae rfl (ae rfl aG))) (by simp only [List.nil_append, List.append_nil]; rfl) fun par hpar F R ρ e s => ⟨_, rfl, ?_⟩) fun ρ s => eL (ae s.get aG)
  have hpar : par = 0 \/ par = 1 := by simpa using hpar
  have s1 := s.put (Str.ofString "_law_parity") (.int par, false)
  refine dv (bX (d := .lst ((dU n par).map D.int)) (bC s1 (rq (l := (List.range 41).map fun i : Nat => -20 + (i : Int)) (g := D.int) (f := D.int) (t := fun k => decide (k.fmod 2 = par) && decide (k * k <= 4 * n)) decl_name% (by rw [List.map_map]; rfl) (by simp; decide) (.inr (Nat.zero_le _)) fun x hx => ⟨_, 0, rfl, ?_, fun _ => decl_name%⟩))) ?_
  . have hx : -20 <= x /\ x <= 20 := by
      obtain ⟨i, hi, rfl⟩ := List.mem_map.mp hx
      have : i < 41 := by simpa using hi
      omega
    have mx : bH x x := fz (by omega)
    exact tU (decl_name%.bl (eN _ _)) decl_name%
  have sl := ql (n := n) hpar
  have fl := yo n
  have s2 := s1.put (Str.ofString "_law_some") (.lst ((dU n par).map D.int), true)
  refine fc (fC (h := D.int) (g := uP n par) (T := eF n) (F := F) (R := R) (fun F ρ => Sub (bT [("_law_n", .int n, false), ("_law_roots", .dct (lG fN) (sX fN), true), ("_law_found", .lst (F.map dq), true), ("_law_parity", .int par, false), ("_law_some", .lst ((dU n par).map D.int), false)]) ρ) (dU n par) (bC (s2.demote _) decl_name%) rfl (ae (s2.demote _).get (ae (s2.demote _).get (ae (s2.demote _).get (ae (s2.demote _).get (ae (s2.demote _).get aG))))) e fun a ha F R ρ e s => ⟨_, rfl, ?_⟩) fun ρ s => eL (ae s.get (ae s.get (ae s.get aG)))
  have s3 := s.put (Str.ofString "_law_a") (.int a, false)
  refine fc (fC (h := D.int) (g := uO n par a) (T := eF n) (F := F) (R := R) (fun F ρ => Sub (bT [("_law_n", .int n, false), ("_law_roots", .dct (lG fN) (sX fN), true), ("_law_found", .lst (F.map dq), true), ("_law_parity", .int par, false), ("_law_some", .lst ((dU n par).map D.int), false), ("_law_a", .int a, false)]) ρ) (dU n par) (bC (s3.demote _) decl_name%) rfl (ae (s3.demote _).get (ae (s3.demote _).get (ae (s3.demote _).get (ae (s3.demote _).get (ae (s3.demote _).get (ae (s3.demote _).get aG)))))) e fun b hb F R ρ e s => ⟨_, rfl, ?_⟩) fun ρ s => eL (ae s.get (ae s.get (ae s.get (ae s.get (ae s.get aG)))))
  have s4 := s.put (Str.ofString "_law_b") (.int b, false)
  refine fc (fC (h := D.int) (g := jh n par a b) (T := eF n) (F := F) (R := R) (fun F ρ => Sub (bT [("_law_n", .int n, false), ("_law_roots", .dct (lG fN) (sX fN), true), ("_law_found", .lst (F.map dq), true), ("_law_parity", .int par, false), ("_law_some", .lst ((dU n par).map D.int), false), ("_law_a", .int a, false), ("_law_b", .int b, false)]) ρ) (dU n par) (bC (s4.demote _) decl_name%) rfl (ae (s4.demote _).get (ae (s4.demote _).get (ae (s4.demote _).get (ae (s4.demote _).get (ae (s4.demote _).get (ae (s4.demote _).get (ae (s4.demote _).get aG))))))) e fun c hc F R ρ e s => ⟨_, rfl, ?_⟩) fun ρ s => eL (ae s.get (ae s.get (ae s.get (ae s.get (ae s.get (ae s.get aG))))))
  obtain ⟨_, a1, a2⟩ := fw ha
  obtain ⟨_, b1, b2⟩ := fw hb
  obtain ⟨_, c1, c2⟩ := fw hc
  have ma : bH a a := fz (by omega)
  have mb : bH b b := fz (by omega)
  have mc : bH c c := fz (by omega)
  have e0 := e
  have le : F.length + (jh n par a b c).length <= 37044 := by
    have : (F ++ (jh n par a b c ++ R)).length <= 37044 := by rw [e]; exact fl
    simp only [List.length_append] at this
    omega
  have s5 := s.put (Str.ofString "_law_c") (.int c, false)
  have hget := wo (lJ n a b c) fN
  unfold jh at le ⊢
  cases hr : qr fN (lJ n a b c) with
  | none =>
    have hin : eT (lG fN) (.inl (lJ n a b c)) = false := by rw [qV, hr]; rfl
    refine cz s5 (bi 1 decl_name% (cn (t := false) (k := 0) (dj (gk (b := false) (k := 0) (dE decl_name% decl_name% (r := false) (mZ hin)) (fun z => by cases z) (fun _ => rfl))) rfl eH)) fun ρ' s' => ?_
    simp only [List.append_nil]
    exact ae s'.get (ae s'.get (ae s'.get (ae s'.get (ae s'.get (ae s'.get (ae s'.get aG))))))
  | some d =>
    have hin : eT (lG fN) (.inl (lJ n a b c)) = true := by rw [qV, hr]; rfl
    rw [hr] at hget le
    obtain ⟨_, d1, d2⟩ := sW hr
    dsimp only at le ⊢
    by_cases hp : d.fmod 2 = par
    . rw [if_pos hp] at le ⊢
      by_cases hl : 0 < lJ n a b c
      . rw [if_pos hl] at le ⊢
        simp only [List.length_cons, List.length_nil] at le
        have l1 : (F.map dq).length < bI := by rw [List.length_map]; show _ < 40000; omega
        have l2 : (F.map dq ++ [dq (a, b, c, d)]).length < bI := by rw [List.length_append, List.length_map]; show _ + 1 < 40000; omega
        refine cz s5 (bi 1 decl_name% (iE (t := true) (k := 0) (dj (jb (k := 0) (dE decl_name% decl_name% (r := true) (mZ hin)) (jb (k := 0) (dE (rz (gn decl_name% decl_name% rfl hget) decl_name% decl_name%) decl_name% (r := true) (decl_name%.eq ((eN _ _).trans (decide_eq_true hp)))) jX))) rfl (ci (rg (l := F.map dq) (l' := F.map dq ++ [dq (a, b, c, d)]) (bf (rn (bf decl_name% (bf decl_name% (bf decl_name% (bf (gn decl_name% decl_name% rfl hget) cP)))) (Nat.le_of_ble_eq_true rfl)) cP) rfl (rP l1)) (iE (t := decide (0 < lJ n a b c)) (k := 0) decl_name% (decide_eq_true hl) (ci (rg (l := F.map dq ++ [dq (a, b, c, d)]) (l' := F.map dq ++ [dq (a, b, c, d)] ++ [dq (a, b, c, -d)]) (bf (rn (bf decl_name% (bf decl_name% (bf decl_name% (bf (En (gn decl_name% decl_name% rfl hget)) cP)))) (Nat.le_of_ble_eq_true rfl)) cP) rfl (rP l2)) eH))))) fun ρ' s' => ?_
        rw [List.map_append]
        exact ae s'.get (ae s'.get (ae (s'.get.trans (by rw [List.append_assoc]; rfl)) (ae s'.get (ae s'.get (ae s'.get (ae s'.get aG))))))
      . rw [if_neg hl] at le ⊢
        simp only [List.length_cons, List.length_nil] at le
        have l1 : (F.map dq).length < bI := by rw [List.length_map]; show _ < 40000; omega
        refine cz s5 (bi 1 decl_name% (iE (t := true) (k := 0) (dj (jb (k := 0) (dE decl_name% decl_name% (r := true) (mZ hin)) (jb (k := 0) (dE (rz (gn decl_name% decl_name% rfl hget) decl_name% decl_name%) decl_name% (r := true) (decl_name%.eq ((eN _ _).trans (decide_eq_true hp)))) jX))) rfl (ci (rg (l := F.map dq) (l' := F.map dq ++ [dq (a, b, c, d)]) (bf (rn (bf decl_name% (bf decl_name% (bf decl_name% (bf (gn decl_name% decl_name% rfl hget) cP)))) (Nat.le_of_ble_eq_true rfl)) cP) rfl (rP l1)) (cn (t := decide (0 < lJ n a b c)) (k := 0) decl_name% (decide_eq_false hl) eH)))) fun ρ' s' => ?_
        rw [List.map_append]
        exact ae s'.get (ae s'.get (ae s'.get (ae s'.get (ae s'.get (ae s'.get (ae s'.get aG))))))
    . rw [if_neg hp] at le ⊢
      refine cz s5 (bi 1 decl_name% (cn (t := false) (k := 0) (dj (jb (k := 0) (dE decl_name% decl_name% (r := true) (mZ hin)) (gk (b := false) (k := 0) (dE (rz (gn decl_name% decl_name% rfl hget) decl_name% decl_name%) decl_name% (r := false) (decl_name%.eq ((eN _ _).trans (decide_eq_false hp)))) (fun z => by cases z) (fun _ => rfl)))) rfl eH)) fun ρ' s' => ?_
      simp only [List.append_nil]
      exact ae s'.get (ae s'.get (ae s'.get (ae s'.get (ae s'.get (ae s'.get (ae s'.get aG))))))
def wY : Fx := Tb [] [] BL IL ML TL aT
def xf : List D -> Rs D := bD wY (ac (af 44)) ["_law_one", "_law_other"] (al (af 44))
def d6 : List D -> Rs D := mG dQ dQ fun p q => .ok (dq (aq p q)) [dm p, dm q]
theorem rX : ∀ ds r, aa (d6 ds) r -> aa (xf ds) r := by
  intro ds r h
  obtain ⟨p, q, rfl, h'⟩ := fv h
  obtain ⟨rfl, ⟨a1, a2, a3, a4⟩, ⟨b1, b2, b3, b4⟩, _⟩ := bK h'
  exact decl_name%
def ki : Fx := Tb [("_law_units", ij), ("_law_cell", jj), ("_law_fours", kA), ("_law_times", d6)] [] BL IL ML TL aT
def kB : List D -> Rs D := bD ki (ac (af 48)) ["_law_script", "_law_begin", "_law_many"] (al (af 48))
def jn (w : Qd) : Prop := gQ 5 w /\ am w ∈ cX
theorem Hn {α : Type} {f : α -> D} {l : List α} {c : Int} (h : 0 < l.length) : ∃ x ∈ l, L2.atI (l.map f) (c.fmod ((l.map f).length : Nat)) = some (f x) := by
  rw [List.length_map]
  exact pK (Int.fmod_nonneg_of_pos _ (by omega)) (Int.fmod_lt_of_pos _ (by omega))
theorem B4 {L : List D} (hl : DH L) (b : Int) {m : Nat} (hm : m <= 7) : ∃ (u : Qd) (ws : List Qd), u ∈ aW /\ ws.length = m /\ (∀ w ∈ ws, jn w) /\ aa (kB [.lst L, .int b, .int m]) (.tup [dq u, .lst (ws.map dq), .lst ((ws.map am).map D.int), dq (ws.foldl aq u)]) := by
  obtain ⟨u, hu, hat⟩ := pK (f := dq) (l := aW) (i := (j7 L b).fmod 24) (Int.fmod_nonneg_of_pos _ (by decide)) (Int.fmod_lt_of_pos _ (by decide))
  have gu := f7 (cg u hu)
  obtain ⟨r, h1, ws, w1, w2, hr⟩ : ∃ r, aa (az ki (al (af 48)) (ac (af 48)) (fh ["_law_script", "_law_begin", "_law_many"] [.lst L, .int b, .int m])) (.rt r) /\ ∃ ws : List Qd, ws.length = m /\ (∀ w ∈ ws, jn w) /\ r = .tup [dq u, .lst (ws.map dq), .lst ((ws.map am).map D.int), dq (ws.foldl aq u)] := by
    obtain ⟨ρ', g1, ws, w1, w2, s⟩ : ∃ ρ', aa (az ki ((al (af 48)).take 5) (ac (af 48)) (fh ["_law_script", "_law_begin", "_law_many"] [.lst L, .int b, .int m])) (.nx ρ') /\ ∃ ws : List Qd, ws.length = m /\ (∀ w ∈ ws, jn w) /\ Sub (bT [("_law_primes", .lst ((ws.map am).map D.int), true), ("_law_parts", .lst (ws.map dq), true), ("_law_whole_here", dq (ws.foldl aq u), true), ("_law_unit", dq u, true)]) ρ' := by
      refine vN 2 decl_name% (dv (bX (d := dq u) (ia (bn decl_name% sO) decl_name% rfl hat)) (vN 1 decl_name% (fc (P := fun ρ' => ∃ ws : List Qd, ws.length = m /\ (∀ w ∈ ws, jn w) /\ Sub (bT [("_law_primes", .lst ((ws.map am).map D.int), true), ("_law_parts", .lst (ws.map dq), true), ("_law_whole_here", dq (ws.foldl aq u), true), ("_law_unit", dq u, true)]) ρ') (Ed (n := m) (fun i ρ => ∃ ws : List Qd, ws.length = i /\ (∀ w ∈ ws, jn w) /\ gQ (1 + 6 * i) (ws.foldl aq u) /\ Sub (bT [("_law_script", .lst L, false), ("_law_begin", .int b, false), ("_law_primes", .lst ((ws.map am).map D.int), true), ("_law_parts", .lst (ws.map dq), true), ("_law_whole_here", dq (ws.foldl aq u), true), ("_law_unit", dq u, true)]) ρ) (Hb (B := jV) decl_name% (C2 (by omega))) ⟨[], rfl, (fun w h => by cases h), gu, ae rfl (ae rfl (ae rfl (ae rfl (ae rfl (ae rfl (aG))))))⟩ ?_ ?_) fun ρ h => eL h)))
      . rintro i ρ hi ⟨ws, w1, w2, w3, s⟩
        refine ⟨_, rfl, ?_⟩
        have s1 := s.put (Str.ofString "_law_k") (.int (i : Nat), false)
        obtain ⟨p0, hp0, at0⟩ := pK (f := D.int) (l := [2, 3, 5, 7, 11, 13, 3, 5]) (i := (j7 L (b + 1 + (i : Nat))).fmod 8) (Int.fmod_nonneg_of_pos _ (by decide)) (Int.fmod_lt_of_pos _ (by decide))
        obtain ⟨p1, hp1, at1⟩ := pK (f := D.int) (l := [17, 19, 23, 29, 31, 37, 41, 43, 47, 53, 59, 61, 67, 71, 73, 79, 83, 89, 97]) (i := ((j7 L (b + 1 + (i : Nat))).fdiv 192).fmod 19) (Int.fmod_nonneg_of_pos _ (by decide)) (Int.fmod_lt_of_pos _ (by decide))
        have q0 : p0 ∈ cX := (show ∀ x ∈ ([2, 3, 5, 7, 11, 13, 3, 5] : List Int), x ∈ cX by decide) p0 hp0
        have q1 : p1 ∈ cX := (show ∀ x ∈ ([17, 19, 23, 29, 31, 37, 41, 43, 47, 53, 59, 61, 67, 71, 73, 79, 83, 89, 97] : List Int), x ∈ cX by decide) p1 hp1
        refine Og (Q := fun ρ => ∃ (n : Int), n ∈ cX /\ Sub (bT [("_law_script", .lst L, false), ("_law_begin", .int b, false), ("_law_primes", .lst ((ws.map am).map D.int), true), ("_law_parts", .lst (ws.map dq), true), ("_law_whole_here", dq (ws.foldl aq u), true), ("_law_unit", dq u, true), ("_law_cell_here", .int (j7 L (b + 1 + (i : Nat))), true), ("_law_p", .int n, true)]) ρ) 3 ?_ ?_
        . have s2 := s1.put (Str.ofString "_law_cell_here") (.int (j7 L (b + 1 + (i : Nat))), true)
          have s3 := s2.put (Str.ofString "_law_p") (.int p0, true)
          exact dv (bX (d := .int (j7 L (b + 1 + (i : Nat)))) (bC s1 decl_name%)) (dv (bX (d := .int p0) (bC s2 (ia decl_name% decl_name% rfl at0))) (fc (uK (k := 0) (bC s3 decl_name%) (fun _ => cz s3 (ci (bX (d := .int p1) (ia decl_name% decl_name% rfl at1)) eH) fun ρ' s' => ⟨p1, q1, ae s'.get (ae s'.get (ae s'.get (ae s'.get (ae s'.get (ae s'.get (ae s'.get (ae s'.get aG)))))))⟩) (fun _ => eL ⟨p0, q0, ae s3.get (ae s3.get (ae s3.get (ae s3.get (ae s3.get (ae s3.get (ae s3.get (ae s3.get aG)))))))⟩)) fun ρ h => eL h))
        . rintro ρ2 ⟨n, hn, s⟩
          obtain ⟨w, hw, atw⟩ := Hn (f := dq) (l := eF n) (c := (j7 L (b + 1 + (i : Nat))).fdiv 4096) (rc hn)
          obtain ⟨gw, ew⟩ := yn hw
          subst ew
          have hne : ((((eF (am w)).map dq).length : Nat) : Int) ≠ 0 := by have := rc hn; rw [List.length_map]; omega
          have l1 : ((ws.map am).map D.int).length < bI := by rw [List.length_map, List.length_map, w1]; show i < 40000; omega
          have l2 : (ws.map dq).length < bI := by rw [List.length_map, w1]; show i < 40000; omega
          have b1 := w3.bd (by omega)
          have b2 := gw.bd (by decide)
          have s4 := s.put (Str.ofString "_law_some") (.lst ((eF (am w)).map dq), true)
          have s5 := s4.put (Str.ofString "_law_part") (dq w, true)
          refine dv (bX (d := .lst ((eF (am w)).map dq)) (bC s (bn decl_name% (BE hn)))) (dv (bX (d := dq w) (bC s4 (ia decl_name% decl_name% rfl atw))) (cz s5 decl_name% fun ρ' s' => ⟨ws ++ [w], by rw [List.length_append, w1]; rfl, ?_, ?_, ?_⟩))
          . intro x hx
            rcases List.mem_append.mp hx with hx | hx
            . exact w2 x hx
            . rw [List.mem_singleton] at hx; subst hx; exact ⟨gw, hn⟩
          . rw [List.foldl_append]
            have := w3.mul gw
            exact this.mono (by omega)
          . rw [List.map_append, List.map_append, List.map_append, List.foldl_append]
            exact ae s'.get (ae s'.get (ae s'.get (ae s'.get (ae s'.get (ae s'.get aG)))))
      . rintro ρ ⟨ws, w1, w2, w3, s⟩
        exact ⟨ws, w1, w2, ae s.get (ae s.get (ae s.get (ae s.get aG)))⟩
    exact ⟨_, bi 5 g1 (cJ s decl_name%), ws, w1, w2, rfl⟩
  subst hr
  exact ⟨u, ws, hu, w1, w2, cj h1⟩
def lN : Fx := Tb [] [] BL IL ML TL aT
def fL : List D -> Rs D := bD lN (ac (af 49)) ["_law_four"] (al (af 49))
theorem v7 (a b c d G : Int) (f : Bool) (hG : gb G) : aa (az lN ((al (af 49)).drop 2) (ac (af 49)) (bT [("_law_four", t4 a b c d, false), ("_law_common", .int G, f)])) (.rt (.int (cond (([D.int ((a.fdiv G).fmod 2), .int ((b.fdiv G).fmod 2), .int ((c.fdiv G).fmod 2), .int ((d.fdiv G).fmod 2)].any fun z => cA z (.int 0)) && ([D.int ((a.fdiv G).fmod 2), .int ((b.fdiv G).fmod 2), .int ((c.fdiv G).fmod 2), .int ((d.fdiv G).fmod 2)].any fun z => cA z (.int 1))) (G.fdiv 2) G))) := by
  refine bi 1 decl_name% (kG (tU decl_name% decl_name%) (fun ht => ?_) (fun hf => ?_))
  . rw [ht]; exact decl_name%
  . rw [hf]; exact decl_name%
theorem DT {a b c d : Int} (h0 : ¬ (a = 0 /\ b = 0 /\ c = 0 /\ d = 0)) (hb : ∀ n ∈ [a, b, c, d], n.natAbs < 2 ^ 1000) (hB : gb (gI [a, b, c, d])) : aa (fL [t4 a b c d]) (.int (cond (([D.int ((a.fdiv (gI [a, b, c, d])).fmod 2), .int ((b.fdiv (gI [a, b, c, d])).fmod 2), .int ((c.fdiv (gI [a, b, c, d])).fmod 2), .int ((d.fdiv (gI [a, b, c, d])).fmod 2)].any fun z => cA z (.int 0)) && ([D.int ((a.fdiv (gI [a, b, c, d])).fmod 2), .int ((b.fdiv (gI [a, b, c, d])).fmod 2), .int ((c.fdiv (gI [a, b, c, d])).fmod 2), .int ((d.fdiv (gI [a, b, c, d])).fmod 2)].any fun z => cA z (.int 1))) ((gI [a, b, c, d]).fdiv 2) (gI [a, b, c, d]))) := by
  refine cj (bi 1 decl_name% (nW (ds := ([a, b, c, d] : List Int).map D.int) (fun rem ρ => ∃ (r : List Int) (g : Nat) (f : Bool), rem = r.map D.int /\ (∀ n ∈ r, n.natAbs < 2 ^ 1000) /\ dh g r = dh 0 [a, b, c, d] /\ g < 2 ^ 1000 /\ Sub (bT [("_law_four", t4 a b c d, false), ("_law_common", .int g, f)]) ρ) decl_name% ⟨[a, b, c, d], 0, true, rfl, hb, rfl, Nat.pow_pos (by decide), ae rfl (ae rfl aG)⟩ ?_ ?_))
  . rintro x l ρ ⟨r, g, f, hr, hb', hg, hlt, s⟩
    cases r with
    | nil => cases hr
    | cons n r =>
      cases hr
      have hn := hb' n List.mem_cons_self
      have ea : (if n < 0 then -n else n) = ((n.natAbs : Nat) : Int) := by omega
      refine ⟨_, rfl, dv (bX (d := .int (n.natAbs : Nat)) (bC (s.put _ _) (decl_name%.eq (by rw [ea])))) (FV (m := 2002) (fun m ρ => ∃ (x y : Nat) (f1 f2 : Bool), xj x y m /\ x < 2 ^ 1000 /\ y < 2 ^ 1000 /\ Nat.gcd x y = Nat.gcd g n.natAbs /\ Sub (bT [("_law_four", t4 a b c d, false), ("_law_common", .int x, f1), ("_law_rest", .int y, f2)]) ρ) ⟨g, n.natAbs, f, true, Ep hlt hn, hlt, hn, rfl, ae ((s.put _ _).put _ _).get (ae ((s.put _ _).put _ _).get (ae ((s.put _ _).put _ _).get aG))⟩ (by decide) ?_ ?_)⟩
      . rintro m ρ ⟨x, y, f1, f2, hm, hx, hy, hg', s⟩
        refine ⟨decide ((0 : Int) < y), 0, bC s decl_name%, fun ht => ?_⟩
        have h0 : y ≠ 0 := by
          have := of_decide_eq_true ht
          omega
        have hn : (y : Int) ≠ 0 := by omega
        obtain ⟨m', hm', hE⟩ := tV hm h0
        have e := wt x y
        exact kE hm' (cz s decl_name% fun ρ' s' => ⟨y, x % y, false, false, hE, hy, Nat.lt_trans (Nat.mod_lt _ (by omega)) hy, by rw [<- hg', Nat.gcd_comm x y, Nat.gcd_rec y x, Nat.gcd_comm], ae s'.get (ae s'.get (ae (by rw [<- e]; exact s'.get) aG))⟩)
      . rintro m ρ ⟨x, y, f1, f2, hm, hx, hy, hg', s⟩ ⟨k, hk⟩
        have e := hk.inj (bC s decl_name%)
        have h0 : y = 0 := by
          have e1 : decide ((0 : Int) < y) = false := by injection e with e1 e2; injection e1 with e1; exact e1.symm
          have := of_decide_eq_false e1
          omega
        subst h0
        rw [Nat.gcd_zero_right] at hg'
        exact ⟨r, x, f1, rfl, fun m hm => hb' m (List.mem_cons_of_mem _ hm), by rw [hg']; exact hg, hx, ae s.get (ae s.get aG)⟩
  . rintro ρ ⟨r, g, f, hr, hb', hg, hlt, s⟩
    cases r with
    | nil =>
      have e : (g : Int) = gI [a, b, c, d] := by unfold gI; rw [<- hg]; rfl
      rw [<- e] at hB ⊢
      exact cJ s (v7 a b c d _ _ hB)
    | cons n r => cases hr
def oE : Fx := Tb [("_law_times", d6), ("_law_divisor", fL)] [] BL IL ML TL aT
def oH : List D -> Rs D := bD oE (ac (af 51)) ["_law_unit", "_law_parts"] (al (af 51))
theorem GU {q : Qd} (h : q ≠ au) (g : gQ 400 q) : aa (fL [dq q]) (.int (gv q)) := by
  have b := g.bd (by decide)
  obtain ⟨n, hn, n0⟩ := tx h
  have hg := q9 hn n0
  have hle : ∀ n ∈ [q.1, q.2.1, q.2.2.1, q.2.2.2], n.natAbs <= 2 ^ 400 := by
    intro n hn
    simp only [List.mem_cons, List.not_mem_nil, or_false] at hn
    rcases hn with rfl | rfl | rfl | rfl
    . exact g.2.1
    . exact g.2.2.1
    . exact g.2.2.2.1
    . exact g.2.2.2.2
  have k := DT (a := q.1) (b := q.2.1) (c := q.2.2.1) (d := q.2.2.2) (fun z => h (cM z.1 z.2.1 z.2.2.1 z.2.2.2)) (fun m hm => Nat.lt_of_le_of_lt (hle m hm) (Nat.pow_lt_pow_right (by decide) (by decide))) ⟨by omega, Nat.lt_of_le_of_lt (Nat.le_trans (zT hn n0) (hle n hn)) (Nat.pow_lt_pow_right (by decide) (by decide))⟩
  rw [AY] at k
  refine k.eq ?_
  unfold gv
  cases iq _ _ _ _ <;> rfl
theorem wF {u : Qd} (hu : u ∈ aW) : ∀ (rem done : List Qd) (f : Bool) (ρ : aj), (∀ w ∈ rem, jn w) -> (∀ w ∈ done, jn w) -> done.length + rem.length <= 7 -> gQ (1 + 6 * done.length) (done.foldl aq u) -> fj (done.foldl aq u) -> Sub (bT [("_law_whole_here", dq (done.foldl aq u), f), ("_law_kept", .lst (done.map dq), true)]) ρ ->
    ∃ j, j <= rem.length /\ fj ((done ++ rem.take j).foldl aq u) /\ t8 oE (ac (af 51)) (kY ((al (af 51)).getD 2 (.Pass ⟨0, 0, 0, 0⟩))) (fD ((al (af 51)).getD 2 (.Pass ⟨0, 0, 0, 0⟩))) ((al (af 51)).drop 3) (.tup [.lst ((done ++ rem.take j).map dq), dq ((done ++ rem.take j).foldl aq u)]) (rem.map dq) ρ
  | [], done, f, ρ, _, _, _, _, pl, s => ⟨0, Nat.le_refl _, by rw [List.take_nil, List.append_nil]; exact pl, by rw [List.take_nil, List.append_nil]; exact cJ s decl_name%⟩
  | w :: rem, done, f, ρ, hw, hd, hl, g, pl, s => by
    obtain ⟨gw, pw⟩ := hw w List.mem_cons_self
    simp only [List.length_cons] at hl
    have b1 := g.bd (by omega)
    have b2 := gw.bd (by decide)
    have gm : gQ (1 + 6 * (done.length + 1)) (aq (done.foldl aq u) w) := (g.mul gw).mono (by omega)
    have m0 : aq (done.foldl aq u) w ≠ au := wN (s := true) g.1 gw.1 pl.ne (fun z => by rw [z] at pw; exact absurd pw (by decide))
    have kd := GU m0 (gm.mono (by omega))
    have s1 := s.put (Str.ofString "_law_part") (dq w, false)
    by_cases hv : 1 < gv (aq (done.foldl aq u) w)
    . refine ⟨0, Nat.zero_le _, by rw [List.take_zero, List.append_nil]; exact pl, ?_⟩
      rw [List.take_zero, List.append_nil]
      exact ⟨_, rfl, .inr (cJ s1 (bi 1 decl_name% (iE (t := decide (1 < gv (aq (done.foldl aq u) w))) (k := 0) (dE (bn decl_name% kd) decl_name% cG) (decide_eq_true hv) decl_name%)))⟩
    . have pm : fj (aq (done.foldl aq u) w) := (tf m0 gm.1).mpr (by omega)
      have l1 : (done.map dq).length < bI := by rw [List.length_map]; show _ < 40000; omega
      have ef : (done ++ [w]).foldl aq u = aq (done.foldl aq u) w := by rw [List.foldl_append]; rfl
      have h2 := cz s1 (ss := fD ((al (af 51)).getD 2 (.Pass ⟨0, 0, 0, 0⟩))) (Φ := oE) (sc := ac (af 51)) (P := fun ρ' => Sub (bT [("_law_whole_here", dq ((done ++ [w]).foldl aq u), true), ("_law_kept", .lst ((done ++ [w]).map dq), true)]) ρ') (bi 1 decl_name% (cn (t := decide (1 < gv (aq (done.foldl aq u) w))) (k := 0) (dE (bn decl_name% kd) decl_name% cG) (decide_eq_false hv) decl_name%)) (fun ρ' s' => by
        rw [ef, List.map_append]
        exact ae s'.get (ae s'.get aG))
      obtain ⟨ρ2, r1, s2⟩ := h2
      obtain ⟨j, j1, j2, j3⟩ := wF hu rem (done ++ [w]) true ρ2 (fun x hx => hw x (List.mem_cons_of_mem _ hx)) (fun x hx => by
        rcases List.mem_append.mp hx with hx | hx
        . exact hd x hx
        . rw [List.mem_singleton] at hx; subst hx; exact ⟨gw, pw⟩) (by rw [List.length_append]; show done.length + 1 + _ <= 7; omega) (by rw [ef, List.length_append]; exact gm) (by rw [ef]; exact pm) s2
      refine ⟨j + 1, by simp; omega, ?_, ?_⟩
      . rw [List.take_succ_cons, List.append_cons]; exact j2
      . rw [List.take_succ_cons, List.append_cons]
        exact ⟨_, rfl, .inl ⟨ρ2, r1, j3⟩⟩
theorem Hj {u : Qd} {ws : List Qd} (hu : u ∈ aW) (hw : ∀ w ∈ ws, jn w) (hl : ws.length <= 7) : ∃ j, j <= ws.length /\ fj ((ws.take j).foldl aq u) /\ aa (oH [dq u, .lst (ws.map dq)]) (.tup [.lst ((ws.take j).map dq), dq ((ws.take j).foldl aq u)]) := by
  have gu := f7 (cg u hu)
  have lw := dY ws
  obtain ⟨j, j1, j2, j3⟩ := wF hu ws [] true (demote (pJ ((al (af 51)).getD 2 (.Pass ⟨0, 0, 0, 0⟩))) (bR (bR (fh ["_law_unit", "_law_parts"] [dq u, .lst (ws.map dq)]) "_law_whole_here" (dq u, true)) "_law_kept" (.lst [], true))) hw (fun w h => by cases h) (by simpa using hl) gu (xG gu.1 (gj (cg u hu)).2.1) (ae rfl (ae rfl aG))
  refine ⟨j, j1, j2, cj (bi 2 decl_name% (nX (k := 1) (ws.map dq) (d := .lst (ws.map dq)) decl_name% ?_))⟩
  exact j3
def sG : Fx := Tb [] [] BL IL ML TL aT
def iz : List D -> Rs D := bD sG (ac (af 30)) ["one", "other"] (al (af 30))
theorem IK (a b : Nat) (ha : a < 2 ^ 1000) (hb : b < 2 ^ 1000) : aa (iz [.int a, .int b]) (.int (Nat.gcd a b : Nat)) := by
  refine cj (jB (m := 2002) (fun m ρ => ∃ (x y : Nat) (f g : Bool), xj x y m /\ Nat.gcd x y = Nat.gcd a b /\ Sub (bT [("one", .int x, f), ("other", .int y, g)]) ρ) ⟨a, b, false, false, Ep ha hb, rfl, ae rfl (ae rfl aG)⟩ (by decide) ?_ ?_)
  . rintro m ρ ⟨x, y, f, g, hm, hg, s⟩
    refine ⟨!decide ((y : Int) = 0), 0, bC s (decl_name%.bl (by show (!cA (.int y) (.int 0)) = _; rw [eN])), fun ht => ?_⟩
    have h0 : y ≠ 0 := by
      intro z; subst z; exact absurd ht (by decide)
    have hn : (y : Int) ≠ 0 := by omega
    obtain ⟨m', hm', hE⟩ := tV hm h0
    have e := wt x y
    exact kE hm' (cz s decl_name% fun ρ' s' => ⟨y, x % y, true, true, hE, by rw [<- hg, Nat.gcd_comm x y, Nat.gcd_rec y x, Nat.gcd_comm], ae s'.get (ae (by rw [<- e]; exact s'.get) aG)⟩)
  . rintro m ρ ⟨x, y, f, g, hm, hg, s⟩ ⟨k, hk⟩
    have e := hk.inj (bC s decl_name%)
    have h0 : y = 0 := by
      have e1 : (!cA (.int y) (.int 0)) = false := by injection e with e1 e2; injection e1 with e1; exact e1.symm
      rw [eN] at e1
      have : (y : Int) = 0 := by simpa using e1
      omega
    subst h0
    rw [<- hg, Nat.gcd_zero_right]
    exact cJ s decl_name%
def mq : Fx := Tb [("shared_by", iz)] [] BL IL ML TL aT
def mz : List D -> Rs D := bD mq (ac (af 29)) ["numbers"] (al (af 29))
def dA : List D -> Rs D
  | [.tup l] => .ok (.int (uN l)) [vJ l]
  | _ => .st
theorem jv : ∀ ds r, aa (dA ds) r -> aa (mz ds) r := by
  intro ds r h
  unfold dA at h
  split at h
  . obtain ⟨rfl, ⟨ns, rfl, hl, hb⟩, _⟩ := bK h
    rw [qZ]
    refine cj (bi 1 decl_name% (nW (ds := ns.map D.int) (fun rem ρ => ∃ (r : List Int) (g : Nat), rem = r.map D.int /\ (∀ n ∈ r, n.natAbs < 2 ^ 1000) /\ dh g r = dh 0 ns /\ g < 2 ^ 1000 /\ Sub (bT [("reached", .int g, true)]) ρ) decl_name% ⟨ns, 0, rfl, hb, rfl, Nat.pow_pos (by decide), ae rfl aG⟩ ?_ ?_ rfl (Oh (.tup (ns.map D.int)))))
    . rintro d l ρ ⟨r, g, hr, hb', hg, hlt, s⟩
      cases r with
      | nil => cases hr
      | cons n r =>
        cases hr
        have hn := hb' n List.mem_cons_self
        have ea : (if n < 0 then -n else n) = ((n.natAbs : Nat) : Int) := by omega
        have k := IK g n.natAbs hlt hn
        refine ⟨_, rfl, cz (s.put _ _) (ci (bX (bn (v := .int (Nat.gcd g n.natAbs : Nat)) (decl_name%.eq (by rw [ea])) k)) eH) fun ρ' s' => ⟨r, Nat.gcd g n.natAbs, rfl, fun m hm => hb' m (List.mem_cons_of_mem _ hm), hg, ?_, ae s'.get aG⟩⟩
        rcases Nat.eq_zero_or_pos g with z | z
        . subst z; rw [Nat.gcd_zero_left]; exact hn
        . exact Nat.lt_of_le_of_lt (Nat.le_of_dvd z (Nat.gcd_dvd_left _ _)) hlt
    . rintro ρ ⟨r, g, hr, hb', hg, hlt, s⟩
      cases r with
      | nil =>
        rw [<- hg]
        exact cJ s decl_name%
      | cons n r => cases hr
  . exact (ar h).elim
def u4 : Fx := Tb [] [] BL IL ML TL aT
def nM : List D -> Rs D := bD u4 (ac (af 8)) ["thing"] (al (af 8))
def w4 : Fx := Tb [("is_whole", nM)] [] BL IL ML TL aT
def kC : List D -> Rs D := bD w4 (ac (af 9)) ["thing"] (al (af 9))
theorem GY (a b c d : Int) : aa (kC [.tup [.int a, .int b, .int c, .int d]]) (.bl (decide (b.fmod 2 = a.fmod 2) && (decide (c.fmod 2 = a.fmod 2) && decide (d.fmod 2 = a.fmod 2)))) := by
  refine cj (cn decl_name% rfl (cn decl_name% rfl (aa.eq decl_name% ?_)))
  show Fl.rt (.bl ([cA (.int (a.fmod 2)) (.int (a.fmod 2)), cA (.int (b.fmod 2)) (.int (a.fmod 2)), cA (.int (c.fmod 2)) (.int (a.fmod 2)), cA (.int (d.fmod 2)) (.int (a.fmod 2))].all id)) = _
  simp [eN]
def ic : Fx := Tb [("common_divisor", dA), ("is_four", kC)] [("NOUGHT", .tup [.int 0, .int 0, .int 0, .int 0])] BL IL ML TL aT
def dP : List D -> Rs D := bD ic (ac (af 34)) ["four"] (al (af 34))
def qO (a b c d : Int) : Bool := decide (b.fmod 2 = a.fmod 2) && (decide (c.fmod 2 = a.fmod 2) && decide (d.fmod 2 = a.fmod 2))
theorem Am (a b c d G : Int) (hG : gb G) : aa (az ic ((al (af 34)).drop 2) (ac (af 34)) (bT [("four", t4 a b c d, false), ("common", .int G, true)])) (.rt (.int (cond (qO (a.fdiv G) (b.fdiv G) (c.fdiv G) (d.fdiv G)) G (G.fdiv 2)))) :=
  fb (eM (nu (r := (.int (cond (qO (a.fdiv G) (b.fdiv G) (c.fdiv G) (d.fdiv G)) G (G.fdiv 2)), 0)) (bn decl_name% (GY (a.fdiv G) (b.fdiv G) (c.fdiv G) (d.fdiv G))) (fun ht => by rw [show qO (a.fdiv G) (b.fdiv G) (c.fdiv G) (d.fdiv G) = true from ht]; exact decl_name%) (fun hf => by rw [show qO (a.fdiv G) (b.fdiv G) (c.fdiv G) (d.fdiv G) = false from hf]; exact decl_name%)))
theorem HE {a b c d : Int} (h0 : ¬ (a = 0 /\ b = 0 /\ c = 0 /\ d = 0)) (hT : vJ (([a, b, c, d] : List Int).map D.int)) (aB : a.natAbs < cO) (bB : b.natAbs < cO) (cB : c.natAbs < cO) (dB : d.natAbs < cO) : aa (dP [t4 a b c d]) (.int (cond (qO (a.fdiv (gI [a, b, c, d])) (b.fdiv (gI [a, b, c, d])) (c.fdiv (gI [a, b, c, d])) (d.fdiv (gI [a, b, c, d]))) (gI [a, b, c, d]) ((gI [a, b, c, d]).fdiv 2))) := by
  have hd : gb (gI [a, b, c, d]) := by
    have : ∃ n ∈ [a, b, c, d], n ≠ 0 /\ n.natAbs < cO := by
      by_cases q1 : a = 0
      . by_cases q2 : b = 0
        . by_cases q3 : c = 0
          . exact ⟨d, by simp, fun q4 => h0 ⟨q1, q2, q3, q4⟩, dB⟩
          . exact ⟨c, by simp, q3, cB⟩
        . exact ⟨b, by simp, q2, bB⟩
      . exact ⟨a, by simp, q1, aB⟩
    obtain ⟨n, hn, n0, nb⟩ := this
    have := q9 hn n0
    exact ⟨by omega, Nat.lt_of_le_of_lt (zT hn n0) nb⟩
  have hne : cA (t4 a b c d) (dq au) = false := by
    show cA (dq (a, b, c, d)) (dq au) = false
    rw [fg]
    exact decide_eq_false fun e => h0 (by injection e with e1 e2; injection e2 with e2 e3; injection e3 with e3 e4; exact ⟨e1, e2, e3, e4⟩)
  rw [<- BD] at hd ⊢
  exact cj (cn (decl_name%.bl hne) rfl (bi 1 decl_name% (cJ (ae rfl (ae rfl aG)) (Am a b c d _ hd))))
def jq : Fx := Tb [] [("PRIMES", .tup [.int 2, .int 3, .int 5, .int 7, .int 11, .int 13, .int 17, .int 19, .int 23, .int 29, .int 31, .int 37, .int 41, .int 43, .int 47, .int 53, .int 59, .int 61, .int 67, .int 71, .int 73, .int 79, .int 83, .int 89, .int 97])] BL IL ML TL aT
def fW : List D -> Rs D := bD jq (ac (af 36)) ["order", "whole"] (al (af 36))
theorem Hq {n : Int} (h : n ∈ cX) : ((cX.map D.int).any fun y => cA y (.int n)) = true := by
  rw [List.any_eq_true]
  exact ⟨.int n, List.mem_map.mpr ⟨n, h, rfl⟩, by rw [eN]; exact decide_eq_true rfl⟩
theorem Et (n : Int) : iu (.tup (cX.map D.int)) (.int n) = true := by
  have k : SeqAt.shaped (D.int n).py = true := by rw [D.py]; rfl
  unfold iu
  rw [k]
  decide +kernel
theorem Bc {n : Int} (h : n ∈ cX) : aa (gM .NotIn (.int n) (.tup (cX.map D.int))) false := aa.eq ⟨_, rfl, Et n, True.intro⟩ (by rw [Hq h]; rfl)
theorem sY : ∀ l : List Int, cW l.reverse = cW l
  | [] => rfl
  | n :: l => by rw [List.reverse_cons, kJ, sY l, sZ, eS, Int.mul_comm]
theorem BG {ns : List Int} {w : Int} (h : ∀ n ∈ ns, n ∈ cX) (hn : ns.length <= 100) (hw : cW ns = w) : aa (fW [.lst (ns.map D.int), .int w]) .non := by
  have ll : ao (ns.map D.int) = true := en (fun _ => rfl) ns
  have ew := x6 0 ns
  have he : je 0 (ns.map D.int) = (List.range ns.length).map fun i => .tup [.int (i : Nat), .int (ns.getD i 0)] := by
    conv => lhs; rw [ew]
    rw [List.map_map]
    exact BM _
  refine cj (bi 1 decl_name% (zt (Q := fun ρ => Sub (bT [("order", .lst (ns.map D.int), false), ("whole", .int w, false), ("reached", .int (cW ns), true)]) ρ) ?_ ?_))
  . have fa := fC (Φ := jq) (sc := ac (af 36)) (ρ := bR (fh ["order", "whole"] [.lst (ns.map D.int), .int w]) "reached" (.int 1, true)) (h := fun i : Nat => D.tup [.int (i : Nat), .int (ns.getD i 0)]) (g := fun i => [ns.getD i 0]) (T := (List.range ns.length).flatMap fun i => [ns.getD i 0]) (F := []) (R := []) (k := 1) (fun F ρ => Sub (bT [("order", .lst (ns.map D.int), false), ("whole", .int w, false), ("reached", .int (cW F), true)]) ρ) (List.range ns.length) (d := .lst (je 0 (ns.map D.int))) (tg := kY ((al (af 36)).getD 1 (.Pass ⟨0, 0, 0, 0⟩))) (it := pJ ((al (af 36)).getD 1 (.Pass ⟨0, 0, 0, 0⟩))) (body := fD ((al (af 36)).getD 1 (.Pass ⟨0, 0, 0, 0⟩))) (p := ⟨0, 0, 0, 0⟩) decl_name% (by show some (je 0 _) = _; rw [he]) (ae rfl (ae rfl (ae rfl aG))) (by simp) ?_
    . rw [List.nil_append, k7, <- ew] at fa
      exact fa
    . intro i hi F R ρ e s
      have hi : i < ns.length := by simpa using hi
      have hm : ns.getD i 0 ∈ cX := h _ (by rw [List.getD_eq_getElem?_getD, List.getElem?_eq_getElem hi]; exact List.getElem_mem _)
      obtain ⟨p1, p2⟩ := eJ _ hm
      have mm : bH (cW F) (ns.getD i 0) := tz (by omega)
      refine ⟨_, rfl, cz ((s.put _ _).put _ _) (cn (t := false) (k := 0) (dE decl_name% decl_name% (Bc hm)) rfl decl_name%) fun ρ' s' => ?_⟩
      rw [kJ, sZ]
      exact ae s'.get (ae s'.get (ae s'.get (aG)))
  . intro ρ s
    exact cJ s (fb (eM (nu (r := (.non, 0)) (t := true) (decl_name%.bl ((eN _ _).trans (decide_eq_true hw))) (fun _ => decl_name%) (fun z => by cases z))))
def FH : Fx := Tb [] [] BL IL ML TL aT
def FM : List D -> Rs D := bD FH (ac (af 17)) ["four"] (al (af 17))
def iT : List D -> Rs D := qk dQ fun p => .ok (.int (am p)) [dm p]
theorem w8 : ∀ ds r, aa (iT ds) r -> aa (FM ds) r := by
  intro ds r h
  obtain ⟨p, rfl, h'⟩ := iG h
  obtain ⟨rfl, hp, _⟩ := bK h'
  obtain ⟨⟨a1, a2, a3, a4⟩, _⟩ := nH hp hp
  exact cq rfl (by walk_at "ob")
def mo : Fx := Tb [] [] BL IL ML TL aT
def mw : List D -> Rs D := bD mo (ac (af 21)) ["side"] (al (af 21))
def cS : List D -> Rs D := qk wE fun s => .ok .non []
theorem ju : ∀ ds r, aa (cS ds) r -> aa (mw ds) r := by
  intro ds r h
  obtain ⟨s, rfl, h'⟩ := iG h
  obtain ⟨rfl, _⟩ := bK h'
  cases s
  . exact cq rfl (by walk_at "ob")
  . exact cq rfl (by walk_at "ob")
def FI : Fx := Tb [] [] BL IL ML TL aT
def FN : List D -> Rs D := bD FI (ac (af 10)) ["one", "other"] (al (af 10))
def ky : List D -> Rs D := mG dQ dQ fun p q => .ok (dq (bc p q)) []
theorem w9 : ∀ ds r, aa (ky ds) r -> aa (FN ds) r := by
  intro ds r h
  obtain ⟨p, q, rfl, h'⟩ := fv h
  obtain ⟨rfl, _⟩ := bK h'
  exact cq rfl (by walk_at "ob")
def rS : Fx := Tb [] [] BL IL ML TL aT
def rZ : List D -> Rs D := bD rS (ac (af 11)) ["one", "number"] (al (af 11))
def gS : List D -> Rs D := mG dQ dI fun p n => .ok (dq (aR p n)) [dm p, n.natAbs < cO]
theorem nK : ∀ ds r, aa (gS ds) r -> aa (rZ ds) r := by
  intro ds r h
  obtain ⟨p, n, rfl, h'⟩ := fv h
  obtain ⟨rfl, hp, hn, _⟩ := bK h'
  have m1 := bL hp.1 hn
  have m2 := bL hp.2.1 hn
  have m3 := bL hp.2.2.1 hn
  have m4 := bL hp.2.2.2 hn
  exact cq rfl (by walk_at "ob")
def wS : Fx := Tb [("size", iT), ("less", ky), ("many_times", gS)] [] BL IL ML TL aT
def xa : List D -> Rs D := bD wS (ac (af 24)) ["four", "tried", "number"] (al (af 24))
def km : List D -> Rs D := qj dQ dQ dI fun p q n => .ok (.int (fu p q n)) [vK p q n]
theorem rT : ∀ ds r, aa (km ds) r -> aa (xa ds) r := by
  intro ds r h
  obtain ⟨p, q, n, rfl, h'⟩ := iF h
  obtain ⟨rfl, ⟨h1, h2, h3⟩, _⟩ := bK h'
  exact cq rfl (by walk_at "ob")
def wU : Fx := Tb [("strayed", km)] [] BL IL ML TL aT
def xc : List D -> Rs D := bD wU (ac (af 23)) ["four", "number"] (al (af 23))
def ku : List D -> Rs D := mG dQ dI fun p n => .ok (dq (dw p n)) [xR p n]
theorem rW : ∀ ds r, aa (ku ds) r -> aa (xc ds) r := by
  intro ds r h
  obtain ⟨p, n, rfl, h'⟩ := fv h
  obtain ⟨rfl, ⟨h1, h2, h3, h4⟩, _⟩ := bK h'
  have hd : gb (2 * n) := ⟨by omega, h2⟩
  have h3' : vK p ((p.1 + n).fdiv (2 * n) * 2, (p.2.1 + n).fdiv (2 * n) * 2, (p.2.2.1 + n).fdiv (2 * n) * 2, (p.2.2.2 + n).fdiv (2 * n) * 2) n := h3
  have h4' : vK p (p.1.fdiv (2 * n) * 2 + 1, p.2.1.fdiv (2 * n) * 2 + 1, p.2.2.1.fdiv (2 * n) * 2 + 1, p.2.2.2.fdiv (2 * n) * 2 + 1) n := h4
  refine cj (bi 2 decl_name% ?_)
  refine fb (eM (nu (t := decide (fu p (fX p n) n <= fu p (gX p n) n)) decl_name% (fun ht => ?_) (fun hf => ?_)))
  . show aa _ (dq (dw p n), 0)
    unfold dw; rw [if_pos (by simpa using ht)]
    exact cq rfl (by walk_at "ob")
  . show aa _ (dq (dw p n), 0)
    unfold dw; rw [if_neg (by simpa using hf)]
    exact cq rfl (by walk_at "ob")
def nI : Fx := Tb [] [] BL IL ML TL aT
def nL : List D -> Rs D := bD nI (ac (af 14)) ["one", "other"] (al (af 14))
def fi : List D -> Rs D := mG dQ dQ fun p q => .ok (dq (J9 p q)) [dm p, dm q]
theorem kr : ∀ ds r, aa (fi ds) r -> aa (nL ds) r := by
  intro ds r h
  obtain ⟨p, q, rfl, h⟩ := fv h
  obtain ⟨rfl, hp, hq, _⟩ := bK h
  obtain ⟨⟨a1, a2, a3, a4⟩, ⟨b1, b2, b3, b4⟩, ⟨c1, c2, c3, c4⟩, d1, d2, d3, d4⟩ := nH hp hq
  exact cq rfl (by walk_at "ob")
def wT : Fx := Tb [("plain_product", fi)] [] BL IL ML TL aT
def xb : List D -> Rs D := bD wT (ac (af 15)) ["one", "other"] (al (af 15))
def ig : List D -> Rs D := mG dQ dQ fun p q => .ok (dq (aq p q)) [dm p, dm q]
theorem rV : ∀ ds r, aa (ig ds) r -> aa (xb ds) r := by
  intro ds r h
  obtain ⟨p, q, rfl, h'⟩ := fv h
  obtain ⟨rfl, hp, hq, _⟩ := bK h'
  exact cq rfl (by walk_at "ob")
def yV : Fx := Tb [("product", ig)] [] BL IL ML TL aT
def yZ : List D -> Rs D := bD yV (ac (af 22)) ["one", "other", "side"] (al (af 22))
def jk : List D -> Rs D := qj dQ dQ wE fun p q s => .ok (dq (aC s p q)) [dm p, dm q]
theorem sL : ∀ ds r, aa (jk ds) r -> aa (yZ ds) r := by
  intro ds r h
  obtain ⟨p, q, s, rfl, h'⟩ := iF h
  obtain ⟨rfl, hp, hq, _⟩ := bK h'
  cases s
  . exact cq rfl (by walk_at "ob")
  . exact cq rfl (by walk_at "ob")
def oC : Fx := Tb [] [] BL IL ML TL aT
def oF : List D -> Rs D := bD oC (ac (af 16)) ["four"] (al (af 16))
def fG : List D -> Rs D := qk dQ fun p => .ok (dq (bG p)) []
theorem lE : ∀ ds r, aa (fG ds) r -> aa (oF ds) r := by
  intro ds r h
  obtain ⟨p, rfl, h'⟩ := iG h
  obtain ⟨rfl, _⟩ := bK h'
  exact cq rfl (by walk_at "ob")
def w5 : Fx := Tb [("refuse_no_side", cS), ("nearest", ku), ("beside", jk), ("size", iT), ("less", ky), ("other_signed", fG)] [("NOUGHT", .tup [.int 0, .int 0, .int 0, .int 0])] BL IL ML TL aT
def xg : List D -> Rs D := bD w5 (ac (af 19)) ["one", "other", "side"] (al (af 19))
def ii : List D -> Rs D := qj dQ dQ wE fun p q s => .ok (.tup [dq (cF s p q), dq (cY s p q)]) [q ≠ au, okD s p q]
theorem rY : ∀ ds r, aa (ii ds) r -> aa (xg ds) r := by
  intro ds r h
  obtain ⟨p, q, s, rfl, h'⟩ := iF h
  obtain ⟨rfl, h0, ⟨h1, h2, h3, h4, h5⟩, _⟩ := bK h'
  have hc : cA (dq q) (dq au) = false := by simp [h0]
  have h5' : dm (dw (aC s p (bG q)) (am q)) := h5
  cases s
  . exact cj (bi 1 decl_name% (cn decl_name% hc decl_name%))
  . exact cj (bi 1 decl_name% (cn decl_name% hc decl_name%))
def Ch : Fx := Tb [("divided", ii)] [("NOUGHT", .tup [.int 0, .int 0, .int 0, .int 0])] BL IL ML TL aT
def Cj : List D -> Rs D := bD Ch (ac (af 20)) ["one", "other", "side"] (al (af 20))
def e8 : List D -> Rs D := qj dQ dQ wE fun p q s => .ok (ir s p q) [q ≠ au, okD s p q]
theorem u8 : ∀ ds r, aa (e8 ds) r -> aa (Cj ds) r := by
  intro ds r h
  obtain ⟨p, q, s, rfl, h'⟩ := iF h
  obtain ⟨rfl, h0, hd, _⟩ := bK h'
  clear h h'
  unfold ir
  cases s
  . refine cj (bi 1 decl_name% (fb (eM (nu (t := decide (cY false p q = au)) (k := 0) (decl_name%.bl (fg _ au)) (fun z => ?_) (fun z => ?_)))))
    . rw [if_pos (of_decide_eq_true z)]; exact decl_name%
    . rw [if_neg (of_decide_eq_false z)]; exact decl_name%
  . refine cj (bi 1 decl_name% (fb (eM (nu (t := decide (cY true p q = au)) (k := 0) (decl_name%.bl (fg _ au)) (fun z => ?_) (fun z => ?_)))))
    . rw [if_pos (of_decide_eq_true z)]; exact decl_name%
    . rw [if_neg (of_decide_eq_false z)]; exact decl_name%
def u5 : Fx := Tb [("refuse_no_side", cS), ("divided", ii), ("less", ky), ("beside", jk)] [("ONE", .tup [.int 2, .int 0, .int 0, .int 0]), ("NOUGHT", .tup [.int 0, .int 0, .int 0, .int 0])] BL IL ML TL aT
def u9 : List D -> Rs D := bD u5 (ac (af 26)) ["one", "other", "side"] (al (af 26))
def ge : List D -> Rs D := qj dQ dQ wE fun p q s => .ok (dR (gJ s p q)) [okG p q]
theorem pA : ∀ ds r, aa (ge ds) r -> aa (u9 ds) r := by
  intro ds r h
  obtain ⟨p, q, s, rfl, h'⟩ := iF h
  obtain ⟨rfl, hg, _⟩ := bK h'
  clear h h'
  cases s
  . refine cj (bi 3 decl_name% (jB (m := 801) (fun m ρ => ∃ (E : Nat) (a b : eB), fQ false p q m E a b /\ gU false m a b = gJ false p q /\ Sub (bT [("one", dq p, false), ("other", dq q, false), ("side", mI false, false), ("older", dR a, true), ("newer", dR b, true)]) ρ) ⟨KN, (p, bS, au), (q, au, bS), fQ.start hg.1 hg.2.1 hg.2.2.1 hg.2.2.2, rfl, ae rfl (ae rfl (ae rfl (ae rfl (ae rfl aG))))⟩ (by decide) ?_ ?_))
    . rintro m ρ ⟨E, a, b, hw, he, s⟩
      refine ⟨!decide (b.1 = au), 0, bC s (decl_name%.bl (by show (!cA (dq b.1) (dq au)) = _; simp)), fun ht => ?_⟩
      have h0 : b.1 ≠ au := by simpa using ht
      obtain ⟨m', rfl, hw'⟩ := hw.step hg.1 hg.2.1 h0
      obtain ⟨hd, b1, b2, b3⟩ := hw.bd h0
      have b4 := hd.2.2.2.2
      exact kE (Nat.lt_succ_self _) (cz s decl_name% fun ρ' s' => ⟨_, _, _, hw', by rw [<- he, jz h0], ae s'.get (ae s'.get (ae s'.get (ae s'.get (ae s'.get aG))))⟩)
    . rintro m ρ ⟨E, a, b, hw, he, s⟩ ⟨k, hk⟩
      have e := hk.inj (bC s decl_name%)
      have h0 : b.1 = au := by
        have e1 : (!cA (dq b.1) (dq au)) = false := by injection e with e1 e2; injection e1 with e1; exact e1.symm
        simpa using e1
      rw [<- he, lT h0]
      exact cJ s decl_name%
  . refine cj (bi 3 decl_name% (jB (m := 801) (fun m ρ => ∃ (E : Nat) (a b : eB), fQ true p q m E a b /\ gU true m a b = gJ true p q /\ Sub (bT [("one", dq p, false), ("other", dq q, false), ("side", mI true, false), ("older", dR a, true), ("newer", dR b, true)]) ρ) ⟨KN, (p, bS, au), (q, au, bS), fQ.start hg.1 hg.2.1 hg.2.2.1 hg.2.2.2, rfl, ae rfl (ae rfl (ae rfl (ae rfl (ae rfl aG))))⟩ (by decide) ?_ ?_))
    . rintro m ρ ⟨E, a, b, hw, he, s⟩
      refine ⟨!decide (b.1 = au), 0, bC s (decl_name%.bl (by show (!cA (dq b.1) (dq au)) = _; simp)), fun ht => ?_⟩
      have h0 : b.1 ≠ au := by simpa using ht
      obtain ⟨m', rfl, hw'⟩ := hw.step hg.1 hg.2.1 h0
      obtain ⟨hd, b1, b2, b3⟩ := hw.bd h0
      have b4 := hd.2.2.2.2
      exact kE (Nat.lt_succ_self _) (cz s decl_name% fun ρ' s' => ⟨_, _, _, hw', by rw [<- he, jz h0], ae s'.get (ae s'.get (ae s'.get (ae s'.get (ae s'.get aG))))⟩)
    . rintro m ρ ⟨E, a, b, hw, he, s⟩ ⟨k, hk⟩
      have e := hk.inj (bC s decl_name%)
      have h0 : b.1 = au := by
        have e1 : (!cA (dq b.1) (dq au)) = false := by injection e with e1 e2; injection e1 with e1; exact e1.symm
        simpa using e1
      rw [<- he, lT h0]
      exact cJ s decl_name%
def fT : Fx := Tb [("whole_divisor", dP), ("order_fault", fW), ("size", iT), ("exact", e8), ("greatest", ge)] [] BL IL ML TL aT
def fV : List D -> Rs D := iY fT (ac (af 35)) ["four", "order"] ((al (af 35)).take 7) (Jv ((al (af 35)).getD 7 (.Pass ⟨0, 0, 0, 0⟩))) (Ju ((al (af 35)).getD 7 (.Pass ⟨0, 0, 0, 0⟩)))
theorem FW {q : Qd} (h : q ≠ au) (g : gQ 400 q) : aa (dP [dq q]) (.int (gv q)) := by
  have b := g.bd (by decide)
  exact HE (a := q.1) (b := q.2.1) (c := q.2.2.1) (d := q.2.2.2) (fun z => h (cM z.1 z.2.1 z.2.2.1 z.2.2.2)) (DF (k := 400) (by decide) (by simp) (by
    intro n hn
    simp only [List.mem_cons, List.not_mem_nil, or_false] at hn
    rcases hn with rfl | rfl | rfl | rfl
    . exact g.2.1
    . exact g.2.2.1
    . exact g.2.2.2.1
    . exact g.2.2.2.2)) b.1 b.2.1 b.2.2.1 b.2.2.2
theorem Ce {q : Qd} {ns : List Int} (hq : ai q) (pl : fj q) (hb : am q <= ((2 ^ 300 : Nat) : Int)) (hns : ∀ n ∈ ns, n ∈ cX) (hl : ns.length <= 100) (hs : am q = cW ns) :
    ∃ (r : Qd) (ds : List Qd), ai r /\ am r = 1 /\ (∀ d ∈ ds, ai d) /\ ds.map am = ns /\ ds.foldl aq r = q /\ aa (fV [dq q, .lst (ns.map D.int)]) (mE r ds) := by
  have gq := i9 hq hb
  have q0 := pl.ne
  have bq := gq.bd (by decide)
  have hw := FW q0 (gq.mono (by decide))
  have v1 := (tf q0 hq).mp pl
  have ll : ao (ns.map D.int) = true := en (fun _ => rfl) ns
  obtain ⟨ρ', h1, F, rest, ds, R', e1, hr, e2, e3, hd, e4, e5, s⟩ : ∃ ρ', aa (az fT ((al (af 35)).take 7) (ac (af 35)) (fh ["four", "order"] [dq q, .lst (ns.map D.int)])) (.nx ρ') /\ ∃ (F : List Int) (rest : Qd) (ds : List Qd) (R' : List Int), F = ns.reverse /\ ai rest /\ F ++ R' = ns.reverse /\ am rest = cW R' /\ (∀ d ∈ ds, ai d) /\ ds.map am = F /\ ds.reverse.foldl aq rest = q /\ Sub (bT [("rest", dq rest, true), ("parts", .lst (ds.map dq), true)]) ρ' := by
    refine dv (bX (d := .int (gv q)) (bn decl_name% hw)) (dv (bX (d := .non) (bn (bf decl_name% (bf decl_name% cP)) (BG hns hl hs.symm))) (fc (P := fun ρ => Sub (bT [("four", dq q, false), ("order", .lst (ns.map D.int), false), ("by", .int (gv q), true)]) ρ) (uK (t := false) (k := 0) decl_name% (fun z => by cases z) (fun _ => eL (ae rfl (ae rfl (ae rfl aG))))) fun ρ1 s1 => fc (P := fun ρ => Sub (bT [("four", dq q, false), ("order", .lst (ns.map D.int), false)]) ρ) (uK (t := false) (k := 0) (bC s1 (decl_name%.bl (decide_eq_false (by omega)))) (fun z => by cases z) (fun _ => eL (ae s1.get (ae s1.get aG)))) fun ρ2 s2 => dv (bX (d := dq q) (bC s2 decl_name%)) (dv (bX (d := .lst []) (bC (s2.put _ _) decl_name%)) ?_)))
    have s3 := (s2.put (Str.ofString "rest") (dq q, true)).put (Str.ofString "parts") (.lst [], true)
    refine fc (P := fun ρ' => ∃ (F : List Int) (rest : Qd) (ds : List Qd) (R' : List Int), F = ns.reverse /\ ai rest /\ F ++ R' = ns.reverse /\ am rest = cW R' /\ (∀ d ∈ ds, ai d) /\ ds.map am = F /\ ds.reverse.foldl aq rest = q /\ Sub (bT [("rest", dq rest, true), ("parts", .lst (ds.map dq), true)]) ρ') ?_ fun ρ h => eL h
    have fa := fC (Φ := fT) (sc := ac (af 35)) (ρ := bR (bR ρ2 (Str.ofString "rest") (dq q, true)) (Str.ofString "parts") (.lst [], true)) (h := D.int) (g := fun n : Int => [n]) (T := ns.reverse) (F := []) (R := []) (k := 1) (fun F ρ => ∃ (rest : Qd) (ds : List Qd) (R' : List Int), ai rest /\ fj rest /\ am rest <= ((2 ^ 300 : Nat) : Int) /\ F ++ R' = ns.reverse /\ am rest = cW R' /\ (∀ d ∈ ds, ai d) /\ ds.map am = F /\ ds.reverse.foldl aq rest = q /\ Sub (bT [("rest", dq rest, true), ("parts", .lst (ds.map dq), true)]) ρ) ns.reverse (d := .lst (ns.map D.int).reverse) (tg := kY ((al (af 35)).getD 6 (.Pass ⟨0, 0, 0, 0⟩))) (it := pJ ((al (af 35)).getD 6 (.Pass ⟨0, 0, 0, 0⟩))) (body := fD ((al (af 35)).getD 6 (.Pass ⟨0, 0, 0, 0⟩))) (p := ⟨0, 0, 0, 0⟩) (bC (s3.demote _) decl_name%) (by rw [List.map_reverse]; rfl) ⟨q, [], ns.reverse, hq, pl, hb, rfl, by rw [sY]; exact hs, (fun d h => by cases h), rfl, rfl, ae (s3.demote _).get (ae (s3.demote _).get aG)⟩ (by rw [k7]; simp) ?_
    . obtain ⟨ρ', f1, rest, ds, R', h1, _, _, h2, h3, h4, h5, h6, h7⟩ := fa
      rw [List.nil_append, k7, List.map_id'] at h2 h5
      exact ⟨ρ', f1, _, rest, ds, R', rfl, h1, h2, h3, h4, h5, h6, h7⟩
    . rintro p hp F R ρ e ⟨rest, ds, R', hr, pr, br, e1, e2, hd, e3, e4, s⟩
      have eR : R' = p :: R := List.append_cancel_left (e1.trans e.symm)
      subst eR
      have hpP := hns p (List.mem_reverse.mp hp)
      obtain ⟨p1, p2⟩ := eJ p hpP
      have gr := i9 hr br
      have gP : gQ 302 (2 * p, 0, 0, 0) := ⟨gz p, by show (2 * p).natAbs <= _; exact Nat.le_trans (show (2 * p).natAbs <= 2 ^ 8 by omega) (Nat.pow_le_pow_right (by decide) (by decide)), Nat.zero_le _, Nat.zero_le _, Nat.zero_le _⟩
      have oG : okG rest (2 * p, 0, 0, 0) := gr.okG gP (by decide)
      obtain ⟨sd, pd, u, hu, eu⟩ := qW hr pr hpP ⟨cW R, e2⟩ (wn (s := true) oG)
      generalize hD : (gJ true rest (2 * p, 0, 0, 0)).1 = d at sd pd eu
      have d0 : d ≠ au := fun z => by rw [z] at sd; have : am au = 0 := rfl; omega
      have gd : gQ 302 d := i9 (n := 300) pd (by rw [sd]; exact Int.le_trans (show p <= ((2 ^ 8 : Nat) : Int) by omega) (Int.ofNat_le.mpr (Nat.pow_le_pow_right (by decide) (by decide))))
      have oD : okD true rest d := gr.okD gd d0 (by decide)
      have su : am u * p = am rest := by rw [eu, cZ hu pd, sd]
      have kx : aa (e8 [dq rest, dq d, mI true]) (dq u) := by
        have k : aa (e8 [dq rest, dq d, mI true]) (ir true rest d) := decl_name%
        rw [fE hu pd d0 (show rest = aC true u d from eu)] at k
        exact k
      have kg : aa (ge [dq rest, .tup [.int (2 * p), .int 0, .int 0, .int 0], mI true]) (dR (gJ true rest (2 * p, 0, 0, 0))) := decl_name%
      have lf : F.length <= 100 := by
        have := congrArg List.length e
        simp only [List.length_append, List.length_reverse] at this
        omega
      have l1 : (ds.map dq).length < bI := by
        rw [List.length_map, <- List.length_map (f := am), e3]; show _ < 40000; omega
      have s4 := s.put (Str.ofString "prime") (.int p, false)
      have s5 := s4.put (Str.ofString "part") (dq d, true)
      have ea : L2.atI [dq (gJ true rest (2 * p, 0, 0, 0)).1, dq (gJ true rest (2 * p, 0, 0, 0)).2.1, dq (gJ true rest (2 * p, 0, 0, 0)).2.2] 0 = some (dq d) := by rw [<- hD]; rfl
      refine ⟨_, rfl, dv (bX (d := dq d) (bC s4 (ia (bn decl_name% kg) decl_name% rfl ea))) (dv (bX (d := dq u) (bC s5 (bn decl_name% kx))) (cz (s5.put (Str.ofString "rest") (dq u, true)) decl_name% fun ρ' s' => ⟨u, ds ++ [d], R, hu, ?_, ?_, ?_, ?_, ?_, ?_, ?_, ?_⟩))⟩
      . exact fj.left hu pd (eu ▸ pr)
      . have n0 := c7 hu
        have := Int.mul_le_mul_of_nonneg_left (show 1 <= p by omega) n0
        omega
      . rw [List.append_assoc]; exact e
      . rw [eS] at e2
        have : p * (am u - cW R) = 0 := by rw [Int.mul_sub, <- e2, <- su, Int.mul_comm]; omega
        rcases Int.mul_eq_zero.mp this with z | z <;> omega
      . intro x hx
        rcases List.mem_append.mp hx with hx | hx
        . exact hd x hx
        . rw [List.mem_singleton] at hx; subst hx; exact pd
      . rw [List.map_append, e3]; show F ++ [am d] = _; rw [sd]
      . rw [List.reverse_append, <- e4, eu]; rfl
      . rw [List.map_append]
        exact ae s'.get (ae s'.get aG)
  subst e1
  have eR : R' = [] := by
    have := congrArg List.length e2
    simp only [List.length_append, List.length_reverse] at this
    exact List.length_eq_zero_iff.mp (by omega)
  subst eR
  refine ⟨rest, ds.reverse, hr, e3, fun d h => hd d (List.mem_reverse.mp h), ?_, e5, ?_⟩
  . rw [List.map_reverse, e4, List.reverse_reverse]
  . show aa _ (D.tup [dq rest, .lst (ds.reverse.map dq)])
    rw [List.map_reverse]
    exact DE h1 (bC s decl_name%) (bf (bC s decl_name%) cP) (dY ds)
def wW : Fx := Tb [] [] BL IL ML TL aT
def pj : List D -> Rs D := bD wW (ac (af 41)) ["_law_x"] (al (af 41))
def sI : Fx := Tb [("_law_whole", pj)] [] BL IL ML TL aT
def fK : List D -> Rs D := bD sI (ac (af 42)) ["_law_thing"] (al (af 42))
theorem DR {a b c d : Int} (hb : b.fmod 2 = a.fmod 2) (hc : c.fmod 2 = a.fmod 2) (hd : d.fmod 2 = a.fmod 2) : aa (fK [t4 a b c d]) (.bl true) := by
  refine cj (cn decl_name% rfl (nW (ds := [.int a, .int b, .int c, .int d]) (fun rem ρ => (∀ x ∈ rem, ∃ t : Int, x = .int t /\ t.fmod 2 = a.fmod 2) /\ Sub (bT [("_law_thing", t4 a b c d, false)]) ρ) decl_name% ⟨?_, ae rfl aG⟩ ?_ ?_))
  . intro x hx
    simp only [List.mem_cons, List.not_mem_nil, or_false] at hx
    rcases hx with rfl | rfl | rfl | rfl
    . exact ⟨_, rfl, rfl⟩
    . exact ⟨_, rfl, hb⟩
    . exact ⟨_, rfl, hc⟩
    . exact ⟨_, rfl, hd⟩
  . rintro x l ρ ⟨hh, s⟩
    obtain ⟨t, rfl, ht⟩ := hh x List.mem_cons_self
    exact ⟨_, rfl, cz (s.put _ _) (cn (dj (dN decl_name% (dN (decl_name%.bl (og ht)) gL))) rfl eH) fun ρ' s' => ⟨fun y hy => hh y (List.mem_cons_of_mem _ hy), ae s'.get aG⟩⟩
  . rintro ρ ⟨_, s⟩
    exact cJ s decl_name%
def yT : Fx := Tb [] [] BL IL ML TL aT
def yX : List D -> Rs D := bD yT (ac (af 43)) ["_law_four"] (al (af 43))
def mr : List D -> Rs D := qk dQ fun p => .ok (.int (am p)) [dm p]
theorem sJ : ∀ ds r, aa (mr ds) r -> aa (yX ds) r := by
  intro ds r h
  obtain ⟨p, rfl, h'⟩ := iG h
  obtain ⟨rfl, hp, _⟩ := bK h'
  obtain ⟨⟨a1, a2, a3, a4⟩, _⟩ := nH hp hp
  exact cq rfl (by walk_at "ob")
def gR : Fx := Tb [("_law_times", d6), ("_law_is_four", fK), ("_law_size", mr)] [] BL IL ML TL aT
def eV : List D -> Rs D := bD gR (ac (af 50)) ["_law_telling", "_law_primes", "_law_four"] (al (af 50))
theorem v4 {q : Qd} (h : ai q) : aa (fK [dq q]) (.bl true) := by
  obtain ⟨x1, x2, x3⟩ := Qm.par_fmod h
  exact DR (a := q.1) (b := q.2.1) (c := q.2.2.1) (d := q.2.2.2) x1 x2 x3
theorem n4 : ∀ {l : List Int}, (∀ n ∈ l, n ∈ cX) -> 1 <= cW l
  | [], _ => by decide
  | n :: l, h => by
    have h1 := n4 fun m hm => h m (List.mem_cons_of_mem _ hm)
    obtain ⟨p1, _⟩ := eJ n (h n List.mem_cons_self)
    rw [eS]
    have := Int.mul_le_mul_of_nonneg_right (show 1 <= n by omega) (show 0 <= cW l by omega)
    omega
theorem Co {r q : Qd} {ds : List Qd} {ns : List Int} (hr : ai r) (h1 : am r = 1) (hd : ∀ d ∈ ds, ai d) (es : ds.map am = ns) (ef : ds.foldl aq r = q) (hns : ∀ n ∈ ns, n ∈ cX) (hl : ns.length <= 100) (hb : cW ns <= ((2 ^ 300 : Nat) : Int)) : aa (eV [mE r ds, .lst (ns.map D.int), dq q]) (.bl true) := by
  subst es ef
  have ll : ao ((ds.map am).map D.int) = true := en (fun _ => rfl) _
  have ld := dY ds
  have br := (i9 (n := 300) hr (by rw [h1]; exact Int.ofNat_le.mpr Nat.one_le_two_pow)).bd (by decide)
  have hlen : (!cA (.int ((ds.map dq).length : Nat)) (.int (((ds.map am).map D.int).length : Nat))) = false := og (by simp)
  have hz : List.zipWith (fun x y => D.tup [x, y]) (ds.map dq) ((ds.map am).map D.int) = ds.map fun d => D.tup [dq d, .int (am d)] := by
    rw [List.map_map, List.zipWith_map, List.zipWith_self]; rfl
  have pz : ∀ d ∈ ds, am d ∈ cX := fun d h => hns _ (List.mem_map.mpr ⟨d, h, rfl⟩)
  refine cj (cn (t := false) (k := 0) (dj (dN decl_name% (dN decl_name% (dN (uS (bn (bf decl_name% cP) (v4 hr)) rfl) gL)))) rfl (cn (t := false) (k := 0) (dj (dN (decl_name%.bl (og h1)) (dN decl_name% (dN (decl_name%.bl hlen) gL)))) rfl (bi 1 decl_name% (zt (Q := fun ρ => Sub (bT [("_law_four", dq (ds.foldl aq r), false), ("_law_whole_here", dq (ds.foldl aq r), true)]) ρ) ?_ ?_))))
  . have fa := fC (Φ := gR) (sc := ac (af 50)) (ρ := bR (fh ["_law_telling", "_law_primes", "_law_four"] [mE r ds, .lst ((ds.map am).map D.int), dq (ds.foldl aq r)]) "_law_whole_here" (dq r, true)) (h := fun d : Qd => D.tup [dq d, .int (am d)]) (g := fun d => [d]) (T := ds) (F := []) (R := []) (k := 1) (fun F ρ => Sub (bT [("_law_four", dq (ds.foldl aq r), false), ("_law_whole_here", dq (F.foldl aq r), true)]) ρ) ds (d := .lst (ds.map fun d => D.tup [dq d, .int (am d)])) (tg := kY ((al (af 50)).getD 3 (.Pass ⟨0, 0, 0, 0⟩))) (it := pJ ((al (af 50)).getD 3 (.Pass ⟨0, 0, 0, 0⟩))) (body := fD ((al (af 50)).getD 3 (.Pass ⟨0, 0, 0, 0⟩))) (p := ⟨0, 0, 0, 0⟩) (decl_name%.eq (by rw [<- hz]; rfl)) rfl (ae rfl (ae rfl aG)) (by rw [k7]; simp) ?_
    . rw [List.nil_append, k7, List.map_id'] at fa
      exact fa
    . intro d hm F R ρ e s
      have pd := hd d hm
      have hF : ∀ x ∈ F, x ∈ ds := fun x hx => by rw [<- e]; exact List.mem_append_left _ hx
      have nF : ∀ n ∈ F.map am, n ∈ cX := fun n hn => by obtain ⟨x, hx, rfl⟩ := List.mem_map.mp hn; exact pz x (hF x hx)
      have nR : ∀ n ∈ ([d] ++ R).map am, n ∈ cX := fun n hn => by obtain ⟨x, hx, rfl⟩ := List.mem_map.mp hn; exact pz x (by rw [<- e]; exact List.mem_append_right _ hx)
      have pF : ∀ x ∈ F, ai x := fun x hx => hd x (hF x hx)
      have zF : am (F.foldl aq r) <= ((2 ^ 300 : Nat) : Int) := by
        rw [nU F r hr pF, h1, Int.one_mul]
        have e2 : cW (ds.map am) = cW (F.map am) * cW (([d] ++ R).map am) := by rw [<- kJ, <- List.map_append, e]
        have a1 := n4 nF
        have a2 := n4 nR
        have := Int.mul_le_mul_of_nonneg_left a2 (show 0 <= cW (F.map am) by omega)
        omega
      have bF := (i9 (re hr pF) zF).bd (by decide)
      obtain ⟨p1, p2⟩ := eJ _ (pz d hm)
      have gd := i9 (n := 8) pd (by omega)
      have bd := gd.bd (by decide)
      obtain ⟨⟨a1, a2, a3, a4⟩, _⟩ := nH bd bd
      obtain ⟨t, ht, et⟩ := cE pd
      have m4 : bH 4 (am d) := fz (by decide)
      have hsum : (!cA (.int (d.1 * d.1 + (d.2.1 * d.2.1 + (d.2.2.1 * d.2.2.1 + (d.2.2.2 * d.2.2.2 + 0))))) (.int (4 * am d))) = false := og (by rw [ht, et])
      refine ⟨_, rfl, cz ((s.put _ _).put _ _) (cn (t := false) (k := 0) (dj (dN (uS (bn decl_name% (v4 pd)) rfl) (dN (decl_name%.bl hsum) gL))) rfl decl_name%) fun ρ' s' => ?_⟩
      rw [List.foldl_append]
      exact ae s'.get (ae s'.get aG)
  . intro ρ s
    exact cJ s (fb (eM (decl_name%.bl (Hd rfl))))
def Cg : Fx := Tb [] [] BL IL ML TL aT
def Ci : List D -> Rs D := bD Cg (ac (af 45)) ["_law_four"] (al (af 45))
def lr : List D -> Rs D := qk dQ fun p => .ok (dq (bG p)) []
theorem u7 : ∀ ds r, aa (lr ds) r -> aa (Ci ds) r := by
  intro ds r h
  obtain ⟨p, rfl, h'⟩ := iG h
  obtain ⟨rfl, _⟩ := bK h'
  exact decl_name%
def wV : Fx := Tb [("refuse_no_side", cS), ("exact", e8), ("size", iT)] [("NOUGHT", .tup [.int 0, .int 0, .int 0, .int 0])] BL IL ML TL aT
def kz : List D -> Rs D := bD wV (ac (af 32)) ["one", "other", "side"] (al (af 32))
def g7 (s : Bool) (p q : Qd) : D := if am p = am q then ir (!s) p q else .non
theorem DQ (s : Bool) {p q : Qd} (hp : gQ 150 p) (hq : gQ 150 q) (p0 : p ≠ au) (q0 : q ≠ au) : aa (kz [dq p, dq q, mI s]) (g7 s p q) := by
  have bp := hp.bd (by decide)
  have bq := hq.bd (by decide)
  have e1 : cA (dq p) (dq au) = false := by rw [fg]; exact decide_eq_false p0
  have e2 : cA (dq q) (dq au) = false := by rw [fg]; exact decide_eq_false q0
  unfold g7
  cases s
  . have hd : okD true p q := hp.okD hq q0 (by decide)
    refine cj (bi 1 decl_name% (cn (dj (dN (decl_name%.bl e1) (dN (decl_name%.bl e2) gL))) rfl (kG (t := !decide (am p = am q)) (k := 0) (decl_name%.bl (by rw [eN])) (fun z => ?_) (fun z => ?_))))
    . rw [if_neg (by simpa using z)]; exact decl_name%
    . rw [if_pos (by simpa using z)]
      have k : aa (e8 [dq p, dq q, mI true]) (ir true p q) := decl_name%
      exact fb (eM (bn decl_name% k))
  . have hd : okD false p q := hp.okD hq q0 (by decide)
    refine cj (bi 1 decl_name% (cn (dj (dN (decl_name%.bl e1) (dN (decl_name%.bl e2) gL))) rfl (kG (t := !decide (am p = am q)) (k := 0) (decl_name%.bl (by rw [eN])) (fun z => ?_) (fun z => ?_))))
    . rw [if_neg (by simpa using z)]; exact decl_name%
    . rw [if_pos (by simpa using z)]
      have k : aa (e8 [dq p, dq q, mI false]) (ir false p q) := decl_name%
      exact fb (eM (bn decl_name% k))
def sH : Fx := Tb [("mate_by", kz)] [("NOUGHT", .tup [.int 0, .int 0, .int 0, .int 0])] BL IL ML TL aT
def iA : List D -> Rs D := bD sH (ac (af 38)) ["mine", "yours"] (al (af 38))
def il (p q : Qd) : D := if p = au \/ q = au then .non else g7 true p q
theorem DK {p q : Qd} (hp : gQ 150 p) (hq : gQ 150 q) : aa (iA [dq p, dq q]) (il p q) := by
  unfold il
  by_cases h : p = au \/ q = au
  . rw [if_pos h]
    have hor : (decide (p = au) || decide (q = au)) = true := by rcases h with h | h <;> simp [h]
    exact cj (iE (t := decide (p = au) || decide (q = au)) (k := 0) (wy (decl_name%.bl (fg p au)) (decl_name%.bl (fg q au))) hor decl_name%)
  . rw [if_neg h]
    have hor : (decide (p = au) || decide (q = au)) = false := by
      rw [decide_eq_false (fun e => h (.inl e)), decide_eq_false (fun e => h (.inr e))]; rfl
    exact cj (cn (t := decide (p = au) || decide (q = au)) (k := 0) (wy (decl_name%.bl (fg p au)) (decl_name%.bl (fg q au))) hor (fb (eM (bn decl_name% (DQ true hp hq (fun e => h (.inl e)) (fun e => h (.inr e)))))))
theorem vU {p q : Qd} (hp : ai p) (hq : ai q) (q0 : q ≠ au) : (∃ u ∈ aW, p = aq q u /\ g7 true p q = dq u) \/ ((∀ u ∈ aW, p ≠ aq q u) /\ g7 true p q = .non) := by
  by_cases h : ∃ u ∈ aW, p = aq q u
  . obtain ⟨u, hu, e⟩ := h
    obtain ⟨pu, su, _⟩ := gj (cg u hu)
    refine .inl ⟨u, hu, e, ?_⟩
    have e' : p = aC (!true) u q := e
    have sz : am p = am q := by rw [e', eZ pu hq, su, Int.one_mul]
    unfold g7
    rw [if_pos sz]
    exact fE pu hq q0 e'
  . refine .inr ⟨fun u hu e => h ⟨u, hu, e⟩, ?_⟩
    unfold g7
    split
    . rename_i sz
      unfold ir
      refine if_neg fun e => ?_
      have d1 := (iM (s := !true) hp hq q0).1
      have ep : p = aC (!true) (cF (!true) p q) q := qM e
      have k := eZ (s := !true) d1 hq
      rw [<- ep, sz] at k
      have z := eY hq q0
      have one : am (cF (!true) p q) = 1 := by
        have : (am (cF (!true) p q) - 1) * am q = 0 := by rw [Int.sub_mul, <- k]; omega
        rcases Int.mul_eq_zero.mp this with e | e <;> omega
      exact h ⟨_, iV d1 one, ep⟩
    . rfl
def kh : Fx := Tb [("moved_one", iA), ("product", ig)] [("ONE", .tup [.int 2, .int 0, .int 0, .int 0])] BL IL ML TL aT
def d7 : List D -> Rs D := bD kh (ac (af 37)) ["telling", "other"] (al (af 37))
def gD : Qd -> List (Qd × Qd) -> Option (List Qd)
  | _, [] => some []
  | l, (m, y) :: r => match q4 (il (aq l m) y) with
    | some u => (gD u r).map (u :: ·)
    | none => none
theorem zw (q : Qd) : q4 (dq q) = some q := rfl
theorem vR {p q : Qd} (hp : ai p) (hq : ai q) : (∃ u ∈ aW, p = aq q u /\ p ≠ au /\ q ≠ au /\ il p q = dq u) \/ ((p = au \/ q = au \/ ∀ u ∈ aW, p ≠ aq q u) /\ il p q = .non) := by
  unfold il
  by_cases h : p = au \/ q = au
  . rw [if_pos h]
    exact .inr ⟨h.imp id .inl, rfl⟩
  . rw [if_neg h]
    have p0 : p ≠ au := fun e => h (.inl e)
    have q0 : q ≠ au := fun e => h (.inr e)
    rcases vU hp hq q0 with ⟨u, hu, e, m⟩ | ⟨n, m⟩
    . exact .inl ⟨u, hu, e, p0, q0, m⟩
    . exact .inr ⟨.inr (.inr n), m⟩
def uA (e : Qd) (xs : List Qd) (f : Qd) (ys : List Qd) : D :=
  if xs.length = ys.length then (match gD bS ((e, f) :: xs.zip ys) with | some us => .lst (us.map dq) | none => .non) else .non
theorem vQ (Rr : D) : ∀ (zs : List (Qd × Qd)) (us : List Qd) (l : Qd) (fl : Bool) (ρ : aj), (∀ z ∈ zs, gQ 100 z.1 /\ gQ 100 z.2) -> l ∈ aW -> us.length + zs.length <= 100 -> Rr = (match gD l zs with | some vs => .lst ((us ++ vs).map dq) | none => .non) -> Sub (bT [("last", dq l, fl), ("moved", .lst (us.map dq), true)]) ρ -> t8 kh (ac (af 37)) (kY ((al (af 37)).getD 5 (.Pass ⟨0, 0, 0, 0⟩))) (fD ((al (af 37)).getD 5 (.Pass ⟨0, 0, 0, 0⟩))) ((al (af 37)).drop 6) Rr (zs.map fun z => .tup [dq z.1, dq z.2]) ρ
  | [], us, l, fl, ρ, _, _, _, e, s => by
    have e : Rr = .lst ((us ++ []).map dq) := e
    rw [List.append_nil] at e
    subst e
    exact cJ s decl_name%
  | (m, y) :: zs, us, l, fl, ρ, hz, hl, hn, e, s => by
    obtain ⟨gm, gy⟩ := hz (m, y) List.mem_cons_self
    have gl := f7 (cg l hl)
    have gp : gQ 150 (aq l m) := (gl.mul gm).mono (by decide)
    have bm := gm.bd (by decide)
    have bl := gl.bd (by decide)
    have k := DK gp (gy.mono (show 100 <= 150 by decide))
    have s1 := (s.put (Str.ofString "mine") (dq m, false)).put (Str.ofString "yours") (dq y, false)
    rcases vR gp.1 gy.1 with ⟨u, hu, _, _, _, h⟩ | ⟨_, h⟩
    . rw [h] at k
      have l1 : (us.map dq).length < bI := by
        rw [List.length_map]
        simp only [List.length_cons] at hn
        show _ < 40000
        omega
      refine ⟨_, rfl, .inl (cz s1 (ci (bX (d := dq u) (bn decl_name% k)) decl_name%) fun ρ' s' => vQ Rr zs (us ++ [u]) u true ρ' (fun z hz' => hz z (List.mem_cons_of_mem _ hz')) hu (by simp only [List.length_append, List.length_cons, List.length_nil] at hn ⊢; omega) ?_ ?_)⟩
      . rw [e]
        show (match (match q4 (il (aq l m) y) with | some u => (gD u zs).map (u :: ·) | none => none) with | some vs => D.lst ((us ++ vs).map dq) | none => .non) = _
        rw [h, zw]
        show (match (gD u zs).map (u :: ·) with | some vs => D.lst ((us ++ vs).map dq) | none => .non) = _
        cases gD u zs with
        | none => rfl
        | some vs => simp only [Option.map_some, List.append_assoc, List.singleton_append]
      . rw [List.map_append]
        exact ae s'.get (ae s'.get aG)
    . rw [h] at k
      have e2 : Rr = .non := by
        rw [e]
        show (match (match q4 (il (aq l m) y) with | some u => (gD u zs).map (u :: ·) | none => none) with | some vs => D.lst ((us ++ vs).map dq) | none => .non) = _
        rw [h]; rfl
      subst e2
      exact ⟨_, rfl, .inr (cJ s1 (ci (bX (d := .non) (bn decl_name% k)) decl_name%))⟩
theorem GR {e f : Qd} {xs ys : List Qd} (he : gQ 100 e) (hf : gQ 100 f) (hx : ∀ x ∈ xs, gQ 100 x) (hy : ∀ y ∈ ys, gQ 100 y) (hn : xs.length <= 50) (hm : ys.length <= 50) : aa (d7 [.tup [dq e, .lst (xs.map dq)], .tup [dq f, .lst (ys.map dq)]]) (uA e xs f ys) := by
  unfold uA
  by_cases h : xs.length = ys.length
  . rw [if_pos h]
    have hc : (!cA (.int ((xs.map dq).length : Nat)) (.int ((ys.map dq).length : Nat))) = false := og (by rw [List.length_map, List.length_map, h])
    have lx : ao ([dq e] ++ xs.map dq) = true := dY (e :: xs)
    have ly : ao ([dq f] ++ ys.map dq) = true := dY (f :: ys)
    have mx : [dq e].length + (xs.map dq).length <= bI := by rw [List.length_map]; show 1 + _ <= 40000; omega
    have my : [dq f].length + (ys.map dq).length <= bI := by rw [List.length_map]; show 1 + _ <= 40000; omega
    have ez : List.zipWith (fun x y => D.tup [x, y]) ([dq e] ++ xs.map dq) ([dq f] ++ ys.map dq) = ((e, f) :: xs.zip ys).map fun z => D.tup [dq z.1, dq z.2] := by
      show D.tup [dq e, dq f] :: List.zipWith _ (xs.map dq) (ys.map dq) = D.tup [dq e, dq f] :: (xs.zip ys).map _
      rw [List.zipWith_map, List.zip_eq_zipWith, List.map_zipWith]
    refine cj (bi 2 decl_name% (cn (decl_name%.bl hc) rfl (bi 2 decl_name% (nX (k := 0) (((e, f) :: xs.zip ys).map fun z => .tup [dq z.1, dq z.2]) (d := .lst (((e, f) :: xs.zip ys).map fun z => .tup [dq z.1, dq z.2])) ?_ ?_))))
    . exact decl_name%.eq (by rw [ez]; rfl)
    . refine vQ _ ((e, f) :: xs.zip ys) [] bS true _ ?_ (by decide) ?_ ?_ (ae rfl (ae rfl aG))
      . intro z hz
        rcases List.mem_cons.mp hz with rfl | hz
        . exact ⟨he, hf⟩
        . have := List.of_mem_zip hz; exact ⟨hx _ this.1, hy _ this.2⟩
      . simp only [List.length_nil, List.length_cons, List.length_zip]; omega
      . cases gD bS ((e, f) :: xs.zip ys) <;> rfl
  . rw [if_neg h]
    have hc : (!cA (.int ((xs.map dq).length : Nat)) (.int ((ys.map dq).length : Nat))) = true := GO (by rw [List.length_map, List.length_map]; omega)
    exact cj (bi 2 decl_name% (iE (decl_name%.bl hc) rfl decl_name%))
theorem Bg {p q v : Qd} (hq : ai q) (hv : v ∈ aW) (e : p = aq q v) (p0 : p ≠ au) (q0 : q ≠ au) : il p q = dq v := by
  obtain ⟨pv, sv, _⟩ := gj (cg v hv)
  have e' : p = aC (!true) v q := e
  have sz : am p = am q := by rw [e', eZ pv hq, sv, Int.one_mul]
  unfold il
  rw [if_neg (fun z => z.elim p0 q0)]
  unfold g7
  rw [if_pos sz]
  exact fE pv hq q0 e'
def Mv : Qd -> List (Qd × Qd) -> List Qd -> Prop
  | _, [], [] => True
  | l, (m, y) :: zs, v :: vs => v ∈ aW /\ aq l m = aq y v /\ ai y /\ aq l m ≠ au /\ y ≠ au /\ Mv v zs vs
  | _, _, _ => False
theorem Mv.mov : ∀ {l : Qd} {zs : List (Qd × Qd)} {vs : List Qd}, Mv l zs vs -> gD l zs = some vs
  | _, [], [], _ => rfl
  | l, (m, y) :: zs, v :: vs, h => by
    obtain ⟨h1, h2, h3, h4, h5, h6⟩ := h
    unfold gD
    rw [Bg h3 h1 h2 h4 h5, zw]
    show (gD v zs).map (v :: ·) = _
    rw [h6.mov]; rfl
  | _, [], _ :: _, h => h.elim
  | _, _ :: _, [], h => h.elim
theorem GM : bS ∈ aW := by decide
theorem zZ : ∀ u ∈ aW, bG u ∈ aW := by decide +kernel
theorem GQ : ∀ u ∈ aW, ∀ v ∈ aW, aq u v ∈ aW := by decide +kernel
theorem fH {u : Qd} (h : u ∈ aW) : ai u := (gj (cg u h)).1
theorem uh {u : Qd} (h : u ∈ aW) : am u = 1 := (gj (cg u h)).2.1
theorem xS {u : Qd} (h : u ∈ aW) : u ≠ au := fun e => by have := uh h; rw [e] at this; exact absurd this (by decide)
theorem DJ {p q : Qd} (hp : ai p) (hq : ai q) (p0 : p ≠ au) (q0 : q ≠ au) : aq p q ≠ au := wN (s := true) hp hq p0 q0
theorem GC {w : Qd} (h : jn w) : w ≠ au := fun e => by
  have h2 := h.2
  rw [e] at h2
  exact absurd h2 (by decide)
theorem Bf {e f : Qd} {xs ys us : List Qd} (h : xs.length = ys.length) (m : Mv bS ((e, f) :: xs.zip ys) us) : uA e xs f ys = .lst (us.map dq) := by
  unfold uA
  rw [if_pos h, m.mov]
def Aa : Fx := Tb [("_law_cell", jj), ("_law_built", kB), ("_law_cut", oH), ("taken_apart", fV), ("_law_telling_well", eV), ("_law_times", d6), ("_law_bar", lr), ("moved_ones", d7), ("_law_units", ij)] [] BL IL ML TL aT
def pN : List D -> Rs D := bD Aa (ac (af 52)) ["_law_script"] (al (af 52))
theorem zh {a b : Qd} (ha : dm a) (hb : dm b) : aa (d6 [dq a, dq b]) (dq (aq a b)) := ⟨_, rfl, ha, hb, True.intro⟩
theorem Hm (a : Qd) : aa (lr [dq a]) (dq (bG a)) := ⟨_, rfl, True.intro⟩
theorem Mv.snoc : ∀ {l v v' m y : Qd} {zs : List (Qd × Qd)} {vs : List Qd}, Mv l zs vs -> (l :: vs).getLast? = some v -> v' ∈ aW -> aq v m = aq y v' -> ai y -> aq v m ≠ au -> y ≠ au -> Mv l (zs ++ [(m, y)]) (vs ++ [v'])
  | l, v, v', m, y, [], [], _, hv, h1, h2, h3, h4, h5 => by
    have : l = v := by simpa using hv
    subst this
    exact ⟨h1, h2, h3, h4, h5, True.intro⟩
  | l, v, v', m, y, (m0, y0) :: zs, v0 :: vs, h, hv, h1, h2, h3, h4, h5 => by
    obtain ⟨a1, a2, a3, a4, a5, a6⟩ := h
    exact ⟨a1, a2, a3, a4, a5, Mv.snoc a6 (by rw [List.getLast?_cons_cons] at hv; exact hv) h1 h2 h3 h4 h5⟩
  | _, _, _, _, _, [], _ :: _, h, _, _, _, _, _, _ => h.elim
  | _, _, _, _, _, _ :: _, [], h, _, _, _, _, _, _ => h.elim
theorem oN {u r : Qd} (hu : u ∈ aW) (hr : r ∈ aW) : ∀ (wr dr : List Qd) (e : Qd), e ∈ aW -> (∀ w ∈ wr, jn w) -> (∀ d ∈ dr, ai d) -> dr.map am = wr.map am -> FR u wr = aq (FR r dr) e -> fj (FR u wr) -> am (FR u wr) <= (KN : Nat) -> ∃ vs, Mv (aq (bG r) u) (wr.reverse.zip dr.reverse) vs /\ (aq (bG r) u :: vs).getLast? = some e
  | [], [], e, he, _, _, _, h, _, _ => by
    refine ⟨[], True.intro, ?_⟩
    have h : u = aq r e := h
    rw [h, vh (fH hr) (uh hr) (fH he)]
    rfl
  | w :: wr, d :: dr, e, he, hw, hd, hs, h, pl, hk => by
    obtain ⟨gw, pw⟩ := hw w List.mem_cons_self
    have pd := hd d List.mem_cons_self
    have pX : ai (FR u wr) := sh (fH hu) fun x hx => (hw x (List.mem_cons_of_mem _ hx)).1.1
    have pY : ai (FR r dr) := sh (fH hr) fun x hx => hd x (List.mem_cons_of_mem _ hx)
    have pe := fH he
    rw [List.map_cons, List.map_cons] at hs
    injection hs with hs1 hs2
    have h : aq (FR u wr) w = aq (aq (FR r dr) d) e := h
    rw [cu pY pd pe] at h
    have pl : fj (aq (FR u wr) w) := pl
    have hk : am (aq (FR u wr) w) <= (KN : Nat) := hk
    have sde : am (aq d e) = am w := by rw [cZ pd pe, uh he, Int.mul_one, hs1]
    obtain ⟨e', he', se', ee⟩ := xC (p := am w) pY pX (bZ pd pe) gw.1 pl h rfl sde rfl pw hk
    have w0 := GC (show jn w from ⟨gw, pw⟩)
    have hX : FR u wr = aq (FR r dr) e' := by
      rw [ee, <- cu pY he' gw.1] at h
      exact Hk pX (bZ pY he') gw.1 w0 h
    have hkX : am (FR u wr) <= (KN : Nat) := by
      rw [cZ pX gw.1] at hk
      obtain ⟨p1, _⟩ := eJ _ pw
      have := Int.mul_le_mul_of_nonneg_left (show 1 <= am w by omega) (c7 pX)
      omega
    obtain ⟨vs, m, hl⟩ := oN hu hr wr dr e' (iV he' se') (fun x hx => hw x (List.mem_cons_of_mem _ hx)) (fun x hx => hd x (List.mem_cons_of_mem _ hx)) hs2 hX (fj.left pX gw.1 pl) hkX
    have d0 : d ≠ au := fun z => by rw [<- hs1, z] at pw; exact absurd pw (by decide)
    have u0 : e' ≠ au := xS (iV he' se')
    have ll : wr.reverse.length = dr.reverse.length := by
      have := congrArg List.length hs2
      simp only [List.length_map] at this
      simp [this]
    refine ⟨vs ++ [e], ?_, by rw [<- List.cons_append, List.getLast?_append]; rfl⟩
    rw [List.reverse_cons, List.reverse_cons, List.zip_append ll]
    exact m.snoc hl he ee.symm pd (DJ he' gw.1 u0 w0) d0
  | [], _ :: _, _, _, _, _, hs, _, _, _ => by simp at hs
  | _ :: _, [], _, _, _, _, hs, _, _, _ => by simp at hs
theorem yq : ∀ v ∈ aW, aW.filter (fun x => decide (x = v)) = [v] := by decide +kernel
theorem yp {y t v : Qd} (hy : ai y) (y0 : y ≠ au) (hv : v ∈ aW) (e : t = aq y v) : aW.filter (fun x => decide (aq y x = t)) = [v] := by
  rw [<- yq v hv]
  apply List.filter_congr
  intro x hx
  refine decide_eq_decide.mpr ⟨fun h => Hl (fH hx) (fH hv) hy y0 (h.trans e), fun h => by rw [h, e]⟩
theorem v8 {u r : Qd} {ks ds M : List Qd} (hM : aa (d7 [mE u ks, mE r ds]) (.lst (M.map dq))) : ∀ (zs : List (Qd × Qd)) (vs : List Qd) (l : Qd) (acc : List Qd) (ρ : aj), (∀ z ∈ zs, gQ 400 z.1 /\ gQ 400 z.2) -> l ∈ aW -> Mv l zs vs -> acc.length + zs.length <= 50 -> acc ++ l :: vs = M -> (l :: vs).getLast? = some bS -> Sub (bT [("_law_unit", dq u, false), ("_law_kept", .lst (ks.map dq), false), ("_law_told", mE r ds, false), ("_law_moved", .lst ((acc ++ [l]).map dq), true)]) ρ -> t8 Aa (ac (af 52)) (kY ((al (af 52)).getD 7 (.Pass ⟨0, 0, 0, 0⟩))) (fD ((al (af 52)).getD 7 (.Pass ⟨0, 0, 0, 0⟩))) ((al (af 52)).drop 8) (.bl true) (zs.map fun z => .tup [dq z.1, dq z.2]) ρ
  | [], [], l, acc, ρ, _, _, _, _, e, hl, s => by
    have e1 : l = bS := by simpa using hl
    subst e1
    subst e
    exact cJ s (fb (eM (dj (jb (dE (ia decl_name% decl_name% rfl (tZ acc bS)) decl_name% (L6 bS)) (jb (dE (bn decl_name% hM) decl_name% ((B1 _ _).eq (decide_eq_true rfl))) jX)))))
  | (m, y) :: zs, v :: vs, l, acc, ρ, hz, hl, h, hn, e, hL, s => by
    obtain ⟨a1, a2, a3, a4, a5, a6⟩ := h
    obtain ⟨gm, gy⟩ := hz (m, y) List.mem_cons_self
    have bm := gm.bd (by decide)
    have by' := gy.bd (by decide)
    have bl := (f7 (cg l hl)).bd (by decide)
    simp only [List.length_cons] at hn
    have l1 : ((acc ++ [l]).map dq).length < bI := by rw [List.length_map, List.length_append]; show _ + 1 < 40000; omega
    have s1 := (s.put (Str.ofString "_law_part") (dq m, false)).put (Str.ofString "_law_place") (dq y, false)
    have s2 := s1.put (Str.ofString "_law_made") (dq (aq l m), true)
    refine ⟨_, rfl, .inl (dv (bX (d := dq (aq l m)) (bC s1 (bn (bf (ia decl_name% decl_name% rfl (tZ acc l)) (bf decl_name% cP)) (zh bl bm)))) (dv (bX (d := .lst [dq v]) (bC s2 (aa.eq (rq (l := aW) (g := dq) (f := dq) (t := fun x => decide (aq y x = aq l m)) (bn decl_name% sO) rfl (by decide) (.inr (Nat.zero_le _)) fun x hx => ⟨_, 0, rfl, ?_, fun _ => decl_name%⟩) (by rw [yp a3 a5 a1 a2]; rfl)))) (cz (s2.put (Str.ofString "_law_some") (.lst [dq v], true)) (cn (t := false) (k := 0) (decl_name%.bl (og rfl)) rfl decl_name%) fun ρ' s' => v8 hM zs vs v (acc ++ [l]) ρ' (fun z hz' => hz z (List.mem_cons_of_mem _ hz')) a1 a6 (by rw [List.length_append]; show acc.length + 1 + _ <= 50; omega) (by rw [List.append_assoc]; exact e) (by rw [List.getLast?_cons_cons] at hL; exact hL) ?_)))⟩
    . have bx := (f7 (cg x hx)).bd (by decide)
      exact decl_name%.bl (fg _ _)
    . rw [List.map_append (l₁ := acc ++ [l])]
      exact ae s'.get (ae s'.get (ae s'.get (ae s'.get (aG))))
  | [], _ :: _, _, _, _, _, _, h, _, _, _, _ => h.elim
  | _ :: _, [], _, _, _, _, _, h, _, _, _, _ => h.elim
theorem ya (ns : List Int) (_ : ns.length <= 63) : aa (pN [.lst (ns.map D.int)]) (.bl true) := by
  have hl : DH (ns.map D.int) := ⟨ns, rfl⟩
  generalize ns.map D.int = L at *
  have c0 := Int.fmod_nonneg_of_pos (j7 L 0) (show (0 : Int) < 7 by decide)
  have c1 := Int.fmod_lt_of_pos (j7 L 0) (show (0 : Int) < 7 by decide)
  obtain ⟨m, hm⟩ := Int.eq_ofNat_of_zero_le c0
  obtain ⟨u, ws, hu, w1, w2, hB⟩ := B4 hl 1 (m := m) (by omega)
  rw [<- hm] at hB
  obtain ⟨j, j1, pl, hC⟩ := Hj hu w2 (by omega)
  have hks : ∀ w ∈ ws.take j, jn w := fun w h => w2 w (List.mem_of_mem_take h)
  have hlen : (ws.take j).length = j := by rw [List.length_take]; omega
  have eo : (ws.map am).take j = (ws.take j).map am := List.map_take.symm
  generalize hkk : ws.take j = ks at *
  have pks : ∀ w ∈ ks, ai w := fun w h => (hks w h).1.1
  have pk : ai (ks.foldl aq u) := re (fH hu) pks
  have zk : am (ks.foldl aq u) = cW (ks.map am) := by rw [nU ks u (fH hu) pks, uh hu, Int.one_mul]
  have nP : ∀ n ∈ ks.map am, n ∈ cX := fun n hn => by obtain ⟨x, hx, rfl⟩ := List.mem_map.mp hn; exact (hks x hx).2
  have bP : cW (ks.map am) <= ((2 ^ 300 : Nat) : Int) := Int.le_trans (vB nP).2 (Int.ofNat_le.mpr (Nat.pow_le_pow_right (by decide) (by rw [List.length_map]; omega)))
  obtain ⟨r, ds, pr, sr, pd, es, ef, hT⟩ := Ce pk pl (by rw [zk]; exact bP) nP (by rw [List.length_map]; omega) zk
  have ru := iV pr sr
  have kd : am (ks.foldl aq u) <= (KN : Nat) := by rw [zk]; exact Int.le_trans bP (Int.ofNat_le.mpr (Nat.pow_le_pow_right (by decide) (by decide)))
  have hW := Co pr sr pd es ef nP (by rw [List.length_map]; omega) bP
  obtain ⟨vs, mv, lv⟩ := oN hu ru ks.reverse ds.reverse bS GM (fun w h => hks w (List.mem_reverse.mp h)) (fun w h => pd w (List.mem_reverse.mp h)) (by rw [List.map_reverse, List.map_reverse, es]) (by rw [<- kZ, <- kZ, ef, qE]) (by rw [<- kZ]; exact pl) (by rw [<- kZ]; exact kd)
  rw [List.reverse_reverse, List.reverse_reverse] at mv
  have ld : ds.length = ks.length := by have := congrArg List.length es; simpa using this
  have gds : ∀ d ∈ ds, gQ 10 d := fun d h => i9 (n := 8) (pd d h) (by
    have := eJ _ (nP (am d) (by rw [<- es]; exact List.mem_map.mpr ⟨d, h, rfl⟩))
    omega)
  have v0 : aq (bG r) u ∈ aW := GQ _ (zZ _ ru) _ hu
  have hM : aa (d7 [mE u ks, mE r ds]) (.lst ((aq (bG r) u :: vs).map dq)) := by
    refine (GR ((f7 (cg u hu)).mono (by decide)) ((f7 (cg r ru)).mono (by decide)) (fun x hx => (hks x hx).1.mono (by decide)) (fun x hx => (gds x hx).mono (by decide)) (by omega) (by omega)).eq (Bf ld.symm ⟨v0, ?_, pr, ?_, xS ru, mv⟩)
    . rw [fy, Ap pr sr (fH hu)]
    . rw [fy]; exact xS hu
  have lk := dY ks
  have lt := dY ds
  have lns : ao ((ks.map am).map D.int) = true := en (fun _ => rfl) _
  have lns2 : ao ((ws.map am).map D.int) = true := en (fun _ => rfl) _
  have bu := (f7 (cg u hu)).bd (by decide)
  have bbr := (f7 (cg _ (zZ _ ru))).bd (by decide)
  refine cj (bi 1 decl_name% (ci (ww (bn decl_name% hB) rfl (.inr (Nat.zero_le _)) rfl) (ci (ww (bn decl_name% hC) rfl (.inr (Nat.zero_le _)) rfl) (ci (bX (d := .lst ((ks.map am).map D.int)) (aa.eq (yt (l := none) (h := some (j : Int)) decl_name% decl_name% ?_ (CT lns2)) ?_)) (ci (bX (d := mE r ds) (bn decl_name% hT)) (cn (t := false) (k := 0) (uS (bn decl_name% hW) rfl) rfl (ci (bX (d := .lst [dq (aq (bG r) u)]) (Eo (bf (bn (bf (bn (bf decl_name% cP) (Hm r)) (bf decl_name% cP)) (zh bbr bu)) cP) ⟨Nat.le_of_ble_eq_true rfl, Nat.le_of_ble_eq_true rfl⟩)) (nX (k := 1) ((ks.zip ds).map fun z => .tup [dq z.1, dq z.2]) (d := .lst ((ks.zip ds).map fun z => .tup [dq z.1, dq z.2])) ?_ ?_))))))))
  . exact decl_name%.eq (by rw [<- hlen]; simp)
  . rw [EJ _ j (by rw [List.length_map]; omega), eo]
  . refine decl_name%.eq ?_
    rw [List.zipWith_map, List.zip_eq_zipWith, List.map_zipWith]
    rfl
  . exact v8 hM (ks.zip ds) vs (aq (bG r) u) [] _ (fun z hz => by have := List.of_mem_zip hz; exact ⟨(hks _ this.1).1.mono (by decide), (gds _ this.2).mono (by decide)⟩) v0 mv (by simp; omega) rfl lv (ae rfl (ae rfl (ae rfl (ae rfl aG))))
theorem IZ : aK (aA (ac (af 40))) ["_law_script", "_law_k"] (ac (af 40)) := ⟨rfl, rfl, rfl, by decide +kernel, by decide +kernel, by decide +kernel, by decide +kernel⟩
theorem IS : aK (aA (ac (af 46))) [] (ac (af 46)) := ⟨rfl, rfl, rfl, by decide +kernel, by decide +kernel, by decide +kernel, by decide +kernel⟩
theorem IR : aK (aA (ac (af 47))) ["_law_n"] (ac (af 47)) := ⟨rfl, rfl, rfl, by decide +kernel, by decide +kernel, by decide +kernel, by decide +kernel⟩
theorem IU : aK (aA (ac (af 44))) ["_law_one", "_law_other"] (ac (af 44)) := ⟨rfl, rfl, rfl, by decide +kernel, by decide +kernel, by decide +kernel, by decide +kernel⟩
theorem IQ : aK (aA (ac (af 48))) ["_law_script", "_law_begin", "_law_many"] (ac (af 48)) := ⟨rfl, rfl, rfl, by decide +kernel, by decide +kernel, by decide +kernel, by decide +kernel⟩
theorem IP : aK (aA (ac (af 49))) ["_law_four"] (ac (af 49)) := ⟨rfl, rfl, rfl, by decide +kernel, by decide +kernel, by decide +kernel, by decide +kernel⟩
theorem IN : aK (aA (ac (af 51))) ["_law_unit", "_law_parts"] (ac (af 51)) := ⟨rfl, rfl, rfl, by decide +kernel, by decide +kernel, by decide +kernel, by decide +kernel⟩
theorem Jf : aK (aA (ac (af 30))) ["one", "other"] (ac (af 30)) := ⟨rfl, rfl, rfl, by decide +kernel, by decide +kernel, by decide +kernel, by decide +kernel⟩
theorem Jg : aK (aA (ac (af 29))) ["numbers"] (ac (af 29)) := ⟨rfl, rfl, rfl, by decide +kernel, by decide +kernel, by decide +kernel, by decide +kernel⟩
theorem N9 : aK (aA (ac (af 8))) ["thing"] (ac (af 8)) := ⟨rfl, rfl, rfl, by decide +kernel, by decide +kernel, by decide +kernel, by decide +kernel⟩
theorem N8 : aK (aA (ac (af 9))) ["thing"] (ac (af 9)) := ⟨rfl, rfl, rfl, by decide +kernel, by decide +kernel, by decide +kernel, by decide +kernel⟩
theorem Jd : aK (aA (ac (af 34))) ["four"] (ac (af 34)) := ⟨rfl, rfl, rfl, by decide +kernel, by decide +kernel, by decide +kernel, by decide +kernel⟩
theorem Jb : aK (aA (ac (af 36))) ["order", "whole"] (ac (af 36)) := ⟨rfl, rfl, rfl, by decide +kernel, by decide +kernel, by decide +kernel, by decide +kernel⟩
theorem Jo : aK (aA (ac (af 17))) ["four"] (ac (af 17)) := ⟨rfl, rfl, rfl, by decide +kernel, by decide +kernel, by decide +kernel, by decide +kernel⟩
theorem Jl : aK (aA (ac (af 21))) ["side"] (ac (af 21)) := ⟨rfl, rfl, rfl, by decide +kernel, by decide +kernel, by decide +kernel, by decide +kernel⟩
theorem Jt : aK (aA (ac (af 10))) ["one", "other"] (ac (af 10)) := ⟨rfl, rfl, rfl, by decide +kernel, by decide +kernel, by decide +kernel, by decide +kernel⟩
theorem Js : aK (aA (ac (af 11))) ["one", "number"] (ac (af 11)) := ⟨rfl, rfl, rfl, by decide +kernel, by decide +kernel, by decide +kernel, by decide +kernel⟩
theorem Ji : aK (aA (ac (af 24))) ["four", "tried", "number"] (ac (af 24)) := ⟨rfl, rfl, rfl, by decide +kernel, by decide +kernel, by decide +kernel, by decide +kernel⟩
theorem Jj : aK (aA (ac (af 23))) ["four", "number"] (ac (af 23)) := ⟨rfl, rfl, rfl, by decide +kernel, by decide +kernel, by decide +kernel, by decide +kernel⟩
theorem Jr : aK (aA (ac (af 14))) ["one", "other"] (ac (af 14)) := ⟨rfl, rfl, rfl, by decide +kernel, by decide +kernel, by decide +kernel, by decide +kernel⟩
theorem Jq : aK (aA (ac (af 15))) ["one", "other"] (ac (af 15)) := ⟨rfl, rfl, rfl, by decide +kernel, by decide +kernel, by decide +kernel, by decide +kernel⟩
theorem Jk : aK (aA (ac (af 22))) ["one", "other", "side"] (ac (af 22)) := ⟨rfl, rfl, rfl, by decide +kernel, by decide +kernel, by decide +kernel, by decide +kernel⟩
theorem Jp : aK (aA (ac (af 16))) ["four"] (ac (af 16)) := ⟨rfl, rfl, rfl, by decide +kernel, by decide +kernel, by decide +kernel, by decide +kernel⟩
theorem Jn : aK (aA (ac (af 19))) ["one", "other", "side"] (ac (af 19)) := ⟨rfl, rfl, rfl, by decide +kernel, by decide +kernel, by decide +kernel, by decide +kernel⟩
theorem Jm : aK (aA (ac (af 20))) ["one", "other", "side"] (ac (af 20)) := ⟨rfl, rfl, rfl, by decide +kernel, by decide +kernel, by decide +kernel, by decide +kernel⟩
theorem Jh : aK (aA (ac (af 26))) ["one", "other", "side"] (ac (af 26)) := ⟨rfl, rfl, rfl, by decide +kernel, by decide +kernel, by decide +kernel, by decide +kernel⟩
theorem Jc : aK (aA (ac (af 35))) ["four", "order"] (ac (af 35)) := ⟨rfl, rfl, rfl, by decide +kernel, by decide +kernel, by decide +kernel, by decide +kernel⟩
theorem IY : aK (aA (ac (af 41))) ["_law_x"] (ac (af 41)) := ⟨rfl, rfl, rfl, by decide +kernel, by decide +kernel, by decide +kernel, by decide +kernel⟩
theorem IW : aK (aA (ac (af 42))) ["_law_thing"] (ac (af 42)) := ⟨rfl, rfl, rfl, by decide +kernel, by decide +kernel, by decide +kernel, by decide +kernel⟩
theorem IV : aK (aA (ac (af 43))) ["_law_four"] (ac (af 43)) := ⟨rfl, rfl, rfl, by decide +kernel, by decide +kernel, by decide +kernel, by decide +kernel⟩
theorem IO : aK (aA (ac (af 50))) ["_law_telling", "_law_primes", "_law_four"] (ac (af 50)) := ⟨rfl, rfl, rfl, by decide +kernel, by decide +kernel, by decide +kernel, by decide +kernel⟩
theorem IT : aK (aA (ac (af 45))) ["_law_four"] (ac (af 45)) := ⟨rfl, rfl, rfl, by decide +kernel, by decide +kernel, by decide +kernel, by decide +kernel⟩
theorem Je : aK (aA (ac (af 32))) ["one", "other", "side"] (ac (af 32)) := ⟨rfl, rfl, rfl, by decide +kernel, by decide +kernel, by decide +kernel, by decide +kernel⟩
theorem I0 : aK (aA (ac (af 38))) ["mine", "yours"] (ac (af 38)) := ⟨rfl, rfl, rfl, by decide +kernel, by decide +kernel, by decide +kernel, by decide +kernel⟩
theorem Ja : aK (aA (ac (af 37))) ["telling", "other"] (ac (af 37)) := ⟨rfl, rfl, rfl, by decide +kernel, by decide +kernel, by decide +kernel, by decide +kernel⟩
theorem IM : aK (aA (ac (af 52))) ["_law_script"] (ac (af 52)) := ⟨rfl, rfl, rfl, by decide +kernel, by decide +kernel, by decide +kernel, by decide +kernel⟩
theorem bw : ∀ p ∈ BL, iD p := aw (Pr := iD) (B7) (aw (Pr := iD) (wO) (aw (Pr := iD) (yK) (aw (Pr := iD) (Cb) (aw (Pr := iD) (Ca) (aw (Pr := iD) (B6) (aw (Pr := iD) (B8) (aw (Pr := iD) (B9) (ax))))))))
theorem bv : ∀ p ∈ IL, oJ p := aw (Pr := oJ) (wk) (aw (Pr := oJ) (By) (aw (Pr := oJ) (yi) (aw (Pr := oJ) (Bz) (ax))))
theorem bt : ∀ p ∈ ML, FO p := ax
theorem bo : ∀ p ∈ TL, y8 p := aw (Pr := y8) (uF) (ax)
theorem cL {P : Program} {w : World} {k0 : W.Frag} {mg : Str -> Option Value} {base : Heap} {j k : Nat} {g : Str} {F : List D -> Rs D} {l : List (Str × (List D -> Rs D))} (h : cv P w k0 mg base j g F) (t : ∀ p ∈ l, Ai P w k0 mg base k p) (hj : j <= k := by decide) : ∀ p ∈ (g, F) :: l, Ai P w k0 mg base k p := aw (Pr := Ai P w k0 mg base k) (Or.inl (h.mono hj)) t
theorem all_mk {l : W.OpenLaw} {w : World} {K : W.Frag} {h : Heap} {mg : Str -> Option Value} {fa f40 f46 f47 f44 f48 f49 f51 f30 f29 f8 f9 f34 f36 f17 f21 f10 f11 f24 f23 f14 f15 f22 f16 f19 f20 f26 f35 f41 f42 f43 f50 f45 f32 f38 f37 f52 : Addr} (X : K.In h) (G : h.Ns mainGlobals mg) (hfa : mg "law" = some (.ref fa))
    {Ko Nw Kh Np Kg No Kj Nr Kf Nn Ke Nm Kb Nk Kw ND Kx NE od8 an8 od9 an9 Ku NB Ks Nz KF NM KC NJ KK NR KJ NQ Kz NG KA NH KI NP KH NO KB NI KG NN KE NL KD NK Ky NF Kt NA Km Nv Kl Nu Kk Nt Kc Nl Ki Nq Kv NC Kq Nx Kr Ny Ka FF : Option Addr} {Ij Ib Ia Id HZ HY HW Iu Iv sl8 sl9 Iq Im ID IA IJ II Ix Iy IH IG Iz IF IC IB Iw Io Ii Ig Ie HX Ic Ir Ik Il HV : Array (Option Value)} {K0 LE Mi JM Fa MV KS Ly Mc JG EV MP KR Lx Mb JF EU MO KU LA Me JI EX MR KQ Lw Ma JE ET MN KP Lv L9 JD ES MM KM Ls L7 JB EQ MJ K8 LL Mr JT Fh M2 K9 LM Ms JU Fi M3 oc8 kV8 dc8 pm8 cd8 ct8 oc9 kV9 dc9 pm9 cd9 ct9 K6 LJ Mp JR Ff M0 K3 LH Mm JP Fd MY Lh LU MC J2 Fs Nd Le LR Mz JZ Fp M8 Lm LZ MH J8 Fy Nj Ll LY MG J6 Fw Ni Lb LO Mu JW Fk M5 Lc LP Mw JX Fm M6 Lk LX MF J5 Fv Nh Lj LW ME J4 Fu Ng Ld LQ Mx JY Fo M7 Li LV MD J3 Ft Nf Lg LT MB J1 Fr Nc Lf LS MA J0 Fq M9 La LN Mt JV Fj M4 K5 LI Mn JQ Fe MZ KZ LD Mh JL E9 MU KY LC Mg JK EZ MT KW LB Mf JJ EY MS KO Lu L8 JC ER MK KT Lz Md JH EW MQ K7 LK Mq JS Fg M1 K1 LF Mj JN Fb MW K2 LG Ml JO Fc MX KL DY EI Dg yD EL : Value}
    (a40 : W.nsIn K mainGlobals "_law_cell" = some (some (.ref f40)))    (l40 : K.lookup f40 = some ⟨K0, Ko, .func (W.fnOf "_law_cell" "_law_cell" (aL (af 40)) (al (af 40)) (ac (af 40)) .none LE Mi JM Nw Fa MV), Ij⟩) (c40 : W.codeIn K Fa "_law_cell" = true) (k40 : W.keepIn K (.ref f40) = true)
    (a46 : W.nsIn K mainGlobals "_law_units" = some (some (.ref f46)))    (l46 : K.lookup f46 = some ⟨KS, Kh, .func (W.fnOf "_law_units" "_law_units" (aL (af 46)) (al (af 46)) (ac (af 46)) .none Ly Mc JG Np EV MP), Ib⟩) (c46 : W.codeIn K EV "_law_units" = true) (k46 : W.keepIn K (.ref f46) = true)
    (a47 : W.nsIn K mainGlobals "_law_fours" = some (some (.ref f47)))    (l47 : K.lookup f47 = some ⟨KR, Kg, .func (W.fnOf "_law_fours" "_law_fours" (aL (af 47)) (al (af 47)) (ac (af 47)) .none Lx Mb JF No EU MO), Ia⟩) (c47 : W.codeIn K EU "_law_fours" = true) (k47 : W.keepIn K (.ref f47) = true)
    (a44 : W.nsIn K mainGlobals "_law_times" = some (some (.ref f44)))    (l44 : K.lookup f44 = some ⟨KU, Kj, .func (W.fnOf "_law_times" "_law_times" (aL (af 44)) (al (af 44)) (ac (af 44)) .none LA Me JI Nr EX MR), Id⟩) (c44 : W.codeIn K EX "_law_times" = true) (k44 : W.keepIn K (.ref f44) = true)
    (a48 : W.nsIn K mainGlobals "_law_built" = some (some (.ref f48)))    (l48 : K.lookup f48 = some ⟨KQ, Kf, .func (W.fnOf "_law_built" "_law_built" (aL (af 48)) (al (af 48)) (ac (af 48)) .none Lw Ma JE Nn ET MN), HZ⟩) (c48 : W.codeIn K ET "_law_built" = true) (k48 : W.keepIn K (.ref f48) = true)
    (a49 : W.nsIn K mainGlobals "_law_divisor" = some (some (.ref f49)))    (l49 : K.lookup f49 = some ⟨KP, Ke, .func (W.fnOf "_law_divisor" "_law_divisor" (aL (af 49)) (al (af 49)) (ac (af 49)) .none Lv L9 JD Nm ES MM), HY⟩) (c49 : W.codeIn K ES "_law_divisor" = true) (k49 : W.keepIn K (.ref f49) = true)
    (a51 : W.nsIn K mainGlobals "_law_cut" = some (some (.ref f51)))    (l51 : K.lookup f51 = some ⟨KM, Kb, .func (W.fnOf "_law_cut" "_law_cut" (aL (af 51)) (al (af 51)) (ac (af 51)) .none Ls L7 JB Nk EQ MJ), HW⟩) (c51 : W.codeIn K EQ "_law_cut" = true) (k51 : W.keepIn K (.ref f51) = true)
    (a30 : W.nsIn K mainGlobals "shared_by" = some (some (.ref f30)))    (l30 : K.lookup f30 = some ⟨K8, Kw, .func (W.fnOf "shared_by" "shared_by" (aL (af 30)) (al (af 30)) (ac (af 30)) .none LL Mr JT ND Fh M2), Iu⟩) (c30 : W.codeIn K Fh "shared_by" = true) (k30 : W.keepIn K (.ref f30) = true)
    (a29 : W.nsIn K mainGlobals "common_divisor" = some (some (.ref f29)))    (l29 : K.lookup f29 = some ⟨K9, Kx, .func (W.fnOf "common_divisor" "common_divisor" (aL (af 29)) (al (af 29)) (ac (af 29)) .none LM Ms JU NE Fi M3), Iv⟩) (c29 : W.codeIn K Fi "common_divisor" = true) (k29 : W.keepIn K (.ref f29) = true)
    (a8 : W.nsIn K mainGlobals "is_whole" = some (some (.ref f8)))    (l8 : K.lookup f8 = some ⟨oc8, od8, .func (W.fnOf "is_whole" "is_whole" (aL (af 8)) (al (af 8)) (ac (af 8)) .none kV8 dc8 pm8 an8 cd8 ct8), sl8⟩) (c8 : W.codeIn K cd8 "is_whole" = true) (k8 : W.keepIn K (.ref f8) = true)
    (a9 : W.nsIn K mainGlobals "is_four" = some (some (.ref f9)))    (l9 : K.lookup f9 = some ⟨oc9, od9, .func (W.fnOf "is_four" "is_four" (aL (af 9)) (al (af 9)) (ac (af 9)) .none kV9 dc9 pm9 an9 cd9 ct9), sl9⟩) (c9 : W.codeIn K cd9 "is_four" = true) (k9 : W.keepIn K (.ref f9) = true)
    (a34 : W.nsIn K mainGlobals "whole_divisor" = some (some (.ref f34)))    (l34 : K.lookup f34 = some ⟨K6, Ku, .func (W.fnOf "whole_divisor" "whole_divisor" (aL (af 34)) (al (af 34)) (ac (af 34)) .none LJ Mp JR NB Ff M0), Iq⟩) (c34 : W.codeIn K Ff "whole_divisor" = true) (k34 : W.keepIn K (.ref f34) = true)
    (a36 : W.nsIn K mainGlobals "order_fault" = some (some (.ref f36)))    (l36 : K.lookup f36 = some ⟨K3, Ks, .func (W.fnOf "order_fault" "order_fault" (aL (af 36)) (al (af 36)) (ac (af 36)) .none LH Mm JP Nz Fd MY), Im⟩) (c36 : W.codeIn K Fd "order_fault" = true) (k36 : W.keepIn K (.ref f36) = true)
    (a17 : W.nsIn K mainGlobals "size" = some (some (.ref f17)))    (l17 : K.lookup f17 = some ⟨Lh, KF, .func (W.fnOf "size" "size" (aL (af 17)) (al (af 17)) (ac (af 17)) .none LU MC J2 NM Fs Nd), ID⟩) (c17 : W.codeIn K Fs "size" = true) (k17 : W.keepIn K (.ref f17) = true)
    (a21 : W.nsIn K mainGlobals "refuse_no_side" = some (some (.ref f21)))    (fN : K.lookup f21 = some ⟨Le, KC, .func (W.fnOf "refuse_no_side" "refuse_no_side" (aL (af 21)) (al (af 21)) (ac (af 21)) .none LR Mz JZ NJ Fp M8), IA⟩) (c21 : W.codeIn K Fp "refuse_no_side" = true) (k21 : W.keepIn K (.ref f21) = true)
    (a10 : W.nsIn K mainGlobals "less" = some (some (.ref f10)))    (l10 : K.lookup f10 = some ⟨Lm, KK, .func (W.fnOf "less" "less" (aL (af 10)) (al (af 10)) (ac (af 10)) .none LZ MH J8 NR Fy Nj), IJ⟩) (c10 : W.codeIn K Fy "less" = true) (k10 : W.keepIn K (.ref f10) = true)
    (a11 : W.nsIn K mainGlobals "many_times" = some (some (.ref f11)))    (l11 : K.lookup f11 = some ⟨Ll, KJ, .func (W.fnOf "many_times" "many_times" (aL (af 11)) (al (af 11)) (ac (af 11)) .none LY MG J6 NQ Fw Ni), II⟩) (c11 : W.codeIn K Fw "many_times" = true) (k11 : W.keepIn K (.ref f11) = true)
    (a24 : W.nsIn K mainGlobals "strayed" = some (some (.ref f24)))    (l24 : K.lookup f24 = some ⟨Lb, Kz, .func (W.fnOf "strayed" "strayed" (aL (af 24)) (al (af 24)) (ac (af 24)) .none LO Mu JW NG Fk M5), Ix⟩) (c24 : W.codeIn K Fk "strayed" = true) (k24 : W.keepIn K (.ref f24) = true)
    (a23 : W.nsIn K mainGlobals "nearest" = some (some (.ref f23)))    (l23 : K.lookup f23 = some ⟨Lc, KA, .func (W.fnOf "nearest" "nearest" (aL (af 23)) (al (af 23)) (ac (af 23)) .none LP Mw JX NH Fm M6), Iy⟩) (c23 : W.codeIn K Fm "nearest" = true) (k23 : W.keepIn K (.ref f23) = true)
    (a14 : W.nsIn K mainGlobals "plain_product" = some (some (.ref f14)))    (l14 : K.lookup f14 = some ⟨Lk, KI, .func (W.fnOf "plain_product" "plain_product" (aL (af 14)) (al (af 14)) (ac (af 14)) .none LX MF J5 NP Fv Nh), IH⟩) (c14 : W.codeIn K Fv "plain_product" = true) (k14 : W.keepIn K (.ref f14) = true)
    (a15 : W.nsIn K mainGlobals "product" = some (some (.ref f15)))    (l15 : K.lookup f15 = some ⟨Lj, KH, .func (W.fnOf "product" "product" (aL (af 15)) (al (af 15)) (ac (af 15)) .none LW ME J4 NO Fu Ng), IG⟩) (c15 : W.codeIn K Fu "product" = true) (k15 : W.keepIn K (.ref f15) = true)
    (a22 : W.nsIn K mainGlobals "beside" = some (some (.ref f22)))    (l22 : K.lookup f22 = some ⟨Ld, KB, .func (W.fnOf "beside" "beside" (aL (af 22)) (al (af 22)) (ac (af 22)) .none LQ Mx JY NI Fo M7), Iz⟩) (c22 : W.codeIn K Fo "beside" = true) (k22 : W.keepIn K (.ref f22) = true)
    (a16 : W.nsIn K mainGlobals "other_signed" = some (some (.ref f16)))    (l16 : K.lookup f16 = some ⟨Li, KG, .func (W.fnOf "other_signed" "other_signed" (aL (af 16)) (al (af 16)) (ac (af 16)) .none LV MD J3 NN Ft Nf), IF⟩) (c16 : W.codeIn K Ft "other_signed" = true) (k16 : W.keepIn K (.ref f16) = true)
    (a19 : W.nsIn K mainGlobals "divided" = some (some (.ref f19)))    (l19 : K.lookup f19 = some ⟨Lg, KE, .func (W.fnOf "divided" "divided" (aL (af 19)) (al (af 19)) (ac (af 19)) .none LT MB J1 NL Fr Nc), IC⟩) (c19 : W.codeIn K Fr "divided" = true) (k19 : W.keepIn K (.ref f19) = true)
    (a20 : W.nsIn K mainGlobals "exact" = some (some (.ref f20)))    (l20 : K.lookup f20 = some ⟨Lf, KD, .func (W.fnOf "exact" "exact" (aL (af 20)) (al (af 20)) (ac (af 20)) .none LS MA J0 NK Fq M9), IB⟩) (c20 : W.codeIn K Fq "exact" = true) (k20 : W.keepIn K (.ref f20) = true)
    (a26 : W.nsIn K mainGlobals "greatest" = some (some (.ref f26)))    (l26 : K.lookup f26 = some ⟨La, Ky, .func (W.fnOf "greatest" "greatest" (aL (af 26)) (al (af 26)) (ac (af 26)) .none LN Mt JV NF Fj M4), Iw⟩) (c26 : W.codeIn K Fj "greatest" = true) (k26 : W.keepIn K (.ref f26) = true)
    (a35 : W.nsIn K mainGlobals "taken_apart" = some (some (.ref f35)))    (l35 : K.lookup f35 = some ⟨K5, Kt, .func (W.fnOf "taken_apart" "taken_apart" (aL (af 35)) (al (af 35)) (ac (af 35)) .none LI Mn JQ NA Fe MZ), Io⟩) (c35 : W.codeIn K Fe "taken_apart" = true) (k35 : W.keepIn K (.ref f35) = true)
    (a41 : W.nsIn K mainGlobals "_law_whole" = some (some (.ref f41)))    (l41 : K.lookup f41 = some ⟨KZ, Km, .func (W.fnOf "_law_whole" "_law_whole" (aL (af 41)) (al (af 41)) (ac (af 41)) .none LD Mh JL Nv E9 MU), Ii⟩) (c41 : W.codeIn K E9 "_law_whole" = true) (k41 : W.keepIn K (.ref f41) = true)
    (a42 : W.nsIn K mainGlobals "_law_is_four" = some (some (.ref f42)))    (l42 : K.lookup f42 = some ⟨KY, Kl, .func (W.fnOf "_law_is_four" "_law_is_four" (aL (af 42)) (al (af 42)) (ac (af 42)) .none LC Mg JK Nu EZ MT), Ig⟩) (c42 : W.codeIn K EZ "_law_is_four" = true) (k42 : W.keepIn K (.ref f42) = true)
    (a43 : W.nsIn K mainGlobals "_law_size" = some (some (.ref f43)))    (l43 : K.lookup f43 = some ⟨KW, Kk, .func (W.fnOf "_law_size" "_law_size" (aL (af 43)) (al (af 43)) (ac (af 43)) .none LB Mf JJ Nt EY MS), Ie⟩) (c43 : W.codeIn K EY "_law_size" = true) (k43 : W.keepIn K (.ref f43) = true)
    (a50 : W.nsIn K mainGlobals "_law_telling_well" = some (some (.ref f50)))    (l50 : K.lookup f50 = some ⟨KO, Kc, .func (W.fnOf "_law_telling_well" "_law_telling_well" (aL (af 50)) (al (af 50)) (ac (af 50)) .none Lu L8 JC Nl ER MK), HX⟩) (c50 : W.codeIn K ER "_law_telling_well" = true) (k50 : W.keepIn K (.ref f50) = true)
    (a45 : W.nsIn K mainGlobals "_law_bar" = some (some (.ref f45)))    (l45 : K.lookup f45 = some ⟨KT, Ki, .func (W.fnOf "_law_bar" "_law_bar" (aL (af 45)) (al (af 45)) (ac (af 45)) .none Lz Md JH Nq EW MQ), Ic⟩) (c45 : W.codeIn K EW "_law_bar" = true) (k45 : W.keepIn K (.ref f45) = true)
    (a32 : W.nsIn K mainGlobals "mate_by" = some (some (.ref f32)))    (l32 : K.lookup f32 = some ⟨K7, Kv, .func (W.fnOf "mate_by" "mate_by" (aL (af 32)) (al (af 32)) (ac (af 32)) .none LK Mq JS NC Fg M1), Ir⟩) (c32 : W.codeIn K Fg "mate_by" = true) (k32 : W.keepIn K (.ref f32) = true)
    (a38 : W.nsIn K mainGlobals "moved_one" = some (some (.ref f38)))    (l38 : K.lookup f38 = some ⟨K1, Kq, .func (W.fnOf "moved_one" "moved_one" (aL (af 38)) (al (af 38)) (ac (af 38)) .none LF Mj JN Nx Fb MW), Ik⟩) (c38 : W.codeIn K Fb "moved_one" = true) (k38 : W.keepIn K (.ref f38) = true)
    (a37 : W.nsIn K mainGlobals "moved_ones" = some (some (.ref f37)))    (l37 : K.lookup f37 = some ⟨K2, Kr, .func (W.fnOf "moved_ones" "moved_ones" (aL (af 37)) (al (af 37)) (ac (af 37)) .none LG Ml JO Ny Fc MX), Il⟩) (c37 : W.codeIn K Fc "moved_ones" = true) (k37 : W.keepIn K (.ref f37) = true)
    (a52 : W.nsIn K mainGlobals "law" = some (some (.ref f52)))    (l52 : K.lookup f52 = some ⟨KL, Ka, .func (W.fnOf "law" "law" (aL (af 52)) (al (af 52)) (ac (af 52)) .none DY EI Dg FF yD EL), HV⟩) (c52 : W.codeIn K yD "law" = true) (k52 : W.keepIn K (.ref f52) = true)
    {ca0 : Addr} {dd0 : Option Addr} {ss0 : Array (Option Value)} {nn0 : Nat} {Gh Gg Gf Ge : Tok} (g0 : W.nsIn K mainGlobals "NOUGHT" = some (some (.ref ca0))) (m0 : K.lookup ca0 = some ⟨.type "tuple", dd0, .seq #[.int (0) Gh, .int (0) Gg, .int (0) Gf, .int (0) Ge] nn0, ss0⟩)
    {ca1 : Addr} {dd1 : Option Addr} {ss1 : Array (Option Value)} {nn1 : Nat} {Gd Gc Gb Ga : Tok} (g1 : W.nsIn K mainGlobals "ONE" = some (some (.ref ca1))) (m1 : K.lookup ca1 = some ⟨.type "tuple", dd1, .seq #[.int (2) Gd, .int (0) Gc, .int (0) Gb, .int (0) Ga] nn1, ss1⟩)
    {ca2 : Addr} {dd2 : Option Addr} {ss2 : Array (Option Value)} {nn2 : Nat} {F7 F6 F5 F4 F3 F2 F1 F0 FZ FY CH CG CF CD CC CB CA Cz Cy Cw Cv Cu Ct Cs Cr : Tok} (g2 : W.nsIn K mainGlobals "PRIMES" = some (some (.ref ca2))) (m2 : K.lookup ca2 = some ⟨.type "tuple", dd2, .seq #[.int (2) F7, .int (3) F6, .int (5) F5, .int (7) F4, .int (11) F3, .int (13) F2, .int (17) F1, .int (19) F0, .int (23) FZ, .int (29) FY, .int (31) CH, .int (37) CG, .int (41) CF, .int (43) CD, .int (47) CC, .int (53) CB, .int (59) CA, .int (61) Cz, .int (67) Cy, .int (71) Cw, .int (73) Cv, .int (79) Cu, .int (83) Ct, .int (89) Cs, .int (97) Cr] nn2, ss2⟩)
    (z0 : W.nsIn K mainGlobals "len" = some none)    (z1 : W.nsIn K mainGlobals "tuple" = some none)    (z2 : W.nsIn K mainGlobals "list" = some none)    (z3 : W.nsIn K mainGlobals "abs" = some none)    (z4 : W.nsIn K mainGlobals "all" = some none)    (z5 : W.nsIn K mainGlobals "sum" = some none)    (z6 : W.nsIn K mainGlobals "isinstance" = some none)    (z7 : W.nsIn K mainGlobals "set" = some none)    (z8 : W.nsIn K mainGlobals "int" = some none)    (z9 : W.nsIn K mainGlobals "bool" = some none)    (z10 : W.nsIn K mainGlobals "str" = some none)    (z11 : W.nsIn K mainGlobals "range" = some none)    (z12 : W.nsIn K mainGlobals "zip" = some none)    (z13 : W.nsIn K mainGlobals "enumerate" = some none)    (z14 : W.nsIn K mainGlobals "any" = some none)    (z15 : W.nsIn K mainGlobals "sorted" = some none)    (z16 : W.nsIn K mainGlobals "min" = some none)    (z17 : W.nsIn K mainGlobals "max" = some none)    (z18 : W.nsIn K mainGlobals "reversed" = some none) :
    ∃ fd : FuncData, (∀ (s : Shared) (v : Value), BindsTo s fd ⟨[v], []⟩ [("_law_script", v)]) /\ ∀ base : Heap, K.In base -> base.Ns mainGlobals mg -> cH l.prog w K mg base fR 9 fa fd ["_law_script"] (jE K pN) := by
  have e := hfa.symm.trans (W.mg_of X G a52)
  cases e
  have hbl : ∀ n ∈ gO, mg n = none := aw (Pr := fun n => mg n = none) (W.mg_none_of X G z0) (aw (Pr := fun n => mg n = none) (W.mg_none_of X G z1) (aw (Pr := fun n => mg n = none) (W.mg_none_of X G z2) (aw (Pr := fun n => mg n = none) (W.mg_none_of X G z3) (aw (Pr := fun n => mg n = none) (W.mg_none_of X G z4) (aw (Pr := fun n => mg n = none) (W.mg_none_of X G z5) (aw (Pr := fun n => mg n = none) (W.mg_none_of X G z6) (aw (Pr := fun n => mg n = none) (W.mg_none_of X G z7) (aw (Pr := fun n => mg n = none) (W.mg_none_of X G z8) (aw (Pr := fun n => mg n = none) (W.mg_none_of X G z9) (aw (Pr := fun n => mg n = none) (W.mg_none_of X G z10) (aw (Pr := fun n => mg n = none) (W.mg_none_of X G z11) (aw (Pr := fun n => mg n = none) (W.mg_none_of X G z12) (aw (Pr := fun n => mg n = none) (W.mg_none_of X G z13) (aw (Pr := fun n => mg n = none) (W.mg_none_of X G z14) (aw (Pr := fun n => mg n = none) (W.mg_none_of X G z15) (aw (Pr := fun n => mg n = none) (W.mg_none_of X G z16) (aw (Pr := fun n => mg n = none) (W.mg_none_of X G z17) (aw (Pr := fun n => mg n = none) (W.mg_none_of X G z18) (ax)))))))))))))))))))
  have F40 := aZ (st := (af 40)) l40 c40 k40
  have b40 := F40.binds (ps := ["_law_script", "_law_k"]) fun _ _ _ _ _ _ us hl => by obtain ⟨x0, x1, rfl⟩ := fe hl; rfl
  have F46 := aZ (st := (af 46)) l46 c46 k46
  have b46 := F46.binds (ps := []) fun _ _ _ _ _ _ us hl => by cases Lq hl; rfl
  have F47 := aZ (st := (af 47)) l47 c47 k47
  have b47 := F47.binds (ps := ["_law_n"]) fun _ _ _ _ _ _ us hl => by obtain ⟨x0, rfl⟩ := ff hl; rfl
  have F44 := aZ (st := (af 44)) l44 c44 k44
  have b44 := F44.binds (ps := ["_law_one", "_law_other"]) fun _ _ _ _ _ _ us hl => by obtain ⟨x0, x1, rfl⟩ := fe hl; rfl
  have F48 := aZ (st := (af 48)) l48 c48 k48
  have b48 := F48.binds (ps := ["_law_script", "_law_begin", "_law_many"]) fun _ _ _ _ _ _ us hl => by obtain ⟨x0, x1, x2, rfl⟩ := jR hl; rfl
  have F49 := aZ (st := (af 49)) l49 c49 k49
  have b49 := F49.binds (ps := ["_law_four"]) fun _ _ _ _ _ _ us hl => by obtain ⟨x0, rfl⟩ := ff hl; rfl
  have F51 := aZ (st := (af 51)) l51 c51 k51
  have b51 := F51.binds (ps := ["_law_unit", "_law_parts"]) fun _ _ _ _ _ _ us hl => by obtain ⟨x0, x1, rfl⟩ := fe hl; rfl
  have F30 := aZ (st := (af 30)) l30 c30 k30
  have b30 := F30.binds (ps := ["one", "other"]) fun _ _ _ _ _ _ us hl => by obtain ⟨x0, x1, rfl⟩ := fe hl; rfl
  have F29 := aZ (st := (af 29)) l29 c29 k29
  have b29 := F29.binds (ps := ["numbers"]) fun _ _ _ _ _ _ us hl => by obtain ⟨x0, rfl⟩ := ff hl; rfl
  have F8 := aZ (st := (af 8)) l8 c8 k8
  have b8 := F8.binds (ps := ["thing"]) fun _ _ _ _ _ _ us hl => by obtain ⟨x0, rfl⟩ := ff hl; rfl
  have F9 := aZ (st := (af 9)) l9 c9 k9
  have b9 := F9.binds (ps := ["thing"]) fun _ _ _ _ _ _ us hl => by obtain ⟨x0, rfl⟩ := ff hl; rfl
  have F34 := aZ (st := (af 34)) l34 c34 k34
  have b34 := F34.binds (ps := ["four"]) fun _ _ _ _ _ _ us hl => by obtain ⟨x0, rfl⟩ := ff hl; rfl
  have F36 := aZ (st := (af 36)) l36 c36 k36
  have b36 := F36.binds (ps := ["order", "whole"]) fun _ _ _ _ _ _ us hl => by obtain ⟨x0, x1, rfl⟩ := fe hl; rfl
  have F17 := aZ (st := (af 17)) l17 c17 k17
  have b17 := F17.binds (ps := ["four"]) fun _ _ _ _ _ _ us hl => by obtain ⟨x0, rfl⟩ := ff hl; rfl
  have F21 := aZ (st := (af 21)) fN c21 k21
  have b21 := F21.binds (ps := ["side"]) fun _ _ _ _ _ _ us hl => by obtain ⟨x0, rfl⟩ := ff hl; rfl
  have F10 := aZ (st := (af 10)) l10 c10 k10
  have b10 := F10.binds (ps := ["one", "other"]) fun _ _ _ _ _ _ us hl => by obtain ⟨x0, x1, rfl⟩ := fe hl; rfl
  have F11 := aZ (st := (af 11)) l11 c11 k11
  have b11 := F11.binds (ps := ["one", "number"]) fun _ _ _ _ _ _ us hl => by obtain ⟨x0, x1, rfl⟩ := fe hl; rfl
  have F24 := aZ (st := (af 24)) l24 c24 k24
  have b24 := F24.binds (ps := ["four", "tried", "number"]) fun _ _ _ _ _ _ us hl => by obtain ⟨x0, x1, x2, rfl⟩ := jR hl; rfl
  have F23 := aZ (st := (af 23)) l23 c23 k23
  have b23 := F23.binds (ps := ["four", "number"]) fun _ _ _ _ _ _ us hl => by obtain ⟨x0, x1, rfl⟩ := fe hl; rfl
  have F14 := aZ (st := (af 14)) l14 c14 k14
  have b14 := F14.binds (ps := ["one", "other"]) fun _ _ _ _ _ _ us hl => by obtain ⟨x0, x1, rfl⟩ := fe hl; rfl
  have F15 := aZ (st := (af 15)) l15 c15 k15
  have b15 := F15.binds (ps := ["one", "other"]) fun _ _ _ _ _ _ us hl => by obtain ⟨x0, x1, rfl⟩ := fe hl; rfl
  have F22 := aZ (st := (af 22)) l22 c22 k22
  have b22 := F22.binds (ps := ["one", "other", "side"]) fun _ _ _ _ _ _ us hl => by obtain ⟨x0, x1, x2, rfl⟩ := jR hl; rfl
  have F16 := aZ (st := (af 16)) l16 c16 k16
  have b16 := F16.binds (ps := ["four"]) fun _ _ _ _ _ _ us hl => by obtain ⟨x0, rfl⟩ := ff hl; rfl
  have F19 := aZ (st := (af 19)) l19 c19 k19
  have b19 := F19.binds (ps := ["one", "other", "side"]) fun _ _ _ _ _ _ us hl => by obtain ⟨x0, x1, x2, rfl⟩ := jR hl; rfl
  have F20 := aZ (st := (af 20)) l20 c20 k20
  have b20 := F20.binds (ps := ["one", "other", "side"]) fun _ _ _ _ _ _ us hl => by obtain ⟨x0, x1, x2, rfl⟩ := jR hl; rfl
  have F26 := aZ (st := (af 26)) l26 c26 k26
  have b26 := F26.binds (ps := ["one", "other", "side"]) fun _ _ _ _ _ _ us hl => by obtain ⟨x0, x1, x2, rfl⟩ := jR hl; rfl
  have F35 := aZ (st := (af 35)) l35 c35 k35
  have b35 := F35.binds (ps := ["four", "order"]) fun _ _ _ _ _ _ us hl => by obtain ⟨x0, x1, rfl⟩ := fe hl; rfl
  have F41 := aZ (st := (af 41)) l41 c41 k41
  have b41 := F41.binds (ps := ["_law_x"]) fun _ _ _ _ _ _ us hl => by obtain ⟨x0, rfl⟩ := ff hl; rfl
  have F42 := aZ (st := (af 42)) l42 c42 k42
  have b42 := F42.binds (ps := ["_law_thing"]) fun _ _ _ _ _ _ us hl => by obtain ⟨x0, rfl⟩ := ff hl; rfl
  have F43 := aZ (st := (af 43)) l43 c43 k43
  have b43 := F43.binds (ps := ["_law_four"]) fun _ _ _ _ _ _ us hl => by obtain ⟨x0, rfl⟩ := ff hl; rfl
  have F50 := aZ (st := (af 50)) l50 c50 k50
  have b50 := F50.binds (ps := ["_law_telling", "_law_primes", "_law_four"]) fun _ _ _ _ _ _ us hl => by obtain ⟨x0, x1, x2, rfl⟩ := jR hl; rfl
  have F45 := aZ (st := (af 45)) l45 c45 k45
  have b45 := F45.binds (ps := ["_law_four"]) fun _ _ _ _ _ _ us hl => by obtain ⟨x0, rfl⟩ := ff hl; rfl
  have F32 := aZ (st := (af 32)) l32 c32 k32
  have b32 := F32.binds (ps := ["one", "other", "side"]) fun _ _ _ _ _ _ us hl => by obtain ⟨x0, x1, x2, rfl⟩ := jR hl; rfl
  have F38 := aZ (st := (af 38)) l38 c38 k38
  have b38 := F38.binds (ps := ["mine", "yours"]) fun _ _ _ _ _ _ us hl => by obtain ⟨x0, x1, rfl⟩ := fe hl; rfl
  have F37 := aZ (st := (af 37)) l37 c37 k37
  have b37 := F37.binds (ps := ["telling", "other"]) fun _ _ _ _ _ _ us hl => by obtain ⟨x0, x1, rfl⟩ := fe hl; rfl
  have F52 := aZ (st := (af 52)) l52 c52 k52
  refine ⟨W.fnOf "law" "law" (aL (af 52)) (al (af 52)) (ac (af 52)) .none DY EI Dg FF yD EL, fun s v => .of_eq rfl, fun base _ _ => ?_⟩
  have D40 : cv l.prog w K mg base 1 "_law_cell" jj := be F40 IZ (W.mg_of X G a40) b40 (by decide +kernel) (aY (ax) (ax) bw bv bt bo aF hbl) sK
  have D46 : cv l.prog w K mg base 1 "_law_units" ij := be F46 IS (W.mg_of X G a46) b46 (by decide +kernel) (aY (ax) (ax) bw bv bt bo aF hbl) dg.self
  have D47 : cv l.prog w K mg base 1 "_law_fours" kA := be F47 IR (W.mg_of X G a47) b47 (by decide +kernel) (aY (ax) (ax) bw bv bt bo aF hbl) dg.self
  have D44 : cv l.prog w K mg base 1 "_law_times" d6 := be F44 IU (W.mg_of X G a44) b44 (by decide +kernel) (aY (ax) (ax) bw bv bt bo aF hbl) rX
  have D48 : cv l.prog w K mg base 2 "_law_built" kB := be F48 IQ (W.mg_of X G a48) b48 (by decide +kernel) (aY (cL D46 (cL D40 (cL D47 (cL D44 (ax))))) (ax) bw bv bt bo aF hbl) dg.self
  have D49 : cv l.prog w K mg base 1 "_law_divisor" fL := be F49 IP (W.mg_of X G a49) b49 (by decide +kernel) (aY (ax) (ax) bw bv bt bo aF hbl) dg.self
  have D51 : cv l.prog w K mg base 2 "_law_cut" oH := be F51 IN (W.mg_of X G a51) b51 (by decide +kernel) (aY (cL D44 (cL D49 (ax))) (ax) bw bv bt bo aF hbl) dg.self
  have D30 : cv l.prog w K mg base 1 "shared_by" iz := be F30 Jf (W.mg_of X G a30) b30 (by decide +kernel) (aY (ax) (ax) bw bv bt bo aF hbl) dg.self
  have D29 : cv l.prog w K mg base 2 "common_divisor" dA := be F29 Jg (W.mg_of X G a29) b29 (by decide +kernel) (aY (cL D30 (ax)) (ax) bw bv bt bo aF hbl) jv
  have D8 : cv l.prog w K mg base 1 "is_whole" nM := be F8 N9 (W.mg_of X G a8) b8 (by decide +kernel) (aY (ax) (ax) bw bv bt bo aF hbl) dg.self
  have D9 : cv l.prog w K mg base 2 "is_four" kC := be F9 N8 (W.mg_of X G a9) b9 (by decide +kernel) (aY (cL D8 (ax)) (ax) bw bv bt bo aF hbl) dg.self
  have D34 : cv l.prog w K mg base 3 "whole_divisor" dP := be F34 Jd (W.mg_of X G a34) b34 (by decide +kernel) (aY (cL D29 (cL D9 (ax))) (aw (Pr := gT mg K) (dz (ns := [0, 0, 0, 0]) (W.mg_of X G g0) m0 (show 4 <= sizeLine by decide) (.cons ⟨_, rfl⟩ (.cons ⟨_, rfl⟩ (.cons ⟨_, rfl⟩ (.cons ⟨_, rfl⟩ (.nil)))))) (ax)) bw bv bt bo aF hbl) dg.self
  have D36 : cv l.prog w K mg base 1 "order_fault" fW := be F36 Jb (W.mg_of X G a36) b36 (by decide +kernel) (aY (ax) (aw (Pr := gT mg K) (dz (ns := [2, 3, 5, 7, 11, 13, 17, 19, 23, 29, 31, 37, 41, 43, 47, 53, 59, 61, 67, 71, 73, 79, 83, 89, 97]) (W.mg_of X G g2) m2 (show 25 <= sizeLine by decide) (.cons ⟨_, rfl⟩ (.cons ⟨_, rfl⟩ (.cons ⟨_, rfl⟩ (.cons ⟨_, rfl⟩ (.cons ⟨_, rfl⟩ (.cons ⟨_, rfl⟩ (.cons ⟨_, rfl⟩ (.cons ⟨_, rfl⟩ (.cons ⟨_, rfl⟩ (.cons ⟨_, rfl⟩ (.cons ⟨_, rfl⟩ (.cons ⟨_, rfl⟩ (.cons ⟨_, rfl⟩ (.cons ⟨_, rfl⟩ (.cons ⟨_, rfl⟩ (.cons ⟨_, rfl⟩ (.cons ⟨_, rfl⟩ (.cons ⟨_, rfl⟩ (.cons ⟨_, rfl⟩ (.cons ⟨_, rfl⟩ (.cons ⟨_, rfl⟩ (.cons ⟨_, rfl⟩ (.cons ⟨_, rfl⟩ (.cons ⟨_, rfl⟩ (.cons ⟨_, rfl⟩ (.nil))))))))))))))))))))))))))) (ax)) bw bv bt bo aF hbl) dg.self
  have D17 : cv l.prog w K mg base 1 "size" iT := be F17 Jo (W.mg_of X G a17) b17 (by decide +kernel) (aY (ax) (ax) bw bv bt bo aF hbl) w8
  have D21 : cv l.prog w K mg base 1 "refuse_no_side" cS := be F21 Jl (W.mg_of X G a21) b21 (by decide +kernel) (aY (ax) (ax) bw bv bt bo aF hbl) ju
  have D10 : cv l.prog w K mg base 1 "less" ky := be F10 Jt (W.mg_of X G a10) b10 (by decide +kernel) (aY (ax) (ax) bw bv bt bo aF hbl) w9
  have D11 : cv l.prog w K mg base 1 "many_times" gS := be F11 Js (W.mg_of X G a11) b11 (by decide +kernel) (aY (ax) (ax) bw bv bt bo aF hbl) nK
  have D24 : cv l.prog w K mg base 2 "strayed" km := be F24 Ji (W.mg_of X G a24) b24 (by decide +kernel) (aY (cL D17 (cL D10 (cL D11 (ax)))) (ax) bw bv bt bo aF hbl) rT
  have D23 : cv l.prog w K mg base 3 "nearest" ku := be F23 Jj (W.mg_of X G a23) b23 (by decide +kernel) (aY (cL D24 (ax)) (ax) bw bv bt bo aF hbl) rW
  have D14 : cv l.prog w K mg base 1 "plain_product" fi := be F14 Jr (W.mg_of X G a14) b14 (by decide +kernel) (aY (ax) (ax) bw bv bt bo aF hbl) kr
  have D15 : cv l.prog w K mg base 2 "product" ig := be F15 Jq (W.mg_of X G a15) b15 (by decide +kernel) (aY (cL D14 (ax)) (ax) bw bv bt bo aF hbl) rV
  have D22 : cv l.prog w K mg base 3 "beside" jk := be F22 Jk (W.mg_of X G a22) b22 (by decide +kernel) (aY (cL D15 (ax)) (ax) bw bv bt bo aF hbl) sL
  have D16 : cv l.prog w K mg base 1 "other_signed" fG := be F16 Jp (W.mg_of X G a16) b16 (by decide +kernel) (aY (ax) (ax) bw bv bt bo aF hbl) lE
  have D19 : cv l.prog w K mg base 4 "divided" ii := be F19 Jn (W.mg_of X G a19) b19 (by decide +kernel) (aY (cL D21 (cL D23 (cL D22 (cL D17 (cL D10 (cL D16 (ax))))))) (aw (Pr := gT mg K) (dz (ns := [0, 0, 0, 0]) (W.mg_of X G g0) m0 (show 4 <= sizeLine by decide) (.cons ⟨_, rfl⟩ (.cons ⟨_, rfl⟩ (.cons ⟨_, rfl⟩ (.cons ⟨_, rfl⟩ (.nil)))))) (ax)) bw bv bt bo aF hbl) rY
  have D20 : cv l.prog w K mg base 5 "exact" e8 := be F20 Jm (W.mg_of X G a20) b20 (by decide +kernel) (aY (cL D19 (ax)) (aw (Pr := gT mg K) (dz (ns := [0, 0, 0, 0]) (W.mg_of X G g0) m0 (show 4 <= sizeLine by decide) (.cons ⟨_, rfl⟩ (.cons ⟨_, rfl⟩ (.cons ⟨_, rfl⟩ (.cons ⟨_, rfl⟩ (.nil)))))) (ax)) bw bv bt bo aF hbl) u8
  have D26 : cv l.prog w K mg base 5 "greatest" ge := be F26 Jh (W.mg_of X G a26) b26 (by decide +kernel) (aY (cL D21 (cL D19 (cL D10 (cL D22 (ax))))) (aw (Pr := gT mg K) (dz (ns := [2, 0, 0, 0]) (W.mg_of X G g1) m1 (show 4 <= sizeLine by decide) (.cons ⟨_, rfl⟩ (.cons ⟨_, rfl⟩ (.cons ⟨_, rfl⟩ (.cons ⟨_, rfl⟩ (.nil)))))) (aw (Pr := gT mg K) (dz (ns := [0, 0, 0, 0]) (W.mg_of X G g0) m0 (show 4 <= sizeLine by decide) (.cons ⟨_, rfl⟩ (.cons ⟨_, rfl⟩ (.cons ⟨_, rfl⟩ (.cons ⟨_, rfl⟩ (.nil)))))) (ax))) bw bv bt bo aF hbl) pA
  have D35 : cv l.prog w K mg base 6 "taken_apart" fV := Ee (BF (pre := (al (af 35)).take 7) (post := (al (af 35)).drop 8) F35 Jc (aY (cL D34 (cL D36 (cL D17 (cL D20 (cL D26 (ax)))))) (ax) bw bv bt bo aF hbl) rfl rfl rfl rfl rfl) (W.mg_of X G a35) k35 b35 (by decide +kernel)
  have D41 : cv l.prog w K mg base 1 "_law_whole" pj := be F41 IY (W.mg_of X G a41) b41 (by decide +kernel) (aY (ax) (ax) bw bv bt bo aF hbl) dg.self
  have D42 : cv l.prog w K mg base 2 "_law_is_four" fK := be F42 IW (W.mg_of X G a42) b42 (by decide +kernel) (aY (cL D41 (ax)) (ax) bw bv bt bo aF hbl) dg.self
  have D43 : cv l.prog w K mg base 1 "_law_size" mr := be F43 IV (W.mg_of X G a43) b43 (by decide +kernel) (aY (ax) (ax) bw bv bt bo aF hbl) sJ
  have D50 : cv l.prog w K mg base 3 "_law_telling_well" eV := be F50 IO (W.mg_of X G a50) b50 (by decide +kernel) (aY (cL D44 (cL D42 (cL D43 (ax)))) (ax) bw bv bt bo aF hbl) dg.self
  have D45 : cv l.prog w K mg base 1 "_law_bar" lr := be F45 IT (W.mg_of X G a45) b45 (by decide +kernel) (aY (ax) (ax) bw bv bt bo aF hbl) u7
  have D32 : cv l.prog w K mg base 6 "mate_by" kz := be F32 Je (W.mg_of X G a32) b32 (by decide +kernel) (aY (cL D21 (cL D20 (cL D17 (ax)))) (aw (Pr := gT mg K) (dz (ns := [0, 0, 0, 0]) (W.mg_of X G g0) m0 (show 4 <= sizeLine by decide) (.cons ⟨_, rfl⟩ (.cons ⟨_, rfl⟩ (.cons ⟨_, rfl⟩ (.cons ⟨_, rfl⟩ (.nil)))))) (ax)) bw bv bt bo aF hbl) dg.self
  have D38 : cv l.prog w K mg base 7 "moved_one" iA := be F38 I0 (W.mg_of X G a38) b38 (by decide +kernel) (aY (cL D32 (ax)) (aw (Pr := gT mg K) (dz (ns := [0, 0, 0, 0]) (W.mg_of X G g0) m0 (show 4 <= sizeLine by decide) (.cons ⟨_, rfl⟩ (.cons ⟨_, rfl⟩ (.cons ⟨_, rfl⟩ (.cons ⟨_, rfl⟩ (.nil)))))) (ax)) bw bv bt bo aF hbl) dg.self
  have D37 : cv l.prog w K mg base 8 "moved_ones" d7 := be F37 Ja (W.mg_of X G a37) b37 (by decide +kernel) (aY (cL D38 (cL D15 (ax))) (aw (Pr := gT mg K) (dz (ns := [2, 0, 0, 0]) (W.mg_of X G g1) m1 (show 4 <= sizeLine by decide) (.cons ⟨_, rfl⟩ (.cons ⟨_, rfl⟩ (.cons ⟨_, rfl⟩ (.cons ⟨_, rfl⟩ (.nil)))))) (ax)) bw bv bt bo aF hbl) dg.self
  exact tS F52 IM (aY (cL D40 (cL D48 (cL D51 (cL D35 (cL D50 (cL D44 (cL D45 (cL D37 (cL D46 (ax)))))))))) (ax) bw bv bt bo aF hbl) dg.self
theorem walkX {q : Program} {loose : List Str} {XP : (Str -> Option Value) -> Heap -> Prop} {r : W.RowW} {d : DefRec} {kwd : List (Str × Expr)} {run : Value -> List Value -> Sem Value} {K : Params -> W.Frag} {as : List Addr} {n t : Nat}
    (e : ∀ P, as = (K P).map (·.1)) (h : W.WalkO q loose XP (W.InK K) r d kwd run) : W.WalkX q loose XP (W.X.obsZ as) (W.X.valZ K n t) r d kwd run :=
  fun w _ _ mg mb G y a o pm cd doc dV kV h1 h2 h3 h4 h5 h6 args vals as' L =>
    h w _ _ mg mb G (W.InK.keeps w _ _ (W.X.z_facts e y).2.1 L.keeps) a o pm cd doc dV kV h1 h2 h3 h4 h5 h6 args vals as'
theorem walk {l : W.OpenLaw} {q : Program} {loose : List Str} {XP : (Str -> Option Value) -> Heap -> Prop} {YP : World -> Heap -> Prop} {d : DefRec} {K : Params -> W.Frag} (hn : l.most = some 63) (hdf : d.params.defaults = [])
    (hY : ∀ (w : World) (h : Heap), YP w h -> (K w.params).In h)
    (F : ∀ (w : World) (mg : Str -> Option Value) (fa : Addr) (h : Heap), (K w.params).In h -> h.Ns mainGlobals mg -> mg d.name = some (.ref fa) ->
      ∃ fd : FuncData, (∀ (s : Shared) (u : Value), BindsTo s fd ⟨[u], []⟩ [("_law_script", u)]) /\ ∀ base : Heap, (K w.params).In base -> base.Ns mainGlobals mg -> cH l.prog w (K w.params) mg base fR 9 fa fd ["_law_script"] (jE (K w.params) pN)) :
    W.WalkO q loose XP YP l.row.toRowW d [] (fun f vs => PySem.call f vs) :=
  L2.walk_of (n := 63) (k := 9) (x := "_law_script") (CX := fun _ => fR) (sp := fun w => jE (K w.params) pN) hn (by decide) hdf ⟨rfl, by decide, by decide⟩ hY F (fun _ _ a ns hl hO hS => Eb hO hS (ya ns hl)) fun _ _ _ _ _ z => z
end K
theorem PySem.W.Fast.tw15587779083138429926 : True := True.intro
theorem PySem.W.Fast.tw15187914850918820536 : True := True.intro
theorem PySem.W.Fast.tw4763970875750209296 : True := True.intro
theorem PySem.W.Fast.tw8221956896653654206 : True := True.intro
theorem PySem.W.Fast.tw13670866375426868325 : True := True.intro
theorem PySem.W.Fast.tw11767830738452598559 : True := True.intro
theorem PySem.W.Fast.tw1144716177217929600 : True := True.intro
theorem PySem.W.Fast.tw10184615549338351395 : True := True.intro
theorem PySem.W.Fast.tw13973919168462605870 : True := True.intro
theorem PySem.W.Fast.tw2746244408420846646 : True := True.intro
theorem PySem.W.Fast.tw3539911800909590539 : True := True.intro
theorem PySem.W.Fast.tw10646631478345409021 : True := True.intro
theorem PySem.W.Fast.tw13404363221630258421 : True := True.intro
theorem PySem.W.Fast.tw15413124040181793902 : True := True.intro
theorem PySem.W.Fast.tw6791243642462743366 : True := True.intro
theorem PySem.W.Fast.tw4864845905222786995 : True := True.intro
theorem PySem.W.Fast.tw13107255298195781797 : True := True.intro
theorem PySem.W.Fast.tw15585111652315769151 : True := True.intro
theorem PySem.W.Fast.tw15496886138948927572 : True := True.intro
theorem PySem.W.Fast.tw547347090881707376 : True := True.intro
theorem PySem.W.Fast.tw3787870523392476344 : True := True.intro
theorem PySem.W.Fast.tw1985195691500672548 : True := True.intro
theorem PySem.W.Fast.tw804938211253464125 : True := True.intro
theorem PySem.W.Fast.tw261694534682771930 : True := True.intro
theorem PySem.W.Fast.tw14854857482126786076 : True := True.intro
theorem PySem.W.Fast.tw17897230335718242071 : True := True.intro
theorem PySem.W.Fast.tw10469657159935041323 : True := True.intro
theorem PySem.W.Fast.tw16483867268511471835 : True := True.intro
theorem PySem.W.Fast.tw17310723110721940916 : True := True.intro
theorem PySem.W.Fast.tw9141733359153294023 : True := True.intro
theorem PySem.W.Fast.tw3569608523774830698 : True := True.intro
theorem PySem.W.Fast.tw14688948299391973504 : True := True.intro
theorem PySem.W.Fast.tw7081209080300981741 : True := True.intro
theorem PySem.W.Fast.tw14406024119671296704 : True := True.intro
theorem PySem.W.Fast.tw17360975537347180351 : True := True.intro
theorem PySem.W.Fast.tw2754701466169059267 : True := True.intro
theorem PySem.W.Fast.tw11873532125844505933 : True := True.intro
theorem PySem.W.Fast.tw10346495737669762542 : True := True.intro
theorem PySem.W.Fast.tw7296242713868996090 : True := True.intro
theorem PySem.W.Fast.tw6793466350154318138 : True := True.intro
theorem PySem.W.Fast.tw13820887346617846067 : True := True.intro
theorem PySem.W.Fast.tw11695097269492595715 : True := True.intro
theorem PySem.W.Fast.tw16027958448329263806 : True := True.intro
theorem PySem.W.Fast.tw10083338473705939429 : True := True.intro
theorem PySem.W.Fast.tw6164458970643841823 : True := True.intro
theorem PySem.W.Fast.tw4499342878516316254 : True := True.intro
theorem PySem.W.Fast.tw17485155314313116880 : True := True.intro
theorem PySem.W.Fast.tw6685618854715771887 : True := True.intro
theorem PySem.W.Fast.tw4337300240528705081 : True := True.intro
theorem PySem.W.Fast.tw4900060476603849301 : True := True.intro
theorem PySem.W.Fast.tw6299809277869324569 : True := True.intro
theorem PySem.W.Fast.tw6107769364715257546 : True := True.intro
theorem PySem.W.Fast.tw7348725404518126742 : True := True.intro
theorem PySem.W.Fast.tw1113412397780819100 : True := True.intro
theorem PySem.W.Fast.tw377809751054171428 : True := True.intro
theorem PySem.W.Fast.tw17885864727152049268 : True := True.intro
theorem PySem.W.Fast.tw13109765567813625833 : True := True.intro
theorem PySem.W.Fast.tw2083336481615070459 : True := True.intro
theorem PySem.W.Fast.tw15011686598590600502 : True := True.intro
theorem PySem.W.Fast.tw4819168859683010748 : True := True.intro
theorem PySem.W.Fast.tw5460846318245009117 : True := True.intro
theorem PySem.W.Fast.tw16042946210124064747 : True := True.intro
theorem PySem.W.Fast.tw7130565432549053018 : True := True.intro
theorem PySem.W.Fast.tw7637729120640870229 : True := True.intro
theorem PySem.W.Fast.tw3141609615888607722 : True := True.intro
open PySem PySem.W PyProof.Rows
set_option maxRecDepth 100000 in
set_option maxHeartbeats 0 in
theorem PySem.Challenge.cw_spaceturns_k24_one_order_one_way_holds : PySem.Challenge.rw_spaceturns_k24_one_order_one_way.Holds := by
  w_on; o_law; z_head; (case hw => w_witness2)
  k_fill
  refine K.walkX (fun _ => rfl) (K.walk (l := PySem.Challenge.rw_spaceturns_k24_one_order_one_way) rfl rfl (fun w h Y => Y) ?F)
  case F =>
    intro w mg fa h KX G hmg
    refine' K.all_mk KX G hmg ?_ ?_ ?_ ?_ ?_ ?_ ?_ ?_ ?_ ?_ ?_ ?_ ?_ ?_ ?_ ?_ ?_ ?_ ?_ ?_ ?_ ?_ ?_ ?_ ?_ ?_ ?_ ?_ ?_ ?_ ?_ ?_ ?_ ?_ ?_ ?_ ?_ ?_ ?_ ?_ ?_ ?_ ?_ ?_ ?_ ?_ ?_ ?_ ?_ ?_ ?_ ?_ ?_ ?_ ?_ ?_ ?_ ?_ ?_ ?_ ?_ ?_ ?_ ?_ ?_ ?_ ?_ ?_ ?_ ?_ ?_ ?_ ?_ ?_ ?_ ?_ ?_ ?_ ?_ ?_ ?_ ?_ ?_ ?_ ?_ ?_ ?_ ?_ ?_ ?_ ?_ ?_ ?_ ?_ ?_ ?_ ?_ ?_ ?_ ?_ ?_ ?_ ?_ ?_ ?_ ?_ ?_ ?_ ?_ ?_ ?_ ?_ ?_ ?_ ?_ ?_ ?_ ?_ ?_ ?_ ?_ ?_ ?_ ?_ ?_ ?_ ?_ ?_ ?_ ?_ ?_ ?_ ?_ ?_ ?_ ?_ ?_ ?_ ?_ ?_ ?_ ?_ ?_ ?_ ?_ ?_ ?_ ?_ ?_ ?_ ?_ ?_ ?_ ?_ ?_ ?_ ?_ ?_ ?_ ?_ ?_ ?_ ?_ ?_ ?_ ?_ ?_ ?_ ?_
    all_goals try first | k_is | kernel_rfl
