import PyProof.Rows.All
import Wide.All
import OpenK.AllK
import Wide.FinOn
import Lean
import PyProof.EqAt
import PyProof.EqKinds
import PyProof.TupleCall
import PySem.Challenge.RW_spaceturns_k36_turns_as_deeds
set_option Elab.async false
set_option linter.all false
set_option maxRecDepth 100000
namespace L2
open PySem PySem.Spec PyProof.Rows
abbrev fx := Sum Int Str
def xg : fx -> Value -> Bool
  | .inl k, v => Value.isInt k v
  | .inr x, v => Value.isStrOf x v
def Ey (w : World) : fx -> Int
  | .inl k => hashInt k
  | .inr x => hashStr w x
theorem cE : ∀ {k : fx} {v : Value}, xg k v = true -> (∃ i t, k = Sum.inl i /\ v = Value.int i t) \/ (∃ x t, k = Sum.inr x /\ v = Value.str x t)
  | .inl i, v, h => by
    obtain ⟨t, e⟩ := Value.isInt_shape (k := i) (v := v) h
    exact .inl ⟨i, t, rfl, e⟩
  | .inr x, v, h => by
    obtain ⟨t, e⟩ := Value.isStrOf_shape (x := x) (v := v) h
    exact .inr ⟨x, t, rfl, e⟩
theorem Bt (a b : Int) : decide ((Sum.inl a : fx) = Sum.inl b) = (a == b) := by
  by_cases e : a = b
  . subst e; simp
  . have h : ¬ (Sum.inl a : fx) = Sum.inl b := fun q => e (Sum.inl.inj q)
    rw [decide_eq_false h]
    exact (beq_eq_false_iff_ne.mpr e).symm
theorem Bq (a b : Str) : decide ((Sum.inr a : fx) = Sum.inr b) = decide (a = b) := by
  by_cases e : a = b
  . subst e; simp
  . have h : ¬ (Sum.inr a : fx) = Sum.inr b := fun q => e (Sum.inr.inj q)
    rw [decide_eq_false h, decide_eq_false e]
theorem Bs (a : Int) (b : Str) : decide ((Sum.inl a : fx) = Sum.inr b) = false := decide_eq_false (fun q => nomatch q)
theorem Br (a : Str) (b : Int) : decide ((Sum.inr a : fx) = Sum.inl b) = false := decide_eq_false (fun q => nomatch q)
def qY (prog : Program) (w : World) : PySem.KeyKind prog w fx where
  is := xg
  hash := Ey w
  inj := fun v a b ha hb => by
    rcases cE ha with ⟨i, t, rfl, rfl⟩ | ⟨x, t, rfl, rfl⟩
    . rcases cE hb with ⟨j, u, rfl, e⟩ | ⟨y, u, rfl, e⟩
      . injection e with e1 _; rw [e1]
      . exact nomatch e
    . rcases cE hb with ⟨j, u, rfl, e⟩ | ⟨y, u, rfl, e⟩
      . exact nomatch e
      . injection e with e1 _; rw [e1]
  byValue := fun k v h => by
    rcases cE h with ⟨i, t, rfl, rfl⟩ | ⟨x, t, rfl, rfl⟩ <;> rfl
  pyHash := fun hv h => by
    rcases cE hv with ⟨i, t, rfl, rfl⟩ | ⟨x, t, rfl, rfl⟩
    . exact wpAny_pyHash_int h
    . exact wpAny_pyHash_str h
  eqBool := fun hu hv h => by
    rcases cE hu with ⟨i, t, rfl, rfl⟩ | ⟨x, t, rfl, rfl⟩
    . rcases cE hv with ⟨j, u, rfl, rfl⟩ | ⟨y, u, rfl, rfl⟩
      . rw [Bt] at h; exact wpAny_eqBool_int h
      . rw [Bs] at h; exact SeqAt.EqAt.int_str i t y u _ _ _ _ h
    . rcases cE hv with ⟨j, u, rfl, rfl⟩ | ⟨y, u, rfl, rfl⟩
      . rw [Br] at h; exact SeqAt.EqAt.str_int x t j u _ _ _ _ h
      . rw [Bq] at h; exact wpAny_eqBool_str h
  «strs» := fun k x t v h => by
    rcases cE h with ⟨i, u, rfl, e⟩ | ⟨y, u, rfl, e⟩
    . exact nomatch e
    . injection e with e1 _
      subst e1
      cases v <;> rfl
end L2
namespace L2
open PySem PySem.Spec PyProof.Rows
inductive V where
  | non | bl (b : Bool) | int (i : Int) | str (x : Str) | byt (b : Array UInt8) | flt (b : UInt64) | ref (a : Addr) | ty (n : String)
  deriving DecidableEq
def bi : V -> Value -> Prop
  | .non, u => u = Value.none
  | .bl b, u => u = Value.bool b
  | .int i, u => ∃ t, u = Value.int i t
  | .str x, u => ∃ t, u = Value.str x t
  | .byt b, u => ∃ t, u = Value.bytes b t
  | .flt b, u => ∃ t, u = Value.float b t
  | .ref a, u => u = Value.ref a
  | .ty n, u => u = Value.type n
abbrev aJ : List V -> List Value -> Prop := Paired bi
theorem aJ.length {xs : List V} {us : List Value} (r : aJ xs us) : xs.length = us.length := Paired.length r
theorem aJ.get : ∀ {xs : List V} {us : List Value} {i : Nat} {x : V}, aJ xs us -> xs[i]? = some x -> ∃ u, us[i]? = some u /\ bi x u
  | _, _, _, _, .nil, e => by simp at e
  | _, _, 0, _, .cons r _, e => by simp at e; subst e; exact ⟨_, rfl, r⟩
  | _, _, i + 1, x, .cons _ t, e => by
    obtain ⟨u, h1, h2⟩ := aJ.get (i := i) (x := x) t (by simpa using e)
    exact ⟨u, by simpa using h1, h2⟩
theorem aJ.set {x : V} {u : Value} (r : bi x u) : ∀ {xs : List V} {us : List Value} (i : Nat), aJ xs us -> aJ (xs.set i x) (us.set i u)
  | _, _, _, .nil => .nil
  | _, _, 0, .cons _ t => .cons r t
  | _, _, i + 1, .cons q t => .cons q (aJ.set r i t)
theorem aJ.append : ∀ {xs ys : List V} {us ws : List Value}, aJ xs us -> aJ ys ws -> aJ (xs ++ ys) (us ++ ws)
  | _, _, _, _, .nil, s => s
  | _, _, _, _, .cons r t, s => .cons r (aJ.append t s)
theorem aJ.take : ∀ {xs : List V} {us : List Value} (n : Nat), aJ xs us -> aJ (xs.take n) (us.take n)
  | _, _, 0, _ => .nil
  | _, _, _ + 1, .nil => .nil
  | _, _, n + 1, .cons r t => .cons r (aJ.take n t)
theorem aJ.drop : ∀ {xs : List V} {us : List Value} (n : Nat), aJ xs us -> aJ (xs.drop n) (us.drop n)
  | _, _, 0, r => r
  | _, _, _ + 1, .nil => .nil
  | _, _, n + 1, .cons _ t => aJ.drop n t
theorem aJ.none_of : ∀ {xs : List V} {us : List Value} {i : Nat}, aJ xs us -> xs[i]? = none -> us[i]? = none := fun {xs us i} r e => by
  have h1 := r.length
  have h2 : xs.length <= i := List.getElem?_eq_none_iff.mp e
  exact List.getElem?_eq_none_iff.mpr (by omega)
def ik : Option V -> Option Value -> Prop
  | some v, some u => bi v u
  | none, none => True
  | _, _ => False
def KV {κ : Type} : List (κ × V) -> List (κ × Value) -> Prop := Paired fun (p : κ × V) (q : κ × Value) => p.1 = q.1 /\ bi p.2 q.2
def kV : fx -> V
  | .inl i => .int i
  | .inr x => .str x
inductive HO where
    | lst (xs : List V)
    | tup (xs : List V)
    | dK (kvs : List (fx × V)) | dT (kvs : List (List fx × V))
    | set (S : Int -> Bool) (n : Nat)
    | ins (C dx : Addr) (fs : List (Str × V))
    | own (x : Addr)
    | xd (fs : List (Str × V))
    | met (f x : Addr)
    | rng (lo hi : Int)
    | frz (o : Obj) (u : HO)
    | tbl (ps : Array Value)
    | ext (φ : Heap -> Prop)
abbrev Hp := Addr -> Option HO
def be (H : Hp) (a : Addr) (o : HO) : Hp := fun b => if b = a then some o else H b
theorem aS {H : Hp} {a : Addr} {o : HO} : be H a o a = some o := by unfold be; rw [if_pos rfl]
theorem aG {H : Hp} {a b : Addr} {o : HO} (h : b ≠ a) : be H a o b = H b := by unfold be; rw [if_neg h]
theorem qL {H : Hp} {a : Addr} {o u : HO} : be (be H a o) a u = be H a u := by
  funext b; unfold be; split <;> rfl
theorem iL {H : Hp} {a b : Addr} {o u : HO} (h : H a = some o) (h' : H b = some u) (d : o ≠ u) : a ≠ b := by
  intro e; subst e; rw [h] at h'; exact d (Option.some.inj h')
theorem bg {H : Hp} {a b : Addr} {o : HO} (h : H a = some o) (h' : H b = none) : a ≠ b := by
  intro e; subst e; rw [h] at h'; cases h'
section
variable (P : Program) (w : World)
def cf (H : Hp) (h : Heap) (a : Addr) : HO -> Prop
  | .lst xs => xs.length <= sizeLine /\ ∃ (its : List Value) (n : Nat), aJ xs its /\ h.get? a = some { cls := .type "list", data := .seq its.toArray n }
  | .tup xs => xs.length <= sizeLine /\ ∃ its : List Value, aJ xs its /\ IsTup h a its.toArray
  | .dK kvs => kvs.length <= sizeLine /\ (a == sysModules) = false /\ ∃ vs, KV kvs vs /\ h.DictOf (qY P w) a vs
  | .dT kvs => kvs.length <= sizeLine /\ (a == sysModules) = false /\ ∃ xs : List (List fx × Addr × Value),
      Paired (fun (p : List fx × V) (q : List fx × Addr × Value) => p.1 = q.1 /\ H q.2.1 = some (.tup (p.1.map kV)) /\ bi p.2 q.2.2) kvs xs /\
      ∃ o es ep, h.get? a = some o /\ o.ExactDict /\ o.data = .dict es ep /\ es.toList = xs.map (entryOfKey (tupleKind (qY P w))) /\ (xs.map (·.1)).Nodup
  | .set S n => h.SetOf (intKind P w) a S n
  | .ins C dx fs => H dx = some (.own a) /\ fs.length <= 1000 /\ dx ≠ a /\ h.get? a = some (W.instObj C dx) /\
      ∃ mA, h.Ns1 dx mA /\ (∀ f, ik (fs.lookup f) (mA f)) /\ PySem.Within mA (fs.map (·.1))
  | .own _ => ∃ o, h.get? a = some o
  | .xd fs => ∃ mA, h.Ns1 a mA /\ ∀ f, ik (fs.lookup f) (mA f)
  | .rng lo hi => ∃ t u v, h.get? a = some { cls := .type "range", data := .fields #[.int lo t, .int hi u, .int 1 v] }
  | .frz o u => h.get? a = some o /\ cf H h a u
  | .tbl ps => h.get? a = some { cls := .none, data := .fields ps }
  | .met f x => h.get? a = some (W.methodObj (.ref f) (.ref x))
  | .ext φ => φ h /\ (∃ o, h.get? a = some o) /\ ∀ h1 h2 : Heap, φ h1 -> (∀ o, h1.get? a = some o -> h2.get? a = some o) -> φ h2
def di (H : Hp) (h : Heap) : Prop := ∀ a o, H a = some o -> cf P w H h a o
end
section
variable {P : Program} {w : World} {H H' : Hp} {h h' : Heap} {a : Addr} {o : HO}
theorem cf.lt (x : cf P w H h a o) : a < h.objs.size := by
  cases o with
  | lst xs => obtain ⟨_, _, _, _, e⟩ := x; exact Heap.lt_size e
  | tup xs => obtain ⟨_, _, _, p⟩ := x; exact p.lt
  | dK kvs => obtain ⟨_, _, _, _, o, _, _, e, _⟩ := x; exact Heap.lt_size e
  | dT kvs => obtain ⟨_, _, _, _, o, _, _, e, _⟩ := x; exact Heap.lt_size e
  | set S n => obtain ⟨o, _, _, _, e, _⟩ := x; exact Heap.lt_size e
  | ins C dx fs => obtain ⟨_, _, _, e, _⟩ := x; exact Heap.lt_size e
  | own y => obtain ⟨_, e⟩ := x; exact Heap.lt_size e
  | xd fs => obtain ⟨_, ⟨_, _, _, e, _⟩, _⟩ := x; exact Heap.lt_size e
  | rng lo hi => obtain ⟨_, _, _, e⟩ := x; exact Heap.lt_size e
  | frz ob u => obtain ⟨e, _⟩ := x; exact Heap.lt_size e
  | tbl ps => exact Heap.lt_size (show h.get? a = some _ from x)
  | met f y => exact Heap.lt_size (show h.get? a = some _ from x)
  | ext φ => obtain ⟨_, ⟨_, e⟩, _⟩ := x; exact Heap.lt_size e
theorem Paired.mapP {α β : Type} {F G : α -> β -> Prop} : ∀ {l₁ : List α} {l₂ : List β}, Paired F l₁ l₂ -> (∀ a b, F a b -> G a b) -> Paired G l₁ l₂
  | _, _, .nil, _ => .nil
  | _, _, .cons r t, f => .cons (f _ _ r) (Paired.mapP t f)
theorem cf.stay (x : cf P w H h a o) (k : ∀ b u, (b = a \/ H b = some (.own a)) -> h.get? b = some u -> h'.get? b = some u)
    (ho : ∀ b, H b = some (.own a) -> H' b = some (.own a)) (ht : ∀ b xs, H b = some (.tup xs) -> H' b = some (.tup xs)) : cf P w H' h' a o := by
  induction o with
  | lst xs => obtain ⟨z, its, n, r, e⟩ := x; exact ⟨z, its, n, r, k _ _ (.inl rfl) e⟩
  | tup xs => obtain ⟨z, its, r, ob, e, c⟩ := x; exact ⟨z, its, r, ob, k _ _ (.inl rfl) e, c⟩
  | dK kvs => obtain ⟨z, y, vs, r, ob, es, ep, e, c⟩ := x; exact ⟨z, y, vs, r, ob, es, ep, k _ _ (.inl rfl) e, c⟩
  | dT kvs =>
    obtain ⟨z, y, xs, r, ob, es, ep, e, c⟩ := x
    exact ⟨z, y, xs, Paired.mapP r fun p q z => ⟨z.1, ht _ _ z.2.1, z.2.2⟩, ob, es, ep, k _ _ (.inl rfl) e, c⟩
  | set S n => obtain ⟨ob, es, ep, t, e, c⟩ := x; exact ⟨ob, es, ep, t, k _ _ (.inl rfl) e, c⟩
  | ins C dx fs =>
    obtain ⟨d, z, ne, e, mA, ⟨od, es, ep, e2, c⟩, r⟩ := x
    exact ⟨ho _ d, z, ne, k _ _ (.inl rfl) e, mA, ⟨od, es, ep, k _ _ (.inr d) e2, c⟩, r⟩
  | own y => obtain ⟨ob, e⟩ := x; exact ⟨ob, k _ _ (.inl rfl) e⟩
  | xd fs => obtain ⟨mA, ⟨od, es, ep, e, c⟩, r⟩ := x; exact ⟨mA, ⟨od, es, ep, k _ _ (.inl rfl) e, c⟩, r⟩
  | rng lo hi => obtain ⟨t, u, v, e⟩ := x; exact ⟨t, u, v, k _ _ (.inl rfl) e⟩
  | frz ob u ih => obtain ⟨e, q⟩ := x; exact ⟨k _ _ (.inl rfl) e, ih q⟩
  | tbl ps =>
    have e : h.get? a = some { cls := .none, data := .fields ps } := x
    show h'.get? a = some { cls := .none, data := .fields ps }
    exact k a _ (.inl rfl) e
  | met f y =>
    have e : h.get? a = some (W.methodObj (.ref f) (.ref y)) := x
    show h'.get? a = some (W.methodObj (.ref f) (.ref y))
    exact k a _ (.inl rfl) e
  | ext φ => obtain ⟨p, ⟨o, e⟩, st⟩ := x; exact ⟨st _ _ p fun o q => k _ _ (.inl rfl) q, ⟨o, k _ _ (.inl rfl) e⟩, st⟩
theorem di.lt (x : di P w H h) (e : H a = some o) : a < h.objs.size := (x a o e).lt
theorem di.fresh (x : di P w H h) (e : h.objs.size <= a) : H a = none := by
  cases q : H a with
  | none => rfl
  | some u => exact absurd (Nat.lt_of_lt_of_le (x.lt q) e) (Nat.lt_irrefl _)
theorem di.kept (x : di P w H h) (k : ∀ b u, h.get? b = some u -> h'.get? b = some u) : di P w H h' := fun a o e =>
  (x a o e).stay (fun b u _ q => k b u q) (fun _ q => q) fun _ _ q => q
theorem di.laid (x : di P w H h) (k : ∀ b u, h.get? b = some u -> h'.get? b = some u) (hp : h.objs.size <= a) (new : cf P w (be H a o) h' a o) : di P w (be H a o) h' := fun b u e => by
  have hn := x.fresh hp
  by_cases hb : b = a
  . subst hb; rw [aS] at e; cases e; exact new
  . rw [aG hb] at e
    exact (x b u e).stay (fun c v _ q => k c v q) (fun c q => by rw [aG (bg q hn)]; exact q) fun c xs q => by rw [aG (bg q hn)]; exact q
end
def Rd (H : Hp) (a : Addr) (u : HO) : Prop := H a = some u \/ ∃ o, H a = some (.frz o u)
theorem Rd.ok {P : Program} {w : World} {H : Hp} {h : Heap} {a : Addr} {u : HO} (r : Rd H a u) (x : di P w H h) : cf P w H h a u := by
  rcases r with r | ⟨o, r⟩
  . exact x a u r
  . obtain ⟨_, q⟩ := x a _ r
    exact q
def xF : Option HO -> Prop
  | some (.lst _) => True
  | some (.dK _) => True
  | some (.dT _) => True
  | some (.set _ _) => True
  | some (.ins _ _ _) => True
  | some (.ext _) => True
  | _ => False
section
variable {P : Program} {w : World} {H : Hp} {h h' : Heap} {x e : Addr} {o' : HO}
theorem di.write (ok : di P w H h) (mu : xF (H x)) (he : e = x \/ H e = some (.own x)) (k : ∀ b u, b ≠ e -> h.get? b = some u -> h'.get? b = some u) (heo : ∃ u, h'.get? e = some u)
    (new : cf P w (be H x o') h' x o') : di P w (be H x o') h' := fun b u q => by
  have nown : ∀ c y, H c = some (.own y) -> c ≠ x := fun c y r z => by subst z; rw [r] at mu; exact mu
  have ntup : ∀ c xs, H c = some (.tup xs) -> c ≠ x := fun c xs r z => by subst z; rw [r] at mu; exact mu
  by_cases hb : b = x
  . subst hb; rw [aS] at q; cases q; exact new
  . rw [aG hb] at q
    by_cases hbe : b = e
    . have q' : H b = some (.own x) := by
        rcases he with z | z
        . exact absurd (hbe.trans z) hb
        . rw [hbe]; exact z
      rw [q] at q'; cases q'
      obtain ⟨v, hv⟩ := heo
      exact ⟨v, by rw [hbe]; exact hv⟩
    . refine (ok b u q).stay (fun c v hc r => k c v ?_ r) (fun c r => by rw [aG (nown c b r)]; exact r) fun c xs r => by rw [aG (ntup c xs r)]; exact r
      rcases hc with rfl | hc
      . exact hbe
      . rintro rfl
        rcases he with z | z
        . exact nown c b hc z
        . rw [hc] at z; cases z; exact hb rfl
end
structure Un (fs ex : List Addr) (H H' : Hp) (h h' : Heap) : Prop where
  keep : ∀ b o, h.get? b = some o -> H b = none -> b ∉ fs -> b ∉ ex -> h'.get? b = some o
  slot : ∀ b o, h.get? b = some o -> H b = none -> b ∈ fs -> b ∉ ex -> ∃ sl, h'.get? b = some { o with slots := sl }
  free : ∀ b o, h.get? b = some o -> H b = none -> b ∉ ex -> H' b = none
  there : ∀ b o, h.get? b = some o -> b ∉ ex -> ∃ o', h'.get? b = some o'
  tups : ∀ b xs, H b = some (.tup xs) -> H' b = some (.tup xs)
  frzs : ∀ b o u, H b = some (.frz o u) -> H' b = some (.frz o u)
  tbls : ∀ b ps, H b = some (.tbl ps) -> ∃ more, H' b = some (.tbl (ps ++ more))
section
variable {fs fs' ex ex' : List Addr} {H H1 H2 : Hp} {h h1 h2 h' : Heap} {a x e : Addr} {o : HO}
theorem Un.any (u : Un fs ex H H1 h h1) {b : Addr} {ob : Obj} (q : h.get? b = some ob) (n : H b = none) (hx : b ∉ ex) : ∃ sl, h1.get? b = some { ob with slots := sl } := by
  by_cases hb : b ∈ fs
  . exact u.slot b ob q n hb hx
  . exact ⟨ob.slots, u.keep b ob q n hb hx⟩
theorem Un.kept (k : ∀ b u, h.get? b = some u -> h'.get? b = some u) : Un fs ex H H h h' :=
  ⟨fun b ob q _ _ _ => k b ob q, fun b ob q _ _ _ => ⟨ob.slots, k b ob q⟩, fun _ _ _ n _ => n, fun b ob q _ => ⟨ob, k b ob q⟩, fun _ _ q => q, fun _ _ _ q => q, fun _ ps q => ⟨#[], by rw [q]; simp⟩⟩
theorem Un.refl : Un fs ex H H h h := Un.kept fun _ _ q => q
theorem Un.laid (k : ∀ b u, h.get? b = some u -> h'.get? b = some u) (hp : h.objs.size <= a) (hn : H a = none) : Un fs ex H (be H a o) h h' where
  keep := fun b u q _ _ _ => k b u q
  slot := fun b u q _ _ _ => ⟨u.slots, k b u q⟩
  free := fun b u q n _ => by rw [aG (Nat.ne_of_lt (Nat.lt_of_lt_of_le (Heap.lt_size q) hp))]; exact n
  there := fun b u q _ => ⟨u, k b u q⟩
  tups := fun b xs q => by rw [aG (bg q hn)]; exact q
  frzs := fun b u xs q => by rw [aG (bg q hn)]; exact q
  tbls := fun b ps q => ⟨#[], by rw [aG (bg q hn), q]; simp⟩
theorem Un.write (mu : xF (H x)) (he : e = x \/ H e = some (.own x)) (k : ∀ b u, b ≠ e -> h.get? b = some u -> h'.get? b = some u) (heo : ∃ u, h'.get? e = some u) : Un fs ex H (be H x o) h h' := by
  have hx : ∀ b, H b = none -> b ≠ x := fun b n z => by subst z; rw [n] at mu; exact mu
  have hb : ∀ b, H b = none -> b ≠ e := fun b n z => by
    subst z
    rcases he with r | r
    . exact hx b n r
    . rw [n] at r; cases r
  have hm : ∀ b u, H b = some u -> ¬ xF (some u) -> b ≠ x := fun b u q nm z => by subst z; rw [q] at mu; exact nm mu
  refine ⟨fun b u q n _ _ => k b u (hb b n) q, fun b u q n _ _ => ⟨u.slots, k b u (hb b n) q⟩, fun b u q n _ => by rw [aG (hx b n)]; exact n, fun b u q _ => ?_,
    fun b xs q => by rw [aG (hm b _ q fun z => z)]; exact q, fun b u xs q => by rw [aG (hm b _ q fun z => z)]; exact q, fun b ps q => ⟨#[], by rw [aG (hm b _ q fun z => z), q]; simp⟩⟩
  by_cases hbe : b = e
  . subst hbe; exact heo
  . exact ⟨u, k b u hbe q⟩
end
def wE (h : Heap) (H : Hp) : List Addr := (List.range h.objs.size).filter fun a => (H a).isSome
def iQ (h : Heap) (H : Hp) : Heap := W.hideAll h (wE h H)
theorem ut (h : Heap) (H : Hp) : (iQ h H).objs.size = h.objs.size := W.hideAll_size _ _
theorem vN {h : Heap} {H : Hp} {b : Addr} {o : Obj} (e : h.get? b = some o) (n : H b = none) : (iQ h H).get? b = some o :=
  W.hideAll_get _ e fun hm => by
    have q : (H b).isSome = true := (List.mem_filter.mp hm).2
    rw [n] at q; simp at q
theorem yI {h : Heap} {H : Hp} {b : Addr} {o : Obj} (e : (iQ h H).get? b = some o) : h.get? b = some o /\ H b = none := by
  have e' : h.get? b = some o := W.of_hideAll (wE h H) e
  refine ⟨e', ?_⟩
  cases q : H b with
  | none => rfl
  | some x =>
    have hm : b ∈ wE h H := List.mem_filter.mpr ⟨List.mem_range.mpr (Heap.lt_size e'), by simp [q]⟩
    have z : (iQ h H).get? b = none := W.hideAll_none (wE h H) hm
    rw [z] at e; cases e
def zM (g h : Heap) (L : Addr) : List (Addr × Obj) := (List.range h.objs.size).filterMap fun a => if a = L \/ (g.get? a).isSome = true then none else (h.get? a).map fun o => (a, o)
def cw (g h : Heap) (L d : Addr) : List (Addr × Obj) := (zM g h L).filter fun p => decide (p.1 ≠ d)
end L2
namespace L2
open PySem PySem.Spec PyProof.Rows
structure Mod (K : W.Frag) (mg : Str -> Option Value) (base : Heap) : Prop where
  kin : K.In base
  glob : base.Ns mainGlobals mg
  blt : ∃ mb, base.Ns builtinsNs mb /\ ∀ x : Str, x ≠ "__name__" -> mb x = bootBuiltins x
  nolimit : base.NoLimit
structure Cx where
  prog : Program
  w : World
  K : W.Frag
  mg : Str -> Option Value
  base : Heap
  A : Around
  N : List Str
  s₀ : Shared
  H₀ : Hp
  env : Env
  outer : List Env
  stack : List Env
  ex : List Addr
  fn : Str -> Bool
  calm : Bool
  pn : List (Addr × Obj)
  xe : Value -> Shared -> Prop
def bX (l : List Env) : List Addr := l.filterMap (·.frame)
abbrev Cx.fs (X : Cx) : List Addr := bX X.outer
def fj (sc : Scope) (x : Str) : Prop := sc.names.lookup x = some .local \/ sc.names.lookup x = some .cell \/ sc.names.lookup x = some .free
def rG (sc : Scope) (x : Str) : Prop := sc.names.lookup x = some .local \/ sc.names.lookup x = some .cell
def ES (env : Env) (h : Heap) (m : Str -> Option Value) (x : Str) (u : Value) : Prop :=
  (env.kindOf x = some .local /\ m x = some u) \/ ((env.kindOf x = some .cell \/ env.kindOf x = some .free) /\ ∃ c, env.cells.lookup x = some c /\ h.IsCell c (some u))
structure Cx.Ok (X : Cx) : Prop where
  mod : Mod X.K X.mg X.base
  kind : X.env.scope.kind = .function
  glob : X.env.globals = mainGlobals
  blt : X.env.builtins = builtinsNs
  above : X.s₀.heap.objs.size <= X.env.locals
  inj : ∀ x y c, X.env.cells.lookup x = some c -> X.env.cells.lookup y = some c -> x = y
  has : ∀ x, (X.env.kindOf x = some .cell \/ X.env.kindOf x = some .free) -> ∃ c, X.env.cells.lookup x = some c
  cab : ∀ x c, X.fn x = true -> X.env.cells.lookup x = some c -> X.s₀.heap.objs.size <= c
  hd : X.calm = true -> X.A.handled = none
  frames : X.A.frames = some X.stack
  stk : X.stack = X.outer \/ (X.stack = X.env :: X.outer /\ X.env.frame = some X.env.locals)
  exf : ∀ b ∈ X.ex, b ≠ X.env.locals /\ ∀ x c, X.env.cells.lookup x = some c -> c ≠ b
  bs : ∀ b o, X.base.get? b = some o -> X.s₀.heap.get? b = some o /\ X.H₀ b = none
  bsz : X.base.objs.size <= X.s₀.heap.objs.size
  noex : ∀ b o, X.base.get? b = some o -> b ∉ X.ex
  exfs : ∀ b ∈ X.ex, b ∉ X.fs
  funs : X.s₀.heap.FunFrames X.base X.outer
  frf : ∀ b ∈ X.fs, X.H₀ b = none
structure am (X : Cx) (pins : List (Addr × Obj)) (σ : List (Option V)) (H : Hp) (s : Shared) : Prop where
  ok : X.Ok
  os : s.os = X.s₀.os
  bare : AllBare s.gens
  base : Un X.fs X.ex X.H₀ H X.s₀.heap s.heap
  loc : ∃ m, s.heap.Ns X.env.locals m /\ ∀ (i : Nat) (x : Str) (v : V), X.N[i]? = some x -> σ[i]? = some (some v) -> fj X.env.scope x -> ∃ u, bi v u /\ ES X.env s.heap m x u
  cell : ∀ x c, X.env.cells.lookup x = some c -> ∃ v, s.heap.IsCell c v
  free : H X.env.locals = none
  freeC : ∀ x c, X.env.cells.lookup x = some c -> H c = none
  pin : ∀ p ∈ X.pn ++ pins, s.heap.get? p.1 = some p.2 /\ H p.1 = none /\ p.1 ≠ X.env.locals /\ p.1 ∉ X.fs /\ ∀ v, p.2.data ≠ .cell v
  hok : di X.prog X.w H s.heap
  len : σ.length = X.N.length
section
variable {X : Cx} {pins : List (Addr × Obj)} {σ : List (Option V)} {H H' : Hp} {s : Shared} {h' : Heap}
theorem Cx.Ok.nofr (ok : X.Ok) {b : Addr} {o : Obj} (e : X.base.get? b = some o) : b ∉ X.fs := fun hb => by
  have := (ok.funs.mem hb).1
  rw [e] at this; cases this
theorem am.bs (I : am X pins σ H s) : ∀ b o, X.base.get? b = some o -> s.heap.get? b = some o /\ H b = none := fun b o e =>
  ⟨I.base.keep b o (I.ok.bs b o e).1 (I.ok.bs b o e).2 (I.ok.nofr e) (I.ok.noex b o e), I.base.free b o (I.ok.bs b o e).1 (I.ok.bs b o e).2 (I.ok.noex b o e)⟩
theorem am.bk (I : am X pins σ H s) : ∀ b o, X.base.get? b = some o -> s.heap.get? b = some o := fun b o e => (I.bs b o e).1
theorem am.mod (I : am X pins σ H s) : Mod X.K X.mg X.base := I.ok.mod
theorem am.kIn (I : am X pins σ H s) : X.K.In s.heap := I.ok.mod.kin.keeps I.bk
theorem am.nolimit (I : am X pins σ H s) : s.heap.NoLimit := I.ok.mod.nolimit.keeps I.bk
theorem am.lt (I : am X pins σ H s) : X.env.locals < s.heap.objs.size := let ⟨_, hn, _⟩ := I.loc; hn.lt
theorem am.sz (I : am X pins σ H s) : X.s₀.heap.objs.size <= s.heap.objs.size := Nat.le_trans I.ok.above (Nat.le_of_lt I.lt)
theorem am.nofs (I : am X pins σ H s) {a : Addr} (h : s.heap.objs.size <= a) : a ∉ X.fs := fun hb => by
  obtain ⟨_, o, ho, _⟩ := I.ok.funs.mem hb
  exact absurd (Nat.lt_of_lt_of_le (Heap.lt_size ho) (Nat.le_trans I.sz h)) (Nat.lt_irrefl _)
theorem am.cne (I : am X pins σ H s) : ∀ x c, X.env.cells.lookup x = some c -> c ≠ X.env.locals := fun x c e z => by
  obtain ⟨v, o, ho, hd⟩ := I.cell x c e
  obtain ⟨m, ⟨o', es, ep, ho', hd', _⟩, _⟩ := I.loc
  rw [z, ho'] at ho; cases ho; rw [hd'] at hd; cases hd
theorem am.funs (I : am X pins σ H s) : s.heap.FunFrames X.base X.outer := by
  have all : ∀ (l : List Env), (∀ b ∈ bX l, b ∈ X.fs) -> X.s₀.heap.FunFrames X.base l -> s.heap.FunFrames X.base l := by
    intro l
    induction l with
    | nil => intro _ _; trivial
    | cons env r ih =>
      intro hs hl
      obtain ⟨hk, ⟨L, o, hf, hn, ho, hd⟩, hr⟩ := hl
      have hL : L ∈ X.fs := hs L (by unfold bX; rw [List.filterMap_cons, hf]; exact List.mem_cons_self)
      obtain ⟨sl, e⟩ := I.base.slot L o ho (I.ok.frf L hL) hL fun z => I.ok.exfs L z hL
      exact ⟨hk, ⟨L, _, hf, hn, e, hd⟩, ih (fun b hb => hs b (by unfold bX; rw [List.filterMap_cons, hf]; exact List.mem_cons_of_mem _ hb)) hr⟩
  exact all X.outer (fun _ hb => hb) I.ok.funs
theorem am.stack (I : am X pins σ H s) : s.heap.FunFrames X.base X.stack := by
  rcases I.ok.stk with e | ⟨e, hf⟩
  . rw [e]; exact I.funs
  . rw [e]
    obtain ⟨m, hn, _⟩ := I.loc
    refine .cons (by rw [I.ok.kind]; decide) hf hn ?_ I.funs
    exact Heap.get?_none_of_le (Nat.le_trans I.ok.bsz I.ok.above)
theorem am.stkSub (I : am X pins σ H s) : ∀ b ∈ bX X.stack, b ∈ X.env.locals :: X.fs := fun b hb => by
  rcases I.ok.stk with e | ⟨e, hf⟩
  . rw [e] at hb; exact List.mem_cons_of_mem _ hb
  . rw [e] at hb
    unfold bX at hb
    rw [List.filterMap_cons, hf] at hb
    exact hb
theorem am.stkFree (I : am X pins σ H s) : ∀ b ∈ bX X.stack, H b = none := fun b hb => by
  rcases List.mem_cons.mp (I.stkSub b hb) with e | hb
  . rw [e]; exact I.free
  . obtain ⟨_, o, ho, _⟩ := I.ok.funs.mem hb
    exact I.base.free b o ho (I.ok.frf b hb) fun z => I.ok.exfs b z hb
theorem am.step {g' : Array GenState} {t' : Nat} {d' : Drawn} {ch : List Addr} (I : am X pins σ H s)
    (hch : ∀ b ∈ ch, (b ∈ X.ex \/ X.s₀.heap.objs.size <= b) /\ b ≠ X.env.locals /\ (∀ x c, X.env.cells.lookup x = some c -> c ≠ b) /\ ∀ p ∈ X.pn ++ pins, p.1 ≠ b)
    (keep : ∀ b o, b ≠ X.env.locals -> b ∉ X.fs -> b ∉ ch -> s.heap.get? b = some o -> H b = none -> h'.get? b = some o)
    (slot : ∀ b o, b ≠ X.env.locals -> b ∈ X.fs -> b ∉ ch -> s.heap.get? b = some o -> H b = none -> ∃ sl, h'.get? b = some { o with slots := sl }) (free : ∀ b o, b ∉ ch -> s.heap.get? b = some o -> H b = none -> H' b = none)
    (there : ∀ b o, b ∉ ch -> s.heap.get? b = some o -> ∃ o', h'.get? b = some o')
    (tups : ∀ b xs, H b = some (.tup xs) -> H' b = some (.tup xs)) (frzs : ∀ b o u, H b = some (.frz o u) -> H' b = some (.frz o u)) (tbls : ∀ b ps, H b = some (.tbl ps) -> ∃ more, H' b = some (.tbl (ps ++ more)))
    (ns : ∀ m, s.heap.Ns X.env.locals m -> h'.Ns X.env.locals m) (hok : di X.prog X.w H' h') (hg : AllBare g') :
    am X pins σ H' { s with heap := h', gens := g', drawn := d', toks := t' } := by
  have neL : ∀ b o, X.s₀.heap.get? b = some o -> b ≠ X.env.locals := fun b o e => Nat.ne_of_lt (Nat.lt_of_lt_of_le (Heap.lt_size e) I.ok.above)
  have neC : ∀ b o, X.s₀.heap.get? b = some o -> b ∉ X.ex -> b ∉ ch := fun b o e hx hb => by
    rcases (hch b hb).1 with z | z
    . exact hx z
    . exact absurd (Nat.lt_of_lt_of_le (Heap.lt_size e) z) (Nat.lt_irrefl _)
  have cellK : ∀ x c, X.env.cells.lookup x = some c -> ∀ v, s.heap.IsCell c v -> h'.IsCell c v := fun x c e v ⟨o, ho, hd⟩ => by
    have nch : c ∉ ch := fun z => (hch c z).2.2.1 x c e rfl
    by_cases hc : c ∈ X.fs
    . obtain ⟨sl, q⟩ := slot c o (I.cne x c e) hc nch ho (I.freeC x c e)
      exact ⟨_, q, hd⟩
    . exact ⟨o, keep c o (I.cne x c e) hc nch ho (I.freeC x c e), hd⟩
  refine ⟨I.ok, I.os, hg, ⟨fun b o e n hb hx => ?_, fun b o e n hb hx => ?_, fun b o e n hx => ?_, fun b o e hx => ?_, fun b xs e => tups b xs (I.base.tups b xs e), fun b o xs e => frzs b o xs (I.base.frzs b o xs e), fun b ps e => ?_⟩, ?_, fun x c e => ?_, ?_, fun x c e => ?_, fun p hp => ?_, hok, I.len⟩
  . exact keep b o (neL b o e) hb (neC b o e hx) (I.base.keep b o e n hb hx) (I.base.free b o e n hx)
  . obtain ⟨sl, e1⟩ := I.base.slot b o e n hb hx
    obtain ⟨sl', e2⟩ := slot b _ (neL b o e) hb (neC b o e hx) e1 (I.base.free b o e n hx)
    exact ⟨sl', e2⟩
  . obtain ⟨o', e1⟩ := I.base.there b o e hx
    exact free b o' (neC b o e hx) e1 (I.base.free b o e n hx)
  . obtain ⟨o', e1⟩ := I.base.there b o e hx
    exact there b o' (neC b o e hx) e1
  . obtain ⟨m1, e1⟩ := I.base.tbls b ps e
    obtain ⟨m2, e2⟩ := tbls b _ e1
    exact ⟨m1 ++ m2, by rw [e2, Array.append_assoc]⟩
  . obtain ⟨m, hn, hl⟩ := I.loc
    refine ⟨m, ns m hn, fun i x v e1 e2 e3 => ?_⟩
    obtain ⟨u, r, l⟩ := hl i x v e1 e2 e3
    refine ⟨u, r, ?_⟩
    rcases l with l | ⟨k, c, e, z⟩
    . exact .inl l
    . exact .inr ⟨k, c, e, cellK x c e _ z⟩
  . obtain ⟨v, z⟩ := I.cell x c e
    exact ⟨v, cellK x c e v z⟩
  . obtain ⟨m, ⟨o, _, _, ho, _⟩, _⟩ := I.loc
    exact free _ o (fun z => (hch _ z).2.1 rfl) ho I.free
  . obtain ⟨v, o, ho, hd⟩ := I.cell x c e
    exact free c o (fun z => (hch c z).2.2.1 x c e rfl) ho (I.freeC x c e)
  . obtain ⟨e, n, ne, nf, d⟩ := I.pin p hp
    have nch : p.1 ∉ ch := fun z => (hch p.1 z).2.2.2 p hp rfl
    exact ⟨keep p.1 p.2 ne nf nch e n, free p.1 p.2 nch e n, ne, nf, d⟩
theorem am.un {t' : Nat} (I : am X pins σ H s) (u : Un X.fs [] H H' s.heap h') (hok : di X.prog X.w H' h') : am X pins σ H' { s with heap := h', toks := t' } := by
  obtain ⟨m, ⟨o, es, ep, ho, r⟩, _⟩ := id I.loc
  obtain ⟨sl, hL⟩ := u.any ho I.free (by simp)
  exact I.step (g' := s.gens) (d' := s.drawn) (ch := []) (fun _ z => nomatch z) (fun b o _ hb _ e n => u.keep b o e n hb (by simp)) (fun b o _ hb _ e n => u.slot b o e n hb (by simp)) (fun b o _ e n => u.free b o e n (by simp)) (fun b o _ e => u.there b o e (by simp)) u.tups u.frzs u.tbls (fun m' hm => by
    obtain ⟨o', es', ep', ho', r'⟩ := hm
    rw [ho] at ho'; cases ho'
    exact ⟨_, es', ep', hL, r'⟩) hok I.bare
theorem am.call {g' : Array GenState} {t' : Nat} {d' : Drawn} {ch : List Addr} (I : am X pins σ H s) (u : Un (bX X.stack) ch H H' s.heap h') (hok : di X.prog X.w H' h') (hg : AllBare g')
    (hch : ∀ b ∈ ch, (b ∈ X.ex \/ X.s₀.heap.objs.size <= b) /\ b ≠ X.env.locals /\ (∀ x c, X.env.cells.lookup x = some c -> c ≠ b) /\ ∀ p ∈ X.pn ++ pins, p.1 ≠ b) :
    am X pins σ H' { s with heap := h', gens := g', drawn := d', toks := t' } := by
  obtain ⟨m, ⟨o, es, ep, ho, r⟩, _⟩ := id I.loc
  obtain ⟨sl, hL⟩ := u.any ho I.free fun z => (hch _ z).2.1 rfl
  exact I.step (ch := ch) hch (fun b o hL hb hc e n => u.keep b o e n (fun z => (List.mem_cons.mp (I.stkSub b z)).elim hL hb) hc) (fun b o _ _ hc e n => u.any e n hc) (fun b o hc e n => u.free b o e n hc) (fun b o hc e => u.there b o e hc) u.tups u.frzs u.tbls (fun m' hm => by
    obtain ⟨o', es', ep', ho', r'⟩ := hm
    rw [ho] at ho'; cases ho'
    exact ⟨_, es', ep', hL, r'⟩) hok hg
theorem am.turned {t' : Nat} {it : Addr} (I : am X pins σ H s) (k : ∀ b o, b ≠ it -> s.heap.get? b = some o -> h'.get? b = some o) (hn : H it = none) (hL : it ≠ X.env.locals)
    (h1 : it ∈ X.ex \/ X.s₀.heap.objs.size <= it) (h2 : ∀ x c, X.env.cells.lookup x = some c -> c ≠ it) (h3 : ∀ p ∈ X.pn ++ pins, p.1 ≠ it) : am X pins σ H { s with heap := h', toks := t' } := by
  have nit : ∀ b u, H b = some u -> b ≠ it := fun b u e z => by rw [z, hn] at e; cases e
  refine I.step (g' := s.gens) (d' := s.drawn) (ch := [it]) (fun b hb => ?_) (fun b o _ _ hc e _ => k b o (fun z => hc (by simp [z])) e) (fun b o _ _ hc e _ => ⟨o.slots, k b o (fun z => hc (by simp [z])) e⟩) (fun _ _ _ _ n => n)
    (fun b o hc e => ⟨o, k b o (fun z => hc (by simp [z])) e⟩) (fun _ _ e => e) (fun _ _ _ e => e) (fun b ps e => ⟨#[], by rw [e]; simp⟩) (fun m hm => ?_) (fun b u e => ?_) I.bare
  . have e : b = it := by simpa using hb
    subst e
    exact ⟨h1, hL, h2, h3⟩
  . obtain ⟨o, es, ep, ho, r⟩ := hm
    exact ⟨o, es, ep, k _ o (Ne.symm hL) ho, r⟩
  . refine (I.hok b u e).stay (fun c v hc q => k c v ?_ q) (fun _ q => q) fun _ _ q => q
    rcases hc with z | z
    . rw [z]; exact nit b u e
    . exact nit c _ z
theorem am.tok (I : am X pins σ H s) (t : Nat) : am X pins σ H { s with toks := t } := I.un (h' := s.heap) (t' := t) Un.refl I.hok
theorem am.kept {t' : Nat} (I : am X pins σ H s) (k : ∀ b u, s.heap.get? b = some u -> h'.get? b = some u) : am X pins σ H { s with heap := h', toks := t' } := I.un (Un.kept k) (I.hok.kept k)
theorem am.laid {a : Addr} {o : HO} {t' : Nat} (I : am X pins σ H s) (k : ∀ b u, s.heap.get? b = some u -> h'.get? b = some u) (hp : s.heap.objs.size <= a) (new : cf X.prog X.w (be H a o) h' a o) :
    am X pins σ (be H a o) { s with heap := h', toks := t' } := I.un (Un.laid k hp (I.hok.fresh hp)) (I.hok.laid k hp new)
theorem am.write {x e : Addr} {o : HO} {t' : Nat} (I : am X pins σ H s) (mu : xF (H x)) (he : e = x \/ H e = some (.own x)) (k : ∀ b u, b ≠ e -> s.heap.get? b = some u -> h'.get? b = some u) (heo : ∃ u, h'.get? e = some u)
    (new : cf X.prog X.w (be H x o) h' x o) : am X pins σ (be H x o) { s with heap := h', toks := t' } := I.un (Un.write mu he k heo) (I.hok.write mu he k heo new)
theorem am.pins_of {pins' : List (Addr × Obj)} (I : am X pins σ H s) (h : ∀ p ∈ pins', s.heap.get? p.1 = some p.2 /\ H p.1 = none /\ p.1 ≠ X.env.locals /\ p.1 ∉ X.fs /\ ∀ v, p.2.data ≠ .cell v) : am X pins' σ H s :=
  ⟨I.ok, I.os, I.bare, I.base, I.loc, I.cell, I.free, I.freeC, fun p hp => (List.mem_append.mp hp).elim (fun z => I.pin p (List.mem_append_left _ z)) (h p), I.hok, I.len⟩
theorem iK {N : List Str} (hN : N.Nodup) {i j : Nat} {x : Str} (a : N[i]? = some x) (b : N[j]? = some x) : i = j := by
  obtain ⟨h1, e1⟩ := List.getElem?_eq_some_iff.mp a
  obtain ⟨h2, e2⟩ := List.getElem?_eq_some_iff.mp b
  exact (List.getElem_inj hN).mp (e1.trans e2.symm)
theorem tG {M : Model} {A : Around} {E : Value -> Shared -> Prop} {i : Nat} {x : Str} {v : V} {u : Value} {Q : Unit -> Shared -> Prop} (I : am X pins σ H s) (hN : X.N.Nodup) (hi : X.N[i]? = some x) (hx : rG X.env.scope x) (r : bi v u)
    (h : ∀ s', am X pins (σ.set i (some v)) H s' -> (∃ a, Heap.SameBut a s.heap s'.heap /\ (a = X.env.locals \/ X.env.cells.lookup x = some a)) -> Q () s') (hf : X.fn x = true \/ X.env.scope.names.lookup x = some .local := by first | exact .inl rfl | exact .inr rfl | assumption) : wpAny M A (storeName X.env x u) Q E s := by
  obtain ⟨m, hn, hl⟩ := id I.loc
  have hcls : (X.env.scope.kind == .class || (X.env.scope.kind == .module && X.env.locals != X.env.globals)) = false := by rw [I.ok.kind]; rfl
  have hiσ : i < σ.length := by rw [I.len]; exact (List.getElem?_eq_some_iff.mp hi).1
  have cne := I.cne
  have tracked : ∀ {a : Addr} {h' : Heap}, (∃ o, s.heap.get? a = some o /\ H a = none) -> Heap.SameBut a s.heap h' -> di X.prog X.w H h' := fun {a h'} ha hs b ob e => by
    obtain ⟨_, _, hfree⟩ := ha
    refine (I.hok b ob e).stay (fun c w' hc q => (hs.2 c ?_).trans q) (fun _ q => q) fun _ _ q => q
    rintro rfl
    rcases hc with rfl | hc
    . rw [hfree] at e; cases e
    . rw [hfree] at hc; cases hc
  rcases hx with hk | hk
  . refine wpAny_storeName_local hk hn (fun h' hn' hs => ?_) hcls
    obtain ⟨oL, _, _, hoL, _⟩ := id hn
    refine h _ ⟨I.ok, I.os, I.bare, ⟨fun b o e n hb hx => ?_, fun b o e n hb hx => ?_, I.base.free, fun b o e hx => ?_, I.base.tups, I.base.frzs, I.base.tbls⟩, ⟨_, hn', fun j y v' e1 e2 e3 => ?_⟩, fun y c e => ?_, I.free, I.freeC, fun p hp => ?_, tracked ⟨oL, hoL, I.free⟩ hs, by simpa using I.len⟩ ⟨_, hs, .inl rfl⟩
    . exact (hs.2 b (Nat.ne_of_lt (Nat.lt_of_lt_of_le (Heap.lt_size e) I.ok.above))).trans (I.base.keep b o e n hb hx)
    . obtain ⟨sl, e1⟩ := I.base.slot b o e n hb hx
      exact ⟨sl, (hs.2 b (Nat.ne_of_lt (Nat.lt_of_lt_of_le (Heap.lt_size e) I.ok.above))).trans e1⟩
    . obtain ⟨o', e1⟩ := I.base.there b o e hx
      exact ⟨o', (hs.2 b (Nat.ne_of_lt (Nat.lt_of_lt_of_le (Heap.lt_size e) I.ok.above))).trans e1⟩
    . by_cases hj : j = i
      . subst hj
        rw [hi] at e1; cases e1
        rw [List.getElem?_set_self hiσ] at e2
        cases e2
        exact ⟨u, r, .inl ⟨hk, by simp⟩⟩
      . rw [List.getElem?_set_ne (Ne.symm hj)] at e2
        obtain ⟨u', r', q⟩ := hl j y v' e1 e2 e3
        refine ⟨u', r', ?_⟩
        rcases q with ⟨k, e⟩ | ⟨k, c, e, z⟩
        . refine .inl ⟨k, ?_⟩
          have : y ≠ x := fun e => hj (iK hN e1 (e ▸ hi))
          simp [this, e]
        . exact .inr ⟨k, c, e, z.sameBut hs (cne y c e)⟩
    . obtain ⟨w', z⟩ := I.cell y c e
      exact ⟨w', z.sameBut hs (cne y c e)⟩
    . obtain ⟨e, n, ne, nf, d⟩ := I.pin p hp
      exact ⟨(hs.2 p.1 ne).trans e, n, ne, nf, d⟩
  . have hfn : X.fn x = true := by
      rcases hf with z | z
      . exact z
      . rw [z] at hk; cases hk
    obtain ⟨c, hc⟩ := I.ok.has x (.inl hk)
    obtain ⟨w', z⟩ := I.cell x c hc
    refine wpAny_storeName_cell I.ok.kind hk hc z (fun h' hc' hs => ?_)
    obtain ⟨oc, hoc, hocd⟩ := id z
    refine h { s with heap := h' } ⟨I.ok, I.os, I.bare, ⟨fun b o e n hb hx => ?_, fun b o e n hb hx => ?_, I.base.free, fun b o e hx => ?_, I.base.tups, I.base.frzs, I.base.tbls⟩, ⟨m, hn.sameBut hs (Ne.symm (cne x c hc)), fun j y v' e1 e2 e3 => ?_⟩, fun y c' e => ?_, I.free, I.freeC, fun p hp => ?_, tracked ⟨oc, hoc, I.freeC x c hc⟩ hs, by simpa using I.len⟩ ⟨c, hs, .inr hc⟩
    . exact (hs.2 b (Nat.ne_of_lt (Nat.lt_of_lt_of_le (Heap.lt_size e) (I.ok.cab x c hfn hc)))).trans (I.base.keep b o e n hb hx)
    . obtain ⟨sl, e1⟩ := I.base.slot b o e n hb hx
      exact ⟨sl, (hs.2 b (Nat.ne_of_lt (Nat.lt_of_lt_of_le (Heap.lt_size e) (I.ok.cab x c hfn hc)))).trans e1⟩
    . obtain ⟨o', e1⟩ := I.base.there b o e hx
      exact ⟨o', (hs.2 b (Nat.ne_of_lt (Nat.lt_of_lt_of_le (Heap.lt_size e) (I.ok.cab x c hfn hc)))).trans e1⟩
    . by_cases hj : j = i
      . subst hj
        rw [hi] at e1; cases e1
        rw [List.getElem?_set_self hiσ] at e2
        cases e2
        exact ⟨u, r, .inr ⟨.inl hk, c, hc, hc'⟩⟩
      . rw [List.getElem?_set_ne (Ne.symm hj)] at e2
        obtain ⟨u', r', q⟩ := hl j y v' e1 e2 e3
        refine ⟨u', r', ?_⟩
        rcases q with q | ⟨k, c', e, z'⟩
        . exact .inl q
        . refine .inr ⟨k, c', e, z'.sameBut hs ?_⟩
          rintro rfl
          exact hj (iK hN e1 (I.ok.inj _ _ _ e hc ▸ hi))
    . by_cases hcc : c' = c
      . subst hcc; exact ⟨_, hc'⟩
      . obtain ⟨w2, z2⟩ := I.cell y c' e
        exact ⟨w2, z2.sameBut hs hcc⟩
    . obtain ⟨e, n, ne, nf, d⟩ := I.pin p hp
      refine ⟨(hs.2 p.1 ?_).trans e, n, ne, nf, d⟩
      intro q
      rw [q, hoc] at e
      have q' : oc = p.2 := Option.some.inj e
      exact d w' (by rw [<- q']; exact hocd)
theorem gy {M : Model} {A : Around} {E : Value -> Shared -> Prop} {i : Nat} {x : Str} {v : V} {u : Value} {Q : Unit -> Shared -> Prop} (I : am X pins σ H s) (hN : X.N.Nodup) (hi : X.N[i]? = some x) (hx : rG X.env.scope x) (r : bi v u)
    (h : ∀ s', am X pins (σ.set i (some v)) H s' -> Q () s') (hf : X.fn x = true \/ X.env.scope.names.lookup x = some .local := by first | exact .inl rfl | exact .inr rfl | assumption) : wpAny M A (storeName X.env x u) Q E s :=
  tG I hN hi hx r (fun s' I' _ => h s' I') hf
theorem am.call' {s' : Shared} {ch : List Addr} (I : am X pins σ H s) (ho : s'.os = s.os) (u : Un (bX X.stack) ch H H' s.heap s'.heap) (hok : di X.prog X.w H' s'.heap) (hg : AllBare s'.gens)
    (hch : ∀ b ∈ ch, (b ∈ X.ex \/ X.s₀.heap.objs.size <= b) /\ b ≠ X.env.locals /\ (∀ x c, X.env.cells.lookup x = some c -> c ≠ b) /\ ∀ p ∈ X.pn ++ pins, p.1 ≠ b) : am X pins σ H' s' := by
  obtain ⟨h', g', d', t', o'⟩ := s'
  have e : o' = s.os := ho
  subst e
  exact I.call (g' := g') (t' := t') (d' := d') u hok hg hch
end
abbrev XK := Value -> Option Addr -> Hp -> Prop
abbrev St := List (Option V)
abbrev VK := V -> Hp -> Prop
abbrev TE := St -> Hp -> VK -> Prop
abbrev TT := St -> Hp -> (Bool -> Hp -> Prop) -> Prop
abbrev TA := St -> Hp -> (List V -> Hp -> Prop) -> Prop
structure i5 where
  nx : St -> Hp -> Prop
  rt : VK
  bk : St -> Hp -> Prop := fun _ _ => False
  ct : St -> Hp -> Prop := fun _ _ => False
abbrev TS := i5 -> St -> Hp -> Prop
def EP (X : Cx) (pins : List (Addr × Obj)) (σ : St) (Q : VK) (u : Value) (s' : Shared) : Prop := ∃ v H', am X pins σ H' s' /\ bi v u /\ Q v H'
def TP (X : Cx) (pins : List (Addr × Obj)) (σ : St) (Q : Bool -> Hp -> Prop) (b : Bool) (s' : Shared) : Prop := ∃ H', am X pins σ H' s' /\ Q b H'
def AP (X : Cx) (pins : List (Addr × Obj)) (σ : St) (Q : List V -> Hp -> Prop) (us : List Value) (s' : Shared) : Prop := ∃ vs H', am X pins σ H' s' /\ aJ vs us /\ Q vs H'
def SP (X : Cx) (pins : List (Addr × Obj)) (D : i5) (f : Flow) (s' : Shared) : Prop :=
  match f with
  | .next => ∃ σ' H', am X pins σ' H' s' /\ D.nx σ' H'
  | .brk => ∃ σ' H', am X pins σ' H' s' /\ D.bk σ' H'
  | .cont => ∃ σ' H', am X pins σ' H' s' /\ D.ct σ' H'
  | .ret u => ∃ v σ' H', am X pins σ' H' s' /\ bi v u /\ D.rt v H'
def PE (X : Cx) (e : Expr) (t : TE) : Prop :=
  ∀ (pins : List (Addr × Obj)) (s : Shared) (σ : St) (H : Hp) (Q : VK), am X pins σ H s -> t σ H Q -> wpAny (model X.prog X.w) X.A (eval e X.env) (EP X pins σ Q) X.xe s
def PT (X : Cx) (e : Expr) (t : TT) : Prop :=
  ∀ (pins : List (Addr × Obj)) (s : Shared) (σ : St) (H : Hp) (Q : Bool -> Hp -> Prop), am X pins σ H s -> t σ H Q -> wpAny (model X.prog X.w) X.A (isTrue e X.env (eval e X.env)) (TP X pins σ Q) X.xe s
def PW (X : Cx) (e : Expr) (t : TT) : Prop :=
  ∀ (whole : Sem Value) (pins : List (Addr × Obj)) (s : Shared) (σ : St) (H : Hp) (Q : Bool -> Hp -> Prop), am X pins σ H s -> t σ H Q -> wpAny (model X.prog X.w) X.A (isTrue e X.env whole) (TP X pins σ Q) X.xe s
theorem PW.pt {X : Cx} {e : Expr} {t : TT} (h : PW X e t) : PT X e t := h _
def PA (X : Cx) (es : List Expr) (t : TA) : Prop :=
  ∀ (pos : Pos) (pins : List (Addr × Obj)) (s : Shared) (σ : St) (H : Hp) (Q : List V -> Hp -> Prop), am X pins σ H s -> t σ H Q -> wpAny (model X.prog X.w) X.A (spliced (backTo pos (starEach es X.env))) (AP X pins σ Q) X.xe s
def PS (X : Cx) (st : Stmt) (t : TS) : Prop :=
  ∀ (pins : List (Addr × Obj)) (s : Shared) (σ : St) (H : Hp) (D : i5), am X pins σ H s -> t D σ H -> wpAny (model X.prog X.w) X.A (exec st X.env) (SP X pins D) X.xe s
def eJ (X : Cx) (st : List Stmt) (t : TS) : Prop :=
  ∀ (pins : List (Addr × Obj)) (s : Shared) (σ : St) (H : Hp) (D : i5), am X pins σ H s -> t D σ H -> wpAny (model X.prog X.w) X.A (execs st X.env) (SP X pins D) X.xe s
theorem aL {α : Type} {t : Sem α} {Q Q' : α -> Shared -> Prop} {M : Model} {A : Around} {E : Value -> Shared -> Prop} {s : Shared} (h : wpAny M A t Q E s) (hQ : ∀ a s, Q a s -> Q' a s) : wpAny M A t Q' E s := wpAny_mono h hQ fun _ _ x => x
end L2
namespace L2
open PySem PySem.Spec PyProof.Rows
section
variable {X : Cx}
theorem Dt {a b : Expr} {ta tb : TE} (ha : PE X a ta) (hb : PE X b tb) {pins : List (Addr × Obj)} {s : Shared} {σ : St} {H : Hp} {R : V -> V -> Hp -> Prop} (I : am X pins σ H s) (h : ta σ H fun x H1 => tb σ H1 fun y H2 => R x y H2)
    {α : Type} {Q : α -> Shared -> Prop} {f : Value -> Value -> Sem α}
    (hf : ∀ v u s2 x y H2, am X pins σ H2 s2 -> bi x v -> bi y u -> R x y H2 -> wpAny (model X.prog X.w) X.A (f v u) Q X.xe s2) :
    wpAny (model X.prog X.w) X.A (eval a X.env) (fun v s₁ => wpAny (model X.prog X.w) X.A (eval b X.env) (fun u s₂ => wpAny (model X.prog X.w) X.A (f v u) Q X.xe s₂) X.xe s₁) X.xe s := by
  refine aL (ha pins s σ H _ I h) fun v s1 ⟨x, H1, I1, r1, q1⟩ => ?_
  refine aL (hb pins s1 σ H1 _ I1 q1) fun u s2 ⟨y, H2, I2, r2, q2⟩ => ?_
  exact hf v u s2 x y H2 I2 r1 r2 q2
def n8 (i : Nat) : TE := fun σ H Q => ∃ v, σ[i]? = some (some v) /\ Q v H
def tC (v : V) : TE := fun _ H Q => Q v H
theorem gC {i : Nat} {x : Str} {pos : Pos} (hN : X.N[i]? = some x) (hv : fj X.env.scope x) (hd : (x == ("__debug__" : Str)) = false := by decide) (hcd : (x == ("__classdict__" : Str)) = false := by decide) : PE X (.Name x pos) (n8 i) := by
  intro pins s σ H Q I h
  obtain ⟨v, e, h⟩ := h
  obtain ⟨m, hn, hl⟩ := I.loc
  obtain ⟨u, r, l⟩ := hl i x v hN e hv
  have fin : EP X pins σ Q u s := ⟨v, H, I, r, h⟩
  rcases l with ⟨hk, hm⟩ | ⟨hk, c, hc, hcell⟩
  . exact wpAny_Name (wpAny_loadName_local I.ok.kind hk hn hm fin) hd
  . rcases hk with hk | hk
    . exact wpAny_Name (wpAny_loadName_cell I.ok.kind hk hc hcell fin) hd
    . exact wpAny_Name (wpAny_loadName_free I.ok.kind hk hc hcell fin hcd) hd
theorem AZ {i j pos} : PE X (.Constant (.int i) j pos) (tC (.int i)) := fun _ _ _ H _ I h => wpAny_Constant_int ⟨.int i, H, I.tok _, ⟨_, rfl⟩, h⟩
theorem CV {b j pos} : PE X (.Constant (.bool b) j pos) (tC (.bl b)) := fun _ _ _ H _ I h => Constant_bool ⟨.bl b, H, I, rfl, h⟩
theorem AX {j pos} : PE X (.Constant .none j pos) (tC .non) := fun _ _ _ H _ I h => Constant_none ⟨.non, H, I, rfl, h⟩
theorem AU {x j pos} : PE X (.Constant (.str x) j pos) (tC (.str x)) := fun _ _ _ H _ I h => Calls.Constant_str ⟨.str x, H, I.tok _, ⟨_, rfl⟩, h⟩
def Gl (X : Cx) (x : Str) : Prop := X.env.kindOf x = some .globalImplicit
theorem dE {E : Value -> Shared -> Prop} {pins : List (Addr × Obj)} {s : Shared} {σ : St} {H : Hp} {x : Str} {u : Value} {pos : Pos} {Q : Value -> Shared -> Prop} (I : am X pins σ H s) (hg : Gl X x) (hm : X.mg x = some u) (h : Q u s)
    (hd : (x == ("__debug__" : Str)) = false := by decide) : wpAny (model X.prog X.w) X.A (eval (.Name x pos) X.env) Q E s :=
  Calls.Name_function_global I.ok.kind hg (Calls.loadGlobal_global (by rw [I.ok.glob]; exact I.mod.glob.keeps I.bk) hm h) hd
theorem iu {E : Value -> Shared -> Prop} {pins : List (Addr × Obj)} {s : Shared} {σ : St} {H : Hp} {x : Str} {u : Value} {pos : Pos} {Q : Value -> Shared -> Prop} (I : am X pins σ H s) (hg : Gl X x) (hm : X.mg x = none) (hv : bootBuiltins x = some u) (h : Q u s)
    (hn : x ≠ "__name__" := by decide) (hd : (x == ("__debug__" : Str)) = false := by decide) : wpAny (model X.prog X.w) X.A (eval (.Name x pos) X.env) Q E s := by
  obtain ⟨mb, h1, h2⟩ := I.mod.blt
  exact Calls.Name_function_global I.ok.kind hg (Calls.loadGlobal_builtin (by rw [I.ok.glob]; exact I.mod.glob.keeps I.bk) hm (by rw [I.ok.blt]; exact h1.keeps I.bk) ((h2 x hn).trans hv) h) hd
theorem yz {x : Str} {v : V} {u : Value} {pos : Pos} (hg : Gl X x) (hm : X.mg x = some u) (r : bi v u) (hd : (x == ("__debug__" : Str)) = false := by decide) : PE X (.Name x pos) (tC v) :=
  fun _ _ _ H _ I h => dE I hg hm ⟨v, H, I, r, h⟩ hd
theorem yC {x : Str} {v : V} {u : Value} {pos : Pos} (hg : Gl X x) (hm : X.mg x = none) (hv : bootBuiltins x = some u) (r : bi v u) (hn : x ≠ "__name__" := by decide) (hd : (x == ("__debug__" : Str)) = false := by decide) : PE X (.Name x pos) (tC v) :=
  fun _ _ _ H _ I h => iu I hg hm hv ⟨v, H, I, r, h⟩ hn hd
variable {a b : Expr} {ta tb : TE} {pos : Pos}
def tB (t : TE) : TT := fun σ H Q => t σ H fun x H1 => ∃ c, x = .bl c /\ Q c H1
theorem AJ {e : Expr} {t : TE} (h : PE X e t) (he : ∀ whole, isTrue e X.env whole = (do let v <- whole; standAt e.pos; holding [v] (truthy v)) := by intro _; rfl) : PT X e (tB t) := by
  intro pins s σ H Q I hw
  refine isTrue_plain (aL (h pins s σ H _ I hw) fun v s1 ⟨x, H1, I1, r1, q1⟩ => ?_) (he _)
  obtain ⟨d, rfl, q⟩ := q1
  cases r1
  exact wpAny_truthy_bool ⟨H1, I1, q⟩
variable {tA tB' : TT} {cw : List Expr}
def DO (t u : TT) : TT := fun σ H Q => t σ H fun c H1 => if c = true then u σ H1 Q else Q false H1
def Fa (t u : TT) : TT := fun σ H Q => t σ H fun c H1 => if c = true then Q true H1 else u σ H1 Q
def DI (t : TT) : TT := fun σ H Q => t σ H fun c H1 => Q (!c) H1
theorem yj (ha : PT X a tA) : PW X (.BoolOp .And [a] pos) tA := by
  intro wh pins s σ H Q I h
  refine isTrue_and (aL (ha pins s σ H Q I h) fun c s1 e => ?_)
  cases c with
  | true => exact isTrue_and_nil e
  | false => exact e
theorem AI (ha : PT X a tA) : PW X (.BoolOp .Or [a] pos) tA := by
  intro wh pins s σ H Q I h
  refine isTrue_or (aL (ha pins s σ H Q I h) fun c s1 e => ?_)
  cases c with
  | false => exact isTrue_or_nil e
  | true => exact e
theorem tP (ha : PT X a tA) (hb : PW X (.BoolOp .And (b :: cw) pos) tB') : PW X (.BoolOp .And (a :: b :: cw) pos) (DO tA tB') := by
  intro wh pins s σ H Q I h
  refine isTrue_and (aL (ha pins s σ H _ I h) fun c s1 ⟨H1, I1, q1⟩ => ?_)
  cases c with
  | true => exact hb wh pins s1 σ H1 Q I1 q1
  | false => exact ⟨H1, I1, q1⟩
theorem wR (ha : PT X a tA) (hb : PW X (.BoolOp .Or (b :: cw) pos) tB') : PW X (.BoolOp .Or (a :: b :: cw) pos) (Fa tA tB') := by
  intro wh pins s σ H Q I h
  refine isTrue_or (aL (ha pins s σ H _ I h) fun c s1 ⟨H1, I1, q1⟩ => ?_)
  cases c with
  | true => exact ⟨H1, I1, q1⟩
  | false => exact hb wh pins s1 σ H1 Q I1 q1
theorem AK (ha : PT X a tA) : PT X (.UnaryOp .Not a pos) (DI tA) := by
  intro pins s σ H Q I h
  exact isTrue_not (ha pins s σ H (fun c H1 => Q (!c) H1) I h)
def CD (ta tb : TE) : TE := fun σ H Q => ta σ H fun x H1 => ∃ c, x = .bl c /\ if c = true then tb σ H1 Q else Q (.bl false) H1
def DH (ta tb : TE) : TE := fun σ H Q => ta σ H fun x H1 => ∃ c, x = .bl c /\ if c = true then Q (.bl true) H1 else tb σ H1 Q
def Cz (ta : TE) : TE := fun σ H Q => ta σ H fun x H1 => ∃ c, x = .bl c /\ Q (.bl (!c)) H1
theorem AV {op} {t : TE} (h : PE X a t) : PE X (.BoolOp op [a] pos) t := fun pins s σ H Q I hw => BoolOp_one (h pins s σ H Q I hw)
theorem tV (ha : PE X a ta) (hb : PE X (.BoolOp .And (b :: cw) pos) tb) : PE X (.BoolOp .And (a :: b :: cw) pos) (CD ta tb) := by
  intro pins s σ H Q I h
  refine BoolOp_and (aL (ha pins s σ H _ I h) fun v s1 ⟨x, H1, I1, r1, q1⟩ => ?_)
  obtain ⟨c, rfl, q1⟩ := q1
  cases r1
  refine wpAny_truthy_bool ?_
  cases c with
  | true => exact hb pins s1 σ H1 Q I1 q1
  | false => exact ⟨.bl false, H1, I1, rfl, q1⟩
theorem wT (ha : PE X a ta) (hb : PE X (.BoolOp .Or (b :: cw) pos) tb) : PE X (.BoolOp .Or (a :: b :: cw) pos) (DH ta tb) := by
  intro pins s σ H Q I h
  refine BoolOp_or (aL (ha pins s σ H _ I h) fun v s1 ⟨x, H1, I1, r1, q1⟩ => ?_)
  obtain ⟨c, rfl, q1⟩ := q1
  cases r1
  refine wpAny_truthy_bool ?_
  cases c with
  | false => exact hb pins s1 σ H1 Q I1 q1
  | true => exact ⟨.bl true, H1, I1, rfl, q1⟩
theorem AW (ha : PE X a ta) : PE X (.UnaryOp .Not a pos) (Cz ta) := by
  intro pins s σ H Q I h
  refine UnaryOp_ (aL (ha pins s σ H _ I h) fun v s1 ⟨x, H1, I1, r1, q1⟩ => ?_)
  obtain ⟨c, rfl, q1⟩ := q1
  cases r1
  exact not_of (wpAny_truthy_bool ⟨.bl (!c), H1, I1, rfl, q1⟩)
end
end L2
namespace L2
open PySem PySem.Spec PyProof.Rows
def cA (K : W.Frag) (H : Hp) (a : Addr) (xs : List V) : Prop :=
  Rd H a (.lst xs) \/
    ∃ (o : Obj) (its : Array Value) (n : Nat), K.lookup a = some o /\ o.cls = .type "list" /\ o.dict = none /\ o.data = .seq its n /\ its.size <= sizeLine /\ aJ xs its.toList
def cz (K : W.Frag) (H : Hp) (a : Addr) (xs : List V) : Prop :=
  Rd H a (.tup xs) \/
    ∃ (o : Obj) (its : Array Value) (n : Nat), K.lookup a = some o /\ o.cls = .type "tuple" /\ o.data = .seq its n /\ its.size <= sizeLine /\ aJ xs its.toList
def EQ : Value -> Option V
  | .none => some .non
  | .bool b => some (.bl b)
  | .int i _ => some (.int i)
  | .str x _ => some (.str x)
  | .bytes b _ => some (.byt b)
  | .float b _ => some (.flt b)
  | .ref a => some (.ref a)
  | .type n => some (.ty n)
  | _ => none
theorem bi.abs {x : V} {u : Value} (r : bi x u) : EQ u = some x := by
  cases x with
  | non => cases r; rfl
  | bl _ => cases r; rfl
  | int _ => obtain ⟨t, rfl⟩ := r; rfl
  | str _ => obtain ⟨t, rfl⟩ := r; rfl
  | byt _ => obtain ⟨t, rfl⟩ := r; rfl
  | flt _ => obtain ⟨t, rfl⟩ := r; rfl
  | ref _ => cases r; rfl
  | ty _ => cases r; rfl
theorem bi.inj {x y : V} {u : Value} (r : bi x u) (q : bi y u) : x = y := Option.some.inj (r.abs.symm.trans q.abs)
theorem aJ.inj : ∀ {xs ys : List V} {us : List Value}, aJ xs us -> aJ ys us -> xs = ys
  | _, _, _, .nil, .nil => rfl
  | _, _, _, .cons r t, .cons r' t' => by rw [r.inj r', aJ.inj t t']
section
variable {X : Cx} {pins : List (Addr × Obj)} {σ : St} {H : Hp} {s : Shared} {a : Addr} {xs ys : List V}
theorem cA.of {K : W.Frag} (h : H a = some (.lst xs)) : cA K H a xs := .inl (.inl h)
theorem cz.of {K : W.Frag} (h : H a = some (.tup xs)) : cz K H a xs := .inl (.inl h)
theorem am.list (I : am X pins σ H s) (h : cA X.K H a xs) : ∃ its : List Value, aJ xs its /\ PlainL s.heap a its.toArray /\ xs.length <= sizeLine := by
  rcases h with h | ⟨o, its, n, hk, hc, hd, hs, hz, r⟩
  . obtain ⟨z, its, n, r, e⟩ := h.ok I.hok
    exact ⟨its, r, ⟨_, n, e, rfl, rfl, rfl⟩, z⟩
  . refine ⟨its.toList, r, ⟨o, n, I.kIn a o hk, hc, hd, by simpa using hs⟩, ?_⟩
    have e := r.length
    simp only [Array.length_toList] at e
    omega
theorem am.tuple (I : am X pins σ H s) (h : cz X.K H a xs) : ∃ its : List Value, aJ xs its /\ IsTup s.heap a its.toArray /\ xs.length <= sizeLine := by
  rcases h with h | ⟨o, its, n, hk, hc, hs, hz, r⟩
  . obtain ⟨z, its, r, p⟩ := h.ok I.hok
    exact ⟨its, r, p, z⟩
  . refine ⟨its.toList, r, ⟨o, I.kIn a o hk, hc, n, by simpa using hs⟩, ?_⟩
    have e := r.length
    simp only [Array.length_toList] at e
    omega
theorem am.list_inj (I : am X pins σ H s) (h : cA X.K H a xs) (h' : cA X.K H a ys) : xs = ys := by
  obtain ⟨its, r, ⟨o, n, e, _, _, d⟩, _⟩ := I.list h
  obtain ⟨its', r', ⟨o', n', e', _, _, d'⟩, _⟩ := I.list h'
  rw [e] at e'; cases e'
  rw [d] at d'
  injection d' with d1 _
  have : its = its' := by simpa using congrArg Array.toList d1
  subst this
  exact r.inj r'
theorem am.tuple_inj (I : am X pins σ H s) (h : cz X.K H a xs) (h' : cz X.K H a ys) : xs = ys := by
  obtain ⟨its, r, ⟨o, e, _, n, d⟩, _⟩ := I.tuple h
  obtain ⟨its', r', ⟨o', e', _, n', d'⟩, _⟩ := I.tuple h'
  rw [e] at e'; cases e'
  rw [d] at d'
  injection d' with d1 _
  have : its = its' := by simpa using congrArg Array.toList d1
  subst this
  exact r.inj r'
end
abbrev Cx.wish (X : Cx) (E : Value -> Shared -> Prop) : Cx := { X with xe := E }
abbrev Cx.nox (X : Cx) : Cx := X.wish fun _ _ => False
theorem Cx.Ok.wish {X : Cx} (ok : X.Ok) (E : Value -> Shared -> Prop) : (X.wish E).Ok :=
  ⟨ok.mod, ok.kind, ok.glob, ok.blt, ok.above, ok.inj, ok.has, ok.cab, ok.hd, ok.frames, ok.stk, ok.exf, ok.bs, ok.bsz, ok.noex, ok.exfs, ok.funs, ok.frf⟩
theorem Cx.Ok.unwish {X : Cx} {E : Value -> Shared -> Prop} (ok : (X.wish E).Ok) : X.Ok :=
  ⟨ok.mod, ok.kind, ok.glob, ok.blt, ok.above, ok.inj, ok.has, ok.cab, ok.hd, ok.frames, ok.stk, ok.exf, ok.bs, ok.bsz, ok.noex, ok.exfs, ok.funs, ok.frf⟩
section
variable {X : Cx} {pins : List (Addr × Obj)} {σ : St} {H : Hp} {s : Shared} {E : Value -> Shared -> Prop}
theorem am.wish (I : am X pins σ H s) (E : Value -> Shared -> Prop) : am (X.wish E) pins σ H s := ⟨I.ok.wish E, I.os, I.bare, I.base, I.loc, I.cell, I.free, I.freeC, I.pin, I.hok, I.len⟩
theorem am.unwish (I : am (X.wish E) pins σ H s) : am X pins σ H s := ⟨I.ok.unwish, I.os, I.bare, I.base, I.loc, I.cell, I.free, I.freeC, I.pin, I.hok, I.len⟩
theorem SP.unwish {D : i5} {f : Flow} {s' : Shared} (h : SP (X.wish E) pins D f s') : SP X pins D f s' := by
  cases f with
  | next => obtain ⟨σ', H', I, q⟩ := h; exact ⟨σ', H', I.unwish, q⟩
  | brk => obtain ⟨σ', H', I, q⟩ := h; exact ⟨σ', H', I.unwish, q⟩
  | cont => obtain ⟨σ', H', I, q⟩ := h; exact ⟨σ', H', I.unwish, q⟩
  | ret u => obtain ⟨v, σ', H', I, r, q⟩ := h; exact ⟨v, σ', H', I.unwish, r, q⟩
theorem PE.nox {e : Expr} {t : TE} (h : PE X.nox e t) : PE X e t := fun pins s σ H Q I hw =>
  wpAny_mono (h pins s σ H Q (I.wish _) hw) (fun _ _ ⟨v, H', I', r, q⟩ => ⟨v, H', I'.unwish, r, q⟩) fun _ _ z => False.elim z
theorem PT.nox {e : Expr} {t : TT} (h : PT X.nox e t) : PT X e t := fun pins s σ H Q I hw =>
  wpAny_mono (h pins s σ H Q (I.wish _) hw) (fun _ _ ⟨H', I', q⟩ => ⟨H', I'.unwish, q⟩) fun _ _ z => False.elim z
theorem eJ.nox {st : List Stmt} {t : TS} (h : eJ X.nox st t) : eJ X st t := fun pins s σ H D I hw =>
  wpAny_mono (h pins s σ H D (I.wish _) hw) (fun _ _ q => q.unwish) fun _ _ z => False.elim z
end
section
variable {X : Cx} {st : Stmt} {cw : List Stmt} {t u : TS} {e : Expr} {te : TE} {pos : Pos}
def wK : TS := fun D σ H => D.nx σ H
def DE (t u : TS) : TS := fun D σ H => t { D with nx := u D } σ H
theorem yk : eJ X [] wK := fun _ _ σ H _ I h => wpAny_execs_nil ⟨σ, H, I, h⟩
theorem dY (h1 : PS X st t) (h2 : eJ X cw u) : eJ X (st :: cw) (DE t u) := by
  intro pins s σ H D I h
  refine wpAny_execs_cons (aL (h1 pins s σ H { D with nx := u D } I h) fun f s1 q => ?_)
  cases f with
  | next =>
    obtain ⟨σ', H', I', q⟩ := q
    exact h2 pins s1 σ' H' D I' q
  | ret v => exact q
  | brk => exact q
  | cont => exact q
theorem jI (h1 : PS X st t) : eJ X [st] t := by
  intro pins s σ H D I h
  refine wpAny_execs_cons (aL (h1 pins s σ H D I h) fun f s1 q => ?_)
  cases f with
  | next => exact wpAny_execs_nil q
  | ret v => exact q
  | brk => exact q
  | cont => exact q
def Ae : TS := fun D σ H => D.bk σ H
def CB : TS := fun D σ H => D.ct σ H
theorem yn : PS X (.Pass pos) wK := fun _ _ σ H _ I h => wpAny_Pass ⟨σ, H, I, h⟩
theorem vn : PS X (.Break pos) Ae := fun _ _ σ H _ I h => wpAny_Break ⟨σ, H, I, h⟩
theorem ql : PS X (.Continue pos) CB := fun _ _ σ H _ I h => wpAny_Continue ⟨σ, H, I, h⟩
theorem am.quiet {pins : List (Addr × Obj)} {σ : St} {H : Hp} {s : Shared} (I : am X pins σ H s) : interactive X.env = false := by simp [interactive, I.ok.kind]
def CA (te : TE) : TS := fun D σ H => te σ H fun _ H1 => D.nx σ H1
theorem ip (he : PE X e te) (hs : swapsWith e none pos.line X.env = pure false := by rfl) : PS X (.Expr e pos) (CA te) := by
  intro pins s σ H D I h
  exact wpAny_Expr_any (aL (he pins s σ H _ I h) fun v s1 ⟨x, H1, I1, r1, q1⟩ => ⟨σ, H1, I1, q1⟩) I.quiet hs
def DF (te : TE) : TS := fun D σ H => te σ H D.rt
theorem AL (he : PE X e te) : PS X (.Return (some e) pos) (DF te) := by
  intro pins s σ H D I h
  exact wpAny_Return_some (aL (he pins s σ H _ I h) fun v s1 ⟨x, H1, I1, r1, q1⟩ => ⟨x, σ, H1, I1, r1, q1⟩)
def Cw : TS := fun D _ H => D.rt .non H
theorem ym : PS X (.Return none pos) Cw := fun _ _ σ H _ I h => wpAny_Return_none ⟨.non, σ, H, I, rfl, h⟩
def DK (c : TT) (t u : TS) : TS := fun D σ H => c σ H fun b H1 => if b = true then t D σ H1 else u D σ H1
theorem wS {c : Expr} {a b : List Stmt} {tc : TT} (hc : PT X c tc) (ha : eJ X a t) (hb : eJ X b u) : PS X (.If c a b pos) (DK tc t u) := by
  intro pins s σ H D I h
  refine wpAny_If (aL (hc pins s σ H _ I h) fun d s1 ⟨H1, I1, q1⟩ => ?_)
  cases d with
  | true => exact ha pins s1 σ H1 D I1 q1
  | false => exact hb pins s1 σ H1 D I1 q1
def Ad : TS := fun _ _ _ => False
theorem gT {sts : List Stmt} : eJ X sts Ad := fun _ _ _ _ _ _ h => h.elim
end
abbrev TG := V -> St -> Hp -> (St -> Hp -> Prop) -> Prop
abbrev lN := List V -> St -> Hp -> (St -> Hp -> Prop) -> Prop
def PG (X : Cx) (target : Expr) (t : TG) : Prop :=
  ∀ (pins : List (Addr × Obj)) (s : Shared) (σ : St) (H : Hp) (v : V) (u : Value) (Q : St -> Hp -> Prop), am X pins σ H s -> bi v u -> t v σ H Q ->
    wpAny (model X.prog X.w) X.A (assign target X.env u) (fun _ s' => ∃ σ' H', am X pins σ' H' s' /\ Q σ' H') X.xe s
def rF (X : Cx) (ts : List Expr) (t : lN) : Prop :=
  ∀ (pins : List (Addr × Obj)) (s : Shared) (σ : St) (H : Hp) (vs : List V) (us : List Value) (Q : St -> Hp -> Prop), am X pins σ H s -> aJ vs us -> t vs σ H Q ->
    wpAny (model X.prog X.w) X.A (assignInOrder ((assignEach ts X.env).map (·.2)) us) (fun _ s' => ∃ σ' H', am X pins σ' H' s' /\ Q σ' H') X.xe s
abbrev wo := V -> V -> V -> Hp -> (Hp -> Prop) -> Prop
def Cn (X : Cx) (t : wo) : Prop :=
  ∀ (pins : List (Addr × Obj)) (s : Shared) (σ : St) (H : Hp) (o i v : V) (ov iv u : Value) (Q : Hp -> Prop), am X pins σ H s -> bi o ov -> bi i iv -> bi v u -> t o i v H Q ->
    wpAny (model X.prog X.w) X.A (setItem ov iv u) (fun _ s' => ∃ H', am X pins σ H' s' /\ Q H') X.xe s
abbrev Dv := V -> V -> Hp -> VK -> Prop
def PIp (X : Cx) (op : Operator) (t : Dv) : Prop :=
  ∀ (pins : List (Addr × Obj)) (s : Shared) (σ : St) (H : Hp) (x y : V) (v u : Value) (Q : VK), am X pins σ H s -> bi x v -> bi y u -> t x y H Q ->
    wpAny (model X.prog X.w) X.A (inplaceOp op v u) (EP X pins σ Q) X.xe s
section
variable {X : Cx} {pos : Pos}
def xn (i : Nat) : TG := fun v σ H Q => Q (σ.set i (some v)) H
theorem iq {i : Nat} {x : Str} (hN : X.N.Nodup) (hi : X.N[i]? = some x) (hx : rG X.env.scope x) (hf : X.fn x = true \/ X.env.scope.names.lookup x = some .local := by first | exact .inl rfl | exact .inr rfl | assumption) : PG X (.Name x pos) (xn i) := by
  intro pins s σ H v u Q I r h
  exact wpAny_assign_Name (gy I hN hi hx r (fun s' I' => ⟨_, H, I', h⟩) hf)
def EF : lN := fun vs σ H Q => vs = [] /\ Q σ H
def Dj (t : TG) (u : lN) : lN := fun vs σ H Q => ∃ v r, vs = v :: r /\ t v σ H fun σ' H' => u r σ' H' Q
theorem qS : rF X [] EF := by
  intro pins s σ H vs us Q I r h
  obtain ⟨e, h⟩ := h
  subst e
  cases r
  exact assignInOrder_nil ⟨σ, H, I, h⟩
theorem kv {e : Expr} {es : List Expr} {t : TG} {u : lN} (h1 : PG X e t) (h2 : rF X es u)
    (hs : (assignEach (e :: es) X.env).map (·.2) = assign e X.env :: (assignEach es X.env).map (·.2) := by rfl) : rF X (e :: es) (Dj t u) := by
  intro pins s σ H vs us Q I r h
  obtain ⟨v, vr, e1, h⟩ := h
  subst e1
  cases r with
  | cons r rr =>
    rw [hs]
    refine assignInOrder_cons (aL (h1 pins s σ H _ _ _ I r h) fun _ s1 ⟨σ1, H1, I1, q1⟩ => ?_)
    exact h2 pins s1 σ1 H1 _ _ Q I1 rr q1
def EC (K : W.Frag) (n : Nat) (t : lN) : TG := fun v σ H Q => ∃ a xs, v = .ref a /\ cz K H a xs /\ xs.length = n /\ t xs σ H Q
theorem oI {es : List Expr} {k : Nat} {t : lN} {n : Nat} (hc : X.calm = true) (h : rF X es t)
    (hn : (assignEach es X.env).length = n := by rfl) (hst : (assignEach es X.env).findIdx? (·.1) = none := by rfl) : PG X (.Tuple es k pos) (EC X.K n t) := by
  intro pins s σ H v u Q I r hw
  obtain ⟨a, xs, e1, hq, hl, hw⟩ := hw
  subst e1
  cases r
  obtain ⟨its, rv, ht, hz⟩ := I.tuple hq
  refine assign_Tuple_tuple (I.ok.hd hc) ht (by simp [hn, <- hl, rv.length]) hst fun h' hx => ?_
  have I1 : am X pins σ H { s with heap := h' } := I.kept (t' := s.toks) fun b o e => hx b o (Nat.ne_of_lt (Heap.lt_size e)) e
  exact h pins _ σ H xs _ Q I1 (by simpa using rv) hw
def EE (to ti : TE) (t : wo) : TG := fun v σ H Q => to σ H fun o H1 => ti σ H1 fun i H2 => t o i v H2 fun H3 => Q σ H3
theorem AR {o i : Expr} {to ti : TE} {t : wo} (ho : PE X o to) (hi : PE X i ti) (hs : Cn X t)
    (ha : ∀ v, assign (.Subscript o i pos) X.env v = (do
      let ov <- holding [v] (eval o X.env)
      let iv <- holding [v, ov] (eval i X.env)
      standAt pos
      holding [v, ov, iv] (setItem ov iv v)
      release [v, ov, iv] []) := by intro _; rfl) : PG X (.Subscript o i pos) (EE to ti t) := by
  intro pins s σ H v u Q I r h
  rw [ha]
  refine wpAny_bind (wpAny_holding (aL (ho pins s σ H _ I h) fun ov s1 ⟨x, H1, I1, r1, q1⟩ => ?_))
  refine wpAny_bind (wpAny_holding (aL (hi pins s1 σ H1 _ I1 q1) fun iv s2 ⟨y, H2, I2, r2, q2⟩ => ?_))
  refine wpAny_bind (wpAny_standAt (wpAny_bind (wpAny_holding (aL (hs pins s2 σ H2 x y v ov iv u _ I2 r1 r2 r q2) fun _ s3 ⟨H3, I3, q3⟩ => ?_))))
  exact wpAny_release ⟨σ, H3, I3, q3⟩
def Af (te : TE) (g : TG) : TS := fun D σ H => te σ H fun x H1 => g x σ H1 D.nx
theorem kT {tg e : Expr} {te : TE} {g : TG} (he : PE X e te) (hg : PG X tg g) (hs : swapsWithSole [tg] e pos.line X.env = pure false := by rfl) (hw : swappedStores [tg] e X.env = pure none := by rfl)
    (h1 : (assignEach [tg] X.env).map (·.2) = [assign tg X.env] := by rfl) : PS X (.Assign [tg] e pos) (Af te g) := by
  intro pins s σ H D I h
  refine wpAny_Assign_stores (aL (he pins s σ H _ I h) fun v s1 ⟨x, H1, I1, r1, q1⟩ => ?_) hs hw
  rw [h1]
  exact aL (hg pins s1 σ H1 x v _ I1 r1 q1) fun _ s2 q => q
theorem tQ {i : Nat} {x : Str} {e : Expr} {te : TE} {pos' : Pos} (hN : X.N.Nodup) (hi : X.N[i]? = some x) (hx : rG X.env.scope x) (he : PE X e te) (hs : swapsWith e (some (.Name x pos')) pos.line X.env = pure false := by rfl) (hf : X.fn x = true \/ X.env.scope.names.lookup x = some .local := by first | exact .inl rfl | exact .inr rfl | assumption) :
    PS X (.Assign [.Name x pos'] e pos) (Af te (xn i)) := by
  intro pins s σ H D I h
  refine wpAny_Assign_Name (aL (he pins s σ H _ I h) fun v s1 ⟨y, H1, I1, r1, q1⟩ => ?_) hs
  exact gy I1 hN hi hx r1 (fun s2 I2 => ⟨_, H1, I2, q1⟩) hf
def DG (i j : Nat) (ta : TA) : TS := fun D σ H => ta σ H fun vs H1 => ∃ v w, vs = [v, w] /\ D.nx ((σ.set i (some v)).set j (some w)) H1
theorem AM {i j : Nat} {x y : Str} {a b : Expr} {ta : TA} {px py pt : Pos} {kt k2 pt2} (hc : X.calm = true) (hN : X.N.Nodup) (hi : X.N[i]? = some x) (hj : X.N[j]? = some y) (hij : i ≠ j)
    (hx : X.env.scope.names.lookup x = some .local) (hy : X.env.scope.names.lookup y = some .local) (ha : PA X [a, b] ta)
    (hw : swappedStores [.Tuple [.Name x px, .Name y py] kt pt] (.Tuple [a, b] k2 pt2) X.env = pure (some [x, y]))
    (hs : swapsWithSole [.Tuple [.Name x px, .Name y py] kt pt] (.Tuple [a, b] k2 pt2) pos.line X.env = pure false := by rfl) :
    PS X (.Assign [.Tuple [.Name x px, .Name y py] kt pt] (.Tuple [a, b] k2 pt2) pos) (DG i j ta) := by
  intro pins s σ H D I h
  rw [exec_Assign_arm]
  refine wpAny_bind (wpAny_standAt ?_)
  rw [hs]
  refine wpAny_bind (wpAny_pure ?_)
  rw [if_neg (by decide)]
  refine wpAny_bind (Tuple_ (aL (ha _ pins s σ H _ I h) fun us s1 ⟨vs, H1, I1, r1, q1⟩ => ?_))
  obtain ⟨v, w, e1, q1⟩ := q1
  subst e1
  obtain ⟨u1, u2, rfl, rv, rw'⟩ : ∃ u1 u2, us = [u1, u2] /\ bi v u1 /\ bi w u2 := by
    cases r1 with
    | cons p q =>
      cases q with
      | cons p' q' =>
        cases q'
        exact ⟨_, _, rfl, p, p'⟩
  refine wpAny_newObj_type ?_ (by show 2 <= sizeLine; decide)
  have I2 : am X pins σ H1 { s1 with heap := s1.heap.push { cls := .type "tuple", data := .seq [u1, u2].toArray } } := I1.kept (t' := s1.toks) fun b o e => Heap.get?_push_of_some _ e
  rw [hw]
  refine wpAny_bind (wpAny_pure ?_)
  show wpAny (model X.prog X.w) X.A (do rule "assign.swapped-stores"; let items <- unpackItems (.ref s1.heap.objs.size) 2 none; assignInOrder [fun v => bindName X.env y v, fun v => bindName X.env x v] items.reverse; pure Flow.next) _ _ _
  refine wpAny_bind (wpAny_rule (wpAny_bind (unpackItems_tuple (items := #[u1, u2]) (I.ok.hd hc) (IsTup.new s1.heap _) fun h' hx' => ?_)))
  have I3 := I2.kept (h' := h') (t' := s1.toks) fun b o e => hx' b o (Nat.ne_of_lt (Heap.lt_size e)) e
  show wpAny _ _ (assignInOrder [fun v => bindName X.env y v, fun v => bindName X.env x v] [u2, u1] >>= fun _ => pure Flow.next) _ _ _
  refine wpAny_bind (assignInOrder_cons (wpAny_bindName (gy I3 hN hj (.inl hy) rw' (fun s2 I4 => ?_) (.inr hy))))
  refine assignInOrder_cons (wpAny_bindName (gy I4 hN hi (.inl hx) rv (fun s3 I5 => assignInOrder_nil (wpAny_pure ?_)) (.inr hx)))
  rw [List.set_comm _ _ (Ne.symm hij)] at I5
  exact ⟨_, H1, I5, q1⟩
def tAug (i : Nat) (te : TE) (ti : Dv) : TS := fun D σ H => ∃ x, σ[i]? = some (some x) /\ te σ H fun y H1 => ti x y H1 fun z H2 => D.nx (σ.set i (some z)) H2
end
section
variable {X : Cx} {pos : Pos}
def Ac (c : TT) (tb : TS) : TS := fun D σ H => ∃ W : Nat -> St -> Hp -> Prop, (∃ m, W m σ H) /\ ∀ m σ H, W m σ H ->
  c σ H fun b H1 => if b = true then ∃ N : St -> Hp -> Prop, (∀ σ' H', N σ' H' -> ∃ m', m' < m /\ W m' σ' H') /\ tb { D with nx := N, ct := N, bk := D.nx } σ H1 else D.nx σ H1
theorem vm {c : Expr} {body : List Stmt} {tc : TT} {tb : TS} (hp : PassesOwn (model X.prog X.w) X.A X.env X.xe) (hc : PT X c tc) (hb : eJ X body tb) : PS X (.While c body [] pos) (Ac tc tb) := by
  intro pins s σ H D I h
  obtain ⟨W, ⟨m0, w0⟩, turn⟩ := h
  refine wpAny_While (codeAny_whileLoop (fun n s' => ∃ σ' H', am X pins σ' H' s' /\ W n σ' H') ?_ m0 ⟨σ, H, I, w0⟩)
  rintro n s1 ⟨σ1, H1, I1, w1⟩
  refine wpAny_passesOwn hp (aL (hc pins s1 σ1 H1 _ I1 (turn n σ1 H1 w1)) fun b s2 ⟨H2, I2, q2⟩ => ?_)
  cases b with
  | true =>
    obtain ⟨N, hN, q2⟩ := q2
    rw [if_pos rfl]
    refine wpAny_passesOwn hp (aL (hb pins s2 σ1 H2 _ I2 q2) fun f s3 q3 => ?_)
    cases f with
    | next =>
      obtain ⟨σ3, H3, I3, n3⟩ := q3
      obtain ⟨m', hm, w3⟩ := hN σ3 H3 n3
      exact ⟨m', hm, σ3, H3, I3, w3⟩
    | cont =>
      obtain ⟨σ3, H3, I3, n3⟩ := q3
      obtain ⟨m', hm, w3⟩ := hN σ3 H3 n3
      exact ⟨m', hm, σ3, H3, I3, w3⟩
    | brk => exact q3
    | ret v => exact q3
  | false =>
    rw [if_neg Bool.false_ne_true]
    exact wpAny_execs_nil ⟨σ1, H2, I2, q2⟩
end
structure It where
  go : Nat -> Hp -> Prop
  yld : Nat -> Hp -> V -> Hp -> Prop
  stop : Nat -> Hp -> Prop
def fI (X : Cx) (pins : List (Addr × Obj)) (H : Hp) (b : Addr) : Prop :=
  H b = none /\ b ≠ X.env.locals /\ b ∉ X.fs /\ (b ∈ X.ex \/ X.s₀.heap.objs.size <= b) /\ (∀ x c, X.env.cells.lookup x = some c -> c ≠ b) /\ ∀ p ∈ X.pn ++ pins, p.1 ≠ b
theorem am.fpOk {X : Cx} {pins : List (Addr × Obj)} {σ : St} {H H' : Hp} {s : Shared} {b : Addr} (I : am X pins σ H s) (hb : s.heap.objs.size <= b) (hn : H' b = none) : fI X pins H' b := by
  refine ⟨hn, Nat.ne_of_gt (Nat.lt_of_lt_of_le I.lt hb), I.nofs hb, .inr (Nat.le_trans I.sz hb), fun x c e z => ?_, fun p hp z => ?_⟩
  . obtain ⟨v, q⟩ := I.cell x c e
    exact absurd (Nat.lt_of_lt_of_le q.lt (by rw [z]; exact hb)) (Nat.lt_irrefl _)
  . exact absurd (Nat.lt_of_lt_of_le (Heap.lt_size (I.pin p hp).1) (by rw [z]; exact hb)) (Nat.lt_irrefl _)
structure Turn (P : Program) (w : World) (K : W.Frag) (tg : Expr) (J : It) (fp : List Addr) (it : Addr) (tn : Nat -> Heap -> Prop) : Prop where
  mem : it ∈ fp
  obj : ∀ i h, tn i h -> ∀ b ∈ fp, ∃ o, h.get? b = some o /\ ∀ v, o.data ≠ .cell v
  keep : ∀ i h h', tn i h -> (∀ b ∈ fp, ∀ o, h.get? b = some o -> h'.get? b = some o) -> tn i h'
  item : ∀ (X : Cx), X.prog = P -> X.w = w -> X.K = K -> X.calm = true -> ∀ (i : Nat) (pins : List (Addr × Obj)) (s : Shared) (σ : St) (H : Hp) (E : Value -> Shared -> Prop), am X pins σ H s -> (∀ b ∈ fp, fI X pins H b) -> tn i s.heap -> J.go i H ->
    wpAny (model P w) X.A (pyNext (.ref it)) (fun r s1 => ∃ u, r = some u /\
      wpAny (model P w) X.A (letOwnedTupleGo tg (.ref it) u) (fun _ s2 => ∃ x H', am X pins σ H' s2 /\ bi x u /\ J.yld i H x H' /\ tn (i + 1) s2.heap /\ ∀ b ∈ fp, H' b = none) E s1) E s
  done : ∀ (X : Cx), X.prog = P -> X.w = w -> X.K = K -> X.calm = true -> ∀ (i : Nat) (pins : List (Addr × Obj)) (s : Shared) (σ : St) (H : Hp) (E : Value -> Shared -> Prop), am X pins σ H s -> (∀ b ∈ fp, fI X pins H b) -> tn i s.heap -> J.stop i H ->
    wpAny (model P w) X.A (pyNext (.ref it)) (fun r s1 => r = none /\ am X pins σ H s1) E s
  self : ∀ (A : Around) (i : Nat) (s : Shared) (Q : Value -> Shared -> Prop) (E : Value -> Shared -> Prop), tn i s.heap -> Q (.ref it) s -> wpAny (model P w) A (pyIter (.ref it)) Q E s
abbrev TI := St -> Hp -> (It -> Hp -> Prop) -> Prop
def Dw (X : Cx) (pins : List (Addr × Obj)) (σ : St) (tg : Expr) (R : It -> Hp -> Prop) (itv : Value) (s2 : Shared) : Prop :=
  ∃ (it : Addr) (fp : List Addr) (tn : Nat -> Heap -> Prop) (J : It) (H' : Hp), itv = .ref it /\ am X pins σ H' s2 /\ Turn X.prog X.w X.K tg J fp it tn /\ tn 0 s2.heap /\ (∀ b ∈ fp, fI X pins H' b) /\ R J H'
def PI (X : Cx) (tg iter : Expr) (wi : TI) : Prop :=
  ∀ (pins : List (Addr × Obj)) (s : Shared) (σ : St) (H : Hp) (R : It -> Hp -> Prop), am X pins σ H s -> wi σ H R ->
    wpAny (model X.prog X.w) X.A (eval iter X.env) (fun v s1 => wpAny (model X.prog X.w) X.A (pyIter v) (Dw X pins σ tg R) X.xe s1) X.xe s
theorem sA {M : Model} {A : Around} {E : Value -> Shared -> Prop} {s : Shared} {tg : Expr} {it : Addr} {u : Value} {o : Obj} {n : String} {vs : Array Value} {Q : Unit -> Shared -> Prop} (ho : s.heap.get? it = some o) (hc : o.cls = .type n) (hd : o.data = .fields vs)
    (hn : ["enumerate", "zip", "dict_itemiterator", "dict_reverseitemiterator", "odict_iterator", "itertools.zip_longest", "itertools.pairwise"].contains n = false) (hQ : Q () s) : wpAny M A (letOwnedTupleGo tg (.ref it) u) Q E s := by
  unfold letOwnedTupleGo
  cases tg <;> first
    | exact wpAny_pure hQ
    | (cases u <;> first
        | exact wpAny_pure hQ
        | (refine wpAny_bind (wpAny_load ho ?_)
           rw [hc, hd]
           show wpAny M A (if (["enumerate", "zip", "dict_itemiterator", "dict_reverseitemiterator", "odict_iterator", "itertools.zip_longest", "itertools.pairwise"].contains n && vs[0]? == some (rawInt _)) = true then _ else _) Q E s
           rw [if_neg (by intro h; rw [hn, Bool.false_and] at h; cases h)]
           exact wpAny_pure hQ))
def Dz (K : W.Frag) (a : Addr) : It :=
  ⟨fun i H => ∃ xs x, cA K H a xs /\ xs[i]? = some x, fun i H x H' => H' = H /\ ∀ xs, cA K H a xs -> xs[i]? = some x, fun i H => ∃ xs, cA K H a xs /\ xs.length <= i⟩
def Dy (K : W.Frag) (a : Addr) : It :=
  ⟨fun i H => ∃ xs x, cz K H a xs /\ xs[i]? = some x, fun i H x H' => H' = H /\ ∀ xs, cz K H a xs -> xs[i]? = some x, fun i H => ∃ xs, cz K H a xs /\ xs.length <= i⟩
def xG (lo : Int) (n : Nat) : It := ⟨fun i _ => i < n, fun i H x H' => H' = H /\ x = .int (lo + i), fun i _ => n <= i⟩
theorem tf {P : Program} {w : World} {K : W.Frag} {tg : Expr} (a it : Addr) : Turn P w K tg (Dz K a) [it] it (fun i h => h.IsListIter it a i) where
  mem := by simp
  obj := fun i h st b hb => by
    have e : b = it := by simpa using hb
    subst e
    obtain ⟨o, e, c, d⟩ := st
    exact ⟨o, e, fun v z => by rw [d] at z; cases z⟩
  keep := fun i h h' st k => st.at fun o e => k it (by simp) o e
  item := by
    intro X hP hw hK hc i pins s σ H E I hf st hg
    subst hP hw hK
    obtain ⟨xs, x, hq, hx⟩ := hg
    obtain ⟨its, rv, p, hz⟩ := I.list hq
    obtain ⟨u, hu, ru⟩ := rv.get hx
    obtain ⟨f0, f1, f2, f3, f4, f5⟩ := hf it (by simp)
    refine wpAny_pyNext_list_item st p.isList (x := u) (by simpa using hu) fun h' st' sb => ?_
    have I1 : am X pins σ H { s with heap := h' } := I.turned (t' := s.toks) (fun b o hb e => (sb.2 b hb).trans e) f0 f1 f3 f4 f5
    obtain ⟨o, e, c, d⟩ := id st'
    exact ⟨u, rfl, sA (s := { s with heap := h' }) e c d (by decide) ⟨x, H, I1, ru, ⟨rfl, fun ys hy => by rw [I.list_inj hy hq]; exact hx⟩, st', fun b hb => (hf b hb).1⟩⟩
  done := by
    intro X hP hw hK hc i pins s σ H E I hf st hg
    subst hP hw hK
    obtain ⟨xs, hq, hx⟩ := hg
    obtain ⟨its, rv, p, hz⟩ := I.list hq
    obtain ⟨f0, f1, f2, f3, f4, f5⟩ := hf it (by simp)
    have hl := rv.length
    exact wpAny_pyNext_list_end (I.ok.hd hc) st p.isList (by simp; omega) fun h' eb => ⟨rfl, I.turned (t' := s.toks) (fun b o hb e => eb b o hb e) f0 f1 f3 f4 f5⟩
  self := fun _ _ _ _ _ st h => wpAny_pyIter_listiter st h
theorem rK {P : Program} {w : World} {K : W.Frag} {tg : Expr} (a it : Addr) : Turn P w K tg (Dy K a) [it] it (fun i h => h.IsTupleIter it a i) where
  mem := by simp
  obj := fun i h st b hb => by
    have e : b = it := by simpa using hb
    subst e
    obtain ⟨o, e, c, d⟩ := st
    exact ⟨o, e, fun v z => by rw [d] at z; cases z⟩
  keep := fun i h h' st k => st.at fun o e => k it (by simp) o e
  item := by
    intro X hP hw hK hc i pins s σ H E I hf st hg
    subst hP hw hK
    obtain ⟨xs, x, hq, hx⟩ := hg
    obtain ⟨its, rv, p, hz⟩ := I.tuple hq
    obtain ⟨u, hu, ru⟩ := rv.get hx
    obtain ⟨f0, f1, f2, f3, f4, f5⟩ := hf it (by simp)
    refine wpAny_pyNext_tuple_item st (show s.heap.IsTuple a its.toArray from p) (x := u) (by simpa using hu) fun h' st' sb => ?_
    have I1 : am X pins σ H { s with heap := h' } := I.turned (t' := s.toks) (fun b o hb e => (sb.2 b hb).trans e) f0 f1 f3 f4 f5
    obtain ⟨o, e, c, d⟩ := id st'
    exact ⟨u, rfl, sA (s := { s with heap := h' }) e c d (by decide) ⟨x, H, I1, ru, ⟨rfl, fun ys hy => by rw [I.tuple_inj hy hq]; exact hx⟩, st', fun b hb => (hf b hb).1⟩⟩
  done := by
    intro X hP hw hK hc i pins s σ H E I hf st hg
    subst hP hw hK
    obtain ⟨xs, hq, hx⟩ := hg
    obtain ⟨its, rv, p, hz⟩ := I.tuple hq
    obtain ⟨f0, f1, f2, f3, f4, f5⟩ := hf it (by simp)
    have hl := rv.length
    exact wpAny_pyNext_tuple_end (I.ok.hd hc) st (show s.heap.IsTuple a its.toArray from p) (by simp; omega) fun h' eb => ⟨rfl, I.turned (t' := s.toks) (fun b o hb e => eb b o hb e) f0 f1 f3 f4 f5⟩
  self := fun _ _ _ _ _ st h => wpAny_pyIter_tupleiter st h
theorem rL {P : Program} {w : World} {K : W.Frag} {tg : Expr} (it : Addr) (lo : Int) (n : Nat) : Turn P w K tg (xG lo n) [it] it (fun i h => IsRangeIter h it (lo + (i : Nat) * 1) ((n : Int) - (i : Nat)) 1) where
  mem := by simp
  obj := fun i h st b hb => by
    have e : b = it := by simpa using hb
    subst e
    exact ⟨_, st, fun v z => by
      have z' : Data.fields _ = Data.cell v := z
      cases z'⟩
  keep := fun i h h' st k => k it (by simp) _ st
  item := by
    intro X hP hw hK hc i pins s σ H E I hf st hg
    subst hP hw hK
    obtain ⟨f0, f1, f2, f3, f4, f5⟩ := hf it (by simp)
    have W := Walks.range (prog := X.prog) (w := X.w) (I.ok.hd hc) it lo 1 n
    refine W.item i s _ _ hg st fun v h' tk hv st' kk => ?_
    obtain ⟨t, rfl⟩ := hv
    have I1 : am X pins σ H { s with heap := h', toks := tk } := I.turned (fun b o hb e => kk b o (by simpa using hb) e) f0 f1 f3 f4 f5
    refine ⟨_, rfl, sA (s := { s with heap := h', toks := tk }) (n := "range_iterator") st' rfl rfl (by decide) ⟨.int (lo + i), H, I1, ⟨t, ?_⟩, ⟨rfl, rfl⟩, st', fun b hb => (hf b hb).1⟩⟩
    rw [Int.mul_one]
  done := by
    intro X hP hw hK hc i pins s σ H E I hf st hg
    subst hP hw hK
    obtain ⟨f0, f1, f2, f3, f4, f5⟩ := hf it (by simp)
    exact wpAny_pyNext_range_end (I.ok.hd hc) st (by have : n <= i := hg; omega) fun h' eb => ⟨rfl, I.turned (t' := s.toks) (fun b o hb e => eb b o hb e) f0 f1 f3 f4 f5⟩
  self := fun _ _ _ _ _ st h => wpAny_pyIter_rangeiter st h
end L2
namespace L2
open PySem PySem.Spec PyProof.Rows
section
variable {X : Cx} {tg : Expr}
def Di (K : W.Frag) (tl : TE) : TI := fun σ H R => tl σ H fun x H1 => ∃ a, x = .ref a /\ (∃ xs, cA K H1 a xs) /\ R (Dz K a) H1
def EA (K : W.Frag) (tl : TE) : TI := fun σ H R => tl σ H fun x H1 => ∃ a, x = .ref a /\ (∃ xs, cz K H1 a xs) /\ R (Dy K a) H1
theorem yw {l : Expr} {tl : TE} (hl : PE X l tl) : PI X tg l (Di X.K tl) := by
  intro pins s σ H R I h
  refine aL (hl pins s σ H _ I h) fun v s1 ⟨x, H1, I1, r1, q1⟩ => ?_
  obtain ⟨a, e, ⟨xs, hq⟩, q⟩ := q1
  subst e
  cases r1
  obtain ⟨its, rv, p, hz⟩ := I1.list hq
  refine wpAny_pyIter_list p.isList ?_
  refine ⟨s1.heap.objs.size, [s1.heap.objs.size], _, _, H1, rfl, I1.kept (t' := s1.toks) fun b o e => Heap.get?_push_of_some _ e, tf a _, ⟨_, Heap.get?_push_size _ rfl, rfl, rfl⟩, fun b hb => ?_, q⟩
  have e : b = s1.heap.objs.size := by simpa using hb
  subst e
  exact I1.fpOk (Nat.le_refl _) (I1.hok.fresh (Nat.le_refl _))
theorem AQ {l : Expr} {tl : TE} (hl : PE X l tl) : PI X tg l (EA X.K tl) := by
  intro pins s σ H R I h
  refine aL (hl pins s σ H _ I h) fun v s1 ⟨x, H1, I1, r1, q1⟩ => ?_
  obtain ⟨a, e, ⟨xs, hq⟩, q⟩ := q1
  subst e
  cases r1
  obtain ⟨its, rv, p, hz⟩ := I1.tuple hq
  refine wpAny_pyIter_tuple (show s1.heap.IsTuple a its.toArray from p) ?_
  refine ⟨s1.heap.objs.size, [s1.heap.objs.size], _, _, H1, rfl, I1.kept (t' := s1.toks) fun b o e => Heap.get?_push_of_some _ e, rK a _, ⟨_, Heap.get?_push_size _ rfl, rfl, rfl⟩, fun b hb => ?_, q⟩
  have e : b = s1.heap.objs.size := by simpa using hb
  subst e
  exact I1.fpOk (Nat.le_refl _) (I1.hok.fresh (Nat.le_refl _))
theorem oE {pins : List (Addr × Obj)} {σ : St} {H : Hp} {s : Shared} {R : It -> Hp -> Prop} {E : Value -> Shared -> Prop} {lo hi : Int} {t u v : Tok} {tk : Nat} (I : am X pins σ H s) (h1 : -(2 ^ 62) <= lo) (h2 : lo < 2 ^ 62) (h3 : -(2 ^ 62) <= hi) (h4 : hi < 2 ^ 62)
    (q : R (xG lo (hi - lo).toNat) H) : wpAny (model X.prog X.w) X.A (pyIter (.ref s.heap.objs.size)) (Dw X pins σ tg R) E { s with heap := s.heap.push { cls := .type "range", data := .fields #[.int lo t, .int hi u, .int 1 v] }, toks := tk } := by
  refine wpAny_pyIter_range (IsRange.new ..) (small_one h1 h2 h3 h4) ?_
  have I1 : am X pins σ H { s with heap := s.heap.push { cls := .type "range", data := .fields #[.int lo t, .int hi u, .int 1 v] }, toks := tk } := I.kept fun b o e => Heap.get?_push_of_some _ e
  refine ⟨(s.heap.push { cls := .type "range", data := .fields #[.int lo t, .int hi u, .int 1 v] }).objs.size, [(s.heap.push { cls := .type "range", data := .fields #[.int lo t, .int hi u, .int 1 v] }).objs.size], _, _, H, rfl,
    I1.kept (t' := tk) fun b o e => Heap.get?_push_of_some _ e, rL _ lo (hi - lo).toNat, ?_, fun b hb => ?_, q⟩
  . have e1 : lo + ((0 : Nat) : Int) * 1 = lo := by simp
    have e2 : (((hi - lo).toNat : Nat) : Int) - ((0 : Nat) : Int) = Builtin.Range.rangeSize lo hi 1 := by rw [rangeSize_one]; split <;> omega
    show IsRangeIter _ _ (lo + ((0 : Nat) : Int) * 1) ((((hi - lo).toNat : Nat) : Int) - ((0 : Nat) : Int)) 1
    rw [e1, e2]
    exact Heap.get?_push_size _ rfl
  . have e : b = (s.heap.push { cls := .type "range", data := .fields #[.int lo t, .int hi u, .int 1 v] }).objs.size := by simpa using hb
    subst e
    exact I1.fpOk (Nat.le_refl _) (I1.hok.fresh (Nat.le_refl _))
def Dh (ta : TA) : TI := fun σ H R => ta σ H fun vs H1 => ∃ j : Int, vs = [.int j] /\ -(2 ^ 62) <= j /\ j < 2 ^ 62 /\ R (xG 0 j.toNat) H1
def Dg (ta : TA) : TI := fun σ H R => ta σ H fun vs H1 => ∃ i j : Int, vs = [.int i, .int j] /\ (-(2 ^ 62) <= i /\ i < 2 ^ 62 /\ -(2 ^ 62) <= j /\ j < 2 ^ 62) /\ R (xG i (j - i).toNat) H1
theorem tT {a : Expr} {ta : TA} {p pos : Pos} (hg : Gl X "range") (hm : X.mg "range" = none) (ha : PA X [a] ta) (hs : starEach [a] X.env = [(false, eval a X.env)] := by rfl) : PI X tg (.Call (.Name "range" p) [a] [] pos) (Dh ta) := by
  intro pins s σ H R I h
  refine Call_ (iu I hg hm boot_range (PyProof.Rows.callWith_type1 (aL (ha pos pins s σ H _ I h) fun us s1 ⟨vs, H1, I1, r1, q1⟩ => ?_) hs rfl))
  obtain ⟨j, e, q1, q2, q⟩ := q1
  subst e
  cases r1 with
  | cons r rr =>
    cases rr
    obtain ⟨t, rfl⟩ := r
    exact call_range_1 (oE I1 (by omega) (by omega) q1 q2 (by simpa using q))
theorem tS {a b : Expr} {ta : TA} {p pos : Pos} (hg : Gl X "range") (hm : X.mg "range" = none) (ha : PA X [a, b] ta) (hs : starEach [a, b] X.env = [(false, eval a X.env), (false, eval b X.env)] := by rfl) (hs2 : starEach [b] X.env = [(false, eval b X.env)] := by rfl) :
    PI X tg (.Call (.Name "range" p) [a, b] [] pos) (Dg ta) := by
  intro pins s σ H R I h
  refine Call_ (iu I hg hm boot_range (PyProof.Rows.callWith_type1 (aL (ha pos pins s σ H _ I h) fun us s1 ⟨vs, H1, I1, r1, q1⟩ => ?_) (by rw [hs, hs2]) (by rw [hs2]; rfl)))
  obtain ⟨i, j, e, ⟨q1, q2, q3, q4⟩, q⟩ := q1
  subst e
  cases r1 with
  | cons r rr =>
    cases rr with
    | cons r' rr =>
      cases rr
      obtain ⟨t, rfl⟩ := r
      obtain ⟨t', rfl⟩ := r'
      exact call_range_2 (oE I1 q1 q2 q3 q4 q)
def DL (wi : TI) (g : TG) (tb : TS) : TS := fun D σ H => wi σ H fun J H1 => ∃ W : Nat -> Nat -> St -> Hp -> Prop, (∃ m, W 0 m σ H1) /\ ∀ i m σ H, W i m σ H ->
  (J.stop i H /\ D.nx σ H) \/ (J.go i H /\ ∃ N : St -> Hp -> Prop, (∀ σ' H', N σ' H' -> ∃ m', m' < m /\ W (i + 1) m' σ' H') /\ ∀ x H', J.yld i H x H' -> g x σ H' fun σ2 H2 => tb { D with nx := N, ct := N, bk := D.nx } σ2 H2)
def jl (fp : List Addr) (h : Heap) : List (Addr × Obj) := fp.filterMap fun b => (h.get? b).map fun o => (b, o)
theorem gk {fp : List Addr} {h : Heap} {b : Addr} {o : Obj} (hb : b ∈ fp) (e : h.get? b = some o) : (b, o) ∈ jl fp h := List.mem_filterMap.mpr ⟨b, hb, by rw [e]; rfl⟩
theorem tX {fp : List Addr} {h : Heap} {p : Addr × Obj} (hp : p ∈ jl fp h) : p.1 ∈ fp /\ h.get? p.1 = some p.2 := by
  obtain ⟨b, hb, e⟩ := List.mem_filterMap.mp hp
  cases q : h.get? b with
  | none => rw [q] at e; cases e
  | some o =>
    rw [q] at e
    have e' : (b, o) = p := Option.some.inj e
    subst e'
    exact ⟨hb, q⟩
theorem am.pinned {pins : List (Addr × Obj)} {σ : St} {H : Hp} {s : Shared} {fp : List Addr} (I : am X pins σ H s) (hf : ∀ b ∈ fp, fI X pins H b) (ho : ∀ b ∈ fp, ∃ o, s.heap.get? b = some o /\ ∀ v, o.data ≠ .cell v) : am X (pins ++ jl fp s.heap) σ H s :=
  I.pins_of fun p hp => (List.mem_append.mp hp).elim (fun z => I.pin p (List.mem_append_right _ z)) fun z => by
    obtain ⟨hb, e⟩ := tX z
    obtain ⟨f0, f1, f2, _⟩ := hf p.1 hb
    obtain ⟨o, e', d⟩ := ho p.1 hb
    rw [e] at e'; cases e'
    exact ⟨e, f0, f1, f2, d⟩
theorem am.unpinned {pins pl : List (Addr × Obj)} {σ : St} {H : Hp} {s : Shared} (I : am X (pins ++ pl) σ H s) : am X pins σ H s := I.pins_of fun p hp => I.pin p (List.mem_append_right _ (List.mem_append_left _ hp))
theorem AN {iter : Expr} {body : List Stmt} {wi : TI} {g : TG} {tb : TS} {pos : Pos} (hp : PassesOwn (model X.prog X.w) X.A X.env X.xe) (hc : X.calm = true) (hi : PI X tg iter wi) (hg : PG X tg g) (hb : eJ X body tb)
    (hs : ∀ x, foldedSetIterable iter X.env x = pure x := by intro _; rfl) : PS X (.For tg iter body [] pos) (DL wi g tb) := by
  intro pins s σ H D I h
  refine wpAny_For (aL (hi pins s σ H _ I h) fun v s1 h1 => aL h1 fun itv s2 h2 => ?_) hs
  obtain ⟨it, fp, tn, J, H2, e, I2, T, st2, f2, W, ⟨m0, w0⟩, turn⟩ := h2
  subst e
  have stat : ∀ {H' : Hp}, (∀ b ∈ fp, H' b = none) -> ∀ b ∈ fp, fI X pins H' b := fun hn b hb => ⟨hn b hb, (f2 b hb).2⟩
  refine codeAny_forLoop_any (fun n s' => ∃ i σ' H', am X pins σ' H' s' /\ tn i s'.heap /\ (∀ b ∈ fp, H' b = none) /\ W i n σ' H') ?_ m0 ⟨0, σ, H2, I2, st2, fun b hb => (f2 b hb).1, w0⟩
  rintro n s3 ⟨i, σ3, H3, I3, st3, fr3, w3⟩
  rcases turn i n σ3 H3 w3 with ⟨stop, qn⟩ | ⟨go, N, hN, step⟩
  . refine wpAny_passesOwn hp (aL (T.done X rfl rfl rfl hc i pins s3 σ3 H3 X.xe I3 (stat fr3) st3 stop) fun r s4 ⟨hr, I4⟩ => ?_)
    subst hr
    exact wpAny_execs_nil ⟨σ3, H3, I4, qn⟩
  . refine wpAny_passesOwn hp (aL (T.item X rfl rfl rfl hc i pins s3 σ3 H3 X.xe I3 (stat fr3) st3 go) fun r s4 ⟨u, hr, h4⟩ => ?_)
    subst hr
    refine wpAny_passesOwn hp (aL h4 fun _ s5 ⟨x, H5, I5, r5, y5, st5, fr5⟩ => ?_)
    have I5' := I5.pinned (stat fr5) (T.obj _ _ st5)
    refine wpAny_passesOwn hp (aL (hg _ s5 σ3 H5 x u _ I5' r5 (step x H5 y5)) fun _ s6 ⟨σ6, H6, I6, q6⟩ => ?_)
    refine wpAny_passesOwn hp (aL (hb _ s6 σ6 H6 _ I6 q6) fun f s7 q7 => ?_)
    have again : ∀ {σ7 : St} {H7 : Hp}, am X (pins ++ jl fp s5.heap) σ7 H7 s7 -> N σ7 H7 -> ∃ m, m < n /\ ∃ i σ' H', am X pins σ' H' s7 /\ tn i s7.heap /\ (∀ b ∈ fp, H' b = none) /\ W i m σ' H' := fun {σ7 H7} I7 n7 => by
      obtain ⟨m', hm, w7⟩ := hN σ7 H7 n7
      refine ⟨m', hm, i + 1, σ7, H7, I7.unpinned, T.keep _ _ _ st5 fun b hb o e => (I7.pin (b, o) (List.mem_append_right _ (List.mem_append_right _ (gk hb e)))).1, fun b hb => ?_, w7⟩
      obtain ⟨o, e, d⟩ := T.obj _ _ st5 b hb
      exact (I7.pin (b, o) (List.mem_append_right _ (List.mem_append_right _ (gk hb e)))).2.1
    cases f with
    | next => obtain ⟨σ7, H7, I7, n7⟩ := q7; exact again I7 n7
    | cont => obtain ⟨σ7, H7, I7, n7⟩ := q7; exact again I7 n7
    | brk => obtain ⟨σ7, H7, I7, q7⟩ := q7; exact ⟨σ7, H7, I7.unpinned, q7⟩
    | ret v => obtain ⟨x7, σ7, H7, I7, r7, q7⟩ := q7; exact ⟨x7, σ7, H7, I7.unpinned, r7, q7⟩
end
end L2
namespace L2
open PySem PySem.Spec PyProof.Rows
abbrev R2 := V -> V -> Hp -> VK -> Prop
def dr (X : Cx) (f : Value -> Value -> Sem Value) (r : R2) : Prop :=
  ∀ (pins : List (Addr × Obj)) (s : Shared) (σ : St) (H : Hp) (x y : V) (v u : Value) (Q : VK), am X pins σ H s -> bi x v -> bi y u -> r x y H Q ->
    wpAny (model X.prog X.w) X.A (f v u) (EP X pins σ Q) X.xe s
def Ck (X : Cx) (f : Value -> Sem Value) (r : V -> Hp -> VK -> Prop) : Prop :=
  ∀ (pins : List (Addr × Obj)) (s : Shared) (σ : St) (H : Hp) (x : V) (v : Value) (Q : VK), am X pins σ H s -> bi x v -> r x H Q ->
    wpAny (model X.prog X.w) X.A (f v) (EP X pins σ Q) X.xe s
def c7 (X : Cx) (f : Value) (r : List V -> Hp -> VK -> Prop) : Prop :=
  ∀ (pins : List (Addr × Obj)) (s : Shared) (σ : St) (H : Hp) (xs : List V) (us : List Value) (Q : VK), am X pins σ H s -> aJ xs us -> r xs H Q ->
    wpAny (model X.prog X.w) X.A (call f us) (EP X pins σ Q) X.xe s
def Dr (r : R2) (ta tb : TE) : TE := fun σ H Q => ta σ H fun x H1 => tb σ H1 fun y H2 => r x y H2 Q
def E6 (r : V -> Hp -> VK -> Prop) (ta : TE) : TE := fun σ H Q => ta σ H fun x H1 => r x H1 Q
def rI (C : Int -> Int -> Prop) (g : Int -> Int -> V) : R2 := fun x y H Q => ∃ i j, x = .int i /\ y = .int j /\ C i j /\ Q (g i j) H
def j5 (g : Int -> Int -> V) : R2 := fun x y H Q => ∃ i j, x = .int i /\ y = .int j /\ Q (g i j) H
def rU (g : Int -> V) : V -> Hp -> VK -> Prop := fun x H Q => ∃ i, x = .int i /\ Q (g i) H
section
variable {X : Cx} {a b c : Expr} {ta tb tc : TE} {pos : Pos}
theorem Cd (ha : PE X a ta) (hb : PE X b tb) {pins : List (Addr × Obj)} {s : Shared} {σ : St} {H : Hp} {R : V -> V -> Hp -> Prop} (I : am X pins σ H s)
    (h : ta σ H fun x H1 => tb σ H1 fun y H2 => R x y H2) {Q : Value -> Shared -> Prop} {f : Value -> Value -> Sem Value}
    (hf : ∀ v u s2 x y H2, am X pins σ H2 s2 -> bi x v -> bi y u -> R x y H2 -> wpAny (model X.prog X.w) X.A (f v u) Q X.xe s2) :
    wpAny (model X.prog X.w) X.A (eval a X.env) (fun v s₁ => wpAny (model X.prog X.w) X.A (eval b X.env) (fun u s₂ => wpAny (model X.prog X.w) X.A (f v u) Q X.xe s₂) X.xe s₁) X.xe s := by
  refine aL (ha pins s σ H _ I h) fun v s1 ⟨x, H1, I1, r1, q1⟩ => ?_
  refine aL (hb pins s1 σ H1 _ I1 q1) fun u s2 ⟨y, H2, I2, r2, q2⟩ => ?_
  exact hf v u s2 x y H2 I2 r1 r2 q2
theorem CT {op : Operator} {r : R2} (ho : dr X (binaryOp op) r) (ha : PE X a ta) (hb : PE X b tb) : PE X (.BinOp a op b pos) (Dr r ta tb) := by
  intro pins s σ H Q I h
  exact wpAny_BinOp (Cd ha hb I h fun v u s2 x y H2 I2 rx ry q => ho pins s2 σ H2 x y v u Q I2 rx ry q)
theorem CS {op : UnaryOp} {r : V -> Hp -> VK -> Prop} (ho : Ck X (unaryOp op) r) (ha : PE X a ta) : PE X (.UnaryOp op a pos) (E6 r ta) := by
  intro pins s σ H Q I h
  exact UnaryOp_ (aL (ha pins s σ H _ I h) fun v s1 ⟨x, H1, I1, r1, q1⟩ => ho pins s1 σ H1 x v Q I1 r1 q1)
theorem wW {f : Value -> Value -> Sem Value} {C : Int -> Int -> Prop} {g : Int -> Int -> Int}
    (rule : ∀ (i j : Int) (t u : Tok) (s : Shared) (Q : Value -> Shared -> Prop) (E : Value -> Shared -> Prop), C i j -> Q (.int (g i j) s.toks) { s with toks := s.toks + 1 } -> wpAny (model X.prog X.w) X.A (f (.int i t) (.int j u)) Q E s) :
    dr X f (rI C fun i j => .int (g i j)) := by
  intro pins s σ H x y v u Q I rx ry h
  obtain ⟨i, j, rfl, rfl, hc, q⟩ := h
  obtain ⟨t, rfl⟩ := rx
  obtain ⟨t', rfl⟩ := ry
  exact rule i j t t' s _ _ hc ⟨.int (g i j), H, I.tok _, ⟨_, rfl⟩, q⟩
theorem Bd {f : Value -> Value -> Sem Value} {g : Int -> Int -> Int}
    (rule : ∀ (i j : Int) (t u : Tok) (s : Shared) (Q : Value -> Shared -> Prop) (E : Value -> Shared -> Prop), Q (.int (g i j) s.toks) { s with toks := s.toks + 1 } -> wpAny (model X.prog X.w) X.A (f (.int i t) (.int j u)) Q E s) :
    dr X f (j5 fun i j => .int (g i j)) := by
  intro pins s σ H x y v u Q I rx ry h
  obtain ⟨i, j, rfl, rfl, q⟩ := h
  obtain ⟨t, rfl⟩ := rx
  obtain ⟨t', rfl⟩ := ry
  exact rule i j t t' s _ _ ⟨.int (g i j), H, I.tok _, ⟨_, rfl⟩, q⟩
theorem se {f : Value -> Value -> Sem Value} {g : Int -> Int -> Bool}
    (rule : ∀ (i j : Int) (t u : Tok) (s : Shared) (Q : Value -> Shared -> Prop) (E : Value -> Shared -> Prop), Q (.bool (g i j)) s -> wpAny (model X.prog X.w) X.A (f (.int i t) (.int j u)) Q E s) :
    dr X f (j5 fun i j => .bl (g i j)) := by
  intro pins s σ H x y v u Q I rx ry h
  obtain ⟨i, j, rfl, rfl, q⟩ := h
  obtain ⟨t, rfl⟩ := rx
  obtain ⟨t', rfl⟩ := ry
  exact rule i j t t' s _ _ ⟨.bl (g i j), H, I, rfl, q⟩
def EW (i j : Int) : Prop := 0 <= j /\ j <= 1000000 /\ i.natAbs < 2 ^ 64
theorem Bc : dr X (binaryOp .Add) (j5 fun i j => .int (i + j)) := Bd fun _ _ _ _ _ _ _ q => add_int q
theorem A9 : dr X (binaryOp .Sub) (j5 fun i j => .int (i - j)) := Bd fun _ _ _ _ _ _ _ q => sub_int q
theorem yF : dr X (binaryOp .Mod) (rI (fun _ j => j ≠ 0) fun i j => .int (i.fmod j)) := wW fun _ _ _ _ _ _ _ hc q => mod_int' hc q
theorem Ba : dr X (binaryOp .Pow) (rI EW fun i j => .int (i ^ j.toNat)) := wW fun _ _ _ _ _ _ _ hc q => pow_int_small hc.1 hc.2.1 hc.2.2 q
theorem EY {f : Value -> Sem Value} {g : Int -> Int}
    (rule : ∀ (i : Int) (t : Tok) (s : Shared) (Q : Value -> Shared -> Prop) (E : Value -> Shared -> Prop), Q (.int (g i) s.toks) { s with toks := s.toks + 1 } -> wpAny (model X.prog X.w) X.A (f (.int i t)) Q E s) :
    Ck X f (rU fun i => .int (g i)) := by
  intro pins s σ H x v Q I rx h
  obtain ⟨i, rfl, q⟩ := h
  obtain ⟨t, rfl⟩ := rx
  exact rule i t s _ _ ⟨.int (g i), H, I.tok _, ⟨_, rfl⟩, q⟩
theorem zP : Ck X (unaryOp .USub) (rU fun i => .int (-i)) := EY fun _ _ _ _ _ q => neg_int q
end
section
variable {X : Cx} {a b c : Expr} {ta tb tc : TE} {pos : Pos}
theorem uz {pins : List (Addr × Obj)} {σ : St} {H : Hp} {s : Shared} {Q : VK} {k k' : Bool} (I : am X pins σ H s) (q : Q (.bl k) H) (e : k = k') : EP X pins σ Q (.bool k') s := by
  subst e
  exact ⟨.bl k, H, I, rfl, q⟩
theorem CW : dr X (compareOp .Lt) (j5 fun i j => .bl (decide (i < j))) := se fun _ _ _ _ _ _ _ q => lt_int q
theorem CY : dr X (compareOp .LtE) (j5 fun i j => .bl (decide (i <= j))) := se fun _ _ _ _ _ _ _ q => le_int q
theorem CZ : dr X (compareOp .Gt) (j5 fun i j => .bl (decide (j < i))) := se fun _ _ _ _ _ _ _ q => gt_int q
theorem C2 : dr X (compareOp .GtE) (j5 fun i j => .bl (decide (j <= i))) := se fun _ _ _ _ _ _ _ q => ge_int q
theorem Bb : dr X (compareOp .Is) (fun x y H Q => y = .non /\ Q (.bl (decide (x = .non))) H) := by
  intro pins s σ H x y v u Q I rx ry h
  obtain ⟨rfl, q⟩ := h
  cases ry
  refine is_none_gen (uz I q ?_)
  cases x <;> first
    | (cases rx; rfl)
    | (obtain ⟨t, rfl⟩ := rx; rfl)
theorem yD : dr X (compareOp .IsNot) (fun x y H Q => y = .non /\ Q (.bl (!decide (x = .non))) H) := by
  intro pins s σ H x y v u Q I rx ry h
  obtain ⟨rfl, q⟩ := h
  cases ry
  refine isnot_none_gen (uz I q ?_)
  cases x <;> first
    | (cases rx; rfl)
    | (obtain ⟨t, rfl⟩ := rx; rfl)
def Cv (t : TE) : TT := fun σ H Q => t σ H fun x H' => ∃ k, x = .bl k /\ Q k H'
def tE (r r' : R2) (ta tb tc : TE) : TE := fun σ H Q => ta σ H fun x H1 => tb σ H1 fun y H2 => r x y H2 fun z H3 => ∃ k, z = .bl k /\
  (if k = true then tc σ H3 fun w' H4 => r' y w' H4 Q else Q (.bl false) H3)
theorem vt {op op' : CmpOp} {r r' : R2} (ho : dr X (compareOp op) r) (ho' : dr X (compareOp op') r') (ha : PE X a ta) (hb : PE X b tb) (hc : PE X c tc)
    (hm : lastMarks [op, op'] [b, c] = false := by with_unfolding_all rfl) : PE X (.Compare a [op, op'] [b, c] pos) (tE r r' ta tb tc) := by
  intro pins s σ H Q I h
  refine Compare_chain (aL (ha pins s σ H _ I h) fun v s1 ⟨x, H1, I1, r1, q1⟩ => chain_link (aL (hb pins s1 σ H1 _ I1 q1) fun u s2 ⟨y, H2, I2, r2, q2⟩ =>
    aL (ho pins s2 σ H2 x y v u _ I2 r1 r2 q2) fun d s3 ⟨z, H3, I3, r3, k, e, q3⟩ => ?_)) hm
  subst e
  cases r3
  refine wpAny_truthy_bool ?_
  cases k with
  | false => exact ite_ff ⟨.bl false, H3, I3, rfl, q3⟩
  | true => exact ite_tt (chain_last (aL (hc pins s3 σ H3 _ I3 q3) fun w' s4 ⟨z', H4, I4, r4, q4⟩ => ho' pins s4 σ H4 y z' u w' Q I4 r2 r4 q4))
theorem vk {op op' : CmpOp} {r r' : R2} (ho : dr X (compareOp op) r) (ho' : dr X (compareOp op') r') (ha : PE X a ta) (hb : PE X b tb) (hc : PE X c tc)
    (hm : lastMarks [op, op'] [b, c] = false := by with_unfolding_all rfl) : PT X (.Compare a [op, op'] [b, c] pos) (Cv (tE r r' ta tb tc)) := by
  intro pins s σ H Q I h
  refine isTrue_chain (aL (ha pins s σ H _ I h) fun v s1 ⟨x, H1, I1, r1, q1⟩ => test_link (aL (hb pins s1 σ H1 _ I1 q1) fun u s2 ⟨y, H2, I2, r2, q2⟩ =>
    aL (ho pins s2 σ H2 x y v u _ I2 r1 r2 q2) fun d s3 ⟨z, H3, I3, r3, k, e, q3⟩ => ?_)) hm
  subst e
  cases r3
  refine wpAny_truthy_bool ?_
  cases k with
  | false =>
    obtain ⟨k', e', q'⟩ := q3
    cases e'
    exact ite_ff ⟨H3, I3, q'⟩
  | true =>
    refine ite_tt (test_last (aL (hc pins s3 σ H3 _ I3 q3) fun w' s4 ⟨z', H4, I4, r4, q4⟩ => aL (ho' pins s4 σ H4 y z' u w' _ I4 r2 r4 q4) fun d' s5 ⟨z2, H5, I5, r5, k2, e2, q5⟩ => ?_))
    subst e2
    cases r5
    exact wpAny_truthy_bool ⟨H5, I5, q5⟩
theorem ld : (sizeLine : Nat) < 2 ^ 63 := by rw [sizeLine_eq]; decide
theorem eL {x : V} {us : List Value} (r : aJ [x] us) : ∃ u, us = [u] /\ bi x u := by
  cases r with
  | cons r1 r2 => cases r2; exact ⟨_, rfl, r1⟩
theorem kK {x y : V} {us : List Value} (r : aJ [x, y] us) : ∃ u w', us = [u, w'] /\ bi x u /\ bi y w' := by
  cases r with
  | cons r1 r2 =>
    cases r2 with
    | cons r3 r4 => cases r4; exact ⟨_, _, rfl, r1, r3⟩
theorem vY : c7 X (.builtin "abs") (fun xs H Q => ∃ i, xs = [.int i] /\ Q (.int (if i < 0 then -i else i)) H) := by
  intro pins s σ H xs us Q I r h
  obtain ⟨i, rfl, q⟩ := h
  obtain ⟨u, rfl, t, rfl⟩ := eL r
  exact call_abs_int fun u tk => ⟨.int (if i < 0 then -i else i), H, I.tok _, ⟨_, rfl⟩, q⟩
theorem nr : c7 X (.type "int") (fun xs H Q => (∃ i, xs = [.int i] /\ Q (.int i) H) \/ ∃ k, xs = [.bl k] /\ Q (.int (if k then 1 else 0)) H) := by
  intro pins s σ H xs us Q I r h
  rcases h with ⟨i, rfl, q⟩ | ⟨k, rfl, q⟩
  . obtain ⟨u, rfl, t, rfl⟩ := eL r
    exact call_int_int ⟨.int i, H, I, ⟨_, rfl⟩, q⟩
  . obtain ⟨u, rfl, r1⟩ := eL r
    cases r1
    exact call_int_bool ⟨.int (if k then 1 else 0), H, I.tok _, ⟨_, rfl⟩, q⟩
end
end L2
namespace L2
open PySem PySem.Spec PyProof.Rows
structure kH (h : Heap) (x dx C : Addr) (mA : Str -> Option Value) : Prop where
  obj : h.get? x = some (W.instObj C dx)
  ns : h.Ns1 dx mA
  ne : dx ≠ x
theorem t9 {h : Heap} {dx : Addr} {mA : Str -> Option Value} (n : h.Ns1 dx mA) : ∃ od, h.get? dx = some od /\ ∀ name, W.lookIn name od = some (mA name) := by
  obtain ⟨o, es, ep, ho, hd, hk, _, hm⟩ := n
  refine ⟨o, ho, fun name => ?_⟩
  have e := hm name
  unfold nsFind findBy at e
  rw [<- Array.find?_toList] at e
  unfold W.lookIn
  rw [hd]
  dsimp only
  split
  . rename_i y q
    rw [q] at e
    exact congrArg some e
  . rename_i q
    rw [q] at e
    have a : es.toList.any (·.refKey) = false := by
      rw [List.any_eq_false]
      intro y hy
      obtain ⟨z, t, hkey⟩ := hk y (Array.mem_toList_iff.mp hy)
      simp [DictEntry.refKey, hkey]
    have a' : ¬ es.toList.any (·.refKey) = true := by rw [a]; exact Bool.false_ne_true
    rw [if_neg a']
    exact congrArg some e
theorem kH.look {h : Heap} {x dx C : Addr} {mA : Str -> Option Value} (I : kH h x dx C mA) : ∃ od, W.InstAt h x (W.instObj C dx) C (some od) /\ ∀ name, W.lookIn name od = some (mA name) :=
  let ⟨od, ho, hl⟩ := t9 I.ns
  ⟨od, ⟨I.obj, rfl, rfl, ho⟩, hl⟩
section
variable {prog : Program} {w : World} {A : Around} {E : Value -> Shared -> Prop} {s : Shared} {K : W.Frag} {x dx C f : Addr} {mA : Str -> Option Value} {name : Str} {v : Value}
theorem y9 {expr : Bool} {Q : Value -> Shared -> Prop} (X : K.In s.heap) (I : kH s.heap x dx C mA) (hg : W.plainGet K C name = true) (hh : W.hasDictIn K C = true)
    (ha : W.findIn K (.ref C) name = some none) (hv : mA name = some v) (hv' : W.handedIn v = true) (h : Q v { s with toks := s.toks + 1 }) :
    wpAny (model prog w) A (getAttr (.ref x) name expr) Q E s := by
  obtain ⟨od, J, hl⟩ := I.look
  exact W.get_value X J (W.plainGet_of hg).1 (W.findObj_own hh ha rfl (by rw [hl, hv])) hv' h
theorem vO {pl : Sem Bool} {Q : Value × List Value -> Shared -> Prop} (X : K.In s.heap) (I : kH s.heap x dx C mA) (hg : W.plainGet K C name = true)
    (hf : W.findIn K (.ref C) name = some (some (.ref f))) (ht : W.isFn K (.ref f) = true) (hv : mA name = none) (h : Q (.ref f, [.ref x]) s) :
    wpAny (model prog w) A (getMethod (.ref x) name pl) Q E s := by
  obtain ⟨od, J, hl⟩ := I.look
  exact W.method_fn X J (W.plainGet_of hg).1 (W.plainGet_of hg).2 hf (beq_iff_eq.mp ht) (by show (W.lookIn name od).map (·.isSome) = some false; rw [hl, hv]; rfl) h
theorem x8 {ns : List Str} {Q : Unit -> Shared -> Prop} (X : K.In s.heap) (I : kH s.heap x dx C mA)
    (hs : W.findIn K (.ref C) "__setattr__" = some (some (.builtin "object.__setattr__"))) (hp : W.plainOver K C = true) (ht : W.takerIn K C name = some none) (hh : W.hasDictIn K C = true)
    (hw : PySem.Within mA ns) (hsz : ns.length <= sizeLine)
    (h : ∀ h', kH h' x dx C (fun y => if y = name then some v else mA y) -> Heap.SameBut dx s.heap h' -> Q () { s with heap := h', toks := s.toks + 2 }) :
    wpAny (model prog w) A (setAttr (.ref x) name v) Q E s := by
  obtain ⟨od, J, hl⟩ := I.look
  refine W.set_plain X J hs (W.osa_open (s := { s with toks := s.toks + 1 }) (r := none) X J hp ht fun b => ?_)
  obtain ⟨cd, hc, hd'⟩ := W.any_some hh
  have hx : s.heap.get? x = some ⟨.ref C, some dx, .plain, #[]⟩ := I.obj
  refine wpAny_bind (wpAny_pure (wpAny_bind (wpAny_bind (wpAny_loadPart hx (wpAny_bind (W.Looks.here (s := { s with toks := s.toks + 1 }) (W.looks_clsIn X hc) ?_))))))
  rw [hd']
  refine wpAny_pure (a := some dx) (wpAny_bind (wpAny_pure (wpAny_bind ?_)))
  refine wpAny_nsSet1 (s := { s with toks := s.toks + 1 }) I.ns fun h' hn2 hs2 => ?_
  obtain ⟨oD, esD, epD, hoD, hdD, hcD⟩ := hn2.count (PySem.Within.cons name v hw)
  refine wpAny_bind (wpAny_lookBehind hoD (by rw [hdD]; exact pastItsLine_dict (Nat.le_trans hcD (by rw [List.length_cons]; omega))) ?_)
  exact wpAny_pure (h _ ⟨(hs2.2 _ (Ne.symm I.ne)).trans I.obj, hn2, I.ne⟩ hs2)
theorem oV {R : Result -> Shared -> Prop} {vs : List Value} {kw : List (Str × Value)} (X : K.In s.heap) (hm : W.makesIn K C = true)
    (hi : W.findIn K (.ref C) "__init__" = some (some (.ref f))) (hf : W.typeIn K (.ref f) = some (.type "function"))
    (h : codeAny (model prog w) (A.under (.builtin "type.__call__" ⟨.ref C :: vs, kw⟩)) (.call (.ref f) ⟨.ref (s.heap.objs.size + 1) :: vs, kw⟩) (W.InitBack (s.heap.objs.size + 1) R)
      { s with heap := (s.heap.push W.emptyDict).push (W.instObj C s.heap.objs.size) }) :
    codeAny (model prog w) A (.call (.ref C) ⟨vs, kw⟩) R s := by
  obtain ⟨hh, g, d, t, os⟩ := s
  exact W.make_core (W.makes_of X hm) (W.looks_findIn X hi) (fun self => W.bind_fn X self hf) (.inl rfl) h
end
def de (f : Str) (v : V) : List (Str × V) -> List (Str × V)
  | [] => [(f, v)]
  | (g, x) :: r => if g = f then (g, v) :: r else (g, x) :: de f v r
theorem j6 (f g : Str) (v : V) : ∀ fs : List (Str × V), (de f v fs).lookup g = if g = f then some v else fs.lookup g
  | [] => by
    show List.lookup g [(f, v)] = _
    by_cases h : g = f
    . have hb : (g == f) = true := beq_iff_eq.mpr h
      simp only [List.lookup, hb, if_pos h]
    . have hb : (g == f) = false := beq_eq_false_iff_ne.mpr h
      simp only [List.lookup, hb, if_neg h]
  | (k, x) :: r => by
    have ih := j6 f g v r
    rw [show de f v ((k, x) :: r) = (if k = f then (k, v) :: r else (k, x) :: de f v r) from rfl]
    by_cases hk : k = f
    . rw [if_pos hk]
      by_cases h : g = k
      . have hb : (g == k) = true := beq_iff_eq.mpr h
        simp only [List.lookup, hb, if_pos (h.trans hk)]
      . have hb : (g == k) = false := beq_eq_false_iff_ne.mpr h
        simp only [List.lookup, hb, if_neg (fun e : g = f => h (e.trans hk.symm))]
    . rw [if_neg hk]
      by_cases h : g = k
      . have hb : (g == k) = true := beq_iff_eq.mpr h
        simp only [List.lookup, hb, if_neg (fun e : g = f => hk (h.symm.trans e))]
      . have hb : (g == k) = false := beq_eq_false_iff_ne.mpr h
        simp only [List.lookup, hb]
        exact ih
theorem jp (f : Str) (v : V) : ∀ fs : List (Str × V), f ∈ (de f v fs).map (·.1) /\ ∀ g, g ∈ fs.map (·.1) -> g ∈ (de f v fs).map (·.1)
  | [] => ⟨by simp [de], fun g h => by simp at h⟩
  | (k, x) :: r => by
    obtain ⟨i1, i2⟩ := jp f v r
    rw [show de f v ((k, x) :: r) = (if k = f then (k, v) :: r else (k, x) :: de f v r) from rfl]
    by_cases hk : k = f
    . rw [if_pos hk]
      subst hk
      exact ⟨by simp, fun g h => by simpa using h⟩
    . rw [if_neg hk]
      refine ⟨?_, fun g h => ?_⟩
      . rw [List.map_cons]
        exact List.mem_cons_of_mem _ i1
      . rw [List.map_cons] at h ⊢
        rcases List.mem_cons.mp h with e | e
        . exact List.mem_cons.mpr (.inl e)
        . exact List.mem_cons_of_mem _ (i2 g e)
theorem fL (f : Str) (v : V) : ∀ fs : List (Str × V), (de f v fs).length <= fs.length + 1
  | [] => by simp [de]
  | (k, x) :: r => by
    have ih := fL f v r
    rw [show de f v ((k, x) :: r) = (if k = f then (k, v) :: r else (k, x) :: de f v r) from rfl]
    by_cases hk : k = f
    . rw [if_pos hk, List.length_cons, List.length_cons]; omega
    . rw [if_neg hk, List.length_cons, List.length_cons]; omega
theorem ik.some_of {v : V} {o : Option Value} (r : ik (some v) o) : ∃ u, o = some u /\ bi v u := by
  cases o with
  | none => exact (show False from r).elim
  | some u => exact ⟨u, rfl, r⟩
theorem ik.none_of {o : Option Value} (r : ik none o) : o = none := by
  cases o with
  | none => rfl
  | some u => exact (show False from r).elim
theorem uu {v : V} {u : Value} (r : bi v u) : W.handedIn u = true := by
  cases v with
  | non => cases (show u = Value.none from r); rfl
  | bl b => cases (show u = Value.bool b from r); rfl
  | int i => obtain ⟨t, e⟩ := (show ∃ t, u = Value.int i t from r); cases e; rfl
  | str x => obtain ⟨t, e⟩ := (show ∃ t, u = Value.str x t from r); cases e; rfl
  | byt b => obtain ⟨t, e⟩ := (show ∃ t, u = Value.bytes b t from r); cases e; rfl
  | flt b => obtain ⟨t, e⟩ := (show ∃ t, u = Value.float b t from r); cases e; rfl
  | ref a => cases (show u = Value.ref a from r); rfl
  | ty n => cases (show u = Value.type n from r); rfl
section
variable {P : Program} {w : World} {H H' : Hp} {h h' : Heap} {a C dx : Addr} {fs fs' : List (Str × V)}
theorem jN (hok : di P w H h) (e : H a = some (.ins C dx fs)) : ∃ mA, kH h a dx C mA /\ (∀ f, ik (fs.lookup f) (mA f)) /\ PySem.Within mA (fs.map (·.1)) /\ fs.length <= 1000 /\ H dx = some (.own a) := by
  obtain ⟨d, z, ne, ob, mA, n, r, q⟩ := (show cf P w H h a (.ins C dx fs) from hok a _ e)
  exact ⟨mA, ⟨ob, n, ne⟩, r, q, z, d⟩
end
structure dH (K : W.Frag) (C : Addr) : Prop where
  pg : W.plainGet K C Str.empty = true
  hd : W.hasDictIn K C = true
  po : W.plainOver K C = true
  sa : W.findIn K (.ref C) "__setattr__" = some (some (.builtin "object.__setattr__"))
theorem dH.get {K : W.Frag} {C : Addr} (c : dH K C) (f : Str) : W.plainGet K C f = true := c.pg
def bn (K : W.Frag) (C : Addr) (f : Str) : Prop := W.findIn K (.ref C) f = some none
theorem bn.taker {K : W.Frag} {C : Addr} {f : Str} (n : bn K C f) : W.takerIn K C f = some none := by
  unfold W.takerIn
  rw [show W.findIn K (.ref C) f = some none from n]
  rfl
structure mQ (K : W.Frag) (C : Addr) (m : Str) (f : Addr) : Prop where
  at_ : W.findIn K (.ref C) m = some (some (.ref f))
  fn : W.isFn K (.ref f) = true
  kp : W.keepIn K (.ref f) = true
section
variable {X : Cx} {pins : List (Addr × Obj)} {σ : St} {H : Hp} {s : Shared} {a C dx : Addr} {fs : List (Str × V)} {f : Str} {v : V} {A : Around} {E : Value -> Shared -> Prop}
theorem sB {b : Bool} {Q : Value -> Shared -> Prop} (I : am X pins σ H s) (e : H a = some (.ins C dx fs)) (c : dH X.K C) (n : bn X.K C f) (l : fs.lookup f = some v)
    (h : ∀ u s', am X pins σ H s' -> bi v u -> Q u s') : wpAny (model X.prog X.w) A (getAttr (.ref a) f b) Q E s := by
  obtain ⟨mA, O, r, _, _, _⟩ := jN I.hok e
  obtain ⟨u, hu, ru⟩ := ik.some_of (v := v) (o := mA f) (by rw [<- l]; exact r f)
  exact y9 I.kIn O (c.get f) c.hd n hu (uu ru) (h u _ (I.tok _) ru)
theorem lm {m : Str} {g : Addr} {pl : Sem Bool} {Q : Value × List Value -> Shared -> Prop} (I : am X pins σ H s) (e : H a = some (.ins C dx fs)) (c : dH X.K C) (k : mQ X.K C m g) (l : fs.lookup m = none)
    (h : Q (.ref g, [.ref a]) s) : wpAny (model X.prog X.w) A (getMethod (.ref a) m pl) Q E s := by
  obtain ⟨mA, O, r, _, _, _⟩ := jN I.hok e
  have hn : mA m = none := ik.none_of (by rw [<- l]; exact r m)
  exact vO I.kIn O (c.get m) k.at_ k.fn hn h
theorem rS {y : V} {u : Value} {Q : Unit -> Shared -> Prop} (I : am X pins σ H s) (e : H a = some (.ins C dx fs)) (c : dH X.K C) (n : bn X.K C f) (hl : fs.length < 1000) (ry : bi y u)
    (h : ∀ s', am X pins σ (be H a (.ins C dx (de f y fs))) s' -> Q () s') : wpAny (model X.prog X.w) A (setAttr (.ref a) f u) Q E s := by
  obtain ⟨mA, O, r, wi, _, ho⟩ := jN I.hok e
  have hz : (fs.map (·.1)).length <= sizeLine := by rw [List.length_map, sizeLine_eq]; omega
  refine x8 I.kIn O c.sa c.po n.taker c.hd wi hz fun h' O' sb => h _ ?_
  have hd : ∃ o, h'.get? dx = some o := let ⟨o, _, _, e', _⟩ := O'.ns; ⟨o, e'⟩
  refine I.write (x := a) (e := dx) (by rw [e]; exact True.intro) (.inr ho) (fun b q hb z => (sb.2 b hb).trans z) hd ?_
  refine ⟨by rw [aG O.ne]; exact ho, ?_, O.ne, O'.obj, _, O'.ns, fun g => ?_, fun g hg => ?_⟩
  . have := fL f y fs; omega
  . show ik ((de f y fs).lookup g) (if g = f then some u else mA g)
    rw [j6]
    by_cases q : g = f
    . rw [if_pos q, if_pos q]; exact ry
    . rw [if_neg q, if_neg q]; exact r g
  . by_cases q : g = f
    . rw [q]; exact (jp f y fs).1
    . refine (jp f y fs).2 g (wi g fun z => hg ?_)
      show (if g = f then some u else mA g) = none
      rw [if_neg q]; exact z
theorem am.made (I : am X pins σ H s) : am X pins σ (be (be H s.heap.objs.size (.own (s.heap.objs.size + 1))) (s.heap.objs.size + 1) (.ins C s.heap.objs.size []))
    { s with heap := (s.heap.push W.emptyDict).push (W.instObj C s.heap.objs.size) } := by
  have e1 : (s.heap.push W.emptyDict).get? s.heap.objs.size = some W.emptyDict := Heap.get?_push_size s.heap rfl
  have e2 : ((s.heap.push W.emptyDict).push (W.instObj C s.heap.objs.size)).get? (s.heap.objs.size + 1) = some (W.instObj C s.heap.objs.size) := by
    have := Heap.get?_push_size (s.heap.push W.emptyDict) (o := W.instObj C s.heap.objs.size) rfl
    rwa [Heap.size_push] at this
  have e3 : (s.heap.push W.emptyDict).Ns s.heap.objs.size (fun _ => none) := ⟨W.emptyDict, #[], _, e1, rfl, (fun e he => absurd he (by simp)), fun _ => rfl⟩
  have I1 := I.laid (a := s.heap.objs.size) (o := .own (s.heap.objs.size + 1)) (h' := s.heap.push W.emptyDict) (t' := s.toks) (fun b u q => Heap.get?_push_of_some _ q) (Nat.le_refl _) ⟨_, e1⟩
  refine I1.laid (a := s.heap.objs.size + 1) (o := .ins C s.heap.objs.size []) (t' := s.toks) (fun b u q => Heap.get?_push_of_some _ q) (Nat.le_of_eq (Heap.size_push _ _)) ?_
  have ne : s.heap.objs.size ≠ s.heap.objs.size + 1 := Nat.ne_of_lt (Nat.lt_succ_self _)
  refine ⟨by rw [aG ne, aS], Nat.zero_le _, ne, e2, fun _ => none, (Heap.Ns1.of_empty e3).at fun o q => Heap.get?_push_of_some _ q, fun _ => True.intro, fun y hy => absurd rfl hy⟩
theorem zJ {prog : Program} {w : World} {env : Env} {e : Expr} {f : Str} {pos : Pos} {s : Shared} {Q : Value -> Shared -> Prop} (hb : attributeBase e f env (eval e env) = eval e env)
    (h : wpAny (model prog w) A (eval e env) (fun o s₁ => wpAny (model prog w) A (getAttr o f true) Q E s₁) E s) : wpAny (model prog w) A (eval (.Attribute e f pos) env) Q E s :=
  Attribute_any_ h (by rw [arm_eval_Attribute, hb])
end
def DM (K : W.Frag) (ta : TE) (f : Str) : TE := fun σ H Q => ta σ H fun x H1 => ∃ a C dx fs v, x = .ref a /\ H1 a = some (.ins C dx fs) /\ dH K C /\ bn K C f /\ fs.lookup f = some v /\ Q v H1
def El (K : W.Frag) (ta tv : TE) (f : Str) : TS := fun D σ H => tv σ H fun y H1 => ta σ H1 fun x H2 => ∃ a C dx fs, x = .ref a /\ H2 a = some (.ins C dx fs) /\ dH K C /\ bn K C f /\ fs.length < 1000 /\
  D.nx σ (be H2 a (.ins C dx (de f y fs)))
section
variable {X : Cx} {o e value : Expr} {f : Str} {pos pos' tpos : Pos} {ta tv : TE}
theorem A2 (he : PE X e ta) (hb : attributeBase e f X.env (eval e X.env) = eval e X.env) : PE X (.Attribute e f pos) (DM X.K ta f) := by
  intro pins s σ H Q I h
  refine zJ hb (aL (he pins s σ H _ I h) fun u s1 ⟨x, H1, I1, rx, a, C, dx, fs, v, ex, ea, c, n, l, q⟩ => ?_)
  subst ex
  obtain rfl : u = Value.ref a := rx
  exact sB I1 ea c n l fun u' s2 I2 ru => ⟨v, H1, I2, ru, q⟩
theorem oH (ha : PE X o ta) (hv : PE X value tv) (hs : swapsWith value (some (.Attribute o f pos')) pos.line X.env = pure false) : PS X (.Assign [.Attribute o f pos'] value pos) (El X.K ta tv f) := by
  intro pins s σ H D I h
  refine plainObj_wpAny_Assign_Attribute (aL (hv pins s σ H _ I h) fun u s1 ⟨y, H1, I1, ry, q⟩ => aL (ha pins s1 σ H1 _ I1 q) fun ov s2 ⟨x, H2, I2, rx, a, C, dx, fs, ex, ea, c, n, l, q2⟩ => ?_) hs
  subst ex
  obtain rfl : ov = Value.ref a := rx
  exact rS I2 ea c n l ry fun s3 I3 => ⟨σ, _, I3, q2⟩
end
section
variable {X : Cx} {pins : List (Addr × Obj)} {σ : St} {H : Hp} {s : Shared} {A : Around} {E : Value -> Shared -> Prop} {Q : Value -> Shared -> Prop} {c : Value} {b : Bool}
inductive gh (K : W.Frag) (H : Hp) : V -> Value -> Prop where
  | non : gh K H .non (.type "NoneType")
  | bl (x : Bool) : gh K H (.bl x) (.type "bool")
  | int (i : Int) : gh K H (.int i) (.type "int")
  | str (x : Str) : gh K H (.str x) (.type "str")
  | flt (x : UInt64) : gh K H (.flt x) (.type "float")
  | lst {a : Addr} {xs : List V} (e : H a = some (.lst xs)) : gh K H (.ref a) (.type "list")
  | frz {a : Addr} {o : Obj} {xs : List V} (e : H a = some (.frz o (.lst xs))) : gh K H (.ref a) (.type "list")
  | tup {a : Addr} {xs : List V} (e : H a = some (.tup xs)) : gh K H (.ref a) (.type "tuple")
  | dK {a : Addr} {kvs : List (fx × V)} (e : H a = some (.dK kvs)) : gh K H (.ref a) (.type "dict")
  | dT {a : Addr} {kvs : List (List fx × V)} (e : H a = some (.dT kvs)) : gh K H (.ref a) (.type "dict")
  | ins {a C dx : Addr} {fs : List (Str × V)} (e : H a = some (.ins C dx fs)) (cl : dH K C) (ha : W.findIn K (.ref C) "__class__" = some (some (.builtin "object.__class__")))
      (hn : W.specialIn K (.builtin "object.__class__") "__get__" = some (some (.builtin "getset_descriptor.__get__"))) (htk : W.takesIn K (.builtin "object.__class__") = some true)
      (hm : W.mroIn K C (.type "object") = some true) : gh K H (.ref a) (.ref C)
theorem nh {x : V} {u t : Value} (I : am X pins σ H s) (rx : bi x u) (ty : gh X.K H x t) (e : W.kitOne X.K t c = some b) (h : ∀ tk, Q (.bool b) { s with toks := tk }) :
    wpAny (model X.prog X.w) A (call (.builtin "isinstance") [u, c]) Q E s := by
  cases ty with
  | non => cases (show u = Value.none from rx); exact W.kia_one W.kitx_none I.kIn True.intro e (fun z => nomatch z) h
  | bl y => cases (show u = Value.bool y from rx); exact W.kia_one W.kitx_bool I.kIn True.intro e (fun z => nomatch z) h
  | int i => obtain ⟨t, q⟩ := (show ∃ t, u = Value.int i t from rx); cases q; exact W.kia_one W.kitx_int I.kIn True.intro e (fun z => nomatch z) h
  | str y => obtain ⟨t, q⟩ := (show ∃ t, u = Value.str y t from rx); cases q; exact W.kia_one W.kitx_str I.kIn True.intro e (fun z => nomatch z) h
  | flt y => obtain ⟨t, q⟩ := (show ∃ t, u = Value.float y t from rx); cases q; exact W.kia_one W.kitx_float I.kIn True.intro e (fun z => nomatch z) h
  | @lst a xs ea =>
    cases (show u = Value.ref a from rx)
    obtain ⟨_, _, n, _, h1⟩ := (show cf X.prog X.w H s.heap a (.lst xs) from I.hok a _ ea)
    exact W.kia_one W.kitx_list I.kIn ⟨_, h1, rfl⟩ e (fun z => nomatch z) h
  | @frz a ob xs ea =>
    cases (show u = Value.ref a from rx)
    obtain ⟨_, _, _, n, _, h1⟩ := (show cf X.prog X.w H s.heap a (.frz ob (.lst xs)) from I.hok a _ ea)
    exact W.kia_one W.kitx_list I.kIn ⟨_, h1, rfl⟩ e (fun z => nomatch z) h
  | @tup a xs ea =>
    cases (show u = Value.ref a from rx)
    obtain ⟨_, _, _, p⟩ := (show cf X.prog X.w H s.heap a (.tup xs) from I.hok a _ ea)
    obtain ⟨o, h1, h2, _⟩ := p
    exact W.kia_one W.kitx_tuple I.kIn ⟨o, h1, h2⟩ e (fun z => nomatch z) h
  | @dK a kvs ea =>
    cases (show u = Value.ref a from rx)
    obtain ⟨_, _, vs, _, p⟩ := (show cf X.prog X.w H s.heap a (.dK kvs) from I.hok a _ ea)
    obtain ⟨o, es, ep, h1, h2, _⟩ := p
    exact W.kia_one W.kitx_dict I.kIn ⟨o, h1, h2.1⟩ e (fun z => nomatch z) h
  | @dT a kvs ea =>
    cases (show u = Value.ref a from rx)
    obtain ⟨_, _, xs, _, o, es, ep, h1, h2, _⟩ := (show cf X.prog X.w H s.heap a (.dT kvs) from I.hok a _ ea)
    exact W.kia_one W.kitx_dict I.kIn ⟨o, h1, h2.1⟩ e (fun z => nomatch z) h
  | @ins a C dx fs ea cl ha hn htk hm =>
    cases (show u = Value.ref a from rx)
    obtain ⟨mA, O, _⟩ := jN I.hok ea
    obtain ⟨od, J, _⟩ := O.look
    exact W.kia_one (W.kitx_own (cl.get _) cl.hd ha hn htk hm) I.kIn J e (fun z => nomatch z) h
end
end L2
namespace L2
open PySem PySem.Spec PyProof.Rows
structure bQ (k : Nat) (A : Around) : Prop where
  hd : A.handled = none
  dp : A.depth + 3 * k + 5 < recursionLimit
  un : A.units + 16 * k + 200 < cLine
theorem bQ.mono {j k : Nat} {A : Around} (r : bQ k A) (h : j <= k) : bQ j A := ⟨r.hd, by have := r.dp; omega, by have := r.un; omega⟩
theorem bQ.deeper {k : Nat} {A : Around} (r : bQ (k + 1) A) (env : Env) : bQ k (A.deeper env) :=
  ⟨r.hd, by have := r.dp; show A.depth + 1 + 3 * k + 5 < _; omega, by have := r.un; show A.units + 3 + 16 * k + 200 < _; omega⟩
theorem bQ.in1 {k : Nat} {A : Around} (r : bQ (k + 1) A) : bQ k A.in1 :=
  ⟨r.hd, by have := r.dp; show A.depth + 3 * k + 5 < _; omega, by have := r.un; show A.units + 1 + 16 * k + 200 < _; omega⟩
theorem sk {A : Around} {C : Addr} {us : List Value} {kw : List (Str × Value)} : (A.under (.builtin "type.__call__" ⟨.ref C :: us, kw⟩)).depth = A.depth + 1 := by
  first | rfl | simp [Around.under, Code.weight, Code.isCreation, Code.isGuard, Code.isCaller, Code.frames, Code.isFrame, guardIds]
theorem sj {A : Around} {C : Addr} {us : List Value} {kw : List (Str × Value)} : (A.under (.builtin "type.__call__" ⟨.ref C :: us, kw⟩)).units = A.units + 1 := by
  first | rfl | simp [Around.under, Code.cUnits, Code.frames, Code.isFrame]
theorem bQ.make {k : Nat} {A : Around} (r : bQ (k + 1) A) (C : Addr) (us : List Value) (kw : List (Str × Value)) : bQ k (A.under (.builtin "type.__call__" ⟨.ref C :: us, kw⟩)) :=
  ⟨r.hd, by have := r.dp; rw [sk]; omega, by have := r.un; rw [sj]; omega⟩
theorem bQ.depth {k : Nat} {A : Around} (r : bQ k A) : A.depth < recursionLimit := by have := r.dp; omega
theorem bQ.units {k : Nat} {A : Around} (r : bQ k A) : A.units + 64 < cLine := by have := r.un; omega
def rO : TA := fun _ H Q => Q [] H
def CC (ta : TE) (tr : TA) : TA := fun σ H Q => ta σ H fun x H1 => tr σ H1 fun xs H2 => Q (x :: xs) H2
section
variable {X : Cx} {e : Expr} {es : List Expr} {te : TE} {t : TA} {pos : Pos}
theorem A5 : PA X [] rO := fun _ _ _ _ H Q I h => Calls.spliced_nil ⟨[], H, I, .nil, h⟩
theorem gw (ha : PE X e te) (hr : PA X es t) (hs : starEach (e :: es) X.env = (false, eval e X.env) :: starEach es X.env := by rfl) : PA X (e :: es) (CC te t) := by
  intro pos pins s σ H Q I h
  rw [hs]
  show wpAny _ _ (spliced ((false, eval e X.env) :: backTo pos (starEach es X.env))) _ _ s
  refine Calls.spliced_cons (aL (ha pins s σ H _ I h) fun u s1 ⟨x, H1, I1, r1, q1⟩ => ?_)
  exact aL (hr pos pins s1 σ H1 _ I1 q1) fun us s2 ⟨xs, H2, I2, r2, q2⟩ => ⟨x :: xs, H2, I2, .cons r1 r2, q2⟩
def DD (t : TA) : TE := fun σ H Q => t σ H fun xs H1 => xs.length <= sizeLine /\ ∀ p, H1 p = none -> Q (.ref p) (be H1 p (.tup xs))
def DJ (t : TA) : TE := fun σ H Q => t σ H fun xs H1 => xs.length <= sizeLine /\ ∀ p, H1 p = none -> Q (.ref p) (be H1 p (.lst xs))
theorem AT {x1} (h : PA X es t) : PE X (.Tuple es x1 pos) (DD t) := by
  intro pins s σ H Q I hq
  refine wpAny_Tuple_spliced (aL (h pos pins s σ H _ I hq) fun us s1 ⟨xs, H1, I1, r, z, q⟩ => ⟨by rw [<- r.length]; exact z, ?_⟩)
  have hf : H1 s1.heap.objs.size = none := I1.hok.fresh (Nat.le_refl _)
  refine ⟨.ref s1.heap.objs.size, be H1 s1.heap.objs.size (.tup xs), I1.laid (t' := s1.toks) (fun b u e => Heap.get?_push_of_some _ e) (Nat.le_refl _) ?_, rfl, q _ hf⟩
  exact ⟨z, us, r, ⟨_, Heap.get?_push_size _ rfl, rfl, _, rfl⟩⟩
theorem AY (h : PA X es t) : PE X (.List es pos) (DJ t) := by
  intro pins s σ H Q I hq
  refine wpAny_List_spliced (aL (h pos pins s σ H _ I hq) fun us s1 ⟨xs, H1, I1, r, z, q⟩ => ⟨by rw [<- r.length]; exact z, ?_⟩)
  have hf : H1 s1.heap.objs.size = none := I1.hok.fresh (Nat.le_refl _)
  refine ⟨.ref s1.heap.objs.size, be H1 s1.heap.objs.size (.lst xs), I1.laid (t' := s1.toks) (fun b u e => Heap.get?_push_of_some _ e) (Nat.le_refl _) ?_, rfl, q _ hf⟩
  exact ⟨z, us, 0, r, Heap.get?_push_size _ rfl⟩
end
abbrev Sp := List V -> Hp -> VK -> XK -> Prop
abbrev gR := List Env -> Hp -> Shared -> XK -> Value -> Shared -> Prop
structure io (P : Program) (w : World) (K : W.Frag) (mg : Str -> Option Value) (base : Heap) (A : Around) (outer : List Env) (s : Shared) (H : Hp) : Prop where
  frames : A.frames = some outer
  mod : Mod K mg base
  bs : ∀ b o, base.get? b = some o -> s.heap.get? b = some o /\ H b = none
  bsz : base.objs.size <= s.heap.objs.size
  funs : s.heap.FunFrames base outer
  frf : ∀ b ∈ bX outer, H b = none
  hok : di P w H s.heap
  bare : AllBare s.gens
def CE (outer : List Env) (P : Program) (w : World) (H : Hp) (s : Shared) (Q : VK) (u : Value) (s' : Shared) : Prop :=
  ∃ v H', s'.os = s.os /\ AllBare s'.gens /\ Un (bX outer) [] H H' s.heap s'.heap /\ di P w H' s'.heap /\ bi v u /\ Q v H'
def CR (CX : gR) (outer : List Env) (P : Program) (w : World) (H : Hp) (s : Shared) (Q : VK) (E : XK) (r : Result) (s' : Shared) : Prop :=
  match r with
  | .ok (.ret u) => CE outer P w H s Q u s'
  | .ok _ => False
  | .error e => CX outer H s E e s'
structure bv (P : Program) (w : World) (K : W.Frag) (mg : Str -> Option Value) (base : Heap) (CX : gR) (k : Nat) (f : Addr) (fd : FuncData) (ps : List Str) (sp : Sp) : Prop where
  len : ∀ vs H Q E, sp vs H Q E -> vs.length = ps.length
  run : ∀ (A : Around) (outer : List Env) (s : Shared) (H : Hp) (args : Args) (us : List Value) (vs : List V) (Q : VK) (E : XK), bQ k A -> io P w K mg base A outer s H -> BindsTo s fd args (ps.zip us) -> aJ vs us -> sp vs H Q E ->
    codeAny (model P w) A (.call (.ref f) args) (CR CX outer P w H s Q E) s
theorem bv.mono {P : Program} {w : World} {K : W.Frag} {mg : Str -> Option Value} {base : Heap} {CX : gR} {j k : Nat} {f : Addr} {fd : FuncData} {ps : List Str} {sp : Sp} (F : bv P w K mg base CX j f fd ps sp) (h : j <= k) :
    bv P w K mg base CX k f fd ps sp := ⟨F.len, fun A outer s H args us vs Q E hr => F.run A outer s H args us vs Q E (hr.mono h)⟩
theorem io.make {P : Program} {w : World} {K : W.Frag} {mg : Str -> Option Value} {base : Heap} {A : Around} {outer : List Env} {s : Shared} {H : Hp} (e : io P w K mg base A outer s H) (C : Addr) (us : List Value) (kw : List (Str × Value)) :
    io P w K mg base (A.under (.builtin "type.__call__" ⟨.ref C :: us, kw⟩)) outer s H := ⟨by first | exact e.frames | (simpa [Around.under, Code.envs, Code.isFrame, pushEnvs] using e.frames), e.mod, e.bs, e.bsz, e.funs, e.frf, e.hok, e.bare⟩
theorem io.in1 {P : Program} {w : World} {K : W.Frag} {mg : Str -> Option Value} {base : Heap} {A : Around} {outer : List Env} {s : Shared} {H : Hp} (e : io P w K mg base A outer s H) :
    io P w K mg base A.in1 outer s H := ⟨e.frames, e.mod, e.bs, e.bsz, e.funs, e.frf, e.hok, e.bare⟩
section
variable {X : Cx} {pins : List (Addr × Obj)} {σ : St} {H : Hp} {s s' : Shared}
theorem am.env0 (I : am X pins σ H s) : io X.prog X.w X.K X.mg X.base X.A X.stack s H :=
  ⟨I.ok.frames, I.ok.mod, I.bs, Nat.le_trans I.ok.bsz I.sz, I.stack, I.stkFree, I.hok, I.bare⟩
theorem am.after {Q : VK} {u : Value} (I : am X pins σ H s) (h : CE X.stack X.prog X.w H s Q u s') : EP X pins σ Q u s' := by
  obtain ⟨v, H', os, bare, un, hok, r, q⟩ := h
  obtain ⟨hh, g, d, t, os'⟩ := s'
  obtain rfl : os' = s.os := os
  exact ⟨v, H', I.call (h' := hh) (g' := g) (d' := d) (t' := t) (ch := []) un hok bare (fun b z => absurd z (by simp)), r, q⟩
end
def rP (sp : Sp) (dvs : List V) (E : XK) (t : TA) : TE := fun σ H Q => t σ H fun vs H1 => sp (vs ++ dvs) H1 Q E
def wL (C : Addr) (m : Str) (sp : Sp) (dvs : List V) (E : XK) (ta : TE) (t : TA) : TE := fun σ H Q => ta σ H fun x H1 => ∃ a dx fs, x = .ref a /\ H1 a = some (.ins C dx fs) /\ fs.lookup m = none /\
  t σ H1 fun vs H2 => sp (x :: (vs ++ dvs)) H2 Q E
def wM (C : Addr) (sp : Sp) (dvs : List V) (E : XK) (t : TA) : TE := fun σ H Q => t σ H fun vs H1 => ∀ x dx, H1 x = none -> H1 dx = none -> dx ≠ x ->
  sp (.ref x :: (vs ++ dvs)) (be (be H1 dx (.own x)) x (.ins C dx [])) (fun v H2 => v = .non /\ Q (.ref x) H2) E
def bV (K : W.Frag) (fd : FuncData) (ps : List Str) (ds : List Value) : Prop :=
  ∀ (s : Shared) (us : List Value), K.In s.heap -> (us ++ ds).length = ps.length -> BindsTo s fd ⟨us, []⟩ (ps.zip (us ++ ds))
theorem bV.all {K : W.Frag} {fd : FuncData} {ps : List Str} (h : ∀ us : List Value, us.length = ps.length -> bindArgs fd ⟨us, []⟩ = pure (ps.zip us)) : bV K fd ps [] := fun s us _ hl => by
  rw [List.append_nil] at hl ⊢
  exact .of_eq (h us hl)
def eI (CX : gR) (X : Cx) (E : XK) : Prop := ∀ (pins : List (Addr × Obj)) (σ : St) (H : Hp) (s : Shared) (e : Value) (s' : Shared), am X pins σ H s -> CX X.stack H s E e s' -> X.xe e s'
section
variable {X : Cx} {CX : gR} {k : Nat} {f C : Addr} {fd : FuncData} {ps : List Str} {sp : Sp} {dvs : List V} {ds : List Value} {E : XK} {x m : Str} {p pos apos : Pos} {e o : Expr} {es : List Expr} {ta : TE} {t : TA}
theorem ji {pins : List (Addr × Obj)} {σ : St} {H : Hp} {s : Shared} {Q : VK} {us : List Value} {vs : List V} (F : bv X.prog X.w X.K X.mg X.base CX k f fd ps sp) (hr : bQ k X.A) (hb : bV X.K fd ps ds) (hd : aJ dvs ds) (hx : eI CX X E)
    (I : am X pins σ H s) (r : aJ vs us) (h : sp (vs ++ dvs) H Q E) : wpAny (model X.prog X.w) X.A (call (.ref f) us) (EP X pins σ Q) X.xe s := by
  have r2 : aJ (vs ++ dvs) (us ++ ds) := r.append hd
  have hl : (us ++ ds).length = ps.length := by rw [<- r2.length]; exact F.len _ _ _ _ h
  refine wpAny_call (codeAny_mono (F.run X.A X.stack s H ⟨us, []⟩ (us ++ ds) (vs ++ dvs) Q E hr I.env0 (hb s us I.kIn hl) r2 h) fun r s' hq => ?_)
  cases r with
  | error e => exact hx pins σ H s e s' I hq
  | ok fl =>
    cases fl with
    | ret u => exact I.after hq
    | next => exact False.elim hq
    | brk => exact False.elim hq
    | cont => exact False.elim hq
theorem yA (F : bv X.prog X.w X.K X.mg X.base CX k f fd ps sp) (hr : bQ k X.A) (hg : Gl X x) (hm : X.mg x = some (.ref f)) (hk : W.keepIn X.K (.ref f) = true) (hb : bV X.K fd ps ds) (hd : aJ dvs ds) (hx : eI CX X E)
    (ha : PA X (e :: es) t) (hdb : (x == ("__debug__" : Str)) = false := by decide) (he : starEach (e :: es) X.env = (false, eval e X.env) :: starEach es X.env := by rfl) (hpl : (backTo pos (starEach es X.env)).any (·.1) = false := by rfl) :
    PE X (.Call (.Name x p) (e :: es) [] pos) (rP sp dvs E t) := by
  intro pins s σ H Q I h
  refine wpAny_Call_Name_kw (dE I hg hm ?_ hdb)
  refine W.callWith_K (h₀ := X.base) I.ok.mod.kin hk (aL (ha pos pins s σ H _ I h) fun us s1 ⟨vs, H1, I1, r, q⟩ => ⟨I1.kIn, ?_⟩) he hpl
  exact ji F hr hb hd hx I1 r q
theorem vx (F : bv X.prog X.w X.K X.mg X.base CX k f fd ps sp) (hr : bQ k X.A) (hg : Gl X x) (hm : X.mg x = some (.ref f)) (hk : W.keepIn X.K (.ref f) = true) (hb : bV X.K fd ps ds) (hd : aJ dvs ds) (hx : eI CX X E)
    (hdb : (x == ("__debug__" : Str)) = false := by decide) : PE X (.Call (.Name x p) [] [] pos) (rP sp dvs E rO) := by
  intro pins s σ H Q I h
  refine wpAny_Call_Name_kw (dE I hg hm ?_ hdb)
  exact W.callWith_K0 I.kIn hk (ji (us := []) F hr hb hd hx I .nil h)
theorem yx {pl : Sem Bool} (he : PE X o ta) (c : dH X.K C) (hm : mQ X.K C m f) (F : bv X.prog X.w X.K X.mg X.base CX k f fd ps sp) (hr : bQ k X.A) (hb : bV X.K fd ps ds) (hd : aJ dvs ds) (hx : eI CX X E) (ha : PA X (e :: es) t)
    (hst : starEach (e :: es) X.env = (false, eval e X.env) :: starEach es X.env := by rfl) (hpl : (backTo pos (starEach es X.env)).any (·.1) = false := by rfl)
    (ht : eval (.Call (.Attribute o m apos) (e :: es) [] pos) X.env = (do
      let ov <- eval o X.env
      standAt apos.atName
      let (f, first) <- holding [ov] (getMethod ov m pl)
      callWith pos f first (backTo pos (starEach (e :: es) X.env)) (backToKw pos (keywordEach [] X.env))) := by rfl) :
    PE X (.Call (.Attribute o m apos) (e :: es) [] pos) (wL C m sp dvs E ta t) := by
  intro pins s σ H Q I h
  refine W.methodCall_KW (pl := pl) (aL (he pins s σ H _ I h) fun u s1 ⟨x, H1, I1, rx, a, dx, fs, ex, ea, l, q⟩ => ?_) ht
  subst ex
  obtain rfl : u = Value.ref a := rx
  refine lm I1 ea c hm l ?_
  refine W.callWith_K (first := [.ref a]) (h₀ := X.base) I.ok.mod.kin hm.kp (aL (ha pos pins s1 σ H1 _ I1 q) fun us s2 ⟨vs, H2, I2, r, q2⟩ => ⟨I2.kIn, ?_⟩) hst hpl
  exact ji (us := .ref a :: us) (vs := .ref a :: vs) F hr hb hd hx I2 (.cons rfl r) q2
theorem vp {pl : Sem Bool} (he : PE X o ta) (c : dH X.K C) (hm : mQ X.K C m f) (F : bv X.prog X.w X.K X.mg X.base CX k f fd ps sp) (hr : bQ k X.A) (hb : bV X.K fd ps ds) (hd : aJ dvs ds) (hx : eI CX X E)
    (ht : eval (.Call (.Attribute o m apos) [] [] pos) X.env = (do
      let ov <- eval o X.env
      standAt apos.atName
      let (f, first) <- holding [ov] (getMethod ov m pl)
      callWith pos f first (backTo pos (starEach [] X.env)) (backToKw pos (keywordEach [] X.env))) := by rfl) :
    PE X (.Call (.Attribute o m apos) [] [] pos) (wL C m sp dvs E ta rO) := by
  intro pins s σ H Q I h
  refine W.methodCall_KW (pl := pl) (aL (he pins s σ H _ I h) fun u s1 ⟨x, H1, I1, rx, a, dx, fs, ex, ea, l, q⟩ => ?_) ht
  subst ex
  obtain rfl : u = Value.ref a := rx
  refine lm I1 ea c hm l ?_
  exact W.callWith_K0 (first := [.ref a]) I1.kIn hm.kp (ji (us := [.ref a]) (vs := [.ref a]) F hr hb hd hx I1 (.cons rfl .nil) q)
structure Mk (K : W.Frag) (C f : Addr) : Prop where
  makes : W.makesIn K C = true
  init : W.findIn K (.ref C) "__init__" = some (some (.ref f))
  fn : W.isFn K (.ref f) = true
  kp : W.keepIn K (.ref C) = true
theorem oB {pins : List (Addr × Obj)} {σ : St} {H : Hp} {s : Shared} {Q : VK} {us : List Value} {vs : List V} (M : Mk X.K C f) (F : bv X.prog X.w X.K X.mg X.base CX k f fd ps sp) (hr : bQ (k + 1) X.A) (hb : bV X.K fd ps ds) (hd : aJ dvs ds)
    (hx : eI CX X E) (I : am X pins σ H s) (r : aJ vs us)
    (h : ∀ x dx, H x = none -> H dx = none -> dx ≠ x -> sp (.ref x :: (vs ++ dvs)) (be (be H dx (.own x)) x (.ins C dx [])) (fun v H2 => v = .non /\ Q (.ref x) H2) E) :
    wpAny (model X.prog X.w) X.A (call (.ref C) us) (EP X pins σ Q) X.xe s := by
  have hq := h (s.heap.objs.size + 1) s.heap.objs.size (I.hok.fresh (Nat.le_succ _)) (I.hok.fresh (Nat.le_refl _)) (Nat.ne_of_lt (Nat.lt_succ_self _))
  have I2 := am.made (C := C) I
  have r2 : aJ (V.ref (s.heap.objs.size + 1) :: (vs ++ dvs)) (Value.ref (s.heap.objs.size + 1) :: (us ++ ds)) := .cons rfl (r.append hd)
  have hl : (Value.ref (s.heap.objs.size + 1) :: us ++ ds).length = ps.length := by
    have e := r2.length
    rw [F.len _ _ _ _ hq] at e
    exact e.symm
  refine wpAny_call (oV (f := f) I.kIn M.makes M.init (beq_iff_eq.mp M.fn) (codeAny_mono (F.run _ X.stack _ _ ⟨Value.ref (s.heap.objs.size + 1) :: us, []⟩ (Value.ref (s.heap.objs.size + 1) :: (us ++ ds)) _ _ E (hr.make C us [])
    (I2.env0.make C us []) (hb _ (Value.ref (s.heap.objs.size + 1) :: us) I2.kIn hl) r2 hq) fun r s' hq' => ?_))
  cases r with
  | error e => exact hx pins σ _ _ e s' I2 hq'
  | ok fl =>
    cases fl with
    | ret u =>
      obtain ⟨v, H', I3, rv, ev, q3⟩ := I2.after hq'
      subst ev
      exact ⟨rv, ⟨V.ref (s.heap.objs.size + 1), H', I3, rfl, q3⟩⟩
    | next => exact False.elim hq'
    | brk => exact False.elim hq'
    | cont => exact False.elim hq'
theorem yy (M : Mk X.K C f) (F : bv X.prog X.w X.K X.mg X.base CX k f fd ps sp) (hr : bQ (k + 1) X.A) (hg : Gl X x) (hm : X.mg x = some (.ref C)) (hb : bV X.K fd ps ds) (hd : aJ dvs ds) (hx : eI CX X E)
    (ha : PA X (e :: es) t) (hdb : (x == ("__debug__" : Str)) = false := by decide) (he : starEach (e :: es) X.env = (false, eval e X.env) :: starEach es X.env := by rfl) (hpl : (backTo pos (starEach es X.env)).any (·.1) = false := by rfl) :
    PE X (.Call (.Name x p) (e :: es) [] pos) (wM C sp dvs E t) := by
  intro pins s σ H Q I h
  refine wpAny_Call_Name_kw (dE I hg hm ?_ hdb)
  refine W.callWith_K (h₀ := X.base) I.ok.mod.kin M.kp (aL (ha pos pins s σ H _ I h) fun us s1 ⟨vs, H1, I1, r, q⟩ => ⟨I1.kIn, ?_⟩) he hpl
  exact oB M F hr hb hd hx I1 r q
theorem vq (M : Mk X.K C f) (F : bv X.prog X.w X.K X.mg X.base CX k f fd ps sp) (hr : bQ (k + 1) X.A) (hg : Gl X x) (hm : X.mg x = some (.ref C)) (hb : bV X.K fd ps ds) (hd : aJ dvs ds) (hx : eI CX X E)
    (hdb : (x == ("__debug__" : Str)) = false := by decide) : PE X (.Call (.Name x p) [] [] pos) (wM C sp dvs E rO) := by
  intro pins s σ H Q I h
  refine wpAny_Call_Name_kw (dE I hg hm ?_ hdb)
  exact W.callWith_K0 I.kIn M.kp (oB (us := []) M F hr hb hd hx I .nil h)
end
section
variable {X : Cx} {CX : gR} {k : Nat} {f C : Addr} {fd : FuncData} {ps ks : List Str} {sp : Sp} {E : XK} {x m : Str} {p pos apos kpos : Pos} {e o : Expr} {es : List Expr} {kws : List Keyword} {te ta : TE} {t tk : TA} {nm : Option Str}
variable {g : List Value -> List Value -> List Value} {gV : List V -> List V -> List V}
end
structure aD (N P : List Str) (sc : Scope) : Prop where
  kind : sc.kind = .function
  co : sc.isCoroutine = false
  gen : sc.isGenerator = false
  nd : N.Nodup
  pre : N.take P.length = P
  par : ∀ x ∈ P, sc.names.lookup x = some .local \/ sc.names.lookup x = some .cell
  nofree : ∀ y ∈ sc.names, y.2 ≠ .free
theorem nv {kindOf : Str -> Option NameKind} {x : Str} : ∀ {binds : List (Str × Value)} {m : Str -> Option Value}, (∀ v, (x, v) ∉ binds) -> bindL kindOf binds m x = m x
  | [], _, _ => rfl
  | (n, v) :: r, m, h => by
    unfold bindL
    rw [nv fun w hw => h w (List.mem_cons_of_mem _ hw)]
    split
    . have : x ≠ n := by rintro rfl; exact h v List.mem_cons_self
      simp [this]
    . rfl
theorem nA {kindOf : Str -> Option NameKind} {x : Str} : ∀ {binds : List (Str × Value)} {m : Str -> Option Value}, (∀ v, (x, v) ∉ binds) -> bindC kindOf binds m x = m x
  | [], _, _ => rfl
  | (n, v) :: r, m, h => by
    unfold bindC
    rw [nA fun w hw => h w (List.mem_cons_of_mem _ hw)]
    split
    . rfl
    . have : x ≠ n := by rintro rfl; exact h v List.mem_cons_self
      simp [this]
theorem ny {kindOf : Str -> Option NameKind} {x : Str} {v : Value} : ∀ {P : List Str} {vs : List Value} {i : Nat} {m : Str -> Option Value}, P.Nodup -> P[i]? = some x -> vs[i]? = some v -> kindOf x = some .local ->
    bindL kindOf (P.zip vs) m x = some v
  | [], _, _, _, _, h, _, _ => by simp at h
  | _ :: _, [], _, _, _, _, h, _ => by simp at h
  | p :: P, w :: vs, 0, m, nd, h1, h2, hk => by
    simp at h1 h2; subst h1; subst h2
    show bindL kindOf ((p, w) :: P.zip vs) m p = _
    unfold bindL
    rw [nv fun v hv => (List.nodup_cons.mp nd).1 (List.of_mem_zip hv).1, if_pos hk]
    simp
  | p :: P, w :: vs, i + 1, m, nd, h1, h2, hk => by
    show bindL kindOf ((p, w) :: P.zip vs) m x = _
    unfold bindL
    exact ny (i := i) (List.nodup_cons.mp nd).2 (by simpa using h1) (by simpa using h2) hk
theorem nC {kindOf : Str -> Option NameKind} {x : Str} {v : Value} : ∀ {P : List Str} {vs : List Value} {i : Nat} {m : Str -> Option Value}, P.Nodup -> P[i]? = some x -> vs[i]? = some v -> kindOf x ≠ some .local ->
    bindC kindOf (P.zip vs) m x = some v
  | [], _, _, _, _, h, _, _ => by simp at h
  | _ :: _, [], _, _, _, _, h, _ => by simp at h
  | p :: P, w :: vs, 0, m, nd, h1, h2, hk => by
    simp at h1 h2; subst h1; subst h2
    show bindC kindOf ((p, w) :: P.zip vs) m p = _
    unfold bindC
    rw [nA fun v hv => (List.nodup_cons.mp nd).1 (List.of_mem_zip hv).1, if_neg hk]
    simp
  | p :: P, w :: vs, i + 1, m, nd, h1, h2, hk => by
    show bindC kindOf ((p, w) :: P.zip vs) m x = _
    unfold bindC
    exact nC (i := i) (List.nodup_cons.mp nd).2 (by simpa using h1) (by simpa using h2) hk
def start (N : List Str) (vs : List V) : St := vs.map some ++ List.replicate (N.length - vs.length) none
def cJ (CX : gR) (P : Program) (w : World) (K : W.Frag) (mg : Str -> Option Value) (base : Heap) (N : List Str) (qual : Str) (scope : Scope) (f : Addr) (cd : Value) (A : Around) (outer : List Env) (s : Shared) (H : Hp) (E : XK) : Cx where
  prog := P
  w := w
  K := K
  mg := mg
  base := base
  A := A.deeper (envOfC qual scope s.heap.objs.size f cd)
  N := N
  s₀ := s
  H₀ := H
  env := envOfC qual scope s.heap.objs.size f cd
  outer := outer
  stack := envOfC qual scope s.heap.objs.size f cd :: outer
  ex := []
  calm := true
  fn := fun _ => true
  pn := []
  xe := fun e s' => wpAny (model P w) (A.deeper (envOfC qual scope s.heap.objs.size f cd)) (leaving (envOfC qual scope s.heap.objs.size f cd) e) (fun _ s'' => CX outer H s E e s'') (fun e' s'' => CX outer H s E e' s'') s'
theorem pR {sc : Scope} {n : Nat} {x : Str} (h : sc.names.lookup x = some .cell) : ∃ c, (cellsFrom n sc.names []).lookup x = some c := by
  have q := W.cellsFrom_some sc.names n [] (.inl h)
  exact Option.isSome_iff_exists.mp q
theorem uk {CX : gR} {P : Program} {w : World} {K : W.Frag} {mg : Str -> Option Value} {base : Heap} {N ps : List Str} {qual : Str} {scope : Scope} {f : Addr} {cd : Value} {A : Around} {outer : List Env} {s s1 : Shared} {H : Hp} {E : XK} {us : List Value} {vs : List V}
    (S : aD N ps scope) (hd : A.handled = none) (e0 : io P w K mg base A outer s H) (hl : vs.length = ps.length) (r : aJ vs us)
    (x : InCallC s s.heap.objs.size (bindL (envOfC qual scope s.heap.objs.size f cd).kindOf (ps.zip us) fun _ => none) (cellsFrom (s.heap.objs.size + 1) scope.names []) (bindC (envOfC qual scope s.heap.objs.size f cd).kindOf (ps.zip us) fun _ => none) s1) :
    am (cJ CX P w K mg base N qual scope f cd A outer s H E) [] (start N vs) H s1 := by
  have hpl : ps.length <= N.length := by have := congrArg List.length S.pre; rw [List.length_take] at this; omega
  obtain ⟨h1, tk, rfl, hk⟩ := x.done
  have noA : ∀ b : Addr, b ∉ (cJ CX P w K mg base N qual scope f cd A outer s H E).ex := fun b z => absurd (show b ∈ ([] : List Addr) from z) (by simp)
  refine ⟨⟨e0.mod, S.kind, rfl, rfl, Nat.le_refl _, fun y z c h1 h2 => ?_, fun y hy => ?_, fun y c _ h => ?_, fun _ => hd, Around.frames_deeper e0.frames, .inr ⟨rfl, rfl⟩, fun b z => absurd z (noA b), e0.bs, e0.bsz, fun b _ _ => noA b, fun b z => absurd z (noA b), e0.funs, e0.frf⟩,
    rfl, e0.bare, Un.kept hk, ⟨_, x.toInCall.ns, fun i y v h1 h2 h3 => ?_⟩, fun y c h => ⟨_, x.cell y c h⟩, e0.hok.fresh (Nat.le_refl _), fun y c h => ?_, fun p hp => absurd (show p ∈ ([] : List (Addr × Obj)) from hp) (by simp), e0.hok.kept hk, ?_⟩
  . exact name_of_addr x.apart (PySem.mem_of_lookup h1) (PySem.mem_of_lookup h2)
  . have hy : scope.names.lookup y = some .cell \/ scope.names.lookup y = some .free := hy
    rcases hy with hy | hy
    . exact pR hy
    . exact absurd rfl (S.nofree _ (PySem.mem_of_lookup hy))
  . exact Nat.le_of_lt (x.above y c (PySem.mem_of_lookup h))
  . have hi : i < vs.length := by
      unfold start at h2
      by_cases hi : i < vs.length
      . exact hi
      . rw [List.getElem?_append_right (by simpa using hi)] at h2
        rw [List.getElem?_replicate] at h2
        split at h2 <;> cases h2
    have ha : vs[i]? = some v := by
      unfold start at h2
      rw [List.getElem?_append_left (by simpa using hi), List.getElem?_map] at h2
      cases e : vs[i]? with
      | none => rw [e] at h2; cases h2
      | some a => rw [e] at h2; cases h2; rfl
    obtain ⟨u, hu, rv⟩ := r.get ha
    have hp : ps[i]? = some y := by
      rw [<- S.pre, List.getElem?_take_of_lt (by omega)]; exact h1
    have ndP : ps.Nodup := by rw [<- S.pre]; exact S.nd.sublist (List.take_sublist _ _)
    refine ⟨u, rv, ?_⟩
    rcases S.par y (List.mem_of_getElem? hp) with k | k
    . exact .inl ⟨k, ny ndP hp hu k⟩
    . obtain ⟨c, e⟩ := pR (n := s.heap.objs.size + 1) k
      refine .inr ⟨.inl k, c, e, ?_⟩
      have q := x.cell y c e
      rw [nC ndP hp hu (by show scope.names.lookup y ≠ _; rw [k]; decide)] at q
      exact q
  . exact e0.hok.fresh (Nat.le_of_lt (x.above y c (PySem.mem_of_lookup h)))
  . unfold start
    show _ = N.length
    rw [List.length_append, List.length_map, List.length_replicate]
    omega
theorem sC {CX : gR} {P : Program} {w : World} {K : W.Frag} {mg : Str -> Option Value} {base : Heap} {k : Nat} {f : Addr} {name qual : Str} {params : Arguments} {body : List Stmt} {scope : Scope} {dV kV doc pm cdv ct oc : Value} {an od : Option Addr}
    {osl : Array (Option Value)} {N ps : List Str} {sp : Sp} (lk : K.lookup f = some ⟨oc, od, .func (W.fnOf name qual params body scope dV kV doc pm an cdv ct), osl⟩) (hcd : W.codeIn K cdv qual = true) (S : aD N ps scope)
    (len : ∀ vs H Q E, sp vs H Q E -> vs.length = ps.length)
    (hbody : ∀ (A : Around) (outer : List Env) (s : Shared) (H : Hp) (vs : List V) (Q : VK) (E : XK), bQ k (A.deeper (envOfC qual scope s.heap.objs.size f cdv)) -> sp vs H Q E ->
      ∃ t, eJ (cJ CX P w K mg base N qual scope f cdv A outer s H E) body t /\ t { nx := fun _ H' => Q .non H', rt := Q } (start N vs) H) :
    bv P w K mg base CX (k + 1) f (W.fnOf name qual params body scope dV kV doc pm an cdv ct) ps sp := by
  refine ⟨len, fun A outer s H args us vs Q E hr e0 hb r hsp => ?_⟩
  have hl := len _ _ _ _ hsp
  have KX : K.In s.heap := e0.mod.kin.keeps fun b o e => (e0.bs b o e).1
  have lim : s.heap.NoLimit := e0.mod.nolimit.keeps fun b o e => (e0.bs b o e).1
  have hkind : ∀ y ∈ ps.zip us, scope.names.lookup y.1 = some .local \/ (scope.names.lookup y.1 = some .cell /\ ((cellsFrom (s.heap.objs.size + 1) scope.names []).lookup y.1).isSome = true) := fun ⟨n, v⟩ hy => by
    rcases S.par n (List.of_mem_zip hy).1 with q | q
    . exact .inl q
    . exact .inr ⟨q, W.cellsFrom_some _ _ _ (.inl q)⟩
  refine codeAny_call_function hr.depth (KX _ _ lk) rfl S.co S.gen rfl (W.codeRec_of KX hcd) (hb _ _ _ _ ?_)
  refine wpAny_newFunctionEnv_cells S.kind hkind fun env he s1 x => ?_
  subst he
  refine ⟨lim.keeps x.toInCall.keep, codeAny_func ?_⟩
  obtain ⟨t, ht, hq⟩ := hbody A outer s H vs Q E (hr.deeper _) hsp
  have I : am (cJ CX P w K mg base N qual scope f cdv A outer s H E) [] (start N vs) H s1 := uk S hr.hd e0 hl r x
  refine wpAny_mono (ht [] s1 (start N vs) H _ I hq) (fun fl s' hs => ?_) fun e s' hs => hs
  have fin : ∀ {σ' : St} {H' : Hp} {v : V} {u : Value}, am (cJ CX P w K mg base N qual scope f cdv A outer s H E) [] σ' H' s' -> bi v u -> Q v H' -> CE outer P w H s Q u s' :=
    fun {σ' H' v u} J rv q => ⟨v, H', J.os, J.bare, J.base, J.hok, rv, q⟩
  cases fl with
  | ret u =>
    obtain ⟨v, σ', H', J, rv, q⟩ := hs
    exact fin J rv q
  | next =>
    obtain ⟨σ', H', J, q⟩ := hs
    exact fin (v := V.non) (u := Value.none) J rfl q
  | brk =>
    obtain ⟨_, _, _, q⟩ := hs
    exact False.elim q
  | cont =>
    obtain ⟨_, _, _, q⟩ := hs
    exact False.elim q
end L2
namespace L2
open PySem PySem.Spec PyProof.Rows
section
variable {X : Cx} {x : Str} {p pos : Pos} {e : Expr} {es : List Expr} {t : TA} {id T : String} {r : List V -> Hp -> VK -> Prop}
def Ds (r : List V -> Hp -> VK -> Prop) (t : TA) : TE := fun σ H Q => t σ H fun vs H1 => r vs H1 Q
theorem vw (hc : c7 X (.builtin id) r) (hg : Gl X x) (hm : X.mg x = none) (hv : bootBuiltins x = some (.builtin id)) (ha : PA X (e :: es) t) (hn : x ≠ "__name__" := by decide) (hdb : (x == ("__debug__" : Str)) = false := by decide)
    (he : starEach (e :: es) X.env = (false, eval e X.env) :: starEach es X.env := by rfl) (hpl : (backTo pos (starEach es X.env)).any (·.1) = false := by rfl) : PE X (.Call (.Name x p) (e :: es) [] pos) (Ds r t) := by
  intro pins s σ H Q I h
  refine wpAny_Call_Name_kw (iu I hg hm hv ?_ hn hdb)
  exact PyProof.Rows.callWith_builtin1 (aL (ha pos pins s σ H _ I h) fun us s1 ⟨vs, H1, I1, r1, q1⟩ => hc pins s1 σ H1 vs us Q I1 r1 q1) he hpl
theorem tU (hc : c7 X (.type T) r) (hg : Gl X x) (hm : X.mg x = none) (hv : bootBuiltins x = some (.type T)) (ha : PA X (e :: es) t) (hn : x ≠ "__name__" := by decide) (hdb : (x == ("__debug__" : Str)) = false := by decide)
    (he : starEach (e :: es) X.env = (false, eval e X.env) :: starEach es X.env := by rfl) (hpl : (backTo pos (starEach es X.env)).any (·.1) = false := by rfl) : PE X (.Call (.Name x p) (e :: es) [] pos) (Ds r t) := by
  intro pins s σ H Q I h
  refine wpAny_Call_Name_kw (iu I hg hm hv ?_ hn hdb)
  exact PyProof.Rows.callWith_type1 (aL (ha pos pins s σ H _ I h) fun us s1 ⟨vs, H1, I1, r1, q1⟩ => hc pins s1 σ H1 vs us Q I1 r1 q1) he hpl
end
end L2
namespace HT
open PySem PyProof.Rows
def lexLt : List Int -> List Int -> Bool
  | [], [] => false
  | [], _ :: _ => true
  | _ :: _, [] => false
  | x :: xs, y :: ys => if x = y then lexLt xs ys else decide (x < y)
section
open PySem.SeqAt
open PySem.AutoSeq1 (wpAny_loadPart')
open PySem.MeetsSeq PySem.MeetsSeq2 PySem.MeetsSeq3
end
section
variable {prog : Program} {w : World} {A : Around} {E : Value -> Shared -> Prop} {s : Shared}
theorem cat_tup {t b : Addr} {vs ws : List Value} {Q : Value -> Shared -> Prop} (ht : IsTup s.heap t vs.toArray) (hb : IsTup s.heap b ws.toArray) (hv : vs ≠ [])
    (h1 : ws = [] -> Q (.ref t) s) (h2 : ws ≠ [] -> Q (.ref s.heap.objs.size) { s with heap := s.heap.push { cls := .type "tuple", data := .seq (vs ++ ws).toArray } })
    (hsz : vs.length + ws.length <= sizeLine) : wpAny (model prog w) A (binaryOp .Add (.ref t) (.ref b)) Q E s := by
  obtain ⟨⟨cls, dd, data, sl⟩, ho, hc, n, hd⟩ := id ht
  obtain ⟨⟨cls2, dd2, data2, sl2⟩, ho2, hc2, n2, hd2⟩ := id hb
  simp only at hc hd hc2 hd2
  subst hc hd hc2 hd2
  have e : vs.toArray ++ ws.toArray = (vs ++ ws).toArray := by simp
  by_cases hw : ws = []
  . exact concat_meets ⟨_, ho, rfl⟩ ⟨_, ho2, rfl⟩ noFill_tuple_add seq_tuple_add PySem.F.slot_tuple_add PySem.F.entry_tuple_add (PySem.F.args_tuple_add_2 _ _)
      (tuple_addW1 t b vs.toArray ws.toArray n n2 dd dd2 sl sl2 (by simpa using hv) (by simp [hw])) ⟨ho, ho2, h1 hw⟩
  . refine concat_meets ⟨_, ho, rfl⟩ ⟨_, ho2, rfl⟩ noFill_tuple_add seq_tuple_add PySem.F.slot_tuple_add PySem.F.entry_tuple_add (PySem.F.args_tuple_add_2 _ _)
      (tuple_addW2 t b vs.toArray ws.toArray n n2 dd dd2 sl sl2 (by simpa using hv) (by simpa using hw) (by rw [List.size_toArray, List.size_toArray]; exact hsz)) ⟨ho, ho2, ?_⟩
    rw [e]
    exact h2 hw
def sIx (n d : Nat) : Option Int -> Nat
  | none => d
  | some v => if v < 0 then (v + (n : Int)).toNat else min v.toNat n
theorem AF (n d : Nat) (hd : d <= n) (o : Option Int) : sIx n d o <= n := by
  cases o with
  | none => exact hd
  | some v =>
    show (if v < 0 then (v + (n : Int)).toNat else min v.toNat n) <= n
    by_cases hv : v < 0
    . rw [if_pos hv]; omega
    . rw [if_neg hv]; exact Nat.min_le_right _ _
theorem rA (v : Int) (n d : Nat) : (if v < 0 then max (v + (n : Int)) 0 else min v (n : Int)) = ((sIx n d (some v) : Nat) : Int) := by
  show (if v < 0 then max (v + (n : Int)) 0 else min v (n : Int)) = (((if v < 0 then (v + (n : Int)).toNat else min v.toNat n) : Nat) : Int)
  by_cases hv : v < 0
  . simp only [if_pos hv]; omega
  . simp only [if_neg hv]; omega
theorem sN (lo hi : Option Int) (n : Nat) : Builtin.Slice.sliceAdjust lo hi 1 (n : Int) = (((sIx n 0 lo : Nat) : Int), ((sIx n n hi : Nat) : Int)) := by
  have h1 : ¬ ((1 : Int) < 0) := by omega
  unfold Builtin.Slice.sliceAdjust
  simp only [h1, if_false]
  refine Prod.ext ?_ ?_
  . cases lo with
    | none => rfl
    | some v => exact rA v n 0
  . cases hi with
    | none => rfl
    | some v => exact rA v n n
theorem rY (i j : Nat) : Builtin.Slice.slicePlaces (i : Int) (j : Int) 1 = j - i := by
  unfold Builtin.Slice.slicePlaces
  have h1 : (1 : Int) > 0 := by omega
  simp only [h1, if_true, Int.ediv_one]
  split <;> omega
theorem kP {v : Value} {o : Option Int} {Q : Option Int -> Shared -> Prop} (p : IsPart v o) (h : Q o s) : wpAny (model prog w) A (Builtin.Slice.slicePartIndex v) Q E s := by
  cases p with
  | none => exact slicePart_none h
  | int i t => exact slicePart_int h
theorem km {sl : Addr} {vl vu : Value} {lo hi : Option Int} {n : Nat} {Q : Int × Int × Nat -> Shared -> Prop} (hs : s.heap.IsSliceOf sl vl vu .none) (pl : IsPart vl lo) (pu : IsPart vu hi)
    (h : Q (((sIx n 0 lo : Nat) : Int), 1, sIx n n hi - sIx n 0 lo) s) : wpAny (model prog w) A (Builtin.Slice.sliceApplied (.ref sl) (pure (n : Int))) Q E s := by
  obtain ⟨os, hos, hcs, hds⟩ := id hs
  unfold Builtin.Slice.sliceApplied Builtin.Slice.sliceFields
  refine wpAny_bind (wpAny_bind (wpAny_field hos hds (x := vl) rfl (wpAny_bind (wpAny_field hos hds (x := vu) rfl (wpAny_bind (wpAny_field hos hds (x := .none) rfl (wpAny_pure ?_)))))))
  refine wpAny_bind (slicePart_none ?_)
  show wpAny _ _ (if ((1 : Int) == 0) = true then _ else _) _ _ s
  rw [if_neg (by decide)]
  refine wpAny_bind (kP pl (wpAny_bind (kP pu (wpAny_bind (wpAny_pure ?_)))))
  show wpAny _ _ (match Builtin.Slice.sliceAdjust lo hi 1 (n : Int) with | (lo, hi) => pure (lo, (1 : Int), Builtin.Slice.slicePlaces lo hi 1)) _ _ s
  rw [sN lo hi n]
  show wpAny _ _ (pure (((sIx n 0 lo : Nat) : Int), (1 : Int), Builtin.Slice.slicePlaces ((sIx n 0 lo : Nat) : Int) ((sIx n n hi : Nat) : Int) 1)) _ _ s
  rw [rY]
  exact wpAny_pure h
theorem vo (xs : Array Value) (i k : Nat) : ((List.range k).filterMap fun (m : Nat) => xs[((i : Int) + (m : Int) * 1).toNat]?).toArray = ((xs.toList.drop i).take k).toArray := by
  have e : (fun (m : Nat) => xs[((i : Int) + (m : Int) * 1).toNat]?) = fun m => xs[i + m]? := by
    funext m
    have : ((i : Int) + (m : Int) * 1).toNat = i + m := by omega
    rw [this]
  rw [e]
  have := pick_run xs i k
  rw [List.filterMap_map] at this
  have e2 : ((fun x => xs[x]?) ∘ fun x => i + x) = fun m => xs[i + m]? := rfl
  rw [e2] at this
  rw [this]
theorem getItem_tuple_cut {t sl : Addr} {items : Array Value} {vl vu : Value} {lo hi : Option Int} {Q : Value -> Shared -> Prop} (ht : IsTup s.heap t items) (hs : s.heap.IsSliceOf sl vl vu .none) (pl : IsPart vl lo) (pu : IsPart vu hi)
    (hw : ¬ (sIx items.size 0 lo = 0 /\ sIx items.size items.size hi = items.size))
    (h : Q (.ref s.heap.objs.size) { s with heap := s.heap.push { cls := .type "tuple", data := .seq ((items.toList.drop (sIx items.size 0 lo)).take (sIx items.size items.size hi - sIx items.size 0 lo)).toArray } })
    (hsz : items.size <= sizeLine) : wpAny (model prog w) A (getItem (.ref t) (.ref sl)) Q E s := by
  have htake : sizeOk (.seq ((items.toList.drop (sIx items.size 0 lo)).take (sIx items.size items.size hi - sIx items.size 0 lo)).toArray) := by
    show ((items.toList.drop (sIx items.size 0 lo)).take (sIx items.size items.size hi - sIx items.size 0 lo)).toArray.size <= sizeLine
    rw [List.size_toArray, List.length_take, List.length_drop, Array.length_toList]
    omega
  have hj : sIx items.size items.size hi <= items.size := AF _ _ (Nat.le_refl _) hi
  obtain ⟨os, hos, hcs, hds⟩ := id hs
  have hTs : s.TypeIs (.ref sl) "slice" := ⟨os, hos, hcs⟩
  unfold getItem
  try with_reducible refine wpAny_holding ?_
  first | refine wpAny_bind (wpAny_pure ?_) | skip
  refine wpAny_bind (wpAny_sequenceKey ht.typeIs (by decide) ?_)
  refine wpAny_bind (wpAny_callSpecial?_slot (name := Str.ofString "__getitem__") ht.typeIs PyProof.Rows.slot_tuple_getitem
    (wpAny_call_entry PyProof.Rows.slot_tuple_getitem ht.typeIs entry_tuple_getitem ?_ (args_tuple_getitem _ _)))
  show wpAny _ _ (Builtin.Tuple.tupleItemsOf (.ref t) >>= _) _ _ s
  refine wpAny_bind (tupleItemsOf_ ht ?_)
  refine wpAny_bind (wpAny_typeOf hTs ?_)
  rw [if_pos (by decide)]
  refine wpAny_bind (km hs pl pu ?_)
  have hno : ¬ ((((sIx items.size 0 lo : Nat) : Int) == 0 && (1 : Int) == 1 && (sIx items.size items.size hi - sIx items.size 0 lo) == items.size) = true) := by
    intro q
    rw [Bool.and_eq_true, Bool.and_eq_true] at q
    have q1 : ((sIx items.size 0 lo : Nat) : Int) = 0 := eq_of_beq q.1.1
    have q2 : sIx items.size items.size hi - sIx items.size 0 lo = items.size := eq_of_beq q.2
    exact hw ⟨by omega, by omega⟩
  show wpAny _ _ (if (((sIx items.size 0 lo : Nat) : Int) == 0 && (1 : Int) == 1 && (sIx items.size items.size hi - sIx items.size 0 lo) == items.size) = true then _ else _) _ _ s
  rw [if_neg hno, vo]
  first
    | exact wpAny_bind (m := Builtin.Tuple.tupleExact _) (wpAny_newObj_type (wpAny_pure ⟨_, rfl, wpAny_pure h⟩) htake)
    | exact wpAny_bind (m := Builtin.Tuple.tupleExact _) (wpAny_newObj_type (wpAny_bind (wpAny_pure (wpAny_pure ⟨_, rfl, wpAny_pure h⟩))) htake)
    | exact wpAny_bind (wpAny_bind (m := Builtin.Tuple.tupleExact _) (wpAny_newObj_type (wpAny_pure (wpAny_pure ⟨_, rfl, wpAny_pure h⟩)) htake))
    | exact wpAny_bind (wpAny_bind (m := Builtin.Tuple.tupleExact _) (wpAny_newObj_type (wpAny_pure ⟨_, rfl, wpAny_pure h⟩) htake))
end
end HT
namespace L2
open PySem PySem.Spec PyProof.Rows
abbrev TO := St -> Hp -> (Option Int -> Hp -> Prop) -> Prop
def PO (X : Cx) (e : Option Expr) (t : TO) : Prop :=
  ∀ (pins : List (Addr × Obj)) (s : Shared) (σ : St) (H : Hp) (Q : Option Int -> Hp -> Prop), am X pins σ H s -> t σ H Q ->
    wpAny (model X.prog X.w) X.A (evalPart e X.env) (fun u s' => ∃ o H', am X pins σ H' s' /\ IsPart u o /\ Q o H') X.xe s
def xT : TO := fun _ H Q => Q none H
def Cy (t : TE) : TO := fun σ H Q => t σ H fun x H1 => ∃ i, x = .int i /\ Q (some i) H1
section
variable {X : Cx} {e : Expr} {te : TE} {lo hi : Option Expr} {tl th : TO} {pos p2 : Pos}
theorem yr : PO X none xT := by
  intro pins s σ H Q I h
  rw [evalPart_none]
  exact wpAny_pure ⟨none, H, I, .none, h⟩
theorem yq (h : PE X e te) : PO X (some e) (Cy te) := by
  intro pins s σ H Q I hw
  rw [evalPart_some]
  refine aL (h pins s σ H _ I hw) fun u s1 ⟨x, H1, I1, r1, q1⟩ => ?_
  obtain ⟨i, rfl, q⟩ := q1
  obtain ⟨t, rfl⟩ := r1
  exact ⟨some i, H1, I1, .int i t, q⟩
def Cl (X : Cx) (r : V -> Option Int -> Option Int -> Hp -> VK -> Prop) : Prop :=
  ∀ (pins : List (Addr × Obj)) (s : Shared) (σ : St) (H : Hp) (x : V) (v vl vu : Value) (lo hi : Option Int) (sl : Addr) (Q : VK), am X pins σ H s -> bi x v -> s.heap.IsSliceOf sl vl vu .none -> IsPart vl lo -> IsPart vu hi -> r x lo hi H Q ->
    ∃ T id, typeLookup (.type T) "__getitem__" = pure (some (.builtin id)) /\ s.TypeIs v T /\ wpAny (model X.prog X.w) X.A (getItem v (.ref sl)) (EP X pins σ Q) X.xe s
def E9 (r : V -> Option Int -> Option Int -> Hp -> VK -> Prop) (te : TE) (tl th : TO) : TE := fun σ H Q => te σ H fun x H1 => tl σ H1 fun l H2 => th σ H2 fun u H3 => r x l u H3 Q
theorem oJ {r : V -> Option Int -> Option Int -> Hp -> VK -> Prop} (hr : Cl X r) (he : PE X e te) (hl : PO X lo tl) (hu : PO X hi th) : PE X (.Subscript e (.Slice lo hi none p2) pos) (E9 r te tl th) := by
  intro pins s σ H Q I h
  refine Subscript_ (aL (he pins s σ H _ I h) fun v s1 ⟨x, H1, I1, r1, q1⟩ => ?_)
  refine wpAny_Slice (aL (hl pins s1 σ H1 _ I1 q1) fun vl s2 ⟨l, H2, I2, pl, q2⟩ => aL (hu pins s2 σ H2 _ I2 q2) fun vu s3 ⟨u, H3, I3, pu, q3⟩ => ?_)
  rw [evalPart_none]
  refine wpAny_pure ?_
  have I4 : am X pins σ H3 { s3 with heap := s3.heap.push { cls := .type "slice", data := .fields #[vl, vu, .none] } } := I3.kept (t' := s3.toks) fun b ob q => Heap.get?_push_of_some _ q
  obtain ⟨T, id, hT, ht, hg⟩ := hr pins { s3 with heap := s3.heap.push { cls := .type "slice", data := .fields #[vl, vu, .none] } } σ H3 x v vl vu l u s3.heap.objs.size Q I4 r1 (Heap.IsSliceOf.new ..) pl pu q3
  show wpAny (model X.prog X.w) X.A (subscriptTail e (.Slice lo hi none p2) v (.ref s3.heap.objs.size)) (EP X pins σ Q) X.xe { s3 with heap := s3.heap.push { cls := .type "slice", data := .fields #[vl, vu, .none] } }
  exact tail_any (ops := [.ref s3.heap.objs.size, v]) ht hT hg (by with_unfolding_all rfl)
def ig (xs : List V) (lo hi : Option Int) : List V := (xs.drop (HT.sIx xs.length 0 lo)).take (HT.sIx xs.length xs.length hi - HT.sIx xs.length 0 lo)
theorem j7 (xs : List V) (lo hi : Option Int) : (ig xs lo hi).length <= xs.length := by
  unfold ig
  rw [List.length_take, List.length_drop]
  omega
def Em (K : W.Frag) : V -> Option Int -> Option Int -> Hp -> VK -> Prop := fun x lo hi H Q => ∃ a xs, x = .ref a /\ cz K H a xs /\
  ¬ (HT.sIx xs.length 0 lo = 0 /\ HT.sIx xs.length xs.length hi = xs.length) /\ ∀ p, H p = none -> Q (.ref p) (be H p (.tup (ig xs lo hi)))
theorem Am : Cl X (Em X.K) := by
  intro pins s σ H x v vl vu lo hi sl Q I rx hs pl pu h
  obtain ⟨a, xs, rfl, hx, hw, q⟩ := h
  cases rx
  obtain ⟨its, r, ht, hz⟩ := I.tuple hx
  have hlen : its.toArray.size = xs.length := by rw [List.size_toArray]; exact r.length.symm
  refine ⟨"tuple", _, PyProof.Rows.slot_tuple_getitem.lookup, ht.typeIs, ?_⟩
  refine HT.getItem_tuple_cut ht hs pl pu (by rw [hlen]; exact hw) ?_ (by rw [hlen]; exact hz)
  rw [hlen]
  refine ⟨.ref s.heap.objs.size, _, I.laid (t' := s.toks) (o := .tup (ig xs lo hi)) (fun b ob q => Heap.get?_push_of_some _ q) (Nat.le_refl _) ?_, rfl, q _ (I.hok.fresh (Nat.le_refl _))⟩
  exact ⟨Nat.le_trans (j7 xs lo hi) hz, _, (r.drop (HT.sIx xs.length 0 lo)).take (HT.sIx xs.length xs.length hi - HT.sIx xs.length 0 lo), IsTup.new _ _⟩
def rLtT (K : W.Frag) : R2 := fun x y H Q => ∃ a b ns ms, x = .ref a /\ y = .ref b /\ cz K H a (ns.map V.int) /\ cz K H b (ms.map V.int) /\ Q (.bl (HT.lexLt ns ms)) H
def CN (K : W.Frag) : R2 := fun x y H Q => ∃ a b xs ys, x = .ref a /\ y = .ref b /\ cz K H a xs /\ cz K H b ys /\ xs ≠ [] /\ xs.length + ys.length <= sizeLine /\
  (ys = [] -> Q (.ref a) H) /\ (ys ≠ [] -> ∀ p, H p = none -> Q (.ref p) (be H p (.tup (xs ++ ys))))
theorem aJ.nil_iff {xs : List V} {us : List Value} (r : aJ xs us) : us = [] ↔ xs = [] := by
  cases r with
  | nil => simp
  | cons _ _ => simp
theorem yG : dr X (binaryOp .Add) (CN X.K) := by
  intro pins s σ H x y v u Q I rx ry h
  obtain ⟨a, b, xs, ys, rfl, rfl, ha, hb, hx, hz, q1, q2⟩ := h
  cases rx
  cases ry
  obtain ⟨its, r1, p1, _⟩ := I.tuple ha
  obtain ⟨its2, r2, p2, _⟩ := I.tuple hb
  refine HT.cat_tup p1 p2 (fun z => hx (r1.nil_iff.mp z)) (fun z => ⟨.ref a, H, I, rfl, q1 (r2.nil_iff.mp z)⟩) (fun z => ?_) (by rw [<- r1.length, <- r2.length]; exact hz)
  refine ⟨.ref s.heap.objs.size, _, I.laid (t' := s.toks) (o := .tup (xs ++ ys)) (fun b ob q => Heap.get?_push_of_some _ q) (Nat.le_refl _) ?_, rfl, q2 (fun w => z (r2.nil_iff.mpr w)) _ (I.hok.fresh (Nat.le_refl _))⟩
  exact ⟨by rw [List.length_append]; exact hz, _, r1.append r2, IsTup.new _ _⟩
end
end L2
namespace L2
open PySem PySem.Spec PyProof.Rows
def ixN (n : Nat) (i : Int) : Option Nat := if 0 <= i then (if i < n then some i.toNat else none) else if -(n : Int) <= i then some (i + n).toNat else none
def atI {α : Type} (xs : List α) (i : Int) : Option α := (ixN xs.length i).bind fun j => xs[j]?
theorem rf {n : Nat} {i : Int} {j : Nat} (h : ixN n i = some j) : seqIndex? i n = some j /\ j < n /\ -(n : Int) <= i /\ i < n := by
  unfold ixN at h
  by_cases h0 : 0 <= i
  . rw [if_pos h0] at h
    by_cases h1 : i < n
    . rw [if_pos h1] at h
      have e : i.toNat = j := Option.some.inj h
      exact ⟨by rw [seqIndex_of h0 h1, e], by omega, by omega, h1⟩
    . rw [if_neg h1] at h; cases h
  . rw [if_neg h0] at h
    by_cases h1 : -(n : Int) <= i
    . rw [if_pos h1] at h
      have e : (i + n).toNat = j := Option.some.inj h
      exact ⟨by rw [seqIndex_neg (by omega) h1, e], by omega, h1, by omega⟩
    . rw [if_neg h1] at h; cases h
theorem rD {α : Type} {xs : List α} {i : Int} {v : α} (h : atI xs i = some v) : ∃ j, seqIndex? i xs.length = some j /\ xs[j]? = some v /\ j < xs.length /\ -(xs.length : Int) <= i /\ i < xs.length := by
  unfold atI at h
  cases e : ixN xs.length i with
  | none => rw [e] at h; cases h
  | some j =>
    rw [e] at h
    obtain ⟨h1, h2, h3, h4⟩ := rf e
    exact ⟨j, h1, h, h2, h3, h4⟩
theorem zK {α : Type} {xs : List α} {j : Nat} {v : α} (h : xs[j]? = some v) : atI xs (j : Int) = some v := by
  have hj : j < xs.length := (List.getElem?_eq_some_iff.mp h).1
  have e : ixN xs.length (j : Int) = some j := by
    unfold ixN
    rw [if_pos (by omega), if_pos (by omega)]; simp
  unfold atI; rw [e]; exact h
def mP (b : Expr) : Prop := ∀ o i, subscripted b false o i = operate [o, i] (getItem o i)
def Cs (X : Cx) (r : R2) : Prop :=
  ∀ (value slice : Expr) (pins : List (Addr × Obj)) (s : Shared) (σ : St) (H : Hp) (x y : V) (v u : Value) (Q : VK), am X pins σ H s -> bi x v -> bi y u -> r x y H Q ->
    subscripted slice false v u = operate [v, u] (getItem v u) -> wpAny (model X.prog X.w) X.A (subscriptTail value slice v u) (EP X pins σ Q) X.xe s
def Co (X : Cx) (id : String) (r : V -> List V -> Hp -> VK -> Prop) : Prop :=
  ∀ (pins : List (Addr × Obj)) (s : Shared) (σ : St) (H : Hp) (x : V) (xs : List V) (v : Value) (us : List Value) (Q : VK), am X pins σ H s -> bi x v -> aJ xs us -> r x xs H Q ->
    wpAny (model X.prog X.w) X.A (call (.builtin id) (v :: us)) (EP X pins σ Q) X.xe s
section
variable {X : Cx} {a b : Expr} {ta tb : TE} {pos : Pos}
theorem wU {r : R2} (hr : Cs X r) (ha : PE X a ta) (hb : PE X b tb) (hs : mP b) : PE X (.Subscript a b pos) (Dr r ta tb) := by
  intro pins s σ H Q I h
  exact Subscript_ (Cd ha hb I h fun v u s2 x y H2 I2 rx ry q => hr a b pins s2 σ H2 x y v u Q I2 rx ry q (hs _ _))
def Ep (K : W.Frag) : R2 := fun x y H Q => ∃ p xs i v, x = .ref p /\ y = .int i /\ cA K H p xs /\ atI xs i = some v /\ Q v H
def Eo (K : W.Frag) : R2 := fun x y H Q => ∃ p xs i v, x = .ref p /\ y = .int i /\ cz K H p xs /\ atI xs i = some v /\ Q v H
theorem yY : Cs X (Ep X.K) := by
  intro value slice pins s σ H x y v u Q I rx ry h hs
  obtain ⟨p, xs, i, z, rfl, rfl, hq, he, q⟩ := h
  cases rx
  obtain ⟨t, rfl⟩ := ry
  obtain ⟨its, r, pl, hz⟩ := I.list hq
  obtain ⟨j, h1, h2, h3, h4, h5⟩ := rD he
  obtain ⟨w, ew, rw'⟩ := r.get h2
  have hl := r.length
  have hn := ld
  have fin : EP X pins σ Q w s := ⟨z, H, I, rw', q⟩
  by_cases h0 : 0 <= i
  . have hj : i.toNat = j := by
      rw [seqIndex_of h0 h5] at h1
      exact Option.some.inj h1
    exact item_listR pl.isList h0 (by omega) (by rw [hj]; simpa using ew) fin hs
  . have hj : (i + (its.toArray.size : Int)).toNat = j := by
      rw [seqIndex_neg (by omega) h4] at h1
      rw [List.size_toArray, <- hl]
      exact Option.some.inj h1
    exact subscriptTail_builtinR (x := w) pl.isList.typeIs slot_list_getitem.lookup
      (wpAny_getItem_list_neg (Q := fun r s' => r = w /\ EP X pins σ Q r s') pl.isList (by omega) (by rw [List.size_toArray] <;> omega) (by omega) (by rw [hj]; simpa using ew) ⟨rfl, fin⟩) hs
theorem Bv : Cs X (Eo X.K) := by
  intro value slice pins s σ H x y v u Q I rx ry h hs
  obtain ⟨p, xs, i, z, rfl, rfl, hq, he, q⟩ := h
  cases rx
  obtain ⟨t, rfl⟩ := ry
  obtain ⟨its, r, pl, hz⟩ := I.tuple hq
  obtain ⟨j, h1, h2, h3, h4, h5⟩ := rD he
  obtain ⟨w, ew, rw'⟩ := r.get h2
  have hl := r.length
  have hn := ld
  have fin : EP X pins σ Q w s := ⟨z, H, I, rw', q⟩
  exact subscriptTail_builtinR (x := w) pl.typeIs slot_tuple_getitem.lookup
    (getItem_tuple (j := j) (Q := fun r s' => r = w /\ EP X pins σ Q r s') pl (by omega) (by omega) (by rw [List.size_toArray, <- hl]; exact h1) (by simpa using ew) ⟨rfl, fin⟩) hs
theorem si (its : List Value) (n j : Nat) (u : Value) : Obj.mapSeq (·.setIfInBounds j u) { cls := .type "list", data := .seq its.toArray n } = { cls := .type "list", data := .seq (its.set j u).toArray n } := by
  simp [Obj.mapSeq]
theorem am.lst {pins : List (Addr × Obj)} {σ : St} {H : Hp} {s : Shared} {p : Addr} {xs : List V} (I : am X pins σ H s) (h : H p = some (.lst xs)) :
    ∃ (its : List Value) (n : Nat), aJ xs its /\ s.heap.get? p = some { cls := .type "list", data := .seq its.toArray n } /\ xs.length <= sizeLine := by
  obtain ⟨z, its, n, r, e⟩ := I.hok p _ h
  exact ⟨its, n, r, e, z⟩
theorem am.lstUpd {pins : List (Addr × Obj)} {σ : St} {H : Hp} {s : Shared} {p : Addr} {xs ys : List V} {its its' : List Value} {n n' : Nat} {f : Obj -> Obj} (I : am X pins σ H s) (h : H p = some (.lst xs))
    (ho : s.heap.get? p = some { cls := .type "list", data := .seq its.toArray n }) (hf : f { cls := .type "list", data := .seq its.toArray n } = { cls := .type "list", data := .seq its'.toArray n' }) (r : aJ ys its') (hz : ys.length <= sizeLine) (t : Nat) :
    am X pins σ (be H p (.lst ys)) { s with heap := s.heap.update p f, toks := t } := by
  have e : (s.heap.update p f).get? p = some { cls := .type "list", data := .seq its'.toArray n' } := by
    rw [Heap.get?_update_self f ho (by rw [hf] <;> rfl), hf]
  refine I.write (x := p) (e := p) (by rw [h]; trivial) (.inl rfl) (fun b u hb q => (Heap.get?_update_other _ _ (Ne.symm hb)).trans q) ⟨_, e⟩ ?_
  exact ⟨hz, its', n', r, e⟩
def CM : V -> V -> V -> Hp -> (Hp -> Prop) -> Prop := fun o i v H Q => ∃ p xs k j, o = .ref p /\ i = .int k /\ H p = some (.lst xs) /\ ixN xs.length k = some j /\ Q (be H p (.lst (xs.set j v)))
theorem vf : Cn X CM := by
  intro pins s σ H o i v ov iv u Q I ro ri rv h
  obtain ⟨p, xs, k, j, rfl, rfl, hp, hj, q⟩ := h
  cases ro
  obtain ⟨t, rfl⟩ := ri
  obtain ⟨its, n, r, ho, hz⟩ := I.lst hp
  obtain ⟨h1, h2, h3, h4⟩ := rf hj
  have hl := r.length
  have hn := ld
  have I' : am X pins σ (be H p (.lst (xs.set j v))) { s with heap := s.heap.update p (Obj.mapSeq (·.setIfInBounds j u)) } :=
    I.lstUpd hp ho (si its n j u) (r.set rv j) (by rw [List.length_set]; exact hz) s.toks
  by_cases h0 : 0 <= k
  . have hk : k.toNat = j := by
      rw [seqIndex_of h0 h4] at h1
      exact Option.some.inj h1
    exact W.ki_setAt ho h0 (by omega) (by rw [List.size_toArray, <- hl]; exact h4) (by rw [hk]; exact ⟨_, I', q⟩)
  . have hk : (k + (its.toArray.size : Int)).toNat = j := by
      rw [seqIndex_neg (by omega) h3] at h1
      rw [List.size_toArray, <- hl]
      exact Option.some.inj h1
    exact W.ki_setBack ho (by omega) (by rw [List.size_toArray, <- hl]; exact h3) (by omega) (by rw [hk]; exact ⟨_, I', q⟩)
theorem oj (lo hi : Option Int) (n : Nat) : (sliceBounds lo hi none n).1 = ((HT.sIx n 0 lo : Nat) : Int) /\ (sliceBounds lo hi none n).2.1 = ((HT.sIx n n hi : Nat) : Int) /\ (sliceBounds lo hi none n).2.2 = 1 := by
  refine ⟨?_, ?_, rfl⟩
  . cases lo with
    | none => simp [sliceBounds, HT.sIx]
    | some i =>
      simp only [sliceBounds, HT.sIx, Option.getD_none, show (1 : Int) > 0 by decide, if_true]
      by_cases h : i < 0
      . simp only [h, if_true] <;> omega
      . simp only [h, if_false] <;> omega
  . cases hi with
    | none => simp [sliceBounds, HT.sIx]
    | some i =>
      simp only [sliceBounds, HT.sIx, Option.getD_none, show (1 : Int) > 0 by decide, if_true]
      by_cases h : i < 0
      . simp only [h, if_true] <;> omega
      . simp only [h, if_false] <;> omega
theorem nH (its : List Value) (lo hi : Option Int) : slicePick its.toArray lo hi none = ((its.drop (HT.sIx its.length 0 lo)).take (HT.sIx its.length its.length hi - HT.sIx its.length 0 lo)).toArray := by
  obtain ⟨h1, h2, h3⟩ := oj lo hi its.toArray.size
  unfold slicePick
  rw [h1, h2, h3]
  simp only [sliceRange_one, pick_run, List.size_toArray] <;> rfl
def En (K : W.Frag) : V -> Option Int -> Option Int -> Hp -> VK -> Prop := fun x lo hi H Q => ∃ a xs, x = .ref a /\ cA K H a xs /\ ∀ p, H p = none -> Q (.ref p) (be H p (.lst (ig xs lo hi)))
theorem x5 : Cl X (En X.K) := by
  intro pins s σ H x v vl vu lo hi sl Q I rx hs pl pu h
  obtain ⟨a, xs, rfl, hx, q⟩ := h
  cases rx
  obtain ⟨its, r, ht, hz⟩ := I.list hx
  have hlen := r.length
  refine ⟨"list", _, slot_list_getitem.lookup, ht.isList.typeIs, ?_⟩
  refine wpAny_getItem_list_slice ht.isList hs pl pu .none (by simp) ?_ (by rw [List.size_toArray] <;> omega)
  rw [nH, <- hlen]
  refine ⟨.ref s.heap.objs.size, _, I.laid (t' := s.toks) (o := .lst (ig xs lo hi)) (fun b ob q => Heap.get?_push_of_some _ q) (Nat.le_refl _) ?_, rfl, q _ (I.hok.fresh (Nat.le_refl _))⟩
  exact ⟨Nat.le_trans (j7 xs lo hi) hz, _, 0, (r.drop (HT.sIx xs.length 0 lo)).take (HT.sIx xs.length xs.length hi - HT.sIx xs.length 0 lo), Heap.get?_push_size _ rfl⟩
theorem jy : c7 X (.builtin "len") (fun xs H Q => ∃ p ys, xs = [.ref p] /\ (cA X.K H p ys \/ cz X.K H p ys) /\ Q (.int ys.length) H) := by
  intro pins s σ H xs us Q I r h
  obtain ⟨p, ys, rfl, hq, q⟩ := h
  obtain ⟨u, rfl, rx⟩ := eL r
  cases rx
  have hn := ld
  rcases hq with hq | hq
  . obtain ⟨its, r', pl, hz⟩ := I.list hq
    have hlen := r'.length
    exact Calls.call_len_list pl.isList (by simp only [List.size_toArray] <;> omega) ⟨.int ys.length, H, I.tok _, ⟨s.toks + 1, by rw [List.size_toArray, hlen]⟩, q⟩
  . obtain ⟨its, r', pl, hz⟩ := I.tuple hq
    have hlen := r'.length
    exact len_tuple pl (by simp only [List.size_toArray] <;> omega) ⟨.int ys.length, H, I.tok _, ⟨s.toks + 1, by rw [List.size_toArray, hlen]⟩, q⟩
theorem jx : c7 X (.type "list") (fun xs H Q => ∃ p ys, xs = [.ref p] /\ (cA X.K H p ys \/ cz X.K H p ys) /\ ∀ l, H l = none -> Q (.ref l) (be H l (.lst ys))) := by
  intro pins s σ H xs us Q I r h
  obtain ⟨p, ys, rfl, hq, q⟩ := h
  obtain ⟨u, rfl, rx⟩ := eL r
  cases rx
  have fin : ∀ (its : List Value), aJ ys its -> ys.length <= sizeLine -> ∀ (h' : Heap) (c' : Nat), (∀ b o', s.heap.get? b = some o' -> h'.get? b = some o') ->
      h'.get? s.heap.objs.size = some { cls := .type "list", dict := none, data := .seq its.toArray c', slots := #[] } -> EP X pins σ Q (.ref s.heap.objs.size) { s with heap := h' } := fun its r' hz h' c' kp e =>
    ⟨.ref s.heap.objs.size, _, I.laid (t' := s.toks) kp (Nat.le_refl _) (show cf X.prog X.w _ h' _ (.lst ys) from ⟨hz, its, c', r', e⟩), rfl, q _ (I.hok.fresh (Nat.le_refl _))⟩
  rcases hq with hq | hq
  . obtain ⟨its, r', pl, hz⟩ := I.list hq
    have hlen := r'.length
    obtain ⟨o, ho, hc, n, hd⟩ := pl.isList
    exact call_list_seq p (.inl rfl) ho hc hd (fun h' c' kp e => fin its r' hz h' c' kp e) (by simp only [List.size_toArray] <;> omega)
  . obtain ⟨its, r', pl, hz⟩ := I.tuple hq
    have hlen := r'.length
    obtain ⟨o, ho, hc, n, hd⟩ := pl
    exact call_list_seq p (.inr rfl) ho hc hd (fun h' c' kp e => fin its r' hz h' c' kp e) (by simp only [List.size_toArray] <;> omega)
theorem i8 : c7 X (.type "tuple") (fun xs H Q => ∃ p ys, xs = [.ref p] /\ ((cA X.K H p ys /\ ∀ l, H l = none -> Q (.ref l) (be H l (.tup ys))) \/ (cz X.K H p ys /\ Q (.ref p) H))) := by
  intro pins s σ H xs us Q I r h
  obtain ⟨p, ys, rfl, h⟩ := h
  obtain ⟨u, rfl, rx⟩ := eL r
  cases rx
  rcases h with ⟨hq, q⟩ | ⟨hq, q⟩
  . obtain ⟨its, r', pl, hz⟩ := I.list hq
    have hlen := r'.length
    refine call_tuple_list pl.isList (fun h' kp => ?_) (by simp only [List.size_toArray] <;> omega)
    have I1 : am X pins σ H { s with heap := h' } := I.kept (t' := s.toks) kp
    have I2 : am X pins σ (be H h'.objs.size (.tup ys)) { s with heap := h'.push { cls := .type "tuple", data := .seq its.toArray } } :=
      I1.laid (t' := s.toks) (fun b o e => Heap.get?_push_of_some _ e) (Nat.le_refl _) (show cf X.prog X.w _ _ _ (.tup ys) from ⟨hz, its, r', IsTup.new _ _⟩)
    exact ⟨.ref h'.objs.size, _, I2, rfl, q _ (I1.hok.fresh (Nat.le_refl _))⟩
  . obtain ⟨its, r', pl, hz⟩ := I.tuple hq
    exact call_tuple_same pl ⟨.ref p, H, I, rfl, q⟩
def zQ (K : W.Frag) (T : String) (x : V) (H : Hp) : Prop := match x with
  | .str _ => T = "str"
  | .int _ => T = "int"
  | .ref p => (T = "list" /\ ∃ xs, cA K H p xs) \/ (T = "tuple" /\ ∃ o, K.lookup p = some o /\ o.cls = .type "tuple" /\ o.dict = none) \/
      (T = "dict" /\ ((∃ kvs, H p = some (.dK kvs)) \/ ∃ kvs, H p = some (.dT kvs))) \/ (T = "set" /\ ∃ S n, H p = some (.set S n))
  | _ => False
theorem sZ {pins : List (Addr × Obj)} {σ : St} {H : Hp} {s : Shared} {T : String} {x : V} {v : Value} (I : am X pins σ H s) (r : bi x v) (ty : zQ X.K T x H) :
    s.TypeIs v T /\ ∀ a, v = .ref a -> ∃ ob, s.heap.get? a = some ob /\ ob.dict = none := by
  cases x with
  | str z =>
    obtain ⟨t, rfl⟩ := r
    cases (show T = "str" from ty)
    exact ⟨typeIs_str s z t, fun _ e => nomatch e⟩
  | int i =>
    obtain ⟨t, rfl⟩ := r
    cases (show T = "int" from ty)
    exact ⟨typeIs_int s i t, fun _ e => nomatch e⟩
  | ref p =>
    cases r
    rcases ty with ⟨rfl, xs, hq⟩ | ⟨rfl, o, hk, hc, hd⟩ | ⟨rfl, hk⟩ | ⟨rfl, S, n, hk⟩
    . obtain ⟨its, _, pl, _⟩ := I.list hq
      refine ⟨pl.isList.typeIs, fun a e => ?_⟩
      cases e
      obtain ⟨o, n, e, c, hd, _⟩ := pl
      exact ⟨o, e, hd⟩
    . refine ⟨⟨o, I.kIn p o hk, hc⟩, fun a e => ?_⟩
      cases e
      exact ⟨o, I.kIn _ o hk, hd⟩
    . have z : ∃ o, s.heap.get? p = some o /\ o.ExactDict := by
        rcases hk with ⟨kvs, hk⟩ | ⟨kvs, hk⟩
        . obtain ⟨_, _, _, _, o, _, _, e, ex, _⟩ := I.hok p _ hk
          exact ⟨o, e, ex⟩
        . obtain ⟨_, _, _, _, o, _, _, e, ex, _⟩ := I.hok p _ hk
          exact ⟨o, e, ex⟩
      obtain ⟨o, e, ex⟩ := z
      refine ⟨⟨o, e, ex.1⟩, fun a e2 => ?_⟩
      cases e2
      exact ⟨o, e, ex.2.1⟩
    . obtain ⟨o, _, _, _, e, ex, _⟩ := I.hok p _ hk
      refine ⟨⟨o, e, ex.1⟩, fun a e2 => ?_⟩
      cases e2
      exact ⟨o, e, ex.2.1⟩
  | _ => exact False.elim ty
def DN (K : W.Frag) (T : String) (r : V -> List V -> Hp -> VK -> Prop) (to : TE) : TE := fun σ H Q => to σ H fun x H1 => zQ K T x H1 /\ r x [] H1 Q
def Fc (K : W.Frag) (T : String) (r : V -> List V -> Hp -> VK -> Prop) (to : TE) (t : TA) : TE := fun σ H Q => to σ H fun x H1 => zQ K T x H1 /\ t σ H1 fun xs H2 => r x xs H2 Q
variable {o e : Expr} {es : List Expr} {to : TE} {t : TA} {name : Str} {apos cpos : Pos} {T id : String} {r : V -> List V -> Hp -> VK -> Prop}
theorem A3 (pa : PlainAttrs T) (slot : Slot T name id) (hty : typeOf (.builtin id) = pure (.type "method_descriptor")) (hm : Co X id r) (ho : PE X o to)
    (hbase : attributeBase o name X.env (eval o X.env) = eval o X.env := by rfl) (hline : (apos.endLine == cpos.line) = true := by rfl) : PE X (.Call (.Attribute o name apos) [] [] cpos) (DN X.K T r to) := by
  intro pins s σ H Q I h
  refine wpAny_Call_method0_late hbase hline (aL (ho pins s σ H _ I h) fun v s1 ⟨x, H1, I1, r1, ty, q1⟩ => ?_)
  obtain ⟨h1, h2⟩ := sZ I1 r1 ty
  exact ⟨T, id, pa, slot, hty, h1, h2, Calls.callWith_builtin rfl (PySem.evalArgs_none (hm pins s1 σ H1 x [] v [] Q I1 r1 .nil q1))⟩
theorem CU (pa : PlainAttrs T) (slot : Slot T name id) (hty : typeOf (.builtin id) = pure (.type "method_descriptor")) (hm : Co X id r) (ho : PE X o to) (ha : PA X (e :: es) t)
    (hbase : attributeBase o name X.env (eval o X.env) = eval o X.env := by rfl)
    (hfew : ((backTo cpos (starEach (e :: es) X.env)).all (fun x => !x.1) && (backToKw cpos (keywordEach [] X.env)).all (fun x => x.1.isSome)
      && decide ((e :: es).length + ([] : List Keyword).length + (if ([] : List Keyword).isEmpty then 0 else 1) < 30)) = true := by rfl)
    (hline : (apos.endLine == cpos.line) = true := by rfl) (hs : starEach (e :: es) X.env = (false, eval e X.env) :: starEach es X.env := by rfl) (hplain : (backTo cpos (starEach es X.env)).any (·.1) = false := by rfl) :
    PE X (.Call (.Attribute o name apos) (e :: es) [] cpos) (Fc X.K T r to t) := by
  intro pins s σ H Q I h
  refine wpAny_Call_method_late hbase hfew hline rfl (aL (ho pins s σ H _ I h) fun v s1 ⟨x, H1, I1, r1, ty, q1⟩ => ?_)
  obtain ⟨h1, h2⟩ := sZ I1 r1 ty
  refine ⟨T, id, pa, slot, hty, h1, h2, ?_⟩
  have hA := ha cpos pins s1 σ H1 _ I1 q1
  rw [hs] at hA ⊢
  refine Calls.callWith_builtin (by show (false || (backTo cpos (starEach es X.env)).any (·.1)) = false; rw [hplain] <;> rfl) (Calls.evalArgs_plain ?_)
  exact aL hA fun us s2 ⟨vs, H2, I2, r2, q2⟩ => hm pins s2 σ H2 x vs v us Q I2 r1 r2 q2
/- xs.append(e), list.index on a module's tuple .. are Co facts of 06m -/
end
end L2
namespace L2
open PySem PySem.Spec PyProof.Rows
def Dx (X : Cx) (id : String) (r : V -> List V -> Hp -> VK -> Prop) : Prop :=
  ∀ (pins : List (Addr × Obj)) (s : Shared) (σ : St) (H : Hp) (x : V) (xs : List V) (v : Value) (us : List Value) (Q : VK), am X pins σ H s -> bi x v -> aJ xs us -> r x xs H Q ->
    wpAny (model X.prog X.w) X.A (call (.builtin id) (v :: us)) (EP X pins σ Q) X.xe s
theorem aJ.one : ∀ {x : V} {us : List Value}, aJ [x] us -> ∃ u, us = [u] /\ bi x u
  | _, _, .cons r .nil => ⟨_, rfl, r⟩
theorem aJ.zero : ∀ {us : List Value}, aJ [] us -> us = []
  | _, .nil => rfl
theorem aJ.reverse {xs : List V} {us : List Value} (h : aJ xs us) : aJ xs.reverse us.reverse := by
  induction h with
  | nil => exact .nil
  | cons r t ih => rw [List.reverse_cons, List.reverse_cons]; exact aJ.append ih (.cons r .nil)
section
variable {X : Cx} {pins : List (Addr × Obj)} {σ : St} {H : Hp} {s : Shared} {l b : Addr} {xs ys zs : List V}
theorem am.lset {its its' : List Value} {n : Nat} {f : Array Value -> Array Value} {t' : Nat} (I : am X pins σ H s) (hH : H l = some (.lst xs))
    (e : s.heap.get? l = some { cls := .type "list", data := .seq its.toArray n }) (hf : f its.toArray = its'.toArray) (hv : aJ ys its') (hz : ys.length <= sizeLine) :
    am X pins σ (be H l (.lst ys)) { s with heap := s.heap.update l (Obj.mapSeq f), toks := t' } := by
  have q := PySem.IsL.update e f
  rw [hf] at q
  refine I.write (x := l) (e := l) (by rw [hH]; exact trivial) (.inl rfl) (fun b' u hb hu => (Heap.get?_update_other s.heap (Obj.mapSeq f) (Ne.symm hb)).trans hu) ⟨_, q⟩ ?_
  exact ⟨hz, its', _, hv, q⟩
theorem am.lnew {its : List Value} {t' : Nat} (I : am X pins σ H s) (hv : aJ ys its) (hz : ys.length <= sizeLine) :
    am X pins σ (be H s.heap.objs.size (.lst ys)) { s with heap := s.heap.push { cls := .type "list", data := .seq its.toArray }, toks := t' } :=
  I.laid (fun _ _ q => Heap.get?_push_of_some _ q) (Nat.le_refl _) ⟨hz, its, 0, hv, Heap.get?_push_size _ rfl⟩
theorem am.fresh (I : am X pins σ H s) : H s.heap.objs.size = none := I.hok.fresh (Nat.le_refl _)
theorem am.lstM (I : am X pins σ H s) (hH : H l = some (.lst xs)) : xs.length <= sizeLine /\ ∃ (its : List Value) (n : Nat), aJ xs its /\ xs.length = its.length /\ s.heap.get? l = some { cls := .type "list", data := .seq its.toArray n } := by
  obtain ⟨z, its, n, r, e⟩ := I.hok l _ hH
  exact ⟨z, its, n, r, r.length, e⟩
end
section
variable {X : Cx}
def yi : V -> List V -> Hp -> VK -> Prop := fun x vs H Q => ∃ l xs y, x = .ref l /\ vs = [y] /\ H l = some (.lst xs) /\ xs.length < sizeLine /\ Q .non (be H l (.lst (xs ++ [y])))
theorem na : Dx X "list.append" yi := by
  intro pins s σ H x vs v us Q I rx rv h
  obtain ⟨l, xs, y, rfl, rfl, hH, hz, q⟩ := h
  cases rx
  obtain ⟨u, rfl, ru⟩ := rv.one
  obtain ⟨z, its, n, r, hl, e⟩ := I.lstM hH
  refine call_meets F.slot_list_append ⟨_, e, rfl⟩ F.entry_list_append (F.args_list_append_2 _ _) (PySem.list_append l its.toArray n u (by rw [List.size_toArray]; omega)) ⟨e, ?_⟩
  refine ⟨.non, _, I.lset (its' := its ++ [u]) hH e (by simp) (r.append (.cons ru .nil)) ?_, rfl, q⟩
  rw [List.length_append, List.length_singleton]
  omega
end
section
variable {prog : Program} {w : World} {A : Around} {E : Value -> Shared -> Prop} {s : Shared}
set_option maxRecDepth 100000 in
end
section
variable {X : Cx}
end
end L2
namespace Att
open PySem PySem.W PySem.Calls PyProof.Rows
theorem lj {P : Params} {h : Heap} : ∀ (ns : List Int) (vs : List Value), WellAll P h vs (ns.map WData.int) -> IntsAre vs ns := by
  intro ns
  induction ns with
  | nil =>
    intro vs w
    rw [List.map_nil] at w
    cases w
    exact .nil
  | cons n ns ih =>
    intro vs w
    rw [List.map_cons] at w
    cases w with
    | cons a b =>
      cases a
      exact .cons _ _ (ih _ b)
theorem mX {l : OpenLaw} {n : Nat} (hn : l.most = some n) {P : Params} {h : Heap} {args : List WData} {vals : List Value}
    (hpre : l.row.toRowW.claim.pre args = true) (hwl : WellAll P h vals args) :
    ∃ a vs ns, vals = [Value.ref a] /\ args = [WData.list (ns.map WData.int)] /\ h.get? a = some { cls := .type "list", data := .seq vs.toArray } /\ IntsAre vs ns /\ ns.length <= n := by
  have hsh : WShape.hasAll [] args [.list .int] = true := (pre_splitW hpre).1
  have hc : l.pre.holds [] { args := args } = true := (pre_splitW hpre).2
  obtain ⟨d, r, rfl, h1, h2⟩ := hasAllW_cons hsh
  obtain rfl := hasAllW_nil h2
  obtain ⟨xs, rfl, h3⟩ := hasW_list h1
  obtain ⟨ns, rfl⟩ := items_int h3
  have hlen : ns.length <= n := by
    unfold OpenLaw.pre at hc
    have h4 : (WTm.not (.lt (.lit (.int (n : Int))) (.len (.arg 0)))).holds [] { args := [.list (ns.map .int)] } = true := by
      have h4 := (holds_andW hc).1
      rw [hn] at h4
      exact h4
    have h5 := condW_of h4 (w_not (w_lt w_lit (w_len_list (w_arg rfl))))
    rw [List.length_map] at h5
    refine Nat.le_of_not_lt fun q => ?_
    have q' : (n : Int) < ((ns.length : Nat) : Int) := by omega
    first
      | (rw [decide_eq_true q'] at h5; exact absurd h5 (by decide))
      | (simp at h5; omega)
  cases hwl with
  | cons w1 w2 =>
    cases w2
    cases w1 with
    | list ho hall => exact ⟨_, _, ns, rfl, rfl, ho, lj ns _ hall, hlen⟩
theorem m9 (l : OpenLaw) (args : List WData) : l.row.toRowW.claim.post args (.bool true) args = true :=
  postW_of (r := l.row.toRowW) (X := (true == true))
    (show WShape.has [] (.bool true) .bool = true by first | rfl | decide | simp [WShape.has, WShape.arms, WShape.armsAll])
    (show (WTm.eq .res (.lit (.bool true))).value [] { args := args, res := some (.bool true), after := args } = some (.bool (true == true)) from w_eq_bool (w_res rfl) w_lit) rfl
theorem attach_call {l : OpenLaw} {n : Nat} {q : Program} {loose : List Str} {XP : (Str -> Option Value) -> Heap -> Prop} {YP : World -> Heap -> Prop} {d : DefRec}
    (hn : l.most = some n) (hdf : d.params.defaults = [])
    (call : ∀ (w : World) (s₀ s₁ : Shared) (mg mb : Str -> Option Value) (fa : Addr) (o : Obj) (pm cd doc : Value) (a : Addr) (vs : List Value) (ns : List Int),
      Ground q loose [] XP w s₀ mg mb s₁.heap -> YP w s₁.heap ->
      s₁.heap.get? fa = some o -> o.data = .func (docDef d.name d.params d.body d.scope pm cd doc) -> s₁.heap.CodeRec cd d.name -> mg d.name = some (.ref fa) ->
      s₁.heap.get? a = some { cls := .type "list", data := .seq vs.toArray } -> IntsAre vs ns -> ns.length <= n -> s₁.gens = #[] ->
      codeAny (model l.prog w) callerA (.call (.ref fa) ⟨[.ref a], []⟩) (fun r s' => r = .ok (.ret (.bool true)) /\ OldK s₁.heap s'.heap /\ s'.os = s₁.os /\ AllBare s'.gens) s₁) :
    WalkO q loose XP YP l.row.toRowW d [] (fun f vs => PySem.call f vs) := by
  intro w s₀ s₁ mg mb G Y fa o pm cd doc dV kV ho hd hcd hD hmg hg args vals as hpre hlay hrd hwl hlo
  obtain rfl : dV = .none := Dflts.none hD hdf
  obtain rfl : kV = .none := Dflts.noKw hD
  obtain ⟨a, vs, ns, rfl, rfl, hobj, hints, hlen⟩ := mX hn hpre hwl
  refine enter_call (codeAny_mono (call w s₀ s₁ mg mb fa o pm cd doc a vs ns G Y ho (fd_plain hd) hcd hmg hobj hints hlen hg) fun r s' hq => ?_)
  obtain ⟨rfl, h2, h3, h4⟩ := hq
  exact ⟨.inl ⟨.bool true, .bool true, [], rfl, fun _ => rfl, .bool true, m9 l _, fun _ => ⟨List.Pairwise.nil, fun _ hm => (nomatch hm)⟩⟩, h2, h3, h4⟩
section
variable {prog : Program} {w : World} {A : Around} {E : Value -> Shared -> Prop} {s : Shared} {K : Frag}
end
end Att
namespace L2
open PySem PySem.Spec PyProof.Rows
theorem mR : ∀ {vs : List Value} {ns : List Int}, IntsAre vs ns -> aJ (ns.map V.int) vs
  | _, _, .nil => .nil
  | _, _, .cons n t h => .cons ⟨t, rfl⟩ (mR h)
def qh (H : Hp) : Prop := ∀ b, H b = none \/ ∃ o xs, H b = some (.frz o (.lst xs))
theorem oZ {P : Program} {w : World} {K : W.Frag} {mg mb : Str -> Option Value} {CX : gR} {k : Nat} {fa a : Addr} {fd : FuncData} {x : Str} {sp : Sp} {s₁ : Shared} {vs : List Value} {ns : List Int}
    (KX : K.In s₁.heap) (hns : s₁.heap.Ns mainGlobals mg) (hb : s₁.heap.Ns builtinsNs mb) (hbb : ∀ x : Str, x ≠ "__name__" -> mb x = bootBuiltins x) (hlim : s₁.heap.NoLimit) (hg : s₁.gens = #[])
    (ha : s₁.heap.get? a = some { cls := .type "list", data := .seq vs.toArray }) (hi : IntsAre vs ns) (hl : ns.length <= sizeLine) (hr : bQ k callerA)
    (F : ∀ base : Heap, K.In base -> base.Ns mainGlobals mg -> bv P w K mg base CX k fa fd [x] sp) (hbind : ∀ (s : Shared) (u : Value), BindsTo s fd ⟨[u], []⟩ [(x, u)])
    (hsp : ∀ H : Hp, qh H -> cA K H a (ns.map V.int) -> sp [.ref a] H (fun v _ => v = .bl true) fun _ _ _ => False)
    (hCX : ∀ H e s', CX [] H s₁ (fun _ _ _ => False) e s' -> False) :
    codeAny (model P w) callerA (.call (.ref fa) ⟨[.ref a], []⟩) (fun r s' => r = .ok (.ret (.bool true)) /\ OldK s₁.heap s'.heap /\ s'.os = s₁.os /\ AllBare s'.gens) s₁ := by
  have rv := mR hi
  have lenV := hi.length
  have core : ∀ H : Hp, qh H -> cA K H a (ns.map V.int) -> di P w H s₁.heap -> (∀ b, H b ≠ none -> b = a) -> (H a ≠ none -> K.lookup a = none) ->
      codeAny (model P w) callerA (.call (.ref fa) ⟨[.ref a], []⟩) (fun r s' => r = .ok (.ret (.bool true)) /\ OldK s₁.heap s'.heap /\ s'.os = s₁.os /\ AllBare s'.gens) s₁ := by
    intro H hO hS hok hA hK
    have eR : ∀ {b : Addr} {o : Obj}, s₁.heap.get? b = some o -> H b = none -> (iQ s₁.heap H).get? b = some o := fun e n => vN e n
    have noA : ∀ {b : Addr} {o : Obj} {es : Array DictEntry} {ep : Nat}, s₁.heap.get? b = some o -> o.data = .dict es ep -> H b = none := fun {b o es ep} e d => by
      cases q : H b with
      | none => rfl
      | some u =>
        have e' : b = a := hA b (by rw [q]; simp)
        subst e'
        rw [ha] at e; cases e
        have d' : Data.seq vs.toArray _ = Data.dict es ep := d
        cases d'
    have nsK : ∀ {b : Addr} {m : Str -> Option Value}, s₁.heap.Ns b m -> (iQ s₁.heap H).Ns b m := fun {b m} ⟨o, es, ep, e, d, r⟩ => ⟨o, es, ep, eR e (noA e d), d, r⟩
    have hKb : K.In (iQ s₁.heap H) := fun b o e => eR (KX b o e) (by
      cases q : H b with
      | none => rfl
      | some u =>
        have e' : b = a := hA b (by rw [q]; simp)
        subst e'
        rw [hK (by rw [q]; simp)] at e; cases e)
    have hM : Mod K mg (iQ s₁.heap H) := ⟨hKb, nsK hns, ⟨mb, nsK hb, hbb⟩, let ⟨mc, h1, h2⟩ := hlim; ⟨mc, nsK h1, h2⟩⟩
    have e0 : io P w K mg (iQ s₁.heap H) callerA [] s₁ H := ⟨rfl, hM, fun b o e => yI e, Nat.le_of_eq (ut _ _), trivial, fun b hb => absurd (show b ∈ ([] : List Addr) from hb) (by simp), hok, .of_eq hg⟩
    refine codeAny_mono ((F _ hKb (nsK hns)).run callerA [] s₁ H ⟨[.ref a], []⟩ [.ref a] [.ref a] _ _ hr e0 (hbind s₁ (.ref a)) (.cons rfl .nil) (hsp H hO hS)) fun r s' h => ?_
    cases r with
    | error e => exact (hCX H e s' h).elim
    | ok fl =>
      cases fl with
      | next => exact False.elim h
      | brk => exact False.elim h
      | cont => exact False.elim h
      | ret u =>
        obtain ⟨v, H', os, bare, un, hok', r', q⟩ := h
        have q' : v = .bl true := q
        subst q'
        obtain rfl : u = Value.bool true := r'
        refine ⟨rfl, OldK.of_keep fun b o e => ?_, os, bare⟩
        cases q : H b with
        | none => exact un.keep b o e q (by intro z; exact absurd (show b ∈ ([] : List Addr) from z) (by simp)) (by simp)
        | some u =>
          rcases hO b with z | ⟨ob, xs, z⟩
          . rw [q] at z; cases z
          . have z2 := un.frzs b ob _ z
            obtain ⟨e1, _⟩ := hok b _ z
            obtain ⟨e2, _⟩ := hok' b _ z2
            rw [e] at e1; cases e1
            exact e2
  cases hk : K.lookup a with
  | some o =>
    have e := KX a o hk
    rw [ha] at e
    cases e
    refine core (fun _ => none) (fun _ => .inl rfl) (.inr ⟨_, vs.toArray, _, hk, rfl, rfl, rfl, by rw [List.size_toArray, lenV]; exact hl, by simpa using rv⟩) (fun b u z => by have z' : (none : Option HO) = some u := z; cases z') (fun b z => absurd rfl z) fun z => absurd rfl z
  | none =>
    refine core (fun b => if b = a then some (.frz { cls := .type "list", data := .seq vs.toArray } (.lst (ns.map V.int))) else none) (fun b => ?_) (.inl (.inr ⟨{ cls := .type "list", data := .seq vs.toArray }, if_pos rfl⟩)) (fun b u z => ?_) (fun b z => ?_) fun _ => hk
    . by_cases hb : b = a
      . exact .inr ⟨_, _, if_pos hb⟩
      . exact .inl (if_neg hb)
    . by_cases hb : b = a
      . have z' := (if_pos hb).symm.trans z
        cases z'
        subst hb
        exact ⟨ha, by rw [List.length_map]; exact hl, vs, _, rv, ha⟩
      . have z' := (if_neg hb).symm.trans z
        cases z'
    . by_cases hb : b = a
      . exact hb
      . exact absurd (if_neg hb) z
end L2
namespace L2
open PySem PySem.Spec PyProof.Rows
abbrev KOf {K : W.Frag} {h : Heap} (_ : K.In h) : W.Frag := K
theorem walk_of {l : W.OpenLaw} {n k : Nat} {q : Program} {loose : List Str} {XP : (Str -> Option Value) -> Heap -> Prop} {YP : World -> Heap -> Prop} {d : DefRec} {K : Params -> W.Frag} {CX : World -> gR} {sp : World -> Sp} {x : Str}
    (hn : l.most = some n) (hn2 : n <= sizeLine) (hdf : d.params.defaults = []) (hr : bQ k callerA)
    (hY : ∀ (w : World) (h : Heap), YP w h -> (K w.params).In h)
    (F : ∀ (w : World) (mg : Str -> Option Value) (fa : Addr) (h : Heap), (K w.params).In h -> h.Ns mainGlobals mg -> mg d.name = some (.ref fa) ->
      ∃ fd : FuncData, (∀ (s : Shared) (u : Value), BindsTo s fd ⟨[u], []⟩ [(x, u)]) /\
        ∀ base : Heap, (K w.params).In base -> base.Ns mainGlobals mg -> bv l.prog w (K w.params) mg base (CX w) k fa fd [x] (sp w))
    (hsp : ∀ (w : World) (H : Hp) (a : Addr) (ns : List Int), ns.length <= n -> qh H -> cA (K w.params) H a (ns.map V.int) -> sp w [.ref a] H (fun v _ => v = .bl true) fun _ _ _ => False)
    (hCX : ∀ (w : World) (H : Hp) (s : Shared) (e : Value) (s' : Shared), CX w [] H s (fun _ _ _ => False) e s' -> False) :
    W.WalkO q loose XP YP l.row.toRowW d [] (fun f vs => PySem.call f vs) := by
  refine Att.attach_call hn hdf fun w s₀ s₁ mg mb fa o pm cd doc a vs ns G Y ho hd hcd hmg hobj hints hlen hg => ?_
  have KX := hY w _ Y
  obtain ⟨fd, hb, hF⟩ := F w mg fa _ KX G.T.g hmg
  exact oZ KX G.T.g G.T.b G.T.builtins G.T.nolimit hg hobj hints (Nat.le_trans hlen hn2) hr hF hb (fun H hO hS => hsp w H a ns hlen hO hS) fun H e s' => hCX w H s₁ e s'
end L2
/- THE LAST THEOREM (shape; LID, My.* are yours):
   My.Adr: a structure of the addresses that your layer names (classes, functions); My.Txt K t: a structure (Prop) of the equations over K;
   My.txt_mk : {K} {implicit addresses ..} (e1 : nsIn K mainGlobals "law" = some (some (.ref f))) (e2 : K.lookup f = some ⟨oc, od, .func (fnOf "law" "law" params body scope dV kV doc pm an cdv ct), sl⟩) (e3 : codeIn K cdv "law" = true) .. : ∃ t, My.Txt K t
set_option maxRecDepth 100000 in
set_option maxHeartbeats 0 in
theorem PySem.Challenge.cw_LID_holds : PySem.Challenge.rw_LID.Holds := by
  w_on; o_law; k_head; (case hw => w_witness2)
  k_fill
  refine L2.walk_of (l := PySem.Challenge.rw_LID) (n := 63) (k := 40) (x := "script") (CX := fun w => ..) (sp := fun _ => My.sp_law) rfl (by decide) rfl ⟨rfl, by decide, by decide⟩ (fun w h Y => PySem.W.kIn_of Y) ?F ?S ?C
  case F =>
    intro w mg fa h KX G hmg
    have T : ∃ t, My.Txt (L2.KOf KX) t := by
      dsimp only [L2.KOf]                          -- K must stand as «<heap const> w.params» for k_is
      refine' My.txt_mk ?e1 ?e2 ?e3 ..
      (case e1 => PySem.W.k_is)                    -- in the order: a name -> its address -> its object -> its parts
      (case e2 => PySem.W.k_is)
      ..
    obtain ⟨t, T⟩ := T
    have e0 := hmg.symm.trans (PySem.W.mg_of KX G T.law)
    cases e0                                       -- fa is the law's own address
    exact ⟨_, fun s u => .of_eq rfl, fun base kb nb => My.law_fn T kb nb⟩     -- if «.of_eq rfl» comes too early: refine' ⟨_, ?b, fun base kb nb => My.law_fn T kb nb⟩; exact fun s u => .of_eq rfl
  case S => exact fun w H a ns hl hO hS => ..
  case C => exact ..
(the tactic k_is has no namespace: write k_is) -/
namespace L2
open PySem PySem.Spec PyProof.Rows
def aI (s : Stmt) : Arguments := match s with
  | .FunctionDef _ a _ _ _ _ _ _ _ _ => a
  | _ => { posonlyargs := [], args := [], vararg := none, kwonlyargs := [], kw_defaults := [], kwarg := none, defaults := [] }
def ar (s : Stmt) : List Stmt := match s with
  | .FunctionDef _ _ b _ _ _ _ _ _ _ => b
  | _ => []
def ae (s : Stmt) : Scope := match s with
  | .FunctionDef _ _ _ _ _ _ sc _ _ _ => sc
  | _ => { kind := .function, names := [], isGenerator := false, isCoroutine := false }
abbrev c9 : gR := fun _ _ _ _ _ _ => False
abbrev E0 : XK := fun _ _ _ => False
theorem gU {X : Cx} : eI c9 X E0 := fun _ _ _ _ _ _ _ h => h.elim
structure hW (K : W.Frag) (x qual : Str) (st : Stmt) (f : Addr) (fd : FuncData) : Prop where
  ex : ∃ (oc : Value) (od : Option Addr) (kV doc pm : Value) (an : Option Addr) (cdv ct : Value) (osl : Array (Option Value)),
    fd = W.fnOf x qual (aI st) (ar st) (ae st) .none kV doc pm an cdv ct /\ K.lookup f = some ⟨oc, od, .func fd, osl⟩ /\ W.codeIn K cdv qual = true
  kp : W.keepIn K (.ref f) = true
section
variable {P : Program} {w : World} {K : W.Frag} {mg : Str -> Option Value} {base : Heap}
theorem hW.ok {x qual : Str} {st : Stmt} {f : Addr} {fd : FuncData} {N ps : List Str} {k : Nat} {sp : Sp} (F : hW K x qual st f fd) (S : aD N ps (ae st)) (len : ∀ vs H Q E, sp vs H Q E -> vs.length = ps.length)
    (hbody : ∀ (cdv : Value) (A : Around) (outer : List Env) (s : Shared) (H : Hp) (vs : List V) (Q : VK) (E : XK), bQ k (A.deeper (envOfC qual (ae st) s.heap.objs.size f cdv)) -> sp vs H Q E ->
      ∃ t, eJ (cJ c9 P w K mg base N qual (ae st) f cdv A outer s H E).nox (ar st) t /\ t { nx := fun _ H' => Q .non H', rt := Q } (start N vs) H) : bv P w K mg base c9 (k + 1) f fd ps sp := by
  obtain ⟨oc, od, kV, doc, pm, an, cdv, ct, osl, rfl, lk, hcd⟩ := F.ex
  refine sC lk hcd S len fun A outer s H vs Q E hr hsp => ?_
  obtain ⟨t, h, q⟩ := hbody cdv A outer s H vs Q E hr hsp
  exact ⟨t, h.nox, q⟩
theorem hW.binds {x qual : Str} {st : Stmt} {f : Addr} {fd : FuncData} {ps : List Str} (F : hW K x qual st f fd)
    (h : ∀ (kV doc pm : Value) (an : Option Addr) (cdv ct : Value) (us : List Value), us.length = ps.length -> bindArgs (W.fnOf x qual (aI st) (ar st) (ae st) .none kV doc pm an cdv ct) ⟨us, []⟩ = pure (ps.zip us)) : bV K fd ps [] := by
  obtain ⟨oc, od, kV, doc, pm, an, cdv, ct, osl, rfl, lk, hcd⟩ := F.ex
  exact .all (h kV doc pm an cdv ct)
theorem aU {x qual : Str} {st : Stmt} {f : Addr} {oc : Value} {od an : Option Addr} {osl : Array (Option Value)} {kV doc pm cdv ct : Value} (l : K.lookup f = some ⟨oc, od, .func (W.fnOf x qual (aI st) (ar st) (ae st) .none kV doc pm an cdv ct), osl⟩)
    (c : W.codeIn K cdv qual = true) (k : W.keepIn K (.ref f) = true) : hW K x qual st f (W.fnOf x qual (aI st) (ar st) (ae st) .none kV doc pm an cdv ct) := ⟨⟨oc, od, kV, doc, pm, an, cdv, ct, osl, rfl, l, c⟩, k⟩
end
section
variable {X : Cx}
end
def az (H H' : Hp) : Prop := ∀ b o, H b = some o -> H' b = some o
theorem az.refl (H : Hp) : az H H := fun _ _ h => h
theorem az.trans {H H1 H2 : Hp} (a : az H H1) (b : az H1 H2) : az H H2 := fun c o h => b c o (a c o h)
theorem az.free {H H' : Hp} (e : az H H') {l : Addr} (h : H' l = Option.none) : H l = Option.none := by
  cases q : H l with
  | none => rfl
  | some o =>
    rw [e l o q] at h
    cases h
theorem az.seq {K : W.Frag} {H H' : Hp} {a : Addr} {xs : List V} (e : az H H') (h : cA K H a xs) : cA K H' a xs := by
  rcases h with (h | ⟨o, h⟩) | h
  . exact .inl (.inl (e _ _ h))
  . exact .inl (.inr ⟨o, e _ _ h⟩)
  . exact .inr h
end L2
set_option maxHeartbeats 4000000
namespace L2
open PySem PySem.Spec PyProof.Rows
theorem ef {l : List Addr} : ∀ {h : Heap} {b : Addr}, b ∉ l -> (W.hideAll h l).get? b = h.get? b := by
  induction l with
  | nil => intro h b _; rfl
  | cons a l ih =>
    intro h b hb
    have h1 : b ≠ a := fun z => hb (by rw [z]; exact List.mem_cons_self)
    have h2 : b ∉ l := fun z => hb (List.mem_cons_of_mem _ z)
    show (W.hideAll (h.hide a) l).get? b = _
    rw [ih h2]
    exact Heap.hide_ne h h1
theorem nZ {fs hid : List Addr} {H H' : Hp} {h h1 h2 : Heap} (u : Un fs [] H H' h h1) (hh : ∀ b o, h.get? b = some o -> b ∈ hid -> b ∈ fs) (k : ∀ b o, h1.get? b = some o -> b ∉ hid -> h2.get? b = some o)
    (kf : ∀ b ∈ fs, ∀ o, h1.get? b = some o -> ∃ sl, h2.get? b = some { o with slots := sl }) : Un fs [] H H' h h2 := by
  refine ⟨fun b o e n hb hx => ?_, fun b o e n hb hx => ?_, u.free, fun b o e hx => ?_, u.tups, u.frzs, u.tbls⟩
  . exact k b o (u.keep b o e n hb hx) fun z => hb (hh b o e z)
  . obtain ⟨sl, e1⟩ := u.slot b o e n hb hx
    obtain ⟨sl', e2⟩ := kf b hb _ e1
    exact ⟨sl', e2⟩
  . obtain ⟨o', e1⟩ := u.there b o e hx
    by_cases z : b ∈ hid
    . obtain ⟨sl, e2⟩ := kf b (hh b o e z) _ e1
      exact ⟨_, e2⟩
    . exact ⟨o', k b o' e1 z⟩
theorem ml {P : Program} {w : World} {H : Hp} {h1 h2 : Heap} {hid : List Addr} (hk : di P w H h1) (hn : ∀ b ∈ hid, H b = none) (k : ∀ b o, h1.get? b = some o -> b ∉ hid -> h2.get? b = some o) : di P w H h2 := fun a o e => by
  have ne : ∀ b u, H b = some u -> b ∉ hid := fun b u e z => by rw [hn b z] at e; cases e
  refine (hk a o e).stay (fun c v hc q => k c v q ?_) (fun _ q => q) fun _ _ q => q
  rcases hc with z | z
  . rw [z]; exact ne a o e
  . exact ne c _ z
theorem pk {h base B : Heap} : ∀ {l : List Env}, h.FunFrames base l -> (∀ b ∈ bX l, B.get? b = none) -> h.FunFrames B l
  | [], _, _ => True.intro
  | env :: l, hf, hb => by
    obtain ⟨h1, ⟨L, o, e1, e2, e3, e4⟩, h2⟩ := hf
    have hm : L ∈ bX (env :: l) := by unfold bX; rw [List.filterMap_cons, e1]; exact List.mem_cons_self
    refine ⟨h1, ⟨L, o, e1, hb L hm, e3, e4⟩, pk h2 fun b z => hb b ?_⟩
    unfold bX; rw [List.filterMap_cons, e1]; exact List.mem_cons_of_mem _ z
theorem jP {h base : Heap} : ∀ {l : List Env}, h.FunFrames base l -> ∀ b ∈ bX l, ∃ o, h.get? b = some o /\ ∀ vs, o.data ≠ .fields vs
  | [], _, b, hb => by cases hb
  | env :: l, hf, b, hb => by
    obtain ⟨h1, ⟨L, o, e1, e2, e3, e4⟩, h2⟩ := hf
    unfold bX at hb; rw [List.filterMap_cons, e1] at hb
    rcases List.mem_cons.mp hb with rfl | hb
    . exact ⟨o, e3, e4⟩
    . exact jP h2 b hb
def rE (x C T : Addr) (h : Heap) : Prop := ∃ oe vs oT ts a0, h.get? x = some oe /\ oe.cls = .ref C /\ oe.data = .fields vs /\ vs[0]? = some a0 /\ vs[1]? = some (.ref T) /\ T ≠ x /\ h.get? T = some oT /\ oT.data = .fields ts /\ ts[3]? = some .none
def cO (P : Program) (w : World) : gR := fun outer H s E e s' => ∃ x C T H', e = .ref x /\ s.heap.get? x = none /\ s.heap.get? T = none /\ rE x C T s'.heap /\ s'.os = s.os /\ AllBare s'.gens /\
  Un (bX outer) [] H H' s.heap s'.heap /\ di P w H' s'.heap /\ H' x = none /\ H' T = none /\ E (.ref C) none H'
theorem tY {P : Program} {w : World} {H : Hp} {h : Heap} {a : Addr} : ∀ {o : HO}, cf P w H h a o -> ∃ u, h.get? a = some u
  | .lst xs, x => let ⟨_, _, _, _, e⟩ := x; ⟨_, e⟩
  | .tup xs, x => let ⟨_, _, _, o, e, _⟩ := x; ⟨o, e⟩
  | .dK kvs, x => let ⟨_, _, _, _, o, _, _, e, _⟩ := x; ⟨_, e⟩
  | .dT kvs, x => let ⟨_, _, _, _, o, _, _, e, _⟩ := x; ⟨_, e⟩
  | .set S n, x => let ⟨o, _, _, _, e, _⟩ := x; ⟨_, e⟩
  | .ins C dx fs, x => let ⟨_, _, _, e, _⟩ := x; ⟨_, e⟩
  | .own y, x => x
  | .xd fs, x => let ⟨_, ⟨_, _, _, e, _⟩, _⟩ := x; ⟨_, e⟩
  | .rng lo hi, x => let ⟨_, _, _, e⟩ := x; ⟨_, e⟩
  | .frz ob u, x => ⟨_, x.1⟩
  | .tbl ps, x => ⟨_, (show h.get? a = some _ from x)⟩
  | .met f y, x => ⟨_, (show h.get? a = some _ from x)⟩
  | .ext φ, x => x.2.1
theorem rE.traced {x C T : Addr} {h B : Heap} (t : rE x C T h) (hT : B.get? T = none) : ∃ a0, h.TracedW B x (.ref C) a0 := by
  obtain ⟨oe, vs, oT, ts, a0, e1, e2, e3, e4, e5, e6, e7, e8, e9⟩ := t
  exact ⟨a0, oe, vs, T, oT, ts, e1, ⟨e2, e4⟩, e3, e5, hT, e6, e7, e8, e9⟩
theorem tm {x C : Addr} {h B : Heap} {a0 : Value} (t : h.TracedW B x (.ref C) a0) : ∃ T, B.get? T = none /\ rE x C T h := by
  obtain ⟨oe, vs, T, oT, ts, e1, ⟨e2, e4⟩, e3, e5, hT, e6, e7, e8, e9⟩ := t
  exact ⟨T, hT, oe, vs, oT, ts, a0, e1, e2, e3, e4, e5, e6, e7, e8, e9⟩
section
variable {X : Cx} {pins : List (Addr × Obj)} {σ : St} {H H' : Hp} {s : Shared}
theorem am.frame (I : am X pins σ H s) (hs : X.stack = X.env :: X.outer) : X.env.frame = some X.env.locals := by
  rcases I.ok.stk with z | z
  . have := congrArg List.length (hs.symm.trans z)
    simp at this
  . exact z.2
structure gQ (X : Cx) (hid : List Addr) (h1 h2 : Heap) : Prop where
  keep : ∀ b o, h1.get? b = some o -> b ∉ hid -> h2.get? b = some o
  up : ∀ b ∈ bX X.stack, ∀ o, h1.get? b = some o -> ∃ sl, h2.get? b = some { o with slots := sl }
theorem uy {e : Value} {E : XK} {s' : Shared} {x C T : Addr} (I : am X pins σ H s) (hx : s.heap.get? x = none) (hT : s.heap.get? T = none) (t : rE x C T s'.heap) (u : Un (bX X.stack) [] H H' s.heap s'.heap) :
    ∃ a0, (W.hideAll s'.heap (x :: T :: bX X.stack)).FlyingW X.stack x (.ref C) a0 s'.heap := by
  obtain ⟨a0, tr⟩ := t.traced (B := W.hideAll s'.heap (x :: T :: bX X.stack)) (W.hideAll_none _ (by simp))
  refine ⟨a0, fun b o e => W.of_hideAll _ e, W.hideAll_none _ (by simp), ?_, tr⟩
  have hf := I.stack
  have key : ∀ {l : List Env}, s.heap.FunFrames X.base l -> (∀ b ∈ bX l, b ∈ bX X.stack) -> s'.heap.FunFrames (W.hideAll s'.heap (x :: T :: bX X.stack)) l := by
    intro l
    induction l with
    | nil => intro _ _; exact True.intro
    | cons env l ih =>
      intro hf hb
      obtain ⟨h1, ⟨L, o, e1, e2, e3, e4⟩, h2⟩ := hf
      have fr : bX (env :: l) = L :: bX l := by unfold bX; rw [List.filterMap_cons, e1]
      have hm : L ∈ bX X.stack := hb L (by rw [fr]; exact List.mem_cons_self)
      obtain ⟨sl, e5⟩ := u.slot L o e3 (I.stkFree L hm) hm (by simp)
      exact ⟨h1, ⟨L, _, e1, W.hideAll_none _ (List.mem_cons_of_mem _ (List.mem_cons_of_mem _ hm)), e5, e4⟩, ih h2 fun b z => hb b (by rw [fr]; exact List.mem_cons_of_mem _ z)⟩
  exact key hf fun b z => z
theorem mh {B h1 h2 : Heap} {hid : List Addr} {base : Heap} (hB : ∀ b o, h1.get? b = some o -> b ∉ hid -> B.get? b = some o) (st : B.StaysIn h2) (hf : h1.FunFrames base X.stack) (up : h1.UpToSlots h2) : gQ X hid h1 h2 :=
  ⟨fun b o e n => st b o (hB b o e n), fun b hb o e => by
    obtain ⟨o', e', d⟩ := jP hf b hb
    rw [e] at e'; cases e'
    exact up b o e d⟩
theorem gQ.trans {hid : List Addr} {h1 h2 h3 : Heap} (a : gQ X hid h1 h2) (b : gQ X hid h2 h3) : gQ X hid h1 h3 :=
  ⟨fun c o e n => b.keep c o (a.keep c o e n) n, fun c hc o e => by
    obtain ⟨sl, e1⟩ := a.up c hc o e
    obtain ⟨sl', e2⟩ := b.up c hc _ e1
    exact ⟨sl', e2⟩⟩
theorem ke {h1 h2 h3 : Heap} (a : h1.UpToSlots h2) (b : h2.UpToSlots h3) : h1.UpToSlots h3 := fun c o e d => by
  obtain ⟨sl, e1⟩ := a c o e d
  obtain ⟨sl', e2⟩ := b c _ e1 d
  exact ⟨sl', e2⟩
theorem nj {l : List Env} {env : Env} {L : Addr} (h : env.frame = some L) : bX (env :: l) = L :: bX l := by unfold bX; rw [List.filterMap_cons, h]
theorem uC {hid : List Addr} {h2 : Heap} {x C T : Addr} {E : XK} (I : am X pins σ H s) (hs : X.stack = X.env :: X.outer) (hex : X.ex = []) (h1 : ∀ b ∈ hid, b ∈ bX X.stack \/ X.s₀.heap.get? b = none) (h2n : ∀ b ∈ hid, H b = none)
    (ov : gQ X hid s.heap h2) (t : rE x C T h2) (hT : s.heap.get? T = none \/ T ∈ hid) (hx : X.s₀.heap.get? x = none) (hxn : H x = none) (q : E (.ref C) none H) : cO X.prog X.w X.outer X.H₀ X.s₀ E (.ref x) { s with heap := h2 } := by
  have hfr := I.frame hs
  have nL : ∀ b o, X.s₀.heap.get? b = some o -> b ≠ X.env.locals := fun b o e => Nat.ne_of_lt (Nat.lt_of_lt_of_le (Heap.lt_size e) I.ok.above)
  have ub : Un X.fs [] X.H₀ H X.s₀.heap s.heap := by have := I.base; rw [hex] at this; exact this
  have hf := I.stack
  have dat : ∀ b ∈ bX X.stack, b ≠ T := fun b hb z => by
    obtain ⟨o, e, d⟩ := jP hf b hb
    obtain ⟨sl, e2⟩ := ov.up b hb o e
    obtain ⟨oe, vs, oT, ts, a0, _, _, _, _, _, _, e7, e8, _⟩ := t
    rw [z, e7] at e2
    cases e2
    exact d ts e8
  have old : X.s₀.heap.get? T = none := by
    cases z : X.s₀.heap.get? T with
    | none => rfl
    | some o =>
      obtain ⟨o', e⟩ := ub.there T o z (by simp)
      rcases hT with hT | hT
      . rw [hT] at e; cases e
      . rcases h1 T hT with h | h
        . exact absurd rfl (dat T h)
        . rw [h] at z; cases z
  refine ⟨x, C, T, H, rfl, hx, old, t, I.os, I.bare, nZ (hid := hid) ub (fun b o e hb => ?_) ov.keep (fun b hb o e => ov.up b (by rw [hs, nj hfr]; exact List.mem_cons_of_mem _ hb) o e), ml I.hok h2n ov.keep, hxn, ?_, q⟩
  . rcases h1 b hb with h | h
    . rw [hs, nj hfr] at h
      rcases List.mem_cons.mp h with h | h
      . exact absurd h (nL b o e)
      . exact h
    . rw [h] at e; cases e
  . cases z : H T with
    | none => rfl
    | some o =>
      obtain ⟨u, e⟩ := tY (I.hok T o z)
      rcases hT with hT | hT
      . rw [hT] at e; cases e
      . rw [h2n T hT] at z; cases z
theorem qo {h' : Heap} {e C : Addr} {vs : List Value} {E : XK} {R : Value -> Shared -> Prop} (I : am X pins σ H s) (hs : X.stack = X.env :: X.outer) (hex : X.ex = []) (m : s.heap.MadeExcOf h' e (.ref C) vs) (q : E (.ref C) none H) :
    wpAny (model X.prog X.w) X.A (leaving X.env (.ref e)) (fun _ s'' => cO X.prog X.w X.outer X.H₀ X.s₀ E (.ref e) s'') R { s with heap := h' } := by
  have hfr := I.frame hs
  have ub : Un X.fs [] X.H₀ H X.s₀.heap s.heap := by have := I.base; rw [hex] at this; exact this
  have fs : X.A.frames = some (X.env :: X.outer) := by rw [<- hs]; exact I.ok.frames
  refine wpAny_leaves_madeW (base := W.hideAll s.heap (bX X.stack)) (h := s.heap) fs hfr (fun b o z => W.of_hideAll _ z) (by
    have := pk (B := W.hideAll s.heap (bX X.stack)) I.stack (fun b hb => W.hideAll_none _ hb)
    rw [hs] at this ⊢; exact this) m fun h2 t fly _ _ up => ?_
  obtain ⟨f1, f2, f3, f4⟩ := fly
  obtain ⟨T, hT, tr⟩ := tm f4
  have ov : gQ X (bX X.stack) s.heap h2 := ⟨fun b o e n => f1 b o (by rw [ef n]; exact e), fun b hb o e => by
    obtain ⟨o', e', d⟩ := jP I.stack b hb
    rw [e] at e'; cases e'
    exact up b o (m.keeps b o e) d⟩
  refine uC (s := s) I hs hex (fun b hb => .inl hb) (fun b hb => I.stkFree b hb) ov tr ?_ ?_ ?_ q
  . by_cases z : T ∈ bX X.stack
    . exact .inr z
    . rw [ef z] at hT; exact .inl hT
  . cases z : X.s₀.heap.get? e with
    | none => rfl
    | some o => obtain ⟨o', e'⟩ := ub.there e o z (by simp); rw [m.new] at e'; cases e'
  . cases z : H e with
    | none => rfl
    | some o => obtain ⟨u, e'⟩ := tY (I.hok e o z); rw [m.new] at e'; cases e'
theorem le {E : XK} {R : Value -> Shared -> Prop} {e : Value} {s' : Shared} (I : am X pins σ H s) (hs : X.stack = X.env :: X.outer) (hex : X.ex = []) (c : cO X.prog X.w X.stack H s E e s') :
    wpAny (model X.prog X.w) X.A (leaving X.env e) (fun _ s'' => cO X.prog X.w X.outer X.H₀ X.s₀ E e s'') R s' := by
  obtain ⟨x, C, T, H', rfl, hx, hT, t, ho, hg, u, hk, nx, nT, q⟩ := c
  have J : am X pins σ H' s' := I.call' (ch := []) ho u hk hg (fun b z => absurd z (by simp))
  have hfr := I.frame hs
  have ub : Un X.fs [] X.H₀ H X.s₀.heap s.heap := by have := I.base; rw [hex] at this; exact this
  have fs : X.A.frames = some (X.env :: X.outer) := by rw [<- hs]; exact I.ok.frames
  obtain ⟨a0, fly⟩ := uy (e := .ref x) (E := E) I hx hT t u
  have old : ∀ b, s.heap.get? b = none -> X.s₀.heap.get? b = none := fun b hb => by
    cases z : X.s₀.heap.get? b with
    | none => rfl
    | some o => obtain ⟨o', e'⟩ := ub.there b o z (by simp); rw [hb] at e'; cases e'
  refine wpAny_leaves_onW fs hfr (by rw [<- hs]; exact fly) fun h2 fly2 up => ?_
  obtain ⟨f1, f2, f3, f4⟩ := fly2
  obtain ⟨T2, hT2, tr⟩ := tm f4
  have ov : gQ X (x :: T :: bX X.stack) s'.heap h2 := mh (fun b o e n => by rw [ef n]; exact e) f1 J.stack up
  refine uC J hs hex (fun b hb => ?_) (fun b hb => ?_) ov tr ?_ (old x hx) nx q
  . rcases List.mem_cons.mp hb with rfl | hb
    . exact .inr (old _ hx)
    . rcases List.mem_cons.mp hb with rfl | hb
      . exact .inr (old _ hT)
      . exact .inl hb
  . rcases List.mem_cons.mp hb with rfl | hb
    . exact nx
    . rcases List.mem_cons.mp hb with rfl | hb
      . exact nT
      . exact J.stkFree b hb
  . by_cases z : T2 ∈ x :: T :: bX X.stack
    . exact .inr z
    . rw [ef z] at hT2; exact .inl hT2
end
end L2
namespace L2
open PySem PySem.Spec PyProof.Rows
abbrev iG : List Value := [Value.type "ValueError", Value.type "Exception", Value.type "BaseException", Value.type "object"]
theorem kg {x D : Addr} {ox : Obj} {h : Heap} (e1 : h.get? x = some ox) (e2 : ox.cls = .ref D) : ∀ M, W.Looks M h (typeOf (.ref x)) (.ref D) := by
  intro M A Q E s hk hq
  unfold typeOf
  refine wpAny_bind (wpAny_loadPart (hk _ _ e1) ?_)
  rw [e2]
  exact wpAny_pure hq
theorem sF {prog : Program} {w : World} {A : Around} {K : W.Frag} {x D : Addr} {R : Result -> Shared -> Prop} {tp : Value} {h : Heap} {g : Array GenState} {d : Drawn} {tk : Nat} {os : OsState} (KI : K.In h) (ty : ∀ M, W.Looks M h (typeOf (.ref x)) (.ref D)) (hm : W.mroIn K D (.type "object") = some true)
    (hR : R (.ok (.ret (.ref D))) ⟨h, g, d, tk, os⟩) : codeAny (model prog w) A (.call (.builtin "getset_descriptor.__get__") ⟨[.builtin "object.__class__", .ref x, tp], []⟩) R ⟨h, g, d, tk, os⟩ := by
  refine codeAny_call_builtin W.KF.slot_gs.plain W.KF.entry_gs ?_
  refine W.KF.slot_gs.check _ _ _ _ _ _ _ _ ?_ (W.KF.args_gs _ _ _) ?_
  . exact W.KF.type_class
  show wpAny _ _ (Builtin.Getset_descriptor.descrGet ⟨[.builtin "object.__class__", .ref x, tp], []⟩) _ _ _
  unfold Builtin.Getset_descriptor.descrGet
  rw [W.dga_obj]
  refine wpAny_bind (wpAny_pure ?_)
  dsimp only
  unfold Builtin.Getset_descriptor.descrGetter
  dsimp only
  refine wpAny_bind ?_
  unfold Builtin.Getset_descriptor.descrCheckInstance
  refine wpAny_bind ?_
  unfold Builtin.Getset_descriptor.descrNameAndClass
  dsimp only
  rw [W.KF.owner_class]
  refine wpAny_pure ?_
  dsimp only
  refine wpAny_bind ?_
  unfold isInstance
  refine wpAny_bind (W.Looks.at (ty _) (W.Looks.at (W.looks_mroIn KI hm) ?_))
  rw [if_neg (by simp)]
  refine wpAny_pure ?_
  refine wpAny_pure ?_
  refine ⟨Code.quiet_builtin _ (by decide +kernel), codeAny_builtin W.KF.entry_class ?_⟩
  show wpAny _ _ (Builtin.«object.__class__» ⟨[.ref x], []⟩) _ _ _
  unfold Builtin.«object.__class__»
  dsimp only
  refine wpAny_bind ?_
  unfold shownTypeOf
  refine wpAny_bind (W.Looks.at (ty _) ?_)
  rw [if_neg (by simp)]
  refine wpAny_pure ?_
  exact wpAny_pure hR
theorem uA {prog : Program} {w : World} {A : Around} {E : Value -> Shared -> Prop} {s : Shared} {K : W.Frag} {x D N : Addr} {Q : Option Value -> Shared -> Prop} {nm q : Str} {bs bm : List Value} {hdct : Bool} {sn : List Str} {sub : List Value} {ab : Bool} {col : Option Bool} {dd : Option Addr} {k0 k1 k2 k3 k5 : Option Value} {newId : String}
    (hga : W.findIn K (.ref D) "__getattribute__" = some (some (.builtin "BaseException.__getattribute__"))) (hgt : W.findIn K (.ref D) "__getattr__" = some none)
    (hf : W.findIn K (.ref D) "__class__" = some (some (.builtin "object.__class__"))) (hs : W.specialIn K (.builtin "object.__class__") "__get__" = some (some (.builtin "getset_descriptor.__get__"))) (ht : W.takesIn K (.builtin "object.__class__") = some true) (hm : W.mroIn K D (.type "object") = some true)
    (KI : K.In s.heap) {ox : Obj} (e1 : s.heap.get? x = some ox) (e2 : ox.cls = .ref D) (hD : s.heap.get? D = some (excClassObj nm q D N bs bm hdct sn sub ab col dd k0 k1 k2 k3 k5 newId)) (hT : OwnTailQ s.heap iG bm)
    (hq : Q (some (.ref D)) { s with toks := s.toks + 1 }) : wpAny (model prog w) A (getAttr? (.ref x) "__class__") Q E s := by
  obtain ⟨h, g, d, tk, os⟩ := s
  have ty := kg e1 e2
  have lf : ∀ M, W.Looks M h (Builtin.ObjectAttr.find (.ref x) (.ref D) "__class__") (.bind (.builtin "getset_descriptor.__get__") (.builtin "object.__class__")) := by
    intro M A Q E s hk hq
    unfold Builtin.ObjectAttr.find
    refine wpAny_bind (W.looks_findIn KI hf A _ E s hk ?_)
    refine wpAny_bind ?_
    unfold Builtin.ObjectAttr.getOf
    refine W.looks_specialIn KI hs A _ E s hk ?_
    refine wpAny_bind ?_
    unfold Builtin.ObjectAttr.dataDescriptor?
    refine wpAny_bind (W.looks_takesIn KI ht A _ E s hk ?_)
    rw [if_pos rfl]
    refine wpAny_pure ?_
    exact W.Looks.tag (W.Looks.now) A _ E s hk hq
  unfold getAttr?
  refine wpAny_bind (wpAny_mkText ?_)
  unfold getAttrBy?
  refine wpAny_bind (wpAny_attempt ?_)
  unfold getAttrBy
  refine wpAny_holding (wpAny_bind (W.Looks.at (ty _) ?_))
  refine wpAny_bind (W.Looks.at (W.looks_findIn KI hga) ?_)
  dsimp only
  have e9 : (onTheHeap (Value.ref D) && Value.builtin "BaseException.__getattribute__" == Value.builtin "object.__getattribute__") = false := by
    have e0 : (Value.builtin "BaseException.__getattribute__" == Value.builtin "object.__getattribute__") = false := by decide +kernel
    rw [e0, Bool.and_false]
  rw [e9]
  rw [if_neg (by simp)]
  unfold getAttrByItsOwn
  refine wpAny_bind (W.Looks.at (W.looks_hook KI (r := none) (by show (if true = true then W.findIn K (.ref D) "__getattr__" else some none) = some none; rw [if_pos rfl]; exact hgt)) ?_)
  refine wpAny_bind (wpAny_attempt (wpAny_holding ?_))
  unfold callGetattribute
  rw [if_neg (by simp)]
  unfold boundAndCalled
  rw [(PySem.F.attrBase_ValueError.toExcAttrFacts.ga).bind]
  refine wpAny_bind (wpAny_pure ?_)
  refine wpAny_call (codeAny_call_builtin (PySem.F.attrBase_ValueError.toExcAttrFacts.ga).plain PySem.F.entry_bexc_ga ?_)
  refine wpAny_check_ga_own PySem.F.attrBase_ValueError hD hT e1 e2 ?_
  show wpAny _ _ (Builtin.«object.__getattribute__» ⟨[Value.ref x, Value.str "__class__" tk], []⟩) _ _ _
  unfold Builtin.«object.__getattribute__»
  refine wpAny_bind ?_
  unfold slotArgs
  dsimp only
  rw [if_neg (by simp), if_neg (by simp)]
  refine wpAny_pure ?_
  dsimp only
  refine wpAny_bind ?_
  unfold Builtin.ObjectAttr.attrName
  refine wpAny_pure ?_
  refine wpAny_bind (W.Looks.at (ty _) ?_)
  refine wpAny_bind (W.Looks.at (lf _) ?_)
  dsimp only
  unfold Builtin.ObjectAttr.bindTo
  dsimp only
  refine wpAny_bind (wpAny_holding (wpAny_call (sF KI ty hm ?_)))
  refine wpAny_pure ?_
  refine W.handed_on rfl ?_
  exact wpAny_pure hq
end L2
namespace L2
open PySem PySem.Spec PyProof.Rows
def DQ : Value -> Bool
  | .str _ _ => true
  | _ => false
def jH (K : W.Frag) (N : Addr) : Bool :=
  match K.lookup N with
  | some ⟨_, _, .dict es _, _⟩ => es.toList.all (fun e => DQ e.key) && quietNames.all fun n => (nsFind es n).isNone
  | _ => false
def Bh (sl : Array (Option Value)) : Bool :=
  match sl.toList with
  | [_, _, _, _, some (.builtin id), _] => id == "ValueError.__new__"
  | _ => false
def mw (K : W.Frag) (C S : Addr) : Bool :=
  match K.lookup C, K.lookup S with
  | some ⟨.type t, _, .cls cd, sl⟩, some ⟨_, _, .cls ce, _⟩ => t == "type" && Bh sl && (cd.mro == .ref C :: .ref S :: iG) && !cd.hasDel && jH K cd.ns && jH K ce.ns
  | _, _ => false
theorem oF {K : W.Frag} {N : Addr} {h : Heap} (q : jH K N = true) (KI : K.In h) : ∃ mN, h.Ns N mN /\ ∀ n ∈ quietNames, mN n = none := by
  unfold jH at q
  split at q
  . rename_i c d es ep sl e
    rw [Bool.and_eq_true] at q
    refine ⟨nsFind es, ⟨_, es, ep, KI _ _ e, rfl, fun x hx => ?_, fun _ => rfl⟩, fun n hn => ?_⟩
    . have := List.all_eq_true.mp q.1 x (by simpa using hx)
      cases hk : x.key with
      | str n t => exact ⟨n, t, rfl⟩
      | _ => rw [hk] at this; cases this
    . have := List.all_eq_true.mp q.2 n hn
      simpa using this
  . cases q
theorem iT {K : W.Frag} {C S : Addr} {h : Heap} (q : mw K C S = true) (KI : K.In h) :
    ∃ nm qn N bs hdct sn sub ab col dd k0 k1 k2 k3 k5 mN, h.get? C = some (excClassObj nm qn C N bs (.ref S :: iG) hdct sn sub ab col dd k0 k1 k2 k3 k5 "ValueError.__new__") /\ h.Ns N mN /\ mN "__init__" = none /\ OwnTailQ h iG (.ref S :: iG) := by
  unfold mw at q
  split at q
  . rename_i t d1 cd sl c2 d2 ce sl2 e1 e2
    simp only [Bool.and_eq_true] at q
    obtain ⟨⟨⟨⟨⟨q1, q2⟩, q3⟩, q4⟩, q5⟩, q6⟩ := q
    have q1 : t = "type" := by simpa using q1
    subst q1
    replace q3 : cd.mro = .ref C :: .ref S :: iG := by simpa using q3
    replace q4 : cd.hasDel = false := by simpa using q4
    obtain ⟨mN, n1, n2⟩ := oF q5 KI
    obtain ⟨mS, m1, m2⟩ := oF q6 KI
    unfold Bh at q2
    split at q2
    . rename_i k0 k1 k2 k3 id k5 es
      have q2 : id = "ValueError.__new__" := by simpa using q2
      subst q2
      have es : sl = #[k0, k1, k2, k3, some (.builtin "ValueError.__new__"), k5] := by
        have := congrArg List.toArray es
        simpa using this
      subst es
      have g1 := KI _ _ e1
      have g2 := KI _ _ e2
      obtain ⟨f1, f2, f3, f4, f5, f6, f7, f8, f9, f10, f11⟩ := cd
      simp only at q3 q4 n1
      subst q3 q4
      exact ⟨_, _, _, _, _, _, _, _, _, _, _, _, _, _, _, mN, g1, n1, n2 _ (by simp [quietNames]), .own g2 m1 m2 .base⟩
    . cases q2
  . cases q
structure gj (K : W.Frag) (C S : Addr) : Prop where
  ex : mw K C S = true
  ga : W.findIn K (.ref C) "__getattribute__" = some (some (.builtin "BaseException.__getattribute__"))
  gt : W.findIn K (.ref C) "__getattr__" = some none
  cl : W.findIn K (.ref C) "__class__" = some (some (.builtin "object.__class__"))
  sp : W.specialIn K (.builtin "object.__class__") "__get__" = some (some (.builtin "getset_descriptor.__get__"))
  tk : W.takesIn K (.builtin "object.__class__") = some true
  mo : W.mroIn K C (.type "object") = some true
theorem gj.is {K : W.Frag} {C S : Addr} (e : gj K C S) : ∃ cd, W.clsIn K C = some cd := by
  have := e.mo
  unfold W.mroIn at this
  cases h : W.clsIn K C with
  | none => rw [h] at this; cases this
  | some cd => exact ⟨cd, rfl⟩
def wn (x C : Addr) (h : Heap) : Prop := ∃ o, h.get? x = some o /\ o.cls = .ref C
theorem ky {K : W.Frag} {x C S : Addr} (e : gj K C S) : W.KitX K (.ref x) (.ref C) (wn x C) := by
  obtain ⟨cd, hcd⟩ := e.is
  refine ⟨fun M h KI ⟨o, e1, e2⟩ => ?_, fun M h KI _ => ?_, fun h tp dd its n sl KI ht => ?_, fun {prog w A E Q s} KI ⟨o, e1, e2⟩ hq => ?_⟩
  . exact kg e1 e2 M
  . obtain ⟨nm, qn, N, bs, hdct, sn, sub, ab, col, dd, k0, k1, k2, k3, k5, mN, g1, g2, g3, g4⟩ := iT e.ex KI
    intro A Q E s hk hq
    unfold isType
    refine wpAny_bind (wpAny_loadPart (hk _ _ g1) ?_)
    exact wpAny_pure hq
  . obtain ⟨nm, qn, N, bs, hdct, sn, sub, ab, col, dd, k0, k1, k2, k3, k5, mN, g1, g2, g3, g4⟩ := iT e.ex KI
    rw [beq_eq_false_iff_ne]
    intro z
    injection z with z
    rw [<- z, g1] at ht
    injection ht with ht
    injection ht with h1
    injection h1 with h1
    exact absurd h1 (by decide)
  . obtain ⟨nm, qn, N, bs, hdct, sn, sub, ab, col, dd, k0, k1, k2, k3, k5, mN, g1, g2, g3, g4⟩ := iT e.ex KI
    exact uA e.ga e.gt e.cl e.sp e.tk e.mo KI e1 e2 g1 g4 hq
end L2
namespace L2
open PySem PySem.Spec PyProof.Rows
theorem Ca (S : Addr) : (Value.ref S :: iG).contains (.type "BaseException") = true := by
  rw [List.contains_cons, show iG.contains (Value.type "BaseException") = true by decide +kernel, Bool.or_true]
section
variable {X : Cx} {pins : List (Addr × Obj)} {σ : St} {H : Hp} {s : Shared}
theorem ku {x : Str} {C S : Addr} {np cpos pos : Pos} {e : Expr} {t : TA} {Q : Flow -> Shared -> Prop} (I : am X pins σ H s) (hc : X.calm = true) (hg : Gl X x) (hm : X.mg x = some (.ref C)) (hx : gj X.K C S) (hdb : (x == ("__debug__" : Str)) = false)
    (ha : PA X [e] t) (hn : (backTo cpos (starEach [e] X.env)).any (·.1) = false) (he : starEach [e] X.env = [(false, eval e X.env)])
    (h : t σ H fun vs H1 => vs.length <= sizeLine /\ ∀ s1 h' a us, am X pins σ H1 s1 -> s1.heap.MadeExcOf h' a (.ref C) us -> X.xe (.ref a) { s1 with heap := h' }) :
    wpAny (model X.prog X.w) X.A (exec (.Raise (some (.Call (.Name x np) [e] [] cpos)) none pos) X.env) Q X.xe s := by
  obtain ⟨nm, qn, N, bs, hdct, sn, sub, ab, col, dd, k0, k1, k2, k3, k5, mN, g1, g2, g3, g4⟩ := iT hx.ex I.ok.mod.kin
  refine wpAny_Raise_call_subT (nm := nm) (q := qn) (N := N) (bs := bs) (bm := .ref S :: iG) (hdct := hdct) (sn := sn) (sub := sub) (ab := ab) (col := col) (dd := dd) (k0 := k0) (k1 := k1) (k2 := k2) (k3 := k3) (k5 := k5) PySem.F.excBase_ValueError (Ca S) (I.ok.hd hc) hn g3 (dE I hg hm ⟨rfl, ?_⟩ hdb)
  have key := ha cpos pins s σ H _ I h
  rw [he] at key ⊢
  obtain ⟨y, ey⟩ : ∃ y, backTo cpos [(false, eval e X.env)] = [(false, y)] := ⟨_, rfl⟩
  rw [ey] at key ⊢
  refine PySem.Calls.evalArgs_plain (aL key fun us s1 ⟨vs, H1, I1, r, hl, q⟩ => ?_)
  obtain ⟨o, es, ep, e1, e2, e3, e4⟩ := g2
  exact ⟨rfl, by rw [<- r.length]; exact hl, I1.bk _ _ g1, ⟨o, es, ep, I1.bk _ _ e1, e2, e3, e4⟩, (OwnTailQ.tail g4).keeps I1.bk, fun h' a m => q s1 h' a us I1 m⟩
end
end L2
namespace L2
open PySem PySem.Spec PyProof.Rows
section
variable {X : Cx} {pins : List (Addr × Obj)} {σ : St} {H H' : Hp} {s : Shared}
theorem y8 {M : Model} {A : Around} {E : Value -> Shared -> Prop} {i : Nat} {n : Str} {pos : Pos} {Q : Unit -> Shared -> Prop} (I : am X pins σ H s) (hN : X.N.Nodup) (hi : X.N[i]? = some n) (hk : X.env.scope.names.lookup n = some .local)
    (h : ∀ s', am X pins (σ.set i none) H s' -> Q () s') : wpAny M A (do bindName X.env n .none; unbindBehindTheSuite X.env n pos) Q E s := by
  obtain ⟨m, hn, hl⟩ := id I.loc
  have hcls : (X.env.scope.kind == .class || (X.env.scope.kind == .module && X.env.locals != X.env.globals)) = false := by rw [I.ok.kind]; rfl
  have hiσ : i < σ.length := by rw [I.len]; exact (List.getElem?_eq_some_iff.mp hi).1
  have cne := I.cne
  refine wpAny_nameGoes_keeps hk hn hcls fun h' v hn' hs => ?_
  obtain ⟨oL, _, _, hoL, _⟩ := id hn
  refine h _ ⟨I.ok, I.os, I.bare, ⟨fun b o e n hb hx => ?_, fun b o e n hb hx => ?_, I.base.free, fun b o e hx => ?_, I.base.tups, I.base.frzs, I.base.tbls⟩, ⟨_, hn', fun j y v' e1 e2 e3 => ?_⟩, fun y c e => ?_, I.free, I.freeC, fun p hp => ?_, fun b ob e => ?_, by simpa using I.len⟩
  . exact (hs.2 b (Nat.ne_of_lt (Nat.lt_of_lt_of_le (Heap.lt_size e) I.ok.above))).trans (I.base.keep b o e n hb hx)
  . obtain ⟨sl, e1⟩ := I.base.slot b o e n hb hx
    exact ⟨sl, (hs.2 b (Nat.ne_of_lt (Nat.lt_of_lt_of_le (Heap.lt_size e) I.ok.above))).trans e1⟩
  . obtain ⟨o', e1⟩ := I.base.there b o e hx
    exact ⟨o', (hs.2 b (Nat.ne_of_lt (Nat.lt_of_lt_of_le (Heap.lt_size e) I.ok.above))).trans e1⟩
  . by_cases hj : j = i
    . subst hj
      rw [List.getElem?_set_self hiσ] at e2
      cases e2
    . rw [List.getElem?_set_ne (Ne.symm hj)] at e2
      obtain ⟨u', r', q⟩ := hl j y v' e1 e2 e3
      refine ⟨u', r', ?_⟩
      rcases q with ⟨k, e⟩ | ⟨k, c, e, z⟩
      . refine .inl ⟨k, ?_⟩
        have : y ≠ n := fun e => hj (iK hN e1 (e ▸ hi))
        simp [this, e]
      . exact .inr ⟨k, c, e, z.sameBut hs (cne y c e)⟩
  . obtain ⟨w', z⟩ := I.cell y c e
    exact ⟨w', z.sameBut hs (cne y c e)⟩
  . obtain ⟨e, n, ne, nf, d⟩ := I.pin p hp
    exact ⟨(hs.2 p.1 ne).trans e, n, ne, nf, d⟩
  . refine (I.hok b ob e).stay (fun c w' hc q => (hs.2 c ?_).trans q) (fun _ q => q) fun _ _ q => q
    rintro rfl
    rcases hc with rfl | hc
    . rw [I.free] at e; cases e
    . rw [I.free] at hc; cases hc
abbrev Cx.mark (X : Cx) (e : Value) : Cx := { X with A := X.A.mark (some e), calm := false, xe := fun _ _ => False }
theorem Cx.Ok.mark (ok : X.Ok) (e : Value) : (X.mark e).Ok := ⟨ok.mod, ok.kind, ok.glob, ok.blt, ok.above, ok.inj, ok.has, ok.cab, (fun z => by cases z), ok.frames, ok.stk, ok.exf, ok.bs, ok.bsz, ok.noex, ok.exfs, ok.funs, ok.frf⟩
theorem am.mark (I : am X pins σ H s) (e : Value) : am (X.mark e) pins σ H s := ⟨I.ok.mark e, I.os, I.bare, I.base, I.loc, I.cell, I.free, I.freeC, I.pin, I.hok, I.len⟩
theorem am.unmark {e : Value} (ok : X.Ok) (I : am (X.mark e) pins σ H s) : am X pins σ H s := ⟨ok, I.os, I.bare, I.base, I.loc, I.cell, I.free, I.freeC, I.pin, I.hok, I.len⟩
abbrev jt (x C : Addr) : HO := .ext (wn x C)
theorem BO {P : Program} {w : World} {h : Heap} {x C : Addr} {o : Obj} {H : Hp} (e1 : h.get? x = some o) (e2 : o.cls = .ref C) : cf P w H h x (jt x C) :=
  ⟨⟨o, e1, e2⟩, ⟨o, e1⟩, fun h1 h2 ⟨o', a, b⟩ k => ⟨o', k o' a, b⟩⟩
theorem Ct {P : Program} {w : World} {h : Heap} {x : Addr} {o : HO} (hk : di P w H h) (hn : H x = none) (ho : cf P w (be H x o) h x o) : di P w (be H x o) h := fun a u e => by
  by_cases z : a = x
  . subst z
    rw [aS] at e; cases e
    exact ho
  . rw [aG z] at e
    exact (hk a u e).stay (fun _ _ _ q => q) (fun b q => by rw [aG (bg q hn)]; exact q) fun b xs q => by rw [aG (bg q hn)]; exact q
theorem B9 {E : XK} {e : Value} {s' : Shared} {D : i5} {B n y : Str} {ie iy : Nat} {C0 : Addr} {bp hpos p1 p2 p3 : Pos} (I : am X pins σ H s) (hs : X.stack = X.env :: X.outer) (hN : X.N.Nodup) (c : cO X.prog X.w X.stack H s E e s')
    (hB : Gl X B) (hmB : X.mg B = some (.ref C0)) (hdb : (B == ("__debug__" : Str)) = false) (hie : X.N[ie]? = some n) (hen : X.env.scope.names.lookup n = some .local) (hiy : X.N[iy]? = some y) (hyn : X.env.scope.names.lookup y = some .local) (hne : iy ≠ ie)
    (hd1 : (n == ("__debug__" : Str)) = false) (hd2 : (n == ("__classdict__" : Str)) = false)
    (hE : ∀ C H', E (.ref C) none H' -> W.exmOne X.K (.ref C) (.ref C0) = some true /\ ∀ x, H' x = none -> D.nx (((σ.set ie (some (.ref x))).set iy (some (.ref x))).set ie none) (be H' x (jt x C))) :
    wpAny (model X.prog X.w) X.A (noteFrame e X.env) (fun _ s₂ => wpAny (model X.prog X.w) X.A (setFlight e none) (fun _ s₃ => wpAny (model X.prog X.w) X.A (handleBy e X.env [.ExceptHandler (some (.Name B bp)) (some n) [.Assign [.Name y p1] (.Name n p2) p3] hpos]) (SP X pins D) X.xe s₃) X.xe s₂) X.xe s' := by
  obtain ⟨x, C, T, H', rfl, hx, hT, t, ho, hg, u, hk, nx, nT, q⟩ := c
  have J : am X pins σ H' s' := I.call' (ch := []) ho u hk hg (fun b z => absurd z (by simp))
  have hfr := I.frame hs
  have fs : X.A.frames = some (X.env :: X.outer) := by rw [<- hs]; exact I.ok.frames
  obtain ⟨a0, fly⟩ := uy (e := .ref x) (E := E) I hx hT t u
  obtain ⟨qm, qn⟩ := hE C H' q
  refine wpAny_looks_onW fs hfr (by rw [<- hs]; exact fly) fun h1 held up1 => ?_
  refine wpAny_landsW held fun h2 fly2 up2 => ?_
  have hidn : ∀ b ∈ x :: T :: bX X.stack, H' b = none := fun b hb => by
    rcases List.mem_cons.mp hb with rfl | hb
    . exact nx
    . rcases List.mem_cons.mp hb with rfl | hb
      . exact nT
      . exact J.stkFree b hb
  have hidf : ∀ b o, s.heap.get? b = some o -> b ∈ x :: T :: bX X.stack -> b ∈ bX X.stack := fun b o eb hb => by
    rcases List.mem_cons.mp hb with rfl | hb
    . rw [hx] at eb; cases eb
    . rcases List.mem_cons.mp hb with rfl | hb
      . rw [hT] at eb; cases eb
      . exact hb
  have mkI : ∀ h3 : Heap, gQ X (x :: T :: bX X.stack) s'.heap h3 -> am X pins σ H' { s' with heap := h3 } := fun h3 ov =>
    I.call' (s' := { s' with heap := h3 }) (ch := []) ho (nZ u hidf ov.keep ov.up) (ml hk hidn ov.keep) hg (fun b z => absurd z (by simp))
  have ov2 : gQ X (x :: T :: bX X.stack) s'.heap h2 := mh (fun b o e n => by rw [ef n]; exact e) fly2.1 J.stack (ke up1 up2)
  have J2 := mkI h2 ov2
  obtain ⟨ox, ex1, ex2⟩ := fly2.there
  refine wpAny_handleBy_cons ?_ (by intro z; cases z)
  refine codeAny_handlers_test ?_
  refine dE (X := X.mark (.ref x)) (J2.mark (.ref x)) hB hmB ?_ hdb
  refine W.Looks.at (W.exm_one J2.kIn (kg ex1 ex2 _) qm) ?_
  show codeAny _ _ _ _ _
  refine codeAny_handlers_suite_as ?_
  refine lands_againW fly2 fun h3 fly3 up3 => ?_
  have ov3 : gQ X (x :: T :: bX X.stack) s'.heap h3 := mh (fun b o e n => by rw [ef n]; exact e) fly3.1 J.stack (ke (ke up1 up2) up3)
  obtain ⟨oy, ey1, ey2⟩ := fly3.there
  have J3 : am X pins σ (be H' x (jt x C)) { s' with heap := h3 } := by
    have u3 := nZ u hidf ov3.keep ov3.up
    refine I.call' (s' := { s' with heap := h3 }) (ch := []) ho ⟨u3.keep, u3.slot, fun b o eb n hb => ?_, u3.there, fun b xs eb => ?_, fun b o w eb => ?_, fun b ps eb => ?_⟩ (Ct (ml hk hidn ov3.keep) nx (BO ey1 ey2)) hg (fun b z => absurd z (by simp))
    . have : b ≠ x := fun z => by rw [z, hx] at eb; cases eb
      rw [aG this]; exact u3.free b o eb n hb
    . have z := u3.tups b xs eb
      rw [aG (bg z nx)]; exact z
    . have z := u3.frzs b o w eb
      rw [aG (bg z nx)]; exact z
    . obtain ⟨more, z⟩ := u3.tbls b ps eb
      exact ⟨more, by rw [aG (bg z nx)]; exact z⟩
  refine gy (X := X) J3 hN hie (.inl hen) (v := .ref x) rfl (fun s4 J4 => ?_) (.inr hen)
  have hl : ie < σ.length := by rw [I.len]; exact (List.getElem?_eq_some_iff.mp hie).1
  have pv : PE (X.mark (.ref x)) (.Name n p2) (n8 ie) := gC (X := X.mark (.ref x)) hie (.inl hen) hd1 hd2
  have ps := tQ (X := X.mark (.ref x)) (pos := p3) (pos' := p1) hN hiy (.inl hyn) pv rfl (.inr hyn)
  refine wpAny_mono (jI ps pins s4 _ _ ⟨fun σ' H'' => σ' = (σ.set ie (some (.ref x))).set iy (some (.ref x)) /\ H'' = be H' x (jt x C), fun _ _ => False, fun _ _ => False, fun _ _ => False⟩ (J4.mark (.ref x)) ⟨_, List.getElem?_set_self hl, rfl, rfl⟩) (fun f s5 hf => ?_) (fun _ _ z => z.elim)
  cases f with
  | next =>
    obtain ⟨σ', H'', J5, rfl, rfl⟩ := hf
    refine y8 (X := X) (J5.unmark I.ok) hN hie hen fun s6 J6 => ?_
    exact ⟨_, _, J6, qn x nx⟩
  | brk => obtain ⟨_, _, _, z⟩ := hf; exact z.elim
  | cont => obtain ⟨_, _, _, z⟩ := hf; exact z.elim
  | ret v => obtain ⟨_, _, _, _, _, z⟩ := hf; exact z.elim
end
end L2
namespace Sp
open PySem PySem.Spec PyProof.Rows L2
structure xz (K : W.Frag) (n : Str) (C : Addr) : Prop where
  cl : ((W.clsIn K C).isSome && W.typeIn K (.ref C) == some (.type "type")) = true
  sole : ∀ m, W.nsIn K mainGlobals m = some (some (.ref C)) -> m = n
  obj : ∃ o, K.lookup C = some o /\ o.cls = .type "type"
def jA (K : W.Frag) (H : Hp) (n : Str) : Option Str -> V -> Prop
  | none, v => ∃ C, v = .ref C /\ W.nsIn K mainGlobals n = some (some (.ref C)) /\ xz K n C
  | some p, v => ∃ x C S, v = .ref x /\ W.nsIn K mainGlobals n = some (some (.ref C)) /\ W.nsIn K mainGlobals p = some (some (.ref S)) /\ gj K C S /\ H x = some (jt x C)
theorem jA.mono {K : W.Frag} {H H' : Hp} {n : Str} (k : ∀ a C, H a = some (jt a C) -> H' a = some (jt a C)) : ∀ {p : Option Str} {v : V}, jA K H n p v -> jA K H' n p v
  | none, _, h => h
  | some p, _, ⟨x, C, S, e, h1, h2, h3, h4⟩ => ⟨x, C, S, e, h1, h2, h3, k _ _ h4⟩
theorem jA.ref {K : W.Frag} {H : Hp} {n : Str} : ∀ {p : Option Str} {v : V}, jA K H n p v -> ∃ a, v = .ref a
  | none, _, ⟨C, e, _⟩ => ⟨C, e⟩
  | some p, _, ⟨x, _, _, e, _⟩ => ⟨x, e⟩
theorem jA.at {K : W.Frag} {H : Hp} {n : Str} : ∀ {p : Option Str} {a : Addr}, jA K H n p (.ref a) -> (∃ o, K.lookup a = some o /\ o.cls = .type "type") \/ ∃ C, H a = some (jt a C)
  | none, _, ⟨C, e, _, h⟩ => by cases e; exact .inl h.obj
  | some p, _, ⟨x, C, _, e, _, _, _, h⟩ => by cases e; exact .inr ⟨C, h⟩
theorem tZ {K : W.Frag} {C S : Addr} (e : mw K C S = true) : ∃ cd, W.clsIn K C = some cd /\ cd.mro = .ref C :: .ref S :: iG := by
  unfold mw at e
  split at e
  . rename_i t d1 cd sl c2 d2 ce sl2 e1 e2
    simp only [Bool.and_eq_true] at e
    obtain ⟨⟨⟨⟨⟨q1, q2⟩, q3⟩, q4⟩, q5⟩, q6⟩ := e
    exact ⟨cd, by unfold W.clsIn; rw [e1], by simpa using q3⟩
  . cases e
theorem uf {K : W.Frag} {C S Cm : Addr} {n p m : Str} (e : gj K C S) (hn : W.nsIn K mainGlobals n = some (some (.ref C))) (hp : W.nsIn K mainGlobals p = some (some (.ref S))) (hm : W.nsIn K mainGlobals m = some (some (.ref Cm))) (x : xz K m Cm) :
    W.kitOne K (.ref C) (.ref Cm) = some (decide (m = n) || decide (m = p)) := by
  obtain ⟨cd, h1, h2⟩ := tZ e.ex
  have a1 : (Value.ref Cm == Value.ref C) = decide (m = n) := by
    by_cases z : m = n
    . subst z; rw [hm] at hn; cases hn; simp
    . rw [decide_eq_false z]
      refine beq_eq_false_iff_ne.mpr fun y => z ?_
      injection y with y
      subst y
      exact (x.sole n hn).symm
  have a2 : (Value.ref Cm == Value.ref S) = decide (m = p) := by
    by_cases z : m = p
    . subst z; rw [hm] at hp; cases hp; simp
    . rw [decide_eq_false z]
      refine beq_eq_false_iff_ne.mpr fun y => z ?_
      injection y with y
      subst y
      exact (x.sole p hp).symm
  unfold W.kitOne
  have a3 : (Value.ref C == Value.ref Cm) = decide (m = n) := by
    by_cases z : m = n
    . subst z; rw [hm] at hn; cases hn; simp
    . rw [decide_eq_false z]
      refine beq_eq_false_iff_ne.mpr fun y => z ?_
      injection y with y
      subst y
      exact (x.sole n hn).symm
  rw [a3]
  by_cases z : m = n
  . rw [if_pos (decide_eq_true z), decide_eq_true z]; rfl
  . rw [decide_eq_false z, if_neg (by simp), Bool.false_or]
    unfold W.kitCls
    dsimp only
    rw [if_pos x.cl]
    unfold W.subIn W.mroIn
    dsimp only
    rw [h1, Option.bind_some, h2, if_neg (by simp)]
    rw [List.contains_cons, List.contains_cons, a1, a2, decide_eq_false z, Bool.false_or, show iG.contains (Value.ref Cm) = false by simp [iG], Bool.or_false]
theorem Bp {K : W.Frag} {C S : Addr} (e : gj K C S) : W.kitOne K (.ref C) (.type "ValueError") = some true := by
  obtain ⟨cd, h1, h2⟩ := tZ e.ex
  unfold W.kitOne
  rw [if_neg (by simp)]
  unfold W.kitCls
  dsimp only
  rw [if_pos (by decide +kernel)]
  unfold W.subIn W.mroIn
  dsimp only
  rw [h1, Option.bind_some, h2, if_neg (by simp)]
  simp [iG]
end Sp
namespace Sp
open PySem PySem.Spec PyProof.Rows L2
inductive D where
  | non | bl (b : Bool) | int (i : Int) | str (x : Str) | emp | tup (l : List D) | lst (l : List D) | typ (n : String) | sn (n : Nat) | obj (n : Str) (ns : List Str) (ds : List D) | cls (n : Str) | xc (n : Str) (p : Option Str)
mutual
def D.lless : D -> Bool
  | .lst _ => false
  | .tup l => aA l
  | _ => true
def aA : List D -> Bool
  | [] => true
  | d :: l => d.lless && aA l
end
def qi (K : W.Frag) (H : Hp) (a : Addr) (vs : List V) : Bool -> Prop
  | true => H a = some (.lst vs)
  | false => (∃ o, H a = some (.frz o (.lst vs))) \/ ∃ (o : Obj) (its : Array Value) (n : Nat), K.lookup a = some o /\ o.cls = .type "list" /\ o.dict = none /\ o.data = .seq its n /\ its.size <= sizeLine /\ aJ vs its.toList
theorem qi.sq {K : W.Frag} {H : Hp} {a : Addr} {vs : List V} : ∀ {b : Bool}, qi K H a vs b -> cA K H a vs
  | true, h => cA.of h
  | false, .inl ⟨o, h⟩ => .inl (.inr ⟨o, h⟩)
  | false, .inr h => .inr h
structure lU (K : W.Frag) (C : Addr) : Prop where
  ha : W.findIn K (.ref C) "__class__" = some (some (.builtin "object.__class__"))
  hn : W.specialIn K (.builtin "object.__class__") "__get__" = some (some (.builtin "getset_descriptor.__get__"))
  ht : W.takesIn K (.builtin "object.__class__") = some true
  hm : W.mroIn K C (.type "object") = some true
def mF : List Str := ["Deed", "Turn", "HalfTurn", "Mirror"]
def dj (m n : Str) : Bool := decide (m = n) || (decide (n = "Deed") && (decide (m = "Turn") || decide (m = "HalfTurn") || decide (m = "Mirror")))
structure xM (K : W.Frag) (C : Addr) (n : Str) : Prop where
  all : ∀ m ∈ mF, ∀ Cm, W.nsIn K mainGlobals m = some (some (.ref Cm)) -> lU K Cm /\ W.kitOne K (.ref Cm) (.ref C) = some (dj m n)
abbrev bw := Addr -> Bool -> Prop
mutual
def ak (K : W.Frag) (H : Hp) (P : bw) : D -> V -> Prop
  | .non, v => v = .non
  | .bl b, v => v = .bl b
  | .int i, v => v = .int i
  | .str x, v => v = .str x
  | .emp, v => ∃ a, v = .ref a /\ H a = some (.dK [])
  | .typ n, v => v = .ty n
  | .sn n, v => ∃ a S, v = .ref a /\ H a = some (.set S n)
  | .xc n p, v => jA K H n p v
  | .cls n, v => ∃ C o, v = .ref C /\ W.nsIn K mainGlobals n = some (some (.ref C)) /\ K.lookup C = some o /\ o.cls = .type "type" /\ lU K C /\ xM K C n
  | .obj n ns ds, v => aA ds = true /\ ns.length = ds.length /\ ∃ a C dx vs, v = .ref a /\ W.nsIn K mainGlobals n = some (some (.ref C)) /\ dH K C /\ H a = some (.ins C dx (ns.zip vs)) /\ ao K H P ds vs
  | .tup l, v => ∃ a vs, v = .ref a /\ cz K H a vs /\ ao K H P l vs
  | .lst l, v => ∃ a vs b, v = .ref a /\ qi K H a vs b /\ P a b /\ ao K H P l vs
def ao (K : W.Frag) (H : Hp) (P : bw) : List D -> List V -> Prop
  | [], vs => vs = []
  | d :: l, vs => ∃ v r, vs = v :: r /\ ak K H P d v /\ ao K H P l r
end
structure eo (P P' : bw) (H H' : Hp) : Prop where
  oth : ∀ a o, H a = some o -> (∀ vs, o ≠ .lst vs) -> H' a = some o
  lst : ∀ a vs, H a = some (.lst vs) -> P a true -> H' a = some (.lst vs)
  impT : ∀ a o, H a = some o -> P a true -> P' a true
  impF : ∀ a, P a false -> P' a false
theorem eo.sq {P P' : bw} {H H' : Hp} {K : W.Frag} (s : eo P P' H H') {a : Addr} {vs : List V} (h : cz K H a vs) : cz K H' a vs := by
  rcases h with (h | ⟨o, h⟩) | h
  . exact .inl (.inl (s.oth _ _ h (fun _ z => nomatch z)))
  . exact .inl (.inr ⟨o, s.oth _ _ h (fun _ z => nomatch z)⟩)
  . exact .inr h
theorem eo.ls {P P' : bw} {H H' : Hp} {K : W.Frag} (s : eo P P' H H') {a : Addr} {vs : List V} : ∀ {b : Bool}, qi K H a vs b -> P a b -> qi K H' a vs b
  | true, h, p => s.lst a vs h p
  | false, .inl ⟨o, h⟩, _ => .inl ⟨o, s.oth _ _ h (fun _ z => nomatch z)⟩
  | false, .inr h, _ => .inr h
theorem eo.imp {P P' : bw} {H H' : Hp} {K : W.Frag} (s : eo P P' H H') {a : Addr} {vs : List V} : ∀ {b : Bool}, qi K H a vs b -> P a b -> P' a b
  | true, h, p => s.impT a _ h p
  | false, _, p => s.impF a p
mutual
theorem ak.mono {K : W.Frag} {P P' : bw} {H H' : Hp} (s : eo P P' H H') : ∀ {d : D} {v : V}, ak K H P d v -> ak K H' P' d v
  | .non, v, h => by rw [ak] at h ⊢; exact h
  | .bl b, v, h => by rw [ak] at h ⊢; exact h
  | .int i, v, h => by rw [ak] at h ⊢; exact h
  | .str x, v, h => by rw [ak] at h ⊢; exact h
  | .emp, v, h => by
    rw [ak] at h ⊢
    obtain ⟨a, e, h⟩ := h
    exact ⟨a, e, s.oth _ _ h (fun _ z => nomatch z)⟩
  | .typ n, v, h => by rw [ak] at h ⊢; exact h
  | .sn n, v, h => by
    rw [ak] at h ⊢
    obtain ⟨a, S, e, h⟩ := h
    exact ⟨a, S, e, s.oth _ _ h (fun _ z => nomatch z)⟩
  | .cls n, v, h => by rw [ak] at h ⊢; exact h
  | .xc n p, v, h => by rw [ak] at h ⊢; exact h.mono fun a C z => s.oth _ _ z (fun _ z => nomatch z)
  | .obj n ns ds, v, h => by
    rw [ak] at h ⊢
    obtain ⟨f, e0, a, C, dx, vs, e, h1, h2, h3, r⟩ := h
    exact ⟨f, e0, a, C, dx, vs, e, h1, h2, s.oth _ _ h3 (fun _ z => nomatch z), ao.mono s r⟩
  | .tup l, v, h => by
    rw [ak] at h ⊢
    obtain ⟨a, vs, e, h, r⟩ := h
    exact ⟨a, vs, e, s.sq h, ao.mono s r⟩
  | .lst l, v, h => by
    rw [ak] at h ⊢
    obtain ⟨a, vs, b, e, h, p, r⟩ := h
    exact ⟨a, vs, b, e, s.ls h p, s.imp h p, ao.mono s r⟩
theorem ao.mono {K : W.Frag} {P P' : bw} {H H' : Hp} (s : eo P P' H H') : ∀ {l : List D} {vs : List V}, ao K H P l vs -> ao K H' P' l vs
  | [], vs, h => by rw [ao] at h ⊢; exact h
  | d :: l, vs, h => by
    rw [ao] at h ⊢
    obtain ⟨v, r, e, h1, h2⟩ := h
    exact ⟨v, r, e, ak.mono s h1, ao.mono s h2⟩
end
theorem eo.same {P P' : bw} {H H' : Hp} (s : az H H') (i : ∀ a b, P a b -> P' a b) : eo P P' H H' := ⟨fun a o h _ => s a o h, fun a vs h _ => s a _ h, fun a _ _ p => i a true p, fun a p => i a false p⟩
theorem ak.same {K : W.Frag} {P : bw} {H H' : Hp} (s : az H H') {d : D} {v : V} (h : ak K H P d v) : ak K H' P d v := h.mono (.same s fun _ _ p => p)
theorem ao.same {K : W.Frag} {P : bw} {H H' : Hp} (s : az H H') {d : List D} {v : List V} (h : ao K H P d v) : ao K H' P d v := h.mono (.same s fun _ _ p => p)
theorem ak.imp {K : W.Frag} {P P' : bw} {H : Hp} (i : ∀ a b, P a b -> P' a b) {d : D} {v : V} (h : ak K H P d v) : ak K H P' d v := h.mono (.same (az.refl _) i)
theorem ao.imp {K : W.Frag} {P P' : bw} {H : Hp} (i : ∀ a b, P a b -> P' a b) {d : List D} {v : List V} (h : ao K H P d v) : ao K H P' d v := h.mono (.same (az.refl _) i)
theorem ak.impH {K : W.Frag} {P P' : bw} {H : Hp} (i : ∀ a o, H a = some o -> P a true -> P' a true) (j : ∀ a, P a false -> P' a false) {d : D} {v : V} (h : ak K H P d v) : ak K H P' d v := h.mono ⟨fun _ _ h _ => h, fun _ _ h _ => h, i, j⟩
theorem ao.impH {K : W.Frag} {P P' : bw} {H : Hp} (i : ∀ a o, H a = some o -> P a true -> P' a true) (j : ∀ a, P a false -> P' a false) {d : List D} {v : List V} (h : ao K H P d v) : ao K H P' d v := h.mono ⟨fun _ _ h _ => h, fun _ _ h _ => h, i, j⟩
mutual
theorem ak.flat {K : W.Frag} {P : bw} (P' : bw) {H : Hp} : ∀ {d : D} {v : V}, d.lless = true -> ak K H P d v -> ak K H P' d v
  | .non, v, _, h => by rw [ak] at h ⊢; exact h
  | .bl b, v, _, h => by rw [ak] at h ⊢; exact h
  | .int i, v, _, h => by rw [ak] at h ⊢; exact h
  | .str x, v, _, h => by rw [ak] at h ⊢; exact h
  | .emp, v, _, h => by rw [ak] at h ⊢; exact h
  | .typ n, v, _, h => by rw [ak] at h ⊢; exact h
  | .sn n, v, _, h => by rw [ak] at h ⊢; exact h
  | .cls n, v, _, h => by rw [ak] at h ⊢; exact h
  | .xc n p, v, _, h => by rw [ak] at h ⊢; exact h
  | .obj n ns ds, v, _, h => by
    rw [ak] at h ⊢
    obtain ⟨f, e0, a, C, dx, vs, e, h1, h2, h3, r⟩ := h
    exact ⟨f, e0, a, C, dx, vs, e, h1, h2, h3, ao.flat P' f r⟩
  | .tup l, v, f, h => by
    rw [ak] at h ⊢
    obtain ⟨a, vs, e, h, r⟩ := h
    exact ⟨a, vs, e, h, ao.flat P' (by rw [D.lless] at f; exact f) r⟩
  | .lst l, v, f, h => by rw [D.lless] at f; cases f
theorem ao.flat {K : W.Frag} {P : bw} (P' : bw) {H : Hp} : ∀ {l : List D} {vs : List V}, aA l = true -> ao K H P l vs -> ao K H P' l vs
  | [], vs, _, h => by rw [ao] at h ⊢; exact h
  | d :: l, vs, f, h => by
    rw [ao] at h ⊢
    rw [aA, Bool.and_eq_true] at f
    obtain ⟨v, r, e, h1, h2⟩ := h
    exact ⟨v, r, e, ak.flat P' f.1 h1, ao.flat P' f.2 h2⟩
end
theorem ao.length {K : W.Frag} {P : bw} {H : Hp} : ∀ {l : List D} {vs : List V}, ao K H P l vs -> l.length = vs.length
  | [], vs, h => by rw [ao] at h; subst h; rfl
  | d :: l, vs, h => by
    rw [ao] at h
    obtain ⟨v, r, e, h1, h2⟩ := h
    subst e
    rw [List.length_cons, List.length_cons, h2.length]
theorem ao.get {K : W.Frag} {P : bw} {H : Hp} : ∀ {l : List D} {vs : List V} {i : Nat} {d : D}, ao K H P l vs -> l[i]? = some d -> ∃ v, vs[i]? = some v /\ ak K H P d v
  | [], vs, i, d, h, e => by simp at e
  | x :: l, vs, 0, d, h, e => by
    rw [ao] at h
    obtain ⟨v, r, rfl, h1, h2⟩ := h
    simp at e; subst e
    exact ⟨v, by simp, h1⟩
  | x :: l, vs, i + 1, d, h, e => by
    rw [ao] at h
    obtain ⟨v, r, rfl, h1, h2⟩ := h
    obtain ⟨u, h3, h4⟩ := ao.get (i := i) h2 (by simpa using e)
    exact ⟨u, by simpa using h3, h4⟩
theorem ao.append {K : W.Frag} {P : bw} {H : Hp} : ∀ {l m : List D} {vs ws : List V}, ao K H P l vs -> ao K H P m ws -> ao K H P (l ++ m) (vs ++ ws)
  | [], m, vs, ws, h, g => by rw [ao] at h; subst h; exact g
  | d :: l, m, vs, ws, h, g => by
    rw [ao] at h
    obtain ⟨v, r, rfl, h1, h2⟩ := h
    show ao K H P (d :: (l ++ m)) (v :: (r ++ ws))
    rw [ao]
    exact ⟨v, _, rfl, h1, ao.append h2 g⟩
theorem ao.one {K : W.Frag} {P : bw} {H : Hp} {d : D} {v : V} (h : ak K H P d v) : ao K H P [d] [v] := by
  rw [ao]; exact ⟨v, [], rfl, h, by rw [ao]⟩
theorem ao.nil {K : W.Frag} {P : bw} {H : Hp} : ao K H P [] [] := by rw [ao]
theorem ao.cons {K : W.Frag} {P : bw} {H : Hp} {d : D} {v : V} {l : List D} {vs : List V} (h : ak K H P d v) (g : ao K H P l vs) : ao K H P (d :: l) (v :: vs) := by
  rw [ao]; exact ⟨v, vs, rfl, h, g⟩
theorem ao.take {K : W.Frag} {P : bw} {H : Hp} : ∀ {l : List D} {vs : List V} (n : Nat), ao K H P l vs -> ao K H P (l.take n) (vs.take n)
  | [], vs, n, h => by rw [ao] at h; subst h; simp; exact ao.nil
  | d :: l, vs, 0, h => by simp; exact ao.nil
  | d :: l, vs, n + 1, h => by
    rw [ao] at h
    obtain ⟨v, r, rfl, h1, h2⟩ := h
    exact ao.cons h1 (ao.take n h2)
theorem ao.drop {K : W.Frag} {P : bw} {H : Hp} : ∀ {l : List D} {vs : List V} (n : Nat), ao K H P l vs -> ao K H P (l.drop n) (vs.drop n)
  | [], vs, n, h => by rw [ao] at h; subst h; simp; exact ao.nil
  | d :: l, vs, 0, h => h
  | d :: l, vs, n + 1, h => by
    rw [ao] at h
    obtain ⟨v, r, rfl, h1, h2⟩ := h
    exact ao.drop n h2
theorem ao.mapInt {K : W.Frag} {P : bw} {H : Hp} : ∀ {ns : List Int} {vs : List V}, ao K H P (ns.map D.int) vs -> vs = ns.map V.int
  | [], vs, h => by rw [List.map_nil, ao] at h; exact h
  | n :: ns, vs, h => by
    rw [List.map_cons, ao] at h
    obtain ⟨v, r, rfl, h1, h2⟩ := h
    rw [ak] at h1
    rw [h1, ao.mapInt h2]; rfl
theorem ao.ofInts {K : W.Frag} {P : bw} {H : Hp} : ∀ {ns : List Int}, ao K H P (ns.map D.int) (ns.map V.int)
  | [] => ao.nil
  | n :: ns => ao.cons (by rw [ak]) ao.ofInts
abbrev Ow := Addr -> Option (Option Str)
def Kp (ow : Ow) (H : Hp) : Nat -> bw
  | 0 => fun a b => b = true /\ H a = none
  | 1 => fun a b => b = true -> ow a = none
  | 2 => fun a b => b = true /\ (ow a ≠ none \/ H a = none)
  | _ => fun _ _ => True
def kj : Nat -> Nat -> Nat
  | 0, k => k
  | k, 0 => k
  | 1, 1 => 1
  | 2, 2 => 2
  | _, _ => 3
def jn (ow : Ow) (x : Str) : Bool -> bw
  | true => fun a b => b = true /\ ow a = some (some x)
  | false => fun a b => b = true -> ow a = none
def eu (ow : Ow) (H : Hp) : Prop := ∀ a, ow a ≠ none -> ∃ o, H a = some o
theorem eu.same {ow : Ow} {H H' : Hp} (o : eu ow H) (s : az H H') : eu ow H' := fun a h => let ⟨x, e⟩ := o a h; ⟨x, s a x e⟩
theorem eu.free {ow : Ow} {H : Hp} (o : eu ow H) {a : Addr} (h : H a = none) : ow a = none := by
  cases e : ow a with
  | none => rfl
  | some x => obtain ⟨y, q⟩ := o a (by rw [e]; exact (fun z => nomatch z)); rw [h] at q; cases q
theorem Kp.back {ow : Ow} {H H' : Hp} (s : az H H') : ∀ (k : Nat) (a : Addr) (b : Bool), Kp ow H' k a b -> Kp ow H k a b
  | 0, a, b, h => ⟨h.1, s.free h.2⟩
  | 1, a, b, h => h
  | 2, a, b, h => ⟨h.1, h.2.imp id fun z => s.free z⟩
  | _ + 3, a, b, h => True.intro
theorem Kp.joinL {ow : Ow} {H : Hp} (o : eu ow H) : ∀ (k j : Nat) (a : Addr) (b : Bool), Kp ow H k a b -> Kp ow H (kj k j) a b
  | 0, 0, a, b, h => h
  | 0, 1, a, b, h => fun _ => o.free h.2
  | 0, 2, a, b, h => ⟨h.1, .inr h.2⟩
  | 0, _ + 3, a, b, h => True.intro
  | 1, 0, a, b, h => h
  | 1, 1, a, b, h => h
  | 1, 2, a, b, h => True.intro
  | 1, _ + 3, a, b, h => True.intro
  | 2, 0, a, b, h => h
  | 2, 1, a, b, h => True.intro
  | 2, 2, a, b, h => h
  | 2, _ + 3, a, b, h => True.intro
  | _ + 3, 0, a, b, h => True.intro
  | _ + 3, 1, a, b, h => True.intro
  | _ + 3, 2, a, b, h => True.intro
  | _ + 3, _ + 3, a, b, h => True.intro
theorem yW : ∀ k j, kj k j = kj j k
  | 0, 0 | 0, 1 | 0, 2 | 0, _ + 3 | 1, 0 | 1, 1 | 1, 2 | 1, _ + 3 | 2, 0 | 2, 1 | 2, 2 | 2, _ + 3 | _ + 3, 0 | _ + 3, 1 | _ + 3, 2 | _ + 3, _ + 3 => rfl
theorem Kp.joinR {ow : Ow} {H : Hp} (o : eu ow H) (k j : Nat) (a : Addr) (b : Bool) (h : Kp ow H j a b) : Kp ow H (kj k j) a b := by
  rw [yW]; exact Kp.joinL o j k a b h
abbrev al := Str -> Option (D × Bool)
structure aP (X : Cx) (ow : Ow) (H : Hp) (σ : L2.St) (ρ : al) : Prop where
  get : ∀ x d o, ρ x = some (d, o) -> ∃ (i : Nat) (v : V), X.N[i]? = some x /\ fj X.env.scope x /\ σ[i]? = some (some v) /\ ak X.K H (jn ow x o) d v
  own : eu ow H
theorem aP.same {X : Cx} {ow : Ow} {H H' : Hp} {σ : L2.St} {ρ : al} (e : aP X ow H σ ρ) (s : az H H') : aP X ow H' σ ρ :=
  ⟨fun x d o h => let ⟨i, v, h1, h2, h3, h4⟩ := e.get x d o h; ⟨i, v, h1, h2, h3, h4.same s⟩, e.own.same s⟩
def tD (X : Cx) (ow : Ow) (ρ : al) (d : D) (k : Nat) : TE := fun σ H Q => aP X ow H σ ρ /\ ∀ v H', az H H' -> ak X.K H' (Kp ow H k) d v -> Q v H'
def ED (X : Cx) (ρ : al) (e : Expr) (d : D) (k : Nat) : Prop := ∀ ow, PE X e (tD X ow ρ d k)
def wH (X : Cx) (ow : Ow) (ρ : al) (b : Bool) : TT := fun σ H Q => aP X ow H σ ρ /\ ∀ H', az H H' -> Q b H'
def TD (X : Cx) (ρ : al) (e : Expr) (b : Bool) : Prop := ∀ ow, PT X e (wH X ow ρ b)
def Fd (X : Cx) (ow : Ow) (ρ : al) (ds : List D) (k : Nat) : TA := fun σ H Q => aP X ow H σ ρ /\ ∀ vs H', az H H' -> ao X.K H' (Kp ow H k) ds vs -> Q vs H'
def AD (X : Cx) (ρ : al) (es : List Expr) (ds : List D) (k : Nat) : Prop := ∀ ow, PA X es (Fd X ow ρ ds k)
theorem bU {X : Cx} {e : Expr} {t t' : TE} (h : PE X e t) (i : ∀ σ H Q, t' σ H Q -> t σ H Q) : PE X e t' := fun pins s σ H Q I q => h pins s σ H Q I (i σ H Q q)
theorem sU {X : Cx} {e : Expr} {t t' : TT} (h : PT X e t) (i : ∀ σ H Q, t' σ H Q -> t σ H Q) : PT X e t' := fun pins s σ H Q I q => h pins s σ H Q I (i σ H Q q)
theorem xD {X : Cx} {e : List Expr} {t t' : TA} (h : PA X e t) (i : ∀ σ H Q, t' σ H Q -> t σ H Q) : PA X e t' := fun pos pins s σ H Q I q => h pos pins s σ H Q I (i σ H Q q)
def kn (d : D) (k : Nat) : Nat := if d.lless = true then 0 else k
theorem ED.kn {X : Cx} {ρ : al} {e : Expr} {d : D} {k : Nat} (h : ED X ρ e d k) : ED X ρ e d (Sp.kn d k) := by
  unfold Sp.kn
  by_cases f : d.lless = true
  . rw [if_pos f]
    exact fun ow => bU (h ow) fun σ H Q ⟨E, q⟩ => ⟨E, fun v H' s r => q v H' s (r.flat _ f)⟩
  . rw [if_neg f]; exact h
end Sp
set_option Elab.async false
set_option linter.all false
set_option maxRecDepth 100000
namespace Sp
open PySem PySem.Spec PyProof.Rows L2
def DA (K : W.Frag) (J : It) (ds : List D) (P : bw) (H1 : Hp) : Prop :=
  ∀ (i : Nat) (H2 : Hp), eo P P H1 H2 -> (∀ d, ds[i]? = some d -> J.go i H2 /\ ∀ x H3, J.yld i H2 x H3 -> az H2 H3 /\ ak K H3 P d x) /\ (ds.length <= i -> J.stop i H2)
def Kd (ow : Ow) (H : Hp) (k : Nat) (H1 : Hp) : bw := fun a b => Kp ow H k a b /\ (b = true -> ∃ o, H1 a = some o)
def tI (X : Cx) (ow : Ow) (ρ : al) (ds : List D) (k : Nat) : TI := fun σ H R => aP X ow H σ ρ /\ ∀ J H1, az H H1 -> DA X.K J ds (Kd ow H k H1) H1 -> R J H1
def IE (X : Cx) (ρ : al) (tg iter : Expr) (ds : List D) (k : Nat) : Prop := ∀ ow, PI X tg iter (tI X ow ρ ds k)
def gH (ifs : List Expr) (env : Env) : Sem Bool := forIn ifs true fun c r => if r = true then do let ok <- isTrue c env (eval c env); pure (ForInStep.yield ok) else pure (ForInStep.yield r)
def uW (X : Cx) (ρ : al) (ifs : List Expr) (b : Bool) : Prop := ∀ ow (pins : List (Addr × Obj)) (s : Shared) (σ : L2.St) (H : Hp) (Q : Bool -> Hp -> Prop), am X pins σ H s -> wH X ow ρ b σ H Q -> wpAny (model X.prog X.w) X.A (gH ifs X.env) (TP X pins σ Q) X.xe s
def GD (X : Cx) (ρ : al) (tg : Expr) (d : D) (ρ' : al) : Prop := ∃ g : TG, PG X tg g /\ ∀ (ow : Ow) (v : V) (σ : L2.St) (H : Hp) (Q : L2.St -> Hp -> Prop), σ.length = X.N.length -> aP X ow H σ ρ -> ak X.K H (fun a b => b = true -> ow a = none) d v -> (∀ σ', σ'.length = X.N.length -> aP X ow H σ' ρ' -> Q σ' H) -> g v σ H Q
abbrev jr (X : Cx) (scope : Scope) (cl : List (Str × Addr)) (C : Addr) (N' : List Str) (s : Shared) (H : Hp) (fp : List Addr) : Cx :=
  { X with N := N', s₀ := s, H₀ := H, env := compEnvC scope cl C X.env, outer := X.stack, stack := X.stack, ex := fp, fn := fun x => decide (scope.names.lookup x = some .cell), pn := [], xe := fun _ _ => False }
theorem gJ {env : Env} : ∀ (names : List (Str × NameKind)) (cs : List (Str × Addr)), (∀ n, (n, NameKind.free) ∈ names -> ∃ c, env.cells.lookup n = some c) ->
    ∃ cl, (forIn names cs (fun (x : Str × NameKind) (r : List (Str × Addr)) => (if (x.2 == NameKind.free) = true then do let a <- cellOf env x.1; pure (ForInStep.yield ((x.1, a) :: r)) else pure (ForInStep.yield r) : Sem (ForInStep (List (Str × Addr)))))) = (pure cl : Sem (List (Str × Addr))) /\
      (∀ x c, cl.lookup x = some c -> (env.cells.lookup x = some c /\ (x, NameKind.free) ∈ names) \/ cs.lookup x = some c) /\ (∀ x, (x, NameKind.free) ∈ names -> ∃ c, cl.lookup x = some c) /\ (∀ x c, cs.lookup x = some c -> ∃ c', cl.lookup x = some c')
  | [], cs, _ => ⟨cs, rfl, fun x c h => .inr h, fun x h => (by cases h), fun x c h => ⟨c, h⟩⟩
  | (n, k) :: r, cs, h => by
    have hr : ∀ n, (n, NameKind.free) ∈ r -> ∃ c, env.cells.lookup n = some c := fun m hm => h m (List.mem_cons_of_mem _ hm)
    by_cases hk : k = .free
    . subst hk
      obtain ⟨c, hc⟩ := h n List.mem_cons_self
      obtain ⟨cl, e, h1, h2, h3⟩ := gJ r ((n, c) :: cs) hr
      refine ⟨cl, ?_, fun x c' hx => ?_, fun x hx => ?_, fun x c' hx => ?_⟩
      . rw [List.forIn_cons]
        simp only [beq_self_eq_true, if_true, cellOf, hc]
        rw [pure_bind, pure_bind]
        exact e
      . rcases h1 x c' hx with q | q
        . exact .inl ⟨q.1, List.mem_cons_of_mem _ q.2⟩
        . rw [List.lookup_cons] at q
          split at q
          . rename_i hb
            have : x = n := by simpa using hb
            subst this; cases q; exact .inl ⟨hc, List.mem_cons_self⟩
          . exact .inr q
      . rcases List.mem_cons.mp hx with q | q
        . cases q
          exact h3 n c (by simp)
        . exact h2 x q
      . by_cases hb : x == n
        . exact h3 x c (by rw [List.lookup_cons, hb])
        . exact h3 x c' (by rw [List.lookup_cons]; simp only [hb]; exact hx)
    . obtain ⟨cl, e, h1, h2, h3⟩ := gJ r cs hr
      refine ⟨cl, ?_, fun x c hx => (h1 x c hx).imp (fun q => ⟨q.1, List.mem_cons_of_mem _ q.2⟩) id, fun x hx => ?_, h3⟩
      . rw [List.forIn_cons]
        have : (k == NameKind.free) = false := by simpa using hk
        simp only [this, Bool.false_eq_true, if_false]
        rw [pure_bind]
        exact e
      . rcases List.mem_cons.mp hx with q | q
        . cases q; exact absurd rfl hk
        . exact h2 x q
theorem qs {env : Env} {scope : Scope} (h : ∀ n, (n, NameKind.free) ∈ scope.names -> ∃ c, env.cells.lookup n = some c) :
    ∃ cl, closureFor scope env = pure cl /\ (∀ x c, cl.lookup x = some c -> env.cells.lookup x = some c /\ (x, NameKind.free) ∈ scope.names) /\ (∀ x, (x, NameKind.free) ∈ scope.names -> ∃ c, cl.lookup x = some c) := by
  obtain ⟨cl, e, h1, h2, _⟩ := gJ scope.names [] h
  refine ⟨cl, ?_, fun x c hx => (h1 x c hx).resolve_right (by simp), h2⟩
  unfold closureFor
  rw [<- e, <- bind_pure (forIn scope.names _ _)]
theorem c6 {env : Env} : ∀ {names : List (Str × NameKind)} {x : Str}, names.lookup x = some .free ->
    (names.map fun (n, k) => if (k == NameKind.free && env.scope.kind == .function && env.kindOf n == some .cell) then (n, NameKind.cell) else (n, k)).lookup x = some .cell \/
    (names.map fun (n, k) => if (k == NameKind.free && env.scope.kind == .function && env.kindOf n == some .cell) then (n, NameKind.cell) else (n, k)).lookup x = some .free
  | [], _, h => by simp at h
  | (n, k) :: r, x, h => by
    have ih := @c6 env r x
    show List.lookup x ((if (k == NameKind.free && env.scope.kind == .function && env.kindOf n == some .cell) = true then (n, NameKind.cell) else (n, k)) :: _) = _ \/ List.lookup x ((if (k == NameKind.free && env.scope.kind == .function && env.kindOf n == some .cell) = true then (n, NameKind.cell) else (n, k)) :: _) = _
    cases hx : x == n with
    | true =>
      simp only [List.lookup_cons, hx] at h
      cases h
      by_cases hc : (NameKind.free == NameKind.free && env.scope.kind == .function && env.kindOf n == some .cell) = true
      . rw [if_pos hc]; simp [List.lookup_cons, hx]
      . rw [if_neg hc]; simp [List.lookup_cons, hx]
    | false =>
      simp only [List.lookup_cons, hx] at h
      by_cases hc : (k == NameKind.free && env.scope.kind == .function && env.kindOf n == some .cell) = true
      . rw [if_pos hc]; simp only [List.lookup_cons, hx]; exact ih h
      . rw [if_neg hc]; simp only [List.lookup_cons, hx]; exact ih h
theorem fA {env : Env} : ∀ {names : List (Str × NameKind)} {x : Str} {k : NameKind}, (names.map fun (n, k) => if (k == NameKind.free && env.scope.kind == .function && env.kindOf n == some .cell) then (n, NameKind.cell) else (n, k)).lookup x = some k ->
    names.lookup x = some k \/ (k = .cell /\ names.lookup x = some .free)
  | [], _, _, h => by simp at h
  | (n, j) :: r, x, k, h => by
    have ih := @fA env r x k
    replace h : List.lookup x ((if (j == NameKind.free && env.scope.kind == .function && env.kindOf n == some .cell) = true then (n, NameKind.cell) else (n, j)) :: _) = some k := h
    cases hx : x == n with
    | true =>
      simp only [List.lookup_cons, hx]
      by_cases hc : (j == NameKind.free && env.scope.kind == .function && env.kindOf n == some .cell) = true
      . rw [if_pos hc] at h
        simp only [List.lookup_cons, hx] at h
        cases h
        have : j = .free := by
          have := (Bool.and_eq_true _ _).mp ((Bool.and_eq_true _ _).mp hc).1
          simpa using this.1
        exact .inr ⟨rfl, by rw [this]⟩
      . rw [if_neg hc] at h
        simp only [List.lookup_cons, hx] at h
        exact .inl h
    | false =>
      simp only [List.lookup_cons, hx]
      by_cases hc : (j == NameKind.free && env.scope.kind == .function && env.kindOf n == some .cell) = true
      . rw [if_pos hc] at h; simp only [List.lookup_cons, hx] at h; exact ih h
      . rw [if_neg hc] at h; simp only [List.lookup_cons, hx] at h; exact ih h
structure gf (env : Env) (scope : Scope) (N' : List Str) : Prop where
  kind : scope.kind = .function
  nn : (scope.names.map (·.1)).Nodup
  names : ∀ y ∈ scope.names, y.2 = .local -> scope.names.lookup y.1 = some .local
  nd : N'.Nodup
  fr : ∀ n, (n, NameKind.free) ∈ scope.names -> env.kindOf n = some .cell \/ env.kindOf n = some .free
theorem oX : ∀ {names : List (Str × NameKind)} {x : Str} {k : NameKind}, (names.map (·.1)).Nodup -> (x, k) ∈ names -> names.lookup x = some k
  | [], _, _, _, h => by cases h
  | (n, j) :: r, x, k, nd, h => by
    rw [List.map_cons, List.nodup_cons] at nd
    rcases List.mem_cons.mp h with e | h'
    . cases e; simp
    . have hx : (x == n) = false := by
        cases q : x == n with
        | false => rfl
        | true =>
          have : x = n := by simpa using q
          subst this
          have hm : x ∈ r.map (·.1) := List.mem_map.mpr ⟨(x, k), h', rfl⟩
          exact absurd hm nd.1
      rw [List.lookup_cons, hx]
      exact oX nd.2 h'
theorem lC : ∀ (names : List (Str × NameKind)) (n : Nat) (acc : List (Str × Addr)) {x : Str} {c : Addr}, (cellsFrom n names acc).lookup x = some c -> acc.lookup x = some c \/ (n <= c /\ (x, NameKind.cell) ∈ names)
  | [], _, _, _, _, h => .inl h
  | (y, k) :: r, n, acc, x, c, h => by
    unfold cellsFrom at h
    split at h
    . rename_i hk
      have hk : k = .cell := by simpa using hk
      subst hk
      rcases lC r (n + 1) ((y, n) :: acc) h with q | ⟨q1, q2⟩
      . rw [List.lookup_cons] at q
        split at q
        . rename_i hb
          have : x = y := by simpa using hb
          subst this
          cases q
          exact .inr ⟨Nat.le_refl _, List.mem_cons_self⟩
        . exact .inl q
      . exact .inr ⟨by omega, List.mem_cons_of_mem _ q2⟩
    . rcases lC r n acc h with q | ⟨q1, q2⟩
      . exact .inl q
      . exact .inr ⟨q1, List.mem_cons_of_mem _ q2⟩
theorem pP : ∀ (names : List (Str × NameKind)) (n : Nat) (acc : List (Str × Addr)), (∀ x y c, acc.lookup x = some c -> acc.lookup y = some c -> x = y) -> (∀ x c, acc.lookup x = some c -> c < n) ->
    ∀ x y c, (cellsFrom n names acc).lookup x = some c -> (cellsFrom n names acc).lookup y = some c -> x = y
  | [], _, _, h, _, x, y, c, a, b => h x y c a b
  | (z, k) :: r, n, acc, h, hb, x, y, c, a, b => by
    unfold cellsFrom at a b
    split at a
    . rename_i hk
      rw [if_pos hk] at b
      refine pP r (n + 1) ((z, n) :: acc) (fun u v d p q => ?_) (fun u d p => ?_) x y c a b
      . rw [List.lookup_cons] at p q
        split at p
        . rename_i e1
          split at q
          . rename_i e2
            rw [show u = z by simpa using e1, show v = z by simpa using e2]
          . cases p; exact absurd (hb v _ q) (Nat.lt_irrefl _)
        . split at q
          . cases q; exact absurd (hb u _ p) (Nat.lt_irrefl _)
          . exact h u v d p q
      . rw [List.lookup_cons] at p
        split at p
        . cases p; exact Nat.lt_succ_self _
        . exact Nat.lt_succ_of_lt (hb u d p)
    . rename_i hk
      rw [if_neg hk] at b
      exact pP r n acc h hb x y c a b
theorem mG : ∀ (names : List (Str × NameKind)) (h : Heap) (acc : List (Str × Addr)), (∀ x c, acc.lookup x = some c -> ∃ v, h.IsCell c v) -> ∀ x c, (cellsFrom h.objs.size names acc).lookup x = some c -> ∃ v, (pushCells h names).IsCell c v
  | [], _, _, h, x, c, a => h x c a
  | (z, k) :: r, h, acc, hc, x, c, a => by
    unfold cellsFrom at a
    unfold pushCells
    split at a
    . rename_i hk
      rw [if_pos hk]
      have := mG r (h.push { cls := .type "cell", data := .cell none }) ((z, h.objs.size) :: acc) (fun u d p => ?_) x c
      . rw [Heap.size_push] at this
        exact this a
      . rw [List.lookup_cons] at p
        split at p
        . cases p; exact ⟨none, _, Heap.get?_push_size _ rfl, rfl⟩
        . obtain ⟨v, q⟩ := hc u d p
          exact ⟨v, q.keeps fun b o e => Heap.get?_push_of_some _ e⟩
    . rename_i hk
      rw [if_neg hk]
      exact mG r h acc hc x c a
theorem sY {M : Model} {A : Around} {E : Value -> Shared -> Prop} {s : Shared} {scope : Scope} {globals : Addr} {cl : List (Str × Addr)} {qual : Str} {env : Env} {Q : Env -> Shared -> Prop} (hcl : ∀ x c, cl.lookup x = some c -> ∃ v, s.heap.IsCell c v)
    (h : ∀ h', h'.Ns s.heap.objs.size (fun _ => none) -> (∀ b o, s.heap.get? b = some o -> h'.get? b = some o) -> (∀ x c, (cellsFrom (s.heap.objs.size + 1) scope.names cl).lookup x = some c -> ∃ v, h'.IsCell c v) ->
      Q (newEnv scope s.heap.objs.size globals (cellsFrom (s.heap.objs.size + 1) scope.names cl) qual none .none (some env) builtinsNs) { s with heap := h', toks := s.toks + 0 }) :
    wpAny M A (newFunctionEnv scope globals cl [] qual none .none (some env)) Q E s := by
  simp only [newFunctionEnv, Option.isSome_some, if_true]
  refine wpAny_bind (wpAny_alloc ?_)
  refine wpAny_bind (wpAny_layCells _ (fun name kind cells => by cases hkc : kind == NameKind.cell <;> simp [hkc]) _ _ _ _ ?_)
  rw [show ({ s with heap := s.heap.push { cls := .type "dict", data := .dict #[] } } : Shared).heap.objs.size = s.heap.objs.size + 1 from Heap.size_push ..]
  rw [List.forIn_nil]
  refine wpAny_bind (wpAny_pure (wpAny_pure ?_))
  refine h _ ((Heap.Ns.new s.heap (.type "dict")).keeps (pushCells_keeps _ _)) (fun b o e => pushCells_keeps _ _ b o (Heap.get?_push_of_some _ e)) fun x c hc => ?_
  have := mG scope.names (s.heap.push { cls := .type "dict", data := .dict #[] }) cl (fun u d p => by
    obtain ⟨v, q⟩ := hcl u d p
    exact ⟨v, q.keeps fun b o e => Heap.get?_push_of_some _ e⟩) x c
  rw [Heap.size_push] at this
  exact this hc
structure jW (X : Cx) (scope : Scope) (cl : List (Str × Addr)) (n : Nat) : Prop where
  k1 : ∀ x c, cl.lookup x = some c -> X.env.cells.lookup x = some c \/ (n < c /\ scope.names.lookup x = some .cell)
  k2 : ∀ x, scope.names.lookup x = some .free \/ scope.names.lookup x = some .cell -> ∃ c, cl.lookup x = some c
  k4 : ∀ x y c, cl.lookup x = some c -> cl.lookup y = some c -> x = y
  k5 : ∀ x c, scope.names.lookup x = some .cell -> cl.lookup x = some c -> n <= c
variable {X : Cx}
theorem vV {pins : List (Addr × Obj)} {σ : L2.St} {H : Hp} {s : Shared} {scope : Scope} {cl : List (Str × Addr)} {N' : List Str} (I : am X pins σ H s) (S : gf X.env scope N')
    (h1 : ∀ x c, cl.lookup x = some c -> X.env.cells.lookup x = some c /\ (x, NameKind.free) ∈ scope.names) (h2 : ∀ x, (x, NameKind.free) ∈ scope.names -> ∃ c, cl.lookup x = some c) :
    jW X scope (cellsFrom (s.heap.objs.size + 1) scope.names cl) s.heap.objs.size where
  k1 := fun x c h => by
    rcases lC _ _ _ h with q | ⟨q1, q2⟩
    . exact .inl (h1 x c q).1
    . exact .inr ⟨q1, oX S.nn q2⟩
  k2 := fun x h => by
    refine Option.isSome_iff_exists.mp (W.cellsFrom_some scope.names _ cl ?_)
    rcases h with h | h
    . obtain ⟨c, hc⟩ := h2 x (PySem.mem_of_lookup h)
      exact .inr (by rw [hc]; rfl)
    . exact .inl h
  k4 := pP scope.names _ cl (fun x y c a b => I.ok.inj x y c (h1 x c a).1 (h1 y c b).1) fun x c a => by
    obtain ⟨v, hv⟩ := I.cell x c (h1 x c a).1
    exact Nat.lt_succ_of_lt hv.lt
  k5 := fun x c hx h => by
    rcases lC _ _ _ h with q | ⟨q1, q2⟩
    . rw [oX S.nn (h1 x c q).2] at hx; cases hx
    . omega
theorem C3 {pins : List (Addr × Obj)} {σ : L2.St} {H : Hp} {s : Shared} {scope : Scope} {cl : List (Str × Addr)} {C : Addr} {N' : List Str} {fp : List Addr} (I : am X pins σ H s) (S : gf X.env scope N')
    (hC : s.heap.objs.size <= C) (k : jW X scope cl s.heap.objs.size)
    (hf : ∀ b ∈ fp, fI X pins H b) (hfC : ∀ b ∈ fp, b < s.heap.objs.size) : (jr X scope cl C N' s H fp).Ok where
  mod := I.ok.mod
  kind := by show (relabel scope X.env).kind = _; exact S.kind
  glob := I.ok.glob
  blt := I.ok.blt
  above := hC
  inj := k.k4
  has := fun x hx => by
    have hx : (relabel scope X.env).names.lookup x = some .cell \/ (relabel scope X.env).names.lookup x = some .free := hx
    rcases hx with hx | hx
    . rcases fA hx with q | ⟨_, q⟩
      . exact k.k2 x (.inr q)
      . exact k.k2 x (.inl q)
    . rcases fA hx with q | ⟨q, _⟩
      . exact k.k2 x (.inl q)
      . cases q
  cab := fun x c h hc => k.k5 x c (of_decide_eq_true h) hc
  hd := I.ok.hd
  frames := I.ok.frames
  stk := .inl rfl
  exf := fun b hb => ⟨by have := hfC b hb; intro z; subst z; show False; exact absurd (Nat.lt_of_lt_of_le this hC) (Nat.lt_irrefl _), fun x c h => by
    rcases k.k1 x c h with q | ⟨q, _⟩
    . exact (hf b hb).2.2.2.2.1 x c q
    . have := hfC b hb
      intro z; subst z; exact absurd (Nat.lt_trans q this) (Nat.lt_irrefl _)⟩
  bs := I.bs
  bsz := Nat.le_trans I.ok.bsz I.sz
  noex := fun b o e hb => by
    rcases (hf b hb).2.2.2.1 with q | q
    . exact I.ok.noex b o e q
    . exact absurd (Nat.lt_of_lt_of_le (Heap.lt_size e) (Nat.le_trans I.ok.bsz q)) (Nat.lt_irrefl _)
  exfs := fun b hb z => by
    rcases List.mem_cons.mp (I.stkSub b z) with q | q
    . exact (hf b hb).2.1 q
    . exact (hf b hb).2.2.1 q
  funs := I.stack
  frf := I.stkFree
def kr (X : Cx) (scope : Scope) (N' : List Str) (σ : L2.St) : L2.St := N'.map fun x => if scope.names.lookup x = some .free then (σ[X.N.idxOf x]?).join else none
theorem Bz {pins : List (Addr × Obj)} {σ : L2.St} {H : Hp} {s s1 : Shared} {scope : Scope} {cl : List (Str × Addr)} {N' : List Str} {fp : List Addr} {m : Str -> Option Value} (I : am X pins σ H s) (S : gf X.env scope N')
    (k : jW X scope cl s.heap.objs.size) (k6 : ∀ x c, cl.lookup x = some c -> ∃ v, s1.heap.IsCell c v)
    (hf : ∀ b ∈ fp, fI X pins H b) (hfC : ∀ b ∈ fp, b < s.heap.objs.size)
    (es : ∃ h t, s1 = { s with heap := h, toks := t }) (hns : s1.heap.Ns s.heap.objs.size m) (hk : ∀ b o, s.heap.get? b = some o -> s1.heap.get? b = some o) :
    am (jr X scope cl s.heap.objs.size N' s H fp) [] (kr X scope N' σ) H s1 := by
  obtain ⟨h', t, rfl⟩ := es
  have I1 : am X pins σ H { s with heap := h', toks := t } := I.kept hk
  refine ⟨C3 I S (Nat.le_refl _) k hf hfC, rfl, I.bare, Un.kept hk, ⟨m, hns, fun i x v e1 e2 e3 => ?_⟩, k6, I.hok.fresh (Nat.le_refl _), fun x c h => (k.k1 x c h).elim (fun q => I.freeC x c q) fun q => I.hok.fresh (Nat.le_of_lt q.1), fun p hp => absurd (show p ∈ ([] : List (Addr × Obj)) from hp) (by simp), I1.hok, ?_⟩
  . have hN : N'[i]? = some x := e1
    unfold kr at e2
    rw [List.getElem?_map, hN] at e2
    simp only [Option.map_some, Option.some.injEq] at e2
    split at e2
    . rename_i hfr
      have hj : σ[X.N.idxOf x]? = some (some v) := by
        cases q : σ[X.N.idxOf x]? with
        | none => rw [q] at e2; cases e2
        | some y => rw [q] at e2; rw [show y = some v from e2]
      have hlt : X.N.idxOf x < X.N.length := by rw [<- I.len]; exact (List.getElem?_eq_some_iff.mp hj).1
      have hx : X.N[X.N.idxOf x]? = some x := by
        rw [List.getElem?_eq_getElem hlt, List.getElem_idxOf hlt]
      have kf := S.fr x (PySem.mem_of_lookup hfr)
      have vis : fj X.env.scope x := .inr (kf.imp id id)
      obtain ⟨m1, hn1, hl1⟩ := I1.loc
      obtain ⟨u, r, l⟩ := hl1 _ x v hx hj vis
      refine ⟨u, r, .inr ⟨?_, ?_⟩⟩
      . exact c6 hfr
      . rcases l with ⟨hk', _⟩ | ⟨_, c, hc, hcell⟩
        . rcases kf with q | q <;> rw [q] at hk' <;> cases hk'
        . obtain ⟨c', hc'⟩ := k.k2 x (.inl hfr)
          have : c' = c := by
            rcases k.k1 x c' hc' with this | ⟨_, this⟩
            . rw [hc] at this; exact (Option.some.inj this).symm
            . rw [hfr] at this; cases this
          subst this
          exact ⟨c', hc', hcell⟩
    . cases e2
  . unfold kr; simp
def flt (scope : Scope) (ρ : al) : al := fun x => if scope.names.lookup x = some .free then ρ x else none
theorem iS {scope : Scope} {ρ : al} {x : Str} {y : D × Bool} (h : flt scope ρ x = some y) : ρ x = some y /\ scope.names.lookup x = some .free := by
  unfold flt at h
  split at h
  . rename_i e; exact ⟨h, e⟩
  . cases h
theorem BU {ow : Ow} {H : Hp} {σ : L2.St} {ρ : al} {scope : Scope} {cl : List (Str × Addr)} {C : Addr} {N' : List Str} {s : Shared} {fp : List Addr} {H0 : Hp} (E : aP X ow H σ ρ) (hN : X.N.Nodup)
    (hsub : ∀ x d o, flt scope ρ x = some (d, o) -> x ∈ N') :
    aP (jr X scope cl C N' s H0 fp) ow H (kr X scope N' σ) (flt scope ρ) := by
  refine ⟨fun x d o h => ?_, E.own⟩
  obtain ⟨h1, h2⟩ := iS h
  obtain ⟨i, v, e1, e2, e3, e4⟩ := E.get x d o h1
  have hx : x ∈ N' := hsub x d o h
  have hi : X.N.idxOf x = i := by
    have hm : x ∈ X.N := List.mem_of_getElem? e1
    have hlt := List.idxOf_lt_length_iff.mpr hm
    exact iK hN (by rw [List.getElem?_eq_getElem hlt, List.getElem_idxOf hlt]) e1
  refine ⟨N'.idxOf x, v, ?_, ?_, ?_, e4⟩
  . have hlt := List.idxOf_lt_length_iff.mpr hx
    show N'[N'.idxOf x]? = some x
    rw [List.getElem?_eq_getElem hlt, List.getElem_idxOf hlt]
  . exact .inr (c6 h2)
  . have hlt := List.idxOf_lt_length_iff.mpr hx
    unfold kr
    rw [List.getElem?_map, List.getElem?_eq_getElem hlt, List.getElem_idxOf hlt]
    simp only [Option.map_some]
    rw [if_pos h2, hi, e3]; rfl
end Sp
set_option Elab.async false
set_option linter.all false
set_option maxRecDepth 100000
namespace Sp
open PySem PySem.Spec PyProof.Rows L2
variable {X : Cx}
theorem uE {prog : Program} {w : World} {A : Around} {R : Result -> Shared -> Prop} {s : Shared} {elt target iter : Expr} {ifs : List Expr} {scope : Scope} {pos : Pos} {it acc : Value} {env : Env} (J : Nat -> Shared -> Prop)
    (turn : ∀ n s, J n s -> wpAny (model prog w) A (pyNext it) (fun r s₁ => match r with
      | none => R (.ok .next) s₁
      | some v => wpAny (model prog w) A (letOwnedTupleGo target it v) (fun _ s₁ => wpAny (model prog w) A (assign target env v) (fun _ s₂ =>
          wpAny (model prog w) A (gH ifs env) (fun ok s₃ =>
            if ok = true then wpAny (model prog w) A (eval elt env) (fun x s₄ =>
              wpAny (model prog w) A (call (.builtin "list.append") [acc, x]) (fun _ s₅ => ∃ m, m < n /\ J m s₅) (fun _ _ => False) s₄) (fun _ _ => False) s₃
            else ∃ m, m < n /\ J m s₃) (fun _ _ => False) s₂) (fun _ _ => False) s₁) (fun _ _ => False) s₁) (fun _ _ => False) s)
    (n : Nat) (h : J n s) : codeAny (model prog w) A (.compLoop (.ListComp elt [⟨target, iter, ifs, 0⟩] scope pos) 0 it acc env) R s := by
  refine codeAny_loop rfl J (fun n s hI => ?_) n h
  show wpAny _ A ((compTurn (.ListComp elt [⟨target, iter, ifs, 0⟩] scope pos) 0 it acc env).onRaise (fun x => do noteFrame x env; theTreesLotGoes x)) _ _ s
  refine wpAny_noted ?_
  rw [compTurn_list]
  refine wpAny_bind (wpAny_standAt (wpAny_bind (wpAny_mono (turn n s hI) (fun r s₁ h₁ => ?_) fun _ _ h' => h'.elim)))
  cases r with
  | none => exact wpAny_pure h₁
  | some v =>
    refine wpAny_bind (wpAny_mono h₁ (fun _ s₁' h₁' => ?_) fun _ _ h' => h'.elim)
    refine wpAny_bind (wpAny_mono h₁' (fun _ s₂ h₂ => wpAny_bind (wpAny_mono h₂ (fun ok s₃ h₃ => ?_) fun _ _ h' => h'.elim)) fun _ _ h' => h'.elim)
    cases ok with
    | false => exact wpAny_pure ⟨rfl, h₃⟩
    | true =>
      exact wpAny_bind (wpAny_bind (wpAny_mono h₃ (fun x s₄ h₄ => wpAny_bind (wpAny_mono h₄ (fun _ s₅ h₅ => wpAny_pure (wpAny_pure ⟨rfl, h₅⟩)) fun _ _ h' => h'.elim)) fun _ _ h' => h'.elim))
def jU (X : Cx) (ρ : al) (tg : Expr) (ifs : List Expr) (elt : Expr) (k : Nat) (d : D) (r : Option D) : Prop :=
  ∃ ρ' b, GD X ρ tg d ρ' /\ (∀ x y, ρ x = some y -> ρ' x = some y) /\ uW X ρ' ifs b /\ match r with | some d' => b = true /\ ED X ρ' elt d' k | none => b = false
theorem gW {ow : Ow} {H : Hp} (o : eu ow H) {a : Addr} : ∀ {k : Nat}, k <= 1 -> Kp ow H k a true -> ow a = none
  | 0, _, p => o.free p.2
  | 1, _, p => p rfl
  | _ + 2, h, _ => absurd h (by omega)
theorem yV {ow : Ow} {H H9 : Hp} {D : Addr} {x : HO} (sm : az H H9) (hD : H9 D = some x) {a : Addr} {b : Bool} : ∀ {k : Nat}, k <= 1 -> Kp (fun a => if a = D then some none else ow a) H9 k a b -> Kp ow H k a b /\ (b = true -> a ≠ D)
  | 0, _, p => ⟨⟨p.1, sm.free p.2⟩, fun _ z => by subst z; have := p.2; rw [hD] at this; cases this⟩
  | 1, _, p => by
    have p : b = true -> (if a = D then some none else ow a) = none := p
    refine ⟨fun hb => ?_, fun hb hz => ?_⟩
    . have p := p hb
      by_cases hz : a = D
      . rw [if_pos hz] at p; cases p
      . rw [if_neg hz] at p; exact p
    . have p := p hb
      rw [if_pos hz] at p; cases p
  | _ + 2, h, _ => absurd h (by omega)
theorem ue {ow : Ow} {H : Hp} {D : Addr} (o : eu ow H) (hD : H D = none) : ∀ {k : Nat}, k <= 1 -> Kp ow H k D true
  | 0, _ => ⟨rfl, hD⟩
  | 1, _ => fun _ => o.free hD
  | _ + 2, h => absurd h (by omega)
theorem k9 : ∀ {l : List D} {i : Nat} {d : D}, aA l = true -> l[i]? = some d -> d.lless = true
  | [], _, _, _, h => by simp at h
  | x :: l, 0, d, f, h => by
    rw [aA, Bool.and_eq_true] at f
    simp at h; subst h; exact f.1
  | x :: l, i + 1, d, f, h => by
    rw [aA, Bool.and_eq_true] at f
    exact k9 (i := i) f.2 (by simpa using h)
structure jV (X : Cx) (pins : List (Addr × Obj)) (σ : L2.St) (H5 : Hp) (s6 : Shared) (C : Addr) (m6 : Str -> Option Value) : Prop where
  inv : am X pins σ H5 s6
  ns : s6.heap.Ns C m6
  free : H5 C = none
  loc : C ≠ X.env.locals
  old : X.s₀.heap.objs.size <= C
  cell : ∀ x c, X.env.cells.lookup x = some c -> c ≠ C
  pin : ∀ p ∈ X.pn ++ pins, p.1 ≠ C
  fs : C ∉ X.fs
theorem nq {ow : Ow} {use : Option (Value -> Sem Unit)} {Q' : Value -> Shared -> Prop} {pins : List (Addr × Obj)} {s : Shared} {σ : L2.St} {H : Hp} {ρ : al} {tg elt iter : Expr} {ifs : List Expr} {scope : Scope} {pos pos2 : Pos} {ds : List D} {f : D -> Option D} {k ko : Nat} {N' : List Str}
    (hcalm : X.calm = true) (hN : X.N.Nodup) (hk : aA ds = true \/ k <= 1) (hko : ko <= 1) (hlen : ds.length < sizeLine) (S : gf X.env scope N') (hsub : ∀ x d o, flt scope ρ x = some (d, o) -> x ∈ N')
    (hi : IE X ρ tg iter ds k)
    (turn : ∀ cl C s H fp, ∀ d ∈ ds, jU (jr X scope cl C N' s H fp) (flt scope ρ) tg ifs elt ko d (f d))
    (hs : ∀ x, foldedSetIterable iter X.env x = pure x) (I : am X pins σ H s) (E : aP X ow H σ ρ)
    (fin : ∀ D C s6 H5 m6, jV X pins σ H5 s6 C m6 -> az H H5 -> ak X.K H5 (Kp ow H ko) (.lst (ds.filterMap f)) (.ref D) -> compPost (model X.prog X.w) X.A X.xe use Q' (.ref D) C (.ok .next) s6) :
    wpAny (model X.prog X.w) X.A (comprehension (.ListComp elt [⟨tg, iter, ifs, 0⟩] scope pos) scope X.env pos2 (newList []) false (eval iter X.env) use) Q' X.xe s := by
  obtain ⟨cl, hclos, h1, h2⟩ := qs (env := X.env) (scope := scope) fun n hn => I.ok.has n (S.fr n hn)
  refine wpAny_comprehension_free rfl hs hclos S.kind S.names ?_
  refine aL (hi ow pins s σ H (fun J H1 => az H H1 /\ DA X.K J ds (Kd ow H k H1) H1) I ⟨E, fun J H1 a b => ⟨a, b⟩⟩) fun v s1 h1' => aL h1' fun itv s2 h2' => ?_
  obtain ⟨it, fp, tn, J, H2, rfl, I2, T, st2, f2, s12, itd⟩ := h2'
  have hD2 : H2 s2.heap.objs.size = none := I2.hok.fresh (Nat.le_refl _)
  refine wpAny_newObj_type (sY (fun x c hc => (I2.cell x c (h1 x c hc).1).imp fun v q => q.keeps fun b o e => Heap.get?_push_of_some _ e) fun h₁ hns₁ kp0 k60 => ?_)
  have I3 : am X pins σ (be H2 s2.heap.objs.size (.lst [])) { s2 with heap := s2.heap.push { cls := .type "list", dict := none, data := .seq ([] : List Value).toArray } } :=
    I2.laid (t' := s2.toks) (fun b u e => Heap.get?_push_of_some _ e) (Nat.le_refl _) ⟨Nat.zero_le _, [], 0, .nil, Heap.get?_push_size _ rfl⟩
  generalize hD : s2.heap.objs.size = D at *
  generalize hs3 : ({ s2 with heap := s2.heap.push { cls := .type "list", dict := none, data := .seq ([] : List Value).toArray } } : Shared) = s3 at *
  have hsz3 : s3.heap.objs.size = D + 1 := by rw [<- hs3]; show (s2.heap.push _).objs.size = _; rw [Heap.size_push, hD]
  have f3 : ∀ b ∈ fp, fI X pins (be H2 D (.lst [])) b := fun b hb => by
    obtain ⟨g0, g⟩ := f2 b hb
    obtain ⟨o, e, _⟩ := T.obj _ _ st2 b hb
    have hlt := Heap.lt_size e
    rw [hD] at hlt
    exact ⟨by rw [aG (Nat.ne_of_lt hlt)]; exact g0, g⟩
  have fl3 : ∀ b ∈ fp, b < s3.heap.objs.size := fun b hb => by
    obtain ⟨o, e, _⟩ := T.obj _ _ st2 b hb
    have hlt := Heap.lt_size e
    rw [hD] at hlt
    rw [hsz3]; exact Nat.lt_succ_of_lt hlt
  have kp : ∀ b o, s3.heap.get? b = some o -> h₁.get? b = some o := kp0
  have kc : jW X scope (cellsFrom (s3.heap.objs.size + 1) scope.names cl) s3.heap.objs.size := vV I3 S h1 h2
  generalize hcl' : cellsFrom (s3.heap.objs.size + 1) scope.names cl = cl' at *
  have I4 := Bz (s1 := { s3 with heap := h₁, toks := s3.toks + 0 }) (N' := N') I3 S kc k60 f3 fl3 ⟨_, _, rfl⟩ hns₁ kp
  have sH2 : ∀ vs, az H2 (be H2 D (.lst vs)) := fun vs b o e => by rw [aG (bg e hD2)]; exact e
  let ow' : Ow := fun a => if a = D then some none else ow a
  have ow'D : ow' D = some none := if_pos rfl
  have ow'n : ∀ a, a ≠ D -> ow' a = ow a := fun a h => if_neg h
  have own' : ∀ {H' : Hp} (vs : List V), H' D = some (.lst vs) -> az H2 H' -> eu ow' H' := fun {H'} vs hd sm a ha => by
    by_cases hz : a = D
    . subst hz; exact ⟨_, hd⟩
    . rw [ow'n a hz] at ha
      obtain ⟨o, e⟩ := (E.same s12).own a ha
      exact ⟨o, sm a o e⟩
  have E4 : aP (jr X scope cl' s3.heap.objs.size N' s3 (be H2 D (.lst [])) fp) ow' (be H2 D (.lst [])) (kr X scope N' σ) (flt scope ρ) := by
    have E3 := BU (scope := scope) (cl := cl') (C := s3.heap.objs.size) (N' := N') (s := s3) (fp := fp) (H0 := be H2 D (.lst [])) (E.same s12) hN hsub
    refine ⟨fun x d o h => ?_, own' [] aS (sH2 [])⟩
    obtain ⟨i, v, e1, e2, e3, e4⟩ := E3.get x d o h
    refine ⟨i, v, e1, e2, e3, ak.same (sH2 []) (e4.impH (fun a ob ha p => ?_) fun a p => ?_)⟩
    . have hz : a ≠ D := bg ha hD2
      cases o with
      | true => exact ⟨p.1, (ow'n a hz).trans p.2⟩
      | false => exact fun _ => (ow'n a hz).trans (p rfl)
    . cases o with
      | true => cases p.1
      | false => exact fun z => (by cases z)
  generalize hX' : jr X scope cl' s3.heap.objs.size N' s3 (be H2 D (.lst [])) fp = X' at *
  have turn' : ∀ d ∈ ds, jU X' (flt scope ρ) tg ifs elt ko d (f d) := fun d hd => by rw [<- hX']; exact turn _ _ _ _ _ d hd
  have eK : X'.K = X.K := by rw [<- hX']
  have eP : X'.prog = X.prog := by rw [<- hX']
  have eW : X'.w = X.w := by rw [<- hX']
  have eA : X'.A = X.A := by rw [<- hX']
  have eE : X'.env = compEnvC scope cl' s3.heap.objs.size X.env := by rw [<- hX']
  have eX : X'.xe = fun _ _ => False := by rw [<- hX']
  have eC : X'.calm = true := by rw [<- hX']; exact hcalm
  have stat : ∀ {H' : Hp}, (∀ b ∈ fp, H' b = none) -> ∀ b ∈ fp, fI X' [] H' b := fun hn b hb => by
    rw [<- hX']
    refine ⟨hn b hb, ?_, ?_, .inl hb, fun x c h => (kc.k1 x c h).elim (fun q => (f3 b hb).2.2.2.2.1 x c q) (fun q z => by subst z; exact absurd (Nat.lt_trans q.1 (fl3 _ hb)) (Nat.lt_irrefl _)), fun p hp => absurd (show p ∈ ([] : List (Addr × Obj)) from hp) (by simp)⟩
    . show b ≠ s3.heap.objs.size
      exact Nat.ne_of_lt (fl3 b hb)
    . intro z
      rcases List.mem_cons.mp (I3.stkSub b z) with q | q
      . exact (f3 b hb).2.1 q
      . exact (f3 b hb).2.2.1 q
  let Pe : bw := fun a b => Kp ow H ko a b /\ (b = true -> a ≠ D)
  have loop : codeAny (model X.prog X.w) X.A (.compLoop (.ListComp elt [⟨tg, iter, ifs, 0⟩] scope pos) 0 (.ref it) (.ref D) (compEnvC scope cl' s3.heap.objs.size X.env)) (compPost (model X.prog X.w) X.A X.xe use Q' (.ref D) s3.heap.objs.size) { s3 with heap := h₁, toks := s3.toks + 0 } := by
    refine uE (fun n s' => ∃ (i : Nat) (σ' : L2.St) (H' : Hp) (vs : List V), am X' [] σ' H' s' /\ tn i s'.heap /\ (∀ b ∈ fp, H' b = none) /\ aP X' ow' H' σ' (flt scope ρ) /\ H' D = some (.lst vs) /\ az H2 H' /\
      ao X.K H' Pe ((ds.take i).filterMap f) vs /\ i <= ds.length /\ n = ds.length - i) ?_ ds.length
      ⟨0, kr X scope N' σ, be H2 D (.lst []), [], I4, ?_, fun b hb => (f3 b hb).1, E4, aS, sH2 [], ?_, Nat.zero_le _, rfl⟩
    . rintro n s5 ⟨i, σ5, H5, vs, I5, st5, fr5, E5, hD5, sm5, rp5, hi5, rfl⟩
      have stay : eo (Kd ow H k H2) (Kd ow H k H2) H2 H5 := .same sm5 fun _ _ p => p
      have itd5 := itd i H5 stay
      by_cases hlt : i < ds.length
      . obtain ⟨go, yl⟩ := itd5.1 ds[i] (by simp [hlt])
        have Ti := T.item X' eP eW eK eC i [] s5 σ5 H5 (fun _ _ => False) I5 (stat fr5) st5 go
        rw [eA] at Ti
        refine aL Ti fun r s6 ⟨u, hr, h6⟩ => ?_
        subst hr
        refine aL h6 fun _ s7 ⟨x, H7, I7, r7, y7, st7, fr7⟩ => ?_
        obtain ⟨sm7, rx7⟩ := yl x H7 y7
        obtain ⟨ρ', b, ⟨g, hg, hgd⟩, hext, hts, hel⟩ := turn' ds[i] (List.getElem_mem hlt)
        have rx7' : ak X'.K H7 (fun a b => b = true -> ow' a = none) ds[i] x := by
          rw [eK]
          rcases hk with hk | hk
          . exact rx7.flat _ (k9 hk (List.getElem?_eq_getElem hlt))
          refine rx7.impH (fun a o ha p _ => ?_) fun a _ z => (by cases z)
          obtain ⟨p, p2⟩ := p
          obtain ⟨o2, ho2⟩ := p2 rfl
          show ow' a = none
          rw [ow'n a (bg ho2 hD2)]
          exact gW E.own hk p
        have E7 := E5.same sm7
        have I7' := I7.pinned (stat fr7) (T.obj _ _ st7)
        have hg' := hg _ s7 σ5 H7 x u (fun σ' H' => aP X' ow' H' σ' ρ' /\ H7 = H') I7' r7 (hgd ow' x σ5 H7 _ I7.len E7 rx7' fun σ' _ e => ⟨e, rfl⟩)
        rw [eP, eW, eA, eE, eX] at hg'
        refine aL hg' fun _ s8 ⟨σ8, H8, I8, E8, eH8⟩ => ?_
        subst eH8
        have ht' := hts ow' _ s8 σ8 H7 (fun c H' => c = b /\ az H7 H') I8 ⟨E8, fun H' sm => ⟨rfl, sm⟩⟩
        rw [eP, eW, eA, eE, eX] at ht'
        refine aL ht' fun c s9 ⟨H9, I9, ec, sm9⟩ => ?_
        subst ec
        have back : ∀ {H' : Hp} {σ' : L2.St} {s' : Shared}, am X' ([] ++ jl fp s7.heap) σ' H' s' -> am X' [] σ' H' s' /\ tn (i + 1) s'.heap /\ ∀ b ∈ fp, H' b = none := fun {H' σ' s'} J7 => by
          refine ⟨J7.unpinned, T.keep _ _ _ st7 fun b hb o e => (J7.pin (b, o) (List.mem_append_right _ (List.mem_append_right _ (gk hb e)))).1, fun b hb => ?_⟩
          obtain ⟨o, e, d⟩ := T.obj _ _ st7 b hb
          exact (J7.pin (b, o) (List.mem_append_right _ (List.mem_append_right _ (gk hb e)))).2.1
        have envf : ∀ {H' : Hp} {σ' : L2.St}, aP X' ow' H' σ' ρ' -> aP X' ow' H' σ' (flt scope ρ) := fun {H' σ'} e => ⟨fun x d o h => e.get x d o (hext x _ h), e.own⟩
        have tk : (ds.take (i + 1)).filterMap f = (ds.take i).filterMap f ++ (f ds[i]).toList := by
          rw [List.take_add_one]
          simp only [List.getElem?_eq_getElem hlt, Option.toList_some, List.filterMap_append]
          congr 1
        have sm59 : az H5 H9 := sm7.trans sm9
        cases hc : c with
        | false =>
          rw [if_neg Bool.false_ne_true]
          subst hc
          obtain ⟨I9', st9, fr9⟩ := back I9
          have fn : f ds[i] = none := by
            cases hf : f ds[i] with
            | none => rfl
            | some d' => rw [hf] at hel; cases hel.1
          refine ⟨ds.length - (i + 1), by omega, i + 1, σ8, H9, vs, I9', st9, fr9, envf (E8.same sm9), sm59 _ _ hD5, sm5.trans sm59, ?_, hlt, rfl⟩
          rw [tk, fn, Option.toList_none, List.append_nil]
          exact rp5.same sm59
        | true =>
          rw [if_pos rfl]
          subst hc
          obtain ⟨d', fs, hed⟩ : ∃ d', f ds[i] = some d' /\ ED X' ρ' elt d' ko := by
            cases hf : f ds[i] with
            | none => rw [hf] at hel; cases hel
            | some d' => rw [hf] at hel; exact ⟨d', rfl, hel.2⟩
          have he' := hed ow' _ s9 σ8 H9 (fun v H' => az H9 H' /\ ak X'.K H' (Kp ow' H9 ko) d' v) I9 ⟨E8.same sm9, fun v H' a r => ⟨a, r⟩⟩
          rw [eP, eW, eA, eE, eX] at he'
          refine aL he' fun y s10 ⟨v10, H10, I10, r10, sm10, rp10⟩ => ?_
          have sm510 := sm59.trans sm10
          have hD10 := sm510 _ _ hD5
          have hlv : vs.length < sizeLine := by
            rw [<- rp5.length]
            refine Nat.lt_of_le_of_lt (List.length_filterMap_le _ _) ?_
            rw [List.length_take]; omega
          have ha' := na (X := X') _ s10 σ8 H10 (.ref D) [v10] (.ref D) [y] (fun w H' => be H10 D (.lst (vs ++ [v10])) = H') I10 rfl (.cons r10 .nil) ⟨D, vs, v10, rfl, rfl, hD10, hlv, rfl⟩
          rw [eP, eW, eA, eX] at ha'
          refine aL ha' fun _ s11 ⟨w11, H11, I11, _, eH11⟩ => ?_
          subst eH11
          obtain ⟨I11', st11, fr11⟩ := back I11
          have s2D : ∀ a o, H2 a = some o -> a ≠ D := fun a o e => bg e hD2
          have stD : eo Pe Pe H10 (be H10 D (.lst (vs ++ [v10]))) := ⟨fun a o h hn => by rw [aG (fun z => by subst z; rw [hD10] at h; cases h; exact hn _ rfl)]; exact h, fun a ws h p => by rw [aG (p.2 rfl)]; exact h, fun _ _ _ p => p, fun _ p => p⟩
          refine ⟨ds.length - (i + 1), by omega, i + 1, σ8, _, vs ++ [v10], I11', st11, fr11, ?_, aS, ?_, ?_, hlt, rfl⟩
          . have E10 := envf ((E8.same sm9).same sm10)
            refine ⟨fun x d o h => ?_, own' _ aS (fun a o e => by rw [aG (s2D a o e)]; exact (sm5.trans sm510) a o e)⟩
            obtain ⟨i', v', e1, e2, e3, e4⟩ := E10.get x d o h
            refine ⟨i', v', e1, e2, e3, e4.mono ⟨fun a o h hn => by rw [aG (fun z => by subst z; rw [hD10] at h; cases h; exact hn _ rfl)]; exact h, fun a ws h p => ?_, fun _ _ _ p => p, fun _ p => p⟩⟩
            have hz : a ≠ D := by
              intro z; subst z
              cases o with
              | true => have := p.2; rw [ow'D] at this; cases this
              | false => have : ow' a = none := p rfl; rw [ow'D] at this; cases this
            rw [aG hz]; exact h
          . intro a o e
            rw [aG (s2D a o e)]
            exact (sm5.trans sm510) a o e
          . rw [tk, fs, Option.toList_some]
            refine ((rp5.same sm510).mono stD).append (ao.one (ak.mono stD ?_))
            rw [eK] at rp10
            have sH9 : az H H9 := s12.trans (sm5.trans sm59)
            exact rp10.imp fun a b p => yV sH9 (sm59 _ _ hD5) hko p
      . have hstop := itd5.2 (by omega)
        have Td := T.done X' eP eW eK eC i [] s5 σ5 H5 (fun _ _ => False) I5 (stat fr5) st5 hstop
        rw [eA] at Td
        refine aL Td fun r s6 ⟨hr, I6⟩ => ?_
        subst hr
        have ei : i = ds.length := by omega
        subst ei
        rw [List.take_length] at rp5
        have hC : X'.env.locals = s3.heap.objs.size := by rw [eE]; rfl
        obtain ⟨m6, hn6, _⟩ := I6.loc
        rw [hC] at hn6
        have hfree : H5 s3.heap.objs.size = none := by have := I6.free; rw [hC] at this; exact this
        have IX : am X pins σ H5 s6 := by
          have b6 := I6.base
          have o6 := I6.os
          have k6 := I6.hok
          have g6 := I6.bare
          rw [<- hX'] at b6 o6 k6
          exact I3.call' o6 b6 k6 g6 fun b hb => ⟨(f3 b hb).2.2.2.1, (f3 b hb).2.1, (f3 b hb).2.2.2.2.1, (f3 b hb).2.2.2.2.2⟩
        have hHD : H D = none := s12.free hD2
        refine fin D _ s6 H5 m6 ⟨IX, hn6, hfree, Nat.ne_of_gt I3.lt, I3.sz, fun x c hc z => ?_, fun p hp z => ?_, I3.nofs (Nat.le_refl _)⟩ (s12.trans sm5) ?_
        . obtain ⟨v, hv⟩ := I3.cell x c hc
          have := hv.lt
          rw [z] at this; exact absurd this (Nat.lt_irrefl _)
        . have := Heap.lt_size (I3.pin p hp).1
          rw [z] at this; exact absurd this (Nat.lt_irrefl _)
        . rw [ak]
          exact ⟨D, vs, true, rfl, hD5, ue E.own hHD hko, rp5.imp fun _ _ p => p.1⟩
    . exact T.keep 0 s2.heap h₁ st2 fun b hb o e => kp b o (by rw [<- hs3]; exact Heap.get?_push_of_some _ e)
    . exact ao.nil
  exact codeAny_compStart_list loop (T.self _ 0 _ _ _ (T.keep 0 s2.heap h₁ st2 fun b hb o e => kp b o (by rw [<- hs3]; exact Heap.get?_push_of_some _ e)) loop)
theorem jV.done {pins : List (Addr × Obj)} {σ : L2.St} {H5 : Hp} {s6 : Shared} {C : Addr} {m6 : Str -> Option Value} (e : jV X pins σ H5 s6 C m6) {h' : Heap} (sb : Heap.SameBut C s6.heap h') : am X pins σ H5 { s6 with heap := h' } :=
  e.inv.turned (t' := s6.toks) (it := C) (fun b o hb e => sb.extBut b o hb e) e.free e.loc (.inr e.old) e.cell e.pin
theorem zm {ρ : al} {tg elt iter : Expr} {ifs : List Expr} {scope : Scope} {pos : Pos} {ds : List D} {f : D -> Option D} {k ko : Nat} {N' : List Str}
    (hcalm : X.calm = true) (hN : X.N.Nodup) (hk : aA ds = true \/ k <= 1) (hko : ko <= 1) (hlen : ds.length < sizeLine) (S : gf X.env scope N') (hsub : ∀ x d o, flt scope ρ x = some (d, o) -> x ∈ N')
    (hi : IE X ρ tg iter ds k)
    (turn : ∀ cl C s H fp, ∀ d ∈ ds, jU (jr X scope cl C N' s H fp) (flt scope ρ) tg ifs elt ko d (f d))
    (hs : ∀ x, foldedSetIterable iter X.env x = pure x := by intro _; rfl) :
    ED X ρ (.ListComp elt [⟨tg, iter, ifs, 0⟩] scope pos) (.lst (ds.filterMap f)) ko := by
  intro ow pins s σ H Q I ⟨E, q⟩
  rw [eval_ListComp]
  refine nq hcalm hN hk hko hlen S hsub hi turn hs I E fun D C s6 H5 m6 ce sm rp => ?_
  exact ⟨m6, ce.ns, fun h' sb => ⟨.ref D, H5, ce.done sb, rfl, q (.ref D) H5 sm rp⟩⟩
theorem yo {D0 : i5} {ow : Ow} {x : Str} {px spos : Pos} {pins : List (Addr × Obj)} {s : Shared} {σ : L2.St} {H : Hp} {ρ : al} {tg elt iter : Expr} {ifs : List Expr} {scope : Scope} {pos : Pos} {ds : List D} {f : D -> Option D} {k ko : Nat} {N' : List Str} {i : Nat}
    (hcalm : X.calm = true) (hN : X.N.Nodup) (hk : aA ds = true \/ k <= 1) (hko : ko <= 1) (hlen : ds.length < sizeLine) (S : gf X.env scope N') (hsub : ∀ x d o, flt scope ρ x = some (d, o) -> x ∈ N')
    (hi : IE X ρ tg iter ds k)
    (turn : ∀ cl C s H fp, ∀ d ∈ ds, jU (jr X scope cl C N' s H fp) (flt scope ρ) tg ifs elt ko d (f d))
    (hs : ∀ x, foldedSetIterable iter X.env x = pure x) (I : am X pins σ H s) (E : aP X ow H σ ρ)
    (hsw : swapsWith (.ListComp elt [⟨tg, iter, ifs, 0⟩] scope pos) (some (.Name x px)) spos.line X.env = pure true)
    (hx : X.N[i]? = some x) (hl : rG X.env.scope x) (hf : X.fn x = true \/ X.env.scope.names.lookup x = some .local)
    (q : ∀ v H', az H H' -> ak X.K H' (Kp ow H ko) (.lst (ds.filterMap f)) v -> D0.nx (σ.set i (some v)) H') :
    wpAny (model X.prog X.w) X.A (exec (.Assign [.Name x px] (.ListComp elt [⟨tg, iter, ifs, 0⟩] scope pos) spos) X.env) (SP X pins D0) X.xe s := by
  rw [exec_Assign_Name_used _ _ _ _ hsw]
  refine wpAny_bind (wpAny_standAt (wpAny_bind ?_))
  show wpAny _ X.A (do let _ <- comprehension (.ListComp elt [⟨tg, iter, ifs, 0⟩] scope pos) scope X.env _ (newList []) false (eval iter X.env) (some (assign (.Name x px) X.env))) _ _ s
  refine wpAny_bind (wpAny_mono (nq (use := some (assign (.Name x px) X.env)) (Q' := fun _ s' => SP X pins D0 .next s') hcalm hN hk hko hlen S hsub hi turn hs I E fun D C s6 H5 m6 ce sm rp => ?_) (fun _ s' hq => wpAny_pure (wpAny_pure hq)) fun _ _ e => e)
  obtain ⟨o, es, ep, ho, hd, hrest⟩ := id ce.ns
  have Ip : am X (pins ++ [(C, o)]) σ H5 s6 := ce.inv.pins_of fun p hp => by
    rcases List.mem_append.mp hp with z | z
    . exact ce.inv.pin p (List.mem_append_right _ z)
    . have e : p = (C, o) := by simpa using z
      subst e
      exact ⟨ho, ce.free, ce.loc, ce.fs, fun v z => by rw [hd] at z; cases z⟩
  show wpAny _ X.A (assign (.Name x px) X.env (.ref D)) _ _ _
  refine aL (iq (i := i) hN hx hl hf (pins ++ [(C, o)]) s6 σ H5 (.ref D) (.ref D) (fun σ' H' => σ.set i (some (.ref D)) = σ' /\ H5 = H') Ip rfl ⟨rfl, rfl⟩) fun _ s7 ⟨σ7, H7, I7, e1, e2⟩ => ?_
  subst e1 e2
  have pC := (I7.pin (C, o) (List.mem_append_right _ (List.mem_append_right _ (by simp)))).1
  refine ⟨m6, ⟨o, es, ep, pC, hd, hrest⟩, fun h' sb => ?_⟩
  have ce' : jV X pins (σ.set i (some (.ref D))) H5 s7 C m6 := ⟨I7.unpinned, ⟨o, es, ep, pC, hd, hrest⟩, ce.free, ce.loc, ce.old, ce.cell, ce.pin, ce.fs⟩
  exact ⟨_, H5, ce'.done sb, q (.ref D) H5 sm rp⟩
end Sp
set_option Elab.async false
set_option linter.all false
set_option maxRecDepth 100000
namespace Sp
open PySem PySem.Spec PyProof.Rows L2
mutual
def D.py : D -> PyData
  | .non => .none
  | .bl b => .bool b
  | .int i => .int i
  | .str x => .str x
  | .emp => .dict []
  | .typ _ => .dict []
  | .sn _ => .dict []
  | .obj _ _ _ => .dict []
  | .cls _ => .dict []
  | .xc _ _ => .dict []
  | .tup l => .tuple (mY l)
  | .lst l => .list (mY l)
def mY : List D -> List PyData
  | [] => []
  | d :: l => d.py :: mY l
end
inductive Rs (α : Type) where
  | ok (a : α) (l : List Prop)
  | st
def aF : List Prop -> Prop
  | [] => True
  | p :: l => p /\ aF l
def Rs.bnd {α β : Type} (r : Rs α) (f : α -> Rs β) : Rs β :=
  match r with
  | .st => .st
  | .ok a l => match f a with
    | .st => .st
    | .ok b m => .ok b (l ++ m)
def Ff {α : Type} : Option α -> Rs α
  | some a => .ok a []
  | none => .st
def gd (b : Bool) : List Prop -> List Prop
  | [] => []
  | m => [b = true -> aF m]
abbrev R1 := Rs (D × Nat)
def mk (d : D) (k : Nat) : R1 := .ok (d, kn d k) []
structure Fx where
  fn : Str -> Option (List D -> Rs D)
  con : Str -> Option D
  blt : Str -> Option (List D -> R1)
  itr : Str -> Option (List D -> Nat -> R1)
  mth : Str -> Option (D -> List D -> R1)
  mtt : Str -> Option (List D -> List D -> Nat -> Rs (List D))
  slf : D -> Option Int -> Option Int -> R1 := fun _ _ _ => .st
  fld : Str -> Str -> Bool := fun _ _ => false
  omt : Str -> Str -> Option (List D -> Rs D) := fun _ _ => none
def xu : Const -> Option D
  | .none => some .non
  | .bool b => some (.bl b)
  | .int i => some (.int i)
  | .str x => some (.str x)
  | _ => none
def cu : Nat := 2 ^ 9000
def cg (a b : Int) : Prop := a.natAbs < 2 ^ 64 \/ b.natAbs < 2 ^ 64 \/ (a.natAbs < cu /\ b.natAbs < cu) \/ (Builtin.Int.intBits a <= 2 ^ 22 /\ Builtin.Int.intBits b <= 2 ^ 22)
def fM (b : Int) : Prop := b ≠ 0 /\ b.natAbs < cu
def rW (a b : Int) : Prop := 0 <= b /\ b <= 1000 /\ a.natAbs < 2 ^ 64
def cP : Nat := 4000
def v0 (op : Operator) (a b : Int) : R1 :=
  match op with
  | .Add => .ok (.int (a + b), 0) []
  | .Sub => .ok (.int (a - b), 0) []
  | .Mult => .ok (.int (a * b), 0) [cg a b]
  | .FloorDiv => .ok (.int (a.fdiv b), 0) [fM b]
  | .Mod => .ok (.int (a.fmod b), 0) [b ≠ 0]
  | .Pow => .ok (.int (a ^ b.toNat), 0) [rW a b]
  | _ => .st
def sv : Operator -> Bool
  | .Add => true
  | _ => false
def sI (op : Operator) (x y : D) (k j : Nat) : R1 :=
  match x, y with
  | .int a, .int b => v0 op a b
  | .tup a, .tup b => if sv op = true then .ok (.tup (a ++ b), kn (.tup (a ++ b)) (kj k j)) [a.length + b.length <= cP] else .st
  | .lst a, .lst b => if sv op = true then .ok (.lst (a ++ b), 0) [aA (a ++ b) = true, a.length + b.length <= cP] else .st
  | _, _ => .st
def wD (op : UnaryOp) (x : D) : Option D :=
  match op, x with
  | .USub, .int a => some (.int (-a))
  | .Not, .bl b => some (.bl (!b))
  | _, _ => none
def pH (x y : D) : Bool := SeqAt.shaped x.py && SeqAt.shaped y.py
def eqD (x y : D) : Bool := PyData.eqv x.py y.py
def dg : List D -> Option (List Int)
  | [] => some []
  | .int i :: l => (dg l).map (i :: ·)
  | _ :: _ => none
def memD (x : D) (l : List D) : Rs Bool := .ok (l.any fun y => eqD y x) [pH (.tup l) x = true]
def D.isNon : D -> Bool
  | .non => true
  | _ => false
def fK : D -> Option (List D)
  | .tup l => some l
  | .lst l => some l
  | _ => none
def fE (op : CmpOp) (a b : Int) : Option Bool :=
  match op with
  | .Lt => some (decide (a < b))
  | .LtE => some (decide (a <= b))
  | .Gt => some (decide (b < a))
  | .GtE => some (decide (b <= a))
  | _ => none
def r8 (op : CmpOp) (x y : D) : Option Bool :=
  match x, y with
  | .int a, .int b => fE op a b
  | _, _ => none
def Rs.nt : Rs Bool -> Rs Bool
  | .ok b l => .ok (!b) l
  | .st => .st
def jw (op : CmpOp) (x y : D) : Rs Bool :=
  match op with
  | .Eq => .ok (eqD x y) [pH x y = true]
  | .NotEq => .ok (!eqD x y) [pH x y = true]
  | .Is => (match y with | .non => .ok x.isNon [] | .bl c => (match x with | .bl b => .ok (b == c) [] | _ => .st) | _ => .st)
  | .IsNot => (match y with | .non => .ok (!x.isNon) [] | .bl c => (match x with | .bl b => .ok (!(b == c)) [] | _ => .st) | _ => .st)
  | op => Ff (r8 op x y)
def D.ty0 : D -> Option String
  | .non => some "NoneType"
  | .bl _ => some "bool"
  | .int _ => some "int"
  | .str _ => some "str"
  | .emp => some "dict"
  | .tup _ => some "tuple"
  | .lst _ => some "list"
  | _ => none
def By (x : D) (T : String) : Option Bool := x.ty0.map fun a => decide (a = T) || decide (a = "bool" /\ T = "int")
def rJ (x : Str) : Option String :=
  if x = "int" then some "int" else if x = "bool" then some "bool" else if x = "str" then some "str" else if x = "tuple" then some "tuple" else if x = "list" then some "list" else if x = "ValueError" then some "ValueError" else none
def cT : List D -> Option (List Bool)
  | [] => some []
  | .bl i :: l => (cT l).map (i :: ·)
  | _ :: _ => none
def gc : List Str := ["len", "tuple", "list", "abs", "all", "sum", "isinstance", "set", "int", "bool", "str", "range", "zip", "enumerate", "any", "sorted", "min", "max", "reversed", "ValueError"]
def iw : Expr -> Bool
  | .Tuple .. => true
  | _ => false
def fy (e tg : Expr) : Bool :=
  match e with
  | .Call (.Name f _) _ _ _ => if f = "enumerate" \/ f = "zip" then iw tg else true
  | _ => true
def items : D -> Option (List D)
  | .lst l => some l
  | .tup l => some l
  | _ => none
def ck (ρ : al) (x : Str) (y : D × Bool) : al := fun z => if z = x then some y else ρ z
def dC (sc : Scope) (x : Str) : Bool := sc.names.lookup x == some .local || sc.names.lookup x == some .cell
def aR (sc : Scope) : List Expr -> List D -> al -> Option al
  | [], [], ρ => some ρ
  | .Name x _ :: es, d :: ds, ρ => if dC sc x = true then aR sc es ds (ck ρ x (d, false)) else none
  | _, _, _ => none
def b8 (sc : Scope) (tg : Expr) (d : D) (ρ : al) : Option al :=
  match tg with
  | .Name x _ => if dC sc x = true then some (ck ρ x (d, false)) else none
  | .Tuple es _ _ => (match d with | .tup ds => aR sc es ds ρ | _ => none)
  | _ => none
def nu (sc scope : Scope) : Bool :=
  decide (scope.kind = .function) && scope.names.all (fun y => decide (y.2 ≠ .local) || decide (scope.names.lookup y.1 = some .local)) &&
  scope.names.all (fun y => decide (y.2 ≠ .free) || dC sc y.1 && decide (sc.names.lookup y.1 = some .cell) || decide (sc.names.lookup y.1 = some .free)) && decide ((scope.names.map (·.1)).Nodup)
def gp (step : D -> Rs (Option (D × Nat))) : List D -> Rs (List D × Nat)
  | [] => .ok ([], 0) []
  | d :: l => (step d).bnd fun r => (gp step l).bnd fun q => match r with
    | none => .ok q []
    | some p => .ok (p.1 :: q.1, kj p.2 q.2) []
def lh (x : D) (i : Int) (k : Nat) : R1 :=
  match fK x with
  | some l => (match atI l i with | some d => mk d k | none => .st)
  | none => .st
def mE (l : List D) (lo hi : Option Int) : List D := (l.drop (HT.sIx l.length 0 lo)).take (HT.sIx l.length l.length hi - HT.sIx l.length 0 lo)
def B6 (l : List D) (lo hi : Option Int) : Bool := !(decide (HT.sIx l.length 0 lo = 0) && decide (HT.sIx l.length l.length hi = l.length))
def aQ (x : D) (lo hi : Option Int) : R1 :=
  match x with
  | .tup l => .ok (.tup (mE l lo hi), 0) [aA l = true, B6 l lo hi = true]
  | .lst l => .ok (.lst (mE l lo hi), 0) [aA l = true]
  | _ => .st
def ff (x : Str) : Bool := decide ((x == ("__debug__" : Str)) = false) && decide ((x == ("__classdict__" : Str)) = false)
def sL (b : Bool) (r : Rs Bool) : Rs Bool :=
  match r with
  | .ok c m => .ok (b && c) (gd b m)
  | .st => match b with | false => .ok false [] | true => .st
def wV (b : Bool) (r : Rs Bool) : Rs Bool :=
  match r with
  | .ok c m => .ok (b || c) (gd (!b) m)
  | .st => match b with | true => .ok true [] | false => .st
mutual
def mi (b : Bool) : D -> D -> D
  | .int x, .int y => .int (cond b x y)
  | .bl x, .bl y => .bl (cond b x y)
  | .tup x, .tup y => if x.length = y.length then .tup (jo b x y) else cond b (.tup x) (.tup y)
  | x, y => cond b x y
def jo (b : Bool) : List D -> List D -> List D
  | x :: l, y :: m => mi b x y :: jo b l m
  | l, m => cond b l m
end
def ug (t : Bool) (k j : Nat) : Nat := if k = j then k else cond t k j
def xl (b : Bool) (r s : R1) : R1 :=
  match r with
  | .st => (match b with | true => .st | false => s)
  | .ok p m => match s with
    | .st => (match b with | true => .ok p m | false => .st)
    | .ok q n => .ok (mi b p.1 q.1, ug b p.2 q.2) (gd b m ++ gd (!b) n)
def iN (Φ : Fx) (x : Str) (sc : Scope) (ρ : al) : R1 :=
  if ff x = true then
    (if sc.names.lookup x = some .globalImplicit then (match Φ.con x with | some d => .ok (d, 0) [] | none => match rJ x with | some T => .ok (.typ T, 0) [] | none => .st)
    else match ρ x with
      | some p => mk p.1 (cond p.2 2 1)
      | none => .st)
  else .st
def lE (Φ : Fx) (f : Str) (it : Bool) (ds : List D) (k : Nat) : R1 :=
  match Φ.fn f with
  | some F => (F ds).bnd fun d => .ok (d, 0) []
  | none => match (if it = true then Φ.itr f else none) with
    | some B => B ds k
    | none => match Φ.blt f with
      | some B => B ds
      | none => .st
def iP (p : D × Nat) (f : Int -> R1) : R1 :=
  match p.1 with
  | .int j => f j
  | _ => .st
def gY {α : Type} (p : D × Nat) (f : Bool -> Rs α) : Rs α :=
  match p.1 with
  | .bl j => f j
  | _ => .st
def BJ (Φ : Fx) (x : D) (f : Str) : R1 :=
  match x with
  | .obj n ns ds => if Φ.fld n f = true then (match (ns.zip ds).lookup f with | some d => .ok (d, 0) [] | none => .st) else .st
  | _ => .st
def gL : Expr -> Bool
  | .Call (.Name _ _) [] [] _ => false
  | _ => true
def sh (Φ : Fx) (a : Expr) (m : Str) (x : D) (ds : List D) : R1 :=
  match x with
  | .obj n ns es => if ns.contains m = false /\ gL a = true /\ ds.length < 29 then (match Φ.omt n m with | some F => (F (.obj n ns es :: ds)).bnd fun d => .ok (d, 0) [] | none => .st) else .st
  | x => if gL a = true then (match Φ.mth m with | some M => M x ds | none => .st) else .st
def B8 (op op2 : CmpOp) (x y z : D) : R1 :=
  match x, y, z with
  | .int a, .int b, .int c => (match fE op a b, fE op2 b c with | some r, some r2 => .ok (.bl (r && r2), 0) [] | _, _ => .st)
  | _, _, _ => .st
mutual
def aC (Φ : Fx) : Expr -> Bool -> Scope -> al -> R1
  | .Constant c _ _, _, _, _ => (match xu c with | some d => .ok (d, 0) [] | none => .st)
  | .Name x _, _, sc, ρ => iN Φ x sc ρ
  | .BinOp a op b _, _, sc, ρ => (aC Φ a false sc ρ).bnd fun p => (aC Φ b false sc ρ).bnd fun q => sI op p.1 q.1 p.2 q.2
  | .UnaryOp op a _, _, sc, ρ => (aC Φ a false sc ρ).bnd fun p => (match wD op p.1 with | some d => .ok (d, 0) [] | none => .st)
  | .BoolOp op es _, _, sc, ρ => if es.isEmpty = true then .st else (dN Φ op es sc ρ).bnd fun b => .ok (.bl b, 0) []
  | .Compare a [op] [b] _, _, sc, ρ => (aC Φ a false sc ρ).bnd fun p => (aC Φ b false sc ρ).bnd fun q => (jw op p.1 q.1).bnd fun r => .ok (.bl r, 0) []
  | .Compare a [op, op2] [b, c] _, _, sc, ρ => (aC Φ a false sc ρ).bnd fun p => (aC Φ b false sc ρ).bnd fun q => (aC Φ c false sc ρ).bnd fun t => B8 op op2 p.1 q.1 t.1
  | .IfExp c a b _, _, sc, ρ => (aC Φ c false sc ρ).bnd fun p => gY p fun t => xl t (aC Φ a false sc ρ) (aC Φ b false sc ρ)
  | .Tuple es _ _, _, sc, ρ => (bW Φ es sc ρ).bnd fun p => if p.1.length <= cP then mk (.tup p.1) p.2 else .st
  | .List es _, _, sc, ρ => (bW Φ es sc ρ).bnd fun p => if p.1.length <= cP /\ p.2 <= 1 then .ok (.lst p.1, p.2) [] else .st
  | .Subscript a (.Slice lo hi none _) _, _, sc, ρ => (aC Φ a false sc ρ).bnd fun p => (nl Φ lo sc ρ).bnd fun l => (nl Φ hi sc ρ).bnd fun h => Φ.slf p.1 l h
  | .Subscript a i _, _, sc, ρ => (aC Φ a false sc ρ).bnd fun p => (aC Φ i false sc ρ).bnd fun q => iP q fun j => lh p.1 j p.2
  | .Call (.Name f _) args [] _, it, sc, ρ =>
    if sc.names.lookup f = some .globalImplicit then (bW Φ args sc ρ).bnd fun p => lE Φ f it p.1 p.2
    else .st
  | .Attribute (.Name x _) f _, _, sc, ρ => (iN Φ x sc ρ).bnd fun p => BJ Φ p.1 f
  | .Call (.Attribute a m ap) args [] cp, _, sc, ρ => if (ap.endLine == cp.line) = true then (aC Φ a false sc ρ).bnd fun p => (bW Φ args sc ρ).bnd fun q => sh Φ a m p.1 q.1 else .st
  | .ListComp elt [⟨tg, iter, ifs, 0⟩] scope _, _, sc, ρ =>
    if nu sc scope = true then (aC Φ iter true sc ρ).bnd fun p => (match items p.1 with
      | some ds => if fy iter tg = true then
          (Rs.ok () [ds.length <= cP, aA ds = true \/ p.2 <= 1]).bnd fun _ => (gp (fun d => match b8 scope tg d (flt scope ρ) with
            | none => .st
            | some ρ' => (dN Φ .And ifs scope ρ').bnd fun b => cond b ((aC Φ elt false scope ρ').bnd fun r => .ok (some r) []) (.ok none [])) ds).bnd fun q => if q.2 <= 1 then .ok (.lst q.1, q.2) [] else .st
        else .st
      | none => .st)
    else .st
  | _, _, _, _ => .st
def bW (Φ : Fx) : List Expr -> Scope -> al -> Rs (List D × Nat)
  | [], _, _ => .ok ([], 0) []
  | e :: es, sc, ρ => (aC Φ e false sc ρ).bnd fun p => (bW Φ es sc ρ).bnd fun q => .ok (p.1 :: q.1, kj p.2 q.2) []
def dN (Φ : Fx) : BoolOp -> List Expr -> Scope -> al -> Rs Bool
  | .And, [], _, _ => .ok true []
  | .Or, [], _, _ => .ok false []
  | .And, e :: es, sc, ρ => (aC Φ e false sc ρ).bnd fun p => gY p fun b => sL b (dN Φ .And es sc ρ)
  | .Or, e :: es, sc, ρ => (aC Φ e false sc ρ).bnd fun p => gY p fun b => wV b (dN Φ .Or es sc ρ)
def nl (Φ : Fx) : Option Expr -> Scope -> al -> Rs (Option Int)
  | none, _, _ => .ok none []
  | some e, sc, ρ => (aC Φ e false sc ρ).bnd fun p => (match p.1 with | .int i => .ok (some i) [] | _ => .st)
end
theorem mD {Φ : Fx} {op : BoolOp} {es : List Expr} {p : Pos} {it : Bool} {sc : Scope} {ρ : al} : aC Φ (.BoolOp op es p) it sc ρ = (if es.isEmpty = true then .st else (dN Φ op es sc ρ).bnd fun b => .ok (.bl b, 0) []) := rfl
theorem kA {Φ : Fx} {f : Str} {args : List Expr} {p q : Pos} {it : Bool} {sc : Scope} {ρ : al} : aC Φ (.Call (.Name f p) args [] q) it sc ρ = (if sc.names.lookup f = some .globalImplicit then (bW Φ args sc ρ).bnd fun p => lE Φ f it p.1 p.2 else .st) := rfl
theorem kB {Φ : Fx} {a : Expr} {m : Str} {args : List Expr} {ap cp : Pos} {it : Bool} {sc : Scope} {ρ : al} : aC Φ (.Call (.Attribute a m ap) args [] cp) it sc ρ = (if (ap.endLine == cp.line) = true then (aC Φ a false sc ρ).bnd fun p => (bW Φ args sc ρ).bnd fun q => sh Φ a m p.1 q.1 else .st) := rfl
theorem mC {Φ : Fx} {elt tg iter : Expr} {ifs : List Expr} {scope : Scope} {q : Pos} {it : Bool} {sc : Scope} {ρ : al} : aC Φ (.ListComp elt [⟨tg, iter, ifs, 0⟩] scope q) it sc ρ = (if nu sc scope = true then (aC Φ iter true sc ρ).bnd fun p => (match items p.1 with
      | some ds => if fy iter tg = true then
          (Rs.ok () [ds.length <= cP, aA ds = true \/ p.2 <= 1]).bnd fun _ => (gp (fun d => match b8 scope tg d (flt scope ρ) with
            | none => .st
            | some ρ' => (dN Φ .And ifs scope ρ').bnd fun b => cond b ((aC Φ elt false scope ρ').bnd fun r => .ok (some r) []) (.ok none [])) ds).bnd fun q => if q.2 <= 1 then .ok (.lst q.1, q.2) [] else .st
        else .st
      | none => .st)
    else .st) := rfl
end Sp
set_option Elab.async false
set_option linter.all false
set_option maxRecDepth 100000
namespace Sp
open PySem PySem.Spec PyProof.Rows L2
inductive Fl where
  | nx (ρ : al) | rt (d : D) | bk (ρ : al) | ct (ρ : al)
def li : Expr -> Bool
  | .ListComp .. => true
  | .SetComp .. => true
  | .DictComp .. => true
  | _ => false
def oq (l : List D) (i : Int) (d : D) : Option (List D) := (ixN l.length i).map fun j => l.set j d
def i6 (f : al -> Rs Fl) : Fl -> Rs Fl
  | .nx ρ => f ρ
  | .ct ρ => f ρ
  | .bk ρ => .ok (.nx ρ) []
  | .rt d => .ok (.rt d) []
def dl (bind : D -> al -> Option al) (body : al -> Rs Fl) : List D -> al -> Rs Fl
  | [], ρ => .ok (.nx ρ) []
  | d :: l, ρ => match bind d ρ with
    | none => .st
    | some ρ1 => (body ρ1).bnd (i6 (dl bind body l))
def jZ (test : al -> Rs Bool) (body : al -> Rs Fl) : Nat -> al -> Rs Fl
  | 0, _ => .st
  | n + 1, ρ => (test ρ).bnd fun b => cond b ((body ρ).bnd (i6 (jZ test body n))) (.ok (.nx ρ) [])
def demX (x : Str) (ρ : al) : al := fun y => if y = x then (ρ y).map fun p => (p.1, false) else ρ y
def demote (e : Expr) (ρ : al) : al :=
  match e with
  | .Name x _ => demX x ρ
  | .Subscript (.Name x _) _ _ => demX x ρ
  | _ => ρ
def md (sc : Scope) (x : Str) (p : D × Nat) (ρ : al) : Rs Fl :=
  if dC sc x = true then
    match p.2 with
    | 0 => .ok (.nx (ck ρ x (p.1, true))) []
    | 1 => .ok (.nx (ck ρ x (p.1, false))) []
    | _ => .st
  else .st
def mf (ρ : al) (x : Str) (f : List D -> Rs Fl) : Rs Fl :=
  match ρ x with
  | some (.lst l, true) => if ff x = true then (Rs.ok () [aA l = true]).bnd fun _ => f l else .st
  | _ => .st
def r6 (ρ : al) (x : Str) (f : List D -> Rs Fl) : Rs Fl :=
  match ρ x with
  | some (.lst l, true) => if ff x = true then f l else .st
  | _ => .st
def kU (sc : Scope) (x y : Str) (px py : Pos) (a b : Expr) : Bool :=
  sc.names.lookup x == some .local && sc.names.lookup y == some .local && (px.line == py.line) && !decide (x = y) && !([a, b].all (foldedForSure 8)) && !([a, b].all (constantsAlone 8))
def lw (Φ : Fx) (es : List Expr) (e : Expr) (sc : Scope) (ρ : al) : Rs Fl :=
  match es, e with
  | [.Name x px, .Name y py], .Tuple [a, b] _ _ => if kU sc x y px py a b = true then (bW Φ [a, b] sc ρ).bnd fun p => (match p.1 with
      | [u, v] => if aA [u, v] = true \/ p.2 <= 1 then .ok (.nx (ck (ck ρ x (u, false)) y (v, false))) [] else .st
      | _ => .st) else .st
  | _, _ => .st
def pS (sc : Scope) (es : List Expr) (e : Expr) : Bool :=
  match es, e with
  | [.Name x _, .Name _ _], .Tuple [_, _] _ _ => sc.names.lookup x == some .cell
  | _, _ => false
def n9 (sc : Scope) (es : List Expr) (e : Expr) : Bool := iw e && !pS sc es e
def Ak (_ : Expr) : Bool := true
def lz (Φ : Fx) (tgs : List Expr) (e : Expr) (sc : Scope) (ρ : al) : Rs Fl :=
  match tgs with
  | [.Name x _] => (aC Φ e false sc ρ).bnd fun p => md sc x p ρ
  | [.Tuple es _ _] => if n9 sc es e = true then lw Φ es e sc ρ else (aC Φ e false sc ρ).bnd fun p => (match fK p.1 with
      | some ds => if aA ds = true \/ p.2 <= 1 then (match aR sc es ds ρ with | some ρ' => .ok (.nx ρ') [] | none => .st) else .st
      | none => .st)
  | [.Subscript (.Name x _) i _] => if Ak e = true then (aC Φ e false sc ρ).bnd fun p => (aC Φ i false sc ρ).bnd fun q => (match q.1 with
      | .int j => mf ρ x fun l => (match oq l j p.1 with | some l' => .ok (.nx (ck ρ x (.lst l', true))) [p.1.lless = true] | none => .st)
      | _ => .st)
    else .st
  | _ => .st
def EO (op : Operator) (a b : Int) : R1 :=
  match op with
  | .Add => .ok (.int (a + b), 0) []
  | .Sub => .ok (.int (a - b), 0) []
  | .Mult => .ok (.int (a * b), 0) [cg a b]
  | .FloorDiv => .ok (.int (a.fdiv b), 0) [fM b]
  | _ => .st
def exAug (Φ : Fx) (t : Expr) (op : Operator) (e : Expr) (sc : Scope) (ρ : al) : Rs Fl :=
  match t with
  | .Name x _ => if dC sc x = true then (match ρ x with
      | some p => iP (p.1, 0) (fun a => (aC Φ e false sc ρ).bnd fun q => iP q fun b => EO op a b) |>.bnd fun r => .ok (.nx (ck ρ x (r.1, true))) []
      | none => .st) else .st
  | _ => .st
def ly (Φ : Fx) (e : Expr) (sc : Scope) (ρ : al) : Rs Fl :=
  match e with
  | .Call (.Attribute (.Name x _) m ap) args [] cp => if (ap.endLine == cp.line) = true then (bW Φ args sc ρ).bnd fun p => (match Φ.mtt m with
      | some M => r6 ρ x fun l => (M l p.1 p.2).bnd fun l' => .ok (.nx (ck ρ x (.lst l', true))) []
      | none => .st) else .st
  | .Call (.Name f p) args ks cp => (aC Φ (.Call (.Name f p) args ks cp) false sc ρ).bnd fun _ => .ok (.nx ρ) []
  | _ => .st
def B5 (ρ : al) : al := fun y => (ρ y).map fun p => (p.1, false)
def w6 : Expr -> Bool
  | .ListComp elt _ _ _ => li elt
  | _ => false
def w5 : Expr -> Bool
  | .Tuple es _ _ => es.any w6
  | e => w6 e
def rtR (e : Expr) (ρ : al) : al := cond (w5 e) (B5 ρ) ρ
def rT (p : D × Nat) : Rs Fl := if p.2 = 0 \/ p.2 = 2 then .ok (.rt p.1) [] else .st
mutual
def eN (Φ : Fx) : Stmt -> Scope -> al -> Rs Fl
  | .Return (some e) _, sc, ρ => (aC Φ e false sc ρ).bnd rT
  | .Return none _, _, _ => .ok (.rt .non) []
  | .Pass _, _, ρ => .ok (.nx ρ) []
  | .Break _, _, ρ => .ok (.bk ρ) []
  | .Continue _, _, ρ => .ok (.ct ρ) []
  | .Assign tgs e _, sc, ρ => lz Φ tgs e sc ρ
  | .Expr e _, sc, ρ => ly Φ e sc ρ
  | .If c a b _, sc, ρ => (aC Φ c false sc ρ).bnd fun p => gY p fun t => cond t (aE Φ a sc ρ) (aE Φ b sc ρ)
  | .For tg it body els _, sc, ρ => if els.isEmpty = true then (aC Φ it true sc (demote it ρ)).bnd fun p => (match items p.1 with
      | some ds => if p.2 <= 1 /\ fy it tg = true then dl (b8 sc tg) (aE Φ body sc) ds (demote it ρ) else .st
      | none => .st)
    else .st
  | .While c body els _, sc, ρ => if els.isEmpty = true then jZ (fun ρ => (aC Φ c false sc ρ).bnd fun p => gY p fun b => .ok b []) (aE Φ body sc) cP ρ else .st
  | _, _, _ => .st
def aE (Φ : Fx) : List Stmt -> Scope -> al -> Rs Fl
  | [], _, ρ => .ok (.nx ρ) []
  | s :: ss, sc, ρ => (eN Φ s sc ρ).bnd fun
    | .nx ρ' => aE Φ ss sc ρ'
    | f => .ok f []
end
theorem mv {Φ : Fx} {tg it : Expr} {body els : List Stmt} {q : Pos} {sc : Scope} {ρ : al} : eN Φ (.For tg it body els q) sc ρ = (if els.isEmpty = true then (aC Φ it true sc (demote it ρ)).bnd fun p => (match items p.1 with
      | some ds => if p.2 <= 1 /\ fy it tg = true then dl (b8 sc tg) (aE Φ body sc) ds (demote it ρ) else .st
      | none => .st)
    else .st) := rfl
theorem pE {Φ : Fx} {c : Expr} {body els : List Stmt} {q : Pos} {sc : Scope} {ρ : al} : eN Φ (.While c body els q) sc ρ = (if els.isEmpty = true then jZ (fun ρ => (aC Φ c false sc ρ).bnd fun p => gY p fun b => .ok b []) (aE Φ body sc) cP ρ else .st) := rfl
def cV : List Str -> List D -> al
  | p :: ps, d :: ds => fun z => if z = p then some (d, false) else cV ps ds z
  | _, _ => fun _ => none
def bN (Φ : Fx) (sc : Scope) (ps : List Str) (body : List Stmt) (ds : List D) : Rs D :=
  if ds.length = ps.length then (aE Φ body sc (cV ps ds)).bnd fun
    | .rt d => .ok d []
    | .nx _ => .ok .non []
    | _ => .st
  else .st
def v5 (ds : List D) : R1 :=
  match ds with
  | [.sn n] => .ok (.int n, 0) []
  | [x] => (match fK x with | some l => .ok (.int l.length, 0) [] | none => .st)
  | _ => .st
def jD : List String := ["int", "bool", "str", "tuple", "list", "dict"]
def v7 (ds : List D) : R1 :=
  match ds with
  | [.obj m _ _, .cls n] => if m = n then .ok (.bl true, 0) [] else if m ∈ mF then .ok (.bl (dj m n), 0) [] else .st
  | [x, .typ T] => if T ∈ jD then (match By x T with | some b => .ok (.bl b, 0) [] | none => .st) else .st
  | _ => .st
def pU (ds : List D) : R1 :=
  match ds with
  | [x] => (match fK x with | some l => .ok (.tup l, 0) [aA l = true] | none => .st)
  | _ => .st
def sJ (ds : List D) : R1 :=
  match ds with
  | [x] => (match fK x with | some l => .ok (.lst l, 0) [aA l = true] | none => .st)
  | _ => .st
def we (ds : List D) : R1 :=
  match ds with
  | [.int i] => .ok (.int (if i < 0 then -i else i), 0) []
  | _ => .st
def wb (ds : List D) : R1 :=
  match ds with
  | [.lst l] => (match cT l with | some bs => .ok (.bl (bs.all id), 0) [] | none => .st)
  | _ => .st
def wa (ds : List D) : R1 :=
  match ds with
  | [.lst l] => (match dg l with
    | some ns => .ok (.bl (ns.any fun n => n != 0), 0) []
    | none => match cT l with | some bs => .ok (.bl (bs.any id), 0) [] | none => .st)
  | _ => .st
def v3 (ds : List D) : R1 :=
  match ds with
  | [.lst l] => (match dg l with | some ns => .ok (.int ns.sum, 0) [] | none => .st)
  | _ => .st
def v8 (ds : List D) : R1 :=
  match ds with
  | [.int i] => .ok (.int i, 0) []
  | [.bl b] => .ok (.int (cond b 1 0), 0) []
  | _ => .st
def pe (ds : List D) (_ : Nat) : R1 :=
  match ds with
  | [.int j] => .ok (.lst ((List.range j.toNat).map fun i => .int (i : Nat)), 0) [-4611686018427387904 <= j, j <= cP]
  | [.int i, .int j] => .ok (.lst ((List.range (j - i).toNat).map fun m => .int (i + (m : Nat))), 0) [-4611686018427387904 <= i, i <= 4611686018427387000, -4611686018427387904 <= j, j - i <= 800]
  | _ => .st
def sy (ds : List D) (_ : Nat) : R1 :=
  match ds with
  | [.tup a, .tup b] => .ok (.lst (List.zipWith (fun x y => .tup [x, y]) a b), 0) [aA a = true, aA b = true]
  | _ => .st
def mj (l ds : List D) (k : Nat) : Rs (List D) :=
  match ds with
  | [d] => .ok (l ++ [d]) [d.lless = true \/ k = 0, l.length < cP]
  | _ => .st
def Tb (l : List (Str × (List D -> Rs D))) (c : List (Str × D)) (b : List (Str × (List D -> R1))) (i : List (Str × (List D -> Nat -> R1))) (m : List (Str × (D -> List D -> R1))) (t : List (Str × (List D -> List D -> Nat -> Rs (List D)))) (sf : D -> Option Int -> Option Int -> R1) : Fx :=
  { slf := sf, fn := fun g => l.lookup g, con := fun x => c.lookup x, blt := fun x => b.lookup x, itr := fun x => i.lookup x, mth := fun x => m.lookup x, mtt := fun x => t.lookup x }
def lM (l : List (Str × (List D -> Rs D))) (c : List (Str × D)) (b : List (Str × (List D -> R1))) (i : List (Str × (List D -> Nat -> R1))) (m : List (Str × (D -> List D -> R1))) (t : List (Str × (List D -> List D -> Nat -> Rs (List D)))) (sf : D -> Option Int -> Option Int -> R1) (fl : List (Str × List Str)) (om : List (Str × List (Str × (List D -> Rs D)))) : Fx :=
  { slf := sf, fn := fun g => l.lookup g, con := fun x => c.lookup x, blt := fun x => b.lookup x, itr := fun x => i.lookup x, mth := fun x => m.lookup x, mtt := fun x => t.lookup x
    fld := fun n f => match fl.lookup n with | some fs => fs.contains f | none => false
    omt := fun n x => match om.lookup n with | some ms => ms.lookup x | none => none }
end Sp
set_option Elab.async false
set_option linter.all false
set_option maxRecDepth 100000
namespace Sp
open PySem PySem.Spec PyProof.Rows L2
variable {X : Cx}
theorem jK {k : Int} {n : Nat} (h : k.natAbs < 2 ^ n) : Builtin.Int.intBits k <= n := by
  unfold Builtin.Int.intBits
  split
  . exact Nat.zero_le _
  . rename_i h0
    have : k.natAbs.log2 < n := by
      rcases Nat.eq_zero_or_pos k.natAbs with h1 | hp
      . exact absurd (by simpa using h1) (by simpa using h0)
      . exact (Nat.log2_lt (Nat.ne_of_gt hp)).mpr h
    omega
theorem dm : ∀ {l m : List Prop}, aF (l ++ m) ↔ aF l /\ aF m
  | [], m => by simp [aF]
  | p :: l, m => by
    show p /\ aF (l ++ m) ↔ (p /\ aF l) /\ aF m
    rw [dm, and_assoc]
theorem aN {α β : Type} {r : Rs α} {f : α -> Rs β} {b : β} {l : List Prop} (h : r.bnd f = .ok b l) (hp : aF l) : ∃ a l1 l2, r = .ok a l1 /\ aF l1 /\ f a = .ok b l2 /\ aF l2 := by
  unfold Rs.bnd at h
  split at h
  . cases h
  . rename_i a l1
    split at h
    . cases h
    . rename_i b' m e
      cases h
      obtain ⟨h1, h2⟩ := dm.mp hp
      exact ⟨a, l1, m, rfl, h1, e, h2⟩
theorem ln {b : Bool} {m : List Prop} (h : aF (gd b m)) (hb : b = true) : aF m := by
  cases m with
  | nil => exact True.intro
  | cons p l => exact h.1 hb
theorem C6 {a b : Int} (h : Builtin.Int.intBits a <= 2 ^ 22) (g : Builtin.Int.intBits b <= 2 ^ 22) : IntMulOk a b := by
  have h' : Builtin.Int.intTooBig (Builtin.Int.intBits a + Builtin.Int.intBits b) = false := by
    unfold Builtin.Int.intTooBig bitsLine; exact decide_eq_false (by omega)
  unfold IntMulOk; rw [h']; simp
theorem vB {a b : Int} (h : cg a b) : IntMulOk a b := by
  rcases h with h | h | ⟨h, g⟩ | ⟨h, g⟩
  . exact .of_left (jK h)
  . exact .of_right (jK h)
  . exact IntMulOk.of_bits (Nat.le_trans (jK h) (by decide)) (Nat.le_trans (jK g) (by decide))
  . exact C6 h g
theorem yE : dr X (binaryOp .Mult) (rI (fun i j => cg i j) fun i j => .int (i * j)) := wW fun _ _ _ _ _ _ _ hc q => mul_int q (vB hc)
theorem vy : dr X (binaryOp .FloorDiv) (rI (fun _ j => j ≠ 0 /\ j.natAbs < cu) fun i j => .int (i.fdiv j)) := wW fun i j _ _ _ _ _ hc q => floordiv_int hc.1 q (.inl (PyProof.noPylong_of_log2 (by
  rcases Nat.eq_zero_or_pos j.natAbs with h1 | hp
  . exact absurd (by simpa using h1) hc.1
  . exact (Nat.log2_lt (Nat.ne_of_gt hp)).mpr hc.2)))
mutual
theorem gB {pins : List (Addr × Obj)} {σ : L2.St} {H : Hp} {s : Shared} (I : am X pins σ H s) {P : bw} : ∀ {d : D} {v : V} {u : Value}, d.py.canLay0 = true -> ak X.K H P d v -> bi v u -> ∃ as, Reads s.heap u d.py as
  | .non, v, u, _, h, r => by
    rw [ak] at h; subst h; cases (show u = Value.none from r); rw [D.py]; exact ⟨_, .none⟩
  | .bl b, v, u, _, h, r => by rw [ak] at h; subst h; cases (show u = Value.bool b from r); rw [D.py]; exact ⟨_, .bool b⟩
  | .int i, v, u, _, h, r => by rw [ak] at h; subst h; obtain ⟨t, e⟩ := (show ∃ t, u = Value.int i t from r); subst e; rw [D.py]; exact ⟨_, .int i t⟩
  | .str x, v, u, _, h, r => by rw [ak] at h; subst h; obtain ⟨t, e⟩ := (show ∃ t, u = Value.str x t from r); subst e; rw [D.py]; exact ⟨_, .str x t⟩
  | .emp, v, u, c, h, r => by rw [D.py] at c; simp [PyData.canLay0] at c
  | .typ _, v, u, c, h, r => by rw [D.py] at c; simp [PyData.canLay0] at c
  | .sn _, v, u, c, h, r => by rw [D.py] at c; simp [PyData.canLay0] at c
  | .obj _ _ _, v, u, c, h, r => by rw [D.py] at c; simp [PyData.canLay0] at c
  | .cls _, v, u, c, h, r => by rw [D.py] at c; simp [PyData.canLay0] at c
  | .xc _ _, v, u, c, h, r => by rw [D.py] at c; simp [PyData.canLay0] at c
  | .tup l, v, u, c, h, r => by
    rw [ak] at h
    obtain ⟨a, vs, rfl, h, q⟩ := h
    cases (show u = Value.ref a from r)
    obtain ⟨its, rv, ht, _⟩ := I.tuple h
    obtain ⟨o, e1, e2, n, e3⟩ := ht
    rw [D.py] at c ⊢
    obtain ⟨as, ra⟩ := jk I (by simpa [PyData.canLay0] using c) q rv
    exact ⟨as, .tuple e1 e2 e3 (by simpa using ra)⟩
  | .lst l, v, u, c, h, r => by
    rw [ak] at h
    obtain ⟨a, vs, b, rfl, h, _, q⟩ := h
    cases (show u = Value.ref a from r)
    have hs : cA X.K H a vs := h.sq
    obtain ⟨its, rv, ht, _⟩ := I.list hs
    obtain ⟨o, n, e1, e2, _, e3⟩ := ht
    rw [D.py] at c ⊢
    obtain ⟨as, ra⟩ := jk I (by simpa [PyData.canLay0] using c) q rv
    exact ⟨_, .list e1 e2 e3 (by simpa using ra)⟩
theorem jk {pins : List (Addr × Obj)} {σ : L2.St} {H : Hp} {s : Shared} (I : am X pins σ H s) {P : bw} : ∀ {l : List D} {vs : List V} {us : List Value}, PyData.canLayAll0 (mY l) = true -> ao X.K H P l vs -> aJ vs us -> ∃ as, ReadsAll s.heap us (mY l) as
  | [], vs, us, _, h, r => by rw [ao] at h; subst h; cases r; rw [mY]; exact ⟨_, .nil⟩
  | d :: l, vs, us, c, h, r => by
    rw [ao] at h
    obtain ⟨v, vr, rfl, h1, h2⟩ := h
    cases r with
    | cons r1 r2 =>
      rw [mY, PyData.canLayAll0, Bool.and_eq_true] at c
      obtain ⟨as, ra⟩ := gB I c.1 h1 r1
      obtain ⟨bs, rb⟩ := jk I c.2 h2 r2
      rw [mY]
      exact ⟨_, .cons ra rb⟩
end
def xE (X : Cx) (f : Value -> Value -> Sem Value) (x y z : D) (k j l : Nat) : Prop :=
  ∃ r : R2, dr X f r /\ ∀ ow H0 H2 v u (Q : VK), eu ow H0 -> az H0 H2 -> ak X.K H2 (Kp ow H0 k) x v -> ak X.K H2 (Kp ow H0 j) y u -> (∀ w H', az H2 H' -> ak X.K H' (Kp ow H0 l) z w -> Q w H') -> r v u H2 Q
theorem dk {H : Hp} {p : Addr} {o : HO} (h : H p = none) : az H (be H p o) := fun b x e => by rw [aG (bg e h)]; exact e
theorem ak.kn {K : W.Frag} {ow : Ow} {H0 H : Hp} {d : D} {k : Nat} {v : V} (h : ak K H (Kp ow H0 k) d v) : ak K H (Kp ow H0 (Sp.kn d k)) d v := by
  unfold Sp.kn
  by_cases f : d.lless = true
  . rw [if_pos f]; exact h.flat _ f
  . rw [if_neg f]; exact h
theorem eM : cP <= sizeLine := by rw [sizeLine_eq]; decide
theorem ng : cP < sizeLine := by rw [sizeLine_eq]; decide
theorem jJ {f : Value -> Value -> Sem Value} {a b : Int} {g : Int -> Int -> Int} {C : Int -> Int -> Prop} {k j : Nat} (h : dr X f (rI C fun i j => .int (g i j))) (hc : C a b) : xE X f (.int a) (.int b) (.int (g a b)) k j 0 :=
  ⟨_, h, fun ow H0 H2 v u Q o s rx ry q => by
    rw [ak] at rx ry; subst rx ry
    exact ⟨a, b, rfl, rfl, hc, q _ _ (az.refl _) (by rw [ak])⟩⟩
theorem oP {f : Value -> Value -> Sem Value} {a b : Int} {g : Int -> Int -> Int} {k j : Nat} (h : dr X f (j5 fun i j => .int (g i j))) : xE X f (.int a) (.int b) (.int (g a b)) k j 0 :=
  ⟨_, h, fun ow H0 H2 v u Q o s rx ry q => by
    rw [ak] at rx ry; subst rx ry
    exact ⟨a, b, rfl, rfl, q _ _ (az.refl _) (by rw [ak])⟩⟩
theorem i7 : ∀ {a b : List D}, aA (a ++ b) = (aA a && aA b)
  | [], b => by simp [aA]
  | x :: a, b => by rw [List.cons_append, aA, aA, i7, Bool.and_assoc]
theorem zw {op : Operator} {a b : Int} {z : D} {k j l : Nat} {o : List Prop} (h : v0 op a b = .ok (z, l) o) (hp : aF o) : xE X (binaryOp op) (.int a) (.int b) z k j l := by
  unfold v0 at h
  split at h
  . cases h; exact oP Bc
  . cases h; exact oP A9
  . cases h; exact jJ yE hp.1
  . cases h; exact jJ vy hp.1
  . cases h; exact jJ yF hp.1
  . cases h
    have c : rW a b := hp.1
    exact jJ Ba ⟨c.1, by have := c.2.1; omega, c.2.2⟩
  . cases h
theorem o8 {op : Operator} (h : sv op = true) : op = .Add := by cases op <;> first | rfl | cases h
theorem vz : dr X (binaryOp .Add) (fun x y H Q => ∃ a b ys, x = .ref a /\ y = .ref b /\ cz X.K H a [] /\ cz X.K H b ys /\ Q (.ref b) H) := by
  intro pins s σ H x y v u Q I rx ry h
  obtain ⟨a, b, ys, rfl, rfl, ha, hb, q⟩ := h
  cases rx
  cases ry
  obtain ⟨its, r1, p1, _⟩ := I.tuple ha
  obtain ⟨its2, r2, p2, _⟩ := I.tuple hb
  cases r1
  obtain ⟨⟨cls, dd, data, sl⟩, ho, hc, n, hd⟩ := id p1
  obtain ⟨⟨cls2, dd2, data2, sl2⟩, ho2, hc2, n2, hd2⟩ := id p2
  simp only at hc hd hc2 hd2
  subst hc hd hc2 hd2
  exact concat_meets ⟨_, ho, rfl⟩ ⟨_, ho2, rfl⟩ noFill_tuple_add seq_tuple_add PySem.F.slot_tuple_add PySem.F.entry_tuple_add (PySem.F.args_tuple_add_2 _ _)
    (tuple_addW0 a b _ its2.toArray n n2 dd dd2 sl sl2 (by rfl)) ⟨ho, ho2, ⟨.ref b, H, I, rfl, q⟩⟩
theorem yH : dr X (binaryOp .Add) (fun x y H Q => ∃ l b xs zs, x = .ref l /\ y = .ref b /\ cA X.K H l xs /\ cA X.K H b zs /\ xs.length + zs.length <= sizeLine /\ ∀ p, H p = none -> Q (.ref p) (be H p (.lst (xs ++ zs)))) := by
  intro pins s σ H x y v u Q I rx ry h
  obtain ⟨l, b, xs, zs, rfl, rfl, hH, hB, hz, q⟩ := h
  cases rx
  cases ry
  obtain ⟨its, r, ⟨⟨cls, dd, data, sl⟩, n, ho, hc, _, hd⟩, z⟩ := I.list hH
  obtain ⟨its2, r2, ⟨⟨cls2, dd2, data2, sl2⟩, n2, ho2, hc2, _, hd2⟩, z2⟩ := I.list hB
  simp only at hc hd hc2 hd2
  subst hc hd hc2 hd2
  have l1 := r.length
  have l2 := r2.length
  refine concat_meets ⟨_, ho, rfl⟩ ⟨_, ho2, rfl⟩ noFill_list_add seq_list_add PySem.F.slot_list_add PySem.F.entry_list_add (PySem.F.args_list_add_2 _ _) (list_addW l b its.toArray its2.toArray n n2 dd dd2 sl sl2 (by rw [List.size_toArray, List.size_toArray]; omega)) ⟨ho, ho2, ?_⟩
  have ea : its.toArray ++ its2.toArray = (its ++ its2).toArray := by simp
  rw [ea]
  exact ⟨.ref _, _, I.lnew (t' := s.toks) (r.append r2) (by rw [List.length_append]; omega), rfl, q _ I.fresh⟩
theorem Cb {op : Operator} {x y z : D} {k j l : Nat} {o : List Prop} (h : sI op x y k j = .ok (z, l) o) (hp : aF o) : xE X (binaryOp op) x y z k j l := by
  unfold sI at h
  split at h
  . exact zw h hp
  . rename_i a b
    split at h
    . rename_i c
      cases o8 c
      cases h
      cases a with
      | nil =>
        refine ⟨_, vz, fun ow H0 H2 v u Q o s rx ry q => ?_⟩
        rw [ak] at rx ry
        obtain ⟨pa, va, rfl, ha, ra⟩ := rx
        obtain ⟨pb, vb, rfl, hb, rb⟩ := ry
        have rb' := rb.imp (Kp.joinR o k j)
        cases ra
        refine ⟨pa, pb, vb, rfl, rfl, ha, hb, q _ _ (az.refl _) (ak.kn ?_)⟩
        rw [ak]
        exact ⟨pb, vb, rfl, hb, rb'⟩
      | cons a0 a =>
        refine ⟨_, yG, fun ow H0 H2 v u Q o s rx ry q => ?_⟩
        rw [ak] at rx ry
        obtain ⟨pa, va, rfl, ha, ra⟩ := rx
        obtain ⟨pb, vb, rfl, hb, rb⟩ := ry
        have ra' := ra.imp (Kp.joinL o k j)
        have rb' := rb.imp (Kp.joinR o k j)
        have la := ra.length
        have lb := rb.length
        refine ⟨pa, pb, va, vb, rfl, rfl, ha, hb, ?_, ?_, fun e => ?_, fun e p hp' => ?_⟩
        . intro e; subst e; cases la
        . rw [<- la, <- lb]; exact Nat.le_trans hp.1 eM
        . subst e
          have : b = [] := List.length_eq_zero_iff.mp lb
          subst this
          refine q _ _ (az.refl _) (ak.kn ?_)
          rw [ak]
          exact ⟨pa, va, rfl, ha, by rw [List.append_nil]; exact ra'⟩
        . have sm := dk (o := HO.tup (va ++ vb)) hp'
          refine q _ _ sm (ak.kn ?_)
          rw [ak]
          exact ⟨p, _, rfl, cz.of aS, (ra'.same sm).append (rb'.same sm)⟩
    . cases h
  . rename_i a b
    split at h
    . rename_i c; cases h
      cases o8 c
      refine ⟨_, yH, fun ow H0 H2 v u Q o s rx ry q => ?_⟩
      rw [ak] at rx ry
      obtain ⟨pa, va, b1, rfl, ha, qa, ra⟩ := rx
      obtain ⟨pb, vb, b2, rfl, hb, qb, rb⟩ := ry
      have la := ra.length
      have lb := rb.length
      have fl := hp.1
      rw [i7, Bool.and_eq_true] at fl
      refine ⟨pa, pb, va, vb, rfl, rfl, ha.sq, hb.sq, by rw [<- la, <- lb]; exact Nat.le_trans hp.2.1 eM, fun p hp' => ?_⟩
      have sm := dk (o := HO.lst (va ++ vb)) hp'
      refine q _ _ sm ?_
      rw [ak]
      exact ⟨p, _, true, rfl, aS, ⟨rfl, s.free hp'⟩, ((ra.flat _ fl.1).same sm).append ((rb.flat _ fl.2).same sm)⟩
    . cases h
  . cases h
theorem vE {pins : List (Addr × Obj)} {σ : L2.St} {H : Hp} {s : Shared} {P : bw} {l : List D} {v : V} (h : ak X.K H P (.lst l) v) : ∃ a vs, v = .ref a /\ cA X.K H a vs /\ ao X.K H P l vs := by
  rw [ak] at h
  obtain ⟨a, vs, b, rfl, h, _, q⟩ := h
  exact ⟨a, vs, rfl, h.sq, q⟩
theorem gX : ∀ {l : List D} {ns : List Int}, dg l = some ns -> l = ns.map D.int
  | [], ns, h => by rw [dg] at h; cases h; rfl
  | .int i :: l, ns, h => by
    rw [dg] at h
    cases e : dg l with
    | none => rw [e] at h; cases h
    | some m => rw [e] at h; cases h; rw [gX e]; rfl
  | .non :: l, ns, h => by rw [dg] at h <;> first | cases h | (intro z; intro e; cases e)
  | .bl _ :: l, ns, h => by rw [dg] at h <;> first | cases h | (intro z; intro e; cases e)
  | .str _ :: l, ns, h => by rw [dg] at h <;> first | cases h | (intro z; intro e; cases e)
  | .emp :: l, ns, h => by rw [dg] at h <;> first | cases h | (intro z; intro e; cases e)
  | .typ _ :: l, ns, h => by cases h
  | .sn _ :: l, ns, h => by cases h
  | .obj _ _ _ :: l, ns, h => by cases h
  | .cls _ :: l, ns, h => by cases h
  | .xc _ _ :: l, ns, h => by cases h
  | .tup _ :: l, ns, h => by rw [dg] at h <;> first | cases h | (intro z; intro e; cases e)
  | .lst _ :: l, ns, h => by rw [dg] at h <;> first | cases h | (intro z; intro e; cases e)
theorem iV : ∀ {l : List D} {ns : List Bool}, cT l = some ns -> l = ns.map D.bl
  | [], ns, h => by rw [cT] at h; cases h; rfl
  | .bl i :: l, ns, h => by
    rw [cT] at h
    cases e : cT l with
    | none => rw [e] at h; cases h
    | some m => rw [e] at h; cases h; rw [iV e]; rfl
  | .non :: l, ns, h => by rw [cT] at h <;> first | cases h | (intro z; intro e; cases e)
  | .int _ :: l, ns, h => by rw [cT] at h <;> first | cases h | (intro z; intro e; cases e)
  | .str _ :: l, ns, h => by rw [cT] at h <;> first | cases h | (intro z; intro e; cases e)
  | .emp :: l, ns, h => by rw [cT] at h <;> first | cases h | (intro z; intro e; cases e)
  | .typ _ :: l, ns, h => by cases h
  | .sn _ :: l, ns, h => by cases h
  | .obj _ _ _ :: l, ns, h => by cases h
  | .cls _ :: l, ns, h => by cases h
  | .xc _ _ :: l, ns, h => by cases h
  | .tup _ :: l, ns, h => by rw [cT] at h <;> first | cases h | (intro z; intro e; cases e)
  | .lst _ :: l, ns, h => by rw [cT] at h <;> first | cases h | (intro z; intro e; cases e)
def sX (X : Cx) (op : CmpOp) (x y : D) (r : Bool) : Prop := ∀ (P P' : bw), dr X (compareOp op) (fun v u H Q => ak X.K H P x v /\ ak X.K H P' y u /\ Q (.bl r) H)
theorem jR {op : CmpOp} {a b : Int} {g : Int -> Int -> Bool} (h : dr X (compareOp op) (j5 fun i j => .bl (g i j))) : sX X op (.int a) (.int b) (g a b) := fun P P' pins s σ H v u xv yu Q I rx ry ⟨h1, h2, q⟩ => by
  rw [ak] at h1 h2; subst h1 h2
  exact h pins s σ H _ _ xv yu Q I rx ry ⟨a, b, rfl, rfl, q⟩
theorem qV {P : bw} {H : Hp} {x : D} {v : V} (h : ak X.K H P x v) : decide (v = .non) = x.isNon := by
  cases x with
  | non => rw [ak] at h; subst h; rfl
  | bl _ => rw [ak] at h; subst h; rfl
  | int _ => rw [ak] at h; subst h; rfl
  | str _ => rw [ak] at h; subst h; rfl
  | emp => rw [ak] at h; obtain ⟨a, rfl, _⟩ := h; rfl
  | typ _ => rw [ak] at h; subst h; rfl
  | sn _ => rw [ak] at h; obtain ⟨a, _, rfl, _⟩ := h; rfl
  | obj _ _ _ => rw [ak] at h; obtain ⟨_, _, a, _, _, _, rfl, _⟩ := h; rfl
  | cls _ => rw [ak] at h; obtain ⟨_, _, rfl, _⟩ := h; rfl
  | xc _ _ => rw [ak] at h; obtain ⟨_, rfl⟩ := h.ref; rfl
  | tup _ => rw [ak] at h; obtain ⟨a, _, rfl, _⟩ := h; rfl
  | lst _ => rw [ak] at h; obtain ⟨a, _, _, rfl, _⟩ := h; rfl
theorem gA {d : D} {l : List D} (h : fK d = some l) : d = .tup l \/ d = .lst l := by
  unfold fK at h
  split at h
  . cases h; exact .inl rfl
  . cases h; exact .inr rfl
  . cases h
theorem zq {op : CmpOp} {a b : Int} {r : Bool} (h : fE op a b = some r) : sX X op (.int a) (.int b) r := by
  unfold fE at h
  split at h
  . cases h; exact jR CW
  . cases h; exact jR CY
  . cases h; exact jR CZ
  . cases h; exact jR C2
  . cases h
theorem A8 {op : CmpOp} {x y : D} {r : Bool} (hu : X.A.units + 70 < cLine) (h : r8 op x y = some r) : sX X op x y r := by
  unfold r8 at h
  split at h
  . exact zq h
  . cases h
theorem xx (b c : Bool) : (Value.bool b == Value.bool c) = (b == c) := by cases b <;> cases c <;> rfl
theorem iF {op : CmpOp} {x y : D} {r : Bool} {o : List Prop} (hu : X.A.units + 70 < cLine) (h : jw op x y = .ok r o) (hp : aF o) : sX X op x y r := by
  unfold jw at h
  split at h
  . cases h
    have c := hp.1
    unfold pH at c
    rw [Bool.and_eq_true] at c
    intro P P' pins s σ H v u xv yu Q I rx ry ⟨h1, h2, q⟩
    obtain ⟨as, r1⟩ := gB I (SeqAt.canLay_of_shaped c.1) h1 rx
    obtain ⟨bs, r2⟩ := gB I (SeqAt.canLay_of_shaped c.2) h2 ry
    exact eq_dataH r1 r2 c.1 c.2 (by omega) ⟨.bl _, H, I, rfl, q⟩
  . cases h
    have c := hp.1
    unfold pH at c
    rw [Bool.and_eq_true] at c
    intro P P' pins s σ H v u xv yu Q I rx ry ⟨h1, h2, q⟩
    obtain ⟨as, r1⟩ := gB I (SeqAt.canLay_of_shaped c.1) h1 rx
    obtain ⟨bs, r2⟩ := gB I (SeqAt.canLay_of_shaped c.2) h2 ry
    exact ne_dataH r1 r2 c.1 c.2 (by omega) ⟨.bl _, H, I, rfl, q⟩
  . split at h
    . cases h
      intro P P' pins s σ H v u xv yu Q I rx ry ⟨h1, h2, q⟩
      rw [ak] at h2
      subst h2
      exact Bb pins s σ H v _ xv yu Q I rx ry ⟨rfl, by rw [qV h1]; exact q⟩
    . split at h
      . cases h
        intro P P' pins s σ H v u xv yu Q I rx ry ⟨h1, h2, q⟩
        rw [ak] at h1 h2
        subst h1 h2
        cases rx
        cases ry
        exact wpAny_is_plain rfl ⟨.bl _, H, I, rfl, by rw [xx]; exact q⟩
      . cases h
    . cases h
  . split at h
    . cases h
      intro P P' pins s σ H v u xv yu Q I rx ry ⟨h1, h2, q⟩
      rw [ak] at h2
      subst h2
      refine yD pins s σ H v _ xv yu Q I rx ry ⟨rfl, ?_⟩
      rw [qV h1]
      exact q
    . split at h
      . cases h
        intro P P' pins s σ H v u xv yu Q I rx ry ⟨h1, h2, q⟩
        rw [ak] at h1 h2
        subst h1 h2
        cases rx
        cases ry
        exact wpAny_isNot_plain rfl ⟨.bl _, H, I, rfl, by rw [xx]; exact q⟩
      . cases h
    . cases h
  . cases e : r8 op x y with
    | none => rw [e] at h; cases h
    | some b => rw [e] at h; cases h; exact A8 hu e
end Sp
set_option Elab.async false
set_option linter.all false
set_option maxRecDepth 100000
namespace Sp
open PySem PySem.Spec PyProof.Rows L2
variable {X : Cx}
theorem re (K : W.Frag) {t : Value} : W.kitOne K t t = some true := by unfold W.kitOne; rw [if_pos (beq_self_eq_true t)]
def D.ty : D -> String
  | .non => "NoneType"
  | .bl _ => "bool"
  | .int _ => "int"
  | .str _ => "str"
  | .emp => "dict"
  | .tup _ => "tuple"
  | .lst _ => "list"
  | .typ _ => "type"
  | .sn _ => "set"
  | .obj _ _ _ => "object"
  | .cls _ => "type"
  | .xc _ _ => "type"
def D.plain : D -> Bool
  | .typ _ => false
  | .sn _ => false
  | .obj _ _ _ => false
  | .cls _ => false
  | .xc _ _ => false
  | _ => true
theorem Bw {x : D} {c : String} {b : Bool} (hpl : x.plain = true) (e : ∀ K, W.kitOne K (.type x.ty) (.type c) = some b) {pins : List (Addr × Obj)} {σ : L2.St} {H : Hp} {s : Shared} {v : V} {u : Value} {P : bw} {Q : Value -> Shared -> Prop} {E : Value -> Shared -> Prop}
    (I : am X pins σ H s) (h : ak X.K H P x v) (r : bi v u) (q : ∀ tk, Q (.bool b) { s with toks := tk }) : wpAny (model X.prog X.w) X.A (call (.builtin "isinstance") [u, .type c]) Q E s := by
  have e := e X.K
  cases x with
  | non => rw [ak] at h; subst h; cases (show u = Value.none from r); exact W.kia_one W.kitx_none I.kIn True.intro e (fun z => nomatch z) q
  | bl y => rw [ak] at h; subst h; cases (show u = Value.bool y from r); exact W.kia_one W.kitx_bool I.kIn True.intro e (fun z => nomatch z) q
  | int i => rw [ak] at h; subst h; obtain ⟨t, z⟩ := (show ∃ t, u = Value.int i t from r); cases z; exact W.kia_one W.kitx_int I.kIn True.intro e (fun z => nomatch z) q
  | str y => rw [ak] at h; subst h; obtain ⟨t, z⟩ := (show ∃ t, u = Value.str y t from r); cases z; exact W.kia_one W.kitx_str I.kIn True.intro e (fun z => nomatch z) q
  | emp =>
    rw [ak] at h
    obtain ⟨a, rfl, ea⟩ := h
    cases (show u = Value.ref a from r)
    obtain ⟨_, _, vs, _, p⟩ := (show cf X.prog X.w H s.heap a (.dK []) from I.hok a _ ea)
    obtain ⟨o, es, ep, h1, h2, _⟩ := p
    exact W.kia_one W.kitx_dict I.kIn ⟨o, h1, h2.1⟩ e (fun z => nomatch z) q
  | typ _ => cases hpl
  | sn _ => cases hpl
  | obj _ _ _ => cases hpl
  | cls _ => cases hpl
  | xc _ _ => cases hpl
  | tup l =>
    rw [ak] at h
    obtain ⟨a, vs, rfl, ea, _⟩ := h
    cases (show u = Value.ref a from r)
    obtain ⟨_, _, ⟨o, h1, h2, _⟩, _⟩ := I.tuple ea
    exact W.kia_one W.kitx_tuple I.kIn ⟨o, h1, h2⟩ e (fun z => nomatch z) q
  | lst l =>
    obtain ⟨a, vs, rfl, ea, _⟩ := vE (pins := pins) (σ := σ) (s := s) h
    cases (show u = Value.ref a from r)
    obtain ⟨_, _, ⟨o, n, h1, h2, _⟩, _⟩ := I.list ea
    exact W.kia_one W.kitx_list I.kIn ⟨o, h1, h2⟩ e (fun z => nomatch z) q
theorem kt (K : W.Frag) (a b : String) (r : Bool) (h : (a == b) = false) (h2 : W.kitCls K (.type a) (.type b) = some r) : W.kitOne K (.type a) (.type b) = some r := by
  unfold W.kitOne
  rw [if_neg (by
    intro z
    have : a = b := by simpa using z
    subst this
    simp at h)]
  exact h2
theorem yX : ∀ a ∈ ["NoneType", "bool", "int", "str", "dict", "tuple", "list"], ∀ T ∈ jD, (a == T) = false -> ∀ K, W.kitCls K (.type a) (.type T) = some (decide (a = "bool" /\ T = "int")) := by
  intro a ha T hT
  simp only [List.mem_cons, List.not_mem_nil, or_false, jD] at ha hT
  rcases ha with rfl | rfl | rfl | rfl | rfl | rfl | rfl <;> rcases hT with rfl | rfl | rfl | rfl | rfl | rfl <;> intro h K <;> first | (exact absurd h (by decide)) | kernel_rfl
theorem Bx {x : D} {T : String} {b : Bool} (h : By x T = some b) (hT : T ∈ jD) : x.plain = true /\ ∀ K, W.kitOne K (.type x.ty) (.type T) = some b := by
  have key : ∀ (a : String), a ∈ ["NoneType", "bool", "int", "str", "dict", "tuple", "list"] -> ∀ K, W.kitOne K (.type a) (.type T) = some (decide (a = T) || decide (a = "bool" /\ T = "int")) := fun a ha K => by
    by_cases e : a = T
    . subst e; rw [re]; simp
    . have e' : (a == T) = false := by simpa using e
      rw [kt K a T _ e' (yX a ha T hT e' K)]; simp [e]
  unfold By at h
  cases hx : x.ty0 with
  | none => rw [hx] at h; cases h
  | some a =>
    rw [hx] at h
    cases h
    have hp : x.plain = true /\ x.ty = a /\ a ∈ ["NoneType", "bool", "int", "str", "dict", "tuple", "list"] := by
      cases x <;> cases hx <;> exact ⟨rfl, rfl, by decide⟩
    refine ⟨hp.1, fun K => ?_⟩
    rw [hp.2.1]
    exact key a hp.2.2 K
def gu (X : Cx) (f : Value) (ds : List D) (z : D) (l : Nat) : Prop :=
  ∃ r : List V -> Hp -> VK -> Prop, c7 X f r /\ ∀ ow H0 H2 vs (P : bw) (Q : VK), eu ow H0 -> az H0 H2 -> ao X.K H2 P ds vs -> (∀ w H', az H2 H' -> ak X.K H' (Kp ow H0 l) z w -> Q w H') -> r vs H2 Q
theorem ao.only {K : W.Frag} {P : bw} {H : Hp} {d : D} {vs : List V} (h : ao K H P [d] vs) : ∃ v, vs = [v] /\ ak K H P d v := by
  rw [ao] at h
  obtain ⟨v, r, rfl, h1, h2⟩ := h
  rw [ao] at h2; subst h2
  exact ⟨v, rfl, h1⟩
theorem fJ {P : bw} {H : Hp} {l : List D} {v : V} (h : ak X.K H P (.lst l) v) : ∃ a vs, v = .ref a /\ cA X.K H a vs /\ ao X.K H P l vs := by
  rw [ak] at h
  obtain ⟨a, vs, b, rfl, h, _, q⟩ := h
  exact ⟨a, vs, rfl, h.sq, q⟩
theorem eD {P : bw} {H : Hp} {l : List D} {v : V} (h : ak X.K H P (.tup l) v) : ∃ a vs, v = .ref a /\ cz X.K H a vs /\ ao X.K H P l vs := by
  rw [ak] at h; exact h
theorem ua {l : List D} : gu X (.builtin "len") [.tup l] (.int l.length) 0 /\ gu X (.builtin "len") [.lst l] (.int l.length) 0 := by
  constructor
  . refine ⟨_, jy, fun ow H0 H2 vs P Q o s rx q => ?_⟩
    obtain ⟨v, rfl, ry⟩ := rx.only
    obtain ⟨a, ws, rfl, hs, rl⟩ := eD ry
    exact ⟨a, ws, rfl, .inr hs, by rw [<- rl.length]; exact q _ _ (az.refl _) (by rw [ak])⟩
  . refine ⟨_, jy, fun ow H0 H2 vs P Q o s rx q => ?_⟩
    obtain ⟨v, rfl, ry⟩ := rx.only
    obtain ⟨a, ws, rfl, hs, rl⟩ := fJ ry
    exact ⟨a, ws, rfl, .inl hs, by rw [<- rl.length]; exact q _ _ (az.refl _) (by rw [ak])⟩
theorem n5 {l : List D} (f : aA l = true) : gu X (.type "tuple") [.lst l] (.tup l) 0 /\ gu X (.type "tuple") [.tup l] (.tup l) 0 := by
  constructor
  . refine ⟨_, i8, fun ow H0 H2 vs P Q o s rx q => ?_⟩
    obtain ⟨v, rfl, ry⟩ := rx.only
    obtain ⟨a, ws, rfl, hs, rl⟩ := fJ ry
    refine ⟨a, ws, rfl, .inl ⟨hs, fun p hp => ?_⟩⟩
    have sm := dk (o := HO.tup ws) hp
    refine q _ _ sm ?_
    rw [ak]
    exact ⟨p, ws, rfl, cz.of aS, (rl.flat _ f).same sm⟩
  . refine ⟨_, i8, fun ow H0 H2 vs P Q o s rx q => ?_⟩
    obtain ⟨v, rfl, ry⟩ := rx.only
    obtain ⟨a, ws, rfl, hs, rl⟩ := eD ry
    refine ⟨a, ws, rfl, .inr ⟨hs, q _ _ (az.refl _) ?_⟩⟩
    rw [ak]
    exact ⟨a, ws, rfl, hs, rl.flat _ f⟩
theorem q9 {l : List D} (f : aA l = true) : gu X (.type "list") [.lst l] (.lst l) 0 /\ gu X (.type "list") [.tup l] (.lst l) 0 := by
  constructor
  . refine ⟨_, jx, fun ow H0 H2 vs P Q o s rx q => ?_⟩
    obtain ⟨v, rfl, ry⟩ := rx.only
    obtain ⟨a, ws, rfl, hs, rl⟩ := fJ ry
    refine ⟨a, ws, rfl, .inl hs, fun p hp => ?_⟩
    have sm := dk (o := HO.lst ws) hp
    refine q _ _ sm ?_
    rw [ak]
    exact ⟨p, ws, true, rfl, aS, ⟨rfl, s.free hp⟩, (rl.flat _ f).same sm⟩
  . refine ⟨_, jx, fun ow H0 H2 vs P Q o s rx q => ?_⟩
    obtain ⟨v, rfl, ry⟩ := rx.only
    obtain ⟨a, ws, rfl, hs, rl⟩ := eD ry
    refine ⟨a, ws, rfl, .inr hs, fun p hp => ?_⟩
    have sm := dk (o := HO.lst ws) hp
    refine q _ _ sm ?_
    rw [ak]
    exact ⟨p, ws, true, rfl, aS, ⟨rfl, s.free hp⟩, (rl.flat _ f).same sm⟩
theorem Cj {i : Int} : gu X (.builtin "abs") [.int i] (.int (if i < 0 then -i else i)) 0 := by
  refine ⟨_, vY, fun ow H0 H2 vs P Q o s rx q => ?_⟩
  obtain ⟨v, rfl, ry⟩ := rx.only
  rw [ak] at ry; subst ry
  exact ⟨i, rfl, q _ _ (az.refl _) (by rw [ak])⟩
theorem ao.mapBl {K : W.Frag} {P : bw} {H : Hp} : ∀ {ns : List Bool} {vs : List V}, ao K H P (ns.map D.bl) vs -> vs = ns.map V.bl
  | [], vs, h => by rw [List.map_nil, ao] at h; exact h
  | n :: ns, vs, h => by
    rw [List.map_cons, ao] at h
    obtain ⟨v, r, rfl, h1, h2⟩ := h
    rw [ak] at h1
    rw [h1, ao.mapBl h2]; rfl
theorem lX : ∀ {bs : List Bool} {us : List Value}, aJ (bs.map V.bl) us -> us = bs.map Value.bool
  | [], us, h => by cases h; rfl
  | b :: bs, us, h => by
    cases h with
    | cons h1 h2 => rw [show _ = Value.bool b from h1, lX h2]; rfl
theorem nY : ∀ {ns : List Int} {us : List Value}, aJ (ns.map V.int) us -> (∀ v, v ∈ us -> ∃ a t, v = Value.int a t) /\ numsOf us = ns
  | [], us, h => by cases h; exact ⟨fun _ h => (by cases h), rfl⟩
  | n :: ns, us, h => by
    cases h with
    | cons h1 h2 =>
      obtain ⟨t, rfl⟩ := (show ∃ t, _ = Value.int n t from h1)
      obtain ⟨i1, i2⟩ := nY h2
      refine ⟨fun v hv => ?_, by simp only [numsOf]; rw [i2]⟩
      rcases List.mem_cons.mp hv with rfl | hv
      . exact ⟨_, _, rfl⟩
      . exact i1 v hv
theorem uG (hc : X.calm = true) : c7 X (.builtin "sum") (fun xs H Q => ∃ (p : Addr) (ns : List Int), xs = [.ref p] /\ cA X.K H p (ns.map V.int) /\ Q (.int ns.sum) H) := by
  intro pins s σ H xs us Q I r h
  obtain ⟨p, ns, rfl, hq, q⟩ := h
  obtain ⟨u, rfl, rx⟩ := eL r
  cases rx
  obtain ⟨its, rv, pl, hz⟩ := I.list hq
  obtain ⟨hall, hnum⟩ := nY rv
  obtain ⟨xs, e⟩ := AllInts.items (vs := its.toArray) (fun v hv => hall v (by simpa using hv))
  have hl := pl.isList
  rw [e] at hl
  refine sum_intListG (I.ok.hd hc) hl fun h' tk t' hk => ?_
  refine ⟨.int ns.sum, H, I.kept hk, ⟨t', ?_⟩, q⟩
  congr 1
  rw [preSum_eq, List.take_of_length_le (by simp), <- nums_intItems, <- e]
  simp [hnum]
theorem uL (hc : X.calm = true) : c7 X (.builtin "all") (fun xs H Q => ∃ (p : Addr) (bs : List Bool), xs = [.ref p] /\ cA X.K H p (bs.map V.bl) /\ Q (.bl (bs.all id)) H) := by
  intro pins s σ H xs us Q I r h
  obtain ⟨p, bs, rfl, hq, q⟩ := h
  obtain ⟨u, rfl, rx⟩ := eL r
  cases rx
  obtain ⟨its, rv, pl, hz⟩ := I.list hq
  have ei := lX rv
  subst ei
  have hl := pl.isList
  have hlt : p < s.heap.objs.size := by obtain ⟨_, e, _⟩ := hl; exact Heap.lt_size e
  refine call_all_walk (wpAny_pyIter_list hl ?_)
  refine ⟨_, _, _, _, _, _, fun i => bs.getD i true, rfl, Walks.list (A := X.A.in1) (by exact I.ok.hd hc) _ p (Nat.ne_of_lt hlt) (bs.map Value.bool).toArray, ⟨⟨_, Heap.get?_push_size _ rfl, rfl, rfl⟩, hl.push _⟩, ?_, fun h' tk hk => ?_⟩
  . intro i v s' Q' E' hP hQ
    have hP : ((bs.map Value.bool).toArray)[i]? = some v := hP
    simp only [List.getElem?_toArray, List.getElem?_map] at hP
    cases e : bs[i]? with
    | none => rw [e] at hP; cases hP
    | some b =>
      rw [e] at hP; cases hP
      refine wpAny_truthy_bool ?_
      have : bs.getD i true = b := by rw [List.getD_eq_getElem?_getD, e]; rfl
      rw [<- this]; exact hQ
  . have : ((List.range (bs.map Value.bool).toArray.size).all fun i => bs.getD i true) = bs.all id := by
      simp only [List.size_toArray, List.length_map]
      rw [Bool.eq_iff_iff, List.all_eq_true, List.all_eq_true]
      constructor
      . intro h x hx
        obtain ⟨i, hi, rfl⟩ := List.mem_iff_getElem.mp hx
        have := h i (List.mem_range.mpr hi)
        rw [List.getD_eq_getElem?_getD, List.getElem?_eq_getElem hi] at this
        exact this
      . intro h i hi
        have hi := List.mem_range.mp hi
        rw [List.getD_eq_getElem?_getD, List.getElem?_eq_getElem hi]
        exact h _ (List.getElem_mem hi)
    rw [this]
    refine ⟨.bl _, H, I.kept (fun b o e => hk b o (fun hm => ?_) (Heap.get?_push_of_some _ e)), rfl, q⟩
    have hb : b = s.heap.objs.size := by simpa using hm
    subst hb
    exact absurd (Heap.lt_size e) (Nat.lt_irrefl _)
theorem uK (hc : X.calm = true) : c7 X (.builtin "any") (fun xs H Q => ∃ (p : Addr) (ns : List Int), xs = [.ref p] /\ cA X.K H p (ns.map V.int) /\ Q (.bl (ns.any fun n => n != 0)) H) := by
  intro pins s σ H xs us Q I r h
  obtain ⟨p, ns, rfl, hq, q⟩ := h
  obtain ⟨u, rfl, rx⟩ := eL r
  cases rx
  obtain ⟨its, rv, pl, hz⟩ := I.list hq
  have hlen : its.length = ns.length := by have := rv.length; simpa using this.symm
  have hl := pl.isList
  have hlt : p < s.heap.objs.size := by obtain ⟨_, e, _⟩ := hl; exact Heap.lt_size e
  refine call_any_walk (wpAny_pyIter_list hl ?_)
  refine ⟨_, _, _, _, _, _, fun i => (ns.getD i 0 != 0), rfl, Walks.list (A := X.A.in1) (by exact I.ok.hd hc) _ p (Nat.ne_of_lt hlt) its.toArray, ⟨⟨_, Heap.get?_push_size _ rfl, rfl, rfl⟩, hl.push _⟩, ?_, fun h' tk hk => ?_⟩
  . intro i v s' Q' E' hP hQ
    have hP : (its.toArray)[i]? = some v := hP
    simp only [List.getElem?_toArray] at hP
    have hi : i < ns.length := by rw [<- hlen]; exact (List.getElem?_eq_some_iff.mp hP).1
    obtain ⟨w, hw, rw'⟩ := rv.get (i := i) (x := V.int ns[i]) (by simp [hi])
    rw [hP] at hw; cases hw
    obtain ⟨t, rfl⟩ := rw'
    refine PyProof.Rows.truthy_int ?_
    have : ns.getD i 0 = ns[i] := by rw [List.getD_eq_getElem?_getD, List.getElem?_eq_getElem hi]; rfl
    rw [<- this]; exact hQ
  . have : ((List.range its.toArray.size).any fun i => (ns.getD i 0 != 0)) = ns.any fun n => n != 0 := by
      simp only [List.size_toArray, hlen]
      rw [Bool.eq_iff_iff, List.any_eq_true, List.any_eq_true]
      constructor
      . rintro ⟨i, hi, h⟩
        have hi := List.mem_range.mp hi
        rw [List.getD_eq_getElem?_getD, List.getElem?_eq_getElem hi] at h
        exact ⟨_, List.getElem_mem hi, h⟩
      . rintro ⟨x, hx, h⟩
        obtain ⟨i, hi, rfl⟩ := List.mem_iff_getElem.mp hx
        exact ⟨i, List.mem_range.mpr hi, by rw [List.getD_eq_getElem?_getD, List.getElem?_eq_getElem hi]; exact h⟩
    rw [this]
    refine ⟨.bl _, H, I.kept (fun b o e => hk b o (fun hm => ?_) (Heap.get?_push_of_some _ e)), rfl, q⟩
    have hb : b = s.heap.objs.size := by simpa using hm
    subst hb
    exact absurd (Heap.lt_size e) (Nat.lt_irrefl _)
theorem uJ (hc : X.calm = true) : c7 X (.builtin "any") (fun xs H Q => ∃ (p : Addr) (bs : List Bool), xs = [.ref p] /\ cA X.K H p (bs.map V.bl) /\ Q (.bl (bs.any id)) H) := by
  intro pins s σ H xs us Q I r h
  obtain ⟨p, bs, rfl, hq, q⟩ := h
  obtain ⟨u, rfl, rx⟩ := eL r
  cases rx
  obtain ⟨its, rv, pl, hz⟩ := I.list hq
  have ei := lX rv
  subst ei
  have hl := pl.isList
  have hlt : p < s.heap.objs.size := by obtain ⟨_, e, _⟩ := hl; exact Heap.lt_size e
  refine call_any_walk (wpAny_pyIter_list hl ?_)
  refine ⟨_, _, _, _, _, _, fun i => bs.getD i false, rfl, Walks.list (A := X.A.in1) (by exact I.ok.hd hc) _ p (Nat.ne_of_lt hlt) (bs.map Value.bool).toArray, ⟨⟨_, Heap.get?_push_size _ rfl, rfl, rfl⟩, hl.push _⟩, ?_, fun h' tk hk => ?_⟩
  . intro i v s' Q' E' hP hQ
    have hP : ((bs.map Value.bool).toArray)[i]? = some v := hP
    simp only [List.getElem?_toArray, List.getElem?_map] at hP
    cases e : bs[i]? with
    | none => rw [e] at hP; cases hP
    | some b =>
      rw [e] at hP; cases hP
      refine wpAny_truthy_bool ?_
      have : bs.getD i false = b := by rw [List.getD_eq_getElem?_getD, e]; rfl
      rw [<- this]; exact hQ
  . have : ((List.range (bs.map Value.bool).toArray.size).any fun i => bs.getD i false) = bs.any id := by
      simp only [List.size_toArray, List.length_map]
      rw [Bool.eq_iff_iff, List.any_eq_true, List.any_eq_true]
      constructor
      . rintro ⟨i, hi, h⟩
        have hi := List.mem_range.mp hi
        rw [List.getD_eq_getElem?_getD, List.getElem?_eq_getElem hi] at h
        exact ⟨_, List.getElem_mem hi, h⟩
      . rintro ⟨x, hx, h⟩
        obtain ⟨i, hi, rfl⟩ := List.mem_iff_getElem.mp hx
        exact ⟨i, List.mem_range.mpr hi, by rw [List.getD_eq_getElem?_getD, List.getElem?_eq_getElem hi]; exact h⟩
    rw [this]
    refine ⟨.bl _, H, I.kept (fun b o e => hk b o (fun hm => ?_) (Heap.get?_push_of_some _ e)), rfl, q⟩
    have hb : b = s.heap.objs.size := by simpa using hm
    subst hb
    exact absurd (Heap.lt_size e) (Nat.lt_irrefl _)
theorem uH : c7 X (.builtin "len") (fun xs H Q => ∃ (p : Addr) (S : Int -> Bool) (n : Nat), xs = [.ref p] /\ H p = some (.set S n) /\ Q (.int n) H) := by
  intro pins s σ H xs us Q I r h
  obtain ⟨p, S, n, rfl, hp, q⟩ := h
  obtain ⟨u, rfl, rx⟩ := eL r
  cases rx
  obtain ⟨o, es, ep, t, h1, h2, h3, _, _, h4, h5, rfl⟩ := (show s.heap.SetOf (intKind X.prog X.w) p S n from I.hok p _ hp)
  exact call_len_set h1 h2 h3 h5 (by unfold scanBound at h4; omega) ⟨.int _, H, I.tok _, ⟨_, rfl⟩, q⟩
def dJ (f : Str) (B : List D -> R1) : Prop := f ∈ gc /\ f ≠ "__name__" /\ (f == ("__debug__" : Str)) = false /\ (B [] = .st) /\ ∀ (X : Cx) (ds : List D) (z : D) (l : Nat) (o : List Prop), X.calm = true -> B ds = .ok (z, l) o -> aF o ->
  ((∃ id, bootBuiltins f = some (.builtin id) /\ gu X (.builtin id) ds z l) \/ ∃ T, bootBuiltins f = some (.type T) /\ gu X (.type T) ds z l)
theorem zC : dJ "len" v5 := by
  refine ⟨by decide +kernel, by decide +kernel, by decide +kernel, rfl, fun X ds z l o hc h _ => .inl ⟨"len", by decide +kernel, ?_⟩⟩
  unfold v5 at h
  split at h
  . cases h
    refine ⟨_, uH, fun ow H0 H2 vs P Q o s rx q => ?_⟩
    obtain ⟨v, rfl, ry⟩ := rx.only
    rw [ak] at ry
    obtain ⟨a, S, rfl, ha⟩ := ry
    exact ⟨a, S, _, rfl, ha, q _ _ (az.refl _) (by rw [ak])⟩
  . split at h
    . rename_i m e
      cases h
      rcases gA e with rfl | rfl
      . exact ua.1
      . exact ua.2
    . cases h
  . cases h
theorem uP : dJ "tuple" pU := by
  refine ⟨by decide +kernel, by decide +kernel, by decide +kernel, rfl, fun X ds z l o hc h hp => .inr ⟨"tuple", by decide +kernel, ?_⟩⟩
  unfold pU at h
  split at h
  . split at h
    . rename_i m e
      cases h
      have c := hp.1
      rcases gA e with rfl | rfl
      . exact (n5 c).2
      . exact (n5 c).1
    . cases h
  . cases h
theorem v4 : dJ "list" sJ := by
  refine ⟨by decide +kernel, by decide +kernel, by decide +kernel, rfl, fun X ds z l o hc h hp => .inr ⟨"list", by decide +kernel, ?_⟩⟩
  unfold sJ at h
  split at h
  . split at h
    . rename_i m e
      cases h
      have c := hp.1
      rcases gA e with rfl | rfl
      . exact (q9 c).2
      . exact (q9 c).1
    . cases h
  . cases h
theorem zI : dJ "abs" we := by
  refine ⟨by decide +kernel, by decide +kernel, by decide +kernel, rfl, fun X ds z l o hc h _ => .inl ⟨"abs", by decide +kernel, ?_⟩⟩
  unfold we at h
  split at h
  . cases h; exact Cj
  . cases h
theorem zH : dJ "all" wb := by
  refine ⟨by decide +kernel, by decide +kernel, by decide +kernel, rfl, fun X ds z l o hc h _ => .inl ⟨"all", by decide +kernel, ?_⟩⟩
  unfold wb at h
  split at h
  . split at h
    . rename_i bs e
      cases h
      cases iV e
      refine ⟨_, uL hc, fun ow H0 H2 vs P Q o s rx q => ?_⟩
      obtain ⟨v, rfl, ry⟩ := rx.only
      obtain ⟨a, ws, rfl, hs, rl⟩ := fJ ry
      exact ⟨a, bs, rfl, by rw [<- rl.mapBl]; exact hs, q _ _ (az.refl _) (by rw [ak])⟩
    . cases h
  . cases h
theorem zG : dJ "any" wa := by
  refine ⟨by decide +kernel, by decide +kernel, by decide +kernel, rfl, fun X ds z l o hc h _ => .inl ⟨"any", by decide +kernel, ?_⟩⟩
  unfold wa at h
  split at h
  . split at h
    . rename_i ns e
      cases h
      cases gX e
      refine ⟨_, uK hc, fun ow H0 H2 vs P Q o s rx q => ?_⟩
      obtain ⟨v, rfl, ry⟩ := rx.only
      obtain ⟨a, ws, rfl, hs, rl⟩ := fJ ry
      exact ⟨a, ns, rfl, by rw [<- rl.mapInt]; exact hs, q _ _ (az.refl _) (by rw [ak])⟩
    . split at h
      . rename_i bs e
        cases h
        cases iV e
        refine ⟨_, uJ hc, fun ow H0 H2 vs P Q o s rx q => ?_⟩
        obtain ⟨v, rfl, ry⟩ := rx.only
        obtain ⟨a, ws, rfl, hs, rl⟩ := fJ ry
        exact ⟨a, bs, rfl, by rw [<- rl.mapBl]; exact hs, q _ _ (az.refl _) (by rw [ak])⟩
      . cases h
  . cases h
theorem zA : dJ "sum" v3 := by
  refine ⟨by decide +kernel, by decide +kernel, by decide +kernel, rfl, fun X ds z l o hc h _ => .inl ⟨"sum", by decide +kernel, ?_⟩⟩
  unfold v3 at h
  split at h
  . split at h
    . rename_i bs e
      cases h
      cases gX e
      refine ⟨_, uG hc, fun ow H0 H2 vs P Q o s rx q => ?_⟩
      obtain ⟨v, rfl, ry⟩ := rx.only
      obtain ⟨a, ws, rfl, hs, rl⟩ := fJ ry
      exact ⟨a, bs, rfl, by rw [<- rl.mapInt]; exact hs, q _ _ (az.refl _) (by rw [ak])⟩
    . cases h
  . cases h
theorem yZ (b : Bool) : (if b = true then (1 : Int) else 0) = cond b 1 0 := by cases b <;> rfl
theorem zF : dJ "int" v8 := by
  refine ⟨by decide +kernel, by decide +kernel, by decide +kernel, rfl, fun X ds z l o hc h hp => .inr ⟨"int", by decide +kernel, ?_⟩⟩
  unfold v8 at h
  split at h
  . cases h
    refine ⟨_, nr, fun ow H0 H2 vs P Q o s rx q => ?_⟩
    obtain ⟨v, rfl, ry⟩ := rx.only
    rw [ak] at ry; subst ry
    exact .inl ⟨_, rfl, q _ _ (az.refl _) (by rw [ak])⟩
  . cases h
    refine ⟨_, nr, fun ow H0 H2 vs P Q o s rx q => ?_⟩
    obtain ⟨v, rfl, ry⟩ := rx.only
    rw [ak] at ry; subst ry
    exact .inr ⟨_, rfl, q _ _ (az.refl _) (by rw [ak, yZ])⟩
  . cases h
theorem zE : dJ "isinstance" v7 := by
  refine ⟨by decide +kernel, by decide +kernel, by decide +kernel, rfl, fun X ds z l o hc h _ => .inl ⟨"isinstance", by decide +kernel, ?_⟩⟩
  unfold v7 at h
  split at h
  . rename_i m ns es n
    split at h
    . rename_i hmn
      subst hmn
      cases h
      have cr : c7 X (.builtin "isinstance") (fun xs H Q => ∃ a C dx fs, xs = [.ref a, .ref C] /\ H a = some (.ins C dx fs) /\ dH X.K C /\ lU X.K C /\ Q (.bl true) H) := by
        intro pins s σ H xs us Q I r hh
        obtain ⟨a, C, dx, fs, rfl, ea, hc, ho, q⟩ := hh
        obtain ⟨u, u2, rfl, ru, ru2⟩ := kK r
        cases (show u2 = Value.ref C from ru2)
        exact nh I ru (.ins ea hc ho.ha ho.hn ho.ht ho.hm) (re _) fun tk => ⟨.bl true, H, I.tok tk, rfl, q⟩
      refine ⟨_, cr, fun ow H0 H2 vs P Q o s rx q => ?_⟩
      rw [ao] at rx
      obtain ⟨v, r, rfl, r1, r2⟩ := rx
      obtain ⟨w, rfl, r3⟩ := r2.only
      rw [ak] at r1
      rw [ak] at r3
      obtain ⟨_, _, a, C, dx, vs, rfl, h1, h2, h3, _⟩ := r1
      obtain ⟨C', o', rfl, h4, _, _, h5, _⟩ := r3
      rw [h1] at h4; cases h4
      exact ⟨a, C, dx, _, rfl, h3, h2, h5, q _ _ (az.refl _) (by rw [ak])⟩
    . split at h
      . rename_i hmn
        cases h
        have cr : c7 X (.builtin "isinstance") (fun xs H Q => ∃ a C C' dx fs, xs = [.ref a, .ref C'] /\ H a = some (.ins C dx fs) /\ dH X.K C /\ lU X.K C /\ W.kitOne X.K (.ref C) (.ref C') = some (dj m n) /\ Q (.bl (dj m n)) H) := by
          intro pins s σ H xs us Q I r hh
          obtain ⟨a, C, C', dx, fs, rfl, ea, hc, ho, hk, q⟩ := hh
          obtain ⟨u, u2, rfl, ru, ru2⟩ := kK r
          cases (show u2 = Value.ref C' from ru2)
          exact nh I ru (.ins ea hc ho.ha ho.hn ho.ht ho.hm) hk fun tk => ⟨.bl (dj m n), H, I.tok tk, rfl, q⟩
        refine ⟨_, cr, fun ow H0 H2 vs P Q o s rx q => ?_⟩
        rw [ao] at rx
        obtain ⟨v, r, rfl, r1, r2⟩ := rx
        obtain ⟨w, rfl, r3⟩ := r2.only
        rw [ak] at r1
        rw [ak] at r3
        obtain ⟨_, _, a, C, dx, vs, rfl, h1, h2, h3, _⟩ := r1
        obtain ⟨C', o', rfl, _, _, _, _, h5⟩ := r3
        obtain ⟨h6, h7⟩ := h5.all m hmn C h1
        exact ⟨a, C, C', dx, _, rfl, h3, h2, h6, h7, q _ _ (az.refl _) (by rw [ak])⟩
      . cases h
  . rename_i x T
    split at h
    . rename_i hT
      split at h
      . rename_i b hb
        cases h
        obtain ⟨h1, h2⟩ := Bx hb hT
        have cr : c7 X (.builtin "isinstance") (fun xs H Q => ∃ v P, xs = [v, .ty T] /\ ak X.K H P x v /\ Q (.bl b) H) := by
          intro pins s σ H xs us Q I r hh
          obtain ⟨v, P, rfl, rp, q⟩ := hh
          obtain ⟨u, u2, rfl, ru, ru2⟩ := kK r
          cases (show u2 = Value.type T from ru2)
          exact Bw h1 h2 I rp ru fun tk => ⟨.bl b, H, I.tok tk, rfl, q⟩
        refine ⟨_, cr, fun ow H0 H2 vs P Q o s rx q => ?_⟩
        rw [ao] at rx
        obtain ⟨v, r, rfl, r1, r2⟩ := rx
        obtain ⟨w, rfl, r3⟩ := r2.only
        rw [ak] at r3; subst r3
        exact ⟨v, P, rfl, r1, q _ _ (az.refl _) (by rw [ak])⟩
      . cases h
    . cases h
  . cases h
end Sp
set_option Elab.async false
set_option linter.all false
set_option maxRecDepth 100000
namespace Sp
open PySem PySem.Spec PyProof.Rows L2
def jh (K : W.Frag) (F : List D -> Rs D) : Sp := fun vs H Q _ => ∃ ds r l, ao K H (fun _ _ => True) ds vs /\ F ds = .ok r l /\ aF l /\ ∀ v H', az H H' -> ak K H' (fun a b => b = true /\ H a = none) r v -> Q v H'
def xJ (X : Cx) (g : Str) (F : List D -> Rs D) : Prop := ∃ k f fd ps, bv X.prog X.w X.K X.mg X.base c9 k f fd ps (jh X.K F) /\ bQ k X.A /\ X.mg g = some (.ref f) /\ W.keepIn X.K (.ref f) = true /\ bV X.K fd ps [] /\ (g == ("__debug__" : Str)) = false
def mU (K : W.Frag) (n : Str) (F : List D -> Rs D) : Sp := fun vs H Q _ => ∃ x ws C dx ds r l, vs = .ref x :: ws /\ H x = some (.ins C dx []) /\ W.nsIn K mainGlobals n = some (some (.ref C)) /\ dH K C /\ ao K H (fun _ _ => True) ds ws /\ F ds = .ok r l /\ aF l /\ r.lless = true /\
  ∀ H', (∀ a o, a ≠ x -> H a = some o -> H' a = some o) -> ak K H' (fun _ _ => True) r (.ref x) -> Q .non H'
def Cq (X : Cx) (g : Str) (F : List D -> Rs D) : Prop := ∃ k C f fd ps, (∀ ds r l, F ds = .ok r l -> r.lless = true) /\ Mk X.K C f /\ bv X.prog X.w X.K X.mg X.base c9 k f fd ps (mU X.K g F) /\ bQ (k + 1) X.A /\ X.mg g = some (.ref C) /\ W.nsIn X.K mainGlobals g = some (some (.ref C)) /\ dH X.K C /\ bV X.K fd ps [] /\ (g == ("__debug__" : Str)) = false
def EV (X : Cx) (g : Str) (F : List D -> Rs D) : Prop := xJ X g F \/ Cq X g F
def Cr (X : Cx) (n m : Str) (F : List D -> Rs D) : Prop := ∃ k C f fd ps, W.nsIn X.K mainGlobals n = some (some (.ref C)) /\ dH X.K C /\ mQ X.K C m f /\ bv X.prog X.w X.K X.mg X.base c9 k f fd ps (jh X.K F) /\ bQ k X.A /\ bV X.K fd ps []
def lT (f : Str) (B : List D -> Nat -> R1) : Prop := f ∈ gc /\ ∀ (X : Cx) (ρ : al) (p pos : Pos) (args : List Expr) (ds : List D) (k : Nat) (d : D) (j : Nat) (l : List D) (tg : Expr) (o : List Prop), X.calm = true -> Gl X f -> X.mg f = none -> AD X ρ args ds k ->
  (∀ e ∈ args, ∀ x p, e ≠ .Starred x p) -> args.length = ds.length -> B ds k = .ok (d, j) o -> aF o -> items d = some l -> fy (.Call (.Name f p) args [] pos) tg = true -> IE X ρ tg (.Call (.Name f p) args [] pos) l j
def sW (m : Str) (M : D -> List D -> R1) : Prop := ∀ (X : Cx) (ρ : al) (a : Expr) (args : List Expr) (ap cp : Pos) (x : D) (k : Nat) (ds : List D) (j : Nat) (z : D) (l : Nat) (o : List Prop), X.calm = true -> X.A.units + 70 < cLine -> ED X ρ a x k -> AD X ρ args ds j ->
  (∀ e ∈ args, ∀ x p, e ≠ .Starred x p) -> args.length = ds.length -> (ap.endLine == cp.line) = true -> gL a = true -> M x ds = .ok (z, l) o -> aF o -> ED X ρ (.Call (.Attribute a m ap) args [] cp) z l
def lR (m : Str) (M : List D -> List D -> Nat -> Rs (List D)) : Prop := ∀ X : Cx, X.calm = true -> ∃ (id : String) (r : V -> List V -> Hp -> VK -> Prop), Slot "list" m id /\ typeOf (.builtin id) = pure (.type "method_descriptor") /\ Dx X id r /\
  ∀ (ow : Ow) (H0 H : Hp) (l ds l' : List D) (j : Nat) (o : List Prop) (a : Addr) (vs ws : List V), M l ds j = .ok l' o -> aF o -> ds.length < 29 /\ (∀ (P : bw) (Q : VK), (∀ b c, Kp ow H0 0 b c -> P b c) -> eu ow H0 -> az H0 H -> H a = some (.lst vs) -> ao X.K H P l vs -> ao X.K H (Kp ow H0 j) ds ws ->
    (∀ vs', ao X.K H P l' vs' -> Q .non (be H a (.lst vs'))) -> r (.ref a) ws H Q)
def Fb (X : Cx) (ow : Ow) (ρ : al) (o : Option Int) : TO := fun σ H Q => aP X ow H σ ρ /\ ∀ H', az H H' -> Q o H'
def OD (X : Cx) (ρ : al) (e : Option Expr) (o : Option Int) : Prop := ∀ ow, PO X e (Fb X ow ρ o)
def lP (F : D -> Option Int -> Option Int -> R1) : Prop := ∀ (X : Cx) (ρ : al) (a : Expr) (lo hi : Option Expr) (p2 pos : Pos) (x z : D) (l h : Option Int) (k j : Nat) (o : List Prop), ED X ρ a x k -> OD X ρ lo l -> OD X ρ hi h -> F x l h = .ok (z, j) o -> aF o -> ED X ρ (.Subscript a (.Slice lo hi none p2) pos) z j
structure aT (Φ : Fx) (X : Cx) (sc : Scope) : Prop where
  calm : X.calm = true
  nd : X.N.Nodup
  gl : ∀ x, sc.names.lookup x = some .globalImplicit -> Gl X x
  kc : ∀ x, (sc.names.lookup x = some .cell \/ sc.names.lookup x = some .free) -> X.env.kindOf x = some .cell \/ X.env.kindOf x = some .free
  lc : ∀ x, sc.names.lookup x = some .local -> X.env.scope.names.lookup x = some .local
  cc : ∀ x, sc.names.lookup x = some .cell -> X.env.scope.names.lookup x = some .cell
  fn : ∀ g F, Φ.fn g = some F -> EV X g F
  con : ∀ x d, Φ.con x = some d -> ∃ v u, X.mg x = some u /\ bi v u /\ ∀ H P, ak X.K H P d v
  blt : ∀ f B, Φ.blt f = some B -> dJ f B
  itr : ∀ f B, Φ.itr f = some B -> lT f B
  mth : ∀ m M, Φ.mth m = some M -> sW m M
  mtt : ∀ m M, Φ.mtt m = some M -> lR m M
  slf : lP Φ.slf
  fld : ∀ n f, Φ.fld n f = true -> ∀ C, W.nsIn X.K mainGlobals n = some (some (.ref C)) -> bn X.K C f
  omt : ∀ n m F, Φ.omt n m = some F -> Cr X n m F
  bl : ∀ f ∈ gc, X.mg f = none
  room : X.A.units + 70 < cLine
  ns : ∀ x, dC sc x = true -> x ∈ X.N
  ft : ∀ x, sc.names.lookup x = some .cell -> X.fn x = true
variable {X : Cx}
theorem dw {x : Str} (h : ff x = true) : (x == ("__debug__" : Str)) = false /\ (x == ("__classdict__" : Str)) = false := by
  unfold ff at h
  rw [Bool.and_eq_true] at h
  exact ⟨of_decide_eq_true h.1, of_decide_eq_true h.2⟩
theorem zh {ρ : al} {x : Str} {pos : Pos} {d : D} {o : Bool} (h : ρ x = some (d, o)) (hx : ff x = true) : ED X ρ (.Name x pos) d (kn d (cond o 2 1)) := by
  refine ED.kn fun ow pins s σ H Q I ⟨E, q⟩ => ?_
  obtain ⟨i, v, e1, e2, e3, e4⟩ := E.get x d o h
  refine gC (i := i) e1 e2 (dw hx).1 (dw hx).2 pins s σ H Q I ⟨v, e3, q v H (az.refl _) (e4.imp fun a b p => ?_)⟩
  cases o with
  | true => exact ⟨p.1, .inl (by rw [p.2]; exact (fun z => nomatch z))⟩
  | false => exact p
theorem BY {Φ : Fx} {sc : Scope} {ρ : al} {x : Str} {pos : Pos} {d : D} (G : aT Φ X sc) (h : Φ.con x = some d) (hg : sc.names.lookup x = some .globalImplicit) (hx : ff x = true) : ED X ρ (.Name x pos) d 0 := by
  obtain ⟨v, u, h1, h2, h3⟩ := G.con x d h
  exact fun ow => bU (yz (G.gl x hg) h1 h2 (dw hx).1) fun σ H Q ⟨E, q⟩ => q v H (az.refl _) (h3 H _)
theorem xO {x : Str} {T : String} (h : rJ x = some T) : bootBuiltins x = some (.type T) /\ x ≠ "__name__" /\ (x == ("__debug__" : Str)) = false /\ x ∈ gc := by
  unfold rJ at h
  split at h
  . rename_i e; subst e; cases h; exact ⟨by decide +kernel, by decide +kernel, by decide +kernel, by decide +kernel⟩
  split at h
  . rename_i e; subst e; cases h; exact ⟨by decide +kernel, by decide +kernel, by decide +kernel, by decide +kernel⟩
  split at h
  . rename_i e; subst e; cases h; exact ⟨by decide +kernel, by decide +kernel, by decide +kernel, by decide +kernel⟩
  split at h
  . rename_i e; subst e; cases h; exact ⟨by decide +kernel, by decide +kernel, by decide +kernel, by decide +kernel⟩
  split at h
  . rename_i e; subst e; cases h; exact ⟨by decide +kernel, by decide +kernel, by decide +kernel, by decide +kernel⟩
  split at h
  . rename_i e; subst e; cases h; exact ⟨by decide +kernel, by decide +kernel, by decide +kernel, by decide +kernel⟩
  . cases h
theorem BV {Φ : Fx} {sc : Scope} {ρ : al} {x : Str} {pos : Pos} {T : String} (G : aT Φ X sc) (h : rJ x = some T) (hg : sc.names.lookup x = some .globalImplicit) : ED X ρ (.Name x pos) (.typ T) 0 := by
  obtain ⟨h1, h2, h3, h4⟩ := xO h
  exact fun ow => bU (yC (v := .ty T) (G.gl x hg) (G.bl x h4) h1 rfl h2 h3) fun σ H Q ⟨E, q⟩ => q _ H (az.refl _) (by rw [ak])
theorem BX {ρ : al} {c : Const} {n : Nat} {pos : Pos} {d : D} (h : xu c = some d) : ED X ρ (.Constant c n pos) d 0 := by
  intro ow
  unfold xu at h
  split at h
  . cases h; exact bU AX fun σ H Q ⟨E, q⟩ => q _ H (az.refl _) (by rw [ak])
  . cases h; exact bU CV fun σ H Q ⟨E, q⟩ => q _ H (az.refl _) (by rw [ak])
  . cases h; exact bU AZ fun σ H Q ⟨E, q⟩ => q _ H (az.refl _) (by rw [ak])
  . cases h; exact bU AU fun σ H Q ⟨E, q⟩ => q _ H (az.refl _) (by rw [ak])
  . cases h
theorem B3 {ρ : al} {a b : Expr} {op : Operator} {pos : Pos} {x y z : D} {k j l : Nat} (ha : ED X ρ a x k) (hb : ED X ρ b y j) {o : List Prop} (h : sI op x y k j = .ok (z, l) o) (hp : aF o) : ED X ρ (.BinOp a op b pos) z l := by
  obtain ⟨r, h1, h2⟩ := Cb (X := X) h hp
  refine fun ow => bU (CT h1 (ha ow) (hb ow)) fun σ H Q ⟨E, q⟩ => ⟨E, fun v H1 s1 r1 => ⟨E.same s1, fun u H2 s2 r2 => ?_⟩⟩
  exact h2 ow H H2 v u Q E.own (s1.trans s2) (r1.same s2) (r2.imp (Kp.back s1 j)) fun w H' s3 r3 => q w H' ((s1.trans s2).trans s3) r3
theorem Dn {ρ : al} {a : Expr} {op : UnaryOp} {pos : Pos} {x z : D} {k : Nat} (ha : ED X ρ a x k) (h : wD op x = some z) : ED X ρ (.UnaryOp op a pos) z 0 := by
  unfold wD at h
  split at h
  . cases h
    refine fun ow => bU (CS zP (ha ow)) fun σ H Q ⟨E, q⟩ => ⟨E, fun v H1 s1 r1 => ?_⟩
    rw [ak] at r1; subst r1
    exact ⟨_, rfl, q _ H1 s1 (by rw [ak])⟩
  . cases h
    refine fun ow => bU (AW (ha ow)) fun σ H Q ⟨E, q⟩ => ⟨E, fun v H1 s1 r1 => ?_⟩
    rw [ak] at r1; subst r1
    exact ⟨_, rfl, q _ H1 s1 (by rw [ak])⟩
  . cases h
theorem BZ {ρ : al} {a b : Expr} {op : CmpOp} {pos : Pos} {x y : D} {r : Bool} {k j : Nat} (hu : X.A.units + 70 < cLine) {o : List Prop} (ha : ED X ρ a x k) (hb : ED X ρ b y j) (h : jw op x y = .ok r o) (hp : aF o) (hm : behindInMarks op b = false) : ED X ρ (.Compare a [op] [b] pos) (.bl r) 0 := by
  have c := iF hu h hp
  intro ow pins s σ H Q I ⟨E, q⟩
  refine wpAny_Compare1 (Dt (ha ow) (hb ow) I (R := fun v u H2 => az H H2 /\ ak X.K H2 (fun _ _ => True) x v /\ ak X.K H2 (fun _ _ => True) y u) ⟨E, fun v H1 s1 r1 => ⟨E.same s1, fun u H2 s2 r2 => ⟨s1.trans s2, (r1.imp fun _ _ _ => True.intro).same s2, r2.imp fun _ _ _ => True.intro⟩⟩⟩ fun v u s2 x y H2 I2 rx ry ⟨sm, r1, r2⟩ => ?_) hm
  exact c _ _ pins s2 σ H2 x y v u Q I2 rx ry ⟨r1, r2, q _ H2 sm (by rw [ak])⟩
theorem zr {op op2 : CmpOp} {x y z : D} {r : D × Nat} {l : List Prop} (h : B8 op op2 x y z = .ok r l) : ∃ a b c r1 r2, x = .int a /\ y = .int b /\ z = .int c /\ fE op a b = some r1 /\ fE op2 b c = some r2 /\ r = (.bl (r1 && r2), 0) := by
  unfold B8 at h
  split at h
  . split at h
    . rename_i h1 h2; cases h; exact ⟨_, _, _, _, _, rfl, rfl, rfl, h1, h2, rfl⟩
    . cases h
  . cases h
theorem lB {op : CmpOp} {a b : Int} {r : Bool} (h : fE op a b = some r) : jw op (.int a) (.int b) = .ok r [] := by
  unfold fE at h
  split at h <;> first | (cases h; rfl) | cases h
theorem vS {ρ : al} {a b c : Expr} {op op2 : CmpOp} {pos : Pos} {x y z : Int} {r r2 : Bool} {k j i : Nat} (hu : X.A.units + 70 < cLine) (ha : ED X ρ a (.int x) k) (hb : ED X ρ b (.int y) j) (hc : ED X ρ c (.int z) i) (h : fE op x y = some r) (h2 : fE op2 y z = some r2) (hm : behindInMarks op2 c = false) : ED X ρ (.Compare a [op, op2] [b, c] pos) (.bl (r && r2)) 0 := by
  have c1 := iF (X := X) hu (lB h) (show aF [] from True.intro)
  have c2 := iF (X := X) hu (lB h2) (show aF [] from True.intro)
  refine fun ow => bU (vt (c1 (fun _ _ => True) (fun _ _ => True)) (c2 (fun _ _ => True) (fun _ _ => True)) (ha ow) (hb ow) (hc ow) hm) fun σ H Q ⟨E, q⟩ => ⟨E, fun v H1 s1 r1 => ⟨E.same s1, fun u H2 s2 r2 => ?_⟩⟩
  rw [ak] at r1 r2
  subst r1 r2
  refine ⟨by rw [ak], by rw [ak], r, rfl, ?_⟩
  cases r with
  | false => exact q _ H2 (s1.trans s2) (by rw [ak]; rfl)
  | true =>
    rw [if_pos rfl]
    refine ⟨(E.same s1).same s2, fun w H3 s3 r3 => ?_⟩
    rw [ak] at r3
    subst r3
    exact ⟨by rw [ak], by rw [ak], q _ H3 ((s1.trans s2).trans s3) (by rw [ak]; rfl)⟩
theorem Cu {ρ : al} {e : Expr} {b : Bool} {k : Nat} (h : ED X ρ e (.bl b) k) (he : ∀ whole, isTrue e X.env whole = (do let v <- whole; standAt e.pos; holding [v] (truthy v))) : TD X ρ e b :=
  fun ow => sU (AJ (h ow) he) fun σ H Q ⟨E, q⟩ => ⟨E, fun v H1 s1 r1 => by rw [ak] at r1; exact ⟨b, r1, q H1 s1⟩⟩
theorem lF {ρ : al} : AD X ρ [] [] 0 := fun ow => xD A5 fun σ H Q ⟨E, q⟩ => q [] H (az.refl _) ao.nil
theorem jT {ρ : al} {e : Expr} {es : List Expr} {d : D} {ds : List D} {k j : Nat} (h1 : ED X ρ e d k) (h2 : AD X ρ es ds j) (hs : starEach (e :: es) X.env = (false, eval e X.env) :: starEach es X.env) : AD X ρ (e :: es) (d :: ds) (kj k j) :=
  fun ow => xD (gw (h1 ow) (h2 ow) hs) fun σ H Q ⟨E, q⟩ => ⟨E, fun v H1 s1 r1 => ⟨E.same s1, fun vs H2 s2 r2 => q _ H2 (s1.trans s2) (ao.cons ((r1.imp (Kp.joinL E.own k j)).same s2) (r2.imp fun a b p => Kp.joinR E.own k j a b (Kp.back s1 j a b p)))⟩⟩
theorem vQ {ρ : al} {es : List Expr} {n : Nat} {pos : Pos} {ds : List D} {k : Nat} (h : AD X ρ es ds k) (hl : ds.length <= cP) : ED X ρ (.Tuple es n pos) (.tup ds) (kn (.tup ds) k) := by
  refine ED.kn fun ow => bU (AT (h ow)) fun σ H Q ⟨E, q⟩ => ⟨E, fun vs H1 s1 r1 => ⟨by rw [<- r1.length]; exact Nat.le_trans hl eM, fun p hp => ?_⟩⟩
  have sm := dk (o := HO.tup vs) hp
  refine q _ _ (s1.trans sm) ?_
  rw [ak]
  exact ⟨p, vs, rfl, cz.of aS, r1.same sm⟩
theorem zk {ρ : al} {es : List Expr} {pos : Pos} {ds : List D} {k : Nat} (h : AD X ρ es ds k) (hk : k <= 1) (hl : ds.length <= cP) : ED X ρ (.List es pos) (.lst ds) k := by
  refine fun ow => bU (AY (h ow)) fun σ H Q ⟨E, q⟩ => ⟨E, fun vs H1 s1 r1 => ⟨by rw [<- r1.length]; exact Nat.le_trans hl eM, fun p hp => ?_⟩⟩
  have sm := dk (o := HO.lst vs) hp
  refine q _ _ (s1.trans sm) ?_
  rw [ak]
  exact ⟨p, vs, true, rfl, aS, ue E.own (s1.free hp) hk, r1.same sm⟩
theorem xt {ρ : al} {c a b : Expr} {pos : Pos} {t : Bool} {d : D} {k : Nat} (hc : TD X ρ c t) (h : if t = true then ED X ρ a d k else ED X ρ b d k) : ED X ρ (.IfExp c a b pos) d k := by
  cases t with
  | true =>
    intro ow pins s σ H Q I ⟨E, q⟩
    refine PyProof.Rows.IfExp_ (aL (hc ow pins s σ H (fun t H1 => t = true /\ az H H1) I ⟨E, fun H1 s1 => ⟨rfl, s1⟩⟩) fun t s1 ⟨H1, I1, e1, s1'⟩ => ?_)
    subst e1
    exact h ow pins s1 σ H1 Q I1 ⟨E.same s1', fun v H2 s2 r2 => q v H2 (s1'.trans s2) (r2.imp (Kp.back s1' k))⟩
  | false =>
    intro ow pins s σ H Q I ⟨E, q⟩
    refine PyProof.Rows.IfExp_ (aL (hc ow pins s σ H (fun t H1 => t = false /\ az H H1) I ⟨E, fun H1 s1 => ⟨rfl, s1⟩⟩) fun t s1 ⟨H1, I1, e1, s1'⟩ => ?_)
    subst e1
    exact h ow pins s1 σ H1 Q I1 ⟨E.same s1', fun v H2 s2 r2 => q v H2 (s1'.trans s2) (r2.imp (Kp.back s1' k))⟩
end Sp
set_option Elab.async false
set_option linter.all false
set_option maxRecDepth 100000
namespace Sp
open PySem PySem.Spec PyProof.Rows L2
variable {X : Cx}
theorem ao.atI {K : W.Frag} {P : bw} {H : Hp} {l : List D} {vs : List V} {i : Int} {d : D} (h : ao K H P l vs) (e : L2.atI l i = some d) : ∃ v, L2.atI vs i = some v /\ ak K H P d v := by
  unfold L2.atI at e ⊢
  rw [<- h.length]
  cases q : ixN l.length i with
  | none => rw [q] at e; cases e
  | some j => rw [q] at e; exact h.get e
theorem Do {ρ : al} {a b : Expr} {pos : Pos} {x z : D} {i : Int} {k j l : Nat} {o : List Prop} (ha : ED X ρ a x k) (hb : ED X ρ b (.int i) j) (hs : mP b) (h : lh x i k = .ok (z, l) o) : ED X ρ (.Subscript a b pos) z l := by
  unfold lh at h
  split at h
  . rename_i m e0
    split at h
    . rename_i d e
      unfold mk at h
      cases h
      rcases gA e0 with rfl | rfl
      . refine ED.kn fun ow => bU (wU Bv (ha ow) (hb ow) hs) fun σ H Q ⟨E, q⟩ => ⟨E, fun v H1 s1 r1 => ⟨E.same s1, fun u H2 s2 r2 => ?_⟩⟩
        obtain ⟨p, vs, rfl, hq, rl⟩ := eD (r1.same s2)
        rw [ak] at r2; subst r2
        obtain ⟨w, h1, h2⟩ := rl.atI e
        exact ⟨p, vs, i, w, rfl, rfl, hq, h1, q w H2 (s1.trans s2) h2⟩
      . refine ED.kn fun ow => bU (wU yY (ha ow) (hb ow) hs) fun σ H Q ⟨E, q⟩ => ⟨E, fun v H1 s1 r1 => ⟨E.same s1, fun u H2 s2 r2 => ?_⟩⟩
        obtain ⟨p, vs, rfl, hq, rl⟩ := fJ (r1.same s2)
        rw [ak] at r2; subst r2
        obtain ⟨w, h1, h2⟩ := rl.atI e
        exact ⟨p, vs, i, w, rfl, rfl, hq, h1, q w H2 (s1.trans s2) h2⟩
    . cases h
  . cases h
theorem xC {X : Cx} {e : Option Expr} {t t' : TO} (h : PO X e t) (i : ∀ σ H Q, t' σ H Q -> t σ H Q) : PO X e t' := fun pins s σ H Q I q => h pins s σ H Q I (i σ H Q q)
theorem yK {ρ : al} : OD X ρ none none := fun ow => xC yr fun σ H Q ⟨E, q⟩ => q H (az.refl _)
theorem yJ {ρ : al} {e : Expr} {i : Int} {k : Nat} (h : ED X ρ e (.int i) k) : OD X ρ (some e) (some i) := fun ow => xC (yq (h ow)) fun σ H Q ⟨E, q⟩ => ⟨E, fun v H1 s1 r1 => by rw [ak] at r1; exact ⟨i, r1, q H1 s1⟩⟩
theorem ao.cut {K : W.Frag} {P : bw} {H : Hp} {l : List D} {vs : List V} {lo hi : Option Int} (h : ao K H P l vs) : ao K H P (mE l lo hi) (ig vs lo hi) := by
  unfold mE ig
  rw [<- h.length]
  exact (h.drop _).take _
theorem ia : ∀ {l : List D} {n : Nat}, aA l = true -> aA (l.take n) = true
  | [], n, h => by simp [aA]
  | d :: l, 0, h => by simp [aA]
  | d :: l, n + 1, h => by
    rw [aA, Bool.and_eq_true] at h
    rw [List.take_succ_cons, aA, Bool.and_eq_true]; exact ⟨h.1, ia h.2⟩
theorem ic : ∀ {l : List D} {n : Nat}, aA l = true -> aA (l.drop n) = true
  | [], n, h => by simp [aA]
  | d :: l, 0, h => h
  | d :: l, n + 1, h => by
    rw [aA, Bool.and_eq_true] at h
    exact ic (n := n) h.2
theorem vR {ρ : al} {a : Expr} {lo hi : Option Expr} {p2 pos : Pos} {x z : D} {l h : Option Int} {k j : Nat} (ha : ED X ρ a x k) (hl : OD X ρ lo l) (hh : OD X ρ hi h) {o : List Prop} (e : aQ x l h = .ok (z, j) o) (hp : aF o) : ED X ρ (.Subscript a (.Slice lo hi none p2) pos) z j := by
  unfold aQ at e
  split at e
  . rename_i m
    . cases e
      have c : aA m = true /\ ¬ (HT.sIx m.length 0 l = 0 /\ HT.sIx m.length m.length h = m.length) := ⟨hp.1, by have hx := hp.2.1; unfold B6 at hx; intro z; rw [decide_eq_true z.1, decide_eq_true z.2] at hx; cases hx⟩
      refine fun ow => bU (oJ Am (ha ow) (hl ow) (hh ow)) fun σ H Q ⟨E, q⟩ => ⟨E, fun v H1 s1 r1 => ⟨E.same s1, fun H2 s2 => ⟨(E.same s1).same s2, fun H3 s3 => ?_⟩⟩⟩
      have s13 := s2.trans s3
      obtain ⟨p, vs, rfl, hq, rl⟩ := eD (r1.same s13)
      refine ⟨p, vs, rfl, hq, by rw [<- rl.length]; exact c.2, fun p' hp' => ?_⟩
      have sm := dk (o := HO.tup (ig vs l h)) hp'
      refine q _ _ ((s1.trans s13).trans sm) ?_
      rw [ak]
      exact ⟨p', _, rfl, cz.of aS, ao.flat _ (by unfold mE; exact ia (ic c.1)) (rl.cut.same sm)⟩
  . rename_i m
    . cases e
      have c : aA m = true := hp.1
      refine fun ow => bU (oJ x5 (ha ow) (hl ow) (hh ow)) fun σ H Q ⟨E, q⟩ => ⟨E, fun v H1 s1 r1 => ⟨E.same s1, fun H2 s2 => ⟨(E.same s1).same s2, fun H3 s3 => ?_⟩⟩⟩
      have s13 := s2.trans s3
      obtain ⟨p, vs, rfl, hq, rl⟩ := fJ (r1.same s13)
      refine ⟨p, vs, rfl, hq, fun p' hp' => ?_⟩
      have sm := dk (o := HO.lst (ig vs l h)) hp'
      refine q _ _ ((s1.trans s13).trans sm) ?_
      rw [ak]
      exact ⟨p', _, true, rfl, aS, ⟨rfl, (s1.trans s13).free hp'⟩, ao.flat _ (by unfold mE; exact ia (ic c)) (rl.cut.same sm)⟩
  . cases e
theorem ay : lP aQ := fun X ρ a lo hi p2 pos x z l h k j o ha hl hh e hp => vR ha hl hh e hp
theorem bP {env : Env} {pos : Pos} : ∀ {es : List Expr}, (∀ e ∈ es, ∀ x p, e ≠ .Starred x p) -> (backTo pos (starEach es env)).any (·.1) = false
  | [], _ => rfl
  | e :: es, h => by
    have ih := bP (env := env) (es := es) (pos := pos) fun x hx => h x (List.mem_cons_of_mem _ hx)
    have he := h e List.mem_cons_self
    cases e <;> first | exact absurd rfl (he _ _) | exact ih
theorem aO {e : Expr} {es : List Expr} {env : Env} (h : ∀ x p, e ≠ .Starred x p) : starEach (e :: es) env = (false, eval e env) :: starEach es env := by
  cases e <;> first | exact absurd rfl (h _ _) | rfl
theorem vT {Φ : Fx} {sc : Scope} {ρ : al} {f : Str} {p pos : Pos} {args : List Expr} {F : List D -> Rs D} {ds : List D} {k : Nat} {r : D} {o : List Prop} (G : aT Φ X sc) (hf : xJ X f F) (hg : sc.names.lookup f = some .globalImplicit)
    (ha : AD X ρ args ds k) (hst : ∀ e ∈ args, ∀ x p, e ≠ .Starred x p) (hnil : args = [] -> ds = []) (h : F ds = .ok r o) (hp : aF o) : ED X ρ (.Call (.Name f p) args [] pos) r 0 := by
  obtain ⟨n, fa, fd, ps, hF, hr, hm, hk, hb, hd⟩ := hf
  intro ow
  cases args with
  | nil =>
    refine bU (vx hF hr (G.gl f hg) hm hk hb .nil gU hd) fun σ H Q ⟨E, q⟩ => ?_
    have hds := hnil rfl
    subst hds
    exact ⟨[], r, o, ao.nil, h, hp, fun v H' s1 r1 => q v H' s1 r1⟩
  | cons e es =>
    refine bU (yA hF hr (G.gl f hg) hm hk hb .nil gU (ha ow) hd (aO (hst e List.mem_cons_self)) (bP fun x hx => hst x (List.mem_cons_of_mem _ hx))) fun σ H Q ⟨E, q⟩ => ⟨E, fun vs H1 s1 r1 => ?_⟩
    refine ⟨ds, r, o, by rw [List.append_nil]; exact r1.imp fun _ _ _ => True.intro, h, hp, fun v H' s2 r2 => q v H' (s1.trans s2) (r2.imp fun a b p => ⟨p.1, s1.free p.2⟩)⟩
theorem fT {H : Hp} {x dx C : Addr} (hx : H x = none) (hd : H dx = none) : az H (be (be H dx (.own x)) x (.ins C dx [])) := fun a o h => by
  rw [aG (fun z => by subst z; rw [hx] at h; cases h), aG (fun z => by subst z; rw [hd] at h; cases h)]
  exact h
theorem zj {Φ : Fx} {sc : Scope} {ρ : al} {f : Str} {p pos : Pos} {args : List Expr} {F : List D -> Rs D} {ds : List D} {k : Nat} {r : D} {o : List Prop} (G : aT Φ X sc) (hf : Cq X f F) (hg : sc.names.lookup f = some .globalImplicit)
    (ha : AD X ρ args ds k) (hst : ∀ e ∈ args, ∀ x p, e ≠ .Starred x p) (hnil : args = [] -> ds = []) (h : F ds = .ok r o) (hp : aF o) : ED X ρ (.Call (.Name f p) args [] pos) r 0 := by
  obtain ⟨n, C, fa, fd, ps, hfl, hM, hF, hr, hm, hns, hc, hb, hd⟩ := hf
  have hl := hfl ds r o h
  intro ow
  cases args with
  | nil =>
    refine bU (vq hM hF hr (G.gl f hg) hm hb .nil gU hd) fun σ H Q ⟨E, q⟩ => ?_
    have hds := hnil rfl
    subst hds
    intro x dx hx hdx ne
    refine ⟨x, [], C, dx, [], r, o, rfl, aS, hns, hc, ao.nil, h, hp, hl, fun H' kp rr => ⟨rfl, q _ H' (fun a ob ha => ?_) (rr.flat _ hl)⟩⟩
    exact kp a ob (fun z => by subst z; rw [hx] at ha; cases ha) (fT hx hdx a ob ha)
  | cons e es =>
    refine bU (yy hM hF hr (G.gl f hg) hm hb .nil gU (ha ow) hd (aO (hst e List.mem_cons_self)) (bP fun x hx => hst x (List.mem_cons_of_mem _ hx))) fun σ H Q ⟨E, q⟩ => ⟨E, fun vs H1 s1 r1 => ?_⟩
    intro x dx hx hdx ne
    refine ⟨x, vs ++ [], C, dx, ds, r, o, rfl, aS, hns, hc, by rw [List.append_nil]; exact (r1.same (fT hx hdx)).imp fun _ _ _ => True.intro, h, hp, hl, fun H' kp rr => ⟨rfl, q _ H' (s1.trans fun a ob ha => ?_) (rr.flat _ hl)⟩⟩
    exact kp a ob (fun z => by subst z; rw [hx] at ha; cases ha) (fT hx hdx a ob ha)
theorem zn {Φ : Fx} {sc : Scope} {ρ : al} {f : Str} {p pos : Pos} {args : List Expr} {F : List D -> Rs D} {ds : List D} {k : Nat} {r : D} {o : List Prop} (G : aT Φ X sc) (hf : Φ.fn f = some F) (hg : sc.names.lookup f = some .globalImplicit)
    (ha : AD X ρ args ds k) (hst : ∀ e ∈ args, ∀ x p, e ≠ .Starred x p) (hnil : args = [] -> ds = []) (h : F ds = .ok r o) (hp : aF o) : ED X ρ (.Call (.Name f p) args [] pos) r 0 := by
  rcases G.fn f F hf with z | z
  . exact vT G z hg ha hst hnil h hp
  . exact zj G z hg ha hst hnil h hp
theorem nQ {o : Expr} {name : Str} {apos pos : Pos} {args : List Expr} {env : Env} (hb : attributeBase o name env (eval o env) = eval o env) (hf : methodCallForm (args.length + ([] : List Keyword).length) (backTo pos (starEach args env)) (backToKw pos (keywordEach [] env)) = true)
    (hl : (apos.endLine == pos.line) = true) : eval (.Call (.Attribute o name apos) args [] pos) env = (do
      let ov <- eval o env
      standAt apos.atName
      let (f, first) <- holding [ov] (getMethod ov name (do return (<- importBound o env).getD true))
      callWith pos f first (backTo pos (starEach args env)) (backToKw pos (keywordEach [] env))) := by
  show (do
    let ov <- attributeBase o name env (eval o env)
    standAt apos.atName
    methodCall o name apos pos env ov (args.length + ([] : List Keyword).length) (backTo pos (starEach args env)) (backToKw pos (keywordEach [] env))) = _
  rw [hb]
  unfold methodCall calleeOf methodCallPos
  rw [hf, hl]
  rfl
theorem eR {a : Expr} {m : Str} {env : Env} {t : Sem Value} (h : gL a = true) : attributeBase a m env t = t := by
  unfold attributeBase
  split
  . cases h
  . rfl
theorem lr {env : Env} {pos : Pos} {args : List Expr} (hst : ∀ e ∈ args, ∀ x p, e ≠ .Starred x p) (hn : args.length < 29) : methodCallForm (args.length + ([] : List Keyword).length) (backTo pos (starEach args env)) (backToKw pos (keywordEach [] env)) = true := by
  unfold methodCallForm
  have e1 : (backTo pos (starEach args env)).all (fun x => !x.1) = true := by
    have := bP (env := env) (pos := pos) hst
    rw [List.all_eq_true]
    intro x hx
    have h2 : ¬ (backTo pos (starEach args env)).any (·.1) = true := by rw [this]; exact Bool.false_ne_true
    cases hb : x.1 with
    | false => rfl
    | true => exact absurd (List.any_eq_true.mpr ⟨x, hx, hb⟩) h2
  rw [e1]
  show (true && true && decide (args.length + 0 + 0 < 30)) = true
  simp; omega
theorem nU {ns : List Str} {vs : List V} {m : Str} : ns.contains m = false -> (ns.zip vs).lookup m = none := by
  induction ns generalizing vs with
  | nil => intro _; rfl
  | cons a ns ih =>
    intro h
    cases vs with
    | nil => rfl
    | cons v vs =>
      rw [List.contains_cons, Bool.or_eq_false_iff] at h
      show List.lookup m ((a, v) :: ns.zip vs) = none
      rw [List.lookup_cons, h.1]
      exact ih h.2
theorem zi {Φ : Fx} {sc : Scope} {ρ : al} {a : Expr} {n m : Str} {ap pos : Pos} {args : List Expr} {F : List D -> Rs D} {ns : List Str} {es ds : List D} {j k : Nat} {r : D} {o : List Prop} (G : aT Φ X sc) (hf : Φ.omt n m = some F) (he : ED X ρ a (.obj n ns es) j)
    (ha : AD X ρ args ds k) (hst : ∀ e ∈ args, ∀ x p, e ≠ .Starred x p) (hlen : args.length = ds.length) (hn : ns.contains m = false) (hb : gL a = true) (hfew : ds.length < 29) (hl : (ap.endLine == pos.line) = true) (h : F (.obj n ns es :: ds) = .ok r o) (hp : aF o) : ED X ρ (.Call (.Attribute a m ap) args [] pos) r 0 := by
  obtain ⟨kk, C, fa, fd, ps, hns, hc, hm, hF, hr, hbd⟩ := G.omt n m F hf
  intro ow
  have ht := nQ (o := a) (name := m) (apos := ap) (pos := pos) (args := args) (env := X.env) (eR hb) (lr hst (by omega)) hl
  cases args with
  | nil =>
    refine bU (vp (he ow) hc hm hF hr hbd .nil gU ht) fun σ H Q ⟨E, q⟩ => ⟨E, fun v H1 s1 r1 => ?_⟩
    have hds : ds = [] := List.length_eq_zero_iff.mp hlen.symm
    subst hds
    have r0 := r1
    rw [ak] at r1
    obtain ⟨f, e0, x, C', dx, vs, rfl, h1, h2, h3, r2⟩ := r1
    rw [hns] at h1; cases h1
    refine ⟨x, dx, _, rfl, h3, nU hn, [.obj n ns es], r, o, ao.one (r0.imp fun _ _ _ => True.intro), h, hp, fun v H' s2 r2 => q v H' (s1.trans s2) (r2.imp fun a b p => ⟨p.1, s1.free p.2⟩)⟩
  | cons e es' =>
    refine bU (yx (he ow) hc hm hF hr hbd .nil gU (ha ow) (aO (hst e List.mem_cons_self)) (bP fun x hx => hst x (List.mem_cons_of_mem _ hx)) ht) fun σ H Q ⟨E, q⟩ => ⟨E, fun v H1 s1 r1 => ?_⟩
    have r0 := r1
    rw [ak] at r1
    obtain ⟨f, e0, x, C', dx, vs, rfl, h1, h2, h3, r2⟩ := r1
    rw [hns] at h1; cases h1
    refine ⟨x, dx, _, rfl, h3, nU hn, E.same s1, fun ws H2 s2 rw2 => ?_⟩
    refine ⟨.obj n ns es :: ds, r, o, by rw [List.append_nil]; exact ao.cons ((r0.same s2).imp fun _ _ _ => True.intro) (rw2.imp fun _ _ _ => True.intro), h, hp, fun v H' s3 r3 => q v H' ((s1.trans s2).trans s3) (r3.imp fun a b p => ⟨p.1, s1.free (s2.free p.2)⟩)⟩
theorem nW {K : W.Frag} {H : Hp} {P : bw} {f : Str} {d : D} : ∀ {ns : List Str} {ds : List D} {vs : List V}, ao K H P ds vs -> (ns.zip ds).lookup f = some d -> ∃ v, (ns.zip vs).lookup f = some v /\ ak K H P d v /\ (aA ds = true -> d.lless = true)
  | [], ds, vs, _, h => by cases h
  | a :: ns, [], vs, _, h => by cases h
  | a :: ns, e :: ds, vs, r, h => by
    rw [ao] at r
    obtain ⟨v, ws, rfl, r1, r2⟩ := r
    replace h : List.lookup f ((a, e) :: ns.zip ds) = some d := h
    show ∃ u, List.lookup f ((a, v) :: ns.zip ws) = some u /\ _
    rw [List.lookup_cons] at h ⊢
    cases hb : f == a with
    | true =>
      rw [hb] at h; cases h
      exact ⟨v, rfl, r1, fun z => by rw [aA, Bool.and_eq_true] at z; exact z.1⟩
    | false =>
      rw [hb] at h
      obtain ⟨u, u1, u2, u3⟩ := nW r2 h
      exact ⟨u, u1, u2, fun z => by rw [aA, Bool.and_eq_true] at z; exact u3 z.2⟩
theorem BW {Φ : Fx} {sc : Scope} {ρ : al} {a : Expr} {n f : Str} {pos : Pos} {ns : List Str} {ds : List D} {j : Nat} {d : D} (G : aT Φ X sc) (hf : Φ.fld n f = true) (he : ED X ρ a (.obj n ns ds) j) (hb : gL a = true) (h : (ns.zip ds).lookup f = some d) : ED X ρ (.Attribute a f pos) d 0 := by
  intro ow
  refine bU (A2 (he ow) (eR hb)) fun σ H Q ⟨E, q⟩ => ⟨E, fun v H1 s1 r1 => ?_⟩
  rw [ak] at r1
  obtain ⟨fl, e0, x, C, dx, vs, rfl, h1, h2, h3, r2⟩ := r1
  obtain ⟨u, u1, u2, u3⟩ := nW r2 h
  exact ⟨x, C, dx, _, u, rfl, h3, h2, G.fld n f hf C h1, u1, q u H1 s1 (u2.flat _ (u3 fl))⟩
theorem B2 {Φ : Fx} {sc : Scope} {ρ : al} {f : Str} {B : List D -> R1} {p pos : Pos} {e : Expr} {es : List Expr} {ds : List D} {k l : Nat} {z : D} {o : List Prop} (G : aT Φ X sc) (hB : dJ f B) (hg : sc.names.lookup f = some .globalImplicit)
    (ha : AD X ρ (e :: es) ds k) (hst : ∀ x ∈ e :: es, ∀ y p, x ≠ .Starred y p) (h : B ds = .ok (z, l) o) (hp : aF o) : ED X ρ (.Call (.Name f p) (e :: es) [] pos) z l := by
  obtain ⟨h3, h1, h2, _, h4⟩ := hB
  have h4 := h4 X ds z l o G.calm h hp
  intro ow
  have n1 := aO (env := X.env) (es := es) (hst e List.mem_cons_self)
  have n2 : (backTo pos (starEach es X.env)).any (·.1) = false := bP fun x hx => hst x (List.mem_cons_of_mem _ hx)
  rcases h4 with ⟨id, e1, r, e2, e3⟩ | ⟨T, e1, r, e2, e3⟩
  . refine bU (vw e2 (G.gl f hg) (G.bl f h3) e1 (ha ow) h1 h2 n1 n2) fun σ H Q ⟨E, q⟩ => ⟨E, fun vs H1 s1 r1 => ?_⟩
    exact e3 ow H H1 vs _ Q E.own s1 r1 fun w H' s2 r2 => q w H' (s1.trans s2) r2
  . refine bU (tU e2 (G.gl f hg) (G.bl f h3) e1 (ha ow) h1 h2 n1 n2) fun σ H Q ⟨E, q⟩ => ⟨E, fun vs H1 s1 r1 => ?_⟩
    exact e3 ow H H1 vs _ Q E.own s1 r1 fun w H' s2 r2 => q w H' (s1.trans s2) r2
theorem y4 {ρ : al} {tg e : Expr} {l : List D} {k : Nat} (h : ED X ρ e (.lst l) k) : IE X ρ tg e l k := by
  intro ow pins s σ H R I ⟨E, q⟩
  refine yw (tg := tg) (h ow) pins s σ H R I ⟨E, fun v H1 s1 r1 => ?_⟩
  rw [ak] at r1
  obtain ⟨a, vs, b, rfl, hl, hp, rl⟩ := r1
  have rl' : ao X.K H1 (Kd ow H k H1) l vs := rl.impH (fun a o ho p => ⟨p, fun _ => ⟨o, ho⟩⟩) fun a p => ⟨p, fun z => (by cases z)⟩
  have hp' : Kd ow H k H1 a b := ⟨hp, fun hb => by subst hb; exact ⟨_, hl⟩⟩
  have sq : ∀ {H2 : Hp}, qi X.K H2 a vs b -> cA X.K H2 a vs := fun {H2} h => h.sq
  refine ⟨a, rfl, ⟨vs, sq hl⟩, q _ H1 s1 fun i H2 st => ⟨fun d hd => ?_, fun hle => ?_⟩⟩
  . have h2 := sq (st.ls hl hp')
    obtain ⟨w, hw, rw'⟩ := rl'.get hd
    refine ⟨⟨vs, w, h2, hw⟩, fun x H3 ⟨e3, y3⟩ => ?_⟩
    subst e3
    have := y3 vs h2
    rw [hw] at this; cases this
    exact ⟨az.refl _, rw'.mono st⟩
  . exact ⟨vs, sq (st.ls hl hp'), by rw [<- rl.length]; exact hle⟩
theorem BD {ρ : al} {tg e : Expr} {l : List D} {k : Nat} (h : ED X ρ e (.tup l) k) : IE X ρ tg e l k := by
  intro ow pins s σ H R I ⟨E, q⟩
  refine AQ (tg := tg) (h ow) pins s σ H R I ⟨E, fun v H1 s1 r1 => ?_⟩
  rw [ak] at r1
  obtain ⟨a, vs, rfl, hl, rl⟩ := r1
  have rl' : ao X.K H1 (Kd ow H k H1) l vs := rl.impH (fun a o ho p => ⟨p, fun _ => ⟨o, ho⟩⟩) fun a p => ⟨p, fun z => (by cases z)⟩
  refine ⟨a, rfl, ⟨vs, hl⟩, q _ H1 s1 fun i H2 st => ⟨fun d hd => ?_, fun hle => ?_⟩⟩
  . have h2 := st.sq hl
    obtain ⟨w, hw, rw'⟩ := rl'.get hd
    refine ⟨⟨vs, w, h2, hw⟩, fun x H3 ⟨e3, y3⟩ => ?_⟩
    subst e3
    have := y3 vs h2
    rw [hw] at this; cases this
    exact ⟨az.refl _, rw'.mono st⟩
  . exact ⟨vs, st.sq hl, by rw [<- rl.length]; exact hle⟩
theorem Df {ρ : al} {tg e : Expr} {d : D} {l : List D} {k : Nat} (h : ED X ρ e d k) (hi : items d = some l) : IE X ρ tg e l k := by
  unfold items at hi
  split at hi
  . cases hi; exact y4 h
  . cases hi; exact BD h
  . cases hi
theorem vL {ρ : al} {tg a : Expr} {p pos : Pos} {j : Int} {k : Nat} (hg : Gl X "range") (hm0 : X.mg "range" = none) (ha : AD X ρ [a] [.int j] k) (hst : ∀ y p, a ≠ .Starred y p) (h1 : -4611686018427387904 <= j) (h2 : j <= cP) :
    IE X ρ tg (.Call (.Name "range" p) [a] [] pos) ((List.range j.toNat).map fun i => .int (i : Nat)) 0 := by
  intro ow pins s σ H R I ⟨E, q⟩
  refine tT (tg := tg) hg hm0 (ha ow) (by rw [aO hst]; rfl) pins s σ H R I ⟨E, fun vs H1 s1 r1 => ?_⟩
  obtain ⟨v, rfl, rv⟩ := r1.only
  rw [ak] at rv; subst rv
  have hm : (cP : Int) < 2 ^ 62 := by decide
  refine ⟨j, rfl, h1, by omega, q _ H1 s1 fun i H2 st => ⟨fun d hd => ?_, fun hle => ?_⟩⟩
  . rw [List.getElem?_map] at hd
    cases e : (List.range j.toNat)[i]? with
    | none => rw [e] at hd; cases hd
    | some n =>
      rw [e] at hd; cases hd
      obtain ⟨hi, hn⟩ := List.getElem?_eq_some_iff.mp e
      rw [List.getElem_range] at hn
      subst hn
      rw [List.length_range] at hi
      refine ⟨hi, fun x H3 ⟨e3, y3⟩ => ?_⟩
      subst e3 y3
      exact ⟨az.refl _, by rw [ak, Int.zero_add]⟩
  . rw [List.length_map, List.length_range] at hle
    exact hle
theorem uo {ρ : al} {tg a b : Expr} {p pos : Pos} {j0 j : Int} {k : Nat} (hg : Gl X "range") (hm0 : X.mg "range" = none) (ha : AD X ρ [a, b] [.int j0, .int j] k) (hst : ∀ y p, a ≠ .Starred y p) (hst2 : ∀ y p, b ≠ .Starred y p) (h1 : -4611686018427387904 <= j0) (h2 : j0 <= 4611686018427387000) (h3 : -4611686018427387904 <= j) (h4 : j - j0 <= 800) :
    IE X ρ tg (.Call (.Name "range" p) [a, b] [] pos) ((List.range (j - j0).toNat).map fun i => .int (j0 + (i : Nat))) 0 := by
  intro ow pins s σ H R I ⟨E, q⟩
  refine tS (tg := tg) hg hm0 (ha ow) (by rw [aO hst, aO hst2]; rfl) (by rw [aO hst2]; rfl) pins s σ H R I ⟨E, fun vs H1 s1 r1 => ?_⟩
  rw [ao] at r1
  obtain ⟨v1, r, rfl, r2, r3⟩ := r1
  rw [ao] at r3
  obtain ⟨v2, r', rfl, r4, r5⟩ := r3
  rw [ao] at r5
  rw [ak] at r2 r4
  subst r2 r4 r5
  refine ⟨j0, j, rfl, ⟨h1, by omega, h3, by omega⟩, q _ H1 s1 fun i H2 st => ⟨fun d hd => ?_, fun hle => ?_⟩⟩
  . rw [List.getElem?_map] at hd
    cases e : (List.range (j - j0).toNat)[i]? with
    | none => rw [e] at hd; cases hd
    | some n =>
      rw [e] at hd; cases hd
      obtain ⟨hi, hn⟩ := List.getElem?_eq_some_iff.mp e
      rw [List.getElem_range] at hn
      subst hn
      rw [List.length_range] at hi
      refine ⟨hi, fun x H3 ⟨e3, y3⟩ => ?_⟩
      subst e3 y3
      exact ⟨az.refl _, by rw [ak]⟩
  . rw [List.length_map, List.length_range] at hle
    exact hle
theorem ur : lT "range" pe := by
  refine ⟨by decide +kernel, fun X ρ p pos args ds k d j l tg o hc hg hm ha hst hlen h hp hl ht => ?_⟩
  unfold pe at h
  split at h
  . rename_i n
    cases h
    cases hl
    match args, hlen, ha, hst with
    | [a], _, ha, hst => exact vL hg hm ha (hst a List.mem_cons_self) hp.1 hp.2.1
  . rename_i m n
    cases h
    cases hl
    match args, hlen, ha, hst with
    | [a, b], _, ha, hst => exact uo hg hm ha (hst a List.mem_cons_self) (hst b (List.mem_cons_of_mem _ List.mem_cons_self)) hp.1 hp.2.1 hp.2.2.1 hp.2.2.2.1
  . cases h
end Sp
set_option Elab.async false
set_option linter.all false
set_option maxRecDepth 100000
namespace Sp
open PySem PySem.Spec PyProof.Rows L2
variable {X : Cx}
theorem dO {x : Str} {y : D × Bool} {ρ : al} (z : Str) : ck ρ x y z = if z = x then some y else ρ z := rfl
theorem eh {ow : Ow} {H : Hp} {σ : L2.St} {ρ : al} {x : Str} {d : D} {o : Bool} {v : V} {i : Nat} (hN : X.N.Nodup) (hl : σ.length = X.N.length) (E : aP X ow H σ ρ) (hi : X.N[i]? = some x) (hv : fj X.env.scope x) (r : ak X.K H (jn ow x o) d v) :
    aP X ow H (σ.set i (some v)) (ck ρ x (d, o)) := by
  have hil : i < σ.length := by rw [hl]; exact (List.getElem?_eq_some_iff.mp hi).1
  refine ⟨fun y e o' h => ?_, E.own⟩
  rw [dO] at h
  by_cases hy : y = x
  . subst hy
    rw [if_pos rfl] at h
    cases h
    exact ⟨i, v, hi, hv, by rw [List.getElem?_set_self hil], r⟩
  . rw [if_neg hy] at h
    obtain ⟨j, w, e1, e2, e3, e4⟩ := E.get y e o' h
    have hij : i ≠ j := by intro z; subst z; rw [hi] at e1; cases e1; exact hy rfl
    exact ⟨j, w, e1, e2, by rw [List.getElem?_set_ne hij]; exact e3, e4⟩
theorem fW {Φ : Fx} {sc : Scope} {x : Str} (G : aT Φ X sc) (h : dC sc x = true) : rG X.env.scope x /\ fj X.env.scope x /\ (X.fn x = true \/ X.env.scope.names.lookup x = some .local) /\ ∃ i : Nat, X.N[i]? = some x := by
  have hx := G.ns x h
  have hlt := List.idxOf_lt_length_iff.mpr hx
  have hi : ∃ i : Nat, X.N[i]? = some x := ⟨X.N.idxOf x, by rw [List.getElem?_eq_getElem hlt, List.getElem_idxOf hlt]⟩
  unfold dC at h
  rw [Bool.or_eq_true] at h
  rcases h with h | h
  . have h := G.lc x (by simpa using h)
    exact ⟨.inl h, .inl h, .inr h, hi⟩
  . have h0 : sc.names.lookup x = some .cell := by simpa using h
    have h := G.cc x h0
    exact ⟨.inr h, .inr (.inl h), .inl (G.ft x h0), hi⟩
theorem jm {Φ : Fx} {sc : Scope} (G : aT Φ X sc) : ∀ {es : List Expr} {ds : List D} {ρ ρ' : al}, aR sc es ds ρ = some ρ' -> ∃ t, rF X es t /\ (assignEach es X.env).length = ds.length /\ (assignEach es X.env).findIdx? (·.1) = none /\
    ∀ (ow : Ow) (vs : List V) (σ : L2.St) (H : Hp) (Q : L2.St -> Hp -> Prop), σ.length = X.N.length -> aP X ow H σ ρ -> ao X.K H (fun a b => b = true -> ow a = none) ds vs -> (∀ σ', σ'.length = X.N.length -> aP X ow H σ' ρ' -> Q σ' H) -> t vs σ H Q
  | [], [], ρ, ρ', h => by
    rw [aR] at h; cases h
    refine ⟨_, qS, rfl, rfl, fun ow vs σ H Q hl E r q => ?_⟩
    rw [ao] at r
    exact ⟨r, q σ hl E⟩
  | .Name x p :: es, d :: ds, ρ, ρ', h => by
    rw [aR] at h
    split at h
    . rename_i hx
      obtain ⟨t, h1, h2, h3, h4⟩ := jm G h
      obtain ⟨g1, g2, g3, i, g4⟩ := fW G hx
      refine ⟨_, kv (iq (i := i) G.nd g4 g1 g3) h1 rfl, ?_, ?_, fun ow vs σ H Q hl E r q => ?_⟩
      . show (assignEach es X.env).length + 1 = ds.length + 1
        rw [h2]
      . show List.findIdx? (·.1) ((false, _) :: assignEach es X.env) = none
        rw [List.findIdx?_cons, h3]; rfl
      . rw [ao] at r
        obtain ⟨v, vr, rfl, r1, r2⟩ := r
        refine ⟨v, vr, rfl, ?_⟩
        exact h4 ow vr _ H Q (by rw [List.length_set]; exact hl) (eh G.nd hl E g4 g2 r1) r2 q
    . cases h
  | [], _ :: _, ρ, ρ', h => by simp [aR] at h
  | .Name _ _ :: _, [], ρ, ρ', h => by simp [aR] at h
  | .BoolOp .. :: _, ds, ρ, ρ', h => by cases ds <;> simp [aR] at h
  | .NamedExpr .. :: _, ds, ρ, ρ', h => by cases ds <;> simp [aR] at h
  | .BinOp .. :: _, ds, ρ, ρ', h => by cases ds <;> simp [aR] at h
  | .UnaryOp .. :: _, ds, ρ, ρ', h => by cases ds <;> simp [aR] at h
  | .Lambda .. :: _, ds, ρ, ρ', h => by cases ds <;> simp [aR] at h
  | .IfExp .. :: _, ds, ρ, ρ', h => by cases ds <;> simp [aR] at h
  | .Dict .. :: _, ds, ρ, ρ', h => by cases ds <;> simp [aR] at h
  | .Set .. :: _, ds, ρ, ρ', h => by cases ds <;> simp [aR] at h
  | .ListComp .. :: _, ds, ρ, ρ', h => by cases ds <;> simp [aR] at h
  | .SetComp .. :: _, ds, ρ, ρ', h => by cases ds <;> simp [aR] at h
  | .DictComp .. :: _, ds, ρ, ρ', h => by cases ds <;> simp [aR] at h
  | .GeneratorExp .. :: _, ds, ρ, ρ', h => by cases ds <;> simp [aR] at h
  | .Await .. :: _, ds, ρ, ρ', h => by cases ds <;> simp [aR] at h
  | .Yield .. :: _, ds, ρ, ρ', h => by cases ds <;> simp [aR] at h
  | .YieldFrom .. :: _, ds, ρ, ρ', h => by cases ds <;> simp [aR] at h
  | .Compare .. :: _, ds, ρ, ρ', h => by cases ds <;> simp [aR] at h
  | .Call .. :: _, ds, ρ, ρ', h => by cases ds <;> simp [aR] at h
  | .FormattedValue .. :: _, ds, ρ, ρ', h => by cases ds <;> simp [aR] at h
  | .JoinedStr .. :: _, ds, ρ, ρ', h => by cases ds <;> simp [aR] at h
  | .Constant .. :: _, ds, ρ, ρ', h => by cases ds <;> simp [aR] at h
  | .Attribute .. :: _, ds, ρ, ρ', h => by cases ds <;> simp [aR] at h
  | .Subscript .. :: _, ds, ρ, ρ', h => by cases ds <;> simp [aR] at h
  | .Starred .. :: _, ds, ρ, ρ', h => by cases ds <;> simp [aR] at h
  | .List .. :: _, ds, ρ, ρ', h => by cases ds <;> simp [aR] at h
  | .Tuple .. :: _, ds, ρ, ρ', h => by cases ds <;> simp [aR] at h
  | .Slice .. :: _, ds, ρ, ρ', h => by cases ds <;> simp [aR] at h
theorem xm {Φ : Fx} {sc : Scope} {tg : Expr} {d : D} {ρ ρ' : al} (G : aT Φ X sc) (h : b8 sc tg d ρ = some ρ') : GD X ρ tg d ρ' := by
  unfold b8 at h
  split at h
  . split at h
    . rename_i x p hx
      cases h
      obtain ⟨g1, g2, g3, i, g4⟩ := fW G hx
      exact ⟨_, iq (i := i) G.nd g4 g1 g3, fun ow v σ H Q hl E r q => q _ (by rw [List.length_set]; exact hl) (eh G.nd hl E g4 g2 r)⟩
    . cases h
  . split at h
    . obtain ⟨t, h1, h2, h3, h4⟩ := jm G h
      refine ⟨_, oI (n := _) G.calm h1 h2 h3, fun ow v σ H Q hl E r q => ?_⟩
      obtain ⟨a, vs, rfl, hs, rl⟩ := eD r
      exact ⟨a, vs, rfl, hs, rl.length.symm, h4 ow vs σ H Q hl E rl q⟩
    . cases h
  . cases h
theorem rN {c : Expr} {cs : List Expr} {env : Env} {M : Model} {A : Around} {E : Value -> Shared -> Prop} {s : Shared} {Q : Bool -> Shared -> Prop}
    (h : wpAny M A (isTrue c env (eval c env)) (fun b s' => if b = true then wpAny M A (gH cs env) Q E s' else Q false s') E s) : wpAny M A (gH (c :: cs) env) Q E s := by
  have no : ∀ (l : List Expr) (s : Shared), Q false s -> wpAny M A (forIn l false fun c r => if r = true then do let ok <- isTrue c env (eval c env); pure (ForInStep.yield ok) else pure (ForInStep.yield r)) Q E s := by
    intro l
    induction l with
    | nil => intro s h; exact wpAny_pure h
    | cons x l ih =>
      intro s h
      rw [List.forIn_cons]
      simp only [Bool.false_eq_true, if_false]
      exact wpAny_bind (wpAny_pure (ih s h))
  unfold gH
  rw [List.forIn_cons]
  simp only [if_true]
  refine wpAny_bind (wpAny_bind (wpAny_mono h (fun b s' hb => wpAny_pure ?_) fun _ _ x => x))
  cases b with
  | true => exact hb
  | false => exact no cs s' hb
theorem tj {ρ : al} : uW X ρ [] true := fun ow pins s σ H Q I ⟨E, q⟩ => wpAny_pure ⟨H, I, q H (az.refl _)⟩
theorem lY {ρ : al} {c : Expr} {cs : List Expr} {b b' : Bool} (h : TD X ρ c b) (h' : if b = true then uW X ρ cs b' else b' = false) : uW X ρ (c :: cs) b' := by
  intro ow pins s σ H Q I ⟨E, q⟩
  refine rN (aL (h ow pins s σ H (fun t H1 => t = b /\ az H H1) I ⟨E, fun H1 s1 => ⟨rfl, s1⟩⟩) fun t s1 ⟨H1, I1, e, sm⟩ => ?_)
  subst e
  cases t with
  | true =>
    rw [if_pos rfl] at h' ⊢
    exact h' ow pins s1 σ H1 Q I1 ⟨E.same sm, fun H2 s2 => q H2 (sm.trans s2)⟩
  | false =>
    rw [if_neg Bool.false_ne_true] at h' ⊢
    subst h'
    exact ⟨H1, I1, q H1 sm⟩
end Sp
set_option Elab.async false
set_option linter.all false
set_option maxRecDepth 100000
namespace Sp
open PySem PySem.Spec PyProof.Rows L2
variable {X : Cx}
structure eS (X : Cx) (ρ : al) (e : Expr) (it : Bool) (d : D) (k : Nat) : Prop where
  ed : it = false -> ED X ρ e d k
  td : it = false -> ∀ b, d = .bl b -> TD X ρ e b
  ie : it = true -> ∀ tg l, items d = some l -> fy e tg = true -> IE X ρ tg e l k
theorem eS.of {ρ : al} {e : Expr} {it : Bool} {d : D} {k : Nat} (h : ED X ρ e d k) (t : ∀ b, d = .bl b -> TD X ρ e b) : eS X ρ e it d k := ⟨fun _ => h, fun _ => t, fun _ tg l hi _ => Df h hi⟩
theorem iU {Φ : Fx} {e : Expr} {it : Bool} {sc : Scope} {ρ : al} {r : D × Nat} {l : List Prop} (h : aC Φ e it sc ρ = .ok r l) : ∀ x p, e ≠ .Starred x p := by
  intro x p z; subst z; cases h
theorem cF {Φ : Fx} {sc : Scope} {ρ : al} : ∀ {es : List Expr} {r : List D × Nat} {l : List Prop}, bW Φ es sc ρ = .ok r l -> aF l -> (∀ e ∈ es, ∀ x p, e ≠ .Starred x p) /\ es.length = r.1.length
  | [], r, l, h, _ => by cases h; exact ⟨fun e he => (by cases he), rfl⟩
  | e :: es, r, l, h, hp => by
    obtain ⟨p, l1, l2, h1, p1, h, p2⟩ := aN h hp
    obtain ⟨q, l3, l4, h2, p3, h, p4⟩ := aN h p2
    cases h
    obtain ⟨i1, i2⟩ := cF h2 p3
    refine ⟨fun e' he => ?_, by rw [List.length_cons, List.length_cons, i2]⟩
    rcases List.mem_cons.mp he with rfl | he
    . exact iU h1
    . exact i1 e' he
theorem Db {d : D} {k : Nat} : kn d k = 0 \/ kn d k = k := by
  unfold kn; split
  . exact .inl rfl
  . exact .inr rfl
theorem uM {sc scope : Scope} (h : nu sc scope = true) : scope.kind = .function /\ (∀ y ∈ scope.names, y.2 = .local -> scope.names.lookup y.1 = some .local) /\
    (∀ y ∈ scope.names, y.2 = .free -> sc.names.lookup y.1 = some .cell \/ sc.names.lookup y.1 = some .free) /\ (scope.names.map (·.1)).Nodup := by
  unfold nu at h
  simp only [Bool.and_eq_true, List.all_eq_true, decide_eq_true_eq, Bool.or_eq_true] at h
  obtain ⟨⟨⟨h1, h3⟩, h4⟩, h5⟩ := h
  refine ⟨h1, fun y hy e => (h3 y hy).resolve_left (fun z => z e), fun y hy e => ?_, h5⟩
  rcases h4 y hy with (q | q) | q
  . exact absurd e q
  . exact .inl q.2
  . exact .inr q
theorem cZ {env : Env} : ∀ {names : List (Str × NameKind)} {x : Str} {k0 : NameKind}, k0 ≠ .free -> names.lookup x = some k0 ->
    (names.map fun (n, k) => if (k == NameKind.free && env.scope.kind == .function && env.kindOf n == some .cell) then (n, NameKind.cell) else (n, k)).lookup x = some k0
  | [], _, _, _, h => by simp at h
  | (n, k) :: r, x, k0, hk, h => by
    have ih := @cZ env r x k0 hk
    show List.lookup x ((if (k == NameKind.free && env.scope.kind == .function && env.kindOf n == some .cell) = true then (n, NameKind.cell) else (n, k)) :: _) = _
    cases hx : x == n with
    | true =>
      simp only [List.lookup_cons, hx] at h
      cases h
      have : (k == NameKind.free) = false := by simpa using hk
      simp [List.lookup_cons, hx, this]
    | false =>
      simp only [List.lookup_cons, hx] at h
      by_cases hc : (k == NameKind.free && env.scope.kind == .function && env.kindOf n == some .cell) = true
      . rw [if_pos hc]; simp only [List.lookup_cons, hx]; exact ih h
      . rw [if_neg hc]; simp only [List.lookup_cons, hx]; exact ih h
theorem kY {names : List (Str × NameKind)} : ∀ {x : Str} {k : NameKind}, names.lookup x = some k -> x ∈ names.map (·.1) := fun {x k} h => List.mem_map.mpr ⟨_, PySem.mem_of_lookup h, rfl⟩
theorem y6 {Φ : Fx} {sc scope : Scope} {cl : List (Str × Addr)} {C : Addr} {s : Shared} {H : Hp} {fp : List Addr} (G : aT Φ X sc) (h : nu sc scope = true) : aT Φ (jr X scope cl C (scope.names.map (·.1)) s H fp) scope := by
  obtain ⟨h1, h3, h4, h5⟩ := uM h
  refine ⟨G.calm, h5, fun x hx => ?_, fun x hx => ?_, fun x hx => lookup_relabel_local hx, fun x hx => cZ (by decide) hx, fun g F hg => G.fn g F hg, G.con, G.blt, G.itr, G.mth, G.mtt, G.slf, G.fld, G.omt, G.bl, G.room, fun x hx => ?_, fun x hx => decide_eq_true hx⟩
  . exact cZ (by decide) hx
  . rcases hx with hx | hx
    . exact .inl (cZ (by decide) hx)
    . exact c6 hx
  . unfold dC at hx
    rw [Bool.or_eq_true] at hx
    rcases hx with hx | hx <;> exact kY (by simpa using hx)
theorem uD {Φ : Fx} {sc scope : Scope} (G : aT Φ X sc) (h : nu sc scope = true) : gf X.env scope (scope.names.map (·.1)) := by
  obtain ⟨h1, h3, h4, h5⟩ := uM h
  exact ⟨h1, h5, h3, h5, fun n hn => G.kc n (h4 (n, .free) hn rfl)⟩
theorem Dd : ∀ {a b : Nat}, kj a b <= 1 -> a <= kj a b /\ b <= kj a b
  | 0, 0, _ => by decide
  | 0, 1, _ => by decide
  | 0, 2, h => absurd h (by decide)
  | 0, _ + 3, h => by rw [kj] at h; omega
  | 1, 0, _ => by decide
  | 1, 1, _ => by decide
  | 1, 2, h => absurd h (by decide)
  | 1, _ + 3, h => absurd h (by rw [kj] <;> simp)
  | 2, 0, h => absurd h (by decide)
  | 2, 1, h => absurd h (by decide)
  | 2, 2, h => absurd h (by decide)
  | 2, _ + 3, h => absurd h (by rw [kj] <;> simp)
  | _ + 3, 0, h => by rw [kj] at h <;> simp_all <;> omega
  | _ + 3, 1, h => absurd h (by rw [kj] <;> simp)
  | _ + 3, 2, h => absurd h (by rw [kj] <;> simp)
  | _ + 3, _ + 3, h => absurd h (by rw [kj] <;> simp)
theorem Kp.up {ow : Ow} {H : Hp} (o : eu ow H) {a : Addr} {b : Bool} : ∀ {i j : Nat}, i <= j -> j <= 1 -> Kp ow H i a b -> Kp ow H j a b
  | 0, 0, _, _, p => p
  | 0, 1, _, _, p => fun _ => o.free p.2
  | 1, 1, _, _, p => p
  | 1, 0, h, _, _ => absurd h (by omega)
  | _ + 2, _, h, g, _ => absurd h (by omega)
  | 0, _ + 2, _, g, _ => absurd g (by omega)
  | 1, _ + 2, _, g, _ => absurd g (by omega)
theorem ED.up {ρ : al} {e : Expr} {d : D} {i j : Nat} (h : ED X ρ e d i) (h1 : i <= j) (h2 : j <= 1) : ED X ρ e d j := fun ow => bU (h ow) fun σ H Q ⟨E, q⟩ => ⟨E, fun v H' s r => q v H' s (r.imp fun a b p => Kp.up E.own h1 h2 p)⟩
def nP (step : D -> Rs (Option (D × Nat))) (d : D) : Option D := match step d with | .ok (some p) _ => some p.1 | _ => none
theorem pN {step : D -> Rs (Option (D × Nat))} : ∀ {ds : List D} {r : List D × Nat} {l : List Prop}, gp step ds = .ok r l -> aF l ->
    (∀ d ∈ ds, ∃ r l, step d = .ok r l /\ aF l) /\ r.1 = ds.filterMap (nP step) /\ (r.2 <= 1 -> ∀ d ∈ ds, ∀ p l, step d = .ok (some p) l -> p.2 <= r.2)
  | [], r, l, h, _ => by
    cases h
    exact ⟨fun d hd => (by cases hd), rfl, fun _ d hd => (by cases hd)⟩
  | d :: ds, r, l, h, hp => by
    obtain ⟨x, l1, l2, h1, p1, h, p2⟩ := aN h hp
    obtain ⟨q, l3, l4, h2, p3, h, p4⟩ := aN h p2
    obtain ⟨i1, i2, i3⟩ := pN h2 p3
    have i1' : ∀ y ∈ d :: ds, ∃ r l, step y = .ok r l /\ aF l := fun y hy => by
      rcases List.mem_cons.mp hy with rfl | hy
      . exact ⟨_, _, h1, p1⟩
      . exact i1 y hy
    cases x with
    | none =>
      cases h
      refine ⟨i1', ?_, fun hj x hx y i e => ?_⟩
      . rw [List.filterMap_cons_none (by unfold nP; rw [h1])]; exact i2
      . rcases List.mem_cons.mp hx with rfl | hx
        . rw [h1] at e; cases e
        . exact i3 hj x hx y i e
    | some p =>
      cases h
      refine ⟨i1', ?_, fun hj x hx y i e => ?_⟩
      . rw [List.filterMap_cons_some (by unfold nP; rw [h1]), i2]
      . obtain ⟨a1, a2⟩ := Dd hj
        rcases List.mem_cons.mp hx with rfl | hx
        . rw [h1] at e; cases e; exact a1
        . exact Nat.le_trans (i3 (Nat.le_trans a2 hj) x hx y i e) a2
end Sp
set_option Elab.async false
set_option linter.all false
set_option maxRecDepth 100000
namespace Sp
open PySem PySem.Spec PyProof.Rows L2
theorem bZ {X : Cx} {ρ : al} {e : Expr} {it : Bool} {d : D} {k : Nat} (h : ED X ρ e d k) (he : ∀ whole, isTrue e X.env whole = (do let v <- whole; standAt e.pos; holding [v] (truthy v))) : eS X ρ e it d k := .of h fun b hb => by subst hb; exact Cu h he
theorem zZ {X : Cx} {ρ : al} {a b : Expr} {op : CmpOp} {pos : Pos} {x y : D} {r : Bool} {k j : Nat} {o : List Prop} (hu : X.A.units + 70 < cLine) (ha : ED X ρ a x k) (hb : ED X ρ b y j) (h : jw op x y = .ok r o) (hp : aF o) (hm : behindInMarks op b = false) : TD X ρ (.Compare a [op] [b] pos) r := by
  have c := iF (X := X) hu h hp
  intro ow pins s σ H Q I ⟨E, q⟩
  refine wpAny_isTrue_Compare1 (Dt (ha ow) (hb ow) I (R := fun v u H2 => az H H2 /\ ak X.K H2 (fun _ _ => True) x v /\ ak X.K H2 (fun _ _ => True) y u) ⟨E, fun v H1 s1 r1 => ⟨E.same s1, fun u H2 s2 r2 => ⟨s1.trans s2, (r1.imp fun _ _ _ => True.intro).same s2, r2.imp fun _ _ _ => True.intro⟩⟩⟩ fun v u s2 x y H2 I2 rx ry ⟨sm, r1, r2⟩ => ?_) hm
  refine aL (c _ _ pins s2 σ H2 x y v u (fun w H' => w = .bl r /\ H2 = H') I2 rx ry ⟨r1, r2, rfl, rfl⟩) fun u' s3 ⟨w, H3, I3, r3, e1, e2⟩ => ?_
  subst e1 e2
  cases (show u' = Value.bool r from r3)
  exact wpAny_truthy_bool ⟨H2, I3, q H2 sm⟩
theorem u6 {X : Cx} {ρ : al} {a b c : Expr} {op op2 : CmpOp} {pos : Pos} {x y z : Int} {r r2 : Bool} {k j i : Nat} (hu : X.A.units + 70 < cLine) (ha : ED X ρ a (.int x) k) (hb : ED X ρ b (.int y) j) (hc : ED X ρ c (.int z) i) (h : fE op x y = some r) (h2 : fE op2 y z = some r2) (hm : behindInMarks op2 c = false) : TD X ρ (.Compare a [op, op2] [b, c] pos) (r && r2) := by
  have c1 := iF (X := X) hu (lB h) (show aF [] from True.intro)
  have c2 := iF (X := X) hu (lB h2) (show aF [] from True.intro)
  refine fun ow => sU (vk (c1 (fun _ _ => True) (fun _ _ => True)) (c2 (fun _ _ => True) (fun _ _ => True)) (ha ow) (hb ow) (hc ow) hm) fun σ H Q ⟨E, q⟩ => ⟨E, fun v H1 s1 r1 => ⟨E.same s1, fun u H2 s2 r2 => ?_⟩⟩
  rw [ak] at r1 r2
  subst r1 r2
  refine ⟨by rw [ak], by rw [ak], r, rfl, ?_⟩
  cases r with
  | false => exact ⟨false, rfl, q H2 (s1.trans s2)⟩
  | true =>
    rw [if_pos rfl]
    refine ⟨(E.same s1).same s2, fun w H3 s3 r3 => ?_⟩
    rw [ak] at r3
    subst r3
    exact ⟨by rw [ak], by rw [ak], _, rfl, q H3 ((s1.trans s2).trans s3)⟩
theorem zY {X : Cx} {ρ : al} {a : Expr} {pos : Pos} {b : Bool} (h : TD X ρ a b) : TD X ρ (.UnaryOp .Not a pos) (!b) := fun ow => sU (AK (h ow)) fun σ H Q ⟨E, q⟩ => ⟨E, fun H1 s1 => q H1 s1⟩
structure dR (X : Cx) (ρ : al) (op : BoolOp) (es : List Expr) (b : Bool) : Prop where
  ed : es ≠ [] -> ∀ pos, ED X ρ (.BoolOp op es pos) (.bl b) 0
  tw : es ≠ [] -> ∀ pos ow, PW X (.BoolOp op es pos) (wH X ow ρ b)
  ts : op = .And -> uW X ρ es b
theorem fN {X : Cx} {ρ : al} {op : BoolOp} {e : Expr} {b : Bool} {k : Nat} (h : ED X ρ e (.bl b) k) (t : TD X ρ e b) : dR X ρ op [e] b := by
  have h0 : ED X ρ e (.bl b) 0 := by
    have := h.kn
    rw [show kn (.bl b) k = 0 from rfl] at this
    exact this
  refine ⟨fun _ pos ow => AV (h0 ow), fun _ pos ow => ?_, fun _ => lY t (by cases b; rfl; exact tj)⟩
  cases op with
  | And => exact yj (t ow)
  | Or => exact AI (t ow)
theorem qu {X : Cx} {ρ : al} {e e2 : Expr} {es : List Expr} {b : Bool} {k : Nat} (h : ED X ρ e (.bl true) k) (t : TD X ρ e true) (r : dR X ρ .And (e2 :: es) b) : dR X ρ .And (e :: e2 :: es) b := by
  refine ⟨fun _ pos ow => ?_, fun _ pos ow => ?_, fun _ => lY t (by rw [if_pos rfl]; exact r.ts rfl)⟩
  . refine bU (tV (h ow) (r.ed (by simp) pos ow)) fun σ H Q ⟨E, q⟩ => ⟨E, fun v H1 s1 r1 => ?_⟩
    rw [ak] at r1
    exact ⟨true, r1, by rw [if_pos rfl]; exact ⟨E.same s1, fun w H2 s2 r2 => q w H2 (s1.trans s2) (r2.imp (Kp.back s1 0))⟩⟩
  . intro wh pins s σ H Q I hq
    exact tP (t ow) (r.tw (by simp) pos ow) wh pins s σ H Q I ⟨hq.1, fun H1 s1 => by dsimp only; rw [if_pos rfl]; exact ⟨hq.1.same s1, fun H2 s2 => hq.2 H2 (s1.trans s2)⟩⟩
theorem pT {X : Cx} {ρ : al} {e e2 : Expr} {es : List Expr} {k : Nat} (h : ED X ρ e (.bl false) k) (t : TD X ρ e false) (ne : ∀ pos, ∃ t, PE X (.BoolOp .And (e2 :: es) pos) t) (nw : ∀ pos, ∃ t, PW X (.BoolOp .And (e2 :: es) pos) t) : dR X ρ .And (e :: e2 :: es) false := by
  refine ⟨fun _ pos ow => ?_, fun _ pos ow => ?_, fun _ => lY t (by rw [if_neg Bool.false_ne_true])⟩
  . obtain ⟨t2, h2⟩ := ne pos
    refine bU (tV (h ow) h2) fun σ H Q ⟨E, q⟩ => ⟨E, fun v H1 s1 r1 => ?_⟩
    rw [ak] at r1
    exact ⟨false, r1, by rw [if_neg Bool.false_ne_true]; exact q _ H1 s1 (by rw [ak])⟩
  . obtain ⟨t2, h2⟩ := nw pos
    intro wh pins s σ H Q I hq
    exact tP (t ow) h2 wh pins s σ H Q I ⟨hq.1, fun H1 s1 => by dsimp only; rw [if_neg Bool.false_ne_true]; exact hq.2 H1 s1⟩
theorem sG {X : Cx} {ρ : al} {e e2 : Expr} {es : List Expr} {b : Bool} {k : Nat} (h : ED X ρ e (.bl false) k) (t : TD X ρ e false) (r : dR X ρ .Or (e2 :: es) b) : dR X ρ .Or (e :: e2 :: es) b := by
  refine ⟨fun _ pos ow => ?_, fun _ pos ow => ?_, fun z => by cases z⟩
  . refine bU (wT (h ow) (r.ed (by simp) pos ow)) fun σ H Q ⟨E, q⟩ => ⟨E, fun v H1 s1 r1 => ?_⟩
    rw [ak] at r1
    exact ⟨false, r1, by rw [if_neg Bool.false_ne_true]; exact ⟨E.same s1, fun w H2 s2 r2 => q w H2 (s1.trans s2) (r2.imp (Kp.back s1 0))⟩⟩
  . intro wh pins s σ H Q I hq
    exact wR (t ow) (r.tw (by simp) pos ow) wh pins s σ H Q I ⟨hq.1, fun H1 s1 => by dsimp only; rw [if_neg Bool.false_ne_true]; exact ⟨hq.1.same s1, fun H2 s2 => hq.2 H2 (s1.trans s2)⟩⟩
theorem qt {X : Cx} {ρ : al} {e e2 : Expr} {es : List Expr} {k : Nat} (h : ED X ρ e (.bl true) k) (t : TD X ρ e true) (ne : ∀ pos, ∃ t, PE X (.BoolOp .Or (e2 :: es) pos) t) (nw : ∀ pos, ∃ t, PW X (.BoolOp .Or (e2 :: es) pos) t) : dR X ρ .Or (e :: e2 :: es) true := by
  refine ⟨fun _ pos ow => ?_, fun _ pos ow => ?_, fun z => by cases z⟩
  . obtain ⟨t2, h2⟩ := ne pos
    refine bU (wT (h ow) h2) fun σ H Q ⟨E, q⟩ => ⟨E, fun v H1 s1 r1 => ?_⟩
    rw [ak] at r1
    exact ⟨true, r1, by rw [if_pos rfl]; exact q _ H1 s1 (by rw [ak])⟩
  . obtain ⟨t2, h2⟩ := nw pos
    intro wh pins s σ H Q I hq
    exact wR (t ow) h2 wh pins s σ H Q I ⟨hq.1, fun H1 s1 => by dsimp only; rw [if_pos rfl]; exact hq.2 H1 s1⟩
theorem oK {X : Cx} {e : Expr} : PE X e (fun _ _ _ => False) := fun _ _ _ _ _ _ h => h.elim
theorem oG {X : Cx} {e : Expr} : PW X e (fun _ _ _ => False) := fun _ _ _ _ _ _ _ h => h.elim
theorem xw {op : CmpOp} {b : Expr} {Φ : Fx} {sc : Scope} {ρ : al} {r : D × Nat} {it : Bool} {l : List Prop} (h : aC Φ b it sc ρ = .ok r l) : behindInMarks op b = false := by
  cases b <;> first | rfl | cases h
theorem qZ {sc : Scope} {x z : Str} (h : dC sc z = true) (hx : sc.names.lookup x = some .free) : x ≠ z := by
  intro e; subst e
  unfold dC at h
  rw [hx] at h
  revert h; decide
theorem sH {sc : Scope} : ∀ {es : List Expr} {ds : List D} {ρ ρ' : al}, aR sc es ds ρ = some ρ' -> ∀ x y, sc.names.lookup x = some .free -> ρ x = some y -> ρ' x = some y := by
  intro es
  induction es with
  | nil =>
    intro ds ρ ρ' h x y hx hl
    cases ds with
    | nil => rw [aR] at h; cases h; exact hl
    | cons d ds => cases h
  | cons e es ih =>
    intro ds ρ ρ' h x y hx hl
    cases ds with
    | nil => cases e <;> cases h
    | cons d ds =>
      cases e with
      | Name z p =>
        rw [aR] at h
        split at h
        . rename_i hz
          exact ih h x y hx (by rw [dO, if_neg (qZ hz hx)]; exact hl)
        . cases h
      | _ => cases h
theorem uN {sc : Scope} {tg : Expr} {d : D} {ρ ρ' : al} (h : b8 sc tg d ρ = some ρ') : ∀ x y, sc.names.lookup x = some .free -> ρ x = some y -> ρ' x = some y := by
  intro x y hx hl
  unfold b8 at h
  split at h
  . split at h
    . rename_i hz
      cases h
      rw [dO, if_neg (qZ hz hx)]; exact hl
    . cases h
  . split at h
    . exact sH h x y hx hl
    . cases h
  . cases h
theorem nk {Φ : Fx} {e : Expr} {it : Bool} {sc : Scope} {ρ : al} {r : D × Nat} {l : List Prop} {env : Env} (h : aC Φ e it sc ρ = .ok r l) (x : Value) : foldedSetIterable e env x = pure x := by
  cases e <;> first | rfl | cases h
mutual
theorem oR : ∀ x y : D, mi true x y = x
  | .int _, .int _ => rfl
  | .bl _, .bl _ => rfl
  | .tup l, .tup m => by
    show (if l.length = m.length then D.tup (jo true l m) else cond true (.tup l) (.tup m)) = .tup l
    split
    . rename_i h; rw [t5 l m h]
    . rfl
  | .non, _ => rfl
  | .str _, _ => rfl
  | .emp, _ => rfl
  | .lst _, _ => rfl
  | .typ _, _ => rfl
  | .sn _, _ => rfl
  | .obj _ _ _, _ => rfl
  | .cls _, _ => rfl
  | .xc _ _, _ => rfl
  | .int _, .non => rfl
  | .int _, .bl _ => rfl
  | .int _, .str _ => rfl
  | .int _, .emp => rfl
  | .int _, .typ _ => rfl
  | .int _, .sn _ => rfl
  | .int _, .obj _ _ _ => rfl
  | .int _, .cls _ => rfl
  | .int _, .xc _ _ => rfl
  | .int _, .tup _ => rfl
  | .int _, .lst _ => rfl
  | .bl _, .non => rfl
  | .bl _, .int _ => rfl
  | .bl _, .str _ => rfl
  | .bl _, .emp => rfl
  | .bl _, .typ _ => rfl
  | .bl _, .sn _ => rfl
  | .bl _, .obj _ _ _ => rfl
  | .bl _, .cls _ => rfl
  | .bl _, .xc _ _ => rfl
  | .bl _, .tup _ => rfl
  | .bl _, .lst _ => rfl
  | .tup _, .non => rfl
  | .tup _, .int _ => rfl
  | .tup _, .bl _ => rfl
  | .tup _, .str _ => rfl
  | .tup _, .emp => rfl
  | .tup _, .typ _ => rfl
  | .tup _, .sn _ => rfl
  | .tup _, .obj _ _ _ => rfl
  | .tup _, .cls _ => rfl
  | .tup _, .xc _ _ => rfl
  | .tup _, .lst _ => rfl
theorem t5 : ∀ l m : List D, l.length = m.length -> jo true l m = l
  | [], [], _ => rfl
  | x :: l, y :: m, h => by
    show mi true x y :: jo true l m = x :: l
    rw [oR x y, t5 l m (by simpa using h)]
  | [], _ :: _, h => by cases h
  | _ :: _, [], h => by cases h
end
mutual
theorem oS : ∀ x y : D, mi false x y = y
  | .int _, .int _ => rfl
  | .bl _, .bl _ => rfl
  | .tup l, .tup m => by
    show (if l.length = m.length then D.tup (jo false l m) else cond false (.tup l) (.tup m)) = .tup m
    split
    . rename_i h; rw [t6 l m h]
    . rfl
  | .non, _ => rfl
  | .str _, _ => rfl
  | .emp, _ => rfl
  | .lst _, _ => rfl
  | .typ _, _ => rfl
  | .sn _, _ => rfl
  | .obj _ _ _, _ => rfl
  | .cls _, _ => rfl
  | .xc _ _, _ => rfl
  | .int _, .non => rfl
  | .int _, .bl _ => rfl
  | .int _, .str _ => rfl
  | .int _, .emp => rfl
  | .int _, .typ _ => rfl
  | .int _, .sn _ => rfl
  | .int _, .obj _ _ _ => rfl
  | .int _, .cls _ => rfl
  | .int _, .xc _ _ => rfl
  | .int _, .tup _ => rfl
  | .int _, .lst _ => rfl
  | .bl _, .non => rfl
  | .bl _, .int _ => rfl
  | .bl _, .str _ => rfl
  | .bl _, .emp => rfl
  | .bl _, .typ _ => rfl
  | .bl _, .sn _ => rfl
  | .bl _, .obj _ _ _ => rfl
  | .bl _, .cls _ => rfl
  | .bl _, .xc _ _ => rfl
  | .bl _, .tup _ => rfl
  | .bl _, .lst _ => rfl
  | .tup _, .non => rfl
  | .tup _, .int _ => rfl
  | .tup _, .bl _ => rfl
  | .tup _, .str _ => rfl
  | .tup _, .emp => rfl
  | .tup _, .typ _ => rfl
  | .tup _, .sn _ => rfl
  | .tup _, .obj _ _ _ => rfl
  | .tup _, .cls _ => rfl
  | .tup _, .xc _ _ => rfl
  | .tup _, .lst _ => rfl
theorem t6 : ∀ l m : List D, l.length = m.length -> jo false l m = m
  | [], [], _ => rfl
  | x :: l, y :: m, h => by
    show mi false x y :: jo false l m = y :: m
    rw [oS x y, t6 l m (by simpa using h)]
  | [], _ :: _, h => by cases h
  | _ :: _, [], h => by cases h
end
theorem xh {k j : Nat} : ug true k j = k := by unfold ug; split <;> rfl
theorem xi {k j : Nat} : ug false k j = j := by
  unfold ug; split
  . assumption
  . rfl
theorem rh {t : Bool} {r s : R1} {d : D × Nat} {l : List Prop} (h : xl t r s = .ok d l) (hp : aF l) : ∃ m, (if t = true then r else s) = .ok d m /\ aF m := by
  unfold xl at h
  split at h
  . cases t with
    | true => cases h
    | false => exact ⟨l, h, hp⟩
  . rename_i p m
    split at h
    . cases t with
      | true => exact ⟨l, h, hp⟩
      | false => cases h
    . rename_i q n
      cases h
      obtain ⟨p1, p2⟩ := dm.mp hp
      cases t with
      | true => exact ⟨m, by rw [oR, xh]; rfl, ln p1 rfl⟩
      | false => exact ⟨n, by rw [oS, xi]; rfl, ln p2 rfl⟩
theorem jS {α : Type} {p : D × Nat} {f : Bool -> Rs α} {a : α} {l : List Prop} (h : gY p f = .ok a l) : ∃ b, p.1 = .bl b /\ f b = .ok a l := by
  unfold gY at h
  split at h
  . rename_i b e; exact ⟨b, e, h⟩
  . cases h
theorem vI {p : D × Nat} {f : Int -> R1} {a : D × Nat} {l : List Prop} (h : iP p f = .ok a l) : ∃ b, p.1 = .int b /\ f b = .ok a l := by
  unfold iP at h
  split at h
  . rename_i b e; exact ⟨b, e, h⟩
  . cases h
structure Ih (Φ : Fx) (n : Nat) : Prop where
  e : ∀ (e : Expr) {it : Bool} {sc : Scope} {ρ : al} {p : D × Nat} {l : List Prop} {X : Cx}, sizeOf e < n -> aC Φ e it sc ρ = .ok p l -> aF l -> aT Φ X sc -> eS X ρ e it p.1 p.2
  es : ∀ (es : List Expr) {sc : Scope} {ρ : al} {p : List D × Nat} {l : List Prop} {X : Cx}, sizeOf es < n -> bW Φ es sc ρ = .ok p l -> aF l -> aT Φ X sc -> AD X ρ es p.1 p.2
  b : ∀ (op : BoolOp) (es : List Expr) {sc : Scope} {ρ : al} {b : Bool} {l : List Prop} {X : Cx}, sizeOf es < n -> dN Φ op es sc ρ = .ok b l -> aF l -> aT Φ X sc -> dR X ρ op es b
  o : ∀ (e : Option Expr) {sc : Scope} {ρ : al} {o : Option Int} {l : List Prop} {X : Cx}, sizeOf e < n -> nl Φ e sc ρ = .ok o l -> aF l -> aT Φ X sc -> OD X ρ e o
theorem bj {a b n : Nat} (h : a < b) (hs : b < n + 1) : a < n := Nat.lt_of_lt_of_le h (Nat.le_of_lt_succ hs)
section
variable {Φ : Fx} {n : Nat} {it : Bool} {sc : Scope} {ρ : al} {r : D × Nat} {l : List Prop} {X : Cx}
theorem xU {x : Str} {pos : Pos} (h : iN Φ x sc ρ = .ok r l) (G : aT Φ X sc) : eS X ρ (.Name x pos) it r.1 r.2 := by
  unfold iN at h
  split at h
  . rename_i hx
    split at h
    . rename_i hg
      split at h
      . rename_i d hd; cases h; exact bZ (BY G hd hg hx) (fun _ => rfl)
      . split at h
        . rename_i T hT; cases h; exact bZ (BV G hT hg) (fun _ => rfl)
        . cases h
    . split at h
      . rename_i p hl
        unfold mk at h; cases h
        exact bZ (zh (o := p.2) hl hx) (fun _ => rfl)
      . cases h
  . cases h
theorem Aj (I : Ih Φ n) {a b : Expr} {op : Operator} {pos : Pos} (hs : sizeOf (Expr.BinOp a op b pos) < n + 1) (h : aC Φ (.BinOp a op b pos) it sc ρ = .ok r l) (hp : aF l) (G : aT Φ X sc) : eS X ρ (.BinOp a op b pos) it r.1 r.2 := by
  obtain ⟨p, l1, l2, h1, p1, h, p2⟩ := aN (show Rs.bnd _ _ = _ from h) hp
  obtain ⟨q, l3, l4, h2, p3, h, p4⟩ := aN h p2
  exact bZ (B3 ((I.e a (bj (by simp <;> omega) hs) h1 p1 G).ed rfl) ((I.e b (bj (by simp <;> omega) hs) h2 p3 G).ed rfl) h p4) (fun _ => rfl)
theorem CG (I : Ih Φ n) {a : Expr} {op : UnaryOp} {pos : Pos} (hs : sizeOf (Expr.UnaryOp op a pos) < n + 1) (h : aC Φ (.UnaryOp op a pos) it sc ρ = .ok r l) (hp : aF l) (G : aT Φ X sc) : eS X ρ (.UnaryOp op a pos) it r.1 r.2 := by
  obtain ⟨p, l1, l2, h1, p1, h, p2⟩ := aN (show Rs.bnd _ _ = _ from h) hp
  split at h
  . rename_i z hu
    cases h
    have c := I.e a (bj (by simp <;> omega) hs) h1 p1 G
    refine .of (Dn (c.ed rfl) hu) fun b hb => ?_
    have hb : z = .bl b := hb
    subst hb
    unfold wD at hu
    split at hu
    . cases hu
    . rename_i e; cases hu; exact zY (c.td rfl _ e)
    . cases hu
  . cases h
theorem Ai (I : Ih Φ n) {a b : Expr} {op : CmpOp} {pos : Pos} (hs : sizeOf (Expr.Compare a [op] [b] pos) < n + 1) (h : aC Φ (.Compare a [op] [b] pos) it sc ρ = .ok r l) (hp : aF l) (G : aT Φ X sc) : eS X ρ (.Compare a [op] [b] pos) it r.1 r.2 := by
  obtain ⟨p, l1, l2, h1, p1, h, p2⟩ := aN (show Rs.bnd _ _ = _ from h) hp
  obtain ⟨q, l3, l4, h2, p3, h, p4⟩ := aN h p2
  obtain ⟨z, l5, l6, hc, p5, h, p6⟩ := aN h p4
  cases h
  have ca := (I.e a (bj (by simp <;> omega) hs) h1 p1 G).ed rfl
  have cb := (I.e b (bj (by simp <;> omega) hs) h2 p3 G).ed rfl
  exact .of (BZ G.room ca cb hc p5 (xw h2)) fun b' hb' => by cases hb'; exact zZ G.room ca cb hc p5 (xw h2)
theorem u9 (I : Ih Φ n) {a b c : Expr} {op op2 : CmpOp} {pos : Pos} (hs : sizeOf (Expr.Compare a [op, op2] [b, c] pos) < n + 1) (h : aC Φ (.Compare a [op, op2] [b, c] pos) it sc ρ = .ok r l) (hp : aF l) (G : aT Φ X sc) : eS X ρ (.Compare a [op, op2] [b, c] pos) it r.1 r.2 := by
  obtain ⟨p, l1, l2, h1, p1, h, p2⟩ := aN (show Rs.bnd _ _ = _ from h) hp
  obtain ⟨q, l3, l4, h2, p3, h, p4⟩ := aN h p2
  obtain ⟨t, l5, l6, h3, p5, h, p6⟩ := aN h p4
  obtain ⟨x, y, z, r1, r2, e1, e2, e3, k1, k2, rfl⟩ := zr h
  have ca := (I.e a (bj (by simp <;> omega) hs) h1 p1 G).ed rfl
  have cb := (I.e b (bj (by simp <;> omega) hs) h2 p3 G).ed rfl
  have cc := (I.e c (bj (by simp <;> omega) hs) h3 p5 G).ed rfl
  rw [e1] at ca
  rw [e2] at cb
  rw [e3] at cc
  exact .of (vS G.room ca cb cc k1 k2 (xw h3)) fun b' hb' => by cases hb'; exact u6 G.room ca cb cc k1 k2 (xw h3)
theorem CH (I : Ih Φ n) {c a b : Expr} {pos : Pos} (hs : sizeOf (Expr.IfExp c a b pos) < n + 1) (h : aC Φ (.IfExp c a b pos) it sc ρ = .ok r l) (hp : aF l) (G : aT Φ X sc) : eS X ρ (.IfExp c a b pos) it r.1 r.2 := by
  obtain ⟨p, l1, l2, h1, p1, h, p2⟩ := aN (show Rs.bnd _ _ = _ from h) hp
  obtain ⟨t, ht, h⟩ := jS h
  obtain ⟨m, he, hm⟩ := rh h p2
  have hc := (I.e c (bj (by simp <;> omega) hs) h1 p1 G).td rfl t ht
  cases t with
  | true =>
    rw [if_pos rfl] at he
    have ha := I.e a (bj (by simp <;> omega) hs) he hm G
    refine .of (xt hc (by rw [if_pos rfl]; exact ha.ed rfl)) fun b' hb' => ?_
    intro ow pins s σ H Q I ⟨E, q⟩
    refine isTrue_IfExp (aL (hc ow pins s σ H (fun t H1 => t = true /\ az H H1) I ⟨E, fun H1 s1 => ⟨rfl, s1⟩⟩) fun t s1 ⟨H1, I1, e1, s1'⟩ => ?_)
    subst e1
    exact ha.td rfl b' hb' ow pins s1 σ H1 Q I1 ⟨E.same s1', fun H2 s2 => q H2 (s1'.trans s2)⟩
  | false =>
    rw [if_neg Bool.false_ne_true] at he
    have hb := I.e b (bj (by simp <;> omega) hs) he hm G
    refine .of (xt hc (by rw [if_neg Bool.false_ne_true]; exact hb.ed rfl)) fun b' hb' => ?_
    intro ow pins s σ H Q I ⟨E, q⟩
    refine isTrue_IfExp (aL (hc ow pins s σ H (fun t H1 => t = false /\ az H H1) I ⟨E, fun H1 s1 => ⟨rfl, s1⟩⟩) fun t s1 ⟨H1, I1, e1, s1'⟩ => ?_)
    subst e1
    exact hb.td rfl b' hb' ow pins s1 σ H1 Q I1 ⟨E.same s1', fun H2 s2 => q H2 (s1'.trans s2)⟩
theorem rX {Φ : Fx} {e : Expr} {it : Bool} {sc : Scope} {ρ : al} {r : D × Nat} {l : List Prop} (h : aC Φ e it sc ρ = .ok r l) : mP e := by
  cases e <;> first | (intro _ _; rfl) | cases h
theorem wN (I : Ih Φ n) {a i : Expr} {pos : Pos} (hs : sizeOf (Expr.Subscript a i pos) < n + 1) (h : ((aC Φ a false sc ρ).bnd fun p => (aC Φ i false sc ρ).bnd fun q => iP q fun j => lh p.1 j p.2) = .ok r l) (hp : aF l) (G : aT Φ X sc) : eS X ρ (.Subscript a i pos) it r.1 r.2 := by
  obtain ⟨p, l1, l2, h1, p1, h, p2⟩ := aN h hp
  obtain ⟨q, l3, l4, h2, p3, h, p4⟩ := aN h p2
  obtain ⟨j, hj, h⟩ := vI h
  have c2 := (I.e i (bj (by simp <;> omega) hs) h2 p3 G).ed rfl
  rw [hj] at c2
  exact bZ (Do ((I.e a (bj (by simp <;> omega) hs) h1 p1 G).ed rfl) c2 (rX h2) h) (fun _ => rfl)
theorem u8 (I : Ih Φ n) {a : Expr} {lo hi : Option Expr} {p2 pos : Pos} (hs : sizeOf (Expr.Subscript a (.Slice lo hi none p2) pos) < n + 1) (h : aC Φ (.Subscript a (.Slice lo hi none p2) pos) it sc ρ = .ok r l) (hp : aF l) (G : aT Φ X sc) : eS X ρ (.Subscript a (.Slice lo hi none p2) pos) it r.1 r.2 := by
  obtain ⟨p, l1, l2, h1, p1, h, q2⟩ := aN (show Rs.bnd _ _ = _ from h) hp
  obtain ⟨q, l3, l4, h2, p3, h, p4⟩ := aN h q2
  obtain ⟨q', l5, l6, h3, p5, h, p6⟩ := aN h p4
  exact bZ (G.slf X ρ a lo hi p2 pos p.1 r.1 q q' p.2 r.2 l6 ((I.e a (bj (by simp <;> omega) hs) h1 p1 G).ed rfl) (I.o lo (bj (by simp <;> omega) hs) h2 p3 G) (I.o hi (bj (by simp <;> omega) hs) h3 p5 G) h p6) (fun _ => rfl)
theorem Ah (I : Ih Φ n) {a i : Expr} {pos : Pos} (hs : sizeOf (Expr.Subscript a i pos) < n + 1) (h : aC Φ (.Subscript a i pos) it sc ρ = .ok r l) (hp : aF l) (G : aT Φ X sc) : eS X ρ (.Subscript a i pos) it r.1 r.2 := by
  cases i with
  | Slice lo hi st p2 =>
    cases st with
    | none => exact u8 I hs h hp G
    | some e => exact wN I hs h hp G
  | _ => exact wN I hs h hp G
theorem xV (I : Ih Φ n) {f : Str} {p pos : Pos} {args : List Expr} (hs : sizeOf args < n) (hf : sc.names.lookup f = some .globalImplicit) (h0 : ((bW Φ args sc ρ).bnd fun p => lE Φ f it p.1 p.2) = .ok r l) (hp : aF l) (G : aT Φ X sc) : eS X ρ (.Call (.Name f p) args [] pos) it r.1 r.2 := by
  obtain ⟨q, l1, l2, h1, p1, h, p2⟩ := aN h0 hp
  clear h0
  have ha := I.es args hs h1 p1 G
  obtain ⟨hst, hlen⟩ := cF h1 p1
  unfold lE at h
  split at h
  . rename_i F hF
    obtain ⟨d, l3, l4, h2, p3, h, p4⟩ := aN h p2
    cases h
    exact bZ (zn G hF hf ha hst (fun z => by subst z; exact List.length_eq_zero_iff.mp hlen.symm) h2 p3) (fun _ => rfl)
  . split at h
    . rename_i B hB
      split at hB
      . rename_i hit
        have hI := G.itr f B hB
        refine ⟨fun z => (by rw [hit] at z; cases z), fun z => (by rw [hit] at z; cases z), fun _ tg l' hl ht => ?_⟩
        exact hI.2 X ρ p pos args q.1 q.2 r.1 r.2 l' tg l2 G.calm (G.gl f hf) (G.bl f hI.1) ha hst hlen h p2 hl ht
      . cases hB
    . split at h
      . rename_i B hB
        have hb := G.blt f B hB
        cases args with
        | nil =>
          have e0 : q.1 = [] := List.length_eq_zero_iff.mp hlen.symm
          rw [e0, hb.2.2.2.1] at h; cases h
        | cons e es => exact bZ (B2 G hb hf ha hst h p2) (fun _ => rfl)
      . cases h
theorem vc (I : Ih Φ n) {f : Str} {p pos : Pos} {args : List Expr} (hs : sizeOf (Expr.Call (.Name f p) args [] pos) < n + 1) (h : aC Φ (.Call (.Name f p) args [] pos) it sc ρ = .ok r l) (hp : aF l) (G : aT Φ X sc) : eS X ρ (.Call (.Name f p) args [] pos) it r.1 r.2 := by
  rw [kA] at h
  split at h
  . rename_i hf
    exact xV I (bj (by simp <;> omega) hs) hf h hp G
  . cases h
theorem vd (I : Ih Φ n) {a : Expr} {m : Str} {ap pos : Pos} {args : List Expr} (hs : sizeOf (Expr.Call (.Attribute a m ap) args [] pos) < n + 1) (h : aC Φ (.Call (.Attribute a m ap) args [] pos) it sc ρ = .ok r l) (hp : aF l) (G : aT Φ X sc) : eS X ρ (.Call (.Attribute a m ap) args [] pos) it r.1 r.2 := by
  rw [kB] at h
  split at h
  . rename_i hln
    obtain ⟨p, l1, l2, h1, p1, h, p2⟩ := aN h hp
    obtain ⟨q, l3, l4, h2, p3, h, p4⟩ := aN h p2
    obtain ⟨hst, hlen⟩ := cF h2 p3
    have hea := (I.e a (bj (by simp <;> omega) hs) h1 p1 G).ed rfl
    have hes := I.es args (bj (by simp <;> omega) hs) h2 p3 G
    obtain ⟨x, kx⟩ := p
    unfold sh at h
    dsimp only at h hea
    split at h
    . rename_i n ns es
      split at h
      . rename_i hc
        split at h
        . rename_i F hF
          obtain ⟨d, l5, l6, h3, p5, h, p6⟩ := aN h p4
          cases h
          exact bZ (zi G hF hea hes hst hlen hc.1 hc.2.1 hc.2.2 hln h3 p5) (fun _ => rfl)
        . cases h
      . cases h
    . split at h
      . rename_i hb
        split at h
        . rename_i M hM
          exact bZ (G.mth m M hM X ρ a args ap pos x kx q.1 q.2 r.1 r.2 l4 G.calm G.room hea hes hst hlen hln hb h p4) (fun _ => rfl)
        . cases h
      . cases h
  . cases h
theorem xP {elt tg : Expr} {ifs : List Expr} {scope : Scope} {ds : List D} {q : List D × Nat} {m : List Prop} (hE : ∀ {ρ : al} {p : D × Nat} {l : List Prop} {X : Cx}, aC Φ elt false scope ρ = .ok p l -> aF l -> aT Φ X scope -> eS X ρ elt false p.1 p.2)
    (hB : ∀ {ρ : al} {b : Bool} {l : List Prop} {X : Cx}, dN Φ .And ifs scope ρ = .ok b l -> aF l -> aT Φ X scope -> dR X ρ .And ifs b) (hc : nu sc scope = true) (G : aT Φ X sc)
    (h : gp (fun d => match b8 scope tg d (flt scope ρ) with
            | none => .st
            | some ρ' => (dN Φ .And ifs scope ρ').bnd fun b => cond b ((aC Φ elt false scope ρ').bnd fun r => .ok (some r) []) (.ok none [])) ds = .ok q m) (hp : aF m) (hj : q.2 <= 1) :
    ∃ f : D -> Option D, q.1 = ds.filterMap f /\ ∀ cl C s H fp, ∀ d ∈ ds, jU (jr X scope cl C (scope.names.map (·.1)) s H fp) (flt scope ρ) tg ifs elt q.2 d (f d) := by
  generalize hst : (fun d => match b8 scope tg d (flt scope ρ) with
            | none => .st
            | some ρ' => (dN Φ .And ifs scope ρ').bnd fun b => cond b ((aC Φ elt false scope ρ').bnd fun r => .ok (some r) []) (.ok none []) : D -> Rs (Option (D × Nat))) = step at h
  obtain ⟨c1, c2, c3⟩ := pN h hp
  refine ⟨_, c2, fun cl C s H fp d hd => ?_⟩
  have G' := y6 (cl := cl) (C := C) (s := s) (H := H) (fp := fp) G hc
  obtain ⟨x, lx, hx, px⟩ := c1 d hd
  have c3 := c3 hj d hd
  have hs := congrFun hst d
  unfold nP
  rw [hx]
  split at hs
  . rw [<- hs] at hx; cases hx
  . rename_i ρ' hb
    have gd := xm G' hb
    have ext : ∀ x y, flt scope ρ x = some y -> ρ' x = some y := fun x y hxy => uN hb x y (iS hxy).2 hxy
    have hx0 := hx
    rw [<- hs] at hx
    obtain ⟨b, l3, l4, h2, p3, hx, p4⟩ := aN hx px
    have ts := (hB h2 p3 G').ts rfl
    cases b with
    | false =>
      cases hx
      exact ⟨ρ', false, gd, ext, ts, rfl⟩
    | true =>
      rw [cond_true] at hx
      obtain ⟨z, l5, l6, h3, p5, hx, p6⟩ := aN hx p4
      cases hx
      exact ⟨ρ', true, gd, ext, ts, rfl, ((hE h3 p5 G').ed rfl).up (c3 z lx hx0) hj⟩
theorem qN (I : Ih Φ n) {elt tg iter : Expr} {ifs : List Expr} {scope : Scope} {pos : Pos} (hs : sizeOf (Expr.ListComp elt [⟨tg, iter, ifs, 0⟩] scope pos) < n + 1) (h : aC Φ (.ListComp elt [⟨tg, iter, ifs, 0⟩] scope pos) it sc ρ = .ok r l) (hp : aF l) (G : aT Φ X sc) :
    ∃ ds f k, (aA ds = true \/ k <= 1) /\ r.2 <= 1 /\ ds.length < sizeLine /\ gf X.env scope (scope.names.map (·.1)) /\ (∀ x d o, flt scope ρ x = some (d, o) -> x ∈ scope.names.map (·.1)) /\ IE X ρ tg iter ds k /\
      (∀ cl C s H fp, ∀ d ∈ ds, jU (jr X scope cl C (scope.names.map (·.1)) s H fp) (flt scope ρ) tg ifs elt r.2 d (f d)) /\ (∀ x, foldedSetIterable iter X.env x = pure x) /\ r.1 = .lst (ds.filterMap f) := by
  rw [mC] at h
  split at h
  . rename_i hc
    obtain ⟨p, l1, l2, h1, p1, h, p2⟩ := aN h hp
    split at h
    . rename_i ds hd
      split at h
      . rename_i ht
        obtain ⟨u0, l7, l8, h7, p7, h, p8⟩ := aN h p2
        cases h7
        have hl := And.intro p7.1 p7.2.1
        obtain ⟨q, l3, l4, h2, p3, h, p4⟩ := aN h p8
        split at h
        . rename_i hj
          cases h
          obtain ⟨f, e1, t⟩ := xP (fun a b c => I.e elt (by first | omega | (simp at *; omega)) a b c) (fun a b c => I.b .And ifs (by first | omega | (simp at *; omega)) a b c) hc G h2 p3 hj
          refine ⟨ds, f, p.2, hl.2, hj, Nat.lt_of_le_of_lt hl.1 ng, uD G hc, fun x d o hx => kY (iS hx).2, (I.e iter (by first | omega | (simp at *; omega)) h1 p1 G).ie rfl tg ds hd ht, t, nk h1, by rw [e1]⟩
        . cases h
      . cases h
    . cases h
  . cases h
theorem mm {elt : Expr} {gens : List Comprehension} {scope : Scope} {pos : Pos} (h : aC Φ (.ListComp elt gens scope pos) it sc ρ = .ok r l) : ∃ tg iter ifs, gens = [⟨tg, iter, ifs, 0⟩] := by
  match gens, h with
  | [⟨tg, iter, ifs, 0⟩], h => exact ⟨_, _, _, rfl⟩
  | [], h => cases h
  | ⟨_, _, _, .ofNat (n + 1)⟩ :: r, h => cases r <;> cases h
  | ⟨_, _, _, .negSucc n⟩ :: _, h => cases h
  | ⟨_, _, _, 0⟩ :: _ :: _, h => cases h
theorem Dl (I : Ih Φ n) (e : Expr) (hs : sizeOf e < n + 1) (h : aC Φ e it sc ρ = .ok r l) (hp : aF l) (G : aT Φ X sc) : eS X ρ e it r.1 r.2 := by
  cases e with
  | Constant c k p =>
    replace h : (match xu c with | some d => .ok (d, 0) [] | none => .st : R1) = .ok r l := h
    split at h
    . rename_i d hc; cases h; exact bZ (BX hc) (fun _ => rfl)
    . cases h
  | Name x p => exact xU h G
  | BinOp a op b p => exact Aj I hs h hp G
  | UnaryOp op a p => exact CG I hs h hp G
  | BoolOp op es p =>
    rw [mD] at h
    split at h
    . cases h
    . rename_i hne
      obtain ⟨b, l1, l2, h1, p1, h, p2⟩ := aN h hp
      cases h
      have ne : es ≠ [] := fun z => hne (by rw [z]; rfl)
      have c := I.b op es (bj (by simp <;> omega) hs) h1 p1 G
      exact .of (c.ed ne p) fun b' hb' => by cases hb'; exact fun ow => (c.tw ne p ow).pt
  | Compare a ops bs p =>
    match ops, bs, hs, h with
    | [op], [b], hs, h => exact Ai I hs h hp G
    | [], bs, _, h => cases h
    | [op], [], _, h => cases h
    | [op], _ :: _ :: _, _, h => cases h
    | [op, op2], [b, c], hs, h => exact u9 I hs h hp G
    | [_, _], [], _, h => cases h
    | [_, _], [_], _, h => cases h
    | [_, _], _ :: _ :: _ :: _, _, h => cases h
    | _ :: _ :: _ :: _, bs, _, h => cases h
  | IfExp c a b p => exact CH I hs h hp G
  | Tuple es k p =>
    obtain ⟨q, l1, l2, h1, p1, h, p2⟩ := aN (show Rs.bnd _ _ = _ from h) hp
    split at h
    . rename_i hl
      unfold mk at h; cases h
      exact bZ (vQ (I.es es (bj (by simp <;> omega) hs) h1 p1 G) hl) (fun _ => rfl)
    . cases h
  | List es p =>
    obtain ⟨q, l1, l2, h1, p1, h, p2⟩ := aN (show Rs.bnd _ _ = _ from h) hp
    split at h
    . rename_i hl
      cases h
      exact bZ (zk (I.es es (bj (by simp <;> omega) hs) h1 p1 G) hl.2 hl.1) (fun _ => rfl)
    . cases h
  | Attribute a f p =>
    cases a with
    | Name x pn =>
      obtain ⟨q, l1, l2, h1, p1, h, p2⟩ := aN (show Rs.bnd _ _ = _ from h) hp
      have hea := (I.e (.Name x pn) (bj (by simp <;> omega) hs) (it := false) h1 p1 G).ed rfl
      obtain ⟨d, kd⟩ := q
      unfold BJ at h
      dsimp only at h hea
      split at h
      . rename_i n ns ds
        split at h
        . rename_i hf
          split at h
          . rename_i e hl
            cases h
            exact bZ (BW G hf hea rfl hl) (fun _ => rfl)
          . cases h
        . cases h
      . cases h
    | _ => cases h
  | Dict ks vs p =>
    match ks, vs, h with
    | [], [], h => cases h
    | _ :: _, _, h => cases h
    | [], _ :: _, h => cases h
  | Subscript a i p => exact Ah I hs h hp G
  | Call f args kws p =>
    cases f with
    | Name f fp =>
      cases kws with
      | nil => exact vc I hs h hp G
      | cons _ _ => cases h
    | Attribute a m ap =>
      cases kws with
      | nil => exact vd I hs h hp G
      | cons _ _ => cases h
    | _ => cases h
  | ListComp elt gens scope p =>
    obtain ⟨tg, iter, ifs, rfl⟩ := mm h
    obtain ⟨ds, f, k, a1, a2, a3, a4, a5, a6, a7, a8, a9⟩ := qN I hs h hp G
    rw [a9]
    exact bZ (zm G.calm G.nd a1 a2 a3 a4 a5 a6 a7 a8) (fun _ => rfl)
  | _ => cases h
theorem BP (I : Ih Φ n) (es : List Expr) {r : List D × Nat} (hs : sizeOf es < n + 1) (h : bW Φ es sc ρ = .ok r l) (hp : aF l) (G : aT Φ X sc) : AD X ρ es r.1 r.2 := by
  cases es with
  | nil => cases h; exact lF
  | cons e es =>
    obtain ⟨p, l1, l2, h1, p1, h, p2⟩ := aN (show Rs.bnd _ _ = _ from h) hp
    obtain ⟨q, l3, l4, h2, p3, h, p4⟩ := aN h p2
    cases h
    exact jT ((I.e e (bj (by simp <;> omega) hs) h1 p1 G).ed rfl) (I.es es (bj (by simp <;> omega) hs) h2 p3 G) (aO (iU h1))
theorem pW {b c : Bool} {r : Rs Bool} {l : List Prop} (h : sL b r = .ok c l) (hp : aF l) : (b = true /\ ∃ m, r = .ok c m /\ aF m) \/ (b = false /\ c = false) := by
  unfold sL at h
  split at h
  . rename_i c' m
    cases h
    cases b with
    | true => exact .inl ⟨rfl, m, rfl, ln hp rfl⟩
    | false => exact .inr ⟨rfl, rfl⟩
  . cases b with
    | true => cases h
    | false => cases h; exact .inr ⟨rfl, rfl⟩
theorem qT {b c : Bool} {r : Rs Bool} {l : List Prop} (h : wV b r = .ok c l) (hp : aF l) : (b = false /\ ∃ m, r = .ok c m /\ aF m) \/ (b = true /\ c = true) := by
  unfold wV at h
  split at h
  . rename_i c' m
    cases h
    cases b with
    | false => exact .inl ⟨rfl, m, rfl, ln hp rfl⟩
    | true => exact .inr ⟨rfl, rfl⟩
  . cases b with
    | false => cases h
    | true => cases h; exact .inr ⟨rfl, rfl⟩
theorem BR (I : Ih Φ n) (op : BoolOp) (es : List Expr) {b : Bool} (hs : sizeOf es < n + 1) (h : dN Φ op es sc ρ = .ok b l) (hp : aF l) (G : aT Φ X sc) : dR X ρ op es b := by
  cases es with
  | nil =>
    cases op with
    | And => cases h; exact ⟨fun z => absurd rfl z, fun z => absurd rfl z, fun _ => tj⟩
    | Or => cases h; exact ⟨fun z => absurd rfl z, fun z => absurd rfl z, fun z => (by cases z)⟩
  | cons e es =>
    cases op with
    | And =>
      obtain ⟨p, l1, l2, h1, p1, h, p2⟩ := aN (show Rs.bnd _ _ = _ from h) hp
      obtain ⟨b', hb, h⟩ := jS h
      have c := I.e e (bj (by simp <;> omega) hs) h1 p1 G
      have ce := c.ed rfl
      rw [hb] at ce
      have ct := c.td rfl b' hb
      rcases pW h p2 with ⟨rfl, m, h, pm⟩ | ⟨rfl, rfl⟩
      . cases es with
        | nil => cases h; exact fN ce ct
        | cons e2 es => exact qu ce ct (I.b .And (e2 :: es) (bj (by simp <;> omega) hs) h pm G)
      . cases es with
        | nil => exact fN ce ct
        | cons e2 es => exact pT ce ct (fun pos => ⟨_, oK⟩) (fun pos => ⟨_, oG⟩)
    | Or =>
      obtain ⟨p, l1, l2, h1, p1, h, p2⟩ := aN (show Rs.bnd _ _ = _ from h) hp
      obtain ⟨b', hb, h⟩ := jS h
      have c := I.e e (bj (by simp <;> omega) hs) h1 p1 G
      have ce := c.ed rfl
      rw [hb] at ce
      have ct := c.td rfl b' hb
      rcases qT h p2 with ⟨rfl, m, h, pm⟩ | ⟨rfl, rfl⟩
      . cases es with
        | nil => cases h; exact fN ce ct
        | cons e2 es => exact sG ce ct (I.b .Or (e2 :: es) (bj (by simp <;> omega) hs) h pm G)
      . cases es with
        | nil => exact fN ce ct
        | cons e2 es => exact qt ce ct (fun pos => ⟨_, oK⟩) (fun pos => ⟨_, oG⟩)
theorem BQ (I : Ih Φ n) (e : Option Expr) {o : Option Int} (hs : sizeOf e < n + 1) (h : nl Φ e sc ρ = .ok o l) (hp : aF l) (G : aT Φ X sc) : OD X ρ e o := by
  cases e with
  | none => cases h; exact yK
  | some e =>
    obtain ⟨p, l1, l2, h1, p1, h, p2⟩ := aN (show Rs.bnd _ _ = _ from h) hp
    have c := (I.e e (bj (by simp <;> omega) hs) h1 p1 G).ed rfl
    split at h
    . rename_i i hi
      cases h
      rw [hi] at c
      exact yJ c
    . cases h
end
theorem gE (Φ : Fx) : ∀ n, Ih Φ n
  | 0 => ⟨fun _ _ _ _ _ _ _ h => absurd h (Nat.not_lt_zero _), fun _ _ _ _ _ _ h => absurd h (Nat.not_lt_zero _), fun _ _ _ _ _ _ _ h => absurd h (Nat.not_lt_zero _), fun _ _ _ _ _ _ h => absurd h (Nat.not_lt_zero _)⟩
  | n + 1 => ⟨fun e _ _ _ _ _ _ hs h hp G => Dl (gE Φ n) e hs h hp G, fun e _ _ _ _ _ hs h hp G => BP (gE Φ n) e hs h hp G, fun op e _ _ _ _ _ hs h hp G => BR (gE Φ n) op e hs h hp G, fun e _ _ _ _ _ hs h hp G => BQ (gE Φ n) e hs h hp G⟩
theorem Dm {Φ : Fx} (e : Expr) {it : Bool} {sc : Scope} {ρ : al} {p : D × Nat} {l : List Prop} {X : Cx} (h : aC Φ e it sc ρ = .ok p l) (hp : aF l) (G : aT Φ X sc) : eS X ρ e it p.1 p.2 := (gE Φ _).e e (Nat.lt_succ_self _) h hp G
theorem iC {Φ : Fx} (es : List Expr) {sc : Scope} {ρ : al} {p : List D × Nat} {l : List Prop} {X : Cx} (h : bW Φ es sc ρ = .ok p l) (hp : aF l) (G : aT Φ X sc) : AD X ρ es p.1 p.2 := (gE Φ _).es es (Nat.lt_succ_self _) h hp G
end Sp
set_option Elab.async false
set_option linter.all false
set_option maxRecDepth 100000
namespace Sp
open PySem PySem.Spec PyProof.Rows L2
structure bu (ow : Ow) (H : Hp) (ow' : Ow) (H' : Hp) : Prop where
  keep : ∀ a o, H a = some o -> ((∀ vs, o ≠ .lst vs) \/ ow a = none) -> H' a = some o
  low : ∀ a o, H a = some o -> ow a = none -> ow' a = none
theorem bu.refl (ow : Ow) (H : Hp) : bu ow H ow H := ⟨fun _ _ h _ => h, fun _ _ _ h => h⟩
theorem bu.same {ow : Ow} {H H' : Hp} (s : az H H') : bu ow H ow H' := ⟨fun a o h _ => s a o h, fun _ _ _ h => h⟩
theorem bu.trans {ow ow1 ow2 : Ow} {H H1 H2 : Hp} (a : bu ow H ow1 H1) (b : bu ow1 H1 ow2 H2) : bu ow H ow2 H2 :=
  ⟨fun x o h c => b.keep x o (a.keep x o h c) (c.imp id fun z => a.low x o h z), fun x o h z => b.low x o (a.keep x o h (.inr z)) (a.low x o h z)⟩
def cq (H0 : Hp) (ow : Ow) (H : Hp) : Prop := ∀ a o, H0 a = some o -> H a = some o /\ ow a = none
theorem cq.keep {H0 : Hp} {ow ow' : Ow} {H H' : Hp} (b : cq H0 ow H) (k : bu ow H ow' H') : cq H0 ow' H' := fun a o h => let ⟨h1, h2⟩ := b a o h; ⟨k.keep a o h1 (.inr h2), k.low a o h1 h2⟩
theorem cq.sm {H0 : Hp} {ow : Ow} {H : Hp} (b : cq H0 ow H) : az H0 H := fun a o h => (b a o h).1
variable {X : Cx}
def mO (X : Cx) (H0 : Hp) (ow : Ow) (H : Hp) (fl : Fl) (D : i5) : Prop :=
  match fl with
  | .nx ρ => ∀ ow' σ' H', aP X ow' H' σ' ρ -> σ'.length = X.N.length -> bu ow H ow' H' -> D.nx σ' H'
  | .bk ρ => ∀ ow' σ' H', aP X ow' H' σ' ρ -> σ'.length = X.N.length -> bu ow H ow' H' -> D.bk σ' H'
  | .ct ρ => ∀ ow' σ' H', aP X ow' H' σ' ρ -> σ'.length = X.N.length -> bu ow H ow' H' -> D.ct σ' H'
  | .rt d => ∀ v H', az H0 H' -> ak X.K H' (fun a b => b = true /\ H0 a = none) d v -> D.rt v H'
theorem mO.keep {H0 : Hp} {ow ow' : Ow} {H H' : Hp} {fl : Fl} {D : i5} (p : mO X H0 ow H fl D) (k : bu ow H ow' H') : mO X H0 ow' H' fl D := by
  cases fl with
  | nx ρ => exact fun ow2 σ2 H2 a b c => p ow2 σ2 H2 a b (k.trans c)
  | bk ρ => exact fun ow2 σ2 H2 a b c => p ow2 σ2 H2 a b (k.trans c)
  | ct ρ => exact fun ow2 σ2 H2 a b c => p ow2 σ2 H2 a b (k.trans c)
  | rt d => exact p
def wI (X : Cx) (H0 : Hp) (ρ : al) (fl : Fl) : TS := fun D σ H => ∃ ow, aP X ow H σ ρ /\ σ.length = X.N.length /\ cq H0 ow H /\ mO X H0 ow H fl D
def SD (X : Cx) (H0 : Hp) (ρ : al) (st : Stmt) (fl : Fl) : Prop := PS X st (wI X H0 ρ fl)
def i9 (X : Cx) (H0 : Hp) (ρ : al) (st : List Stmt) (fl : Fl) : Prop := eJ X st (wI X H0 ρ fl)
theorem xW {H0 : Hp} {ρ : al} : i9 X H0 ρ [] (.nx ρ) := fun pins s σ H D I ⟨ow, E, hl, B, q⟩ => yk pins s σ H D I (q ow σ H E hl (bu.refl _ _))
theorem ki {H0 : Hp} {ρ ρ1 : al} {st : Stmt} {ss : List Stmt} {fl : Fl} (h1 : SD X H0 ρ st (.nx ρ1)) (h2 : i9 X H0 ρ1 ss fl) : i9 X H0 ρ (st :: ss) fl := fun pins s σ H D I ⟨ow, E, hl, B, q⟩ =>
  dY h1 h2 pins s σ H D I ⟨ow, E, hl, B, fun ow' σ' H' E' hl' k => ⟨ow', E', hl', B.keep k, q.keep k⟩⟩
theorem kh {H0 : Hp} {ρ : al} {st : Stmt} {ss : List Stmt} {fl : Fl} (h1 : SD X H0 ρ st fl) (hf : ∀ ρ', fl ≠ .nx ρ') : i9 X H0 ρ (st :: ss) fl := fun pins s σ H D I ⟨ow, E, hl, B, q⟩ =>
  dY h1 gT pins s σ H D I ⟨ow, E, hl, B, by
    cases fl with
    | nx ρ' => exact absurd rfl (hf ρ')
    | bk ρ' => exact q
    | ct ρ' => exact q
    | rt d => exact q⟩
theorem Aq {H0 : Hp} {ρ : al} {e : Expr} {pos : Pos} {d : D} {k : Nat} (h : ED X ρ e d k) (hk : k = 0 \/ k = 2) : SD X H0 ρ (.Return (some e) pos) (.rt d) := fun pins s σ H D I ⟨ow, E, hl, B, q⟩ =>
  AL (h ow) pins s σ H D I ⟨E, fun v H1 s1 r1 => q v H1 (B.sm.trans s1) (r1.imp fun a b p => by
    rcases hk with rfl | rfl
    . exact ⟨p.1, B.sm.free p.2⟩
    . refine ⟨p.1, p.2.elim (fun z => ?_) B.sm.free⟩
      cases e0 : H0 a with
      | none => rfl
      | some o => exact absurd (B a o e0).2 z)⟩
theorem yg {H0 : Hp} {ρ : al} {e : Expr} {pos : Pos} {d : D} {k : Nat} (h : ED X ρ e d k) (hc : ∃ f p args ks cp, e = .Call (.Name f p) args ks cp) : SD X H0 ρ (.Expr e pos) (.nx ρ) := fun pins s σ H D I ⟨ow, E, hl, B, q⟩ => by
  obtain ⟨f, p, args, ks, cp, rfl⟩ := hc
  exact ip (h ow) rfl pins s σ H D I ⟨E, fun v H1 s1 r1 => q ow σ H1 (E.same s1) hl (bu.same s1)⟩
theorem ye {H0 : Hp} {ρ : al} {pos : Pos} : SD X H0 ρ (.Return none pos) (.rt .non) := fun pins s σ H D I ⟨ow, E, hl, B, q⟩ => ym pins s σ H D I (q .non H B.sm (by rw [ak]))
theorem yf {H0 : Hp} {ρ : al} {pos : Pos} : SD X H0 ρ (.Pass pos) (.nx ρ) := fun pins s σ H D I ⟨ow, E, hl, B, q⟩ => yn pins s σ H D I (q ow σ H E hl (bu.refl _ _))
theorem vj {H0 : Hp} {ρ : al} {pos : Pos} : SD X H0 ρ (.Break pos) (.bk ρ) := fun pins s σ H D I ⟨ow, E, hl, B, q⟩ => vn pins s σ H D I (q ow σ H E hl (bu.refl _ _))
theorem yh {H0 : Hp} {ρ : al} {pos : Pos} : SD X H0 ρ (.Continue pos) (.ct ρ) := fun pins s σ H D I ⟨ow, E, hl, B, q⟩ => ql pins s σ H D I (q ow σ H E hl (bu.refl _ _))
theorem CJ {H0 : Hp} {ρ : al} {c : Expr} {a b : List Stmt} {pos : Pos} {t : Bool} {fl : Fl} (hc : TD X ρ c t) (h : if t = true then i9 X H0 ρ a fl else i9 X H0 ρ b fl) : SD X H0 ρ (.If c a b pos) fl := by
  cases t with
  | true =>
    intro pins s σ H D I ⟨ow, E, hl, B, q⟩
    exact wS (hc ow) h gT pins s σ H D I ⟨E, fun H1 s1 => by
      show if true = true then _ else _
      rw [if_pos rfl]
      exact ⟨ow, E.same s1, hl, B.keep (bu.same s1), q.keep (bu.same s1)⟩⟩
  | false =>
    intro pins s σ H D I ⟨ow, E, hl, B, q⟩
    exact wS (hc ow) gT h pins s σ H D I ⟨E, fun H1 s1 => by
      show if false = true then _ else _
      rw [if_neg Bool.false_ne_true]
      exact ⟨ow, E.same s1, hl, B.keep (bu.same s1), q.keep (bu.same s1)⟩⟩
theorem rq {ow : Ow} {H H1 : Hp} {σ : L2.St} {ρ : al} {x : Str} {d : D} {v : V} {i : Nat} (hN : X.N.Nodup) (hl : σ.length = X.N.length) (E : aP X ow H σ ρ) (sm : az H H1) (hi : X.N[i]? = some x) (hv : fj X.env.scope x) (r : ak X.K H1 (Kp ow H 0) d v) :
    ∃ ow', aP X ow' H1 (σ.set i (some v)) (ck ρ x (d, true)) /\ bu ow H ow' H1 := by
  classical
  let ow' : Ow := fun a => if H a = none /\ ∃ o, H1 a = some o then some (some x) else ow a
  have o1 : ∀ a o, H a = some o -> ow' a = ow a := fun a o h => if_neg (fun z => by rw [h] at z; cases z.1)
  have E1 : aP X ow' H1 σ ρ := ⟨fun y e o h => by
    obtain ⟨j, w, e1, e2, e3, e4⟩ := E.get y e o h
    refine ⟨j, w, e1, e2, e3, ak.same sm (e4.impH (fun a ob ha p => ?_) fun a p => ?_)⟩
    . cases o with
      | true => exact ⟨p.1, (o1 a ob ha).trans p.2⟩
      | false => exact fun z => (o1 a ob ha).trans (p z)
    . cases o with
      | true => cases p.1
      | false => exact fun z => (by cases z), fun a ha => by
    by_cases hz : H a = none /\ ∃ o, H1 a = some o
    . exact hz.2
    . have : ow' a = ow a := if_neg hz
      rw [this] at ha
      exact (E.own.same sm) a ha⟩
  refine ⟨ow', eh hN hl E1 hi hv (r.impH (fun a o ha p => ⟨rfl, if_pos ⟨p.2, o, ha⟩⟩) fun a p => (by cases p.1)), fun a o h _ => sm a o h, fun a o h z => (o1 a o h).trans z⟩
theorem hX {e : Expr} {t : Option Expr} {n : Nat} {env : Env} (h : li e = false) : swapsWith e t n env = pure false := by
  cases e <;> first | rfl | cases h
theorem tL {Φ : Fx} {sc : Scope} {H0 : Hp} {ρ : al} {e : Expr} {x : Str} {p pos : Pos} {d : D} {k : Nat} {o : Bool} (G : aT Φ X sc) (hx : dC sc x = true) (h : ED X ρ e d k) (ho : (k = 0 /\ o = true) \/ (k = 1 /\ o = false)) (hs : swapsWith e (some (.Name x p)) pos.line X.env = pure false) :
    SD X H0 ρ (.Assign [.Name x p] e pos) (.nx (ck ρ x (d, o))) := by
  obtain ⟨g1, g2, g3, i, g4⟩ := fW G hx
  intro pins s σ H D I ⟨ow, E, hl, B, q⟩
  refine tQ (i := i) G.nd g4 g1 (h ow) hs g3 pins s σ H D I ⟨E, fun v H1 s1 r1 => ?_⟩
  show D.nx (σ.set i (some v)) H1
  rcases ho with ⟨rfl, rfl⟩ | ⟨rfl, rfl⟩
  . obtain ⟨ow', E', k'⟩ := rq G.nd hl E s1 g4 g2 r1
    exact q ow' _ H1 E' (by rw [List.length_set]; exact hl) k'
  . exact q ow _ H1 (eh G.nd hl (E.same s1) g4 g2 r1) (by rw [List.length_set]; exact hl) (bu.same s1)
theorem fS {e : Expr} {es : List Expr} {n k : Nat} {p : Pos} {env : Env} : swapsWithSole [.Tuple es n p] e k env = pure false := by
  cases e <;> rfl
theorem tF {e a i : Expr} {k : Nat} {p : Pos} {env : Env} : swapsWithSole [.Subscript a i p] e k env = pure false := by
  cases e <;> rfl
def EG (K : W.Frag) (n : Nat) (t : lN) : TG := fun v σ H Q => ∃ a xs, v = .ref a /\ cA K H a xs /\ xs.length = n /\ t xs σ H Q
theorem AS {es : List Expr} {k : Nat} {t : lN} {n : Nat} {pos : Pos} (hc : X.calm = true) (h : rF X es t)
    (hn : (assignEach es X.env).length = n) (hst : (assignEach es X.env).findIdx? (·.1) = none) : PG X (.Tuple es k pos) (EG X.K n t) := by
  intro pins s σ H v u Q I r hw
  obtain ⟨a, xs, e1, hq, hl, hw⟩ := hw
  subst e1
  cases r
  obtain ⟨its, rv, pl, hz⟩ := I.list hq
  have hsz : (assignEach es X.env).length = its.toArray.size := by simp [hn, <- hl, rv.length]
  rw [assign_Tuple]
  refine wpAny_bind (wpAny_standAt ?_)
  unfold unpack
  rw [hst, hsz]
  refine wpAny_bind (wpAny_holding (W.kun_itemsOf (I.ok.hd hc) pl.isList fun h' hx => ?_))
  have I1 : am X pins σ H { s with heap := h' } := I.kept (t' := s.toks) fun b o e => hx b o (Nat.ne_of_lt (Heap.lt_size e)) e
  exact h pins _ σ H xs _ Q I1 (by simpa using rv) hw
theorem kQ {ow : Ow} {H H1 : Hp} {ds : List D} {vs : List V} {k : Nat} (o : eu ow H) (hf : aA ds = true \/ k <= 1) (r : ao X.K H1 (Kp ow H k) ds vs) : ao X.K H1 (fun a b => b = true -> ow a = none) ds vs := by
  rcases hf with hf | hf
  . exact r.flat _ hf
  . exact r.imp fun a b p hb => by subst hb; exact gW o hf p
theorem l9 {Φ : Fx} {sc : Scope} {es : List Expr} {e : Expr} {n : Nat} {p : Pos} (G : aT Φ X sc) (ht : n9 sc es e = false) : swappedStores [.Tuple es n p] e X.env = pure none := by
  unfold n9 at ht
  cases hte : iw e with
  | false => cases e <;> first | rfl | cases hte
  | true =>
    rw [hte] at ht
    have hc : pS sc es e = true := by simpa using ht
    unfold pS at hc
    split at hc
    . rename_i x px y py a b m q
      have k1 : X.env.kindOf x = some .cell := G.cc x (by simpa using hc)
      unfold swappedStores
      dsimp only
      split
      . rfl
      . split
        . rfl
        . rw [if_pos]
          rw [List.filterMap_cons_none (by simp [k1])]
          have : ∀ l : List Str, l.length <= 1 -> (l.length != [Expr.Name x px, Expr.Name y py].length || l.eraseDups.length != l.length) = true := fun l hl => by
            have : (l.length != [Expr.Name x px, Expr.Name y py].length) = true := by simp; omega
            rw [this]; rfl
          exact this _ (Nat.le_trans (List.length_filterMap_le _ _) (Nat.le_refl _))
    . cases hc
theorem Ao {Φ : Fx} {sc : Scope} {H0 : Hp} {ρ ρ' : al} {es : List Expr} {e : Expr} {n : Nat} {p pos : Pos} {d : D} {ds : List D} {k : Nat} (G : aT Φ X sc) (h : ED X ρ e d k) (hd : fK d = some ds) (hf : aA ds = true \/ k <= 1) (hb : aR sc es ds ρ = some ρ') (ht : n9 sc es e = false) :
    SD X H0 ρ (.Assign [.Tuple es n p] e pos) (.nx ρ') := by
  obtain ⟨t, h1, h2, h3, h4⟩ := jm G hb
  intro pins s σ H D I ⟨ow, E, hl, B, q⟩
  have fin : ∀ H1 vs, az H H1 -> ao X.K H1 (Kp ow H k) ds vs -> t vs σ H1 D.nx := fun H1 vs s1 rl => h4 ow vs σ H1 D.nx hl (E.same s1) (kQ E.own hf rl) fun σ' hl' E' => q ow σ' H1 E' hl' (bu.same s1)
  rcases gA hd with rfl | rfl
  . refine kT (h ow) (oI (n := _) G.calm h1 h2 h3) fS (l9 G ht) rfl pins s σ H D I ⟨E, fun v H1 s1 r1 => ?_⟩
    obtain ⟨a, vs, rfl, hs, rl⟩ := eD r1
    exact ⟨a, vs, rfl, hs, rl.length.symm, fin H1 vs s1 rl⟩
  . refine kT (h ow) (AS (n := _) G.calm h1 h2 h3) fS (l9 G ht) rfl pins s σ H D I ⟨E, fun v H1 s1 r1 => ?_⟩
    obtain ⟨a, vs, rfl, hs, rl⟩ := fJ r1
    exact ⟨a, vs, rfl, hs, rl.length.symm, fin H1 vs s1 rl⟩
theorem rQ {sc : Scope} {Φ : Fx} {x y : Str} {px py p p2 : Pos} {n n2 : Nat} {a b : Expr} (G : aT Φ X sc) (hk : X.env.scope.kind = .function) (h : kU sc x y px py a b = true) (ha : ∀ x p, a ≠ .Starred x p) (hb : ∀ x p, b ≠ .Starred x p) :
    swappedStores [.Tuple [.Name x px, .Name y py] n p] (.Tuple [a, b] n2 p2) X.env = pure (some [x, y]) := by
  unfold kU at h
  simp only [Bool.and_eq_true, Bool.not_eq_true', beq_iff_eq, decide_eq_false_iff_not] at h
  obtain ⟨⟨⟨⟨⟨h1, h2⟩, h3⟩, h4⟩, h5⟩, h6⟩ := h
  have k1 : X.env.kindOf x = some .local := G.lc x h1
  have k2 : X.env.kindOf y = some .local := G.lc y h2
  have bk : X.env.blockKind = .function := by unfold Env.blockKind; rw [hk]; rfl
  have an : ∀ f : Expr -> Bool, (∀ e, (∀ x p, e ≠ .Starred x p) -> f e = false) -> ¬ ([a, b].any f = true) := fun f hf => by simp [hf a ha, hf b hb]
  have fm : ∀ f : Expr -> Option Str, f (.Name x px) = some x -> f (.Name y py) = some y -> [Expr.Name x px, Expr.Name y py].filterMap f = [x, y] := fun f h1 h2 => by simp [h1, h2]
  have ed : [x, y].eraseDups = [x, y] := by
    have e1 : (!(y == x)) = true := by simp; exact fun z => h4 z.symm
    rw [List.eraseDups_cons, List.filter_cons_of_pos (p := fun b => !b == x) e1, List.filter_nil]
    rfl
  unfold swappedStores
  dsimp only
  rw [bk]
  refine (if_neg (by simp)).trans ?_
  refine (if_neg (an _ fun e he => by cases e <;> first | rfl | exact absurd rfl (he _ _))).trans ?_
  rw [fm _ (by show (if (X.env.kindOf x == some NameKind.local && px.line == px.line) = true then some x else none) = some x; rw [k1]; simp) (by show (if (X.env.kindOf y == some NameKind.local && py.line == px.line) = true then some y else none) = some y; rw [k2, h3]; simp)]
  rw [ed]
  refine (if_neg (by simp)).trans ?_
  rw [h5, h6]
  rfl
theorem Ar {Φ : Fx} {sc : Scope} {H0 : Hp} {ρ : al} {a b : Expr} {x y : Str} {px py p p2 pos : Pos} {n n2 : Nat} {u v : D} {k : Nat} (G : aT Φ X sc) (h : AD X ρ [a, b] [u, v] k) (hf : aA [u, v] = true \/ k <= 1) (hp : kU sc x y px py a b = true) (ha : ∀ x p, a ≠ .Starred x p) (hb : ∀ x p, b ≠ .Starred x p) :
    SD X H0 ρ (.Assign [.Tuple [.Name x px, .Name y py] n p] (.Tuple [a, b] n2 p2) pos) (.nx (ck (ck ρ x (u, false)) y (v, false))) := by
  have hp0 := hp
  unfold kU at hp
  simp only [Bool.and_eq_true, Bool.not_eq_true', beq_iff_eq, decide_eq_false_iff_not] at hp
  obtain ⟨⟨⟨⟨⟨l1, l2⟩, _⟩, hxy⟩, _⟩, _⟩ := hp
  obtain ⟨g1, g2, g3, i, g4⟩ := fW (x := x) G (by unfold dC; rw [l1]; rfl)
  obtain ⟨j1, j2, j3, j, j4⟩ := fW (x := y) G (by unfold dC; rw [l2]; rfl)
  have hij : i ≠ j := by intro z; subst z; rw [g4] at j4; cases j4; exact hxy rfl
  intro pins s σ H D I ⟨ow, E, hl, B, q⟩
  refine AM (i := i) (j := j) G.calm G.nd g4 j4 hij (G.lc x l1) (G.lc y l2) (h ow) (rQ G I.ok.kind hp0 ha hb) fS pins s σ H D I ⟨E, fun vs H1 s1 r1 => ?_⟩
  have rs := kQ E.own hf r1
  rw [ao] at rs
  obtain ⟨v1, r, rfl, rv1, rs⟩ := rs
  obtain ⟨v2, rfl, rv2⟩ := rs.only
  refine ⟨v1, v2, rfl, ?_⟩
  have E1 := eh (o := false) G.nd hl (E.same s1) g4 g2 rv1
  have hl1 : (σ.set i (some v1)).length = X.N.length := by rw [List.length_set]; exact hl
  exact q ow _ H1 (eh (o := false) G.nd hl1 E1 j4 j2 rv2) (by rw [List.length_set]; exact hl1) (bu.same s1)
theorem uB {ow : Ow} {H1 : Hp} {σ : L2.St} {ρ : al} {x : Str} {l' : List D} {a : Addr} {vs vs' : List V} {i : Nat} (E : aP X ow H1 σ ρ) (hi : X.N[i]? = some x) (hs : σ[i]? = some (some (.ref a)))
    (hv : fj X.env.scope x) (ha : H1 a = some (.lst vs)) (ho : ow a = some (some x)) (f : aA l' = true) (r : ao X.K H1 (fun _ _ => True) l' vs') :
    aP X ow (be H1 a (.lst vs')) σ (ck ρ x (.lst l', true)) := by
  have st : ∀ {P : bw}, (P a true -> False) -> eo P P H1 (be H1 a (.lst vs')) := fun {P} h => ⟨fun b o hb hn => by rw [aG (fun z => by subst z; rw [ha] at hb; cases hb; exact hn _ rfl)]; exact hb, fun b ws hb p => by rw [aG (fun z => by subst z; exact h p)]; exact hb, fun _ _ _ p => p, fun _ p => p⟩
  have r' : ao X.K (be H1 a (.lst vs')) (jn ow x true) l' vs' := ao.flat _ f ((r.flat (fun _ _ => False) f).mono (st fun z => z))
  refine ⟨fun y e o h => ?_, fun b hb => ?_⟩
  . rw [dO] at h
    by_cases hy : y = x
    . subst hy
      rw [if_pos rfl] at h
      cases h
      exact ⟨i, .ref a, hi, hv, hs, by rw [ak]; exact ⟨a, vs', true, rfl, aS, ⟨rfl, ho⟩, r'⟩⟩
    . rw [if_neg hy] at h
      obtain ⟨j, w, e1, e2, e3, e4⟩ := E.get y e o h
      refine ⟨j, w, e1, e2, e3, e4.mono (st fun p => ?_)⟩
      cases o with
      | true => have := p.2; rw [ho] at this; cases this; exact hy rfl
      | false => have := p rfl; rw [ho] at this; cases this
  . by_cases hz : b = a
    . subst hz; exact ⟨_, aS⟩
    . rw [aG hz]; exact E.own b hb
theorem A6 {ow : Ow} {H : Hp} {σ : L2.St} {ρ : al} {x : Str} {l : List D} (E : aP X ow H σ ρ) (h : ρ x = some (.lst l, true)) : ∃ (i : Nat) (a : Addr) (vs : List V), X.N[i]? = some x /\ fj X.env.scope x /\ σ[i]? = some (some (.ref a)) /\ H a = some (.lst vs) /\ ow a = some (some x) /\ ao X.K H (fun _ _ => True) l vs := by
  obtain ⟨i, v, e1, e2, e3, e4⟩ := E.get x _ _ h
  rw [ak] at e4
  obtain ⟨a, vs, b, rfl, hl, hp, rl⟩ := e4
  cases hp.1
  exact ⟨i, a, vs, e1, e2, e3, hl, hp.2, rl.imp fun _ _ _ => True.intro⟩
theorem su {ow : Ow} {H H1 : Hp} {a : Addr} {vs vs' : List V} {x : Str} (sm : az H H1) (h0 : H a = some (.lst vs)) (ho : ow a = some (some x)) : bu ow H ow (be H1 a (.lst vs')) :=
  ⟨fun b o h c => by
    rw [aG (fun z => by
      subst z
      rw [h0] at h; cases h
      rcases c with c | c
      . exact c _ rfl
      . rw [ho] at c; cases c)]
    exact sm b o h, fun _ _ _ z => z⟩
theorem fX {pins : List (Addr × Obj)} {σ : L2.St} {H : Hp} {s : Shared} (I : am X pins σ H s) {a : Addr} {o : Obj} (h : X.K.lookup a = some o) : H a = none := (I.bs a o (I.ok.mod.kin a o h)).2
mutual
def D.lsz : D -> Nat
  | .lst l => 1 + hZ l
  | .tup l => hZ l
  | _ => 0
def hZ : List D -> Nat
  | [] => 0
  | d :: l => d.lsz + hZ l
end
theorem vC {pins : List (Addr × Obj)} {σ : L2.St} {H : Hp} {s : Shared} (I : am X pins σ H s) {P : bw} {d : D} {a : Addr} {vs : List V} (ha : H a = some (.lst vs)) (h : ak X.K H P d (.ref a)) : ∃ l, d = .lst l := by
  cases d with
  | lst l => exact ⟨l, rfl⟩
  | tup l =>
    rw [ak] at h
    obtain ⟨a', vs', e, hs, _⟩ := h
    cases e
    rcases hs with (q | ⟨o, q⟩) | ⟨o, its, n, q, _⟩
    . rw [ha] at q; cases q
    . rw [ha] at q; cases q
    . rw [fX I q] at ha; cases ha
  | emp => rw [ak] at h; obtain ⟨a', e, hl⟩ := h; cases e; rw [ha] at hl; cases hl
  | sn m => rw [ak] at h; obtain ⟨a', S, e, hl⟩ := h; cases e; rw [ha] at hl; cases hl
  | obj n ns es => rw [ak] at h; obtain ⟨_, _, a', C, dx, vs', e, _, _, hl, _⟩ := h; cases e; rw [ha] at hl; cases hl
  | cls n => rw [ak] at h; obtain ⟨C, o', e, _, hl, _⟩ := h; cases e; rw [fX I hl] at ha; cases ha
  | xc n p =>
    rw [ak] at h
    rcases h.at with ⟨o', hl, _⟩ | ⟨C, hl⟩
    . rw [fX I hl] at ha; cases ha
    . rw [ha] at hl; cases hl
  | _ => rw [ak] at h; cases h
theorem u5 {pins : List (Addr × Obj)} {σ : L2.St} {H : Hp} {s : Shared} (I : am X pins σ H s) {P : bw} (hP : ∀ a b, P a b -> b = true) {d : D} {a : Addr} {vs : List V} (ha : cz X.K H a vs) (h : ak X.K H P d (.ref a)) : ∃ l, d = .tup l /\ ao X.K H P l vs := by
  have no : ∀ o, H a = some o -> (∀ xs, o ≠ .tup xs) -> (∀ p q, o ≠ .frz p q) -> False := fun o e h1 h2 => by
    rcases ha with (q | ⟨o', q⟩) | ⟨o', its, n, q, _⟩
    . rw [e] at q; cases q; exact h1 _ rfl
    . rw [e] at q; cases q; exact h2 _ _ rfl
    . rw [fX I q] at e; cases e
  cases d with
  | lst l =>
    rw [ak] at h
    obtain ⟨a', vs', b, e, hl, p, _⟩ := h
    cases e
    cases hP _ _ p
    exact (no _ hl (fun _ z => nomatch z) fun _ _ z => nomatch z).elim
  | tup l =>
    rw [ak] at h
    obtain ⟨a', vs', e, hs, rl⟩ := h
    cases e
    have := I.tuple_inj ha hs
    subst this
    exact ⟨l, rfl, rl⟩
  | emp => rw [ak] at h; obtain ⟨a', e, hl⟩ := h; cases e; exact (no _ hl (fun _ z => nomatch z) fun _ _ z => nomatch z).elim
  | sn m => rw [ak] at h; obtain ⟨a', S, e, hl⟩ := h; cases e; exact (no _ hl (fun _ z => nomatch z) fun _ _ z => nomatch z).elim
  | obj n ns es => rw [ak] at h; obtain ⟨_, _, a', C, dx, vs', e, _, _, hl, _⟩ := h; cases e; exact (no _ hl (fun _ z => nomatch z) fun _ _ z => nomatch z).elim
  | cls n =>
    rw [ak] at h
    obtain ⟨C, o', e, _, hl, ht, _⟩ := h
    cases e
    rcases ha with (q | ⟨o, q⟩) | ⟨o, its, n, q, hc, _⟩
    . rw [fX I hl] at q; cases q
    . rw [fX I hl] at q; cases q
    . rw [hl] at q; cases q; rw [hc] at ht; injection ht with ht; exact absurd ht (by decide)
  | xc n p =>
    rw [ak] at h
    rcases h.at with ⟨o', hl, ht⟩ | ⟨C, hl⟩
    . rcases ha with (q | ⟨o, q⟩) | ⟨o, its, n, q, hc, _⟩
      . rw [fX I hl] at q; cases q
      . rw [fX I hl] at q; cases q
      . rw [hl] at q; cases q; rw [hc] at ht; injection ht with ht; exact absurd ht (by decide)
    . exact (no _ hl (fun _ z => nomatch z) fun _ _ z => nomatch z).elim
  | _ => rw [ak] at h; cases h
mutual
theorem oC {pins : List (Addr × Obj)} {σ : L2.St} {H : Hp} {s : Shared} (I : am X pins σ H s) {P : bw} (hP : ∀ a b, P a b -> b = true) : ∀ (d d' : D) (v : V), ak X.K H P d v -> ak X.K H P d' v -> d.lsz <= d'.lsz
  | .tup l, d', v, h, h' => by
    rw [ak] at h
    obtain ⟨a, vs, rfl, hs, rl⟩ := h
    obtain ⟨l', rfl, rl'⟩ := u5 I hP hs h'
    rw [D.lsz, D.lsz]; exact jj I hP l l' vs rl rl'
  | .lst l, d', v, h, h' => by
    rw [ak] at h
    obtain ⟨a, vs, b, rfl, hs, p, rl⟩ := h
    cases hP _ _ p
    replace hs : H a = some (.lst vs) := hs
    obtain ⟨l', rfl⟩ := vC I hs h'
    rw [ak] at h'
    obtain ⟨a', vs', b, e, hl, p', rl'⟩ := h'
    cases e
    cases hP _ _ p'
    replace hl : H a = some (.lst vs') := hl
    rw [hs] at hl; cases hl
    rw [D.lsz, D.lsz]
    exact Nat.add_le_add_left (jj I hP l l' vs rl rl') 1
  | .non, _, _, _, _ => Nat.zero_le _
  | .bl _, _, _, _, _ => Nat.zero_le _
  | .int _, _, _, _, _ => Nat.zero_le _
  | .str _, _, _, _, _ => Nat.zero_le _
  | .emp, _, _, _, _ => Nat.zero_le _
  | .typ _, _, _, _, _ => Nat.zero_le _
  | .sn _, _, _, _, _ => Nat.zero_le _
  | .obj _ _ _, _, _, _, _ => Nat.zero_le _
  | .cls _, _, _, _, _ => Nat.zero_le _
  | .xc _ _, _, _, _, _ => Nat.zero_le _
theorem jj {pins : List (Addr × Obj)} {σ : L2.St} {H : Hp} {s : Shared} (I : am X pins σ H s) {P : bw} (hP : ∀ a b, P a b -> b = true) : ∀ (l l' : List D) (vs : List V), ao X.K H P l vs -> ao X.K H P l' vs -> hZ l <= hZ l'
  | [], l', vs, h, h' => Nat.zero_le _
  | d :: l, l', vs, h, h' => by
    rw [ao] at h
    obtain ⟨v, r, rfl, h1, h2⟩ := h
    cases l' with
    | nil => rw [ao] at h'; cases h'
    | cons d' l' =>
      rw [ao] at h'
      obtain ⟨v', r', e, h1', h2'⟩ := h'
      cases e
      rw [hZ, hZ]
      exact Nat.add_le_add (oC I hP d d' v h1 h1') (jj I hP l l' r h2 h2')
end
mutual
theorem AH {pins : List (Addr × Obj)} {σ : L2.St} {H : Hp} {s : Shared} (I : am X pins σ H s) {P : bw} (hP : ∀ a b, P a b -> b = true) {A : Addr} {l : List D} (hA : ak X.K H P (.lst l) (.ref A)) : ∀ (d : D) (v : V), d.lsz < (D.lst l).lsz -> ak X.K H P d v -> ak X.K H (fun a b => P a b /\ a ≠ A) d v
  | .tup m, v, hs, h => by
    rw [ak] at h ⊢
    obtain ⟨a, vs, e, h1, h2⟩ := h
    exact ⟨a, vs, e, h1, jG I hP hA m vs (by rw [D.lsz] at hs; exact hs) h2⟩
  | .lst m, v, hs, h => by
    have h0 := h
    rw [ak] at h ⊢
    obtain ⟨a, vs, b, e, h1, p, h2⟩ := h
    refine ⟨a, vs, b, e, h1, ⟨p, fun z => ?_⟩, jG I hP hA m vs (by rw [D.lsz] at hs; omega) h2⟩
    subst e z
    have := oC I hP _ _ _ hA h0
    exact absurd (Nat.lt_of_lt_of_le hs this) (Nat.lt_irrefl _)
  | .non, v, _, h => by rw [ak] at h ⊢; exact h
  | .bl _, v, _, h => by rw [ak] at h ⊢; exact h
  | .int _, v, _, h => by rw [ak] at h ⊢; exact h
  | .str _, v, _, h => by rw [ak] at h ⊢; exact h
  | .emp, v, _, h => by rw [ak] at h ⊢; exact h
  | .typ _, v, _, h => by rw [ak] at h ⊢; exact h
  | .sn _, v, _, h => by rw [ak] at h ⊢; exact h
  | .obj n ns es, v, _, h => h.flat _ rfl
  | .cls n, v, _, h => h.flat _ rfl
  | .xc n p, v, _, h => h.flat _ rfl
theorem jG {pins : List (Addr × Obj)} {σ : L2.St} {H : Hp} {s : Shared} (I : am X pins σ H s) {P : bw} (hP : ∀ a b, P a b -> b = true) {A : Addr} {l : List D} (hA : ak X.K H P (.lst l) (.ref A)) : ∀ (m : List D) (vs : List V), hZ m < (D.lst l).lsz -> ao X.K H P m vs -> ao X.K H (fun a b => P a b /\ a ≠ A) m vs
  | [], vs, _, h => by rw [ao] at h ⊢; exact h
  | d :: m, vs, hs, h => by
    rw [ao] at h ⊢
    obtain ⟨v, r, e, h1, h2⟩ := h
    exact ⟨v, r, e, AH I hP hA d v (by rw [hZ] at hs; omega) h1, jG I hP hA m r (by rw [hZ] at hs; omega) h2⟩
end
theorem A7 {pins : List (Addr × Obj)} {s : Shared} {ow : Ow} {H : Hp} {σ : L2.St} {ρ : al} {x : Str} {l : List D} (I : am X pins σ H s) (E : aP X ow H σ ρ) (h : ρ x = some (.lst l, true)) : ∃ (i : Nat) (a : Addr) (vs : List V), X.N[i]? = some x /\ fj X.env.scope x /\ σ[i]? = some (some (.ref a)) /\ H a = some (.lst vs) /\ ow a = some (some x) /\ ao X.K H (fun b c => jn ow x true b c /\ b ≠ a) l vs := by
  obtain ⟨i, v, e1, e2, e3, e4⟩ := E.get x _ _ h
  have e5 := e4
  rw [ak] at e4
  obtain ⟨a, vs, b, rfl, hl, hp, rl⟩ := e4
  cases hp.1
  exact ⟨i, a, vs, e1, e2, e3, hl, hp.2, jG I (fun _ _ p => p.1) e5 l vs (by rw [D.lsz]; omega) rl⟩
theorem zf {ow : Ow} {H H1 : Hp} {σ : L2.St} {ρ : al} {x : Str} {l' : List D} {a : Addr} {vs vs' : List V} {i : Nat} (E : aP X ow H σ ρ) (sm : az H H1) (hi : X.N[i]? = some x) (hs : σ[i]? = some (some (.ref a)))
    (hv : fj X.env.scope x) (h0 : H a = some (.lst vs)) (ho : ow a = some (some x)) (r : ao X.K H1 (fun b c => (jn ow x true b c /\ b ≠ a) \/ Kp ow H 0 b c) l' vs') :
    ∃ ow', aP X ow' (be H1 a (.lst vs')) σ (ck ρ x (.lst l', true)) /\ bu ow H ow' (be H1 a (.lst vs')) := by
  classical
  let ow' : Ow := fun a => if H a = none /\ ∃ o, H1 a = some o then some (some x) else ow a
  have o1 : ∀ a o, H a = some o -> ow' a = ow a := fun a o h => if_neg (fun z => by rw [h] at z; cases z.1)
  have ha : H1 a = some (.lst vs) := sm _ _ h0
  have ho' : ow' a = some (some x) := (o1 a _ h0).trans ho
  have E1 : aP X ow' H1 σ ρ := ⟨fun y e o h => by
    obtain ⟨j, w, e1, e2, e3, e4⟩ := E.get y e o h
    refine ⟨j, w, e1, e2, e3, ak.same sm (e4.impH (fun a ob ha p => ?_) fun a p => ?_)⟩
    . cases o with
      | true => exact ⟨p.1, (o1 a ob ha).trans p.2⟩
      | false => exact fun z => (o1 a ob ha).trans (p z)
    . cases o with
      | true => cases p.1
      | false => exact fun z => (by cases z), fun a ha => by
    by_cases hz : H a = none /\ ∃ o, H1 a = some o
    . exact hz.2
    . have : ow' a = ow a := if_neg hz
      rw [this] at ha
      exact (E.own.same sm) a ha⟩
  have st : ∀ {P : bw}, (P a true -> False) -> eo P P H1 (be H1 a (.lst vs')) := fun {P} h => ⟨fun b o hb hn => by rw [aG (fun z => by subst z; rw [ha] at hb; cases hb; exact hn _ rfl)]; exact hb, fun b ws hb p => by rw [aG (fun z => by subst z; exact h p)]; exact hb, fun _ _ _ p => p, fun _ p => p⟩
  have r1 : ao X.K H1 (fun b c => jn ow' x true b c /\ b ≠ a) l' vs' := r.impH (fun b o hb p => by
    rcases p with ⟨p, hne⟩ | p
    . refine ⟨⟨rfl, ?_⟩, hne⟩
      by_cases hz : H b = none /\ ∃ o, H1 b = some o
      . exact if_pos hz
      . exact (if_neg hz).trans p.2
    . exact ⟨⟨rfl, if_pos ⟨p.2, o, hb⟩⟩, fun z => by subst z; rw [p.2] at h0; cases h0⟩) fun b p => by
    rcases p with ⟨p, _⟩ | p
    . cases p.1
    . cases p.1
  have r' : ao X.K (be H1 a (.lst vs')) (jn ow' x true) l' vs' := (r1.mono (st fun z => z.2 rfl)).imp fun _ _ p => p.1
  refine ⟨ow', ⟨fun y e o h => ?_, fun b hb => ?_⟩, fun b o h c => ?_, fun b o h z => (o1 b o h).trans z⟩
  . rw [dO] at h
    by_cases hy : y = x
    . subst hy
      rw [if_pos rfl] at h
      cases h
      exact ⟨i, .ref a, hi, hv, hs, by rw [ak]; exact ⟨a, vs', true, rfl, aS, ⟨rfl, ho'⟩, r'⟩⟩
    . rw [if_neg hy] at h
      obtain ⟨j, w, e1, e2, e3, e4⟩ := E1.get y e o h
      refine ⟨j, w, e1, e2, e3, e4.mono (st fun p => ?_)⟩
      cases o with
      | true => have := p.2; rw [ho'] at this; cases this; exact hy rfl
      | false => have := p rfl; rw [ho'] at this; cases this
  . by_cases hz : b = a
    . subst hz; exact ⟨_, aS⟩
    . rw [aG hz]; exact E1.own b hb
  . rw [aG (fun z => by
      subst z
      rw [h0] at h; cases h
      rcases c with c | c
      . exact c _ rfl
      . rw [ho] at c; cases c)]
    exact sm b o h
theorem kX {env : Env} {pos : Pos} : ∀ {es : List Expr}, (∀ e ∈ es, ∀ x p, e ≠ .Starred x p) -> (backTo pos (starEach es env)).all (fun x => !x.1) = true
  | [], _ => rfl
  | e :: es, h => by
    have ih := kX (env := env) (es := es) (pos := pos) fun x hx => h x (List.mem_cons_of_mem _ hx)
    have he := h e List.mem_cons_self
    cases e <;> first | exact absurd rfl (he _ _) | exact ih
theorem As {H0 : Hp} {ρ : al} {x m : Str} {M : List D -> List D -> Nat -> Rs (List D)} {args : List Expr} {p1 ap cp p4 : Pos} {l l' ds : List D} {k : Nat} {o : List Prop} (hcalm : X.calm = true) (hM : lR m M) (hx : ρ x = some (.lst l, true)) (h : AD X ρ args ds k) (hst : ∀ e ∈ args, ∀ y p, e ≠ .Starred y p) (hlen : args.length = ds.length)
    (hn : ff x = true) (hln : (ap.endLine == cp.line) = true) (hm : M l ds k = .ok l' o) (hp : aF o) : SD X H0 ρ (.Expr (.Call (.Attribute (.Name x p1) m ap) args [] cp) p4) (.nx (ck ρ x (.lst l', true))) := by
  obtain ⟨id, r, sl, ty, mt, hr⟩ := hM X hcalm
  intro pins s σ H D I ⟨ow, E, hl, B, q⟩
  obtain ⟨i, a, vs, g1, g2, g3, g4, g5, g6⟩ := A7 I E hx
  have pn : PE X (.Name x p1) (n8 i) := gC g1 g2 (dw hn).1 (dw hn).2
  have fin : ∀ (H1 : Hp) (ws : List V), az H H1 -> ao X.K H1 (Kp ow H k) ds ws -> r (.ref a) ws H1 fun _ H2 => D.nx σ H2 := fun H1 ws s1 r1 =>
    (hr ow H H1 l ds l' k o a vs ws hm hp).2 (fun b c => (jn ow x true b c /\ b ≠ a) \/ Kp ow H 0 b c) _ (fun _ _ p => .inr p) E.own s1 (s1 _ _ g4) ((g6.same s1).imp fun _ _ p => .inl p) r1 fun vs' rv => by
      obtain ⟨ow', E', k'⟩ := zf E s1 g1 g3 g2 g4 g5 rv
      exact q ow' σ _ E' hl k'
  have few : ds.length < 29 := (hr ow H H l ds l' k o a vs vs hm hp).1
  cases args with
  | nil =>
    have e0 : ds = [] := List.length_eq_zero_iff.mp hlen.symm
    refine ip (A3 PySem.F.plainAttrs_list sl ty mt pn rfl hln) rfl pins s σ H D I ⟨_, g3, .inl ⟨rfl, _, cA.of g4⟩, ?_⟩
    exact fin H [] (az.refl _) (by rw [e0]; exact ao.nil)
  | cons e es =>
    have hfew : ((backTo cp (starEach (e :: es) X.env)).all (fun x => !x.1) && (backToKw cp (keywordEach [] X.env)).all (fun x => x.1.isSome) && decide ((e :: es).length + ([] : List Keyword).length + (if ([] : List Keyword).isEmpty then 0 else 1) < 30)) = true := by
      rw [kX hst, hlen]
      have : decide (ds.length + 0 + 0 < 30) = true := by simp; omega
      exact this
    refine ip (CU PySem.F.plainAttrs_list sl ty mt pn (h ow) rfl hfew hln (aO (hst e List.mem_cons_self)) (bP fun x hx => hst x (List.mem_cons_of_mem _ hx))) rfl pins s σ H D I ⟨_, g3, .inl ⟨rfl, _, cA.of g4⟩, E, fun ws H1 s1 r1 => ?_⟩
    exact fin H1 ws s1 r1
theorem kZ : ∀ {l : List D} {j : Nat} {d : D}, aA l = true -> d.lless = true -> aA (l.set j d) = true
  | [], j, d, h, f => by simp [aA]
  | x :: l, 0, d, h, f => by
    rw [aA, Bool.and_eq_true] at h
    rw [List.set_cons_zero, aA, Bool.and_eq_true]; exact ⟨f, h.2⟩
  | x :: l, j + 1, d, h, f => by
    rw [aA, Bool.and_eq_true] at h
    rw [List.set_cons_succ, aA, Bool.and_eq_true]; exact ⟨h.1, kZ h.2 f⟩
theorem ao.set {K : W.Frag} {P : bw} {H : Hp} {d : D} {v : V} (r : ak K H P d v) : ∀ {l : List D} {vs : List V} (j : Nat), ao K H P l vs -> ao K H P (l.set j d) (vs.set j v)
  | [], vs, j, h => by rw [ao] at h; subst h; simp; exact ao.nil
  | x :: l, vs, 0, h => by
    rw [ao] at h
    obtain ⟨w, u, rfl, h1, h2⟩ := h
    exact ao.cons r h2
  | x :: l, vs, j + 1, h => by
    rw [ao] at h
    obtain ⟨w, u, rfl, h1, h2⟩ := h
    exact ao.cons h1 (ao.set r j h2)
theorem vi {H0 : Hp} {ρ : al} {x : Str} {e i : Expr} {p1 p2 pos : Pos} {l l' : List D} {d : D} {j : Int} {k k2 : Nat} (hx : ρ x = some (.lst l, true)) (h : ED X ρ e d k) (hi : ED X ρ i (.int j) k2) (f : aA l = true) (fd : d.lless = true) (hn : ff x = true) (hm : oq l j d = some l') (hsl : ∀ a b c p, i ≠ .Slice a b c p) :
    SD X H0 ρ (.Assign [.Subscript (.Name x p1) i p2] e pos) (.nx (ck ρ x (.lst l', true))) := by
  unfold oq at hm
  cases hj : ixN l.length j with
  | none => rw [hj] at hm; cases hm
  | some n =>
    rw [hj] at hm; cases hm
    intro pins s σ H D I ⟨ow, E, hl, B, q⟩
    obtain ⟨ix, a, vs, g1, g2, g3, g4, g5, g6⟩ := A6 E hx
    have pn : PE X (.Name x p1) (n8 ix) := gC g1 g2 (dw hn).1 (dw hn).2
    refine kT (h ow) (AR pn (hi ow) vf (fun v => by cases i <;> first | rfl | exact absurd rfl (hsl _ _ _ _))) tF (by cases e <;> rfl) rfl pins s σ H D I ⟨E, fun v H1 s1 r1 => ?_⟩
    refine ⟨_, g3, E.same s1, fun u H2 s2 r2 => ?_⟩
    rw [ak] at r2; subst r2
    have s12 := s1.trans s2
    refine ⟨a, vs, j, n, rfl, rfl, s12 _ _ g4, by rw [<- g6.length]; exact hj, ?_⟩
    exact q ow σ _ (uB (E.same s12) g1 g3 g2 (s12 _ _ g4) g5 (kZ f fd) (ao.set ((r1.imp fun _ _ _ => True.intro).same s2) n (g6.same s12))) hl (su s12 g4 g5)
theorem so : lR "append" mj := fun X hc => ⟨"list.append", _, PySem.F.slot_list_append, PySem.F.type_list_append, na, fun ow H0 H l ds l' j o a vs ws h hp => by
  unfold mj at h
  split at h
  . rename_i d
    cases h
    have c := hp.1
    refine ⟨by simp, fun P Q hP oi sm ha rl rd q => ?_⟩
    obtain ⟨w, rfl, rw'⟩ := rd.only
    refine ⟨a, vs, w, rfl, rfl, ha, ?_, q _ (rl.append (ao.one ?_))⟩
    . rw [<- rl.length]; exact Nat.lt_trans hp.2.1 ng
    . rcases c with c | c
      . exact rw'.flat _ c
      . subst c; exact rw'.imp hP
  . cases h⟩
end Sp
set_option Elab.async false
set_option linter.all false
set_option maxRecDepth 100000
namespace Sp
open PySem PySem.Spec PyProof.Rows L2
variable {X : Cx}
theorem pJ {ow : Ow} {H : Hp} {σ : L2.St} {ρ : al} (x : Str) (E : aP X ow H σ ρ) : ∃ ow', aP X ow' H σ (demX x ρ) /\ bu ow H ow' H := by
  classical
  unfold demX
  let ow' : Ow := fun a => if ow a = some (some x) then none else ow a
  have o1 : ∀ a, ow a = none -> ow' a = none := fun a h => by show (if _ then _ else _) = _; split; rfl; exact h
  refine ⟨ow', ⟨fun y e o h => ?_, fun a ha => ?_⟩, fun a o h _ => h, fun a o h z => o1 a z⟩
  . by_cases hy : y = x
    . subst hy
      simp only [if_true] at h
      cases hd : ρ y with
      | none => rw [hd] at h; cases h
      | some q =>
        obtain ⟨d, o'⟩ := q
        rw [hd] at h
        cases h
        obtain ⟨j, w, e1, e2, e3, e4⟩ := E.get y _ _ hd
        refine ⟨j, w, e1, e2, e3, e4.imp fun a b p z => ?_⟩
        cases o' with
        | true => exact if_pos p.2
        | false => exact o1 a (p z)
    . simp only [if_neg hy] at h
      obtain ⟨j, w, e1, e2, e3, e4⟩ := E.get y e o h
      refine ⟨j, w, e1, e2, e3, e4.imp fun a b p => ?_⟩
      cases o with
      | true => exact ⟨p.1, by show (if _ then _ else _) = _; rw [if_neg (fun z => by rw [p.2] at z; cases z; exact hy rfl)]; exact p.2⟩
      | false => exact fun z => o1 a (p z)
  . refine E.own a fun z => ha (o1 a z)
theorem sE {ow : Ow} {H : Hp} {σ : L2.St} {ρ : al} {e : Expr} (E : aP X ow H σ ρ) : ∃ ow', aP X ow' H σ (demote e ρ) /\ bu ow H ow' H := by
  unfold demote
  split
  . exact pJ _ E
  . exact pJ _ E
  . exact ⟨ow, E, bu.refl _ _⟩
def af {α : Type} (r : Rs α) (a : α) : Prop := ∃ l, r = .ok a l /\ aF l
theorem aw {α β : Type} {r : Rs α} {f : α -> Rs β} {b : β} (h : af (r.bnd f) b) : ∃ a, af r a /\ af (f a) b := by
  obtain ⟨l, h, hp⟩ := h
  obtain ⟨a, l1, l2, h1, p1, h2, p2⟩ := aN h hp
  exact ⟨a, ⟨l1, h1, p1⟩, l2, h2, p2⟩
theorem av {α : Type} {a : α} (h : af (.st) a) : False := by obtain ⟨l, h, _⟩ := h; cases h
theorem aK {α : Type} {a b : α} {l : List Prop} (h : af (.ok a l) b) : a = b := by obtain ⟨m, h, _⟩ := h; cases h; rfl
theorem At {H0 : Hp} {ρ : al} {tg iter : Expr} {body : List Stmt} {pos : Pos} {bind : D -> al -> Option al} {bodyF : al -> Rs Fl} {ds : List D} {k : Nat} {fl : Fl} (hp : PassesOwn (model X.prog X.w) X.A X.env X.xe) (hcalm : X.calm = true)
    (hi : IE X (demote iter ρ) tg iter ds k) (hk : k <= 1) (hg : ∀ d ρ ρ', bind d ρ = some ρ' -> GD X ρ tg d ρ') (hb : ∀ ρ fl, af (bodyF ρ) fl -> i9 X H0 ρ body fl) (h : af (dl bind bodyF ds (demote iter ρ)) fl)
    (hs : ∀ x, foldedSetIterable iter X.env x = pure x) : SD X H0 ρ (.For tg iter body [] pos) fl := by
  intro pins s σ H D0 I ⟨ow0, E0, hl, B0, q0⟩
  obtain ⟨ow, E, k0⟩ := sE (e := iter) E0
  have B := B0.keep k0
  have q := q0.keep k0
  have pb : eJ X body (fun D σ H => ∃ ρ fl, af (bodyF ρ) fl /\ wI X H0 ρ fl D σ H) := fun pins s σ H D I ⟨ρ1, fl1, h1, h2⟩ => hb ρ1 fl1 h1 pins s σ H D I h2
  have pg : PG X tg (fun v σ H Q => ∃ g : TG, PG X tg g /\ g v σ H Q) := fun pins s σ H v u Q I r ⟨g, h1, h2⟩ => h1 pins s σ H v u Q I r h2
  refine AN hp hcalm (hi ow) pg pb hs pins s σ H D0 I ⟨E, fun J H1 s1 itd => ?_⟩
  refine ⟨fun i m σ' H' => m = ds.length - i /\ i <= ds.length /\ ∃ ow' ρ', aP X ow' H' σ' ρ' /\ σ'.length = X.N.length /\ cq H0 ow' H' /\ bu ow H1 ow' H' /\ af (dl bind bodyF (ds.drop i) ρ') fl,
    ⟨ds.length, by simp, Nat.zero_le _, ow, _, E.same s1, hl, B.keep (bu.same s1), bu.refl _ _, h⟩, ?_⟩
  rintro i m σ' H' ⟨rfl, hile, ow', ρ', E', hl', B', k', hf⟩
  have q' : mO X H0 ow' H' fl D0 := q.keep ((bu.same s1).trans k')
  have st : eo (Kd ow H k H1) (Kd ow H k H1) H1 H' := ⟨fun a o ha hn => k'.keep a o ha (.inl hn), fun a vs ha p => k'.keep a _ ha (.inr (gW E.own hk p.1)), fun _ _ _ p => p, fun _ p => p⟩
  have it := itd i H' st
  by_cases hlt : i < ds.length
  . obtain ⟨go, yl⟩ := it.1 ds[i] (List.getElem?_eq_getElem hlt)
    have hdrop : ds.drop i = ds[i] :: ds.drop (i + 1) := List.drop_eq_getElem_cons hlt
    rw [hdrop, dl] at hf
    refine .inr ⟨go, fun σ2 H2 => i + 1 <= ds.length /\ ∃ ow2 ρ2, aP X ow2 H2 σ2 ρ2 /\ σ2.length = X.N.length /\ cq H0 ow2 H2 /\ bu ow H1 ow2 H2 /\ af (dl bind bodyF (ds.drop (i + 1)) ρ2) fl, fun σ2 H2 n => ⟨ds.length - (i + 1), by omega, rfl, n.1, n.2⟩, fun x H3 y3 => ?_⟩
    obtain ⟨sm3, rx⟩ := yl x H3 y3
    cases hbd : bind ds[i] ρ' with
    | none => rw [hbd] at hf; exact (av hf).elim
    | some ρ1 =>
      rw [hbd] at hf
      dsimp only at hf
      obtain ⟨g, g1, g2⟩ := hg _ _ _ hbd
      have rx' : ak X.K H3 (fun a b => b = true -> ow' a = none) ds[i] x := rx.impH (fun a o ha p _ => by
        obtain ⟨o1, h1⟩ := p.2 rfl
        exact k'.low a o1 h1 (gW E.own hk p.1)) fun a _ z => (by cases z)
      refine ⟨g, g1, g2 ow' x σ' H3 _ hl' (E'.same sm3) rx' fun σ2 hl2 E2 => ?_⟩
      have k3 : bu ow' H' ow' H3 := bu.same sm3
      obtain ⟨f1, hbo, hf⟩ := aw hf
      refine ⟨ρ1, f1, hbo, ow', E2, hl2, B'.keep k3, ?_⟩
      cases f1 with
      | nx ρ2 => exact fun ow2 σ3 H4 a b c => ⟨hlt, ow2, ρ2, a, b, (B'.keep k3).keep c, k'.trans (k3.trans c), hf⟩
      | ct ρ2 => exact fun ow2 σ3 H4 a b c => ⟨hlt, ow2, ρ2, a, b, (B'.keep k3).keep c, k'.trans (k3.trans c), hf⟩
      | bk ρ2 => cases aK hf; exact fun ow2 σ3 H4 a b c => q' ow2 σ3 H4 a b (k3.trans c)
      | rt d => cases aK hf; exact q'
  . have ei : i = ds.length := by omega
    subst ei
    rw [List.drop_length, dl] at hf
    cases aK hf
    exact .inl ⟨it.2 (Nat.le_refl _), q' ow' σ' H' E' hl' (bu.refl _ _)⟩
theorem vh {H0 : Hp} {c : Expr} {body : List Stmt} {pos : Pos} {test : al -> Rs Bool} {bodyF : al -> Rs Fl} {fl : Fl} (hp : PassesOwn (model X.prog X.w) X.A X.env X.xe)
    (hc : ∀ ρ b, af (test ρ) b -> TD X ρ c b) (hb : ∀ ρ fl, af (bodyF ρ) fl -> i9 X H0 ρ body fl) {n0 : Nat} {ρ0 : al} (h : af (jZ test bodyF n0 ρ0) fl) : SD X H0 ρ0 (.While c body [] pos) fl := by
  intro pins s σ H D0 I ⟨ow, E, hl, B, q⟩
  have pc : PT X c (fun σ H Q => ∃ ow ρ b, af (test ρ) b /\ wH X ow ρ b σ H Q) := fun pins s σ H Q I ⟨ow, ρ, b, h1, h2⟩ => hc ρ b h1 ow pins s σ H Q I h2
  have pb : eJ X body (fun D σ H => ∃ ρ fl, af (bodyF ρ) fl /\ wI X H0 ρ fl D σ H) := fun pins s σ H D I ⟨ρ1, fl1, h1, h2⟩ => hb ρ1 fl1 h1 pins s σ H D I h2
  refine vm hp pc pb pins s σ H D0 I ?_
  refine ⟨fun m σ' H' => ∃ ow' ρ', aP X ow' H' σ' ρ' /\ σ'.length = X.N.length /\ cq H0 ow' H' /\ bu ow H ow' H' /\ af (jZ test bodyF m ρ') fl, ⟨n0, ow, ρ0, E, hl, B, bu.refl _ _, h⟩, ?_⟩
  rintro m σ' H' ⟨ow', ρ', E', hl', B', k', hw⟩
  have q' : mO X H0 ow' H' fl D0 := q.keep k'
  cases m with
  | zero => exact (av hw).elim
  | succ m =>
    rw [jZ] at hw
    obtain ⟨b, ht, hw⟩ := aw hw
    refine ⟨ow', ρ', b, ht, E', fun H1 s1 => ?_⟩
    have k1 : bu ow' H' ow' H1 := bu.same s1
    cases b with
    | false =>
      cases aK hw
      exact q' ow' σ' H1 (E'.same s1) hl' k1
    | true =>
      rw [cond_true] at hw
      show if true = true then _ else _
      rw [if_pos rfl]
      refine ⟨fun σ2 H2 => ∃ ow2 ρ2, aP X ow2 H2 σ2 ρ2 /\ σ2.length = X.N.length /\ cq H0 ow2 H2 /\ bu ow H ow2 H2 /\ af (jZ test bodyF m ρ2) fl, fun σ2 H2 z => ⟨m, Nat.lt_succ_self _, z⟩, ?_⟩
      obtain ⟨f1, hbo, hw⟩ := aw hw
      refine ⟨ρ', f1, hbo, ow', E'.same s1, hl', B'.keep k1, ?_⟩
      cases f1 with
      | nx ρ2 => exact fun ow2 σ3 H4 a b c => ⟨ow2, ρ2, a, b, (B'.keep k1).keep c, k'.trans (k1.trans c), hw⟩
      | ct ρ2 => exact fun ow2 σ3 H4 a b c => ⟨ow2, ρ2, a, b, (B'.keep k1).keep c, k'.trans (k1.trans c), hw⟩
      | bk ρ2 => cases aK hw; exact fun ow2 σ3 H4 a b c => q' ow2 σ3 H4 a b (k1.trans c)
      | rt d => cases aK hw; exact q'
theorem cY {Φ : Fx} {e : Expr} {it : Bool} {sc : Scope} {ρ : al} {p : D × Nat} {X : Cx} (h : af (aC Φ e it sc ρ) p) (G : aT Φ X sc) : eS X ρ e it p.1 p.2 := let ⟨_, h, hp⟩ := h; Dm e h hp G
theorem uj {e : Expr} (h : li e = true) : (∃ a b c d, e = .ListComp a b c d) \/ ∀ (Φ : Fx) (sc : Scope) (ρ : al), aC Φ e false sc ρ = .st := by
  cases e <;> first | exact .inl ⟨_, _, _, _, rfl⟩ | exact .inr fun _ _ _ => rfl | cases h
theorem mW {Φ : Fx} {sc : Scope} {H0 : Hp} {ρ : al} {e : Expr} {x : Str} {p pos : Pos} {r : D × Nat} {o : Bool} (G : aT Φ X sc) (hx : dC sc x = true) (h : af (aC Φ e false sc ρ) r) (ho : (r.2 = 0 /\ o = true) \/ (r.2 = 1 /\ o = false)) :
    SD X H0 ρ (.Assign [.Name x p] e pos) (.nx (ck ρ x (r.1, o))) := by
  by_cases hc : li e = true
  . rcases uj hc with ⟨elt, gens, scope, q, rfl⟩ | hno
    rotate_left
    . rw [hno] at h; exact (av h).elim
    . clear hc
      have hsw : ∃ b, swapsWith (.ListComp elt gens scope q) (some (.Name x p)) pos.line X.env = pure b := ⟨_, rfl⟩
      obtain ⟨b, hsw⟩ := hsw
      cases b with
      | false => exact tL G hx ((cY h G).ed rfl) ho hsw
      | true =>
        obtain ⟨l, h, hp⟩ := h
        obtain ⟨tg, iter, ifs, rfl⟩ := mm h
        obtain ⟨ds, f, k1, a1, a2, a3, a4, a5, a6, a7, a8, a9⟩ := qN (gE Φ _) (Nat.lt_succ_self _) h hp G
        obtain ⟨g1, g2, g3, i, g4⟩ := fW G hx
        rw [a9]
        intro pins s σ H D0 I ⟨ow, E, hl, B, q⟩
        refine yo (D0 := D0) (i := i) G.calm G.nd a1 a2 a3 a4 a5 a6 a7 a8 I E hsw g4 g1 g3 fun v H1 s1 r1 => ?_
        rcases ho with ⟨ho, rfl⟩ | ⟨ho, rfl⟩ <;> rw [ho] at r1
        . obtain ⟨ow', E', k'⟩ := rq G.nd hl E s1 g4 g2 r1
          exact q ow' _ H1 E' (by rw [List.length_set]; exact hl) k'
        . exact q ow _ H1 (eh G.nd hl (E.same s1) g4 g2 r1) (by rw [List.length_set]; exact hl) (bu.same s1)
  . exact tL G hx ((cY h G).ed rfl) ho (hX (by simpa using hc))
theorem qr {Φ : Fx} {e : Expr} {it : Bool} {sc : Scope} {ρ : al} {r : D × Nat} (h : af (aC Φ e it sc ρ) r) : ∀ a b c p, e ≠ .Slice a b c p := by
  intro a b c p z; subst z; exact (av h).elim
theorem oO {ρ : al} {x : Str} {f : List D -> Rs Fl} {fl : Fl} (h : af (mf ρ x f) fl) : ∃ l, ρ x = some (.lst l, true) /\ aA l = true /\ ff x = true /\ af (f l) fl := by
  unfold mf at h
  split at h
  . rename_i l e
    split at h
    . rename_i c
      obtain ⟨u, h1, h2⟩ := aw h
      obtain ⟨m, h1, hm⟩ := h1
      cases h1
      exact ⟨l, e, hm.1, c, h2⟩
    . exact (av h).elim
  . exact (av h).elim
theorem oN {ρ : al} {x : Str} {f : List D -> Rs Fl} {fl : Fl} (h : af (r6 ρ x f) fl) : ∃ l, ρ x = some (.lst l, true) /\ ff x = true /\ af (f l) fl := by
  unfold r6 at h
  split at h
  . rename_i l e
    split at h
    . rename_i c
      exact ⟨l, e, c, h⟩
    . exact (av h).elim
  . exact (av h).elim
theorem du {α : Type} {a b : α} {l : List Prop} (h : af (.ok a l) b) : a = b /\ aF l := by obtain ⟨m, h, hp⟩ := h; cases h; exact ⟨rfl, hp⟩
theorem A4 {Φ : Fx} {es : List Expr} {e : Expr} {n : Nat} {p pos : Pos} {sc : Scope} {ρ : al} {fl : Fl} {X : Cx} {H0 : Hp} (h : af (lw Φ es e sc ρ) fl) (G : aT Φ X sc) : SD X H0 ρ (.Assign [.Tuple es n p] e pos) fl := by
  unfold lw at h
  split at h
  . split at h
    . rename_i hp
      obtain ⟨q, ⟨lq, h1, hq⟩, h⟩ := aw h
      split at h
      . rename_i u v hd
        split at h
        . rename_i hf
          cases aK h
          obtain ⟨n1, _⟩ := cF h1 hq
          have c := iC _ h1 hq G
          rw [hd] at c
          exact Ar G c hf hp (n1 _ (by simp)) (n1 _ (by simp))
        . exact (av h).elim
      . exact (av h).elim
    . exact (av h).elim
  . exact (av h).elim
theorem Ci {Φ : Fx} {tgs : List Expr} {e : Expr} {sc : Scope} {ρ : al} {fl : Fl} {X : Cx} {H0 : Hp} {pos : Pos} (h : af (lz Φ tgs e sc ρ) fl) (G : aT Φ X sc) : SD X H0 ρ (.Assign tgs e pos) fl := by
  unfold lz at h
  split at h
  . obtain ⟨p, h1, h⟩ := aw h
    unfold md at h
    split at h
    . rename_i hx
      split at h
      . rename_i ho; cases aK h; exact mW G hx h1 (.inl ⟨ho, rfl⟩)
      . rename_i ho; cases aK h; exact mW G hx h1 (.inr ⟨ho, rfl⟩)
      . exact (av h).elim
    . exact (av h).elim
  . split at h
    . exact A4 h G
    . rename_i ht
      have ht := Bool.eq_false_iff.mpr ht
      obtain ⟨p, h1, h⟩ := aw h
      split at h
      . rename_i ds hd
        split at h
        . rename_i hf
          split at h
          . rename_i ρ' hb
            cases aK h
            exact Ao G ((cY h1 G).ed rfl) hd hf hb ht
          . exact (av h).elim
        . exact (av h).elim
      . exact (av h).elim
  . split at h
    . rename_i hc
      obtain ⟨p, h1, h⟩ := aw h
      obtain ⟨q, h2, h⟩ := aw h
      split at h
      . rename_i j hj
        obtain ⟨l, a1, a2, a3, h⟩ := oO h
        split at h
        . rename_i l' hs
          obtain ⟨h9, hf, _⟩ := du h
          subst h9
          have c2 := (cY h2 G).ed rfl
          rw [hj] at c2
          exact vi a1 ((cY h1 G).ed rfl) c2 a2 hf a3 hs (qr h2)
        . exact (av h).elim
      . exact (av h).elim
    . exact (av h).elim
  . exact (av h).elim
theorem BM {Φ : Fx} {e : Expr} {sc : Scope} {ρ : al} {fl : Fl} {X : Cx} {H0 : Hp} {pos : Pos} (h : af (ly Φ e sc ρ) fl) (G : aT Φ X sc) : SD X H0 ρ (.Expr e pos) fl := by
  unfold ly at h
  split at h
  . split at h
    . rename_i hln
      obtain ⟨p, ⟨lp, h1, hp1⟩, h⟩ := aw h
      split at h
      . rename_i M hM
        obtain ⟨l, a1, a3, h⟩ := oN h
        obtain ⟨l', ⟨o, h2, hp2⟩, h⟩ := aw h
        cases aK h
        obtain ⟨n1, n2⟩ := cF h1 hp1
        exact As G.calm (G.mtt _ M hM) a1 (iC _ h1 hp1 G) n1 n2 a3 hln h2 hp2
      . exact (av h).elim
    . exact (av h).elim
  . obtain ⟨p, h1, h⟩ := aw h
    cases aK h
    exact yg ((cY h1 G).ed rfl) ⟨_, _, _, _, _, rfl⟩
  . exact (av h).elim
structure Is (Φ : Fx) (n : Nat) : Prop where
  s : ∀ (st : Stmt) {sc : Scope} {ρ : al} {fl : Fl} {X : Cx} {H0 : Hp}, sizeOf st < n -> af (eN Φ st sc ρ) fl -> aT Φ X sc -> PassesOwn (model X.prog X.w) X.A X.env X.xe -> SD X H0 ρ st fl
  ss : ∀ (st : List Stmt) {sc : Scope} {ρ : al} {fl : Fl} {X : Cx} {H0 : Hp}, sizeOf st < n -> af (aE Φ st sc ρ) fl -> aT Φ X sc -> PassesOwn (model X.prog X.w) X.A X.env X.xe -> i9 X H0 ρ st fl
theorem fU {p : D × Nat} {α : Type} {f : Bool -> Rs α} {a : α} (h : af (gY p f) a) : ∃ b, p.1 = .bl b /\ af (f b) a := by
  obtain ⟨l, h, hp⟩ := h
  obtain ⟨b, h1, h2⟩ := jS h
  exact ⟨b, h1, l, h2, hp⟩
theorem Dk {Φ : Fx} {n : Nat} (I : Is Φ n) (st : Stmt) {sc : Scope} {ρ : al} {fl : Fl} {X : Cx} {H0 : Hp} (hs : sizeOf st < n + 1) (h : af (eN Φ st sc ρ) fl) (G : aT Φ X sc) (hp : PassesOwn (model X.prog X.w) X.A X.env X.xe) : SD X H0 ρ st fl := by
  cases st with
  | Return e p =>
    cases e with
    | none => cases aK h; exact ye
    | some e =>
      obtain ⟨p, h1, h⟩ := aw (show af (Rs.bnd _ _) fl from h)
      unfold rT at h
      split at h
      . rename_i hk
        cases aK h
        exact Aq ((cY h1 G).ed rfl) hk
      . exact (av h).elim
  | Pass p => cases aK h; exact yf
  | Break p => cases aK h; exact vj
  | Continue p => cases aK h; exact yh
  | Assign tgs e p => exact Ci h G
  | AugAssign t op e p => exact (av h).elim
  | Expr e p => exact BM h G
  | If c a b p =>
    obtain ⟨p, h1, h⟩ := aw (show af (Rs.bnd _ _) fl from h)
    obtain ⟨t, ht, h⟩ := fU h
    refine CJ ((cY h1 G).td rfl t ht) ?_
    cases t with
    | true => rw [if_pos rfl]; exact I.ss _ (bj (by simp <;> omega) hs) h G hp
    | false => rw [if_neg Bool.false_ne_true]; exact I.ss _ (bj (by simp <;> omega) hs) h G hp
  | For tg it body els p =>
    rw [mv] at h
    split at h
    . rename_i he
      have he := List.isEmpty_iff.mp he
      subst he
      obtain ⟨p, h1, h⟩ := aw h
      split at h
      . rename_i ds hd
        split at h
        . rename_i hk
          obtain ⟨lq, h1', _⟩ := id h1
          exact At hp G.calm ((cY h1 G).ie rfl _ ds hd hk.2) hk.1 (fun d ρ ρ' hb => xm G hb) (fun ρ1 f1 h2 => I.ss _ (bj (by simp <;> omega) hs) h2 G hp) h (nk h1')
        . exact (av h).elim
      . exact (av h).elim
    . exact (av h).elim
  | While c body els p =>
    rw [pE] at h
    split at h
    . rename_i he
      have he := List.isEmpty_iff.mp he
      subst he
      refine vh hp (fun ρ b hb => ?_) (fun ρ1 f1 h2 => I.ss _ (bj (by simp <;> omega) hs) h2 G hp) h
      obtain ⟨p, h1, hb⟩ := aw hb
      obtain ⟨t, ht, hb⟩ := fU hb
      cases aK hb
      exact (cY h1 G).td rfl _ ht
    . exact (av h).elim
  | _ => exact (av h).elim
theorem BK {Φ : Fx} {n : Nat} (I : Is Φ n) (ss : List Stmt) {sc : Scope} {ρ : al} {fl : Fl} {X : Cx} {H0 : Hp} (hs : sizeOf ss < n + 1) (h : af (aE Φ ss sc ρ) fl) (G : aT Φ X sc) (hp : PassesOwn (model X.prog X.w) X.A X.env X.xe) : i9 X H0 ρ ss fl := by
  cases ss with
  | nil => cases aK h; exact xW
  | cons s ss =>
    obtain ⟨f1, h1, h⟩ := aw (show af (Rs.bnd _ _) fl from h)
    have c := I.s s (H0 := H0) (bj (by simp <;> omega) hs) h1 G hp
    cases f1 with
    | nx ρ' => exact ki c (I.ss ss (bj (by simp <;> omega) hs) h G hp)
    | bk ρ' => cases aK h; exact kh c (fun _ z => (by cases z))
    | ct ρ' => cases aK h; exact kh c (fun _ z => (by cases z))
    | rt d => cases aK h; exact kh c (fun _ z => (by cases z))
theorem jq (Φ : Fx) : ∀ n, Is Φ n
  | 0 => ⟨fun _ _ _ _ _ _ h => absurd h (Nat.not_lt_zero _), fun _ _ _ _ _ _ h => absurd h (Nat.not_lt_zero _)⟩
  | n + 1 => ⟨fun e _ _ _ _ _ hs h G hp => Dk (jq Φ n) e hs h G hp, fun e _ _ _ _ _ hs h G hp => BK (jq Φ n) e hs h G hp⟩
theorem js {Φ : Fx} (ss : List Stmt) {sc : Scope} {ρ : al} {fl : Fl} {X : Cx} {H0 : Hp} (h : af (aE Φ ss sc ρ) fl) (G : aT Φ X sc) (hp : PassesOwn (model X.prog X.w) X.A X.env X.xe) : i9 X H0 ρ ss fl := (jq Φ _).ss ss (Nat.lt_succ_self _) h G hp
end Sp
set_option Elab.async false
set_option linter.all false
set_option maxRecDepth 100000
namespace Sp
open PySem PySem.Spec PyProof.Rows L2
def au (sc : Scope) : List Str := (sc.names.filter fun y => y.2 == .local || y.2 == .cell).map (·.1)
def cD (P : Program) (w : World) (K : W.Frag) (mg : Str -> Option Value) (base : Heap) (k : Nat) (g : Str) (F : List D -> Rs D) : Prop :=
  ∃ f fd ps, bv P w K mg base c9 k f fd ps (jh K F) /\ mg g = some (.ref f) /\ W.keepIn K (.ref f) = true /\ bV K fd ps [] /\ (g == ("__debug__" : Str)) = false
theorem cD.mono {P : Program} {w : World} {K : W.Frag} {mg : Str -> Option Value} {base : Heap} {j k : Nat} {g : Str} {F : List D -> Rs D} (h : cD P w K mg base j g F) (hjk : j <= k) : cD P w K mg base k g F :=
  let ⟨f, fd, ps, h1, h2⟩ := h; ⟨f, fd, ps, h1.mono hjk, h2⟩
def lS (P : Program) (w : World) (K : W.Frag) (mg : Str -> Option Value) (base : Heap) (k : Nat) (g : Str) (F : List D -> Rs D) : Prop :=
  ∃ j C f fd ps, j + 1 <= k /\ (∀ ds r l, F ds = .ok r l -> r.lless = true) /\ Mk K C f /\ bv P w K mg base c9 j f fd ps (mU K g F) /\ mg g = some (.ref C) /\ W.nsIn K mainGlobals g = some (some (.ref C)) /\ dH K C /\ bV K fd ps [] /\ (g == ("__debug__" : Str)) = false
theorem lS.mono {P : Program} {w : World} {K : W.Frag} {mg : Str -> Option Value} {base : Heap} {j k : Nat} {g : Str} {F : List D -> Rs D} (h : lS P w K mg base j g F) (hjk : j <= k) : lS P w K mg base k g F :=
  let ⟨i, C, f, fd, ps, h0, h1⟩ := h; ⟨i, C, f, fd, ps, Nat.le_trans h0 hjk, h1⟩
def DB (P : Program) (w : World) (K : W.Frag) (mg : Str -> Option Value) (base : Heap) (k : Nat) (g : Str) (F : List D -> Rs D) : Prop := cD P w K mg base k g F \/ lS P w K mg base k g F
def br (P : Program) (w : World) (K : W.Frag) (mg : Str -> Option Value) (base : Heap) (k : Nat) (n m : Str) (F : List D -> Rs D) : Prop :=
  ∃ C f fd ps, W.nsIn K mainGlobals n = some (some (.ref C)) /\ dH K C /\ mQ K C m f /\ bv P w K mg base c9 k f fd ps (jh K F) /\ bV K fd ps []
theorem br.mono {P : Program} {w : World} {K : W.Frag} {mg : Str -> Option Value} {base : Heap} {j k : Nat} {n m : Str} {F : List D -> Rs D} (h : br P w K mg base j n m F) (hjk : j <= k) : br P w K mg base k n m F :=
  let ⟨C, f, fd, ps, h1, h2, h3, h4, h5⟩ := h; ⟨C, f, fd, ps, h1, h2, h3, h4.mono hjk, h5⟩
theorem pV : ∀ {ps : List Str} {ds : List D} {x : Str} {d : D} {o : Bool}, cV ps ds x = some (d, o) -> o = false /\ ∃ i : Nat, ps[i]? = some x /\ ds[i]? = some d
  | [], ds, x, d, o, h => by cases ds <;> cases h
  | p :: ps, [], x, d, o, h => by cases h
  | p :: ps, y :: ds, x, d, o, h => by
    replace h : (if x = p then some (y, false) else cV ps ds x) = some (d, o) := h
    by_cases e : x = p
    . rw [if_pos e] at h
      cases h; subst e; exact ⟨rfl, 0, rfl, rfl⟩
    . rw [if_neg e] at h
      obtain ⟨h1, i, h2, h3⟩ := pV h
      exact ⟨h1, i + 1, by simpa using h2, by simpa using h3⟩
structure jC (P : Program) (w : World) (K : W.Frag) (mg : Str -> Option Value) (base : Heap) (k : Nat) (Φ : Fx) : Prop where
  fn : ∀ g F, Φ.fn g = some F -> DB P w K mg base k g F
  con : ∀ x d, Φ.con x = some d -> ∃ v u, mg x = some u /\ bi v u /\ ∀ H P, ak K H P d v
  blt : ∀ f B, Φ.blt f = some B -> dJ f B
  itr : ∀ f B, Φ.itr f = some B -> lT f B
  mth : ∀ m M, Φ.mth m = some M -> sW m M
  mtt : ∀ m M, Φ.mtt m = some M -> lR m M
  slf : lP Φ.slf
  fld : ∀ n f, Φ.fld n f = true -> ∀ C, W.nsIn K mainGlobals n = some (some (.ref C)) -> bn K C f
  omt : ∀ n m F, Φ.omt n m = some F -> br P w K mg base k n m F
  bl : ∀ n ∈ gc, mg n = none
def bT (Φ : Fx) (sc : Scope) (ps : List Str) (body : List Stmt) (F : List D -> Rs D) : Prop := ∀ ds r, af (F ds) r -> af (bN Φ sc ps body ds) r
theorem bT.self {Φ : Fx} {sc : Scope} {ps : List Str} {body : List Stmt} : bT Φ sc ps body (bN Φ sc ps body) := fun _ _ h => h
theorem gx {P : Program} {w : World} {K : W.Frag} {mg : Str -> Option Value} {base : Heap} {k : Nat} {qual : Str} {st : Stmt} {f : Addr} {ps : List Str} {Φ : Fx} {cdv : Value} {A : Around} {outer : List Env} {s : Shared} {H : Hp} {E : XK}
    (S : aD (au (ae st)) ps (ae st)) (hΦ : jC P w K mg base k Φ) (hr : bQ k (A.deeper (envOfC qual (ae st) s.heap.objs.size f cdv))) :
    aT Φ (cJ c9 P w K mg base (au (ae st)) qual (ae st) f cdv A outer s H E).nox (ae st) := by
  have hun := hr.un
  refine ⟨rfl, S.nd, fun x hx => hx, fun x hx => hx, fun x hx => hx, fun x hx => hx, fun g' F' hg => ?_, hΦ.con, hΦ.blt, hΦ.itr, hΦ.mth, hΦ.mtt, hΦ.slf, hΦ.fld, fun n m F hF => ?_, hΦ.bl, ?_, fun x hx => ?_, fun x _ => rfl⟩
  . rcases hΦ.fn g' F' hg with z | z
    . obtain ⟨f', fd', ps', a1, a2, a3, a4, a5⟩ := z
      exact .inl ⟨k, f', fd', ps', a1, hr, a2, a3, a4, a5⟩
    . obtain ⟨j, C, f', fd', ps', a0, a1, a2, a3, a4⟩ := z
      exact .inr ⟨j, C, f', fd', ps', a1, a2, a3, hr.mono a0, a4⟩
  . obtain ⟨C, f', fd', ps', a1, a2, a3, a4, a5⟩ := hΦ.omt n m F hF
    exact ⟨k, C, f', fd', ps', a1, a2, a3, a4, hr, a5⟩
  . show (A.deeper _).units + 70 < cLine
    omega
  . show x ∈ au (ae st)
    unfold au
    unfold dC at hx
    rw [Bool.or_eq_true] at hx
    rcases hx with hx | hx
    . have hx : (ae st).names.lookup x = some .local := by simpa using hx
      exact List.mem_map.mpr ⟨(x, .local), List.mem_filter.mpr ⟨PySem.mem_of_lookup hx, by simp⟩, rfl⟩
    . have hx : (ae st).names.lookup x = some .cell := by simpa using hx
      exact List.mem_map.mpr ⟨(x, .cell), List.mem_filter.mpr ⟨PySem.mem_of_lookup hx, by simp⟩, rfl⟩
theorem iE {P : Program} {w : World} {K : W.Frag} {mg : Str -> Option Value} {base : Heap} {qual : Str} {st : Stmt} {f : Addr} {ps : List Str} {cdv : Value} {A : Around} {outer : List Env} {s : Shared} {H : Hp} {E : XK} {ds : List D} {vs : List V}
    (S : aD (au (ae st)) ps (ae st)) (h1 : ao K H (fun _ _ => True) ds vs) (hl : ds.length = ps.length) :
    aP (cJ c9 P w K mg base (au (ae st)) qual (ae st) f cdv A outer s H E).nox (fun _ => none) H (start (au (ae st)) vs) (cV ps ds) /\ (start (au (ae st)) vs).length = (au (ae st)).length := by
  have hpl : ps.length <= (au (ae st)).length := by have := congrArg List.length S.pre; rw [List.length_take] at this; omega
  have hvl : vs.length = ps.length := by rw [<- h1.length]; exact hl
  refine ⟨⟨fun x d o hx => ?_, fun a ha => absurd rfl ha⟩, by unfold L2.start; rw [List.length_append, List.length_map, List.length_replicate]; omega⟩
  obtain ⟨rfl, i, i1, i2⟩ := pV hx
  obtain ⟨v, i3, i4⟩ := h1.get i2
  have hi : i < ps.length := (List.getElem?_eq_some_iff.mp i1).1
  refine ⟨i, v, ?_, ?_, ?_, i4.imp fun a b _ _ => rfl⟩
  . show (au (ae st))[i]? = some x
    rw [<- S.pre, List.getElem?_take_of_lt hi] at i1
    exact i1
  . rcases S.par x (List.mem_of_getElem? i1) with z | z
    . exact .inl z
    . exact .inr (.inl z)
  . unfold L2.start
    rw [List.getElem?_append_left (by rw [List.length_map]; omega), List.getElem?_map, i3]; rfl
theorem mr {P : Program} {w : World} {K : W.Frag} {mg : Str -> Option Value} {base : Heap} {k : Nat} {g qual : Str} {st : Stmt} {f : Addr} {fd : FuncData} {ps : List Str} {F : List D -> Rs D} {Φ : Fx} (Fn : hW K g qual st f fd)
    (S : aD (au (ae st)) ps (ae st)) (hΦ : jC P w K mg base k Φ)
    (hrun : bT Φ (ae st) ps (ar st) F) : bv P w K mg base c9 (k + 1) f fd ps (jh K F) := by
  refine Fn.ok S (fun vs H Q E h => ?_) (fun cdv A outer s H vs Q E hr h => ?_)
  . obtain ⟨ds, r, l, h1, h2, hp, _⟩ := h
    have := hrun ds r ⟨l, h2, hp⟩
    unfold bN at this
    split at this
    . rename_i hl; rw [<- h1.length]; exact hl
    . exact (av this).elim
  . obtain ⟨ds, r, l, h1, h2, hp, q⟩ := h
    have hr1 := hrun ds r ⟨l, h2, hp⟩
    unfold bN at hr1
    split at hr1
    . rename_i hl
      have G := gx (outer := outer) (H := H) (E := E) S hΦ hr
      obtain ⟨E0, hsl⟩ := iE (P := P) (w := w) (mg := mg) (base := base) (qual := qual) (f := f) (cdv := cdv) (A := A) (outer := outer) (s := s) (E := E) S h1 hl
      have B0 : cq H (fun _ => none) H := fun a o h => ⟨h, rfl⟩
      obtain ⟨fl, hx, hr1⟩ := aw hr1
      cases fl with
      | rt d =>
        cases aK hr1
        exact ⟨_, js _ (H0 := H) hx G PassesOwn.never, fun _ => none, E0, hsl, B0, fun v H' sm rp => q v H' sm rp⟩
      | nx ρ' =>
        cases aK hr1
        exact ⟨_, js _ (H0 := H) hx G PassesOwn.never, fun _ => none, E0, hsl, B0, fun ow' σ' H' _ _ kp => q .non H' (fun a o h => kp.keep a o h (.inr rfl)) (by rw [ak])⟩
      | bk ρ' => exact (av hr1).elim
      | ct ρ' => exact (av hr1).elim
    . exact (av hr1).elim
def wO (K : W.Frag) (fs : List Str) : Sp := fun vs H Q _ => ∃ x ws C dx, vs = .ref x :: ws /\ ws.length = fs.length /\ H x = some (.ins C dx []) /\ dH K C /\ (∀ f ∈ fs, bn K C f) /\ Q .non (be H x (.ins C dx (fs.zip ws)))
theorem zx {P : Program} {w : World} {K : W.Frag} {mg : Str -> Option Value} {base : Heap} {g qual : Str} {st : Stmt} {f : Addr} {fd : FuncData} (Fn : hW K g qual st f fd) {s0 a1 a2 a3 f1 f2 f3 : Str} {p1 p2 p3 p4 q1 q2 q3 q4 r1 r2 r3 r4 : Pos}
    (hN : au (ae st) = [s0, a1, a2, a3]) (S : aD (au (ae st)) [s0, a1, a2, a3] (ae st)) (hv : ∀ x ∈ [s0, a1, a2, a3], fj (ae st) x) (hok : ∀ x ∈ [s0, a1, a2, a3], ff x = true)
    (hb : ar st = [.Assign [.Attribute (.Name s0 p1) f1 p2] (.Name a1 p3) p4, .Assign [.Attribute (.Name s0 q1) f2 q2] (.Name a2 q3) q4, .Assign [.Attribute (.Name s0 r1) f3 r2] (.Name a3 r3) r4]) (h12 : f1 ≠ f2) (h13 : f1 ≠ f3) (h23 : f2 ≠ f3) :
    bv P w K mg base c9 1 f fd [s0, a1, a2, a3] (wO K [f1, f2, f3]) := by
  refine Fn.ok (k := 0) S (fun vs H Q E h => ?_) (fun cdv A outer s H vs Q E hr h => ?_)
  . obtain ⟨x, ws, C, dx, rfl, hl, _⟩ := h
    rw [List.length_cons, hl]; rfl
  . obtain ⟨x, ws, C, dx, rfl, hl, hx, hc, hn, q⟩ := h
    obtain ⟨y1, ws, rfl⟩ : ∃ y r, ws = y :: r := by cases ws with | nil => cases hl | cons y r => exact ⟨y, r, rfl⟩
    obtain ⟨y2, ws, rfl⟩ : ∃ y r, ws = y :: r := by cases ws with | nil => cases hl | cons y r => exact ⟨y, r, rfl⟩
    obtain ⟨y3, ws, rfl⟩ : ∃ y r, ws = y :: r := by cases ws with | nil => cases hl | cons y r => exact ⟨y, r, rfl⟩
    obtain rfl : ws = [] := by cases ws with | nil => rfl | cons _ _ => cases hl
    have nm : ∀ (i : Nat) (x : Str) (p : Pos), [s0, a1, a2, a3][i]? = some x -> PE (cJ c9 P w K mg base (au (ae st)) qual (ae st) f cdv A outer s H E).nox (.Name x p) (n8 i) := fun i x p hi =>
      gC (by show (au (ae st))[i]? = some x; rw [hN]; exact hi) (hv x (List.mem_of_getElem? hi)) (dw (hok x (List.mem_of_getElem? hi))).1 (dw (hok x (List.mem_of_getElem? hi))).2
    rw [hb]
    refine ⟨_, dY (oH (nm 0 s0 p1 rfl) (nm 1 a1 p3 rfl) rfl) (dY (oH (nm 0 s0 q1 rfl) (nm 2 a2 q3 rfl) rfl) (jI (oH (nm 0 s0 r1 rfl) (nm 3 a3 r3 rfl) rfl))), ?_⟩
    rw [hN]
    refine ⟨y1, rfl, .ref x, rfl, x, C, dx, _, rfl, hx, hc, hn f1 (by simp), by decide, ?_⟩
    refine ⟨y2, rfl, .ref x, rfl, x, C, dx, _, rfl, aS, hc, hn f2 (by simp), by simp [de], ?_⟩
    refine ⟨y3, rfl, .ref x, rfl, x, C, dx, _, rfl, aS, hc, hn f3 (by simp), ?_, ?_⟩
    . have := fL f2 y2 (de f1 y1 []); have := fL f1 y1 []; simp at this; omega
    . rw [qL, qL]
      have e : de f3 y3 (de f2 y2 (de f1 y1 [])) = [(f1, y1), (f2, y2), (f3, y3)] := by simp [de, h12, h13, h23]
      rw [e]
      exact q
theorem oM {X : Cx} {CX : gR} {k : Nat} {f C : Addr} {fd : FuncData} {ps : List Str} {sp : Sp} {E : XK} {b m : Str} {p pos apos : Pos} {e : Expr} {es : List Expr} {t : TA} {mc : Value} (hg : Gl X b) (hm : X.mg b = some (.ref C)) (hga : W.specialIn X.K (.ref C) "__getattribute__" = some (some (.builtin "type.__getattribute__")))
    (hrd : W.readsIn X.K C mc = true) (hfc : W.findCls X.K (.ref C) mc m = some (.val (.ref f))) (hk : W.keepIn X.K (.ref f) = true) (F : bv X.prog X.w X.K X.mg X.base CX k f fd ps sp) (hr : bQ k X.A) (hb : bV X.K fd ps []) (hx : eI CX X E) (ha : PA X (e :: es) t)
    (hst : starEach (e :: es) X.env = (false, eval e X.env) :: starEach es X.env) (hpl : (backTo pos (starEach es X.env)).any (·.1) = false) (hdb : (b == ("__debug__" : Str)) = false)
    (ht : eval (.Call (.Attribute (.Name b p) m apos) (e :: es) [] pos) X.env = (do
      let ov <- eval (.Name b p) X.env
      standAt apos.atName
      let (f, first) <- holding [ov] (getMethod ov m (do return (<- importBound (.Name b p) X.env).getD true))
      callWith pos f first (backTo pos (starEach (e :: es) X.env)) (backToKw pos (keywordEach [] X.env)))) :
    PE X (.Call (.Attribute (.Name b p) m apos) (e :: es) [] pos) (rP sp [] E t) := by
  intro pins s σ H Q I h
  refine W.methodCall_KW (pl := (do return (<- importBound (.Name b p) X.env).getD true)) (dE I hg hm ?_ hdb) ht
  refine W.method_cls I.kIn hga (W.cls_value I.kIn hrd hfc rfl ?_)
  have I' := I.tok (s.toks + 1)
  refine W.callWith_K (first := []) (h₀ := X.base) I.ok.mod.kin hk (aL (ha pos pins _ σ H _ I' h) fun us s2 ⟨vs, H2, I2, r, q2⟩ => ⟨I2.kIn, ?_⟩) hst hpl
  exact ji (us := us) F hr hb .nil hx I2 r q2
mutual
def D.noObj : D -> Bool
  | .obj _ _ _ => false
  | .tup l => fg l
  | .lst l => fg l
  | _ => true
def fg : List D -> Bool
  | [] => true
  | d :: l => d.noObj && fg l
end
mutual
theorem ak.off {K : W.Frag} {P : bw} {H H' : Hp} {x C dx : Addr} {fs : List (Str × V)} (hx : H x = some (.ins C dx fs)) (s : ∀ a o, a ≠ x -> H a = some o -> H' a = some o) : ∀ {d : D} {v : V}, d.noObj = true -> ak K H P d v -> ak K H' P d v
  | .non, v, _, h => by rw [ak] at h ⊢; exact h
  | .bl b, v, _, h => by rw [ak] at h ⊢; exact h
  | .int i, v, _, h => by rw [ak] at h ⊢; exact h
  | .str x, v, _, h => by rw [ak] at h ⊢; exact h
  | .emp, v, _, h => by
    rw [ak] at h ⊢
    obtain ⟨a, e, h⟩ := h
    exact ⟨a, e, s _ _ (iL h hx (fun z => nomatch z)) h⟩
  | .typ n, v, _, h => by rw [ak] at h ⊢; exact h
  | .sn n, v, _, h => by
    rw [ak] at h ⊢
    obtain ⟨a, S, e, h⟩ := h
    exact ⟨a, S, e, s _ _ (iL h hx (fun z => nomatch z)) h⟩
  | .obj n ns ds, v, f, h => by rw [D.noObj] at f; cases f
  | .cls n, v, _, h => by rw [ak] at h ⊢; exact h
  | .xc n p, v, _, h => by rw [ak] at h ⊢; exact h.mono fun a C z => s _ _ (iL z hx (fun z => nomatch z)) z
  | .tup l, v, f, h => by
    rw [ak] at h ⊢
    obtain ⟨a, vs, e, h, r⟩ := h
    refine ⟨a, vs, e, ?_, ao.off hx s (by rw [D.noObj] at f; exact f) r⟩
    rcases h with (h | ⟨o, h⟩) | h
    . exact .inl (.inl (s _ _ (iL h hx (fun z => nomatch z)) h))
    . exact .inl (.inr ⟨o, s _ _ (iL h hx (fun z => nomatch z)) h⟩)
    . exact .inr h
  | .lst l, v, f, h => by
    rw [ak] at h ⊢
    obtain ⟨a, vs, b, e, h, p, r⟩ := h
    refine ⟨a, vs, b, e, ?_, p, ao.off hx s (by rw [D.noObj] at f; exact f) r⟩
    cases b with
    | true => exact s _ _ (iL h hx (fun z => nomatch z)) h
    | false =>
      rcases h with ⟨o, h⟩ | h
      . exact .inl ⟨o, s _ _ (iL h hx (fun z => nomatch z)) h⟩
      . exact .inr h
theorem ao.off {K : W.Frag} {P : bw} {H H' : Hp} {x C dx : Addr} {fs : List (Str × V)} (hx : H x = some (.ins C dx fs)) (s : ∀ a o, a ≠ x -> H a = some o -> H' a = some o) : ∀ {l : List D} {vs : List V}, fg l = true -> ao K H P l vs -> ao K H' P l vs
  | [], vs, _, h => by rw [ao] at h ⊢; exact h
  | d :: l, vs, f, h => by
    rw [ao] at h ⊢
    rw [fg, Bool.and_eq_true] at f
    obtain ⟨v, r, e, h1, h2⟩ := h
    exact ⟨v, r, e, ak.off hx s f.1 h1, ao.off hx s f.2 h2⟩
end
def ax (s : Stmt) (j : Nat) : Stmt := (match s with | .ClassDef _ _ _ b _ _ _ _ _ _ _ => b | _ => []).getD j (.Pass ⟨0, 0, 0, 0⟩)
def o9 (s : Stmt) : List Expr := match ar s with
  | [.Expr (.Call _ (_ :: args) _ _) _] => args
  | _ => []
def gn (Φ : Fx) (sc : Scope) (ps : List Str) (args : List Expr) (n : Str) (fs : List Str) (ds : List D) : Rs D :=
  if ds.length + 1 = ps.length then (bW Φ args sc (cV ps (.obj n [] [] :: ds))).bnd fun q => if q.1.length = fs.length then .ok (.obj n fs q.1) [aA q.1 = true, fg q.1 = true] else .st else .st
theorem rg {P : Program} {w : World} {K : W.Frag} {mg : Str -> Option Value} {base : Heap} {k : Nat} {g qual : Str} {st : Stmt} {f f0 : Addr} {fd fd0 : FuncData} {ps ps0 fs : List Str} {Φ : Fx} {n b s0 : Str} {C0 : Addr} {mc : Value} {pb p0 ap cp p4 : Pos} {args : List Expr} (Fn : hW K g qual st f fd)
    (S : aD (au (ae st)) ps (ae st)) (hΦ : jC P w K mg base k Φ) (hF0 : bv P w K mg base c9 k f0 fd0 ps0 (wO K fs)) (hb0 : bV K fd0 ps0 []) (hk0 : W.keepIn K (.ref f0) = true)
    (hgb : (ae st).names.lookup b = some .globalImplicit) (hm : mg b = some (.ref C0)) (hga : W.specialIn K (.ref C0) "__getattribute__" = some (some (.builtin "type.__getattribute__"))) (hrd : W.readsIn K C0 mc = true) (hfc : W.findCls K (.ref C0) mc "__init__" = some (.val (.ref f0)))
    (hbody : ar st = [.Expr (.Call (.Attribute (.Name b pb) "__init__" ap) (.Name s0 p0 :: args) [] cp) p4]) (hs0 : ps[0]? = some s0) (hok : ff s0 = true) (hdb : (b == ("__debug__" : Str)) = false) (hln : (ap.endLine == cp.line) = true) (hfew : args.length < 28)
    (hna : ∀ C, W.nsIn K mainGlobals n = some (some (.ref C)) -> ∀ x ∈ fs, bn K C x) : bv P w K mg base c9 (k + 1) f fd ps (mU K n (gn Φ (ae st) ps args n fs)) := by
  refine Fn.ok S (fun vs H Q E h => ?_) (fun cdv A outer s H vs Q E hr h => ?_)
  . obtain ⟨x, ws, C, dx, ds, r, l, rfl, hx, hns, hc, r1, hF, _⟩ := h
    unfold gn at hF
    split at hF
    . rename_i hl; rw [List.length_cons, <- r1.length]; exact hl
    . cases hF
  . obtain ⟨x, ws, C, dx, ds, r, l, rfl, hx, hns, hc, r1, hF, hp, hl, q⟩ := h
    unfold gn at hF
    split at hF
    . rename_i hlen
      obtain ⟨qv, l1, l2, h1, p1, hF, p2⟩ := aN hF hp
      split at hF
      . rename_i hfl
        cases hF
        have G := gx (outer := outer) (H := H) (E := E) S hΦ hr
        have r0 : ao K H (fun _ _ => True) (.obj n [] [] :: ds) (.ref x :: ws) := ao.cons (by rw [ak]; exact ⟨rfl, rfl, x, C, dx, [], rfl, hns, hc, hx, ao.nil⟩) r1
        obtain ⟨E0, hsl⟩ := iE (P := P) (w := w) (mg := mg) (base := base) (qual := qual) (f := f) (cdv := cdv) (A := A) (outer := outer) (s := s) (E := E) S r0 hlen
        obtain ⟨hst, hal⟩ := cF h1 p1
        have ad := iC args h1 p1 G
        have hi0 : (au (ae st))[0]? = some s0 := by
          have hp0 := (List.getElem?_eq_some_iff.mp hs0).1
          have hs1 := hs0
          rw [<- S.pre, List.getElem?_take_of_lt hp0] at hs1
          exact hs1
        have hv0 : fj (ae st) s0 := by
          rcases S.par s0 (List.mem_of_getElem? hs0) with z | z
          . exact .inl z
          . exact .inr (.inl z)
        have hst' : ∀ e ∈ Expr.Name s0 p0 :: args, ∀ y p, e ≠ .Starred y p := fun e he => by
          rcases List.mem_cons.mp he with rfl | he
          . intro _ _ z; cases z
          . exact hst e he
        rw [hbody]
        refine ⟨_, jI (ip (oM (G.gl b hgb) hm hga hrd hfc hk0 hF0 hr hb0 gU (gw (gC (i := 0) hi0 hv0 (dw hok).1 (dw hok).2) (ad (fun _ => none)) (aO fun _ _ z => by cases z)) (aO fun _ _ z => by cases z) (bP hst) hdb (nQ (eR rfl) (lr hst' (by rw [List.length_cons]; omega)) hln)) rfl), ?_⟩
        refine ⟨.ref x, ?_, E0, fun vs H1 s1 rv => ?_⟩
        . have hn : 0 < (au (ae st)).length := (List.getElem?_eq_some_iff.mp hi0).1
          rfl
        . refine ⟨x, vs ++ [], C, dx, rfl, by rw [List.append_nil, <- rv.length]; exact hfl, s1 _ _ hx, hc, hna C hns, q _ (fun a o ha h => ?_) ?_⟩
          . rw [aG ha]; exact s1 _ _ h
          . rw [ak, List.append_nil]
            exact ⟨p2.1, hfl.symm, x, C, dx, vs, rfl, hns, hc, aS, ((rv.off (s1 _ _ hx) (fun a o ha h => by rw [aG ha]; exact h) p2.2.1).imp fun _ _ _ => True.intro)⟩
      . cases hF
    . cases hF
theorem bL {P : Program} {w : World} {K : W.Frag} {mg : Str -> Option Value} {base : Heap} {k : Nat} {g qual : Str} {st : Stmt} {f : Addr} {fd : FuncData} {ps : List Str} {F : List D -> Rs D} {Φ : Fx} (Fn : hW K g qual st f fd)
    (S : aD (au (ae st)) ps (ae st)) (hm : mg g = some (.ref f)) (hb : bV K fd ps []) (hd : (g == ("__debug__" : Str)) = false)
    (hΦ : jC P w K mg base k Φ) (hrun : bT Φ (ae st) ps (ar st) F) : cD P w K mg base (k + 1) g F :=
  ⟨f, fd, ps, mr Fn S hΦ hrun, hm, Fn.kp, hb, hd⟩
theorem ag {α : Type} {Pr : α -> Prop} {x : α} {l : List α} (h1 : Pr x) (h2 : ∀ y ∈ l, Pr y) : ∀ y ∈ x :: l, Pr y := fun y hy => (List.mem_cons.mp hy).elim (fun e => e ▸ h1) (h2 y)
theorem aj {α : Type} {Pr : α -> Prop} : ∀ y ∈ ([] : List α), Pr y := fun y hy => by cases hy
theorem BE {K : W.Frag} {H : Hp} {a : Addr} {ns : List Int} {F : List D -> Rs D} (hO : qh H) (hS : cA K H a (ns.map V.int)) (h : af (F [.lst (ns.map D.int)]) (.bl true)) : jh K F [.ref a] H (fun v _ => v = .bl true) fun _ _ _ => False := by
  obtain ⟨l, h, hp⟩ := h
  refine ⟨[.lst (ns.map D.int)], .bl true, l, ao.one ?_, h, hp, fun v H' _ r => by rw [ak] at r; exact r⟩
  rw [ak]
  rcases hS with (hS | hS) | hS
  . rcases hO a with z | ⟨o, xs, z⟩
    . rw [z] at hS; cases hS
    . rw [z] at hS; cases hS
  . exact ⟨a, _, false, rfl, .inl hS, True.intro, ao.ofInts⟩
  . exact ⟨a, _, false, rfl, .inr hS, True.intro, ao.ofInts⟩
abbrev nG (P : Program) (w : World) (K : W.Frag) (mg : Str -> Option Value) (base : Heap) (k : Nat) : Str × (List D -> Rs D) -> Prop := fun p => DB P w K mg base k p.1 p.2
abbrev cX (mg : Str -> Option Value) (K : W.Frag) : Str × D -> Prop := fun p => ∃ v u, mg p.1 = some u /\ bi v u /\ ∀ H P, ak K H P p.2 v
abbrev gi : Str × (List D -> R1) -> Prop := fun p => dJ p.1 p.2
abbrev qj : Str × (List D -> Nat -> R1) -> Prop := fun p => lT p.1 p.2
abbrev wu : Str × (D -> List D -> R1) -> Prop := fun p => sW p.1 p.2
abbrev sV : Str × (List D -> List D -> Nat -> Rs (List D)) -> Prop := fun p => lR p.1 p.2
theorem bo {P : Program} {w : World} {K : W.Frag} {mg : Str -> Option Value} {base : Heap} {k : Nat} {l : List (Str × (List D -> Rs D))} {c : List (Str × D)} {b : List (Str × (List D -> R1))} {i : List (Str × (List D -> Nat -> R1))} {m : List (Str × (D -> List D -> R1))} {t : List (Str × (List D -> List D -> Nat -> Rs (List D)))} {sf : D -> Option Int -> Option Int -> R1}
    (hl : ∀ p ∈ l, nG P w K mg base k p) (hc : ∀ p ∈ c, cX mg K p) (hb : ∀ p ∈ b, gi p) (hi : ∀ p ∈ i, qj p) (hm : ∀ p ∈ m, wu p) (ht : ∀ p ∈ t, sV p) (hs : lP sf) (hn : ∀ n ∈ gc, mg n = none) : jC P w K mg base k (Tb l c b i m t sf) :=
  ⟨fun g F h => hl (g, F) (PySem.mem_of_lookup h), fun x d h => hc (x, d) (PySem.mem_of_lookup h), fun f B h => hb (f, B) (PySem.mem_of_lookup h), fun f B h => hi (f, B) (PySem.mem_of_lookup h), fun f B h => hm (f, B) (PySem.mem_of_lookup h), fun f B h => ht (f, B) (PySem.mem_of_lookup h), hs, (fun _ _ h => by cases h), (fun _ _ _ h => by cases h), hn⟩
abbrev iZ (K : W.Frag) : Str × List Str -> Prop := fun p => ∀ f ∈ p.2, ∀ C, W.nsIn K mainGlobals p.1 = some (some (.ref C)) -> bn K C f
abbrev fH (P : Program) (w : World) (K : W.Frag) (mg : Str -> Option Value) (base : Heap) (k : Nat) : Str × List (Str × (List D -> Rs D)) -> Prop := fun p => ∀ q ∈ p.2, br P w K mg base k p.1 q.1 q.2
theorem cH {P : Program} {w : World} {K : W.Frag} {mg : Str -> Option Value} {base : Heap} {k : Nat} {l : List (Str × (List D -> Rs D))} {c : List (Str × D)} {b : List (Str × (List D -> R1))} {i : List (Str × (List D -> Nat -> R1))} {m : List (Str × (D -> List D -> R1))} {t : List (Str × (List D -> List D -> Nat -> Rs (List D)))} {sf : D -> Option Int -> Option Int -> R1} {fl : List (Str × List Str)} {om : List (Str × List (Str × (List D -> Rs D)))}
    (hl : ∀ p ∈ l, nG P w K mg base k p) (hc : ∀ p ∈ c, cX mg K p) (hb : ∀ p ∈ b, gi p) (hi : ∀ p ∈ i, qj p) (hm : ∀ p ∈ m, wu p) (ht : ∀ p ∈ t, sV p) (hs : lP sf) (hfl : ∀ p ∈ fl, iZ K p) (hom : ∀ p ∈ om, fH P w K mg base k p) (hn : ∀ n ∈ gc, mg n = none) : jC P w K mg base k (lM l c b i m t sf fl om) :=
  ⟨fun g F h => hl (g, F) (PySem.mem_of_lookup h), fun x d h => hc (x, d) (PySem.mem_of_lookup h), fun f B h => hb (f, B) (PySem.mem_of_lookup h), fun f B h => hi (f, B) (PySem.mem_of_lookup h), fun f B h => hm (f, B) (PySem.mem_of_lookup h), fun f B h => ht (f, B) (PySem.mem_of_lookup h), hs,
    (fun n f h C hC => by
      replace h : (match fl.lookup n with | some fs => fs.contains f | none => false) = true := h
      split at h
      . rename_i fs e; exact hfl (n, fs) (PySem.mem_of_lookup e) f (List.contains_iff_mem.mp h) C hC
      . cases h),
    (fun n x F h => by
      replace h : (match om.lookup n with | some ms => ms.lookup x | none => none) = some F := h
      split at h
      . rename_i ms e; exact hom (n, ms) (PySem.mem_of_lookup e) (x, F) (PySem.mem_of_lookup h)
      . cases h), hn⟩
theorem cC {P : Program} {w : World} {K : W.Frag} {mg : Str -> Option Value} {base : Heap} {k : Nat} {g qual n : Str} {st : Stmt} {f C : Addr} {fd : FuncData} {ps : List Str} {F : List D -> Rs D} {Φ : Fx} (Fn : hW K g qual st f fd)
    (S : aD (au (ae st)) ps (ae st)) (hn : W.nsIn K mainGlobals n = some (some (.ref C))) (hc : dH K C) (hm : mQ K C g f) (hb : bV K fd ps [])
    (hΦ : jC P w K mg base k Φ) (hrun : bT Φ (ae st) ps (ar st) F) : br P w K mg base (k + 1) n g F :=
  ⟨C, f, fd, ps, hn, hc, hm, mr Fn S hΦ hrun, hb⟩
theorem oU {P : Program} {w : World} {K : W.Frag} {mg : Str -> Option Value} {base : Heap} {k : Nat} {n : Str} {ps : List Str} {C f : Addr} {fd : FuncData} {F : List D -> Rs D} (hF : ∀ ds r l, F ds = .ok r l -> r.lless = true) (hM : Mk K C f) (h : bv P w K mg base c9 k f fd ps (mU K n F)) (hm : mg n = some (.ref C))
    (hn : W.nsIn K mainGlobals n = some (some (.ref C))) (hc : dH K C) (hb : bV K fd ps []) (hd : (n == ("__debug__" : Str)) = false) : lS P w K mg base (k + 1) n F := ⟨k, C, f, fd, ps, Nat.le_refl _, hF, hM, h, hm, hn, hc, hb, hd⟩
theorem ll {Φ : Fx} {sc : Scope} {ps fs : List Str} {args : List Expr} {n : Str} : ∀ ds r l, gn Φ sc ps args n fs ds = .ok r l -> r.lless = true := fun ds r l h => by
  unfold gn at h
  split at h
  . unfold Rs.bnd at h
    split at h
    . cases h
    . split at h
      . cases h
      . rename_i e
        cases h
        dsimp only at e
        split at e
        . cases e; rfl
        . cases e
  . cases h
theorem jQ {mg : Str -> Option Value} {K : W.Frag} {x : Str} {C : Addr} {od : Option Addr} {dat : Data} {sl : Array (Option Value)} (hm : mg x = some (.ref C)) (hn : W.nsIn K mainGlobals x = some (some (.ref C))) (hl : K.lookup C = some ⟨.type "type", od, dat, sl⟩) (ho : lU K C) (ha : xM K C x) : cX mg K (x, .cls x) :=
  ⟨.ref C, .ref C, hm, rfl, fun H P => by rw [ak]; exact ⟨C, _, rfl, hn, hl, rfl, ho, ha⟩⟩
end Sp
set_option Elab.async false
set_option linter.all false
set_option maxRecDepth 100000
namespace Sp
open PySem PySem.Spec PyProof.Rows L2
open AutoSeq1 (wpAny_loadPart')
section
variable {prog : Program} {w : World} {A : Around} {E : Value -> Shared -> Prop} {s : Shared}
theorem xQ {it tu : Addr} {i : Nat} {vs : Array Value} {x : Value} {Q : Value -> Shared -> Prop} (hIt : s.heap.IsTupleIter it tu i) (hT : s.heap.IsTuple tu vs) (hx : vs[i]? = some x)
    (go : ∀ h1, h1.IsTupleIter it tu (i + 1) -> Heap.SameBut it s.heap h1 -> Q x { s with heap := h1 }) : wpAny (model prog w) A (Builtin.SmallTypes.nextOf (.ref it)) Q E s := by
  have key := wpAny_pyNext_tuple_item (prog := prog) (w := w) (A := A) (E := E) (Q := fun r s1 => ∃ v, r = some v /\ Q v s1) hIt hT hx (fun h1 a b => ⟨x, rfl, go h1 a b⟩)
  obtain ⟨o, ho, hc, hd⟩ := id hIt
  obtain ⟨ot, hot, _, nt, hdt⟩ := hT
  unfold Builtin.SmallTypes.nextOf
  refine wpAny_bind (wpAny_callSpecial?_slot (name := Str.ofString "__next__") hIt.typeIs F.slot_tuple_iterator_next (wpAny_call_entry F.slot_tuple_iterator_next hIt.typeIs F.entry_tuple_iterator_next ?_ (F.args_tuple_iterator_next_1 _)))
  show wpAny _ _ (field (.ref it) 0 >>= _) _ _ s
  refine wpAny_bind (wpAny_field ho hd (x := .ref tu) rfl ?_)
  show wpAny _ _ (if (Value.ref tu == Value.none) = true then _ else _) _ _ s
  rw [if_neg (show ¬ ((Value.ref tu == Value.none) = true) from Bool.false_ne_true)]
  show wpAny _ _ (field (.ref it) 1 >>= _) _ _ s
  refine wpAny_bind (wpAny_field ho hd (x := Value.int (i : Int) 0) rfl ?_)
  show wpAny _ _ (seqItems? (.ref tu) >>= _) _ _ s
  refine wpAny_bind (wpAny_seqItems hot hdt ?_)
  simp only [Int.toNat_natCast, hx]
  refine wpAny_bind (wpAny_setField ho hd (by simp) (wpAny_pure ⟨x, rfl, wpAny_pure (go _ ?_ (Heap.SameBut.update ..))⟩))
  refine ⟨_, Heap.get?_update_self _ ho (Obj.isFreed_of_fields (Obj.data_mapFields hd _)), (Obj.cls_mapFields ..).trans hc, ?_⟩
  rw [Obj.data_mapFields hd]; simp [rawInt]
theorem zW {it tu : Addr} {i : Nat} {vs : Array Value} {Q : Value -> Shared -> Prop} (hh : A.handled = none) (hIt : s.heap.IsTupleIter it tu i) (hT : s.heap.IsTuple tu vs) (hx : vs[i]? = none)
    (go : ∀ h1 x, Heap.ExtBut it s.heap h1 -> (∃ o, h1.get? x = some o /\ o.cls = .type "StopIteration") -> E (.ref x) { s with heap := h1 }) : wpAny (model prog w) A (Builtin.SmallTypes.nextOf (.ref it)) Q E s := by
  obtain ⟨o, ho, hc, hd⟩ := id hIt
  obtain ⟨ot, hot, _, nt, hdt⟩ := hT
  unfold Builtin.SmallTypes.nextOf
  refine wpAny_bind (wpAny_callSpecial?_slot (name := Str.ofString "__next__") hIt.typeIs F.slot_tuple_iterator_next (wpAny_call_entry F.slot_tuple_iterator_next hIt.typeIs F.entry_tuple_iterator_next ?_ (F.args_tuple_iterator_next_1 _)))
  show wpAny _ _ (field (.ref it) 0 >>= _) _ _ s
  refine wpAny_bind (wpAny_field ho hd (x := .ref tu) rfl ?_)
  show wpAny _ _ (if (Value.ref tu == Value.none) = true then _ else _) _ _ s
  rw [if_neg (show ¬ ((Value.ref tu == Value.none) = true) from Bool.false_ne_true)]
  show wpAny _ _ (field (.ref it) 1 >>= _) _ _ s
  refine wpAny_bind (wpAny_field ho hd (x := Value.int (i : Int) 0) rfl ?_)
  show wpAny _ _ (seqItems? (.ref tu) >>= _) _ _ s
  refine wpAny_bind (wpAny_seqItems hot hdt ?_)
  simp only [Int.toNat_natCast, hx]
  refine wpAny_bind (wpAny_rule (wpAny_bind (wpAny_setField ho hd (by simp) ?_)))
  show wpAny _ _ (newExc (.type "StopIteration") [] >>= _) _ _ _
  refine wpAny_bind ?_
  simp only [newExc, newTuple]
  refine wpAny_bind (wpAny_newObj_type ?_ (by size_fits))
  refine wpAny_bind (m := firstArgMember _ _) (wpAny_of_eq (a := Value.none) (by first | rfl | (simp only [firstArgMember] <;> rfl)) ?_)
  refine wpAny_newObj_type ?_ (by size_fits)
  simp only [raiseNew]
  refine wpAny_bind (wpAny_handled ?_)
  first | rw [show A.in1.handled = none from hh] | rw [hh]
  refine wpAny_bind (wpAny_pure (wpAny_throw ?_))
  exact go _ _ (((Heap.SameBut.update ..).extBut.push _).push _) ⟨_, Heap.get?_push_size _ rfl, rfl⟩
end
end Sp
set_option Elab.async false
set_option linter.all false
set_option maxRecDepth 100000
namespace Sp
open PySem PySem.Spec PyProof.Rows L2
variable {X : Cx}
theorem ul {pins : List (Addr × Obj)} {σ : L2.St} {H : Hp} {s : Shared} {h2 : Heap} {t2 : Nat} {ch : List Addr} {p : Addr} {o : HO} (I : am X pins σ H s)
    (k : ∀ b u, b ∉ ch -> s.heap.get? b = some u -> h2.get? b = some u) (hp : s.heap.objs.size <= p) (hn : ∀ b ∈ ch, fI X pins H b) (new : cf X.prog X.w (be H p o) h2 p o) : am X pins σ (be H p o) { s with heap := h2, toks := t2 } := by
  have hH : H p = none := I.hok.fresh hp
  have tr : ∀ b u, H b = some u -> b ∉ ch := fun b u e z => by rw [(hn b z).1] at e; cases e
  have un : Un (bX X.stack) ch H (be H p o) s.heap h2 := by
    refine ⟨fun b ob e n _ c => k b ob c e, fun b ob e n _ c => ⟨ob.slots, k b ob c e⟩, fun b ob e n c => ?_, fun b ob e c => ⟨ob, k b ob c e⟩, fun b xs e => ?_, fun b ob u e => ?_, fun b ps e => ⟨#[], ?_⟩⟩
    . rw [aG (Nat.ne_of_lt (Nat.lt_of_lt_of_le (Heap.lt_size e) hp))]; exact n
    . rw [aG (bg e hH)]; exact e
    . rw [aG (bg e hH)]; exact e
    . rw [aG (bg e hH), e]; simp
  refine I.call (g' := s.gens) (d' := s.drawn) un (fun b u e => ?_) I.bare fun b hb => ⟨(hn b hb).2.2.2.1, (hn b hb).2.1, (hn b hb).2.2.2.2.1, (hn b hb).2.2.2.2.2⟩
  by_cases hb : b = p
  . subst hb; rw [aS] at e; cases e; exact new
  . rw [aG hb] at e
    refine (I.hok b u e).stay (fun c v hc q => k c v ?_ q) (fun c q => by rw [aG (bg q hH)]; exact q) fun c xs q => by rw [aG (bg q hH)]; exact q
    rcases hc with z | z
    . rw [z]; exact tr b u e
    . exact tr c _ z
theorem uh {tg : Expr} (h : iw tg = true) : ∃ es n p, tg = .Tuple es n p := by
  cases tg <;> first | exact ⟨_, _, _, rfl⟩ | cases h
end Sp
set_option Elab.async false
set_option linter.all false
set_option maxRecDepth 100000
namespace Sp
open PySem PySem.Spec PyProof.Rows L2
open AutoSeq1 (wpAny_loadPart')
structure Wk (prog : Program) (w : World) (i l : Addr) (P : Nat -> Heap -> Prop) (g : Nat -> Option Value) : Prop where
  stay : ∀ k (h h' : Heap), P k h -> (∀ c o, c = i \/ c = l -> h.get? c = some o -> h'.get? c = some o) -> P k h'
  here : ∀ k (h : Heap), P k h -> ∃ o, h.get? i = some o /\ ∀ v, o.data ≠ Data.cell v
  item : ∀ (A : Around) (E : Value -> Shared -> Prop) (s : Shared) (k : Nat) (x : Value) (Q : Value -> Shared -> Prop), P k s.heap -> g k = some x -> (∀ h1, P (k + 1) h1 -> Heap.SameBut i s.heap h1 -> Q x { s with heap := h1 }) -> wpAny (model prog w) A (Builtin.SmallTypes.nextOf (.ref i)) Q E s
  done : ∀ (A : Around) (E : Value -> Shared -> Prop) (s : Shared) (k : Nat) (Q : Value -> Shared -> Prop), A.handled = none -> P k s.heap -> g k = none -> (∀ h1 x, Heap.ExtBut i s.heap h1 -> (∃ o, h1.get? x = some o /\ o.cls = .type "StopIteration") -> E (.ref x) { s with heap := h1 }) -> wpAny (model prog w) A (Builtin.SmallTypes.nextOf (.ref i)) Q E s
theorem kI {prog : Program} {w : World} {i l : Addr} {xs : Array Value} (ne : l ≠ i) : Wk prog w i l (fun k h => h.IsTupleIter i l k /\ h.IsTuple l xs) (fun k => xs[k]?) where
  stay := fun k h h' p q => ⟨p.1.at fun o e => q i o (.inl rfl) e, p.2.at fun o e => q l o (.inr rfl) e⟩
  here := fun k h p => let ⟨o, e, _, d⟩ := p.1; ⟨o, e, fun v z => by rw [d] at z; cases z⟩
  item := fun A E s k x Q p hx q => xQ p.1 p.2 hx fun h1 a b => q h1 ⟨a, p.2.extBut b.extBut ne⟩ b
  done := fun A E s k Q hh p hx q => zW hh p.1 p.2 hx q
section
variable {prog : Program} {w : World} {A : Around} {E : Value -> Shared -> Prop} {s : Shared}
variable {z TI TO i1 i2 l1 l2 : Addr} {k1 k2 : Nat} {P1 P2 : Nat -> Heap -> Prop} {g1 g2 : Nat -> Option Value} {x y a b : Value}
structure Zs (z TI TO i1 i2 l1 l2 : Addr) (P1 P2 : Nat -> Heap -> Prop) (k : Nat) (h : Heap) : Prop where
  ap : ZipApart z TI TO i1 i2 l1 l2
  rd : IsZip h z TI TO .none
  ins : IsPair h TI (.ref i1) (.ref i2)
  out : ∃ a b, IsPair h TO a b
  fst : P1 k h
  snd : P2 k h
theorem Zs.item {k : Nat} {Q : Value -> Shared -> Prop} (W1 : Wk prog w i1 l1 P1 g1) (W2 : Wk prog w i2 l2 P2 g2) (S : Zs z TI TO i1 i2 l1 l2 P1 P2 k s.heap) (hx : g1 k = some x) (hy : g2 k = some y)
    (go : ∀ h1, (∀ h2, IsZip h2 z TI TO .none -> Heap.SameBut z h1 h2 -> Zs z TI TO i1 i2 l1 l2 P1 P2 (k + 1) h2) -> IsZip h1 z TI TO (rawInt s.heap.objs.size) -> IsPair h1 s.heap.objs.size x y -> (∀ c o, c ∉ [z, TO, i1, i2] -> s.heap.get? c = some o -> h1.get? c = some o) -> Q (.ref s.heap.objs.size) { s with heap := h1 }) :
    wpAny (model prog w) A (Builtin.«zip.__next__» ⟨[.ref z], []⟩) (fun fin s' => ∃ v, fin = .done (.ret v) /\ Q v s') E s := by
  obtain ⟨D, isZ, pI, ⟨a, b, pO⟩, p1, p2⟩ := S
  obtain ⟨h0, gg, dd, t0, oo⟩ := s
  show wpAny _ _ (field (.ref z) 2 >>= _) _ _ ⟨h0, gg, dd, t0, oo⟩
  refine wpAny_bind (wpAny_field isZ rfl (x := Value.bool false) rfl ?_)
  show wpAny _ _ (field (.ref z) 3 >>= _) _ _ ⟨h0, gg, dd, t0, oo⟩
  refine wpAny_bind (wpAny_field isZ rfl (x := Value.ref TI) rfl (wpAny_bind (wpAny_seqItems pI rfl ?_)))
  show wpAny _ _ (Builtin.SmallTypes.ownedTupleIsFree (.ref z) >>= _) _ _ ⟨h0, gg, dd, t0, oo⟩
  unfold Builtin.SmallTypes.ownedTupleIsFree
  refine wpAny_bind (wpAny_bind (wpAny_field isZ rfl (x := Value.none) rfl (wpAny_pure ?_)))
  simp only [if_true]
  refine wpAny_bind (wpAny_rule (wpAny_bind (wpAny_field isZ rfl (x := Value.ref TO) rfl (wpAny_bind (wpAny_setField_rec isZ (by simp) fun q1 Z1 m1 => ?_)))))
  have Z1 : IsZip q1 z TI TO .ellipsis := Z1
  have m1 : Heap.SameBut z h0 q1 := m1
  simp only [List.zipIdx_cons, List.zipIdx_nil, List.forIn_cons, List.forIn_nil]
  refine wpAny_bind (wpAny_bind (wpAny_bind (wpAny_onRaise ?_)))
  show wpAny _ _ (Builtin.SmallTypes.nextOf (.ref i1) >>= _) _ _ ⟨q1, gg, dd, t0, oo⟩
  have e1 : ∀ c o, c ≠ z -> h0.get? c = some o -> q1.get? c = some o := fun c o n u => m1.extBut c o n u
  refine wpAny_bind (W1.item _ _ _ k x _ (W1.stay k _ _ p1 fun c o hc u => e1 c o (by rcases hc with rfl | rfl; exact D.i1z; exact D.l1z) u) hx fun q2 p1' m2 => wpAny_pure ?_)
  have m2 : Heap.SameBut i1 q1 q2 := m2
  have e2 : ∀ c o, c ≠ z -> c ≠ i1 -> h0.get? c = some o -> q2.get? c = some o := fun c o n n' u => m2.extBut c o n' (e1 c o n u)
  have O2 : IsPair q2 TO a b := e2 _ _ D.TOz D.TOi1 pO
  refine wpAny_bind (wpAny_seqItems O2 rfl (wpAny_bind (wpAny_updateSeq_pair O2 fun q3 O3 m3 => wpAny_bind (wpAny_letGo (wpAny_pure ?_)))))
  have O3 : IsPair q3 TO x b := O3
  have m3 : Heap.SameBut TO q2 q3 := m3
  have e3 : ∀ c o, c ≠ z -> c ≠ i1 -> c ≠ TO -> h0.get? c = some o -> q3.get? c = some o := fun c o n n' n'' u => m3.extBut c o n'' (e2 c o n n' u)
  refine wpAny_bind (wpAny_bind (wpAny_onRaise ?_))
  show wpAny _ _ (Builtin.SmallTypes.nextOf (.ref i2) >>= _) _ _ ⟨q3, gg, dd, t0, oo⟩
  refine wpAny_bind (W2.item _ _ _ k y _ (W2.stay k _ _ p2 fun c o hc u => by
    rcases hc with rfl | rfl
    . exact e3 c o D.i2z D.i12.symm D.TOi2.symm u
    . exact e3 c o D.l2z D.l2i1 D.l2TO u) hy fun q4 p2' m4 => wpAny_pure ?_)
  have m4 : Heap.SameBut i2 q3 q4 := m4
  have O4 : IsPair q4 TO x b := m4.extBut _ _ D.TOi2 O3
  refine wpAny_bind (wpAny_seqItems O4 rfl (wpAny_bind (wpAny_updateSeq_pair O4 fun q5 O5 m5 => wpAny_bind (wpAny_letGo (wpAny_pure (wpAny_pure ?_))))))
  have O5 : IsPair q5 TO x y := O5
  have m5 : Heap.SameBut TO q4 q5 := m5
  refine wpAny_bind (wpAny_seqItems O5 rfl (wpAny_bind (wpAny_newTuple ?_)))
  have sz : q5.objs.size = h0.objs.size := by rw [m5.1, m4.1, m3.1, m2.1, m1.1]
  have e5 : ∀ c o, c ≠ z -> c ≠ i1 -> c ≠ TO -> c ≠ i2 -> h0.get? c = some o -> q5.get? c = some o := fun c o n n' n'' n3 u => m5.extBut c o n'' (m4.extBut c o n3 (e3 c o n n' n'' u))
  have Z5 : IsZip q5 z TI TO .ellipsis := m5.extBut _ _ D.TOz.symm (m4.extBut _ _ D.i2z.symm (m3.extBut _ _ D.TOz.symm (m2.extBut _ _ D.i1z.symm Z1)))
  have r1 : P1 (k + 1) q5 := W1.stay _ _ _ p1' fun c o hc u => by
    rcases hc with rfl | rfl
    . exact m5.extBut c o D.TOi1.symm (m4.extBut c o D.i12 (m3.extBut c o D.TOi1.symm u))
    . exact m5.extBut c o D.l1TO (m4.extBut c o D.l1i2 (m3.extBut c o D.l1TO u))
  have r2 : P2 (k + 1) q5 := W2.stay _ _ _ p2' fun c o hc u => by
    rcases hc with rfl | rfl
    . exact m5.extBut c o D.TOi2.symm u
    . exact m5.extBut c o D.l2TO u
  have I5 : IsPair q5 TI (.ref i1) (.ref i2) := e5 _ _ D.TIz D.TIi1 D.TITO D.TIi2 pI
  have zl : z < q5.objs.size := Heap.lt_size Z5
  show wpAny _ _ (Builtin.SmallTypes.ownedTupleHandOut (.ref z) (.ref q5.objs.size) >>= _) _ _ ⟨q5.push { cls := .type "tuple", data := .seq #[x, y] }, gg, dd, t0, oo⟩
  unfold Builtin.SmallTypes.ownedTupleHandOut
  have Z6 : IsZip (q5.push { cls := .type "tuple", data := .seq #[x, y] }) z TI TO .ellipsis := Heap.get?_push_of_some _ Z5
  refine wpAny_bind (wpAny_bind (wpAny_setField_rec Z6 (by simp) fun q7 Z7 m7 => ?_))
  have Z7 : IsZip q7 z TI TO (rawInt q5.objs.size) := Z7
  refine wpAny_setField_rec Z7 (by simp) fun q8 Z8 m8 => ?_
  have Z8 : IsZip q8 z TI TO (rawInt q5.objs.size) := Z8
  have far : ∀ c o, c ≠ z -> q5.get? c = some o -> q8.get? c = some o := fun c o n u => m8.extBut _ _ n (m7.extBut _ _ n (Heap.get?_push_of_some _ u))
  have T8 : IsPair q8 q5.objs.size x y := m8.extBut _ _ (Nat.ne_of_gt zl) (m7.extBut _ _ (Nat.ne_of_gt zl) (Heap.get?_push_size _ rfl))
  refine wpAny_pure ⟨_, rfl, ?_⟩
  show Q (.ref q5.objs.size) _
  rw [sz] at Z8 T8 ⊢
  refine go q8 (fun h2 Zn mn => ⟨D, Zn, mn.extBut _ _ D.TIz (far _ _ D.TIz I5), ⟨x, y, mn.extBut _ _ D.TOz (far _ _ D.TOz O5)⟩, W1.stay _ _ _ r1 fun c o hc u => ?_, W2.stay _ _ _ r2 fun c o hc u => ?_⟩) Z8 T8 fun c o hc u => ?_
  . have n : c ≠ z := by rcases hc with rfl | rfl; exact D.i1z; exact D.l1z
    exact mn.extBut c o n (far c o n u)
  . have n : c ≠ z := by rcases hc with rfl | rfl; exact D.i2z; exact D.l2z
    exact mn.extBut c o n (far c o n u)
  . have c1 : c ≠ z := fun q => hc (by simp [q])
    have c2 : c ≠ TO := fun q => hc (by simp [q])
    have c3 : c ≠ i1 := fun q => hc (by simp [q])
    have c4 : c ≠ i2 := fun q => hc (by simp [q])
    exact far c o c1 (e5 c o c1 c3 c2 c4 u)
theorem Zs.done {k : Nat} {Q : Fin -> Shared -> Prop} (hh : A.handled = none) (W1 : Wk prog w i1 l1 P1 g1) (W2 : Wk prog w i2 l2 P2 g2) (S : Zs z TI TO i1 i2 l1 l2 P1 P2 k s.heap) (hxy : g1 k = none \/ g2 k = none)
    (go : ∀ h1 e, (∀ c o, c ∉ [z, TO, i1, i2] -> s.heap.get? c = some o -> h1.get? c = some o) -> (∃ o, h1.get? e = some o /\ o.cls = .type "StopIteration") -> E (.ref e) { s with heap := h1 }) :
    wpAny (model prog w) A (Builtin.«zip.__next__» ⟨[.ref z], []⟩) Q E s := by
  obtain ⟨D, isZ, pI, ⟨a, b, pO⟩, p1, p2⟩ := S
  obtain ⟨h0, gg, dd, t0, oo⟩ := s
  show wpAny _ _ (field (.ref z) 2 >>= _) _ _ ⟨h0, gg, dd, t0, oo⟩
  refine wpAny_bind (wpAny_field isZ rfl (x := Value.bool false) rfl ?_)
  show wpAny _ _ (field (.ref z) 3 >>= _) _ _ ⟨h0, gg, dd, t0, oo⟩
  refine wpAny_bind (wpAny_field isZ rfl (x := Value.ref TI) rfl (wpAny_bind (wpAny_seqItems pI rfl ?_)))
  show wpAny _ _ (Builtin.SmallTypes.ownedTupleIsFree (.ref z) >>= _) _ _ ⟨h0, gg, dd, t0, oo⟩
  unfold Builtin.SmallTypes.ownedTupleIsFree
  refine wpAny_bind (wpAny_bind (wpAny_field isZ rfl (x := Value.none) rfl (wpAny_pure ?_)))
  simp only [if_true]
  refine wpAny_bind (wpAny_rule (wpAny_bind (wpAny_field isZ rfl (x := Value.ref TO) rfl (wpAny_bind (wpAny_setField_rec isZ (by simp) fun q1 Z1 m1 => ?_)))))
  have Z1 : IsZip q1 z TI TO .ellipsis := Z1
  have m1 : Heap.SameBut z h0 q1 := m1
  simp only [List.zipIdx_cons, List.zipIdx_nil, List.forIn_cons, List.forIn_nil]
  refine wpAny_bind (wpAny_bind (wpAny_bind (wpAny_onRaise ?_)))
  show wpAny _ _ (Builtin.SmallTypes.nextOf (.ref i1) >>= _) _ _ ⟨q1, gg, dd, t0, oo⟩
  have e1 : ∀ c o, c ≠ z -> h0.get? c = some o -> q1.get? c = some o := fun c o n u => m1.extBut c o n u
  have p1 : P1 k q1 := W1.stay k _ _ p1 fun c o hc u => e1 c o (by rcases hc with rfl | rfl; exact D.i1z; exact D.l1z) u
  have nin : ∀ c, c ∉ [z, TO, i1, i2] -> c ≠ z /\ c ≠ TO /\ c ≠ i1 /\ c ≠ i2 := fun c hc => ⟨fun q => hc (by simp [q]), fun q => hc (by simp [q]), fun q => hc (by simp [q]), fun q => hc (by simp [q])⟩
  have last : ∀ (q2 : Heap) (ex : Addr) (oe : Obj), IsZip q2 z TI TO .ellipsis -> (∀ c o, c ∉ [z, TO, i1, i2] -> h0.get? c = some o -> q2.get? c = some o) -> q2.get? ex = some oe -> oe.cls = .type "StopIteration" ->
      wpAny (model prog w) A (setField (.ref z) 0 .none) (fun _ s' => E (.ref ex) s') E ⟨q2, gg, dd, t0, oo⟩ := fun q2 ex oe Z2 k2 ho hc => by
    have hez : ex ≠ z := fun u => by subst u; rw [Z2] at ho; cases ho; simp at hc
    refine wpAny_setField_rec Z2 (by simp) fun q3 _ m3 => go q3 ex (fun c o hc u => ?_) ⟨oe, m3.extBut _ _ hez ho, hc⟩
    exact m3.extBut c o (nin c hc).1 (k2 c o hc u)
  cases hx : g1 k with
  | none =>
    refine wpAny_bind (W1.done _ _ _ k _ hh p1 hx fun q2 ex m2 he => ?_)
    obtain ⟨oe, ho, hc⟩ := he
    have m2 : Heap.ExtBut i1 q1 q2 := m2
    exact last q2 ex oe (m2 _ _ D.i1z.symm Z1) (fun c o hc u => m2 c o (nin c hc).2.2.1 (e1 c o (nin c hc).1 u)) ho hc
  | some x =>
    have hy : g2 k = none := hxy.resolve_left (by rw [hx]; exact fun q => nomatch q)
    refine wpAny_bind (W1.item _ _ _ k x _ p1 hx fun q2 p1' m2 => wpAny_pure ?_)
    have m2 : Heap.SameBut i1 q1 q2 := m2
    have e2 : ∀ c o, c ≠ z -> c ≠ i1 -> h0.get? c = some o -> q2.get? c = some o := fun c o n n' u => m2.extBut c o n' (e1 c o n u)
    have O2 : IsPair q2 TO a b := e2 _ _ D.TOz D.TOi1 pO
    refine wpAny_bind (wpAny_seqItems O2 rfl (wpAny_bind (wpAny_updateSeq_pair O2 fun q3 O3 m3 => wpAny_bind (wpAny_letGo (wpAny_pure ?_)))))
    have m3 : Heap.SameBut TO q2 q3 := m3
    have e3 : ∀ c o, c ≠ z -> c ≠ i1 -> c ≠ TO -> h0.get? c = some o -> q3.get? c = some o := fun c o n n' n'' u => m3.extBut c o n'' (e2 c o n n' u)
    refine wpAny_bind (wpAny_bind (wpAny_onRaise ?_))
    show wpAny _ _ (Builtin.SmallTypes.nextOf (.ref i2) >>= _) _ _ ⟨q3, gg, dd, t0, oo⟩
    refine wpAny_bind (W2.done _ _ _ k _ hh (W2.stay k _ _ p2 fun c o hc u => by
      rcases hc with rfl | rfl
      . exact e3 c o D.i2z D.i12.symm D.TOi2.symm u
      . exact e3 c o D.l2z D.l2i1 D.l2TO u) hy fun q4 ex m4 he => ?_)
    obtain ⟨oe, ho, hc⟩ := he
    have m4 : Heap.ExtBut i2 q3 q4 := m4
    exact last q4 ex oe (m4 _ _ D.i2z.symm (m3.extBut _ _ D.TOz.symm (m2.extBut _ _ D.i1z.symm Z1))) (fun c o hc u => m4 c o (nin c hc).2.2.2 (e3 c o (nin c hc).1 (nin c hc).2.2.1 (nin c hc).2.1 u)) ho hc
theorem Zs.pyItem {k : Nat} {Q : Option Value -> Shared -> Prop} (W1 : Wk prog w i1 l1 P1 g1) (W2 : Wk prog w i2 l2 P2 g2) (S : Zs z TI TO i1 i2 l1 l2 P1 P2 k s.heap) (hx : g1 k = some x) (hy : g2 k = some y)
    (go : ∀ h1, (∀ h2, IsZip h2 z TI TO .none -> Heap.SameBut z h1 h2 -> Zs z TI TO i1 i2 l1 l2 P1 P2 (k + 1) h2) -> IsZip h1 z TI TO (rawInt s.heap.objs.size) -> IsPair h1 s.heap.objs.size x y -> (∀ c o, c ∉ [z, TO, i1, i2] -> s.heap.get? c = some o -> h1.get? c = some o) -> Q (some (.ref s.heap.objs.size)) { s with heap := h1 }) :
    wpAny (model prog w) A (pyNext (.ref z)) Q E s := by
  have ty : s.TypeIs (.ref z) "zip" := ⟨_, S.rd, rfl⟩
  unfold pyNext
  exact wpAny_bind (wpAny_attempt (wpAny_callSpecial?_slot (name := Str.ofString "__next__") ty F.slot_zip_next (wpAny_call_entry F.slot_zip_next ty F.entry_zip_next (S.item W1 W2 hx hy fun h1 a b c d => wpAny_pure (go h1 a b c d)) (F.args_zip_next_1 _))))
theorem Zs.pyDone {k : Nat} {Q : Option Value -> Shared -> Prop} (hh : A.handled = none) (W1 : Wk prog w i1 l1 P1 g1) (W2 : Wk prog w i2 l2 P2 g2) (S : Zs z TI TO i1 i2 l1 l2 P1 P2 k s.heap) (hxy : g1 k = none \/ g2 k = none)
    (go : ∀ h1, (∀ c o, c ∉ [z, TO, i1, i2] -> s.heap.get? c = some o -> h1.get? c = some o) -> Q none { s with heap := h1 }) : wpAny (model prog w) A (pyNext (.ref z)) Q E s := by
  have ty : s.TypeIs (.ref z) "zip" := ⟨_, S.rd, rfl⟩
  unfold pyNext
  refine wpAny_bind (wpAny_attempt (wpAny_callSpecial?_slot (name := Str.ofString "__next__") ty F.slot_zip_next (wpAny_call_entry F.slot_zip_next ty F.entry_zip_next (S.done hh W1 W2 hxy fun h1 e kk he => ?_) (F.args_zip_next_1 _))))
  obtain ⟨oe, ho, hc⟩ := he
  exact wpAny_bind (wpAny_isInstance (T := "StopIteration") (b := true) ⟨oe, ho, hc⟩ isSubtype_stop (wpAny_pure (go h1 kk)))
end
abbrev wz (h : Heap) (a : Addr) : Heap := h.push { cls := .type "tuple_iterator", data := .fields #[.ref a, .int 0 0] }
abbrev wy (h : Heap) (a b : Addr) : Heap := (wz h a).push { cls := .type "tuple_iterator", data := .fields #[.ref b, .int 0 0] }
abbrev wx (h : Heap) (a b : Addr) : Heap := (wy h a b).push { cls := .type "tuple", data := .seq #[.ref h.objs.size, .ref (wz h a).objs.size] }
abbrev ww (h : Heap) (a b : Addr) : Heap := (wx h a b).push { cls := .type "tuple", data := .seq #[.none, .none] }
abbrev nS (h : Heap) (a b : Addr) : Heap := (ww h a b).push { cls := .type "zip", data := .fields #[.none, .bool false, .bool false, .ref (wy h a b).objs.size, .ref (wx h a b).objs.size] }
theorem zN (a b : Addr) (xs ys : Array Value) :
    Meets (Builtin.«zip.__new__» ⟨[.type "zip", .ref a, .ref b], []⟩) (fun _ R s => s.heap.IsTuple a xs /\ s.heap.IsTuple b ys /\ R (.ok (.ret (.ref (ww s.heap a b).objs.size))) { s with heap := nS s.heap a b }) :=
  .of_wp fun pg wd AA RR st hh => by
    obtain ⟨hp0, gg, dd, tk0, oo⟩ := st; obtain ⟨ha, hb, hh⟩ := hh
    have hsub0 := sub_zip
    have T1 : Heap.IsTuple (Shared.heap ⟨hp0, gg, dd, tk0, oo⟩) a xs := ha
    have T2 : Heap.IsTuple (Shared.heap ⟨hp0.push { cls := .type "tuple_iterator", data := .fields #[.ref a, .int 0 0] }, gg, dd, tk0, oo⟩) b ys := hb.at fun o e => Heap.get?_push_of_some _ e
    wp_walk using wpAny_pyIter_tuple T1, wpAny_pyIter_tuple T2
    exact ⟨_, rfl, hh⟩
theorem xN {prog : Program} {w : World} {A : Around} {E : Value -> Shared -> Prop} {s : Shared} {a b : Addr} {xs ys : Array Value} {Q : Value -> Shared -> Prop} (ha : s.heap.IsTuple a xs) (hb : s.heap.IsTuple b ys)
    (go : ∀ h1, Zs (s.heap.objs.size + 4) (s.heap.objs.size + 2) (s.heap.objs.size + 3) s.heap.objs.size (s.heap.objs.size + 1) a b (fun k h => h.IsTupleIter s.heap.objs.size a k /\ h.IsTuple a xs) (fun k h => h.IsTupleIter (s.heap.objs.size + 1) b k /\ h.IsTuple b ys) 0 h1 -> (∀ c o, s.heap.get? c = some o -> h1.get? c = some o) -> Q (.ref (s.heap.objs.size + 4)) { s with heap := h1 }) :
    wpAny (model prog w) A (call (.type "zip") [.ref a, .ref b]) Q E s := by
  refine callType_new F.called_zip (by decide) (F.typeCall_zip_2 _ _) (F.newCall_zip_2 _ _) (fun ob => F.args_object_init_3 ob _ _) F.entry_zip_new (zN a b xs ys) ⟨ha, hb, ?_⟩
  have s1 : (wz s.heap a).objs.size = s.heap.objs.size + 1 := Heap.size_push ..
  have s2 : (wy s.heap a b).objs.size = s.heap.objs.size + 2 := by rw [Heap.size_push, s1]
  have s3 : (wx s.heap a b).objs.size = s.heap.objs.size + 3 := by rw [Heap.size_push, s2]
  have s4 : (ww s.heap a b).objs.size = s.heap.objs.size + 4 := by rw [Heap.size_push, s3]
  have r5 : (nS s.heap a b).get? (ww s.heap a b).objs.size = some _ := Heap.get?_push_size _ rfl
  have r4 : (nS s.heap a b).get? (wx s.heap a b).objs.size = some _ := Heap.get?_push_of_some _ (Heap.get?_push_size _ rfl)
  have r3 : (nS s.heap a b).get? (wy s.heap a b).objs.size = some _ := Heap.get?_push_of_some _ (Heap.get?_push_of_some _ (Heap.get?_push_size _ rfl))
  have r2 : (nS s.heap a b).get? (wz s.heap a).objs.size = some _ := Heap.get?_push_of_some _ (Heap.get?_push_of_some _ (Heap.get?_push_of_some _ (Heap.get?_push_size _ rfl)))
  have r1 : (nS s.heap a b).get? s.heap.objs.size = some _ := Heap.get?_push_of_some _ (Heap.get?_push_of_some _ (Heap.get?_push_of_some _ (Heap.get?_push_of_some _ (Heap.get?_push_size _ rfl))))
  have up : ∀ c o, s.heap.get? c = some o -> (nS s.heap a b).get? c = some o := fun c o e => Heap.get?_push_of_some _ (Heap.get?_push_of_some _ (Heap.get?_push_of_some _ (Heap.get?_push_of_some _ (Heap.get?_push_of_some _ e))))
  have la : a < s.heap.objs.size := by obtain ⟨_, e, _⟩ := ha; exact Heap.lt_size e
  have lb : b < s.heap.objs.size := by obtain ⟨_, e, _⟩ := hb; exact Heap.lt_size e
  rw [s2, s3, s4] at r5
  rw [s1, s2] at r3
  rw [s3] at r4
  rw [s1] at r2
  show _ /\ _
  rw [s4]
  have ne : ∀ {m n : Nat}, m < n -> m ≠ n := fun h => Nat.ne_of_lt h
  refine ⟨⟨_, r5, rfl⟩, go _ ⟨?_, r5, r3, ⟨_, _, r4⟩, ⟨⟨_, r1, rfl, rfl⟩, ha.at fun o e => up _ _ e⟩, ⟨⟨_, r2, rfl, rfl⟩, hb.at fun o e => up _ _ e⟩⟩ up⟩
  generalize s.heap.objs.size = n at la lb
  have la' : (a : Nat) < n := la
  have lb' : (b : Nat) < n := lb
  constructor <;> first | exact ne (by omega) | exact (ne (by omega)).symm | exact ne (Nat.lt_of_lt_of_le la (by omega)) | exact ne (Nat.lt_of_lt_of_le lb (by omega)) | exact ne la | exact ne lb
end Sp
set_option Elab.async false
set_option linter.all false
set_option maxRecDepth 100000
namespace Sp
open PySem PySem.Spec PyProof.Rows L2
variable {X : Cx}
theorem sx {pins : List (Addr × Obj)} {σ : L2.St} {H : Hp} {s : Shared} {h2 : Heap} {t2 : Nat} {ch : List Addr} (I : am X pins σ H s)
    (k : ∀ b u, b ∉ ch -> s.heap.get? b = some u -> h2.get? b = some u) (hn : ∀ b ∈ ch, fI X pins H b) : am X pins σ H { s with heap := h2, toks := t2 } := by
  have tr : ∀ b u, H b = some u -> b ∉ ch := fun b u e z => by rw [(hn b z).1] at e; cases e
  have un : Un (bX X.stack) ch H H s.heap h2 := ⟨fun b ob e n _ c => k b ob c e, fun b ob e n _ c => ⟨ob.slots, k b ob c e⟩, fun b ob e n c => n, fun b ob e c => ⟨ob, k b ob c e⟩, fun b xs e => e, fun b ob u e => e, fun b ps e => ⟨#[], by rw [e]; simp⟩⟩
  refine I.call (g' := s.gens) (d' := s.drawn) un (fun b u e => ?_) I.bare fun b hb => ⟨(hn b hb).2.2.2.1, (hn b hb).2.1, (hn b hb).2.2.2.2.1, (hn b hb).2.2.2.2.2⟩
  refine (I.hok b u e).stay (fun c v hc q => k c v ?_ q) (fun c q => q) fun c xs q => q
  rcases hc with z | z
  . rw [z]; exact tr b u e
  . exact tr c _ z
def Fj (K : W.Frag) (a b : Addr) : It :=
  ⟨fun i H => ∃ xs ys x y, cz K H a xs /\ xs[i]? = some x /\ cz K H b ys /\ ys[i]? = some y, fun i H x H' => ∃ p u v, x = .ref p /\ H p = none /\ H' = be H p (.tup [u, v]) /\ (∀ xs, cz K H a xs -> xs[i]? = some u) /\ ∀ ys, cz K H b ys -> ys[i]? = some v, fun i H => ∃ xs ys, cz K H a xs /\ cz K H b ys /\ (xs.length <= i \/ ys.length <= i)⟩
theorem uZ {P : Program} {w : World} {K : W.Frag} {es : List Expr} {n1 : Nat} {pos : Pos} (a b z TI TO i1 i2 : Addr) (D : ZipApart z TI TO i1 i2 a b) :
    L2.Turn P w K (.Tuple es n1 pos) (Fj K a b) [z, TI, TO, i1, i2] z (fun i h => IsZip h z TI TO .none /\ IsPair h TI (.ref i1) (.ref i2) /\ (∃ u v, IsPair h TO u v) /\ h.IsTupleIter i1 a i /\ h.IsTupleIter i2 b i) where
  mem := by simp
  obj := fun i h st c hc => by
    obtain ⟨q1, q2, ⟨u, v, q3⟩, ⟨o4, q4, c4, d4⟩, ⟨o5, q5, c5, d5⟩⟩ := st
    simp only [List.mem_cons, List.not_mem_nil, or_false] at hc
    rcases hc with rfl | rfl | rfl | rfl | rfl
    . exact ⟨_, q1, fun v e => by have e' : Data.fields _ = Data.cell v := e; cases e'⟩
    . exact ⟨_, q2, fun v e => by have e' : Data.seq _ _ = Data.cell v := e; cases e'⟩
    . exact ⟨_, q3, fun v e => by have e' : Data.seq _ _ = Data.cell v := e; cases e'⟩
    . exact ⟨_, q4, fun v e => by rw [d4] at e; cases e⟩
    . exact ⟨_, q5, fun v e => by rw [d5] at e; cases e⟩
  keep := fun i h h' ⟨q1, q2, ⟨u, v, q3⟩, q4, q5⟩ k => ⟨k _ (by simp) _ q1, k _ (by simp) _ q2, ⟨u, v, k _ (by simp) _ q3⟩, q4.at fun o e => k _ (by simp) o e, q5.at fun o e => k _ (by simp) o e⟩
  item := by
    intro Y hP hw hK hc i pins s σ H E I hf st hg
    subst hP hw hK
    obtain ⟨xs, ys, x, y, hq, hx, hr, hy⟩ := hg
    obtain ⟨its, rv, p1, hz⟩ := I.tuple hq
    obtain ⟨jts, rw', p2, hz'⟩ := I.tuple hr
    obtain ⟨u, hu, ru⟩ := rv.get hx
    obtain ⟨v, hv, rv'⟩ := rw'.get hy
    obtain ⟨q1, q2, q3, q4, q5⟩ := st
    have zlt : z < s.heap.objs.size := Heap.lt_size q1
    refine Zs.pyItem (kI (i := i1) (l := a) (xs := its.toArray) D.l1i1) (kI (i := i2) (l := b) (xs := jts.toArray) D.l2i2) ⟨D, q1, q2, q3, ⟨q4, p1⟩, ⟨q5, p2⟩⟩ (x := u) (y := v) (by simpa using hu) (by simpa using hv) fun h1 i6 zo t1 k1 => ?_
    refine ⟨_, rfl, wpAny_letOwnedTupleGo_zip zo fun h2 z2 m2 => ?_⟩
    have m2 : Heap.SameBut z h1 h2 := m2
    have N := i6 h2 z2 m2
    have k2 : ∀ c o, c ∉ [z, TI, TO, i1, i2] -> s.heap.get? c = some o -> h2.get? c = some o := fun c o nc q => by
      have n1 : c ≠ z := fun e => nc (by simp [e])
      refine m2.extBut c o n1 (k1 c o (fun e => nc ?_) q)
      simp only [List.mem_cons, List.not_mem_nil, or_false] at e ⊢
      rcases e with e | e | e | e <;> simp [e]
    have t2 : h2.get? s.heap.objs.size = some { cls := .type "tuple", data := .seq #[u, v] } := m2.extBut _ _ (Nat.ne_of_gt zlt) t1
    have hn0 : H s.heap.objs.size = none := I.hok.fresh (Nat.le_refl _)
    refine ⟨.ref s.heap.objs.size, be H s.heap.objs.size (.tup [x, y]), ul (s := s) (h2 := h2) (t2 := s.toks) I k2 (Nat.le_refl _) hf ?_, rfl, ⟨_, x, y, rfl, hn0, rfl, fun ws hw => by rw [I.tuple_inj hw hq]; exact hx, fun ws hw => by rw [I.tuple_inj hw hr]; exact hy⟩, ⟨N.rd, N.ins, N.out, N.fst.1, N.snd.1⟩, fun c hc => ?_⟩
    . exact ⟨by show 2 <= sizeLine; decide, [u, v], .cons ru (.cons rv' .nil), ⟨_, t2, rfl, _, rfl⟩⟩
    . have hb' := hf c hc
      have lt : c < s.heap.objs.size := by
        obtain ⟨u', v', q3⟩ := q3
        obtain ⟨o4, q4, _⟩ := q4
        obtain ⟨o5, q5, _⟩ := q5
        simp only [List.mem_cons, List.not_mem_nil, or_false] at hc
        rcases hc with rfl | rfl | rfl | rfl | rfl
        . exact zlt
        . exact Heap.lt_size q2
        . exact Heap.lt_size q3
        . exact Heap.lt_size q4
        . exact Heap.lt_size q5
      rw [aG (Nat.ne_of_lt lt)]; exact hb'.1
  done := by
    intro Y hP hw hK hc i pins s σ H E I hf st hg
    subst hP hw hK
    obtain ⟨xs, ys, hq, hr, hl⟩ := hg
    obtain ⟨its, rv, p1, hz⟩ := I.tuple hq
    obtain ⟨jts, rw', p2, hz'⟩ := I.tuple hr
    obtain ⟨q1, q2, q3, q4, q5⟩ := st
    have l1 := rv.length
    have l2 := rw'.length
    refine Zs.pyDone (I.ok.hd hc) (kI (i := i1) (l := a) (xs := its.toArray) D.l1i1) (kI (i := i2) (l := b) (xs := jts.toArray) D.l2i2) ⟨D, q1, q2, q3, ⟨q4, p1⟩, ⟨q5, p2⟩⟩ ?_ fun h1 k1 => ⟨rfl, sx (s := s) (t2 := s.toks) (ch := [z, TI, TO, i1, i2]) I (fun c o nc q => k1 c o (fun e => nc ?_) q) hf⟩
    . rcases hl with hl | hl
      . exact .inl (by simp; omega)
      . exact .inr (by simp; omega)
    . simp only [List.mem_cons, List.not_mem_nil, or_false] at e ⊢
      rcases e with e | e | e | e <;> simp [e]
  self := fun _ _ _ _ _ st h => wpAny_pyIter_zip st.1 h
theorem BC {ρ : al} {es : List Expr} {n1 : Nat} {tp p pos : Pos} {a b : Expr} {l m : List D} {k : Nat} (hg : Gl X "zip") (hm0 : X.mg "zip" = none) (ha : AD X ρ [a, b] [.tup l, .tup m] k) (hst : ∀ e ∈ [a, b], ∀ y p, e ≠ .Starred y p) (hf : aA l = true) (hm : aA m = true) :
    IE X ρ (.Tuple es n1 tp) (.Call (.Name "zip" p) [a, b] [] pos) (List.zipWith (fun x y => .tup [x, y]) l m) 0 := by
  intro ow pins s σ H R I ⟨E, q⟩
  have n1' := aO (env := X.env) (es := [b]) (hst a (by simp))
  have n2' : (backTo pos (starEach [b] X.env)).any (·.1) = false := bP fun x hx => hst x (by simp at hx; simp [hx])
  refine Call_ (iu I hg hm0 (show bootBuiltins "zip" = some (.type "zip") by decide +kernel) (PyProof.Rows.callWith_type1 (aL (ha ow pos pins s σ H (fun vs H1 => az H H1 /\ ao X.K H1 (Kp ow H k) [.tup l, .tup m] vs) I ⟨E, fun vs H1 s1 r1 => ⟨s1, r1⟩⟩) fun us s1 ⟨vs, H1, I1, rv, sm, rp⟩ => ?_) n1' n2') (by decide +kernel) (by decide +kernel))
  rw [ao] at rp
  obtain ⟨v1, vr, rfl, rp1, rp2⟩ := rp
  obtain ⟨v2, rfl, rp3⟩ := rp2.only
  obtain ⟨ta, xs, rfl, hq, rl⟩ := eD rp1
  obtain ⟨tb, ys, rfl, hr, rm⟩ := eD rp3
  obtain ⟨u1, u2, rfl, ru1, ru2⟩ := kK rv
  cases (show u1 = Value.ref ta from ru1)
  cases (show u2 = Value.ref tb from ru2)
  obtain ⟨its, rvs, pt, hz⟩ := I1.tuple hq
  obtain ⟨jts, rvs', pt', hz'⟩ := I1.tuple hr
  refine xN (show s1.heap.IsTuple ta its.toArray from pt) (show s1.heap.IsTuple tb jts.toArray from pt') fun h2 Z k2 => ?_
  refine wpAny_pyIter_zip Z.rd ?_
  have I2 : am X pins σ H1 { s1 with heap := h2 } := I1.kept (t' := s1.toks) k2
  have fr : ∀ j, fI X pins H1 (s1.heap.objs.size + j) := fun j => I1.fpOk (Nat.le_add_right _ _) (I1.hok.fresh (Nat.le_add_right _ _))
  refine ⟨s1.heap.objs.size + 4, [s1.heap.objs.size + 4, s1.heap.objs.size + 2, s1.heap.objs.size + 3, s1.heap.objs.size, s1.heap.objs.size + 1], _, _, H1, rfl, I2, uZ ta tb _ _ _ _ _ Z.ap, ⟨Z.rd, Z.ins, Z.out, Z.fst.1, Z.snd.1⟩, fun c hc => ?_, q _ H1 sm ?_⟩
  . simp only [List.mem_cons, List.not_mem_nil, or_false] at hc
    rcases hc with rfl | rfl | rfl | rfl | rfl
    . exact fr 4
    . exact fr 2
    . exact fr 3
    . exact fr 0
    . exact fr 1
  . intro i H2 st
    have rl' : ao X.K H1 (Kd ow H 0 H1) l xs := rl.flat _ hf
    have rm' : ao X.K H1 (Kd ow H 0 H1) m ys := rm.flat _ hm
    refine ⟨fun d hd => ?_, fun hle => ?_⟩
    . rw [List.getElem?_zipWith] at hd
      cases e : l[i]? with
      | none => rw [e] at hd; cases hd
      | some x =>
        cases e' : m[i]? with
        | none => rw [e, e'] at hd; cases hd
        | some y =>
          rw [e, e'] at hd; cases hd
          obtain ⟨u, hu, ru⟩ := rl'.get e
          obtain ⟨v, hv, rv⟩ := rm'.get e'
          refine ⟨⟨xs, ys, u, v, st.sq hq, hu, st.sq hr, hv⟩, fun x' H3 ⟨p', u', v', e1, e2, e3, e4, e5⟩ => ?_⟩
          have c1 := e4 xs (st.sq hq)
          have c2 := e5 ys (st.sq hr)
          rw [hu] at c1; cases c1
          rw [hv] at c2; cases c2
          subst e1 e3
          have sm3 := dk (o := HO.tup [u, v]) e2
          refine ⟨sm3, ?_⟩
          rw [ak]
          exact ⟨p', _, rfl, cz.of aS, ao.cons ((ru.mono st).same sm3) (ao.one ((rv.mono st).same sm3))⟩
    . rw [List.length_zipWith] at hle
      have l1 := rl.length
      have l2 := rm.length
      exact ⟨xs, ys, st.sq hq, st.sq hr, by omega⟩
end Sp
set_option Elab.async false
set_option linter.all false
set_option maxRecDepth 100000
namespace Sp
open PySem PySem.Spec PyProof.Rows L2
variable {X : Cx}
theorem vM : lT "zip" sy := by
  refine ⟨by decide +kernel, fun X ρ p pos args ds k d j l tg o hc hg hm ha hst hlen h hp hl ht => ?_⟩
  have ht2 : iw tg = true := by simpa [fy] using ht
  obtain ⟨es, n1, tp, rfl⟩ := uh ht2
  unfold sy at h
  split at h
  . cases h
    cases hl
    match args, hlen, ha, hst with
    | [a', b'], _, ha, hst => exact BC hg hm ha hst hp.1 hp.2.1
  . cases h
end Sp
set_option Elab.async false
set_option linter.all false
set_option maxRecDepth 100000
namespace Sp
open PySem PySem.Spec PyProof.Rows L2
open AutoSeq1 (wpAny_loadPart')
variable {X : Cx}
section
variable {prog : Program} {w : World} {A : Around} {E : Value -> Shared -> Prop} {s : Shared}
end
end Sp
set_option Elab.async false
set_option linter.all false
set_option maxRecDepth 100000
namespace Sp
open PySem PySem.Spec PyProof.Rows L2
open PySem.W (KasT kas_sort kas_ask KatLex KatTups kat_sorted kat_kind kat_lt kat_cons kat_nil kat_go kat_yes kat_no kat_one KasFin)
section
variable {prog : Program} {w : World} {A : Around} {E : Value -> Shared -> Prop} {s : Shared}
end
variable {X : Cx}
end Sp
set_option Elab.async false
set_option linter.all false
set_option maxRecDepth 100000
namespace Sp
open PySem PySem.Spec PyProof.Rows L2
theorem cK {α : Type} {r : Rs α} {a : α} {l : List Prop} (h : r = .ok a l) (hp : aF l) : af r a := ⟨l, h, hp⟩
theorem af.eq {α : Type} {r : Rs α} {a b : α} (h : af r a) (e : a = b) : af r b := e ▸ h
theorem af.bnd {α β : Type} {r : Rs α} {f : α -> Rs β} {a : α} {b : β} (h1 : af r a) (h2 : af (f a) b) : af (r.bnd f) b := by
  obtain ⟨l, rfl, p1⟩ := h1
  obtain ⟨m, h2, p2⟩ := h2
  refine ⟨l ++ m, ?_, dm.mpr ⟨p1, p2⟩⟩
  show (match f a with | .st => (.st : Rs β) | .ok b m => Rs.ok b (l ++ m)) = _
  rw [h2]
theorem af.inj {α : Type} {r : Rs α} {a b : α} (h : af r a) (g : af r b) : a = b := by
  obtain ⟨l, h, _⟩ := h; obtain ⟨m, g, _⟩ := g; rw [h] at g; cases g; rfl
section
variable {Φ : Fx} {sc : Scope} {ρ ρ' : al} {fl : Fl} {ss : List Stmt}
theorem b5 {ps : List Str} {body : List Stmt} {ds : List D} {d : D} (h : af (aE Φ body sc (cV ps ds)) (.rt d)) (hl : ds.length = ps.length := by rfl) : af (bN Φ sc ps body ds) d := by
  unfold bN; rw [if_pos hl]; exact h.bnd ⟨[], rfl, True.intro⟩
theorem kO : af (aE Φ [] sc ρ) (.nx ρ) := ⟨[], rfl, True.intro⟩
theorem bt {s : Stmt} (h : af (eN Φ s sc ρ) (.nx ρ')) (h2 : af (aE Φ ss sc ρ') fl) : af (aE Φ (s :: ss) sc ρ) fl := af.bnd h h2
theorem jf {s : Stmt} (h : af (eN Φ s sc ρ) fl) (hf : ∀ ρ, fl ≠ .nx ρ) : af (aE Φ (s :: ss) sc ρ) fl := af.bnd h (by
  cases fl with
  | nx ρ => exact absurd rfl (hf ρ)
  | rt d => exact ⟨[], rfl, True.intro⟩
  | bk ρ => exact ⟨[], rfl, True.intro⟩
  | ct ρ => exact ⟨[], rfl, True.intro⟩)
theorem dU {s : Stmt} {d : D} (h : af (eN Φ s sc ρ) (.rt d)) : af (aE Φ (s :: ss) sc ρ) (.rt d) := jf h fun _ z => by cases z
theorem oh {s : Stmt} (h : af (aE Φ (s :: ss) sc ρ) fl) : (∃ ρ', af (eN Φ s sc ρ) (.nx ρ') /\ af (aE Φ ss sc ρ') fl) \/ ((∀ ρ, fl ≠ .nx ρ) /\ af (eN Φ s sc ρ) fl) := by
  obtain ⟨f, h1, h2⟩ := aw (show af (Rs.bnd _ _) fl from h)
  cases f with
  | nx ρ' => exact .inl ⟨ρ', h1, h2⟩
  | rt d => cases aK h2; exact .inr ⟨fun _ z => (by cases z), h1⟩
  | bk ρ => cases aK h2; exact .inr ⟨fun _ z => (by cases z), h1⟩
  | ct ρ => cases aK h2; exact .inr ⟨fun _ z => (by cases z), h1⟩
theorem uQ : ∀ {a : List Stmt} {ρ : al}, af (aE Φ a sc ρ) (.nx ρ') -> af (aE Φ ss sc ρ') fl -> af (aE Φ (a ++ ss) sc ρ) fl
  | [], ρ, h, h2 => by cases aK h; exact h2
  | s :: a, ρ, h, h2 => by
    rcases oh h with ⟨ρ1, h3, h4⟩ | ⟨h3, _⟩
    . exact bt h3 (uQ h4 h2)
    . exact absurd rfl (h3 _)
theorem mH : ∀ {a : List Stmt} {ρ : al}, af (aE Φ (a ++ ss) sc ρ) fl -> (∃ ρ', af (aE Φ a sc ρ) (.nx ρ') /\ af (aE Φ ss sc ρ') fl) \/ ((∀ ρ, fl ≠ .nx ρ) /\ af (aE Φ a sc ρ) fl)
  | [], ρ, h => .inl ⟨ρ, kO, h⟩
  | s :: a, ρ, h => by
    rcases oh h with ⟨ρ1, h3, h4⟩ | ⟨h3, h4⟩
    . rcases mH h4 with ⟨ρ2, h5, h6⟩ | ⟨h5, h6⟩
      . exact .inl ⟨ρ2, bt h3 h5, h6⟩
      . exact .inr ⟨h5, bt h3 h6⟩
    . exact .inr ⟨h3, jf h4 h3⟩
theorem eB (n : Nat) (h : af (aE Φ (ss.take n) sc ρ) (.nx ρ')) (h2 : af (aE Φ (ss.drop n) sc ρ') fl) : af (aE Φ ss sc ρ) fl := by
  rw [<- List.take_append_drop n ss]; exact uQ h h2
theorem rR {c : Expr} {a b : List Stmt} {p : Pos} {t : Bool} {k : Nat} (hc : af (aC Φ c false sc ρ) (.bl t, k)) (h1 : t = true -> af (aE Φ (a ++ ss) sc ρ) fl) (h2 : t = false -> af (aE Φ (b ++ ss) sc ρ) fl) : af (aE Φ (.If c a b p :: ss) sc ρ) fl := by
  have key : ∀ x, af (cond t (aE Φ a sc ρ) (aE Φ b sc ρ)) x -> af (eN Φ (.If c a b p) sc ρ) x := fun x hx => af.bnd hc hx
  cases t with
  | true =>
    rcases mH (h1 rfl) with ⟨ρ1, h3, h4⟩ | ⟨h3, h4⟩
    . exact bt (key _ h3) h4
    . exact jf (key _ h4) h3
  | false =>
    rcases mH (h2 rfl) with ⟨ρ1, h3, h4⟩ | ⟨h3, h4⟩
    . exact bt (key _ h3) h4
    . exact jf (key _ h4) h3
theorem gz {c : Expr} {a b : List Stmt} {p : Pos} {t : Bool} {k : Nat} (hc : af (aC Φ c false sc ρ) (.bl t, k)) (ht : t = true) (h1 : af (aE Φ (a ++ ss) sc ρ) fl) : af (aE Φ (.If c a b p :: ss) sc ρ) fl := rR hc (fun _ => h1) fun z => by rw [ht] at z; cases z
theorem bq {c : Expr} {a b : List Stmt} {p : Pos} {t : Bool} {k : Nat} (hc : af (aC Φ c false sc ρ) (.bl t, k)) (ht : t = false) (h1 : af (aE Φ (b ++ ss) sc ρ) fl) : af (aE Φ (.If c a b p :: ss) sc ρ) fl := rR hc (fun z => by rw [ht] at z; cases z) fun _ => h1
theorem lu {tg it : Expr} {body : List Stmt} {p : Pos} {d : D} {ds : List D} {k : Nat} (hi : af (aC Φ it true sc (demote it ρ)) (d, k)) (hd : items d = some ds) (hk : k <= 1) (ht : fy it tg = true) (h : af (dl (b8 sc tg) (aE Φ body sc) ds (demote it ρ)) fl) : af (eN Φ (.For tg it body [] p) sc ρ) fl := by
  rw [mv, if_pos (show List.isEmpty ([] : List Stmt) = true from rfl)]
  refine hi.bnd ?_
  dsimp only
  rw [hd]
  dsimp only
  rw [if_pos ⟨hk, ht⟩]
  exact h
theorem pA {c : Expr} {body : List Stmt} {p : Pos} (h : af (jZ (fun ρ => (aC Φ c false sc ρ).bnd fun p => gY p fun b => .ok b []) (aE Φ body sc) cP ρ) fl) : af (eN Φ (.While c body [] p) sc ρ) fl := by
  rw [pE, if_pos (show List.isEmpty ([] : List Stmt) = true from rfl)]; exact h
theorem aV {f : Str} {p q : Pos} {args : List Expr} {it : Bool} {ds : List D} {k : Nat} {F : List D -> Rs D} {v : D} (ha : af (bW Φ args sc ρ) (ds, k)) (hv : af (F ds) v) (hF : Φ.fn f = some F := by rfl) (hg : sc.names.lookup f = some .globalImplicit := by rfl) : af (aC Φ (.Call (.Name f p) args [] q) it sc ρ) (v, 0) := by
  rw [kA, if_pos hg]
  refine ha.bnd ?_
  unfold lE
  rw [hF]
  exact hv.bnd ⟨[], rfl, True.intro⟩
theorem df : af (bW Φ [] sc ρ) ([], 0) := ⟨[], rfl, True.intro⟩
theorem bJ {e : Expr} {es : List Expr} {d : D} {ds : List D} {k j : Nat} (h : af (aC Φ e false sc ρ) (d, k)) (h2 : af (bW Φ es sc ρ) (ds, j)) : af (bW Φ (e :: es) sc ρ) (d :: ds, kj k j) := af.bnd h (af.bnd h2 ⟨[], rfl, True.intro⟩)
theorem mz {elt tg iter : Expr} {ifs : List Expr} {scope : Scope} {p : Pos} {it : Bool} {d : D} {ds out : List D} {k j : Nat} (hi : af (aC Φ iter true sc ρ) (d, k)) (hd : items d = some ds) (hl : ds.length <= cP /\ (aA ds = true \/ k <= 1))
    (h : af (gp (fun d => match b8 scope tg d (flt scope ρ) with
            | none => .st
            | some ρ' => (dN Φ .And ifs scope ρ').bnd fun b => cond b ((aC Φ elt false scope ρ').bnd fun r => .ok (some r) []) (.ok none [])) ds) (out, j)) (hj : j <= 1) (hc : nu sc scope = true := by rfl) (ht : fy iter tg = true := by rfl) : af (aC Φ (.ListComp elt [⟨tg, iter, ifs, 0⟩] scope p) it sc ρ) (.lst out, j) := by
  rw [mC, if_pos hc]
  refine hi.bnd ?_
  dsimp only
  rw [hd]
  dsimp only
  rw [if_pos ht]
  refine af.bnd (a := ()) ⟨_, rfl, hl.1, hl.2, True.intro⟩ ?_
  refine h.bnd ?_
  rw [if_pos hj]
  exact ⟨[], rfl, True.intro⟩
theorem lA {a i : Expr} {p : Pos} {it : Bool} {x d : D} {l : List D} {j : Int} {k k2 : Nat} (ha : af (aC Φ a false sc ρ) (x, k)) (hi : af (aC Φ i false sc ρ) (.int j, k2)) (hx : fK x = some l) (hd : L2.atI l j = some d) : af (aC Φ (.Subscript a i p) it sc ρ) (d, kn d k) := by
  have key : af ((aC Φ a false sc ρ).bnd fun p => (aC Φ i false sc ρ).bnd fun q => iP q fun j => lh p.1 j p.2) (d, kn d k) := by
    refine ha.bnd (hi.bnd ?_)
    show af (lh x j k) _
    unfold lh
    rw [hx]; dsimp only
    rw [hd]; exact ⟨[], rfl, True.intro⟩
  cases i with
  | Slice lo hi st p2 => exact (av hi).elim
  | _ => exact key
theorem bR {e : Expr} {x : Str} {p q : Pos} {d : D} (h : af (aC Φ e false sc ρ) (d, 0)) (hx : dC sc x = true := by rfl) : af (eN Φ (.Assign [.Name x p] e q) sc ρ) (.nx (ck ρ x (d, true))) := by
  refine af.bnd h ?_
  unfold md
  rw [if_pos hx]
  exact ⟨[], rfl, True.intro⟩
theorem dF {e : Expr} {q : Pos} {d : D} {k : Nat} (h : af (aC Φ e false sc ρ) (d, k)) (hk : k = 0 \/ k = 2 := by exact .inl rfl) (hn : w5 e = false := by rfl) : af (eN Φ (.Return (some e) q) sc ρ) (.rt d) := by
  refine af.bnd h ?_
  unfold rT
  rw [if_pos hk]
  exact ⟨[], rfl, True.intro⟩
end
theorem kz {bind : D -> al -> Option al} {body : al -> Rs Fl} (am : List D -> al -> Prop) (step : ∀ d l ρ, am (d :: l) ρ -> ∃ ρ1 ρ2, bind d ρ = some ρ1 /\ (af (body ρ1) (.nx ρ2) \/ af (body ρ1) (.ct ρ2)) /\ am l ρ2) : ∀ {ds : List D} {ρ : al}, am ds ρ -> ∃ ρ', af (dl bind body ds ρ) (.nx ρ') /\ am [] ρ'
  | [], ρ, h => ⟨ρ, ⟨[], rfl, True.intro⟩, h⟩
  | d :: l, ρ, h => by
    obtain ⟨ρ1, ρ2, h1, h2, h3⟩ := step d l ρ h
    obtain ⟨ρ', h4, h5⟩ := kz am step h3
    refine ⟨ρ', ?_, h5⟩
    show af (match bind d ρ with | none => (.st : Rs Fl) | some ρ1 => (body ρ1).bnd (i6 (dl bind body l))) _
    rw [h1]
    rcases h2 with h2 | h2
    . exact h2.bnd h4
    . exact h2.bnd h4
theorem rk {bind : D -> al -> Option al} {body : al -> Rs Fl} (am : List D -> al -> Prop) (R : D -> Prop) (step : ∀ d l ρ, am (d :: l) ρ -> ∃ ρ1, bind d ρ = some ρ1 /\ ((∃ ρ2, (af (body ρ1) (.nx ρ2) \/ af (body ρ1) (.ct ρ2)) /\ am l ρ2) \/ ∃ r, af (body ρ1) (.rt r) /\ R r)) : ∀ {ds : List D} {ρ : al}, am ds ρ -> (∃ ρ', af (dl bind body ds ρ) (.nx ρ') /\ am [] ρ') \/ ∃ r, af (dl bind body ds ρ) (.rt r) /\ R r
  | [], ρ, h => .inl ⟨ρ, ⟨[], rfl, True.intro⟩, h⟩
  | d :: l, ρ, h => by
    obtain ⟨ρ1, h1, h2⟩ := step d l ρ h
    have key : dl bind body (d :: l) ρ = (body ρ1).bnd (i6 (dl bind body l)) := by
      show (match bind d ρ with | none => (.st : Rs Fl) | some ρ1 => (body ρ1).bnd (i6 (dl bind body l))) = _
      rw [h1]
    rw [key]
    rcases h2 with ⟨ρ2, h2, h3⟩ | ⟨r, h2, h3⟩
    . have go : ∀ x, af (dl bind body l ρ2) x -> af ((body ρ1).bnd (i6 (dl bind body l))) x := fun x hx => by
        rcases h2 with h2 | h2
        . exact h2.bnd hx
        . exact h2.bnd hx
      rcases rk am R step h3 with ⟨ρ', h4, h5⟩ | ⟨r, h4, h5⟩
      . exact .inl ⟨ρ', go _ h4, h5⟩
      . exact .inr ⟨r, go _ h4, h5⟩
    . exact .inr ⟨r, h2.bnd ⟨[], rfl, True.intro⟩, h3⟩
theorem fh {α : Type} {step : D -> Rs (Option (D × Nat))} {g : α -> D} {f : α -> D} {c : α -> Bool} : ∀ {l : List α}, (∀ x ∈ l, af (step (g x)) (cond (c x) (some (f x, 0)) none)) -> af (gp step (l.map g)) ((l.filter c).map f, 0)
  | [], _ => ⟨[], rfl, True.intro⟩
  | x :: l, h => by
    have h1 := h x List.mem_cons_self
    have h2 := fh (c := c) fun y hy => h y (List.mem_cons_of_mem _ hy)
    cases e : c x with
    | true =>
      rw [e] at h1
      rw [List.filter_cons_of_pos e]
      exact af.bnd h1 (af.bnd h2 ⟨[], rfl, True.intro⟩)
    | false =>
      rw [e] at h1
      rw [List.filter_cons_of_neg (by rw [e]; decide)]
      exact af.bnd h1 (af.bnd h2 ⟨[], rfl, True.intro⟩)
theorem yN {a b : Int} (h : a.natAbs < 18446744073709551616) : cg a b := .inl h
theorem yM {a b : Int} (h : b.natAbs < 18446744073709551616) : cg a b := .inr (.inl h)
theorem cm {a b : Int} (h : a.natAbs < cu) (g : b.natAbs < cu) : cg a b := .inr (.inr (.inl ⟨h, g⟩))
theorem yL {a b : Int} (h : Builtin.Int.intBits a <= 2 ^ 22) (g : Builtin.Int.intBits b <= 2 ^ 22) : cg a b := .inr (.inr (.inr ⟨h, g⟩))
theorem Ce {n : Nat} (h : n < 2 ^ 64) : n < cu := Nat.lt_of_lt_of_le h (Nat.pow_le_pow_right (by decide) (by decide))
theorem zp {b : Int} (h0 : b ≠ 0) (h : b.natAbs < 18446744073709551616) : fM b := ⟨h0, Ce h⟩
theorem zL {ns : List Int} {i : Int} (h0 : 0 <= i) (h1 : i < ns.length) : L2.atI (ns.map D.int) i = some (.int (ns.getD i.toNat 0)) := by
  obtain ⟨j, rfl⟩ := Int.eq_ofNat_of_zero_le h0
  have hj : j < ns.length := by omega
  have := zK (xs := ns.map D.int) (j := j) (v := .int (ns.getD j 0)) (by simp [hj])
  simpa using this
theorem wj : aF [] := True.intro
theorem sM {l m : List Prop} (h : aF l) (g : aF m) : aF (l ++ m) := dm.mpr ⟨h, g⟩
theorem wg {p : Prop} (h : p) : aF [p] := ⟨h, True.intro⟩
theorem qw {p : Prop} {l : List Prop} (h : p) (g : aF l) : aF (p :: l) := ⟨h, g⟩
theorem yp {a b : Int} (h0 : 0 <= b) (h1 : b <= 1000) (h2 : a.natAbs < 18446744073709551616) : rW a b := ⟨h0, h1, h2⟩
end Sp
set_option Elab.async false
set_option linter.all false
set_option maxRecDepth 100000
namespace Sp
open PySem PySem.Spec PyProof.Rows L2
def Sub (C ρ : al) : Prop := ∀ x y, C x = some y -> ρ x = some y
theorem Sub.refl (ρ : al) : Sub ρ ρ := fun _ _ h => h
theorem Sub.trans {a b c : al} (h : Sub a b) (g : Sub b c) : Sub a c := fun x y e => g x y (h x y e)
theorem Sub.put {C ρ : al} (h : Sub C ρ) (x : Str) (y : D × Bool) : Sub (ck C x y) (ck ρ x y) := fun z w e => by
  rw [dO] at e ⊢
  by_cases hz : z = x
  . rw [if_pos hz] at e ⊢; exact e
  . rw [if_neg hz] at e ⊢; exact h z w e
theorem Sub.flt {C ρ : al} (h : Sub C ρ) (scope : Scope) : Sub (flt scope C) (flt scope ρ) := fun z w e => by
  obtain ⟨e1, e2⟩ := iS e
  unfold Sp.flt
  rw [if_pos e2]; exact h z w e1
theorem Sub.demX {C ρ : al} (h : Sub C ρ) (x : Str) : Sub (demX x C) (demX x ρ) := by
  unfold Sp.demX
  intro z w hz
  by_cases hx : z = x
  . simp only [if_pos hx] at hz ⊢
    cases hc : C z with
    | none => rw [hc] at hz; cases hz
    | some q => rw [hc] at hz; rw [h z q hc]; exact hz
  . simp only [if_neg hx] at hz ⊢; exact h z w hz
theorem Sub.demote {C ρ : al} (h : Sub C ρ) (e : Expr) : Sub (demote e C) (demote e ρ) := by
  unfold Sp.demote
  split
  . exact h.demX _
  . exact h.demX _
  . exact h
theorem mT {sc : Scope} : ∀ {es : List Expr} {ds : List D} {C C' ρ : al}, aR sc es ds C = some C' -> Sub C ρ -> ∃ ρ', aR sc es ds ρ = some ρ' /\ Sub C' ρ' := by
  intro es
  induction es with
  | nil =>
    intro ds C C' ρ h s
    cases ds with
    | nil => cases h; exact ⟨ρ, rfl, s⟩
    | cons d ds => cases h
  | cons e es ih =>
    intro ds C C' ρ h s
    cases ds with
    | nil => cases e <;> cases h
    | cons d ds =>
      cases e with
      | Name z p =>
        rw [aR] at h ⊢
        split at h
        . rename_i hz
          rw [if_pos hz]
          exact ih h (s.put _ _)
        . cases h
      | _ => cases h
theorem og {sc : Scope} {tg : Expr} {d : D} {C C' ρ : al} (h : b8 sc tg d C = some C') (s : Sub C ρ) : ∃ ρ', b8 sc tg d ρ = some ρ' /\ Sub C' ρ' := by
  unfold b8 at h ⊢
  split at h
  . split at h
    . rename_i hx; cases h; exact ⟨_, if_pos hx, s.put _ _⟩
    . cases h
  . split at h
    . exact mT h s
    . cases h
  . cases h
theorem ej {b : Bool} {m : List Prop} (h : b = true -> aF m) : aF (gd b m) := by
  cases m with
  | nil => exact True.intro
  | cons p l => exact ⟨h, True.intro⟩
theorem pX {b c : Bool} {r : Rs Bool} (h : b = true -> af r c) (hf : b = false -> c = false) : af (sL b r) c := by
  cases b with
  | true =>
    obtain ⟨m, rfl, hm⟩ := h rfl
    exact ⟨_, rfl, ej fun _ => hm⟩
  | false =>
    rw [hf rfl]
    cases r with
    | ok c' m => exact ⟨_, rfl, ej fun z => (by cases z)⟩
    | st => exact ⟨_, rfl, True.intro⟩
theorem r9 {b c : Bool} {r : Rs Bool} (h : b = false -> af r c) (hf : b = true -> c = true) : af (wV b r) c := by
  cases b with
  | false =>
    obtain ⟨m, rfl, hm⟩ := h rfl
    exact ⟨_, rfl, ej fun _ => hm⟩
  | true =>
    rw [hf rfl]
    cases r with
    | ok c' m => exact ⟨_, rfl, ej fun z => (by cases z)⟩
    | st => exact ⟨_, rfl, True.intro⟩
theorem xk {t : Bool} {r s : R1} {d : D × Nat} (h : af (if t = true then r else s) d) : af (xl t r s) d := by
  cases t with
  | true =>
    rw [if_pos rfl] at h
    obtain ⟨m, rfl, hm⟩ := h
    cases s with
    | ok q n => exact ⟨_, by show Rs.ok _ _ = Rs.ok _ _; rw [oR, xh], dm.mpr ⟨ej fun _ => hm, ej fun z => (by cases z)⟩⟩
    | st => exact ⟨m, rfl, hm⟩
  | false =>
    rw [if_neg Bool.false_ne_true] at h
    obtain ⟨m, rfl, hm⟩ := h
    cases r with
    | ok q n => exact ⟨_, by show Rs.ok _ _ = Rs.ok _ _; rw [oS, xi], dm.mpr ⟨ej fun z => (by cases z), ej fun _ => hm⟩⟩
    | st => exact ⟨m, rfl, hm⟩
theorem ii {α : Type} {p : D × Nat} {f : Bool -> Rs α} {a : α} {b : Bool} (h : p.1 = .bl b) (h2 : af (f b) a) : af (gY p f) a := by
  unfold gY; rw [h]; exact h2
structure Mo (Φ : Fx) (n : Nat) : Prop where
  e : ∀ (e : Expr) {it : Bool} {sc : Scope} {C ρ : al} {p : D × Nat}, sizeOf e < n -> af (aC Φ e it sc C) p -> Sub C ρ -> af (aC Φ e it sc ρ) p
  es : ∀ (es : List Expr) {sc : Scope} {C ρ : al} {p : List D × Nat}, sizeOf es < n -> af (bW Φ es sc C) p -> Sub C ρ -> af (bW Φ es sc ρ) p
  b : ∀ (op : BoolOp) (es : List Expr) {sc : Scope} {C ρ : al} {b : Bool}, sizeOf es < n -> af (dN Φ op es sc C) b -> Sub C ρ -> af (dN Φ op es sc ρ) b
  o : ∀ (e : Option Expr) {sc : Scope} {C ρ : al} {o : Option Int}, sizeOf e < n -> af (nl Φ e sc C) o -> Sub C ρ -> af (nl Φ e sc ρ) o
theorem qX {step step2 : D -> Rs (Option (D × Nat))} (h : ∀ d r, af (step d) r -> af (step2 d) r) : ∀ {ds : List D} {q : List D × Nat}, af (gp step ds) q -> af (gp step2 ds) q
  | [], q, hq => hq
  | d :: ds, q, hq => by
    obtain ⟨r, h1, h2⟩ := aw (show af (Rs.bnd _ _) q from hq)
    obtain ⟨q1, h3, h4⟩ := aw h2
    exact af.bnd (h _ _ h1) (af.bnd (qX h h3) h4)
section
variable {Φ : Fx} {n : Nat} {it : Bool} {sc : Scope} {C ρ : al} {p : D × Nat}
theorem w9 (I : Mo Φ n) {a i : Expr} {pos : Pos} (hs : sizeOf (Expr.Subscript a i pos) < n + 1) (h : af ((aC Φ a false sc C).bnd fun p => (aC Φ i false sc C).bnd fun q => iP q fun j => lh p.1 j p.2) p) (s : Sub C ρ) : af ((aC Φ a false sc ρ).bnd fun p => (aC Φ i false sc ρ).bnd fun q => iP q fun j => lh p.1 j p.2) p := by
  obtain ⟨x, h1, h⟩ := aw h
  obtain ⟨y, h2, h⟩ := aw h
  exact af.bnd (I.e a (bj (by simp <;> omega) hs) h1 s) (af.bnd (I.e i (bj (by simp <;> omega) hs) h2 s) h)
theorem Et (I : Mo Φ n) (e : Expr) (hs : sizeOf e < n + 1) (h : af (aC Φ e it sc C) p) (s : Sub C ρ) : af (aC Φ e it sc ρ) p := by
  cases e with
  | Constant c k q => exact h
  | Name x q =>
    replace h : af (iN Φ x sc C) p := h
    show af (iN Φ x sc ρ) p
    unfold iN at h ⊢
    split at h
    . rename_i hx
      rw [if_pos hx]
      split at h
      . rename_i hg; rw [if_pos hg]; exact h
      . rename_i hg
        rw [if_neg hg]
        split at h
        . rename_i y hy; rw [s x y hy]; exact h
        . exact (av h).elim
    . exact (av h).elim
  | BinOp a op b q =>
    obtain ⟨x, h1, h⟩ := aw (show af (Rs.bnd _ _) p from h)
    obtain ⟨y, h2, h⟩ := aw h
    exact af.bnd (I.e a (bj (by simp <;> omega) hs) h1 s) (af.bnd (I.e b (bj (by simp <;> omega) hs) h2 s) h)
  | UnaryOp op a q =>
    obtain ⟨x, h1, h⟩ := aw (show af (Rs.bnd _ _) p from h)
    exact af.bnd (I.e a (bj (by simp <;> omega) hs) h1 s) h
  | BoolOp op es q =>
    rw [mD] at h ⊢
    split at h
    . exact (av h).elim
    . rename_i hne
      rw [if_neg hne]
      obtain ⟨b, h1, h⟩ := aw h
      exact af.bnd (I.b op es (bj (by simp <;> omega) hs) h1 s) h
  | Compare a ops bs q =>
    match ops, bs, hs, h with
    | [op], [b], hs, h =>
      obtain ⟨x, h1, h⟩ := aw (show af (Rs.bnd _ _) p from h)
      obtain ⟨y, h2, h⟩ := aw h
      exact af.bnd (I.e a (bj (by simp <;> omega) hs) h1 s) (af.bnd (I.e b (bj (by simp <;> omega) hs) h2 s) h)
    | [], bs, _, h => exact (av h).elim
    | [op], [], _, h => exact (av h).elim
    | [op], _ :: _ :: _, _, h => exact (av h).elim
    | [op, op2], [b, c], hs, h =>
      obtain ⟨x, h1, h⟩ := aw (show af (Rs.bnd _ _) p from h)
      obtain ⟨y, h2, h⟩ := aw h
      obtain ⟨z, h3, h⟩ := aw h
      exact af.bnd (I.e a (bj (by simp <;> omega) hs) h1 s) (af.bnd (I.e b (bj (by simp <;> omega) hs) h2 s) (af.bnd (I.e c (bj (by simp <;> omega) hs) h3 s) h))
    | [_, _], [], _, h => exact (av h).elim
    | [_, _], [_], _, h => exact (av h).elim
    | [_, _], _ :: _ :: _ :: _, _, h => exact (av h).elim
    | _ :: _ :: _ :: _, bs, _, h => exact (av h).elim
  | IfExp c a b q =>
    obtain ⟨x, h1, h⟩ := aw (show af (Rs.bnd _ _) p from h)
    obtain ⟨t, ht, h⟩ := fU h
    obtain ⟨l, h, hp⟩ := h
    obtain ⟨m, h, hm⟩ := rh h hp
    refine af.bnd (I.e c (bj (by simp <;> omega) hs) h1 s) (ii ht (xk ?_))
    cases t with
    | true => exact I.e a (bj (by simp <;> omega) hs) ⟨m, h, hm⟩ s
    | false => exact I.e b (bj (by simp <;> omega) hs) ⟨m, h, hm⟩ s
  | Tuple es k q =>
    obtain ⟨x, h1, h⟩ := aw (show af (Rs.bnd _ _) p from h)
    exact af.bnd (I.es es (bj (by simp <;> omega) hs) h1 s) h
  | List es q =>
    obtain ⟨x, h1, h⟩ := aw (show af (Rs.bnd _ _) p from h)
    exact af.bnd (I.es es (bj (by simp <;> omega) hs) h1 s) h
  | Attribute a f q =>
    cases a with
    | Name x pn =>
      obtain ⟨y, h1, h⟩ := aw (show af (Rs.bnd _ _) p from h)
      exact af.bnd (I.e (.Name x pn) (it := false) (bj (by simp <;> omega) hs) h1 s) h
    | _ => exact (av h).elim
  | Dict ks vs q =>
    match ks, vs, h with
    | [], [], h => exact h
    | _ :: _, _, h => exact (av h).elim
    | [], _ :: _, h => exact (av h).elim
  | Subscript a i q =>
    cases i with
    | Slice lo hi st p2 =>
      cases st with
      | none =>
        obtain ⟨x, h1, h⟩ := aw (show af (Rs.bnd _ _) p from h)
        obtain ⟨y, h2, h⟩ := aw h
        obtain ⟨z, h3, h⟩ := aw h
        exact af.bnd (I.e a (bj (by simp <;> omega) hs) h1 s) (af.bnd (I.o lo (bj (by simp <;> omega) hs) h2 s) (af.bnd (I.o hi (bj (by simp <;> omega) hs) h3 s) h))
      | some e => exact w9 I hs h s
    | _ => exact w9 I hs h s
  | Call f args kws q =>
    cases f with
    | Name f fp =>
      cases kws with
      | nil =>
        rw [kA] at h ⊢
        split at h
        . rename_i hf
          rw [if_pos hf]
          obtain ⟨x, h1, h⟩ := aw h
          exact af.bnd (I.es args (bj (by simp <;> omega) hs) h1 s) h
        . exact (av h).elim
      | cons _ _ => exact (av h).elim
    | Attribute a m ap =>
      cases kws with
      | nil =>
        rw [kB] at h ⊢
        split at h
        . rename_i hf
          rw [if_pos hf]
          obtain ⟨x, h1, h⟩ := aw h
          obtain ⟨y, h2, h⟩ := aw h
          exact af.bnd (I.e a (bj (by simp <;> omega) hs) h1 s) (af.bnd (I.es args (bj (by simp <;> omega) hs) h2 s) h)
        . exact (av h).elim
      | cons _ _ => exact (av h).elim
    | _ => exact (av h).elim
  | ListComp elt gens scope q =>
    obtain ⟨l0, h0, _⟩ := id h
    obtain ⟨tg, iter, ifs, rfl⟩ := mm h0
    rw [mC] at h ⊢
    split at h
    . rename_i hc
      rw [if_pos hc]
      obtain ⟨x, h1, h⟩ := aw h
      refine af.bnd (I.e iter (by first | omega | (simp at *; omega)) h1 s) ?_
      split at h
      . split at h
        . rename_i hl
          rw [if_pos hl]
          obtain ⟨u0, h0', h⟩ := aw h
          obtain ⟨y, h2, h⟩ := aw h
          refine af.bnd h0' (af.bnd (qX (fun d r hr => ?_) h2) h)
          split at hr
          . exact (av hr).elim
          . rename_i C' hb
            obtain ⟨ρ', hb', s'⟩ := og hb (s.flt scope)
            rw [hb']
            obtain ⟨b, h3, hr⟩ := aw hr
            refine af.bnd (I.b .And ifs (by first | omega | (simp at *; omega)) h3 s') ?_
            cases b with
            | false => exact hr
            | true =>
              rw [cond_true] at hr ⊢
              obtain ⟨z, h4, hr⟩ := aw hr
              exact af.bnd (I.e elt (by first | omega | (simp at *; omega)) h4 s') hr
        . exact (av h).elim
      . exact (av h).elim
    . exact (av h).elim
  | _ => exact (av h).elim
theorem C8 (I : Mo Φ n) (es : List Expr) {p : List D × Nat} (hs : sizeOf es < n + 1) (h : af (bW Φ es sc C) p) (s : Sub C ρ) : af (bW Φ es sc ρ) p := by
  cases es with
  | nil => exact h
  | cons e es =>
    obtain ⟨x, h1, h⟩ := aw (show af (Rs.bnd _ _) p from h)
    obtain ⟨y, h2, h⟩ := aw h
    exact af.bnd (I.e e (bj (by simp <;> omega) hs) h1 s) (af.bnd (I.es es (bj (by simp <;> omega) hs) h2 s) h)
theorem Eu (I : Mo Φ n) (op : BoolOp) (es : List Expr) {b : Bool} (hs : sizeOf es < n + 1) (h : af (dN Φ op es sc C) b) (s : Sub C ρ) : af (dN Φ op es sc ρ) b := by
  cases es with
  | nil => cases op <;> exact h
  | cons e es =>
    cases op with
    | And =>
      obtain ⟨x, h1, h⟩ := aw (show af (Rs.bnd _ _) b from h)
      obtain ⟨t, ht, l, h, hp⟩ := fU h
      refine af.bnd (I.e e (bj (by simp <;> omega) hs) h1 s) (ii ht ?_)
      rcases pW h hp with ⟨rfl, m, h, pm⟩ | ⟨rfl, rfl⟩
      . exact pX (fun _ => I.b .And es (bj (by simp <;> omega) hs) ⟨m, h, pm⟩ s) fun z => (by cases z)
      . exact pX (fun z => (by cases z)) fun _ => rfl
    | Or =>
      obtain ⟨x, h1, h⟩ := aw (show af (Rs.bnd _ _) b from h)
      obtain ⟨t, ht, l, h, hp⟩ := fU h
      refine af.bnd (I.e e (bj (by simp <;> omega) hs) h1 s) (ii ht ?_)
      rcases qT h hp with ⟨rfl, m, h, pm⟩ | ⟨rfl, rfl⟩
      . exact r9 (fun _ => I.b .Or es (bj (by simp <;> omega) hs) ⟨m, h, pm⟩ s) fun z => (by cases z)
      . exact r9 (fun z => (by cases z)) fun _ => rfl
theorem Es (I : Mo Φ n) (e : Option Expr) {o : Option Int} (hs : sizeOf e < n + 1) (h : af (nl Φ e sc C) o) (s : Sub C ρ) : af (nl Φ e sc ρ) o := by
  cases e with
  | none => exact h
  | some e =>
    obtain ⟨x, h1, h⟩ := aw (show af (Rs.bnd _ _) o from h)
    exact af.bnd (I.e e (bj (by simp <;> omega) hs) h1 s) h
end
theorem ir (Φ : Fx) : ∀ n, Mo Φ n
  | 0 => ⟨fun _ _ _ _ _ _ h => absurd h (Nat.not_lt_zero _), fun _ _ _ _ _ h => absurd h (Nat.not_lt_zero _), fun _ _ _ _ _ _ h => absurd h (Nat.not_lt_zero _), fun _ _ _ _ _ h => absurd h (Nat.not_lt_zero _)⟩
  | n + 1 => ⟨fun e _ _ _ _ _ hs h s => Et (ir Φ n) e hs h s, fun e _ _ _ _ hs h s => C8 (ir Φ n) e hs h s, fun op e _ _ _ _ hs h s => Eu (ir Φ n) op e hs h s, fun e _ _ _ _ hs h s => Es (ir Φ n) e hs h s⟩
theorem dM {Φ : Fx} {e : Expr} {it : Bool} {sc : Scope} {C ρ : al} {p : D × Nat} (h : af (aC Φ e it sc C) p) (s : Sub C ρ) : af (aC Φ e it sc ρ) p := (ir Φ _).e e (Nat.lt_succ_self _) h s
theorem qW {Φ : Fx} {e : List Expr} {sc : Scope} {C ρ : al} {p : List D × Nat} (h : af (bW Φ e sc C) p) (s : Sub C ρ) : af (bW Φ e sc ρ) p := (ir Φ _).es e (Nat.lt_succ_self _) h s
def wq : Fl -> Fl -> Prop
  | .nx a, .nx b => Sub a b
  | .bk a, .bk b => Sub a b
  | .ct a, .ct b => Sub a b
  | .rt a, .rt b => a = b
  | _, _ => False
theorem cU {α : Type} {a : α} : af (.ok a []) a := ⟨[], rfl, True.intro⟩
def jB (f : al -> Rs Fl) : Prop := ∀ C ρ fl, af (f C) fl -> Sub C ρ -> ∃ fl', af (f ρ) fl' /\ wq fl fl'
theorem t7 {f : al -> Rs Fl} (h : jB f) {x y z : Fl} (hx : af (i6 f x) z) (s : wq x y) : ∃ z', af (i6 f y) z' /\ wq z z' := by
  cases x <;> cases y <;> first | exact s.elim | skip
  . exact h _ _ _ hx s
  . cases aK hx; cases s; exact ⟨_, cU, rfl⟩
  . cases aK hx; exact ⟨_, cU, s⟩
  . exact h _ _ _ hx s
theorem t8 {sc : Scope} {tg : Expr} {body : al -> Rs Fl} (hb : jB body) : ∀ ds, jB (dl (b8 sc tg) body ds)
  | [] => fun C ρ fl h s => by cases aK h; exact ⟨_, cU, s⟩
  | d :: ds => fun C ρ fl h s => by
    replace h : af (match b8 sc tg d C with | none => (.st : Rs Fl) | some ρ1 => (body ρ1).bnd (i6 (dl (b8 sc tg) body ds))) fl := h
    split at h
    . exact (av h).elim
    . rename_i C1 hC
      obtain ⟨ρ1, hρ, s1⟩ := og hC s
      obtain ⟨x, h1, h2⟩ := aw h
      obtain ⟨y, h3, s2⟩ := hb _ _ _ h1 s1
      obtain ⟨z, h4, s3⟩ := t7 (t8 hb ds) h2 s2
      refine ⟨z, ?_, s3⟩
      show af (match b8 sc tg d ρ with | none => (.st : Rs Fl) | some ρ1 => (body ρ1).bnd (i6 (dl (b8 sc tg) body ds))) z
      rw [hρ]; exact af.bnd h3 h4
theorem w8 {test : al -> Rs Bool} {body : al -> Rs Fl} (ht : ∀ C ρ b, af (test C) b -> Sub C ρ -> af (test ρ) b) (hb : jB body) : ∀ n, jB (jZ test body n)
  | 0 => fun C ρ fl h s => (av h).elim
  | n + 1 => fun C ρ fl h s => by
    obtain ⟨b, h1, h2⟩ := aw (show af (Rs.bnd _ _) fl from h)
    have h1' := ht _ _ _ h1 s
    cases b with
    | false => cases aK h2; exact ⟨_, af.bnd h1' cU, s⟩
    | true =>
      obtain ⟨x, h3, h4⟩ := aw (show af (Rs.bnd _ _) fl from h2)
      obtain ⟨y, h5, s2⟩ := hb _ _ _ h3 s
      obtain ⟨z, h6, s3⟩ := t7 (w8 ht hb n) h4 s2
      exact ⟨z, af.bnd h1' (af.bnd h5 h6), s3⟩
theorem Bk {Φ : Fx} {tgs : List Expr} {e : Expr} {sc : Scope} : jB (lz Φ tgs e sc) := by
  intro C ρ fl h s
  unfold lz at h ⊢
  split at h
  . obtain ⟨p, h1, h⟩ := aw h
    unfold md at h
    split at h
    . rename_i hx
      split at h
      . rename_i ho; cases aK h
        exact ⟨.nx _, af.bnd (dM h1 s) (by unfold md; rw [if_pos hx, ho]; exact cU), s.put _ _⟩
      . rename_i ho; cases aK h
        exact ⟨.nx _, af.bnd (dM h1 s) (by unfold md; rw [if_pos hx, ho]; exact cU), s.put _ _⟩
      . exact (av h).elim
    . exact (av h).elim
  . split at h
    . rename_i ht
      rw [if_pos ht]
      unfold lw at h ⊢
      split at h
      . split at h
        . rename_i hp
          rw [if_pos hp]
          obtain ⟨q, h1, h⟩ := aw h
          split at h
          . rename_i u v hd
            split at h
            . rename_i hf
              cases aK h
              refine ⟨.nx _, af.bnd (qW h1 s) ?_, (s.put _ _).put _ _⟩
              rw [hd]; dsimp only; rw [if_pos hf]; exact cU
            . exact (av h).elim
          . exact (av h).elim
        . exact (av h).elim
      . exact (av h).elim
    . rename_i ht
      rw [if_neg ht]
      obtain ⟨p, h1, h⟩ := aw h
      split at h
      . rename_i ds hd
        split at h
        . rename_i hf
          split at h
          . rename_i C' hb
            cases aK h
            obtain ⟨ρ', hb', s'⟩ := mT hb s
            refine ⟨.nx _, af.bnd (dM h1 s) ?_, s'⟩
            rw [hd]; dsimp only; rw [if_pos hf, hb']; exact cU
          . exact (av h).elim
        . exact (av h).elim
      . exact (av h).elim
  . split at h
    . rename_i hc
      rw [if_pos hc]
      obtain ⟨p, h1, h⟩ := aw h
      obtain ⟨q, h2, h⟩ := aw h
      split at h
      . rename_i j hj
        obtain ⟨l, a1, a2, a3, h⟩ := oO h
        split at h
        . rename_i l' hs
          obtain ⟨h9, hf, _⟩ := du h
          subst h9
          refine ⟨.nx _, af.bnd (dM h1 s) (af.bnd (dM h2 s) ?_), s.put _ _⟩
          rw [hj]; dsimp only; unfold mf; rw [s _ _ a1]; dsimp only; rw [if_pos a3]
          refine af.bnd (a := ()) ⟨_, rfl, a2, True.intro⟩ ?_
          rw [hs]; exact ⟨_, rfl, hf, True.intro⟩
        . exact (av h).elim
      . exact (av h).elim
    . exact (av h).elim
  . exact (av h).elim
theorem Bj {Φ : Fx} {e : Expr} {sc : Scope} : jB (ly Φ e sc) := by
  intro C ρ fl h s
  unfold ly at h ⊢
  split at h
  . split at h
    . rename_i hln
      rw [if_pos hln]
      obtain ⟨p, h1, h⟩ := aw h
      split at h
      . rename_i M hM
        obtain ⟨l, a1, a3, h⟩ := oN h
        obtain ⟨l', h2, h⟩ := aw h
        cases aK h
        refine ⟨.nx _, af.bnd (qW h1 s) ?_, s.put _ _⟩
        unfold r6; rw [s _ _ a1]; dsimp only; rw [if_pos a3]; exact af.bnd h2 cU
      . exact (av h).elim
    . exact (av h).elim
  . obtain ⟨p, h1, h⟩ := aw h
    cases aK h
    exact ⟨.nx _, af.bnd (dM h1 s) cU, s⟩
  . exact (av h).elim
structure Cp (Φ : Fx) (n : Nat) : Prop where
  s : ∀ (st : Stmt) (sc : Scope), sizeOf st < n -> jB (eN Φ st sc)
  ss : ∀ (st : List Stmt) (sc : Scope), sizeOf st < n -> jB (aE Φ st sc)
theorem C7 {Φ : Fx} {n : Nat} (I : Cp Φ n) (st : Stmt) (sc : Scope) (hs : sizeOf st < n + 1) : jB (eN Φ st sc) := by
  intro C ρ fl h s
  cases st with
  | Return e p =>
    cases e with
    | none => cases aK h; exact ⟨_, cU, rfl⟩
    | some e =>
      obtain ⟨p, h1, h⟩ := aw (show af (Rs.bnd _ _) fl from h)
      refine ⟨fl, af.bnd (dM h1 s) h, ?_⟩
      unfold rT at h
      split at h
      . cases aK h; rfl
      . exact (av h).elim
  | Pass p => cases aK h; exact ⟨_, cU, s⟩
  | Break p => cases aK h; exact ⟨_, cU, s⟩
  | Continue p => cases aK h; exact ⟨_, cU, s⟩
  | Assign tgs e p => exact Bk C ρ fl h s
  | AugAssign t op e p => exact (av h).elim
  | Expr e p => exact Bj C ρ fl h s
  | If c a b p =>
    obtain ⟨p, h1, h⟩ := aw (show af (Rs.bnd _ _) fl from h)
    obtain ⟨t, ht, h⟩ := fU h
    cases t with
    | true =>
      obtain ⟨z, h2, s2⟩ := I.ss a sc (bj (by simp <;> omega) hs) C ρ fl h s
      exact ⟨z, af.bnd (dM h1 s) (ii ht h2), s2⟩
    | false =>
      obtain ⟨z, h2, s2⟩ := I.ss b sc (bj (by simp <;> omega) hs) C ρ fl h s
      exact ⟨z, af.bnd (dM h1 s) (ii ht h2), s2⟩
  | For tg it body els p =>
    rw [mv] at h ⊢
    split at h
    . rename_i he
      rw [if_pos he]
      obtain ⟨p, h1, h⟩ := aw h
      split at h
      . rename_i ds hd
        split at h
        . rename_i hk
          obtain ⟨z, h2, s2⟩ := t8 (I.ss body sc (bj (by simp <;> omega) hs)) ds _ _ fl h (s.demote it)
          refine ⟨z, af.bnd (dM h1 (s.demote it)) ?_, s2⟩
          rw [hd]; dsimp only; rw [if_pos hk]; exact h2
        . exact (av h).elim
      . exact (av h).elim
    . exact (av h).elim
  | While c body els p =>
    rw [pE] at h ⊢
    split at h
    . rename_i he
      rw [if_pos he]
      refine w8 (fun C ρ b hb s => ?_) (I.ss body sc (bj (by simp <;> omega) hs)) cP C ρ fl h s
      obtain ⟨q, h1, hb⟩ := aw hb
      exact af.bnd (dM h1 s) hb
    . exact (av h).elim
  | _ => exact (av h).elim
theorem Bi {Φ : Fx} {n : Nat} (I : Cp Φ n) (ss : List Stmt) (sc : Scope) (hs : sizeOf ss < n + 1) : jB (aE Φ ss sc) := by
  intro C ρ fl h s
  cases ss with
  | nil => cases aK h; exact ⟨_, cU, s⟩
  | cons st ss =>
    rcases oh h with ⟨C', h1, h2⟩ | ⟨h1, h2⟩
    . obtain ⟨x, h3, s2⟩ := I.s st sc (bj (by simp <;> omega) hs) C ρ _ h1 s
      cases x with
      | nx ρ' =>
        obtain ⟨z, h4, s3⟩ := I.ss ss sc (bj (by simp <;> omega) hs) C' ρ' fl h2 s2
        exact ⟨z, bt h3 h4, s3⟩
      | rt _ => exact s2.elim
      | bk _ => exact s2.elim
      | ct _ => exact s2.elim
    . obtain ⟨x, h3, s2⟩ := I.s st sc (bj (by simp <;> omega) hs) C ρ _ h2 s
      refine ⟨x, jf h3 fun ρ' z => ?_, s2⟩
      subst z
      cases fl <;> first | exact h1 _ rfl | exact s2
theorem jL (Φ : Fx) : ∀ n, Cp Φ n
  | 0 => ⟨fun _ _ h => absurd h (Nat.not_lt_zero _), fun _ _ h => absurd h (Nat.not_lt_zero _)⟩
  | n + 1 => ⟨fun e sc hs => C7 (jL Φ n) e sc hs, fun e sc hs => Bi (jL Φ n) e sc hs⟩
theorem yP {Φ : Fx} {ss : List Stmt} {sc : Scope} {C C' ρ : al} (h : af (aE Φ ss sc C) (.nx C')) (s : Sub C ρ) : ∃ ρ', af (aE Φ ss sc ρ) (.nx ρ') /\ Sub C' ρ' := by
  obtain ⟨z, h1, h2⟩ := (jL Φ _).ss ss sc (Nat.lt_succ_self _) C ρ _ h s
  cases z with
  | nx ρ' => exact ⟨ρ', h1, h2⟩
  | rt _ => exact h2.elim
  | bk _ => exact h2.elim
  | ct _ => exact h2.elim
theorem yO {Φ : Fx} {ss : List Stmt} {sc : Scope} {C ρ : al} {d : D} (h : af (aE Φ ss sc C) (.rt d)) (s : Sub C ρ) : af (aE Φ ss sc ρ) (.rt d) := by
  obtain ⟨z, h1, h2⟩ := (jL Φ _).ss ss sc (Nat.lt_succ_self _) C ρ _ h s
  cases z with
  | rt _ => cases h2; exact h1
  | nx _ => exact h2.elim
  | bk _ => exact h2.elim
  | ct _ => exact h2.elim
def bS : List (Str × D × Bool) -> al
  | [] => fun _ => none
  | p :: l => fun z => if z = p.1 then some p.2 else bS l z
theorem aM {ρ : al} : Sub (bS []) ρ := fun _ _ h => by cases h
theorem ai {ρ : al} {x : Str} {y : D × Bool} {l : List (Str × D × Bool)} (h : ρ x = some y) (g : Sub (bS l) ρ) : Sub (bS ((x, y) :: l)) ρ := fun z w e => by
  replace e : (if z = x then some y else bS l z) = some w := e
  by_cases hz : z = x
  . rw [if_pos hz] at e; cases e; rw [hz]; exact h
  . rw [if_neg hz] at e; exact g z w e
theorem Sub.get {C ρ : al} {x : Str} {y : D × Bool} (s : Sub C ρ) (h : C x = some y := by rfl) : ρ x = some y := s x y h
end Sp
set_option Elab.async false
set_option linter.all false
set_option maxRecDepth 100000
namespace Sp
open PySem PySem.Spec PyProof.Rows L2
section
variable {Φ : Fx} {sc : Scope} {ρ ρ' : al} {fl : Fl} {ss : List Stmt}
theorem dA {C C' : al} {P : al -> Prop} (s : Sub C ρ) (h : af (aE Φ ss sc C) (.nx C')) (k : ∀ ρ', Sub C' ρ' -> P ρ') : ∃ ρ', af (aE Φ ss sc ρ) (.nx ρ') /\ P ρ' :=
  let ⟨ρ', h1, h2⟩ := yP h s; ⟨ρ', h1, k ρ' h2⟩
theorem cG {C : al} {d : D} (s : Sub C ρ) (h : af (aE Φ ss sc C) (.rt d)) : af (aE Φ ss sc ρ) (.rt d) := yO h s
theorem iD {C : al} {e : Expr} {it : Bool} {p : D × Nat} (s : Sub C ρ) (h : af (aC Φ e it sc C) p) : af (aC Φ e it sc ρ) p := dM h s
theorem ma {tg it : Expr} {body : List Stmt} {p : Pos} {d : D} {ds : List D} {k : Nat} (am : List D -> al -> Prop) (hi : af (aC Φ it true sc (demote it ρ)) (d, k)) (h0 : am ds (demote it ρ))
    (step : ∀ d l ρ, am (d :: l) ρ -> ∃ ρ1, b8 sc tg d ρ = some ρ1 /\ ∃ ρ2, af (aE Φ body sc ρ1) (.nx ρ2) /\ am l ρ2) (cw : ∀ ρ', am [] ρ' -> af (aE Φ ss sc ρ') fl) (hd : items d = some ds := by rfl) (hk : k <= 1 := by first | exact Nat.le_refl 1 | exact Nat.zero_le 1) (ht : fy it tg = true := by rfl) : af (aE Φ (.For tg it body [] p :: ss) sc ρ) fl := by
  obtain ⟨ρ', h1, h2⟩ := kz (bind := b8 sc tg) (body := aE Φ body sc) am (fun d l ρ h => let ⟨ρ1, a, ρ2, b, c⟩ := step d l ρ h; ⟨ρ1, ρ2, a, .inl b, c⟩) h0
  exact bt (lu hi hd hk ht h1) (cw ρ' h2)
theorem xX {tg it : Expr} {body : List Stmt} {p : Pos} {d : D} {ds : List D} {k : Nat} (am : List D -> al -> Prop) (R : D -> Prop) (hi : af (aC Φ it true sc (demote it ρ)) (d, k)) (h0 : am ds (demote it ρ))
    (step : ∀ d l ρ, am (d :: l) ρ -> ∃ ρ1, b8 sc tg d ρ = some ρ1 /\ ((∃ ρ2, af (aE Φ body sc ρ1) (.nx ρ2) /\ am l ρ2) \/ ∃ r, af (aE Φ body sc ρ1) (.rt r) /\ R r)) (cw : ∀ ρ', am [] ρ' -> ∃ r, af (aE Φ ss sc ρ') (.rt r) /\ R r) (hd : items d = some ds := by rfl) (hk : k <= 1 := by first | exact Nat.le_refl 1 | exact Nat.zero_le 1) (ht : fy it tg = true := by rfl) : ∃ r, af (aE Φ (.For tg it body [] p :: ss) sc ρ) (.rt r) /\ R r := by
  rcases rk (bind := b8 sc tg) (body := aE Φ body sc) am R (fun d l ρ h => by
    obtain ⟨ρ1, a, b⟩ := step d l ρ h
    rcases b with ⟨ρ2, b, c⟩ | ⟨r, b, c⟩
    . exact ⟨ρ1, a, .inl ⟨ρ2, .inl b, c⟩⟩
    . exact ⟨ρ1, a, .inr ⟨r, b, c⟩⟩) h0 with ⟨ρ', h1, h2⟩ | ⟨r, h1, h2⟩
  . obtain ⟨r, h3, h4⟩ := cw ρ' h2
    exact ⟨r, bt (lu hi hd hk ht h1) h3, h4⟩
  . exact ⟨r, dU (lu hi hd hk ht h1), h2⟩
theorem dh {a b : Expr} {op : CmpOp} {p : Pos} {it : Bool} {x y : D} {k j : Nat} {r : Bool} (ha : af (aC Φ a false sc ρ) (x, k)) (hb : af (aC Φ b false sc ρ) (y, j)) (h : af (jw op x y) r) : af (aC Φ (.Compare a [op] [b] p) it sc ρ) (.bl r, 0) :=
  af.bnd ha (af.bnd hb (af.bnd h cU))
theorem ju {a : Expr} {p : Pos} {it : Bool} {b : Bool} {k : Nat} (ha : af (aC Φ a false sc ρ) (.bl b, k)) : af (aC Φ (.UnaryOp .Not a p) it sc ρ) (.bl (!b), 0) := af.bnd ha cU
theorem fZ {op : BoolOp} {e : Expr} {es : List Expr} {p : Pos} {it : Bool} {b : Bool} (h : af (dN Φ op (e :: es) sc ρ) b) : af (aC Φ (.BoolOp op (e :: es) p) it sc ρ) (.bl b, 0) := by
  rw [mD, if_neg (show ¬ (List.isEmpty (e :: es) = true) from Bool.false_ne_true)]; exact af.bnd h cU
theorem my {e : Expr} {es : List Expr} {b c : Bool} {k : Nat} (h : af (aC Φ e false sc ρ) (.bl b, k)) (h1 : b = true -> af (dN Φ .And es sc ρ) c) (h2 : b = false -> c = false) : af (dN Φ .And (e :: es) sc ρ) c := af.bnd h (ii rfl (pX h1 h2))
theorem BS {e : Expr} {es : List Expr} {b c : Bool} {k : Nat} (h : af (aC Φ e false sc ρ) (.bl b, k)) (h1 : b = false -> af (dN Φ .Or es sc ρ) c) (h2 : b = true -> c = true) : af (dN Φ .Or (e :: es) sc ρ) c := af.bnd h (ii rfl (r9 h1 h2))
theorem cI {e : Expr} {es : List Expr} {c : Bool} {k : Nat} (h : af (aC Φ e false sc ρ) (.bl false, k)) (h1 : af (dN Φ .Or es sc ρ) c) : af (dN Φ .Or (e :: es) sc ρ) c := BS h (fun _ => h1) fun z => by cases z
theorem pF : af (dN Φ .And [] sc ρ) true := cU
theorem fY : af (dN Φ .Or [] sc ρ) false := cU
theorem af.bl {r : R1} {b c : Bool} {k : Nat} (h : af r (.bl b, k)) (e : b = c) : af r (.bl c, k) := e ▸ h
end
theorem Ew {us : List Value} (h : us.length = 0) : us = [] := List.eq_nil_of_length_eq_zero h
theorem dD {us : List Value} (h : us.length = 1) : ∃ a, us = [a] := List.length_eq_one_iff.mp h
theorem vF {us : List Value} {n : Nat} (h : us.length = n + 1) : ∃ a r, us = a :: r /\ r.length = n := by
  cases us with
  | nil => cases h
  | cons a r => exact ⟨a, r, rfl, by simpa using h⟩
theorem d6 {us : List Value} (h : us.length = 2) : ∃ a b, us = [a, b] := by
  obtain ⟨a, r, e1, h1⟩ := vF h; subst e1; obtain ⟨b, rfl⟩ := dD h1; exact ⟨a, b, rfl⟩
theorem sr {us : List Value} (h : us.length = 3) : ∃ a b c, us = [a, b, c] := by
  obtain ⟨a, r, e1, h1⟩ := vF h; subst e1; obtain ⟨b, c, rfl⟩ := d6 h1; exact ⟨a, b, c, rfl⟩
theorem Ev {us : List Value} (h : us.length = 4) : ∃ a b c d, us = [a, b, c, d] := by
  obtain ⟨a, r, e1, h1⟩ := vF h; subst e1; obtain ⟨b, c, d, rfl⟩ := sr h1; exact ⟨a, b, c, d, rfl⟩
end Sp
set_option linter.all false
namespace Qm
end Qm
set_option Elab.async false
set_option linter.all false
set_option maxRecDepth 100000
namespace K
open PySem L2 Sp
structure Dc (α : Type) where
  dec : D -> Option α
  enc : α -> D
  ok : ∀ x a, dec x = some a -> x = enc a
def dI : Dc Int := ⟨fun | .int i => some i | _ => none, .int, fun x a h => by cases x <;> cases h; rfl⟩
def dL : Dc (List D) := ⟨fun | .lst i => some i | _ => none, .lst, fun x a h => by cases x <;> cases h; rfl⟩
def wP {α : Type} (A : Dc α) (f : α -> Rs D) : List D -> Rs D
  | [x] => (match A.dec x with | some a => f a | none => .st)
  | _ => .st
def qP {α β : Type} (A : Dc α) (B : Dc β) (f : α -> β -> Rs D) : List D -> Rs D
  | [x, y] => (match A.dec x with | some a => (match B.dec y with | some b => f a b | none => .st) | none => .st)
  | _ => .st
theorem pM {α β : Type} {A : Dc α} {x : D} {f : α -> Rs β} {r : β} (h : af (match A.dec x with | some a => f a | none => .st) r) : ∃ a, x = A.enc a /\ af (f a) r := by
  split at h
  . rename_i a e; exact ⟨a, A.ok _ _ e, h⟩
  . exact (av h).elim
theorem qQ {α : Type} {A : Dc α} {f : α -> Rs D} {ds : List D} {r : D} (h : af (wP A f ds) r) : ∃ a, ds = [A.enc a] /\ af (f a) r := by
  unfold wP at h
  split at h
  . obtain ⟨a, e1, h1⟩ := pM h; exact ⟨a, by rw [e1], h1⟩
  . exact (av h).elim
theorem jF {α β : Type} {A : Dc α} {B : Dc β} {f : α -> β -> Rs D} {ds : List D} {r : D} (h : af (qP A B f ds) r) : ∃ a b, ds = [A.enc a, B.enc b] /\ af (f a b) r := by
  unfold qP at h
  split at h
  . obtain ⟨a, e1, h1⟩ := pM h
    obtain ⟨b, e2, h2⟩ := pM h1
    exact ⟨a, b, by rw [e1, e2], h2⟩
  . exact (av h).elim
def EZ : D -> Int
  | .int i => i
  | _ => 0
def kN (l : List D) : List Int := l.map EZ
theorem iJ (ns : List Int) : kN (ns.map D.int) = ns := by
  induction ns with
  | nil => rfl
  | cons n ns ih => show n :: kN (ns.map D.int) = _; rw [ih]
def okL (l : List D) : Prop := ∃ ns : List Int, l = ns.map D.int
def d8 (ns : List Int) (k : Int) : Int := if ns = [] then 0 else ns.getD (k.fmod ns.length).toNat 0
def lD (ns : List Int) (k : Int) : Int :=
  (d8 ns k).fdiv 2147483647 * 2147483647 + ((((d8 ns k).fmod 2147483647 + 7919 * k + 1) * 48271).fmod 2147483647 * 69621 + k).fmod 2147483647
def cn (l : List D) (k : Int) : Int := lD (kN l) k
abbrev t4 (a b c d : Int) : D := .tup [.int a, .int b, .int c, .int d]
abbrev Qd := Int × Int × Int × Int
def dq (q : Qd) : D := t4 q.1 q.2.1 q.2.2.1 q.2.2.2
def q4 : D -> Option Qd
  | .tup [.int a, .int b, .int c, .int d] => some (a, b, c, d)
  | _ => none
theorem CO (x : D) (q : Qd) (h : q4 x = some q) : x = dq q := by
  unfold q4 at h
  split at h
  . cases h; rfl
  . cases h
def dQ : Dc Qd := ⟨q4, dq, CO⟩
abbrev nD (q : Qd) : Prop := q.1.natAbs < cu /\ q.2.1.natAbs < cu /\ q.2.2.1.natAbs < cu /\ q.2.2.2.natAbs < cu
@[simp] theorem dt (a b : Int) : eqD (.int a) (.int b) = decide (a = b) := by
  show (a == b) = _
  rw [Bool.eq_iff_iff]; simp
@[simp] theorem xr (p q : Qd) : eqD (dq p) (dq q) = decide (p = q) := by
  show (p.1 == q.1 && (p.2.1 == q.2.1 && (p.2.2.1 == q.2.2.1 && (p.2.2.2 == q.2.2.2 && true)))) = _
  obtain ⟨a, b, c, d⟩ := p; obtain ⟨e, f, g, h⟩ := q
  rw [Bool.eq_iff_iff]; simp
end K
set_option Elab.async false
set_option linter.all false
set_option maxRecDepth 100000
namespace Sp
open PySem PySem.Spec PyProof.Rows L2
variable {Φ : Fx} {sc : Scope} {ρ ρ' : al} {fl : Fl} {ss : List Stmt}
theorem pD {x : Str} {i e : Expr} {p1 p2 q : Pos} {l l' : List D} {d : D} {j : Int} {k k2 : Nat} (hx : ρ x = some (.lst l, true)) (h : af (aC Φ e false sc ρ) (d, k)) (hi : af (aC Φ i false sc ρ) (.int j, k2)) (hs : oq l j d = some l') (hl : aA l = true) (hd : d.lless = true) (ht : Ak e = true := by rfl) (hn : ff x = true := by rfl) :
    af (eN Φ (.Assign [.Subscript (.Name x p1) i p2] e q) sc ρ) (.nx (ck ρ x (.lst l', true))) := by
  refine af.bnd h (af.bnd hi ?_)
  show af (mf _ _ _) _
  unfold mf
  rw [hx]; dsimp only; rw [if_pos hn]
  refine af.bnd (a := ()) ⟨_, rfl, hl, True.intro⟩ ?_
  rw [hs]
  exact ⟨_, rfl, hd, True.intro⟩
theorem xq {c a b : Expr} {p : Pos} {it : Bool} {t : Bool} {k : Nat} {r : D × Nat} (hc : af (aC Φ c false sc ρ) (.bl t, k)) (h1 : t = true -> af (aC Φ a false sc ρ) r) (h2 : t = false -> af (aC Φ b false sc ρ) r) : af (aC Φ (.IfExp c a b p) it sc ρ) r := by
  refine af.bnd hc (ii rfl (xk ?_))
  cases t with
  | true => exact h1 rfl
  | false => exact h2 rfl
theorem nX {test : al -> Rs Bool} {body : al -> Rs Fl} (am : Nat -> al -> Prop) (step : ∀ m ρ, am m ρ -> ∃ b, af (test ρ) b /\ (b = true -> ∃ m' ρ2, m' < m /\ af (body ρ) (.nx ρ2) /\ am m' ρ2)) : ∀ {n m : Nat} {ρ : al}, am m ρ -> m < n -> ∃ m' ρ', af (jZ test body n ρ) (.nx ρ') /\ am m' ρ' /\ af (test ρ') false := by
  intro n
  induction n with
  | zero => intro m ρ _ h; omega
  | succ n ih =>
    intro m ρ hi hm
    obtain ⟨b, hb, h⟩ := step m ρ hi
    cases b with
    | false => exact ⟨m, ρ, af.bnd hb cU, hi, hb⟩
    | true =>
      obtain ⟨m', ρ2, h1, h2, h3⟩ := h rfl
      obtain ⟨m2, ρ3, h4, h5, h6⟩ := ih h3 (show m' < n by omega)
      exact ⟨m2, ρ3, af.bnd hb (af.bnd h2 h4), h5, h6⟩
theorem tH {c : Expr} {body : List Stmt} {p : Pos} {m : Nat} (am : Nat -> al -> Prop) (h0 : am m ρ) (hm : m < cP)
    (step : ∀ m ρ, am m ρ -> ∃ b k, af (aC Φ c false sc ρ) (.bl b, k) /\ (b = true -> ∃ m' ρ2, m' < m /\ af (aE Φ body sc ρ) (.nx ρ2) /\ am m' ρ2)) (cw : ∀ m ρ', am m ρ' -> (∃ k, af (aC Φ c false sc ρ') (.bl false, k)) -> af (aE Φ ss sc ρ') fl) : af (aE Φ (.While c body [] p :: ss) sc ρ) fl := by
  obtain ⟨m', ρ', h1, h2, h3⟩ := nX (test := fun ρ => (aC Φ c false sc ρ).bnd fun p => gY p fun b => .ok b []) (body := aE Φ body sc) am (fun m ρ h => by
    obtain ⟨b, k, a1, a2⟩ := step m ρ h
    exact ⟨b, a1.bnd (ii rfl cU), a2⟩) h0 hm
  obtain ⟨q, h4, h5⟩ := aw h3
  obtain ⟨t, ht, h5⟩ := fU h5
  cases aK h5
  obtain ⟨q1, q2⟩ := q
  have ht : q1 = .bl false := ht
  subst ht
  exact bt (pA h1) (cw m' ρ' h2 ⟨q2, h4⟩)
theorem lW {m m' : Nat} {A : al -> Prop} {P : Nat -> al -> Prop} (h : m' < m) (k : ∃ ρ2, A ρ2 /\ P m' ρ2) : ∃ m' ρ2, m' < m /\ A ρ2 /\ P m' ρ2 := by
  obtain ⟨ρ2, a, b⟩ := k
  exact ⟨m', ρ2, h, a, b⟩
end Sp
set_option Elab.async false
set_option linter.all false
set_option maxRecDepth 100000
namespace K
open PySem L2 Sp
def bf (p q : Qd) : Qd :=
  (p.1 * q.1 - p.2.1 * q.2.1 - p.2.2.1 * q.2.2.1 - p.2.2.2 * q.2.2.2, p.1 * q.2.1 + p.2.1 * q.1 + p.2.2.1 * q.2.2.2 - p.2.2.2 * q.2.2.1,
    p.1 * q.2.2.1 - p.2.1 * q.2.2.2 + p.2.2.1 * q.1 + p.2.2.2 * q.2.1, p.1 * q.2.2.2 + p.2.1 * q.2.2.1 - p.2.2.1 * q.2.1 + p.2.2.2 * q.1)
def Al (q : Qd) : Int := q.1 * q.1 + (q.2.1 * q.2.1 + (q.2.2.1 * q.2.2.1 + (q.2.2.2 * q.2.2.2 + 0)))
theorem kR {p q : Qd} (h1 : p.1 = q.1) (h2 : p.2.1 = q.2.1) (h3 : p.2.2.1 = q.2.2.1) (h4 : p.2.2.2 = q.2.2.2) : p = q := by
  obtain ⟨a, b, c, d⟩ := p; obtain ⟨e, f, g, h⟩ := q
  simp only at h1 h2 h3 h4; subst h1 h2 h3 h4; rfl
def gS (n : Nat) (q : Qd) : Prop := q.1.natAbs < 2 ^ n /\ q.2.1.natAbs < 2 ^ n /\ q.2.2.1.natAbs < 2 ^ n /\ q.2.2.2.natAbs < 2 ^ n
theorem cM {a e : Int} {M N : Nat} (h : a.natAbs < M) (g : e.natAbs < N) : (a * e).natAbs < M * N := by
  rw [Int.natAbs_mul]
  exact Nat.mul_lt_mul'' h g
theorem wB {x y z w : Int} {K : Nat} (h1 : x.natAbs < K) (h2 : y.natAbs < K) (h3 : z.natAbs < K) (h4 : w.natAbs < K) : (x - y - z - w).natAbs < 4 * K /\ (x + y + z - w).natAbs < 4 * K /\ (x - y + z + w).natAbs < 4 * K /\ (x + y - z + w).natAbs < 4 * K := by
  have k : x.natAbs + y.natAbs + z.natAbs + w.natAbs < 4 * K := by omega
  have up : ∀ {p q : Nat} (r : Nat), p <= q -> p + r <= q + r := fun r h => Nat.add_le_add_right h r
  exact ⟨Nat.lt_of_le_of_lt (Nat.le_trans (Int.natAbs_sub_le _ _) (up _ (Nat.le_trans (Int.natAbs_sub_le _ _) (up _ (Int.natAbs_sub_le _ _))))) k, Nat.lt_of_le_of_lt (Nat.le_trans (Int.natAbs_sub_le _ _) (up _ (Nat.le_trans (Int.natAbs_add_le _ _) (up _ (Int.natAbs_add_le _ _))))) k,
    Nat.lt_of_le_of_lt (Nat.le_trans (Int.natAbs_add_le _ _) (up _ (Nat.le_trans (Int.natAbs_add_le _ _) (up _ (Int.natAbs_sub_le _ _))))) k, Nat.lt_of_le_of_lt (Nat.le_trans (Int.natAbs_add_le _ _) (up _ (Nat.le_trans (Int.natAbs_sub_le _ _) (up _ (Int.natAbs_add_le _ _))))) k⟩
theorem gv {p q : Qd} {m n : Nat} (h : gS m p) (g : gS n q) : gS (m + n + 2) (bf p q) := by
  have e : 2 ^ (m + n + 2) = 4 * (2 ^ m * 2 ^ n) := by rw [Nat.pow_add, Nat.pow_add]; omega
  obtain ⟨a1, a2, a3, a4⟩ := h
  obtain ⟨b1, b2, b3, b4⟩ := g
  unfold gS
  rw [e]
  exact ⟨(wB (cM a1 b1) (cM a2 b2) (cM a3 b3) (cM a4 b4)).1, (wB (cM a1 b2) (cM a2 b1) (cM a3 b4) (cM a4 b3)).2.1,
    (wB (cM a1 b3) (cM a2 b4) (cM a3 b1) (cM a4 b2)).2.2.1, (wB (cM a1 b4) (cM a2 b3) (cM a3 b2) (cM a4 b1)).2.2.2⟩
theorem gS.mono {p : Qd} {m n : Nat} (h : gS m p) (g : m <= n) : gS n p := by
  have e : 2 ^ m <= 2 ^ n := Nat.pow_le_pow_right (by decide) g
  obtain ⟨a1, a2, a3, a4⟩ := h
  exact ⟨Nat.lt_of_lt_of_le a1 e, Nat.lt_of_lt_of_le a2 e, Nat.lt_of_lt_of_le a3 e, Nat.lt_of_lt_of_le a4 e⟩
theorem gS.bd {p : Qd} {n : Nat} (h : gS n p) (g : n <= 9000) : nD p := by
  have h := h.mono g
  exact h
theorem Cf {p q : Qd} (h : nD p) (g : nD q) : (cg p.1 q.1 /\ cg p.2.1 q.2.1 /\ cg p.2.2.1 q.2.2.1 /\ cg p.2.2.2 q.2.2.2) /\ (cg p.1 q.2.1 /\ cg p.2.1 q.1 /\ cg p.2.2.1 q.2.2.2 /\ cg p.2.2.2 q.2.2.1) /\ (cg p.1 q.2.2.1 /\ cg p.2.1 q.2.2.2 /\ cg p.2.2.1 q.1 /\ cg p.2.2.2 q.2.1) /\ (cg p.1 q.2.2.2 /\ cg p.2.1 q.2.2.1 /\ cg p.2.2.1 q.2.1 /\ cg p.2.2.2 q.1) :=
  ⟨⟨cm h.1 g.1, cm h.2.1 g.2.1, cm h.2.2.1 g.2.2.1, cm h.2.2.2 g.2.2.2⟩, ⟨cm h.1 g.2.1, cm h.2.1 g.1, cm h.2.2.1 g.2.2.2, cm h.2.2.2 g.2.2.1⟩, ⟨cm h.1 g.2.2.1, cm h.2.1 g.2.2.2, cm h.2.2.1 g.1, cm h.2.2.2 g.2.1⟩, ⟨cm h.1 g.2.2.2, cm h.2.1 g.2.2.1, cm h.2.2.1 g.2.1, cm h.2.2.2 g.1⟩⟩
end K
set_option Elab.async false
set_option linter.all false
set_option maxRecDepth 100000
namespace K
open PySem L2 Sp
end K
set_option Elab.async false
set_option linter.all false
set_option maxRecDepth 100000
namespace K
open PySem L2 Sp Qm
abbrev bd (a b c d : Int) : Prop := a.natAbs < cu /\ b.natAbs < cu /\ c.natAbs < cu /\ d.natAbs < cu
def c8 (M : Nat) (q : Qd) : Prop := q.1.natAbs <= M /\ q.2.1.natAbs <= M /\ q.2.2.1.natAbs <= M /\ q.2.2.2.natAbs <= M
theorem Cg {M : Nat} {q : Qd} (h : c8 M q) (hM : M < cu) : bd q.1 q.2.1 q.2.2.1 q.2.2.2 :=
  ⟨Nat.lt_of_le_of_lt h.1 hM, Nat.lt_of_le_of_lt h.2.1 hM, Nat.lt_of_le_of_lt h.2.2.1 hM, Nat.lt_of_le_of_lt h.2.2.2 hM⟩
def EN (q : Qd) : Qd := (q.1, -q.2.1, -q.2.2.1, -q.2.2.2)
def Er : Qd := (0, 0, 0, 0)
theorem nO (x : Int) : 0 <= x * x := by
  rcases Int.le_total 0 x with h | h
  . exact Int.mul_nonneg h h
  . have := Int.mul_nonneg (show 0 <= -x by omega) (show 0 <= -x by omega); rwa [Int.neg_mul_neg] at this
end K
set_option Elab.async false
set_option linter.all false
set_option maxRecDepth 100000
namespace K
open PySem L2 Sp Qm
theorem oW {M N : Nat} {q : Qd} (h : c8 M q) (g : M <= N) : c8 N q := ⟨Nat.le_trans h.1 g, Nat.le_trans h.2.1 g, Nat.le_trans h.2.2.1 g, Nat.le_trans h.2.2.2 g⟩
theorem zd (x : Int) {n : Int} (h : 0 < n) : (x.fdiv n).natAbs <= x.natAbs := by
  rw [Int.fdiv_eq_ediv_of_nonneg _ (by omega)]
  exact Int.natAbs_ediv_le_natAbs x n
end K
set_option Elab.async false
set_option linter.all false
set_option maxRecDepth 100000
namespace K
open PySem L2 Sp Qm
end K
set_option Elab.async false
set_option linter.all false
set_option maxRecDepth 100000
namespace K
open PySem L2 Sp Qm
theorem iM {a b : Int} (h : a = b) : (!eqD (.int a) (.int b)) = false := by rw [h]; simp
theorem sD {a b : Int} (h : a = b) : eqD (.int a) (.int b) = true := by rw [h]; simp
end K
set_option Elab.async false
set_option linter.all false
set_option maxRecDepth 100000
namespace K
open PySem L2 Sp Qm
end K
set_option Elab.async false
set_option linter.all false
set_option maxRecDepth 100000
namespace K
open PySem L2 Sp Qm
end K
set_option Elab.async false
set_option linter.all false
set_option maxRecDepth 100000
namespace K
open PySem L2 Sp Qm
def xI (Φ : Fx) (sc : Scope) (tg : Expr) (body ss : List Stmt) (r : D) : List D -> al -> Prop
  | [], ρ => af (aE Φ ss sc ρ) (.rt r)
  | d :: l, ρ => ∃ ρ1, b8 sc tg d ρ = some ρ1 /\ ((∃ ρ2, af (aE Φ body sc ρ1) (.nx ρ2) /\ xI Φ sc tg body ss r l ρ2) \/ af (aE Φ body sc ρ1) (.rt r))
theorem xY {Φ : Fx} {sc : Scope} {ρ : al} {ss : List Stmt} {tg it : Expr} {body : List Stmt} {p : Pos} {d r : D} (ds : List D) {k : Nat} (hi : af (aC Φ it true sc (demote it ρ)) (d, k)) (h : xI Φ sc tg body ss r ds (demote it ρ)) (hd : items d = some ds := by rfl) (hk : k <= 1 := by first | exact Nat.le_refl 1 | exact Nat.zero_le 1) (ht : fy it tg = true := by rfl) : af (aE Φ (.For tg it body [] p :: ss) sc ρ) (.rt r) := by
  obtain ⟨r', h1, rfl⟩ := xX (ds := ds) (fun ds ρ => xI Φ sc tg body ss r ds ρ) (fun r' => r' = r) hi h (fun d l ρ ⟨ρ1, h1, h2⟩ => ⟨ρ1, h1, by
    rcases h2 with h2 | h2
    . exact .inl h2
    . exact .inr ⟨r, h2, rfl⟩⟩) (fun ρ' h => ⟨r, h, rfl⟩) hd hk ht
  exact h1
def dZ (c k : Int) : Int := if k.fmod 3 = 0 then (c * 1000003 ^ 4).fmod (2 * 10 ^ 20 + 1) - 10 ^ 20 else if k.fmod 3 = 1 then c.fmod 61 - 30 else c.fmod 7 - 3
theorem fV (c k : Int) : (dZ c k).natAbs <= 10 ^ 20 := by
  have h0 := Int.fmod_nonneg_of_pos (c * 1000003 ^ 4) (show (0 : Int) < 2 * 10 ^ 20 + 1 by decide)
  have h1 := Int.fmod_lt_of_pos (c * 1000003 ^ 4) (show (0 : Int) < 2 * 10 ^ 20 + 1 by decide)
  have g0 := Int.fmod_nonneg_of_pos c (show (0 : Int) < 61 by decide)
  have g1 := Int.fmod_lt_of_pos c (show (0 : Int) < 61 by decide)
  have f0 := Int.fmod_nonneg_of_pos c (show (0 : Int) < 7 by decide)
  have f1 := Int.fmod_lt_of_pos c (show (0 : Int) < 7 by decide)
  unfold dZ
  generalize (c * 1000003 ^ 4).fmod (2 * 10 ^ 20 + 1) = x at *
  split
  . omega
  . split <;> omega
abbrev d3 (x y z : Int) : D := .tup [.int x, .int y, .int z]
theorem aH {n m : Nat} (h : n <= 2 ^ m) (hm : m < 9000) : n < cu := Nat.lt_of_le_of_lt h (Nat.pow_lt_pow_right (by decide) hm)
end K
set_option Elab.async false
set_option linter.all false
set_option maxRecDepth 100000
namespace K
open PySem L2 Sp Qm
open Builtin.Int (intBits)
theorem zv {x : Int} {k : Nat} (h : intBits x <= k) : x.natAbs < 2 ^ k := by
  unfold intBits at h
  by_cases h0 : x = 0
  . subst h0; exact Nat.pow_pos (by decide)
  . rw [if_neg (by simpa using h0)] at h
    exact Nat.lt_of_lt_of_le Nat.lt_log2_self (Nat.pow_le_pow_right (by decide) h)
theorem yS {x : Int} {k : Nat} (h : x.natAbs < 2 ^ k) : intBits x <= k := by
  unfold intBits
  by_cases h0 : x = 0
  . rw [if_pos (by simpa using h0)]; exact Nat.zero_le _
  . rw [if_neg (by simpa using h0)]
    exact (Nat.log2_lt (by omega)).mpr h
def kW (l : List D) : Prop := ∃ ns : List Int, l = ns.map D.int /\ ∀ m ∈ ns, intBits m <= 2 ^ 20
theorem kW.okL {l : List D} (h : kW l) : okL l := let ⟨ns, e, _⟩ := h; ⟨ns, e⟩
theorem uF {ns : List Int} {n : Nat} (h : ∀ m ∈ ns, m.natAbs < 2 ^ n) (k : Int) : (d8 ns k).natAbs < 2 ^ n := by
  unfold d8
  split
  . exact Nat.pow_pos (by decide)
  . rw [List.getD_eq_getElem?_getD]
    cases e : ns[(k.fmod ns.length).toNat]? with
    | none => exact Nat.pow_pos (by decide)
    | some m => exact h m (List.mem_of_getElem? e)
theorem vW {ns : List Int} {n : Nat} (h : ∀ m ∈ ns, m.natAbs < 2 ^ n) (k : Int) : (lD ns k).natAbs < 2 ^ (n + 33) := by
  have hx := uF h k
  unfold lD
  have r0 := Int.fmod_nonneg_of_pos ((((d8 ns k).fmod 2147483647 + 7919 * k + 1) * 48271).fmod 2147483647 * 69621 + k) (show (0 : Int) < 2147483647 by decide)
  have r1 := Int.fmod_lt_of_pos ((((d8 ns k).fmod 2147483647 + 7919 * k + 1) * 48271).fmod 2147483647 * 69621 + k) (show (0 : Int) < 2147483647 by decide)
  generalize ((((d8 ns k).fmod 2147483647 + 7919 * k + 1) * 48271).fmod 2147483647 * 69621 + k).fmod 2147483647 = r at *
  generalize d8 ns k = x at *
  have e := Int.mul_fdiv_add_fmod x 2147483647
  have f0 := Int.fmod_nonneg_of_pos x (show (0 : Int) < 2147483647 by decide)
  have f1 := Int.fmod_lt_of_pos x (show (0 : Int) < 2147483647 by decide)
  generalize x.fdiv 2147483647 = q at *
  generalize x.fmod 2147483647 = f at *
  have e2 : 2 ^ (n + 33) = 2 ^ n * 8589934592 := by rw [Nat.pow_add]
  have p : 1 <= 2 ^ n := Nat.one_le_two_pow
  rw [e2]
  generalize 2 ^ n = N at *
  omega
theorem vX {l : List D} (h : kW l) (k : Int) : intBits (cn l k) <= 2 ^ 21 := by
  obtain ⟨ns, rfl, hb⟩ := h
  unfold cn
  rw [iJ]
  have key : ∀ n : Nat, (∀ m ∈ ns, intBits m <= n) -> intBits (lD ns k) <= n + 33 := fun n hn => yS (vW (fun m hm => zv (hn m hm)) k)
  exact Nat.le_trans (key _ hb) (by decide)
theorem jO {P : al -> Prop} {ρ C : al} (h : Sub C ρ) (k : ∀ ρ, Sub C ρ -> P ρ) : P ρ := k ρ h
theorem vZ : intBits (1000003 ^ 4) <= 2 ^ 22 := by decide
end K
set_option Elab.async false
set_option linter.all false
set_option maxRecDepth 100000
namespace K
open PySem L2 Sp Qm
def bO : Nat -> List Int -> Nat
  | g, [] => g
  | g, n :: r => bO (Nat.gcd g n.natAbs) r
@[irreducible] def fD (l : List D) : Int := (bO 0 (kN l) : Nat)
def okT (l : List D) : Prop := ∃ ns : List Int, l = ns.map D.int /\ ns.length <= 100 /\ ∀ n ∈ ns, n.natAbs < 2 ^ 1000
theorem Be {l : List D} (h : okT l) : okT l := h
theorem gG (ns : List Int) : fD (ns.map D.int) = (bO 0 ns : Nat) := by unfold fD; rw [iJ]
theorem gF : ∀ (ns : List Int) (g : Nat), bO g ns ∣ g /\ ∀ n ∈ ns, bO g ns ∣ n.natAbs
  | [], g => ⟨Nat.dvd_refl _, fun n h => by cases h⟩
  | n :: r, g => by
    obtain ⟨h1, h2⟩ := gF r (Nat.gcd g n.natAbs)
    refine ⟨Nat.dvd_trans h1 (Nat.gcd_dvd_left _ _), fun m hm => ?_⟩
    rcases List.mem_cons.mp hm with rfl | hm
    . exact Nat.dvd_trans h1 (Nat.gcd_dvd_right _ _)
    . exact h2 m hm
theorem kC {d : Nat} : ∀ (ns : List Int) (g : Nat), d ∣ g -> (∀ n ∈ ns, d ∣ n.natAbs) -> d ∣ bO g ns
  | [], g, h, _ => h
  | n :: r, g, h, k => kC r _ (Nat.dvd_gcd h (k n List.mem_cons_self)) fun m hm => k m (List.mem_cons_of_mem _ hm)
theorem ni {ns : List Int} {n : Int} (h : n ∈ ns) : ((bO 0 ns : Nat) : Int) ∣ n := Int.ofNat_dvd_left.mpr ((gF ns 0).2 n h)
theorem iR {ns : List Int} {n : Int} (h : n ∈ ns) (h0 : n ≠ 0) : 0 < bO 0 ns := by
  rcases Nat.eq_zero_or_pos (bO 0 ns) with e | e
  . have := (gF ns 0).2 n h
    rw [e] at this
    have := Nat.eq_zero_of_zero_dvd this
    omega
  . exact e
theorem vU {ns : List Int} {n m : Int} (h : n ∈ ns) (h0 : n ≠ 0) (hm : m ∈ ns) : m = (bO 0 ns : Nat) * m.fdiv (bO 0 ns : Nat) := by
  obtain ⟨u, e⟩ := ni hm
  have hp := iR h h0
  generalize bO 0 ns = g at *
  rw [e, Int.mul_fdiv_cancel_left _ (by omega)]
theorem EJ {ns : List Int} {n : Int} (h : n ∈ ns) (h0 : n ≠ 0) : bO 0 (ns.map fun m => m.fdiv (bO 0 ns : Nat)) = 1 := by
  have hp := iR h h0
  have key : ((bO 0 (ns.map fun m => m.fdiv (bO 0 ns : Nat))) * bO 0 ns) ∣ bO 0 ns := by
    refine kC ns 0 (Nat.dvd_zero _) fun m hm => ?_
    obtain ⟨u, e⟩ := (gF (ns.map fun m => m.fdiv (bO 0 ns : Nat)) 0).2 _ (List.mem_map.mpr ⟨m, hm, rfl⟩)
    have e2 := congrArg Int.natAbs (vU h h0 hm)
    rw [Int.natAbs_mul, Int.natAbs_natCast, e] at e2
    exact ⟨u, by rw [e2]; simp only [Nat.mul_comm, Nat.mul_left_comm, Nat.mul_assoc]⟩
  have := Nat.le_of_dvd hp key
  have h1 : bO 0 (ns.map fun m => m.fdiv (bO 0 ns : Nat)) <= 1 := by
    rcases Nat.lt_or_ge 1 (bO 0 (ns.map fun m => m.fdiv (bO 0 ns : Nat))) with q | q
    . have := Nat.mul_lt_mul_of_pos_right q hp
      omega
    . exact q
  have h2 : 0 < bO 0 (ns.map fun m => m.fdiv (bO 0 ns : Nat)) := iR (n := n.fdiv (bO 0 ns : Nat)) (List.mem_map.mpr ⟨n, h, rfl⟩) fun z => by
    have := vU h h0 h
    rw [z, Int.mul_zero] at this
    exact h0 this
  omega
theorem pf (c : Nat) : ∀ (ns : List Int) (g : Nat), bO (c * g) (ns.map fun m => (c : Int) * m) = c * bO g ns
  | [], g => rfl
  | n :: r, g => by
    show bO (Nat.gcd (c * g) ((c : Int) * n).natAbs) _ = _
    rw [Int.natAbs_mul, Int.natAbs_natCast, Nat.gcd_mul_left]
    exact pf c r _
theorem za {ns : List Int} {n : Int} (h : n ∈ ns) (h0 : n ≠ 0) : bO 0 ns <= n.natAbs := Nat.le_of_dvd (by omega) ((gF ns 0).2 n h)
theorem Bo (d : D) : kn d 1 <= 1 := by rcases Db (d := d) (k := 1) with q | q <;> omega
def uY (a b m : Nat) : Prop := (b <= a /\ a * b < 2 ^ m) \/ (a < b /\ a * b < 2 ^ (m - 1) /\ 1 <= m)
theorem rn {a b m : Nat} (h : uY a b m) (h0 : b ≠ 0) : ∃ m', m' < m /\ uY b (a % b) m' := by
  rcases h with ⟨h1, h2⟩ | ⟨h1, h2, h3⟩
  . have hm : 1 <= m := by
      rcases Nat.eq_zero_or_pos m with e | e
      . subst e
        have : 1 * 1 <= a * b := Nat.mul_le_mul (by omega) (by omega)
        omega
      . exact e
    refine ⟨m - 1, by omega, .inl ⟨Nat.le_of_lt (Nat.mod_lt _ (by omega)), ?_⟩⟩
    have e : 2 ^ m = 2 * 2 ^ (m - 1) := by rw [<- Nat.pow_succ']; congr 1; omega
    rw [e] at h2
    have hk : b + a % b <= a := by
      have := Nat.div_add_mod a b
      have q : 1 <= a / b := (Nat.one_le_div_iff (by omega)).mpr h1
      have := Nat.mul_le_mul_left b q
      omega
    have hlt := Nat.mod_lt a (show 0 < b by omega)
    have : b * (a % b) + b * (a % b) <= a * b := by
      rw [<- Nat.mul_add, Nat.mul_comm a b]
      exact Nat.mul_le_mul_left b (by omega)
    omega
  . refine ⟨m - 1, by omega, .inl ?_⟩
    rw [Nat.mod_eq_of_lt h1, Nat.mul_comm]
    exact ⟨Nat.le_of_lt h1, h2⟩
theorem BT {a b : Nat} (ha : a < 2 ^ 1000) (hb : b < 2 ^ 1000) : uY a b 2002 := by
  have h : a * b < 2 ^ 2001 := Nat.lt_of_lt_of_le (Nat.mul_lt_mul'' ha hb) (by rw [<- Nat.pow_add]; exact Nat.pow_le_pow_right (by decide) (by decide))
  rcases Nat.lt_or_ge a b with q | q
  . exact .inr ⟨q, h, by decide⟩
  . exact .inl ⟨q, Nat.lt_trans h (Nat.pow_lt_pow_right (by decide) (by decide))⟩
theorem pr (a b : Nat) : (a : Int).fmod b = ((a % b : Nat) : Int) := by
  rw [Int.fmod_eq_emod_of_nonneg _ (by omega)]; rfl
theorem BI (a b : Nat) : (-(a : Int)).fmod (-(b : Int)) = -((a % b : Nat) : Int) := by
  rw [Int.neg_fmod_neg, pr]
theorem wA {Φ : Fx} {sc : Scope} {ρ : al} {c : Expr} {body : List Stmt} {p : Pos} {m : Nat} {P : al -> Prop} (am : Nat -> al -> Prop) (h0 : am m ρ) (hm : m < cP)
    (step : ∀ m ρ, am m ρ -> ∃ b k, af (aC Φ c false sc ρ) (.bl b, k) /\ (b = true -> ∃ m' ρ2, m' < m /\ af (aE Φ body sc ρ) (.nx ρ2) /\ am m' ρ2)) (cw : ∀ m ρ', am m ρ' -> (∃ k, af (aC Φ c false sc ρ') (.bl false, k)) -> P ρ') : ∃ ρ', af (aE Φ [.While c body [] p] sc ρ) (.nx ρ') /\ P ρ' := by
  obtain ⟨m', ρ', h1, h2, h3⟩ := nX (test := fun ρ => (aC Φ c false sc ρ).bnd fun p => gY p fun b => .ok b []) (body := aE Φ body sc) am (fun m ρ h => by
    obtain ⟨b, k, a1, a2⟩ := step m ρ h
    exact ⟨b, a1.bnd (ii rfl cU), a2⟩) h0 hm
  obtain ⟨q, h4, h5⟩ := aw h3
  obtain ⟨t, ht, h5⟩ := fU h5
  cases aK h5
  obtain ⟨q1, q2⟩ := q
  have ht : q1 = .bl false := ht
  subst ht
  exact ⟨ρ', bt (pA h1) kO, cw m' ρ' h2 ⟨q2, h4⟩⟩
def mV (s : Bool) (a : Nat) : Int := cond s (-(a : Int)) a
theorem CI (s : Bool) (a b : Nat) : (mV s a).fmod (mV s b) = mV s (a % b) := by
  cases s
  . exact pr a b
  . exact BI a b
theorem tJ (s : Bool) (a : Nat) : (mV s a).natAbs = a := by
  cases s
  . rfl
  . exact Int.natAbs_neg _
theorem ve (x y : Int) (h : y ≠ 0) : ∃ (s : Bool) (a b : Nat), y = mV s a /\ x.fmod y = mV s b /\ Nat.gcd a b = Nat.gcd x.natAbs y.natAbs /\ a = y.natAbs /\ b < a := by
  have hg : Nat.gcd y.natAbs (x.fmod y).natAbs = Nat.gcd x.natAbs y.natAbs := by
    have e := Int.mul_fdiv_add_fmod x y
    have : Int.gcd y (x.fmod y) = Int.gcd y x := by
      conv => rhs; rw [<- e]
      rw [Int.gcd_mul_left_add_right]
    rw [show Nat.gcd y.natAbs (x.fmod y).natAbs = Int.gcd y (x.fmod y) from rfl, this, Int.gcd_comm]; rfl
  by_cases hy : 0 < y
  . have h0 := Int.fmod_nonneg_of_pos x hy
    have h1 := Int.fmod_lt_of_pos x hy
    refine ⟨false, y.natAbs, (x.fmod y).natAbs, ?_, ?_, hg, rfl, by omega⟩
    . show y = ((y.natAbs : Nat) : Int); omega
    . show x.fmod y = (((x.fmod y).natAbs : Nat) : Int); omega
  . have e : x.fmod y = -((-x).fmod (-y)) := by
      have := Int.neg_fmod_neg (-x) (-y)
      rw [Int.neg_neg, Int.neg_neg] at this
      exact this
    have hy' : 0 < -y := by omega
    have h0 := Int.fmod_nonneg_of_pos (-x) hy'
    have h1 := Int.fmod_lt_of_pos (-x) hy'
    refine ⟨true, y.natAbs, (x.fmod y).natAbs, ?_, ?_, hg, rfl, by omega⟩
    . show y = -((y.natAbs : Nat) : Int); omega
    . show x.fmod y = -(((x.fmod y).natAbs : Nat) : Int); omega
def xK (u v : Int) (m : Nat) : Prop := m = 3000 \/ ∃ (s : Bool) (a b : Nat), u = mV s a /\ v = mV s b /\ uY a b m
theorem pG {u v : Int} {m : Nat} (h : xK u v m) (h0 : v ≠ 0) (hv : v.natAbs < 2 ^ 1000) : (∃ m', m' < m /\ xK v (u.fmod v) m') /\ Nat.gcd v.natAbs (u.fmod v).natAbs = Nat.gcd u.natAbs v.natAbs /\ (u.fmod v).natAbs < 2 ^ 1000 := by
  obtain ⟨s, a, b, e1, e2, e3, e4, e5⟩ := ve u v h0
  have ha : v.natAbs = a := by rw [e1, tJ]
  have hb : (u.fmod v).natAbs = b := by rw [e2, tJ]
  refine ⟨?_, by rw [<- e3, ha, hb], by rw [hb]; omega⟩
  rcases h with h | ⟨t, x, y, h1, h2, h3⟩
  . exact ⟨2002, by omega, .inr ⟨s, a, b, e1, e2, BT (by omega) (by omega)⟩⟩
  . have hy : y ≠ 0 := by
      intro z; subst z; subst h2; apply h0; cases t <;> rfl
    obtain ⟨m', hm, hE⟩ := rn h3 hy
    exact ⟨m', hm, .inr ⟨t, y, x % y, h2, by rw [h1, h2, CI], hE⟩⟩
end K
set_option Elab.async false
set_option linter.all false
set_option maxRecDepth 100000
namespace K
open PySem L2 Sp Qm
def rH (Φ : Fx) (sc : Scope) (tg : Expr) (body : List Stmt) (P : al -> Prop) : List D -> al -> Prop
  | [], ρ => P ρ
  | d :: l, ρ => ∃ ρ1, b8 sc tg d ρ = some ρ1 /\ ∃ ρ2, af (aE Φ body sc ρ1) (.nx ρ2) /\ rH Φ sc tg body P l ρ2
theorem mq {Φ : Fx} {sc : Scope} {ρ : al} {tg it : Expr} {body : List Stmt} {p : Pos} {d : D} {P : al -> Prop} (ds : List D) {k : Nat} (hi : af (aC Φ it true sc (demote it ρ)) (d, k)) (h : rH Φ sc tg body P ds (demote it ρ)) (hd : items d = some ds := by rfl) (hk : k <= 1 := by first | exact Nat.le_refl 1 | exact Nat.zero_le 1) (ht : fy it tg = true := by rfl) : ∃ ρ', af (aE Φ [.For tg it body [] p] sc ρ) (.nx ρ') /\ P ρ' := by
  obtain ⟨ρ', h1, h2⟩ := kz (bind := b8 sc tg) (body := aE Φ body sc) (fun ds ρ => rH Φ sc tg body P ds ρ) (fun d l ρ ⟨ρ1, a, ρ2, b, c⟩ => ⟨ρ1, ρ2, a, .inl b, c⟩) h
  exact ⟨ρ', bt (lu hi hd hk ht h1) kO, h2⟩
theorem BN {Φ : Fx} {sc : Scope} {ρ ρ' : al} {es : List Expr} {e : Expr} {n : Nat} {p q : Pos} {d : D} {ds : List D} {k : Nat} (h : af (aC Φ e false sc ρ) (d, k)) (hs : fK d = some ds) (hk : aA ds = true \/ k <= 1) (hb : aR sc es ds ρ = some ρ') (ht : iw e = false := by rfl) : af (eN Φ (.Assign [.Tuple es n p] e q) sc ρ) (.nx ρ') := by
  show af (if n9 sc es e = true then lw Φ es e sc ρ else _) _
  rw [if_neg (by unfold n9; rw [ht]; exact Bool.false_ne_true)]
  refine af.bnd h ?_
  dsimp only
  rw [hs]; dsimp only
  rw [if_pos hk, hb]
  exact cU
def gI (ns : List Int) : Int := (bO 0 ns : Nat)
theorem fC (ns : List Int) : fD (ns.map D.int) = gI ns := gG ns
theorem iz {ns : List Int} {n : Int} (h : n ∈ ns) (h0 : n ≠ 0) : 0 < gI ns := by have := iR h h0; unfold gI; omega
theorem eF {ns : List Int} {n m : Int} (h : n ∈ ns) (h0 : n ≠ 0) (hm : m ∈ ns) : m = gI ns * m.fdiv (gI ns) := vU h h0 hm
theorem pi {ns : List Int} {n : Int} (h : n ∈ ns) (h0 : n ≠ 0) : gI (ns.map fun m => m.fdiv (gI ns)) = 1 := by
  have := EJ h h0
  unfold gI; rw [this]; rfl
theorem BF {c : Int} (hc : 0 < c) (ns : List Int) : gI (ns.map fun m => c * m) = c * gI ns := by
  obtain ⟨k, rfl⟩ := Int.eq_ofNat_of_zero_le (Int.le_of_lt hc)
  have := pf k ns 0
  unfold gI
  rw [Nat.mul_zero] at this
  rw [this]; simp
theorem xp {ns : List Int} {n : Int} (h : n ∈ ns) (h0 : n ≠ 0) : (gI ns).natAbs <= n.natAbs := by
  have := za h h0
  unfold gI; omega
theorem iB {x g : Int} (hg : 0 < g) : (x.fdiv g).natAbs <= x.natAbs := zd x hg
theorem pw {n g : Int} (hg : 0 < g) (hn : 0 < n) (e : n = g * n.fdiv g) : 0 < n.fdiv g := by
  rcases Int.lt_or_le 0 (n.fdiv g) with h | h
  . exact h
  . have := Int.mul_le_mul_of_nonneg_left h (Int.le_of_lt hg)
    rw [Int.mul_zero, <- e] at this
    omega
theorem gD {ns : List Int} {k : Nat} (hk : k <= 999) (hl : ns.length <= 100) (h : ∀ n ∈ ns, n.natAbs <= 2 ^ k) : okT (ns.map D.int) :=
  ⟨ns, rfl, hl, fun n hn => Nat.lt_of_le_of_lt (h n hn) (Nat.pow_lt_pow_right (by decide) (by omega))⟩
abbrev bM (a b c x y z : Int) : Int := a * x + (b * y + (c * z + 0))
theorem vg {i : Int} (h0 : 0 <= i) (h1 : i < 4) (a b c d v : Int) : ∃ a' b' c' d' : Int, oq [.int a, .int b, .int c, .int d] i (.int v) = some [.int a', .int b', .int c', .int d'] /\ (∀ P : Int -> Prop, P a -> P b -> P c -> P d -> P v -> P a' /\ P b' /\ P c' /\ P d') /\ (v ≠ 0 -> ¬ (a' = 0 /\ b' = 0 /\ c' = 0 /\ d' = 0)) := by
  have : i = 0 \/ i = 1 \/ i = 2 \/ i = 3 := by omega
  rcases this with rfl | rfl | rfl | rfl
  . exact ⟨v, b, c, d, rfl, fun P p1 p2 p3 p4 p5 => ⟨p5, p2, p3, p4⟩, fun h z => h z.1⟩
  . exact ⟨a, v, c, d, rfl, fun P p1 p2 p3 p4 p5 => ⟨p1, p5, p3, p4⟩, fun h z => h z.2.1⟩
  . exact ⟨a, b, v, d, rfl, fun P p1 p2 p3 p4 p5 => ⟨p1, p2, p5, p4⟩, fun h z => h z.2.2.1⟩
  . exact ⟨a, b, c, v, rfl, fun P p1 p2 p3 p4 p5 => ⟨p1, p2, p3, p5⟩, fun h z => h z.2.2.2⟩
def cj (x : Int) : Prop := x.natAbs <= 10 ^ 20
theorem wf (a b c d : Int) : (([a, b, c, d] : List Int).any fun n => n != 0) = !decide (a = 0 /\ b = 0 /\ c = 0 /\ d = 0) := by
  by_cases h1 : a = 0 <;> by_cases h2 : b = 0 <;> by_cases h3 : c = 0 <;> by_cases h4 : d = 0 <;> simp [h1, h2, h3, h4]
end K
set_option Elab.async false
set_option linter.all false
set_option maxRecDepth 100000
namespace K
open PySem L2 Sp Qm
end K
set_option Elab.async false
set_option linter.all false
set_option maxRecDepth 100000
namespace K
open PySem PySem.Spec PyProof.Rows L2 Sp Qm
theorem BB {Φ : Fx} {sc : Scope} {ps fs : List Str} {args : List Expr} {n : Str} {ds q : List D} {k : Nat} (hl : ds.length + 1 = ps.length) (h : af (bW Φ args sc (cV ps (.obj n [] [] :: ds))) (q, k)) (hq : q.length = fs.length) (h1 : aA q = true) (h2 : fg q = true) : af (gn Φ sc ps args n fs ds) (.obj n fs q) := by
  unfold gn
  rw [if_pos hl]
  refine af.bnd h ?_
  dsimp only
  rw [if_pos hq]
  exact cK rfl ⟨h1, h2, True.intro⟩
theorem b7 {Φ : Fx} {sc : Scope} {ρ : al} {a : Expr} {m n : Str} {ap cp : Pos} {args : List Expr} {it : Bool} {ns : List Str} {es ds : List D} {k j : Nat} {F : List D -> Rs D} {d : D} (ha : af (aC Φ a false sc ρ) (.obj n ns es, k)) (hs : af (bW Φ args sc ρ) (ds, j)) (hF : Φ.omt n m = some F) (h : af (F (.obj n ns es :: ds)) d)
    (hl : (ap.endLine == cp.line) = true := by rfl) (hn : ns.contains m = false := by rfl) (hb : gL a = true := by rfl) (hf : ds.length < 29 := by exact Nat.le_of_ble_eq_true rfl) : af (aC Φ (.Call (.Attribute a m ap) args [] cp) it sc ρ) (d, 0) := by
  rw [kB, if_pos hl]
  refine af.bnd ha (af.bnd hs ?_)
  unfold sh
  dsimp only
  rw [if_pos ⟨hn, hb, hf⟩, hF]
  exact af.bnd h cU
theorem uI {X : Cx} (hc : X.calm = true) : c7 X (.builtin "any") (fun xs H Q => ∃ (p : Addr) (ns : List Int), xs = [.ref p] /\ cz X.K H p (ns.map V.int) /\ Q (.bl (ns.any fun n => n != 0)) H) := by
  intro pins s σ H xs us Q I r h
  obtain ⟨p, ns, rfl, hq, q⟩ := h
  obtain ⟨u, rfl, rx⟩ := eL r
  cases rx
  obtain ⟨its, rv, pl, hz⟩ := I.tuple hq
  have hlen : its.length = ns.length := by have := rv.length; simpa using this.symm
  have hl : s.heap.IsTuple p its.toArray := by obtain ⟨o, e, c, n, d⟩ := pl; exact ⟨o, e, c, n, d⟩
  have hlt : p < s.heap.objs.size := by obtain ⟨_, e, _⟩ := hl; exact Heap.lt_size e
  refine call_any_walk (wpAny_pyIter_tuple hl ?_)
  refine ⟨_, _, _, _, _, _, fun i => (ns.getD i 0 != 0), rfl, Walks.tuple (A := X.A.in1) (by exact I.ok.hd hc) _ p (Nat.ne_of_lt hlt) its.toArray, ⟨⟨_, Heap.get?_push_size _ rfl, rfl, rfl⟩, hl.at fun o e => Heap.get?_push_of_some _ e⟩, ?_, fun h' tk hk => ?_⟩
  . intro i v s' Q' E' hP hQ
    have hP : (its.toArray)[i]? = some v := hP
    simp only [List.getElem?_toArray] at hP
    have hi : i < ns.length := by rw [<- hlen]; exact (List.getElem?_eq_some_iff.mp hP).1
    obtain ⟨w, hw, rw'⟩ := rv.get (i := i) (x := V.int ns[i]) (by simp [hi])
    rw [hP] at hw; cases hw
    obtain ⟨t, rfl⟩ := rw'
    refine PyProof.Rows.truthy_int ?_
    have : ns.getD i 0 = ns[i] := by rw [List.getD_eq_getElem?_getD, List.getElem?_eq_getElem hi]; rfl
    rw [<- this]; exact hQ
  . have : ((List.range its.toArray.size).any fun i => (ns.getD i 0 != 0)) = ns.any fun n => n != 0 := by
      simp only [List.size_toArray, hlen]
      rw [Bool.eq_iff_iff, List.any_eq_true, List.any_eq_true]
      constructor
      . rintro ⟨i, hi, h⟩
        have hi := List.mem_range.mp hi
        rw [List.getD_eq_getElem?_getD, List.getElem?_eq_getElem hi] at h
        exact ⟨_, List.getElem_mem hi, h⟩
      . rintro ⟨x, hx, h⟩
        obtain ⟨i, hi, rfl⟩ := List.mem_iff_getElem.mp hx
        exact ⟨i, List.mem_range.mpr hi, by rw [List.getD_eq_getElem?_getD, List.getElem?_eq_getElem hi]; exact h⟩
    rw [this]
    refine ⟨.bl _, H, I.kept (fun b o e => hk b o (fun hm => ?_) (Heap.get?_push_of_some _ e)), rfl, q⟩
    have hb : b = s.heap.objs.size := by simpa using hm
    subst hb
    exact absurd (Heap.lt_size e) (Nat.lt_irrefl _)
def sK (ds : List D) : R1 :=
  match ds with
  | [.tup l] => (match dg l with | some ns => .ok (.bl (ns.any fun n => n != 0), 0) [] | none => .st)
  | ds => wa ds
theorem v9 : dJ "any" sK := by
  refine ⟨by decide +kernel, by decide +kernel, by decide +kernel, rfl, fun X ds z l o hc h hp => ?_⟩
  unfold sK at h
  split at h
  . split at h
    . rename_i ns e
      refine .inl ⟨"any", by decide +kernel, ?_⟩
      cases h
      cases gX e
      refine ⟨_, uI hc, fun ow H0 H2 vs P Q o s rx q => ?_⟩
      obtain ⟨v, rfl, ry⟩ := rx.only
      rw [ak] at ry
      obtain ⟨a, ws, rfl, hs, rl⟩ := ry
      exact ⟨a, ns, rfl, by rw [<- rl.mapInt]; exact hs, q _ _ (az.refl _) (by rw [ak])⟩
    . cases h
  . exact zG.2.2.2.2 X _ z l o hc h hp
theorem ph : ∀ (ns ms : List Int) (g : Nat), ns.map Int.natAbs = ms.map Int.natAbs -> bO g ns = bO g ms
  | [], [], g, _ => rfl
  | [], _ :: _, g, h => by cases h
  | _ :: _, [], g, h => by cases h
  | n :: ns, m :: ms, g, h => by
    have h1 : n.natAbs = m.natAbs /\ ns.map Int.natAbs = ms.map Int.natAbs := by simpa using h
    show bO (Nat.gcd g n.natAbs) ns = bO (Nat.gcd g m.natAbs) ms
    rw [h1.1]
    exact ph ns ms _ h1.2
theorem pj {ns ms : List Int} (h : ns.map Int.natAbs = ms.map Int.natAbs) : gI ns = gI ms := by unfold gI; rw [ph ns ms 0 h]
theorem jv {d : Int} {ns : List Int} (h : ∀ m ∈ ns, d ∣ m) : d ∣ gI ns := by
  unfold gI
  have := kC (d := d.natAbs) ns 0 (Nat.dvd_zero _) fun n hn => Int.natAbs_dvd_natAbs.mpr (h n hn)
  exact Int.natAbs_dvd.mp (Int.ofNat_dvd.mpr this)
theorem uv {ns : List Int} {n : Int} (h : n ∈ ns) : gI ns ∣ n := ni h
theorem iA (k a b c d : Int) (hk : k ≠ 0) : gI [k * a, k * b, k * c, k * d] = (k.natAbs : Int) * gI [a, b, c, d] := by
  rw [<- BF (c := (k.natAbs : Int)) (by omega) [a, b, c, d]]
  apply pj
  simp [Int.natAbs_mul]
def cQ (a b c d : Int) : Int := if a ≠ 0 then a else if b ≠ 0 then b else if c ≠ 0 then c else d
theorem fB {k : Int} (a b c d : Int) (hk : k ≠ 0) : cQ (k * a) (k * b) (k * c) (k * d) = k * cQ a b c d := by
  unfold cQ
  have e : ∀ x : Int, (k * x ≠ 0) = (x ≠ 0) := fun x => by
    apply propext
    constructor
    . intro h z; subst z; simp at h
    . intro h z; rcases Int.mul_eq_zero.mp z with q | q
      . exact hk q
      . exact h q
  simp only [e]
  by_cases ha : a ≠ 0
  . rw [if_pos ha, if_pos ha]
  . rw [if_neg ha, if_neg ha]
    by_cases hb : b ≠ 0
    . rw [if_pos hb, if_pos hb]
    . rw [if_neg hb, if_neg hb]
      by_cases hc : c ≠ 0
      . rw [if_pos hc, if_pos hc]
      . rw [if_neg hc, if_neg hc]
theorem rc {a b c d : Int} (h : ¬ (a = 0 /\ b = 0 /\ c = 0 /\ d = 0)) : cQ a b c d ≠ 0 := by
  unfold cQ
  split
  . assumption
  . split
    . assumption
    . split
      . assumption
      . intro z; apply h; omega
structure Pm (a b c d : Int) : Prop where
  one : gI [a, b, c, d] = 1
  pos : 0 < cQ a b c d
theorem Pm.ne {a b c d : Int} (h : Pm a b c d) : ¬ (a = 0 /\ b = 0 /\ c = 0 /\ d = 0) := by
  rintro ⟨rfl, rfl, rfl, rfl⟩
  have := h.pos
  simp [cQ] at this
theorem me {x y z w : Int} (h : ¬ (x = 0 /\ y = 0 /\ z = 0 /\ w = 0)) : ∃ k a b c d : Int, k ≠ 0 /\ x = k * a /\ y = k * b /\ z = k * c /\ w = k * d /\ Pm a b c d /\ k.natAbs = (gI [x, y, z, w]).natAbs := by
  obtain ⟨v, hv, hv0⟩ : ∃ v ∈ [x, y, z, w], v ≠ 0 := by
    by_cases hx : x = 0
    . by_cases hy : y = 0
      . by_cases hz : z = 0
        . exact ⟨w, by simp, fun q => h ⟨hx, hy, hz, q⟩⟩
        . exact ⟨z, by simp, hz⟩
      . exact ⟨y, by simp, hy⟩
    . exact ⟨x, by simp, hx⟩
  have g0 := iz hv hv0
  have ex := eF (m := x) hv hv0 (by simp)
  have ey := eF (m := y) hv hv0 (by simp)
  have ez := eF (m := z) hv hv0 (by simp)
  have ew := eF (m := w) hv hv0 (by simp)
  have one := pi hv hv0
  simp only [List.map_cons, List.map_nil] at one
  generalize gI [x, y, z, w] = g at *
  generalize x.fdiv g = a at *
  generalize y.fdiv g = b at *
  generalize z.fdiv g = c at *
  generalize w.fdiv g = d at *
  have hn : ¬ (a = 0 /\ b = 0 /\ c = 0 /\ d = 0) := by
    rintro ⟨rfl, rfl, rfl, rfl⟩
    apply h
    simp at ex ey ez ew
    exact ⟨ex, ey, ez, ew⟩
  have hl := rc hn
  rcases Int.lt_or_gt_of_ne hl with q | q
  . refine ⟨-g, -a, -b, -c, -d, by omega, by rw [Int.neg_mul_neg]; exact ex, by rw [Int.neg_mul_neg]; exact ey, by rw [Int.neg_mul_neg]; exact ez, by rw [Int.neg_mul_neg]; exact ew, ⟨?_, ?_⟩, by rw [Int.natAbs_neg]⟩
    . rw [<- one]; apply pj; simp
    . have := fB (k := -1) a b c d (by decide)
      simp only [Int.neg_mul, Int.one_mul] at this
      rw [this]; omega
  . exact ⟨g, a, b, c, d, by omega, ex, ey, ez, ew, ⟨one, q⟩, rfl⟩
theorem tR {a b c d : Int} (h : Pm a b c d) : ∃ k : Int, (k = 1 \/ k = -1) /\ Pm (k * a) (k * -b) (k * -c) (k * -d) := by
  have hn : ¬ (a = 0 /\ -b = 0 /\ -c = 0 /\ -d = 0) := fun z => h.ne ⟨z.1, by omega, by omega, by omega⟩
  have hl := rc hn
  have g1 : gI [a, -b, -c, -d] = 1 := by rw [<- h.one]; apply pj; simp
  rcases Int.lt_or_gt_of_ne hl with q | q
  . refine ⟨-1, .inr rfl, ?_, ?_⟩
    . rw [iA _ _ _ _ _ (by decide), g1]; rfl
    . rw [fB _ _ _ _ (by decide)]; omega
  . refine ⟨1, .inl rfl, ?_, ?_⟩
    . rw [iA _ _ _ _ _ (by decide), g1]; rfl
    . rw [fB _ _ _ _ (by decide)]; omega
def n4 (a b c d : Int) : Int := a * a + b * b + c * c + d * d
def fw (a b c d : Int) : Int := a * a + b * b - c * c - d * d
def fc (a b c d : Int) : Int := 2 * b * c - 2 * a * d
def eZ (a b c d : Int) : Int := 2 * b * d + 2 * a * c
def eY (a b c d : Int) : Int := 2 * b * c + 2 * a * d
def fv (a b c d : Int) : Int := a * a - b * b + c * c - d * d
def eV (a b c d : Int) : Int := 2 * c * d - 2 * a * b
def eU (a b c d : Int) : Int := 2 * b * d - 2 * a * c
def eT (a b c d : Int) : Int := 2 * c * d + 2 * a * b
def fu (a b c d : Int) : Int := a * a - b * b - c * c + d * d
def ci (a b c d : Int) : List Int := [n4 a b c d, fw a b c d, fc a b c d, eZ a b c d, eY a b c d, fv a b c d, eV a b c d, eU a b c d, eT a b c d, fu a b c d]
theorem jg {x : Int} (h : x ≠ 0) : 0 < x * x := by
  rcases Int.lt_or_gt_of_ne h with q | q
  . exact Int.mul_pos_of_neg_of_neg q q
  . exact Int.mul_pos q q
theorem oQ {a b c d : Int} (h : ¬ (a = 0 /\ b = 0 /\ c = 0 /\ d = 0)) : 0 < n4 a b c d := by
  unfold n4
  have h1 := nO a; have h2 := nO b; have h3 := nO c; have h4 := nO d
  by_cases ha : a = 0
  . by_cases hb : b = 0
    . by_cases hc : c = 0
      . have := jg (x := d) (fun q => h ⟨ha, hb, hc, q⟩); omega
      . have := jg hc; omega
    . have := jg hb; omega
  . have := jg ha; omega
theorem tW {x : Int} (h : x % 2 = 1) : ∃ k, x * x = 8 * k + 1 := by
  obtain ⟨u, rfl⟩ : ∃ u, x = 2 * u + 1 := ⟨x / 2, by omega⟩
  have hu : u % 2 = 0 \/ u % 2 = 1 := by omega
  rcases hu with q | q
  . obtain ⟨v, rfl⟩ : ∃ v, u = 2 * v := ⟨u / 2, by omega⟩
    exact ⟨2 * v * v + v, by grind⟩
  . obtain ⟨v, rfl⟩ : ∃ v, u = 2 * v + 1 := ⟨u / 2, by omega⟩
    exact ⟨2 * v * v + 3 * v + 1, by grind⟩
theorem Fh {x : Int} (h : x % 2 = 0) : ∃ k, x * x = 4 * k := by
  obtain ⟨u, rfl⟩ : ∃ u, x = 2 * u := ⟨x / 2, by omega⟩
  exact ⟨u * u, by grind⟩
theorem qU {x y : Int} (h : x % 2 = 1) (h' : y % 2 = 1) : ∃ k, x * y = 2 * k + 1 := by
  obtain ⟨u, rfl⟩ : ∃ u, x = 2 * u + 1 := ⟨x / 2, by omega⟩
  obtain ⟨v, rfl⟩ : ∃ v, y = 2 * v + 1 := ⟨y / 2, by omega⟩
  exact ⟨2 * u * v + u + v, by grind⟩
theorem EI {g a b c d : Int} (h1 : gI [a, b, c, d] = 1) (h : ∀ x ∈ [a, b, c, d], ∀ y ∈ [a, b, c, d], g ∣ 4 * (x * y)) : g ∣ 4 := by
  have one : ∀ y ∈ [a, b, c, d], g ∣ 4 * y := fun y hy => by
    by_cases y0 : y = 0
    . subst y0; exact ⟨0, by simp⟩
    . have k := jv (d := g) (ns := [(4 * y) * a, (4 * y) * b, (4 * y) * c, (4 * y) * d]) (by
        intro m hm
        simp only [List.mem_cons, List.not_mem_nil, or_false] at hm
        have q : ∀ x ∈ [a, b, c, d], g ∣ 4 * y * x := fun x hx => by
          have := h x hx y hy
          rwa [show 4 * y * x = 4 * (x * y) by grind]
        rcases hm with rfl | rfl | rfl | rfl
        . exact q a (by simp)
        . exact q b (by simp)
        . exact q c (by simp)
        . exact q d (by simp))
      rw [iA _ _ _ _ _ (by omega), h1, Int.mul_one] at k
      exact Int.dvd_natAbs.mp k
  have k := jv (d := g) (ns := [4 * a, 4 * b, 4 * c, 4 * d]) (by
    intro m hm
    simp only [List.mem_cons, List.not_mem_nil, or_false] at hm
    rcases hm with rfl | rfl | rfl | rfl
    . exact one a (by simp)
    . exact one b (by simp)
    . exact one c (by simp)
    . exact one d (by simp))
  rw [iA _ _ _ _ _ (by decide), h1] at k
  exact k
theorem xR {a b c d : Int} (h : Pm a b c d) : gI (ci a b c d) ∣ 4 := by
  have q : ∀ x ∈ ci a b c d, gI (ci a b c d) ∣ x := fun x hx => uv hx
  generalize gI (ci a b c d) = g at *
  have e : g ∣ n4 a b c d := q _ (by simp [ci])
  have e0 : g ∣ fw a b c d := q _ (by simp [ci])
  have e1 : g ∣ fc a b c d := q _ (by simp [ci])
  have e2 : g ∣ eZ a b c d := q _ (by simp [ci])
  have e3 : g ∣ eY a b c d := q _ (by simp [ci])
  have e4 : g ∣ fv a b c d := q _ (by simp [ci])
  have e5 : g ∣ eV a b c d := q _ (by simp [ci])
  have e6 : g ∣ eU a b c d := q _ (by simp [ci])
  have e7 : g ∣ eT a b c d := q _ (by simp [ci])
  have e8 : g ∣ fu a b c d := q _ (by simp [ci])
  obtain ⟨k, hk⟩ := e; obtain ⟨k0, h0⟩ := e0; obtain ⟨k1, h1⟩ := e1; obtain ⟨k2, h2⟩ := e2; obtain ⟨k3, h3⟩ := e3
  obtain ⟨k4, h4⟩ := e4; obtain ⟨k5, h5⟩ := e5; obtain ⟨k6, h6⟩ := e6; obtain ⟨k7, h7⟩ := e7; obtain ⟨k8, h8⟩ := e8
  simp only [n4, fw, fc, eZ, eY, fv, eV, eU, eT, fu] at hk h0 h1 h2 h3 h4 h5 h6 h7 h8
  apply EI h.one
  have aa : g ∣ 4 * (a * a) := ⟨k + k0 + k4 + k8, by grind⟩
  have bb : g ∣ 4 * (b * b) := ⟨k + k0 - k4 - k8, by grind⟩
  have cc : g ∣ 4 * (c * c) := ⟨k - k0 + k4 - k8, by grind⟩
  have dd : g ∣ 4 * (d * d) := ⟨k - k0 - k4 + k8, by grind⟩
  have bc : g ∣ 4 * (b * c) := ⟨k1 + k3, by grind⟩
  have ad : g ∣ 4 * (a * d) := ⟨k3 - k1, by grind⟩
  have bd : g ∣ 4 * (b * d) := ⟨k2 + k6, by grind⟩
  have ac : g ∣ 4 * (a * c) := ⟨k2 - k6, by grind⟩
  have cd : g ∣ 4 * (c * d) := ⟨k5 + k7, by grind⟩
  have ab : g ∣ 4 * (a * b) := ⟨k7 - k5, by grind⟩
  have ba : g ∣ 4 * (b * a) := by rw [Int.mul_comm b a]; exact ab
  have ca : g ∣ 4 * (c * a) := by rw [Int.mul_comm c a]; exact ac
  have da : g ∣ 4 * (d * a) := by rw [Int.mul_comm d a]; exact ad
  have cb : g ∣ 4 * (c * b) := by rw [Int.mul_comm c b]; exact bc
  have db : g ∣ 4 * (d * b) := by rw [Int.mul_comm d b]; exact bd
  have dc : g ∣ 4 * (d * c) := by rw [Int.mul_comm d c]; exact cd
  intro x hx y hy
  simp only [List.mem_cons, List.not_mem_nil, or_false] at hx hy
  rcases hx with hx | hx | hx | hx <;> rcases hy with hy | hy | hy | hy <;> rw [hx, hy] <;> assumption
theorem B7 {a b c d : Int} (h : Pm a b c d) : ∃ g m : Int, gI (ci a b c d) = g /\ (g = 1 \/ g = 2 \/ g = 4) /\ n4 a b c d = g * m /\ m % 2 = 1 /\ 0 < m := by
  have hn := oQ h.ne
  have mn : n4 a b c d ∈ ci a b c d := by simp [ci]
  have g0 := iz mn (by omega)
  have g4 := xR h
  obtain ⟨m, hm⟩ := uv mn
  have hg : gI (ci a b c d) = 1 \/ gI (ci a b c d) = 2 \/ gI (ci a b c d) = 4 := by
    have l4 := Int.le_of_dvd (by decide) g4
    obtain ⟨u, hu⟩ := g4
    generalize gI (ci a b c d) = g at *
    have : g = 1 \/ g = 2 \/ g = 3 \/ g = 4 := by omega
    rcases this with rfl | rfl | rfl | rfl
    . exact .inl rfl
    . exact .inr (.inl rfl)
    . omega
    . exact .inr (.inr rfl)
  have two : 2 ∣ n4 a b c d -> 2 ∣ gI (ci a b c d) := fun h2 => jv fun x hx => by
    obtain ⟨u, hu⟩ := h2
    simp only [ci, List.mem_cons, List.not_mem_nil, or_false] at hx
    rcases hx with rfl | rfl | rfl | rfl | rfl | rfl | rfl | rfl | rfl | rfl
    . exact ⟨u, hu⟩
    . exact ⟨u - c * c - d * d, by unfold n4 at hu; unfold fw; grind⟩
    . exact ⟨b * c - a * d, by unfold fc; grind⟩
    . exact ⟨b * d + a * c, by unfold eZ; grind⟩
    . exact ⟨b * c + a * d, by unfold eY; grind⟩
    . exact ⟨u - b * b - d * d, by unfold n4 at hu; unfold fv; grind⟩
    . exact ⟨c * d - a * b, by unfold eV; grind⟩
    . exact ⟨b * d - a * c, by unfold eU; grind⟩
    . exact ⟨c * d + a * b, by unfold eT; grind⟩
    . exact ⟨u - b * b - c * c, by unfold n4 at hu; unfold fu; grind⟩
  have four : 4 ∣ n4 a b c d -> 4 ∣ gI (ci a b c d) /\ n4 a b c d % 8 = 4 := fun h4 => by
    have ne : ¬ (a % 2 = 0 /\ b % 2 = 0 /\ c % 2 = 0 /\ d % 2 = 0) := fun z => by
      have := jv (d := 2) (ns := [a, b, c, d]) (by
        intro m hm
        simp only [List.mem_cons, List.not_mem_nil, or_false] at hm
        rcases hm with rfl | rfl | rfl | rfl
        . exact Int.dvd_of_emod_eq_zero z.1
        . exact Int.dvd_of_emod_eq_zero z.2.1
        . exact Int.dvd_of_emod_eq_zero z.2.2.1
        . exact Int.dvd_of_emod_eq_zero z.2.2.2)
      rw [h.one] at this
      omega
    have od : a % 2 = 1 /\ b % 2 = 1 /\ c % 2 = 1 /\ d % 2 = 1 := by
      unfold n4 at h4
      have sq : ∀ x : Int, ∃ k, x * x = 4 * k + x % 2 /\ (x % 2 = 0 \/ x % 2 = 1) := fun x => by
        rcases (show x % 2 = 0 \/ x % 2 = 1 by omega) with q | q
        . obtain ⟨k, e⟩ := Fh q; exact ⟨k, by rw [q]; omega, .inl q⟩
        . obtain ⟨k, e⟩ := tW q; exact ⟨2 * k, by rw [q]; omega, .inr q⟩
      obtain ⟨ka, ea, pa⟩ := sq a
      obtain ⟨kb, eb, pb⟩ := sq b
      obtain ⟨kc, ec, pc⟩ := sq c
      obtain ⟨kd, ed, pd⟩ := sq d
      rw [ea, eb, ec, ed] at h4
      clear ea eb ec ed sq
      generalize a % 2 = A at *; generalize b % 2 = B at *; generalize c % 2 = C at *; generalize d % 2 = E at *
      omega
    obtain ⟨oa, ob, oc, od⟩ := od
    obtain ⟨ka, ya⟩ := tW oa; obtain ⟨kb, yb⟩ := tW ob; obtain ⟨kc, yc⟩ := tW oc; obtain ⟨kd, yd⟩ := tW od
    obtain ⟨bc, zbc⟩ := qU ob oc; obtain ⟨ad, zad⟩ := qU oa od; obtain ⟨bd, zbd⟩ := qU ob od; obtain ⟨ac, zac⟩ := qU oa oc; obtain ⟨cd, zcd⟩ := qU oc od; obtain ⟨ab, zab⟩ := qU oa ob
    refine ⟨jv fun x hx => ?_, by unfold n4; omega⟩
    simp only [ci, List.mem_cons, List.not_mem_nil, or_false] at hx
    rcases hx with rfl | rfl | rfl | rfl | rfl | rfl | rfl | rfl | rfl | rfl
    . exact h4
    . exact ⟨2 * ka + 2 * kb - 2 * kc - 2 * kd, by unfold fw; omega⟩
    . exact ⟨bc - ad, by unfold fc; rw [Int.mul_assoc, Int.mul_assoc, zbc, zad]; omega⟩
    . exact ⟨bd + ac + 1, by unfold eZ; rw [Int.mul_assoc, Int.mul_assoc, zbd, zac]; omega⟩
    . exact ⟨bc + ad + 1, by unfold eY; rw [Int.mul_assoc, Int.mul_assoc, zbc, zad]; omega⟩
    . exact ⟨2 * ka - 2 * kb + 2 * kc - 2 * kd, by unfold fv; omega⟩
    . exact ⟨cd - ab, by unfold eV; rw [Int.mul_assoc, Int.mul_assoc, zcd, zab]; omega⟩
    . exact ⟨bd - ac, by unfold eU; rw [Int.mul_assoc, Int.mul_assoc, zbd, zac]; omega⟩
    . exact ⟨cd + ab + 1, by unfold eT; rw [Int.mul_assoc, Int.mul_assoc, zcd, zab]; omega⟩
    . exact ⟨2 * ka - 2 * kb - 2 * kc + 2 * kd, by unfold fu; omega⟩
  refine ⟨_, m, rfl, hg, hm, ?_, ?_⟩
  . generalize gI (ci a b c d) = g at *
    generalize n4 a b c d = n at *
    rcases hg with rfl | rfl | rfl
    . have : ¬ 2 ∣ n := fun z => by have := two z; omega
      omega
    . have : ¬ 4 ∣ n := fun z => by have := (four z).1; omega
      omega
    . have := (four ⟨m, hm⟩).2
      omega
  . generalize gI (ci a b c d) = g at *
    generalize n4 a b c d = n at *
    rcases hg with rfl | rfl | rfl <;> omega
theorem oY {x y z w : Int} (h : ¬ (x = 0 /\ y = 0 /\ z = 0 /\ w = 0)) : L2.atI ((([x, y, z, w] : List Int).filter fun t => !decide (t = 0)).map D.int) 0 = some (.int (cQ x y z w)) := by
  unfold cQ
  by_cases hx : x = 0
  . subst hx
    by_cases hy : y = 0
    . subst hy
      by_cases hz : z = 0
      . subst hz
        have hw : w ≠ 0 := fun q => h ⟨rfl, rfl, rfl, q⟩
        simp [hw, L2.atI, L2.ixN]
      . simp [hz, L2.atI, L2.ixN]
    . simp [hy, L2.atI, L2.ixN]
  . simp [hx, L2.atI, L2.ixN]
theorem fi {x y : Int} {m n k : Nat} (hx : x.natAbs <= m) (hy : y.natAbs <= n) (h : m + n <= k) : (x + y).natAbs <= k := Nat.le_trans (Int.natAbs_add_le _ _) (Nat.le_trans (Nat.add_le_add hx hy) h)
theorem iH {x y : Int} {m n k : Nat} (hx : x.natAbs <= m) (hy : y.natAbs <= n) (h : m + n <= k) : (x - y).natAbs <= k := Nat.le_trans (Int.natAbs_sub_le _ _) (Nat.le_trans (Nat.add_le_add hx hy) h)
theorem lG {x : Int} {m : Nat} (hx : x.natAbs <= m) : (2 * x).natAbs <= 2 * m := by rw [Int.natAbs_mul]; exact Nat.mul_le_mul_left 2 hx
theorem C5 {A B C E : Int} {M N : Nat} (h : 8 * M <= N) (ha : A.natAbs <= M) (hb : B.natAbs <= M) (hc : C.natAbs <= M) (he : E.natAbs <= M) : (A + B + C + E).natAbs <= N /\ (A + B - C - E).natAbs <= N /\ (A - B + C - E).natAbs <= N /\ (A - B - C + E).natAbs <= N := by
  have h4 : M + M + M + M <= N := by omega
  have p2 := fi ha hb (Nat.le_refl _)
  have m2 := iH ha hb (Nat.le_refl _)
  exact ⟨fi (fi p2 hc (Nat.le_refl _)) he h4, iH (iH p2 hc (Nat.le_refl _)) he h4, iH (fi m2 hc (Nat.le_refl _)) he h4, fi (iH m2 hc (Nat.le_refl _)) he h4⟩
theorem sg {A B : Int} {M N : Nat} (h : 8 * M <= N) (ha : A.natAbs <= M) (hb : B.natAbs <= M) : (2 * A - 2 * B).natAbs <= N /\ (2 * A + 2 * B).natAbs <= N := by
  have h4 : 2 * M + 2 * M <= N := by omega
  exact ⟨iH (lG ha) (lG hb) h4, fi (lG ha) (lG hb) h4⟩
theorem wG {a b c d : Int} {m M N : Nat} (hM : m * m <= M) (hN : 8 * M <= N) (ha : a.natAbs <= m) (hb : b.natAbs <= m) (hc : c.natAbs <= m) (hd : d.natAbs <= m) : ∀ x ∈ ci a b c d, x.natAbs <= N := by
  have p : ∀ {x y : Int}, x.natAbs <= m -> y.natAbs <= m -> (x * y).natAbs <= M := fun hx hy => by rw [Int.natAbs_mul]; exact Nat.le_trans (Nat.mul_le_mul hx hy) hM
  obtain ⟨h1, h2, h3, h4⟩ := C5 hN (p ha ha) (p hb hb) (p hc hc) (p hd hd)
  have bc := sg hN (p hb hc) (p ha hd)
  have bd := sg hN (p hb hd) (p ha hc)
  have cd := sg hN (p hc hd) (p ha hb)
  intro x hx
  simp only [ci, List.mem_cons, List.not_mem_nil, or_false] at hx
  rcases hx with rfl | rfl | rfl | rfl | rfl | rfl | rfl | rfl | rfl | rfl
  . exact h1
  . exact h2
  . unfold fc; rw [Int.mul_assoc, Int.mul_assoc]; exact bc.1
  . unfold eZ; rw [Int.mul_assoc, Int.mul_assoc]; exact bd.2
  . unfold eY; rw [Int.mul_assoc, Int.mul_assoc]; exact bc.2
  . exact h3
  . unfold eV; rw [Int.mul_assoc, Int.mul_assoc]; exact cd.1
  . unfold eU; rw [Int.mul_assoc, Int.mul_assoc]; exact bd.1
  . unfold eT; rw [Int.mul_assoc, Int.mul_assoc]; exact cd.2
  . exact h4
theorem Ab {a b c d : Int} (ha : a.natAbs <= 2 ^ 140) (hb : b.natAbs <= 2 ^ 140) (hc : c.natAbs <= 2 ^ 140) (hd : d.natAbs <= 2 ^ 140) : ∀ x ∈ ci a b c d, x.natAbs <= 2 ^ 290 :=
  wG (M := 2 ^ 140 * 2 ^ 140) (Nat.le_refl _) (by rw [show (8 : Nat) = 2 ^ 3 from rfl, <- Nat.pow_add, <- Nat.pow_add]; exact Nat.pow_le_pow_right (by decide) (by decide)) ha hb hc hd
theorem zX {a b c d : Int} (ha : a.natAbs <= 2 ^ 140) (hb : b.natAbs <= 2 ^ 140) (hc : c.natAbs <= 2 ^ 140) (hd : d.natAbs <= 2 ^ 140) : okT ((ci a b c d).map D.int) := gD (k := 290) (by decide) (Nat.le_of_ble_eq_true rfl) (Ab ha hb hc hd)
theorem wQ {x y z w : Int} {m : Nat} (hm : m <= 999) (h : ∀ t ∈ [x, y, z, w], t.natAbs <= 2 ^ m) : okT (([x, y, z, w] : List Int).map D.int) := gD (k := m) hm (Nat.le_of_ble_eq_true rfl) h
def lZ (a b c d : Int) : D := .tup [.int ((n4 a b c d).fdiv (gI (ci a b c d))), .tup [d3 ((fw a b c d).fdiv (gI (ci a b c d))) ((fc a b c d).fdiv (gI (ci a b c d))) ((eZ a b c d).fdiv (gI (ci a b c d))), d3 ((eY a b c d).fdiv (gI (ci a b c d))) ((fv a b c d).fdiv (gI (ci a b c d))) ((eV a b c d).fdiv (gI (ci a b c d))), d3 ((eU a b c d).fdiv (gI (ci a b c d))) ((eT a b c d).fdiv (gI (ci a b c d))) ((fu a b c d).fdiv (gI (ci a b c d)))]]
def rM (a b c d : Int) : D := .obj "Turn" ["word", "row", "fractions"] [.str "turn", t4 a b c d, lZ a b c d]
theorem lg {k a b c d : Int} (hk : k ≠ 0) (p : Pm a b c d) : gI [k * a, k * b, k * c, k * d] = k.natAbs := by rw [iA _ _ _ _ _ hk, p.one, Int.mul_one]
theorem B4 {a b c x y z : Int} {k j : Nat} (ha : a.natAbs <= 2 ^ k) (hb : b.natAbs <= 2 ^ k) (hc : c.natAbs <= 2 ^ k) (hx : x.natAbs <= 2 ^ j) (hy : y.natAbs <= 2 ^ j) (hz : z.natAbs <= 2 ^ j) : (bM a b c x y z).natAbs <= 2 ^ (k + j + 2) := by
  have m : ∀ {u v : Int}, u.natAbs <= 2 ^ k -> v.natAbs <= 2 ^ j -> (u * v).natAbs <= 2 ^ (k + j) := fun hu hv => by rw [Int.natAbs_mul, Nat.pow_add]; exact Nat.mul_le_mul hu hv
  have h1 := m ha hx; have h2 := m hb hy; have h3 := m hc hz
  rw [show k + j + 2 = (k + j) + 1 + 1 from rfl, Nat.pow_succ, Nat.pow_succ]
  exact fi h1 (fi h2 (fi h3 (Nat.le_refl 0) (Nat.le_refl _)) (Nat.le_refl _)) (by omega)
end K
set_option Elab.async false
set_option linter.all false
set_option maxRecDepth 100000
namespace Sp
open PySem PySem.Spec PyProof.Rows L2
open AutoSeq1 (wpAny_loadPart')
section
variable {prog : Program} {w : World} {A : Around} {E : Value -> Shared -> Prop} {s : Shared}
variable {n l1 l2 l3 : Nat} {xs ys ws : Array Value} {k : Nat} {x y u : Value} {f0 f1 : Value}
end
end Sp
set_option Elab.async false
set_option linter.all false
set_option maxRecDepth 100000
namespace Sp
open PySem PySem.Spec PyProof.Rows L2
open AutoSeq1 (wpAny_loadPart')
section
variable {prog : Program} {w : World} {A : Around} {E : Value -> Shared -> Prop} {s : Shared}
end
end Sp
set_option Elab.async false
set_option linter.all false
set_option maxRecDepth 100000
namespace Sp
open PySem PySem.Spec PyProof.Rows L2
section
variable {prog : Program} {w : World} {A : Around} {E : Value -> Shared -> Prop} {s : Shared}
end
end Sp
set_option Elab.async false
set_option linter.all false
set_option maxRecDepth 100000
namespace Sp
open PySem PySem.Spec PyProof.Rows L2
variable {X : Cx}
theorem BH {P : Program} {w : World} {K : W.Frag} {mg : Str -> Option Value} {base : Heap} {k : Nat} {g : Str} {f : Addr} {fd : FuncData} {ps : List Str} {F : List D -> Rs D} (h : bv P w K mg base c9 k f fd ps (jh K F)) (hm : mg g = some (.ref f)) (hk : W.keepIn K (.ref f) = true) (hb : bV K fd ps []) (hd : (g == ("__debug__" : Str)) = false) : cD P w K mg base k g F :=
  ⟨f, fd, ps, h, hm, hk, hb, hd⟩
end Sp
set_option Elab.async false
set_option linter.all false
set_option maxRecDepth 100000
namespace Sp
open PySem PySem.Spec PyProof.Rows L2
variable {X : Cx}
theorem qR {Φ : Fx} {sc : Scope} {H0 : Hp} {cw : List Stmt} {t : TS} (G : aT Φ X sc) (hp : PassesOwn (model X.prog X.w) X.A X.env X.xe) (hr : eJ X cw t) : ∀ {pre : List Stmt} {ρ ρ1 : al}, af (aE Φ pre sc ρ) (.nx ρ1) ->
    eJ X (pre ++ cw) (fun D σ H => ∃ ow, aP X ow H σ ρ /\ σ.length = X.N.length /\ cq H0 ow H /\ ∀ ow' σ' H', aP X ow' H' σ' ρ1 -> σ'.length = X.N.length -> cq H0 ow' H' -> t D σ' H')
  | [], ρ, ρ1, h => by
    cases aK h
    exact fun pins s σ H D I ⟨ow, E, hl, B, q⟩ => hr pins s σ H D I (q ow σ H E hl B)
  | st :: ss, ρ, ρ1, h => by
    obtain ⟨f1, h1, h2⟩ := aw (show af (Rs.bnd _ _) _ from h)
    cases f1 with
    | nx ρ' =>
      have sd := (jq Φ _).s st (H0 := H0) (Nat.lt_succ_self _) h1 G hp
      have ih := qR (H0 := H0) G hp hr h2
      exact fun pins s σ H D I ⟨ow, E, hl, B, q⟩ => dY sd ih pins s σ H D I ⟨ow, E, hl, B, fun ow' σ' H' E' hl' k => ⟨ow', E', hl', B.keep k, q⟩⟩
    | rt d => cases aK h2
    | bk ρ' => cases aK h2
    | ct ρ' => cases aK h2
end Sp
set_option Elab.async false
set_option linter.all false
set_option maxRecDepth 100000
namespace K
open PySem PySem.Spec PyProof.Rows L2 Sp Qm
structure T9 where
  n : Int
  a : Int
  b : Int
  c : Int
  d : Int
  e : Int
  f : Int
  g : Int
  h : Int
  i : Int
def T9.l (T : T9) : List Int := [T.n, T.a, T.b, T.c, T.d, T.e, T.f, T.g, T.h, T.i]
def T9.D (T : T9) : D := .tup [.int T.n, .tup [d3 T.a T.b T.c, d3 T.d T.e T.f, d3 T.g T.h T.i]]
def T9.map (f : Int -> Int) (T : T9) : T9 := ⟨f T.n, f T.a, f T.b, f T.c, f T.d, f T.e, f T.f, f T.g, f T.h, f T.i⟩
theorem T9.l_map (f : Int -> Int) (T : T9) : (T.map f).l = T.l.map f := rfl
def T9.low (T : T9) : T9 := T.map fun x => x.fdiv (gI T.l)
def T9.bh (A B : T9) : T9 := ⟨A.n * B.n, bM A.a A.d A.g B.a B.b B.c, bM A.b A.e A.h B.a B.b B.c, bM A.c A.f A.i B.a B.b B.c, bM A.a A.d A.g B.d B.e B.f, bM A.b A.e A.h B.d B.e B.f, bM A.c A.f A.i B.d B.e B.f, bM A.a A.d A.g B.g B.h B.i, bM A.b A.e A.h B.g B.h B.i, bM A.c A.f A.i B.g B.h B.i⟩
theorem T9.ext {A B : T9} (h : A.l = B.l) : A = B := by
  cases A; cases B
  simp only [T9.l, List.cons.injEq, and_true] at h
  obtain ⟨h0, h1, h2, h3, h4, h5, h6, h7, h8, h9⟩ := h
  subst h0 h1 h2 h3 h4 h5 h6 h7 h8 h9
  rfl
theorem T9.mem_n (T : T9) : T.n ∈ T.l := by simp [T9.l]
theorem T9.gpos {T : T9} (h : 0 < T.n) : 0 < gI T.l := iz T.mem_n (by omega)
theorem T9.cut {T : T9} (h : 0 < T.n) : T = T.low.map (gI T.l * ·) := by
  have k := fun m hm => eF (m := m) T.mem_n (show T.n ≠ 0 by omega) hm
  apply T9.ext
  show T.l = (T.low.map (gI T.l * ·)).l
  rw [T9.l_map, T9.low, T9.l_map, List.map_map]
  conv => lhs; rw [<- List.map_id T.l]
  exact List.map_congr_left fun m hm => k m hm
theorem T9.lown {T : T9} (h : 0 < T.n) : 0 < T.low.n := pw (T9.gpos h) h (eF T.mem_n (by omega) T.mem_n)
def T9.bd (k : Nat) (T : T9) : Prop := ∀ x ∈ T.l, x.natAbs <= 2 ^ k
theorem T9.bd_low {T : T9} {k : Nat} (h : 0 < T.n) (b : T.bd k) : T.low.bd k := by
  intro x hx
  rw [T9.low, T9.l_map] at hx
  obtain ⟨y, hy, rfl⟩ := List.mem_map.mp hx
  exact Nat.le_trans (iB (T9.gpos h)) (b y hy)
theorem T9.okT {T : T9} {k : Nat} (hk : k <= 999) (b : T.bd k) : okT (T.l.map D.int) := gD (k := k) hk (Nat.le_of_ble_eq_true rfl) b
theorem T9.eqD (T : T9) : Sp.eqD T.D T.D = true := by
  unfold T9.D
  show ((_ == _ && (((_ == _ && (_ == _ && (_ == _ && true))) && ((_ == _ && (_ == _ && (_ == _ && true))) && ((_ == _ && (_ == _ && (_ == _ && true))) && true))) && true)) : Bool) = true
  simp
theorem EK {c x y : Int} (hc : 0 < c) (h : c * x = c * y) : x = y := Int.eq_of_mul_eq_mul_left (by omega) h
end K
set_option Elab.async false
set_option linter.all false
set_option maxRecDepth 100000
namespace K
open PySem L2 Sp Qm
section
variable {Φ : Fx} {sc : Scope} {ρ ρ1 : al} {ss : List Stmt}
end
end K
set_option Elab.async false
set_option linter.all false
set_option maxRecDepth 100000
namespace Sp
open PySem PySem.Spec PyProof.Rows L2
variable {X : Cx}
end Sp
set_option Elab.async false
set_option linter.all false
set_option maxRecDepth 100000
namespace K
open PySem L2 Sp Qm
section
variable {Φ : Fx} {sc : Scope} {ρ ρ1 : al} {ss : List Stmt}
end
end K
set_option Elab.async false
set_option linter.all false
set_option maxRecDepth 100000
namespace Sp
open PySem PySem.Spec PyProof.Rows L2
variable {X : Cx}
theorem _root_.L2.PA.nox {es : List Expr} {t : TA} (h : PA X.nox es t) : PA X es t := fun pos pins s σ H Q I hw =>
  wpAny_mono (h pos pins s σ H Q (I.wish _) hw) (fun _ _ ⟨v, H', I', r, q⟩ => ⟨v, H', I'.unwish, r, q⟩) fun _ _ z => False.elim z
theorem _root_.L2.PS.nox {st : Stmt} {t : TS} (h : PS X.nox st t) : PS X st t := fun pins s σ H D I hw =>
  wpAny_mono (h pins s σ H D (I.wish _) hw) (fun _ _ q => q.unwish) fun _ _ z => False.elim z
theorem zt {pins : List (Addr × Obj)} {s : Shared} {σ : L2.St} {H : Hp} {Q : Value -> Shared -> Prop} {k : Nat} {f : Addr} {fd : FuncData} {ps : List Str} {sp : L2.Sp} {E : XK} {x : Str} {p pos : Pos} {e : Expr} {es : List Expr} {t : TA} (F : bv X.prog X.w X.K X.mg X.base (cO X.prog X.w) k f fd ps sp) (hr : bQ k X.A) (hg : Gl X x) (hm : X.mg x = some (.ref f)) (hk : W.keepIn X.K (.ref f) = true) (hb : bV X.K fd ps [])
    (I : am X pins σ H s) (hx : ∀ H1 s1 e s', am X pins σ H1 s1 -> cO X.prog X.w X.stack H1 s1 E e s' -> X.xe e s')
    (ha : PA X (e :: es) t) (hdb : (x == ("__debug__" : Str)) = false) (he : starEach (e :: es) X.env = (false, eval e X.env) :: starEach es X.env) (hpl : (backTo pos (starEach es X.env)).any (·.1) = false)
    (h : t σ H fun vs H1 => sp vs H1 (fun _ _ => False) E) : wpAny (model X.prog X.w) X.A (eval (.Call (.Name x p) (e :: es) [] pos) X.env) Q X.xe s := by
  refine wpAny_Call_Name_kw (dE I hg hm ?_ hdb)
  refine W.callWith_K (h₀ := X.base) I.ok.mod.kin hk (aL (ha pos pins s σ H _ I h) fun us s1 ⟨vs, H1, I1, r, q⟩ => ⟨I1.kIn, ?_⟩) he hpl
  have hl : us.length = ps.length := by rw [<- r.length]; exact F.len _ _ _ _ q
  refine wpAny_call (codeAny_mono (F.run X.A X.stack s1 H1 ⟨us, []⟩ us vs _ E hr I1.env0 (by have := hb s1 us I1.kIn (by rw [List.append_nil]; exact hl); rw [List.append_nil] at this; exact this) r q) fun r s' hq => ?_)
  cases r with
  | error e => exact hx H1 s1 e s' I1 hq
  | ok fl =>
    cases fl with
    | ret u => obtain ⟨_, _, _, _, _, _, _, z⟩ := hq; exact z.elim
    | next => exact False.elim hq
    | brk => exact False.elim hq
    | cont => exact False.elim hq
theorem yQ {pins : List (Addr × Obj)} {s : Shared} {σ : L2.St} {H : Hp} {Q : Value -> Shared -> Prop} {k : Nat} {C f : Addr} {fd : FuncData} {ps : List Str} {sp : L2.Sp} {E : XK} {x : Str} {p pos : Pos} {e : Expr} {es : List Expr} {t : TA} (M : Mk X.K C f) (F : bv X.prog X.w X.K X.mg X.base (cO X.prog X.w) k f fd ps sp) (hr : bQ (k + 1) X.A) (hg : Gl X x) (hm : X.mg x = some (.ref C)) (hb : bV X.K fd ps [])
    (I : am X pins σ H s) (hx : ∀ H1 s1 e s', am X pins σ H1 s1 -> cO X.prog X.w X.stack H1 s1 E e s' -> X.xe e s')
    (ha : PA X (e :: es) t) (hdb : (x == ("__debug__" : Str)) = false) (he : starEach (e :: es) X.env = (false, eval e X.env) :: starEach es X.env) (hpl : (backTo pos (starEach es X.env)).any (·.1) = false)
    (h : t σ H fun vs H1 => ∀ x dx, H1 x = none -> H1 dx = none -> dx ≠ x -> sp (.ref x :: vs) (be (be H1 dx (.own x)) x (.ins C dx [])) (fun _ _ => False) E) : wpAny (model X.prog X.w) X.A (eval (.Call (.Name x p) (e :: es) [] pos) X.env) Q X.xe s := by
  refine wpAny_Call_Name_kw (dE I hg hm ?_ hdb)
  refine W.callWith_K (h₀ := X.base) I.ok.mod.kin M.kp (aL (ha pos pins s σ H _ I h) fun us s1 ⟨vs, H1, I1, r, q⟩ => ⟨I1.kIn, ?_⟩) he hpl
  have hq := q (s1.heap.objs.size + 1) s1.heap.objs.size (I1.hok.fresh (Nat.le_succ _)) (I1.hok.fresh (Nat.le_refl _)) (Nat.ne_of_lt (Nat.lt_succ_self _))
  have I2 := am.made (C := C) I1
  have r2 : aJ (V.ref (s1.heap.objs.size + 1) :: vs) (Value.ref (s1.heap.objs.size + 1) :: us) := .cons rfl r
  have hl : (Value.ref (s1.heap.objs.size + 1) :: us ++ []).length = ps.length := by
    have e := r2.length
    rw [F.len _ _ _ _ hq] at e
    rw [List.append_nil]
    exact e.symm
  refine wpAny_call (oV (f := f) I1.kIn M.makes M.init (beq_iff_eq.mp M.fn) (codeAny_mono (F.run _ X.stack _ _ ⟨Value.ref (s1.heap.objs.size + 1) :: us, []⟩ (Value.ref (s1.heap.objs.size + 1) :: us) _ _ E (hr.make C us [])
    (I2.env0.make C us []) (by have := hb _ (Value.ref (s1.heap.objs.size + 1) :: us) I2.kIn hl; rw [List.append_nil] at this; exact this) r2 hq) fun r s' hq' => ?_))
  cases r with
  | error e => exact hx _ _ e s' I2 hq'
  | ok fl =>
    cases fl with
    | ret u => obtain ⟨_, _, _, _, _, _, _, z⟩ := hq'; exact z.elim
    | next => exact False.elim hq'
    | brk => exact False.elim hq'
    | cont => exact False.elim hq'
def qO (K : W.Frag) (G : List D -> Option (Str × Str)) : L2.Sp := fun vs H _ E => ∃ ds n p C S, ao K H (fun _ _ => True) ds vs /\ G ds = some (n, p) /\ W.nsIn K mainGlobals n = some (some (.ref C)) /\ W.nsIn K mainGlobals p = some (some (.ref S)) /\ gj K C S /\ ∀ H', az H H' -> E (.ref C) none H'
def xL (H0 : Hp) (C : Addr) : XK := fun c _ H' => c = .ref C /\ az H0 H'
def ol (g : Str) (G : List D -> Option (Str × Str)) : List D -> Option (Str × Str) := fun ds => match ds with
  | .obj n [] [] :: l => if n = g then G l else none
  | _ => none
def EU (X : Cx) (g : Str) (G : List D -> Option (Str × Str)) : Prop := ∃ k f fd ps, bv X.prog X.w X.K X.mg X.base (cO X.prog X.w) k f fd ps (qO X.K G) /\ bQ k X.A /\ X.mg g = some (.ref f) /\ W.keepIn X.K (.ref f) = true /\ bV X.K fd ps [] /\ (g == ("__debug__" : Str)) = false
def ER (X : Cx) (g : Str) (G : List D -> Option (Str × Str)) : Prop := ∃ k C f fd ps, Mk X.K C f /\ bv X.prog X.w X.K X.mg X.base (cO X.prog X.w) k f fd ps (qO X.K (ol g G)) /\ bQ (k + 1) X.A /\ X.mg g = some (.ref C) /\ W.nsIn X.K mainGlobals g = some (some (.ref C)) /\ dH X.K C /\ bV X.K fd ps [] /\ (g == ("__debug__" : Str)) = false
def qk (X : Cx) (g : Str) (G : List D -> Option (Str × Str)) : Prop := EU X g G \/ ER X g G
theorem A0 {ρ : al} {e : Expr} {x : Str} {k : Nat} {t : Str} {p1 p2 p3 : Pos} {kd : Nat} (he : ED X ρ e (.str x) k) (hx : (reprText x).length <= 1000) (ht : t.length <= 64) : ED X ρ (.JoinedStr [.FormattedValue e 114 none p1, .Constant (.str t) kd p2] p3) (.str (reprText x ++ t)) 0 := by
  intro ow pins s σ H Q I ⟨E, q⟩
  have hz : (1064 : Nat) <= sizeLine := by rw [sizeLine_eq]; decide
  have hx' : (reprText x).length <= sizeLine := by omega
  refine wpAny_JoinedStr ?_
  show wpAny _ _ (eval (.FormattedValue e 114 none p1) X.env) (fun v s₁ => ∃ y t', v = Value.str y t' /\ (Str.empty ++ y).length <= sizeLine /\ wpAny _ _ (eval (.Constant (.str t) kd p2) X.env) (fun v s₂ => ∃ z t'', v = Value.str z t'' /\ (Str.empty ++ y ++ z).length <= sizeLine /\ _) _ s₁) _ s
  rw [arm_eval_FormattedValue]
  refine wpAny_bind (aL (he ow pins s σ H (fun v H' => v = .str x /\ az H H') I ⟨E, fun v H' s' r => ⟨by rw [ak] at r; exact r, s'⟩⟩) fun u s1 ⟨v, H1, I1, r1, e1, s1'⟩ => ?_)
  subst e1
  obtain ⟨tk, rfl⟩ := r1
  refine wpAny_bind (wpAny_standAt ?_)
  refine wpAny_bind (wpAny_holding ?_)
  show wpAny _ _ (pyReprObj (Value.str x tk)) _ _ _
  refine wpAny_pyReprObj_str ?_ hx'
  show wpAny _ _ (formatField (Value.str (reprText x) s1.toks) Str.empty) _ _ _
  refine PyProof.Rows.formatField_str (fun t' tk' => ⟨_, _, rfl, ?_, ?_⟩) hx'
  . rw [Str.empty_append]; exact hx'
  . refine wpAny_Constant_str ⟨_, _, rfl, ?_, ?_⟩
    . rw [Str.empty_append, Str.length_append]; omega
    . refine ⟨?_, .str _, H1, ((I1.tok _).tok _).tok _, ⟨_, rfl⟩, q _ _ s1' (by rw [ak, Str.empty_append])⟩
      rw [Str.empty_append, Str.length_append]; omega
theorem A1 {ρ : al} {e : Expr} {i : Int} {k : Nat} {a t : Str} {p0 p1 p2 p3 : Pos} {kd0 kd : Nat} (he : ED X ρ e (.int i) k) (hi : i.natAbs < 2 ^ 1900) (ha : a.length <= 200) (ht : t.length <= 64) : ED X ρ (.JoinedStr [.Constant (.str a) kd0 p0, .FormattedValue e (-1) none p1, .Constant (.str t) kd p2] p3) (.str (a ++ Str.ofString (toString i) ++ t)) 0 := by
  intro ow pins s σ H Q I ⟨E, q⟩
  have hl : i.natAbs.log2 < 1920 := by
    rcases Nat.eq_zero_or_pos i.natAbs with z | z
    . rw [z]; decide
    . exact Nat.lt_of_lt_of_le ((Nat.log2_lt (Nat.ne_of_gt z)).mpr hi) (by decide)
  have tl := int_text_len_1921 hl
  have hz : (2200 : Nat) <= sizeLine := by rw [sizeLine_eq]; decide
  refine wpAny_JoinedStr ?_
  show wpAny _ _ (eval (.Constant (.str a) kd0 p0) X.env) (fun v s₁ => ∃ y t', v = Value.str y t' /\ (Str.empty ++ y).length <= sizeLine /\ wpAny _ _ (eval (.FormattedValue e (-1) none p1) X.env) (fun v s₂ => ∃ z t'', v = Value.str z t'' /\ (Str.empty ++ y ++ z).length <= sizeLine /\ wpAny _ _ (eval (.Constant (.str t) kd p2) X.env) (fun v s₂ => ∃ z' t'', v = Value.str z' t'' /\ (Str.empty ++ y ++ z ++ z').length <= sizeLine /\ _) _ s₂) _ s₁) _ s
  refine wpAny_Constant_str ⟨_, _, rfl, ?_, ?_⟩
  . rw [Str.empty_append]; omega
  refine wpAny_FormattedValue_plain ?_
  refine aL (he ow pins _ σ H (fun v H' => v = .int i /\ az H H') (I.tok _) ⟨E, fun v H' s' r => ⟨by rw [ak] at r; exact r, s'⟩⟩) fun u s1 ⟨v, H1, I1, r1, e1, s1'⟩ => ?_
  subst e1
  obtain ⟨tk, rfl⟩ := r1
  refine wpAny_formatField_int hl ⟨_, _, rfl, ?_, ?_⟩
  . rw [Str.empty_append, Str.length_append]; omega
  . refine wpAny_Constant_str ⟨_, _, rfl, ?_, ?_⟩
    . rw [Str.empty_append, Str.length_append, Str.length_append]; omega
    . refine ⟨?_, .str _, H1, (I1.tok _).tok _ |>.tok _, ⟨_, rfl⟩, q _ _ s1' (by rw [ak, Str.empty_append])⟩
      rw [Str.empty_append, Str.length_append, Str.length_append]; omega
inductive Rz (Φ : Fx) (Ψ : Str -> Option (List D -> Option (Str × Str))) (Ex : Str -> Option Str) (sc : Scope) : List Stmt -> al -> Str × Str -> Prop where
  | raise {e : Expr} {d : D} {k : Nat} {x p : Str} {np cpos pos : Pos} {ss : List Stmt} {ρ : al} (he : af (aC Φ e false sc ρ) (d, k)) (hx : sc.names.lookup x = some .globalImplicit) (hd : (x == ("__debug__" : Str)) = false) (hp : Ex x = some p) : Rz Φ Ψ Ex sc (.Raise (some (.Call (.Name x np) [e] [] cpos)) none pos :: ss) ρ (x, p)
  | raiseR {e : Expr} {y t : Str} {k kd : Nat} {x p : Str} {np cpos pos p1 p2 p3 : Pos} {ss : List Stmt} {ρ : al} (he : af (aC Φ e false sc ρ) (.str y, k)) (hy : (reprText y).length <= 1000) (ht : t.length <= 64) (hx : sc.names.lookup x = some .globalImplicit) (hd : (x == ("__debug__" : Str)) = false) (hp : Ex x = some p) : Rz Φ Ψ Ex sc (.Raise (some (.Call (.Name x np) [.JoinedStr [.FormattedValue e 114 none p1, .Constant (.str t) kd p2] p3] [] cpos)) none pos :: ss) ρ (x, p)
  | raiseM {e : Expr} {i : Int} {a t : Str} {k kd0 kd : Nat} {x p : Str} {np cpos pos p0 p1 p2 p3 : Pos} {ss : List Stmt} {ρ : al} (he : af (aC Φ e false sc ρ) (.int i, k)) (hi : i.natAbs < 2 ^ 1900) (ha : a.length <= 200) (ht : t.length <= 64) (hx : sc.names.lookup x = some .globalImplicit) (hd : (x == ("__debug__" : Str)) = false) (hp : Ex x = some p) : Rz Φ Ψ Ex sc (.Raise (some (.Call (.Name x np) [.JoinedStr [.Constant (.str a) kd0 p0, .FormattedValue e (-1) none p1, .Constant (.str t) kd p2] p3] [] cpos)) none pos :: ss) ρ (x, p)
  | exp {f : Str} {G : List D -> Option (Str × Str)} {e : Expr} {es : List Expr} {p q pos : Pos} {ds : List D} {k : Nat} {ss : List Stmt} {ρ : al} {r : Str × Str} (ha : af (bW Φ (e :: es) sc ρ) (ds, k)) (hf : sc.names.lookup f = some .globalImplicit) (hG : Ψ f = some G) (h : G ds = some r) : Rz Φ Ψ Ex sc (.Expr (.Call (.Name f p) (e :: es) [] q) pos :: ss) ρ r
  | asn {f : Str} {G : List D -> Option (Str × Str)} {x : Str} {e : Expr} {es : List Expr} {p q pos px : Pos} {ds : List D} {k : Nat} {ss : List Stmt} {ρ : al} {r : Str × Str} (ha : af (bW Φ (e :: es) sc ρ) (ds, k)) (hf : sc.names.lookup f = some .globalImplicit) (hG : Ψ f = some G) (h : G ds = some r) : Rz Φ Ψ Ex sc (.Assign [.Name x px] (.Call (.Name f p) (e :: es) [] q) pos :: ss) ρ r
  | ast {f : Str} {G : List D -> Option (Str × Str)} {ts : List Expr} {n : Nat} {e : Expr} {es : List Expr} {p q pos px : Pos} {ds : List D} {k : Nat} {ss : List Stmt} {ρ : al} {r : Str × Str} (ha : af (bW Φ (e :: es) sc ρ) (ds, k)) (hf : sc.names.lookup f = some .globalImplicit) (hG : Ψ f = some G) (h : G ds = some r) : Rz Φ Ψ Ex sc (.Assign [.Tuple ts n px] (.Call (.Name f p) (e :: es) [] q) pos :: ss) ρ r
  | ret {f : Str} {G : List D -> Option (Str × Str)} {e : Expr} {es : List Expr} {p q pos : Pos} {ds : List D} {k : Nat} {ss : List Stmt} {ρ : al} {r : Str × Str} (ha : af (bW Φ (e :: es) sc ρ) (ds, k)) (hf : sc.names.lookup f = some .globalImplicit) (hG : Ψ f = some G) (h : G ds = some r) : Rz Φ Ψ Ex sc (.Return (some (.Call (.Name f p) (e :: es) [] q)) pos :: ss) ρ r
  | iff {c : Expr} {a b ss : List Stmt} {t : Bool} {k : Nat} {pos : Pos} {ρ : al} {r : Str × Str} (hc : af (aC Φ c false sc ρ) (.bl t, k)) (h : Rz Φ Ψ Ex sc (cond t a b) ρ r) : Rz Φ Ψ Ex sc (.If c a b pos :: ss) ρ r
  | step {s : Stmt} {ss : List Stmt} {ρ ρ' : al} {r : Str × Str} (hs : af (eN Φ s sc ρ) (.nx ρ')) (h : Rz Φ Ψ Ex sc ss ρ' r) : Rz Φ Ψ Ex sc (s :: ss) ρ r
def wJ (X : Cx) (H0 : Hp) (ρ : al) : TS := fun _ σ H => ∃ ow, aP X.nox ow H σ ρ /\ σ.length = X.N.length /\ cq H0 ow H
theorem cq.same {H0 : Hp} {ow : Ow} {H H' : Hp} (b : cq H0 ow H) (s : az H H') : cq H0 ow H' := b.keep (bu.same s)
theorem fe {H0 : Hp} {ρ : al} {st : Stmt} {ss : List Stmt} (h : PS X st (wJ X H0 ρ)) : eJ X (st :: ss) (wJ X H0 ρ) := fun pins s σ H D I q => dY h gT pins s σ H D I q
theorem fz {Φ : Fx} {sc : Scope} {H0 : Hp} {C S : Addr} {n p : Str} {f : Str} {G : List D -> Option (Str × Str)} {e : Expr} {es : List Expr} {fp q : Pos} {ds : List D} {k : Nat} {ρ : al} {pins : List (Addr × Obj)} {s : Shared} {σ : L2.St} {H : Hp} {ow : Ow} {Q : Value -> Shared -> Prop}
    (Gd : aT Φ X.nox sc) (GR : qk X f G) (hcn : W.nsIn X.K mainGlobals n = some (some (.ref C))) (hcp : W.nsIn X.K mainGlobals p = some (some (.ref S))) (hex : gj X.K C S)
    (ha : af (bW Φ (e :: es) sc ρ) (ds, k)) (hf : sc.names.lookup f = some .globalImplicit) (h : G ds = some (n, p)) (I : am X pins σ H s) (E : aP X.nox ow H σ ρ) (B : az H0 H)
    (hx : ∀ H1 s1 e s', am X pins σ H1 s1 -> cO X.prog X.w X.stack H1 s1 (xL H0 C) e s' -> X.xe e s') : wpAny (model X.prog X.w) X.A (eval (.Call (.Name f fp) (e :: es) [] q) X.env) Q X.xe s := by
  rcases GR with GR | GR
  . obtain ⟨k', fa, fd, ps, F, hr, hm, hk, hb, hdb⟩ := GR
    obtain ⟨l, ha, hp⟩ := ha
    obtain ⟨hst, _⟩ := cF ha hp
    have ad := iC (e :: es) ha hp Gd
    refine zt F hr (Gd.gl f hf) hm hk hb I hx (ad ow).nox hdb (aO (hst e List.mem_cons_self)) (bP fun x hx => hst x (List.mem_cons_of_mem _ hx)) ⟨E, fun vs H1 s1 r1 => ?_⟩
    exact ⟨ds, n, p, C, S, r1.imp fun _ _ _ => True.intro, h, hcn, hcp, hex, fun H' s' => ⟨rfl, (B.trans s1).trans s'⟩⟩
  . obtain ⟨k', Cc, fa, fd, ps, hM, F, hr, hm, hns, hc, hb, hdb⟩ := GR
    obtain ⟨l, ha, hp⟩ := ha
    obtain ⟨hst, _⟩ := cF ha hp
    have ad := iC (e :: es) ha hp Gd
    refine yQ hM F hr (Gd.gl f hf) hm hb I hx (ad ow).nox hdb (aO (hst e List.mem_cons_self)) (bP fun x hx => hst x (List.mem_cons_of_mem _ hx)) ⟨E, fun vs H1 s1 r1 => ?_⟩
    intro x dx hx0 hd0 ne
    exact ⟨.obj f [] [] :: ds, n, p, C, S, ao.cons (by rw [ak]; exact ⟨rfl, rfl, x, Cc, dx, [], rfl, hns, hc, aS, ao.nil⟩) ((r1.same (fT hx0 hd0)).imp fun _ _ _ => True.intro), (if_pos rfl).trans h, hcn, hcp, hex, fun H' s' => ⟨rfl, ((B.trans s1).trans (fT hx0 hd0)).trans s'⟩⟩
theorem CK {Φ : Fx} {Ψ : Str -> Option (List D -> Option (Str × Str))} {Ex : Str -> Option Str} {sc : Scope} {H0 : Hp} {C S : Addr} {n p : Str} (Gd : aT Φ X.nox sc) (GR : ∀ f G, Ψ f = some G -> qk X f G) (hcn : W.nsIn X.K mainGlobals n = some (some (.ref C))) (hcp : W.nsIn X.K mainGlobals p = some (some (.ref S))) (hex : gj X.K C S) (hmn : X.mg n = some (.ref C))
    (hr : ∀ pins σ H s h' a us, am X pins σ H s -> az H0 H -> s.heap.MadeExcOf h' a (.ref C) us -> X.xe (.ref a) { s with heap := h' })
    (hx : ∀ pins σ H1 s1 e s', am X pins σ H1 s1 -> cO X.prog X.w X.stack H1 s1 (xL H0 C) e s' -> X.xe e s') : ∀ {ss : List Stmt} {ρ : al} {r : Str × Str}, Rz Φ Ψ Ex sc ss ρ r -> r = (n, p) -> eJ X ss (wJ X H0 ρ) := by
  intro ss ρ r h
  induction h with
  | raise he hl hd hp =>
    rename_i e d k x p' np cpos pos ss ρ
    intro er
    cases er
    refine fe fun pins s σ H D I ⟨ow, E, hl', B⟩ => ?_
    have ed := (cY he Gd).ed rfl
    obtain ⟨l, he', _⟩ := id he
    have ns := iU he'
    have ad : AD X.nox ρ [e] [d] (kj k 0) := jT ed lF (aO ns)
    refine ku I Gd.calm (Gd.gl _ hl) hmn hex hd (ad ow).nox (bP fun y hy => by rw [List.mem_singleton.mp hy]; exact ns) (aO ns) ⟨E, fun vs H1 s1 r1 => ⟨?_, fun s2 h' a us I2 m => hr pins σ H1 s2 h' a us I2 (B.sm.trans s1) m⟩⟩
    rw [<- r1.length]
    exact Nat.le_trans (show 1 <= cP by decide) eM
  | raiseR he hy ht hl hd hp =>
    rename_i e y t k kd x p' np cpos pos p1 p2 p3 ss ρ
    intro er
    cases er
    refine fe fun pins s σ H D I ⟨ow, E, hl', B⟩ => ?_
    have ed := A0 (p1 := p1) (p2 := p2) (p3 := p3) (kd := kd) ((cY he Gd).ed rfl) hy ht
    have ns : ∀ (z : Expr) (p : Pos), Expr.JoinedStr [.FormattedValue e 114 none p1, .Constant (.str t) kd p2] p3 ≠ .Starred z p := fun z p h => by cases h
    have ad : AD X.nox ρ [Expr.JoinedStr [.FormattedValue e 114 none p1, .Constant (.str t) kd p2] p3] [.str (reprText y ++ t)] (kj 0 0) := jT ed lF (aO ns)
    refine ku I Gd.calm (Gd.gl _ hl) hmn hex hd (ad ow).nox (bP fun y hy => by rw [List.mem_singleton.mp hy]; exact ns) (aO ns) ⟨E, fun vs H1 s1 r1 => ⟨?_, fun s2 h' a us I2 m => hr pins σ H1 s2 h' a us I2 (B.sm.trans s1) m⟩⟩
    rw [<- r1.length]
    exact Nat.le_trans (show 1 <= cP by decide) eM
  | raiseM he hi ha ht hl hd hp =>
    rename_i e i a t k kd0 kd x p' np cpos pos p0 p1 p2 p3 ss ρ
    intro er
    cases er
    refine fe fun pins s σ H D I ⟨ow, E, hl', B⟩ => ?_
    have ed := A1 (p0 := p0) (p1 := p1) (p2 := p2) (p3 := p3) (kd0 := kd0) (kd := kd) ((cY he Gd).ed rfl) hi ha ht
    have ns : ∀ (z : Expr) (p : Pos), Expr.JoinedStr [.Constant (.str a) kd0 p0, .FormattedValue e (-1) none p1, .Constant (.str t) kd p2] p3 ≠ .Starred z p := fun z p h => by cases h
    have ad : AD X.nox ρ [Expr.JoinedStr [.Constant (.str a) kd0 p0, .FormattedValue e (-1) none p1, .Constant (.str t) kd p2] p3] [.str (a ++ Str.ofString (toString i) ++ t)] (kj 0 0) := jT ed lF (aO ns)
    refine ku I Gd.calm (Gd.gl _ hl) hmn hex hd (ad ow).nox (bP fun y hy => by rw [List.mem_singleton.mp hy]; exact ns) (aO ns) ⟨E, fun vs H1 s1 r1 => ⟨?_, fun s2 h' a us I2 m => hr pins σ H1 s2 h' a us I2 (B.sm.trans s1) m⟩⟩
    rw [<- r1.length]
    exact Nat.le_trans (show 1 <= cP by decide) eM
  | exp ha hf hG h =>
    intro er
    subst er
    refine fe fun pins s σ H D I ⟨ow, E, hl', B⟩ => ?_
    exact wpAny_Expr_any (fz Gd (GR _ _ hG) hcn hcp hex ha hf h I E B.sm (hx pins σ)) I.quiet rfl
  | asn ha hf hG h =>
    intro er
    subst er
    refine fe fun pins s σ H D I ⟨ow, E, hl', B⟩ => ?_
    exact wpAny_Assign_Name (fz Gd (GR _ _ hG) hcn hcp hex ha hf h I E B.sm (hx pins σ)) (hX rfl)
  | ast ha hf hG h =>
    intro er
    subst er
    refine fe fun pins s σ H D I ⟨ow, E, hl', B⟩ => ?_
    exact wpAny_Assign_stores (fz Gd (GR _ _ hG) hcn hcp hex ha hf h I E B.sm (hx pins σ)) fS rfl
  | ret ha hf hG h =>
    intro er
    subst er
    refine fe fun pins s σ H D I ⟨ow, E, hl', B⟩ => ?_
    exact wpAny_Return_some (fz Gd (GR _ _ hG) hcn hcp hex ha hf h I E B.sm (hx pins σ))
  | iff hc h ih =>
    rename_i c a b ss t k pos ρ r
    intro er
    refine fe fun pins s σ H D I ⟨ow, E, hl', B⟩ => ?_
    have td := ((cY hc Gd).td rfl t rfl ow).nox
    refine wpAny_If (aL (td pins s σ H (fun b H' => b = t /\ az H H') I ⟨E, fun H' sm => ⟨rfl, sm⟩⟩) fun d s1 ⟨H1, I1, e, sm⟩ => ?_)
    subst e
    cases d with
    | true => exact ih er pins s1 σ H1 _ I1 ⟨ow, E.same sm, hl', B.same sm⟩
    | false => exact ih er pins s1 σ H1 _ I1 ⟨ow, E.same sm, hl', B.same sm⟩
  | step hs h ih =>
    rename_i st ss ρ ρ' r
    intro er
    have sd := ((jq Φ _).s st (H0 := H0) (Nat.lt_succ_self _) hs Gd PassesOwn.never)
    intro pins s σ H D I ⟨ow, E, hl', B⟩
    exact dY (L2.PS.nox sd) (ih er) pins s σ H D I ⟨ow, E, hl', B, fun ow' σ' H' E' hl2 k => ⟨ow', E', hl2, B.keep k⟩⟩
def ET (P : Program) (w : World) (K : W.Frag) (mg : Str -> Option Value) (base : Heap) (k : Nat) (g : Str) (G : List D -> Option (Str × Str)) : Prop := ∃ f fd ps, bv P w K mg base (cO P w) k f fd ps (qO K G) /\ mg g = some (.ref f) /\ W.keepIn K (.ref f) = true /\ bV K fd ps [] /\ (g == ("__debug__" : Str)) = false
def Fi (P : Program) (w : World) (K : W.Frag) (mg : Str -> Option Value) (base : Heap) (k : Nat) (g : Str) (G : List D -> Option (Str × Str)) : Prop := ∃ j C f fd ps, j + 1 <= k /\ Mk K C f /\ bv P w K mg base (cO P w) j f fd ps (qO K (ol g G)) /\ mg g = some (.ref C) /\ W.nsIn K mainGlobals g = some (some (.ref C)) /\ dH K C /\ bV K fd ps [] /\ (g == ("__debug__" : Str)) = false
def iI (P : Program) (w : World) (K : W.Frag) (mg : Str -> Option Value) (base : Heap) (k : Nat) (g : Str) (G : List D -> Option (Str × Str)) : Prop := ET P w K mg base k g G \/ Fi P w K mg base k g G
theorem iI.mono {P : Program} {w : World} {K : W.Frag} {mg : Str -> Option Value} {base : Heap} {j k : Nat} {g : Str} {G : List D -> Option (Str × Str)} (h : iI P w K mg base j g G) (hjk : j <= k) : iI P w K mg base k g G := by
  rcases h with ⟨f, fd, ps, h1, h2⟩ | ⟨i, C, f, fd, ps, h0, h1⟩
  . exact .inl ⟨f, fd, ps, h1.mono hjk, h2⟩
  . exact .inr ⟨i, C, f, fd, ps, Nat.le_trans h0 hjk, h1⟩
theorem iI.at {X : Cx} {k : Nat} {g : Str} {G : List D -> Option (Str × Str)} (h : iI X.prog X.w X.K X.mg X.base k g G) (hr : bQ k X.A) : qk X g G := by
  rcases h with ⟨f', fd', ps', a1, a2, a3, a4, a5⟩ | ⟨j, C', f', fd', ps', a0, a1, a2, a3, a4, a5, a6, a7⟩
  . exact .inl ⟨k, f', fd', ps', a1, hr, a2, a3, a4, a5⟩
  . exact .inr ⟨j, C', f', fd', ps', a1, a2, hr.mono a0, a3, a4, a5, a6, a7⟩
theorem ux {P : Program} {w : World} {K : W.Frag} {mg : Str -> Option Value} {base : Heap} {k : Nat} {g qual : Str} {st : Stmt} {f : Addr} {fd : FuncData} {ps : List Str} {Φ : Fx} {Ψ : Str -> Option (List D -> Option (Str × Str))} {Ex : Str -> Option Str} {G : List D -> Option (Str × Str)} (Fn : hW K g qual st f fd)
    (S : aD (au (ae st)) ps (ae st)) (hΦ : jC P w K mg base k Φ) (hΨ : ∀ g G, Ψ g = some G -> iI P w K mg base k g G) (hmg : ∀ n C, W.nsIn K mainGlobals n = some (some (.ref C)) -> mg n = some (.ref C))
    (hrun : ∀ ds r, G ds = some r -> ds.length = ps.length /\ Rz Φ Ψ Ex (ae st) (ar st) (cV ps ds) r) : bv P w K mg base (cO P w) (k + 1) f fd ps (qO K G) := by
  obtain ⟨oc, od, kV, doc, pm, an, cdv, ct, osl, rfl, lk, hcd⟩ := Fn.ex
  refine sC lk hcd S (fun vs H Q E h => ?_) fun A outer s H vs Q E hr hsp => ?_
  . obtain ⟨ds, n, p, C, S', h1, h2, _⟩ := h
    rw [<- h1.length]; exact (hrun ds _ h2).1
  . obtain ⟨ds, n, p, C, S', h1, h2, h3, h4, h5, h6⟩ := hsp
    obtain ⟨hl, hz⟩ := hrun ds _ h2
    have Gd := gx (outer := outer) (H := H) (E := E) S hΦ hr
    obtain ⟨E0, hsl⟩ := iE (P := P) (w := w) (mg := mg) (base := base) (qual := qual) (f := f) (cdv := cdv) (A := A) (outer := outer) (s := s) (E := E) S h1 hl
    have B0 : cq H (fun _ => none) H := fun a o h => ⟨h, rfl⟩
    refine ⟨_, CK (X := cJ (cO P w) P w K mg base (au (ae st)) qual (ae st) f cdv A outer s H E) (H0 := H) (C := C) (S := S') Gd (fun g' G' hG => ?_) h3 h4 h5 (hmg n C h3) (fun pins σ H1 s1 h' a us I sm m => ?_) (fun pins σ H1 s1 e s' I c => ?_) hz rfl, fun _ => none, E0, hsl, B0⟩
    . exact (hΨ g' G' hG).at hr
    . exact qo I rfl rfl m (h6 H1 sm)
    . refine le I rfl rfl ?_
      obtain ⟨x, C', T, H', rfl, z1, z2, z3, z4, z5, z6, z7, z8, z9, ⟨e1, e2⟩⟩ := c
      cases e1
      exact ⟨x, C, T, H', rfl, z1, z2, z3, z4, z5, z6, z7, z8, z9, h6 H' e2⟩
end Sp
set_option Elab.async false
set_option linter.all false
set_option maxRecDepth 100000
namespace Sp
open PySem PySem.Spec PyProof.Rows L2
variable {X : Cx}
def pz (ρ : al) (n y c B : Str) : al := fun z => if z = n then none else if z = y then some (.xc c (some B), true) else ρ z
inductive Rt (Φ : Fx) (Ψ : Str -> Option (List D -> Option (Str × Str))) (sc : Scope) : List Stmt -> al -> Str × Str -> Prop where
  | exp {f : Str} {G : List D -> Option (Str × Str)} {e : Expr} {es : List Expr} {p q pos : Pos} {ds : List D} {k : Nat} {ρ : al} {r : Str × Str} (ha : af (bW Φ (e :: es) sc ρ) (ds, k)) (hf : sc.names.lookup f = some .globalImplicit) (hG : Ψ f = some G) (h : G ds = some r) : Rt Φ Ψ sc [.Expr (.Call (.Name f p) (e :: es) [] q) pos] ρ r
  | asn {f : Str} {G : List D -> Option (Str × Str)} {x : Str} {e : Expr} {es : List Expr} {p q pos px : Pos} {ds : List D} {k : Nat} {ρ : al} {r : Str × Str} (ha : af (bW Φ (e :: es) sc ρ) (ds, k)) (hf : sc.names.lookup f = some .globalImplicit) (hG : Ψ f = some G) (h : G ds = some r) : Rt Φ Ψ sc [.Assign [.Name x px] (.Call (.Name f p) (e :: es) [] q) pos] ρ r
  | iff {c : Expr} {a b : List Stmt} {t : Bool} {k : Nat} {pos : Pos} {ρ : al} {r : Str × Str} (hc : af (aC Φ c false sc ρ) (.bl t, k)) (h : Rt Φ Ψ sc (cond t a b) ρ r) : Rt Φ Ψ sc [.If c a b pos] ρ r
theorem je {M : Model} {A : Around} {E : Value -> Shared -> Prop} {s : Shared} {env : Env} {st : Stmt} {Q : Flow -> Shared -> Prop} (h : wpAny M A (exec st env) Q E s) : wpAny M A (execs [st] env) Q E s :=
  wpAny_execs_cons (aL h fun f s1 q => by
    cases f with
    | next => exact wpAny_execs_nil q
    | ret v => exact q
    | brk => exact q
    | cont => exact q)
theorem CL {Φ : Fx} {Ψ : Str -> Option (List D -> Option (Str × Str))} {sc : Scope} {H0 : Hp} {C S : Addr} {n p : Str} {pins : List (Addr × Obj)} {σ : L2.St} {ow : Ow} {Q : Flow -> Shared -> Prop} (Gd : aT Φ X.nox sc) (GR : ∀ f G, Ψ f = some G -> qk X f G) (hcn : W.nsIn X.K mainGlobals n = some (some (.ref C))) (hcp : W.nsIn X.K mainGlobals p = some (some (.ref S))) (hex : gj X.K C S)
    (hx : ∀ H1 s1 e s', am X pins σ H1 s1 -> cO X.prog X.w X.stack H1 s1 (xL H0 C) e s' -> X.xe e s') : ∀ {ss : List Stmt} {ρ : al} {r : Str × Str}, Rt Φ Ψ sc ss ρ r -> r = (n, p) -> ∀ {s : Shared} {H : Hp}, am X pins σ H s -> aP X.nox ow H σ ρ -> az H0 H -> wpAny (model X.prog X.w) X.A (execs ss X.env) Q X.xe s := by
  intro ss ρ r h
  induction h with
  | exp ha hf hG h =>
    intro er s H I E B
    subst er
    exact je (wpAny_Expr_any (fz Gd (GR _ _ hG) hcn hcp hex ha hf h I E B hx) I.quiet rfl)
  | asn ha hf hG h =>
    intro er s H I E B
    subst er
    exact je (wpAny_Assign_Name (fz Gd (GR _ _ hG) hcn hcp hex ha hf h I E B hx) (hX rfl))
  | iff hc h ih =>
    rename_i c a b t k pos ρ r
    intro er s H I E B
    have td := ((cY hc Gd).td rfl t rfl ow).nox
    refine je (wpAny_If (aL (td pins s σ H (fun b H' => b = t /\ az H H') I ⟨E, fun H' sm => ⟨rfl, sm⟩⟩) fun d s1 ⟨H1, I1, e, sm⟩ => ?_))
    subst e
    cases d with
    | true => exact ih er I1 (E.same sm) (B.trans sm)
    | false => exact ih er I1 (E.same sm) (B.trans sm)
theorem zg {ow : Ow} {H H' : Hp} {σ : L2.St} {ρ : al} {x C S : Addr} {c B n y : Str} {ie iy : Nat} (E : aP X ow H σ ρ) (sm : az H H') (nx : H' x = none) (hie : X.N[ie]? = some n) (hiy : X.N[iy]? = some y) (hv : fj X.env.scope y) (hne : iy ≠ ie) (hl : iy < σ.length)
    (hcn : W.nsIn X.K mainGlobals c = some (some (.ref C))) (hcp : W.nsIn X.K mainGlobals B = some (some (.ref S))) (hex : gj X.K C S) :
    aP X ow (be H' x (jt x C)) (((σ.set ie (some (.ref x))).set iy (some (.ref x))).set ie none) (pz ρ n y c B) := by
  have sm' : az H (be H' x (jt x C)) := sm.trans fun a o h => by rw [aG (bg h nx)]; exact h
  refine ⟨fun z d o h => ?_, (E.same sm').own⟩
  unfold pz at h
  by_cases hz : z = n
  . rw [if_pos hz] at h; cases h
  . rw [if_neg hz] at h
    by_cases hy : z = y
    . rw [if_pos hy] at h
      cases h
      refine ⟨iy, .ref x, by rw [hiy, hy], by rw [hy]; exact hv, ?_, ?_⟩
      . rw [List.getElem?_set_ne (Ne.symm hne), List.getElem?_set_self (by rw [List.length_set]; exact hl)]
      . rw [ak]
        exact ⟨x, C, S, rfl, hcn, hcp, hex, aS⟩
    . rw [if_neg hy] at h
      obtain ⟨i, v, e1, e2, e3, e4⟩ := (E.same sm').get z d o h
      have n1 : i ≠ ie := fun q => hz (by rw [q, hie] at e1; exact (Option.some.inj e1).symm)
      have n2 : i ≠ iy := fun q => hy (by rw [q, hiy] at e1; exact (Option.some.inj e1).symm)
      exact ⟨i, v, e1, e2, by rw [List.getElem?_set_ne (Ne.symm n1), List.getElem?_set_ne (Ne.symm n2), List.getElem?_set_ne (Ne.symm n1)]; exact e3, e4⟩
theorem Ap {Y : Cx} {Φ : Fx} {Ψ : Str -> Option (List D -> Option (Str × Str))} {sc : Scope} {H0 : Hp} {C S : Addr} {c B n y : Str} {tb : List Stmt} {ρ : al} {bp hpos p1 p2 p3 tpos : Pos} (Gd : aT Φ Y.nox sc) (GR : ∀ f G, Ψ f = some G -> qk Y.nox f G) (hst : Y.stack = Y.env :: Y.outer)
    (hcn : W.nsIn Y.K mainGlobals c = some (some (.ref C))) (hcp : W.nsIn Y.K mainGlobals B = some (some (.ref S))) (hex : gj Y.K C S) (hexm : W.exmOne Y.K (.ref C) (.ref S) = some true) (hmB : Y.mg B = some (.ref S))
    (hB : sc.names.lookup B = some .globalImplicit) (hdb : (B == ("__debug__" : Str)) = false) (hn : sc.names.lookup n = some .local) (hy : sc.names.lookup y = some .local) (hny : n ≠ y) (hd1 : (n == ("__debug__" : Str)) = false) (hd2 : (n == ("__classdict__" : Str)) = false)
    (h : Rt Φ Ψ sc tb ρ (c, B)) : SD Y.nox H0 ρ (.Try tb [.ExceptHandler (some (.Name B bp)) (some n) [.Assign [.Name y p1] (.Name n p2) p3] hpos] [] [] tpos) (.nx (pz ρ n y c B)) := by
  intro pins s σ H D I ⟨ow, E, hl, B0, q⟩
  have lk : ∀ z, sc.names.lookup z = some .local -> ∃ i, Y.N[i]? = some z := fun z hz => by
    have := Gd.ns z (by unfold dC; rw [hz]; rfl)
    obtain ⟨i, hi, e⟩ := List.getElem_of_mem this
    exact ⟨i, by rw [List.getElem?_eq_getElem hi]; exact congrArg some e⟩
  obtain ⟨ie, hie⟩ := lk n hn
  obtain ⟨iy, hiy⟩ := lk y hy
  have hne : iy ≠ ie := fun z => hny (by rw [z, hie] at hiy; exact Option.some.inj hiy)
  refine wpAny_Try_except ?_
  refine CL (X := Y.nox.wish fun e s₁ => wpAny (model Y.prog Y.w) Y.A (noteFrame e Y.env) (fun _ s₂ => wpAny (model Y.prog Y.w) Y.A (setFlight e none) (fun _ s₃ => wpAny (model Y.prog Y.w) Y.A (handleBy e Y.env [.ExceptHandler (some (.Name B bp)) (some n) [.Assign [.Name y p1] (.Name n p2) p3] hpos]) (SP Y.nox pins D) Y.nox.xe s₃) Y.nox.xe s₂) Y.nox.xe s₁) (H0 := H) (n := c) (p := B) Gd GR hcn hcp hex (fun H1 s1 e s' I1 c1 => ?_) h rfl (I.wish _) E (az.refl _)
  refine B9 (X := Y.nox) (ie := ie) (iy := iy) (C0 := S) I1.unwish hst Gd.nd c1 (Gd.gl B hB) hmB hdb hie (Gd.lc n hn) hiy (Gd.lc y hy) hne hd1 hd2 fun C' H' ⟨e1, sm⟩ => ?_
  cases e1
  refine ⟨hexm, fun x nx => ?_⟩
  have hl2 : iy < σ.length := by rw [hl]; exact (List.getElem?_eq_some_iff.mp hiy).1
  refine q ow _ _ (zg (X := Y.nox) E sm nx hie hiy (.inl (Gd.lc y hy)) hne hl2 hcn hcp hex) (by simpa using hl) (bu.same (sm.trans fun a o h => by rw [aG (bg h nx)]; exact h))
theorem x9 {Y : Cx} {Φ : Fx} {sc : Scope} {H0 : Hp} {hd : ExceptHandler} {tb : List Stmt} {ρ ρ2 : al} {tpos : Pos} (Gd : aT Φ Y.nox sc) (h : af (aE Φ tb sc ρ) (.nx ρ2)) : SD Y.nox H0 ρ (.Try tb [hd] [] [] tpos) (.nx ρ2) := by
  intro pins s σ H D I hq
  refine wpAny_Try_except ?_
  refine wpAny_mono (js tb (H0 := H0) h Gd PassesOwn.never pins s σ H D I hq) (fun f s1 q => ?_) (fun _ _ z => z.elim)
  cases f with
  | next => exact wpAny_execs_nil q
  | ret v => exact q
  | brk => exact q
  | cont => exact q
def qg (Φ : Fx) (Ψ : Str -> Option (List D -> Option (Str × Str))) (Ex : Str -> Option Str) (sc : Scope) (ps : List Str) (pre tb post : List Stmt) (B n y : Str) (ds : List D) (r : D) : Prop :=
  ds.length = ps.length /\ ∃ ρ1, af (aE Φ pre sc (cV ps ds)) (.nx ρ1) /\ ((∃ ρ2, af (aE Φ tb sc ρ1) (.nx ρ2) /\ af (aE Φ post sc ρ2) (.rt r)) \/ ∃ c, Ex c = some B /\ Rt Φ Ψ sc tb ρ1 (c, B) /\ af (aE Φ post sc (pz ρ1 n y c B)) (.rt r))
def wv (K : W.Frag) (Ex : Str -> Option Str) : Prop := ∀ c p, Ex c = some p -> ∃ C S, W.nsIn K mainGlobals c = some (some (.ref C)) /\ W.nsIn K mainGlobals p = some (some (.ref S)) /\ gj K C S /\ W.exmOne K (.ref C) (.ref S) = some true
theorem BG {P : Program} {w : World} {K : W.Frag} {mg : Str -> Option Value} {base : Heap} {k : Nat} {g qual : Str} {st : Stmt} {f : Addr} {fd : FuncData} {ps : List Str} {Φ : Fx} {Ψ : Str -> Option (List D -> Option (Str × Str))} {Ex : Str -> Option Str} {F : List D -> Rs D} {pre tb post : List Stmt} {B n y : Str} {bp hpos p1 p2 p3 tpos : Pos} (Fn : hW K g qual st f fd)
    (S : aD (au (ae st)) ps (ae st)) (hΦ : jC P w K mg base k Φ) (hΨ : ∀ g G, Ψ g = some G -> iI P w K mg base k g G) (hmg : ∀ n C, W.nsIn K mainGlobals n = some (some (.ref C)) -> mg n = some (.ref C)) (hEx : wv K Ex)
    (hb : ar st = pre ++ .Try tb [.ExceptHandler (some (.Name B bp)) (some n) [.Assign [.Name y p1] (.Name n p2) p3] hpos] [] [] tpos :: post)
    (hB : (ae st).names.lookup B = some .globalImplicit) (hdb : (B == ("__debug__" : Str)) = false) (hn : (ae st).names.lookup n = some .local) (hy : (ae st).names.lookup y = some .local) (hny : n ≠ y) (hd1 : (n == ("__debug__" : Str)) = false) (hd2 : (n == ("__classdict__" : Str)) = false)
    (hrun : ∀ ds r, af (F ds) r -> qg Φ Ψ Ex (ae st) ps pre tb post B n y ds r) : bv P w K mg base c9 (k + 1) f fd ps (jh K F) := by
  refine Fn.ok S (fun vs H Q E h => ?_) (fun cdv A outer s H vs Q E hr h => ?_)
  . obtain ⟨ds, r, l, h1, h2, hp, _⟩ := h
    rw [<- h1.length]; exact (hrun ds r ⟨l, h2, hp⟩).1
  . obtain ⟨ds, r, l, h1, h2, hp, qq⟩ := h
    obtain ⟨hl, ρ1, h3, h4⟩ := hrun ds r ⟨l, h2, hp⟩
    have G := gx (outer := outer) (H := H) (E := E) S hΦ hr
    obtain ⟨E0, hsl⟩ := iE (P := P) (w := w) (mg := mg) (base := base) (qual := qual) (f := f) (cdv := cdv) (A := A) (outer := outer) (s := s) (E := E) S h1 hl
    have B0 : cq H (fun _ => none) H := fun a o h => ⟨h, rfl⟩
    have key : i9 (cJ c9 P w K mg base (au (ae st)) qual (ae st) f cdv A outer s H E).nox H ρ1 (.Try tb [.ExceptHandler (some (.Name B bp)) (some n) [.Assign [.Name y p1] (.Name n p2) p3] hpos] [] [] tpos :: post) (.rt r) := by
      rcases h4 with ⟨ρ2, h5, h6⟩ | ⟨c, hc, h5, h6⟩
      . exact ki (x9 G h5) (js post (H0 := H) h6 G PassesOwn.never)
      . obtain ⟨C, S', c1, c2, c3, c4⟩ := hEx c B hc
        refine ki (Ap (Y := cJ c9 P w K mg base (au (ae st)) qual (ae st) f cdv A outer s H E) (Ψ := Ψ) G (fun g' G' hG => ?_) rfl c1 c2 c3 c4 (hmg B S' c2) hB hdb hn hy hny hd1 hd2 h5) (js post (H0 := H) h6 G PassesOwn.never)
        exact (hΨ g' G' hG).at hr
    rw [hb]
    exact ⟨_, qR (H0 := H) G PassesOwn.never key h3, fun _ => none, E0, hsl, B0, fun ow' σ' H' E' hl' B' => ⟨ow', E', hl', B', fun v H2 s2 r2 => qq v H2 s2 r2⟩⟩
end Sp
set_option Elab.async false
set_option linter.all false
set_option maxRecDepth 100000
namespace Sp
open PySem PySem.Spec PyProof.Rows L2
variable {X : Cx}
def lV (n p : Str) : List D -> Option Bool
  | [] => some false
  | .xc m none :: l => (lV n p l).map fun b => (decide (m = n) || decide (m = p)) || b
  | _ => none
def Dp (n p : Str) : D -> Option Bool
  | .xc m none => some (decide (m = n) || decide (m = p))
  | .typ T => if T = "ValueError" then some true else none
  | .tup cs => lV n p cs
  | _ => none
def v6 (ds : List D) : R1 :=
  match ds with
  | [.xc n (some p), c] => (match Dp n p c with | some b => .ok (.bl b, 0) [] | none => .st)
  | ds => v7 ds
theorem xj {K : W.Frag} {H : Hp} {P : bw} {n p : Str} {C S : Addr} (hn : W.nsIn K mainGlobals n = some (some (.ref C))) (hp : W.nsIn K mainGlobals p = some (some (.ref S))) (e : gj K C S) : ∀ {cs : List D} {vs : List V} {us : List Value} {b : Bool}, lV n p cs = some b -> ao K H P cs vs -> aJ vs us -> W.kitAny K (.ref C) us = some b
  | [], vs, us, b, h, r, q => by
    rw [lV] at h; cases h
    rw [ao] at r; subst r; cases q; rfl
  | .xc m none :: l, vs, us, b, h, r, q => by
    rw [lV] at h
    cases hl : lV n p l with
    | none => rw [hl] at h; cases h
    | some b' =>
      rw [hl] at h; cases h
      rw [ao] at r
      obtain ⟨v, vr, rfl, r1, r2⟩ := r
      rw [ak] at r1
      obtain ⟨Cm, rfl, hm, hx⟩ := r1
      cases q with
      | cons q1 q2 =>
        cases q1
        have k1 := uf e hn hp hm hx
        have k2 := xj hn hp e hl r2 q2
        show (match W.kitOne K (.ref C) (.ref Cm) with | some true => some true | some false => W.kitAny K (.ref C) _ | none => none) = _
        rw [k1]
        cases hd : (decide (m = n) || decide (m = p)) with
        | true => rfl
        | false => exact k2
theorem zD : dJ "isinstance" v6 := by
  refine ⟨by decide +kernel, by decide +kernel, by decide +kernel, rfl, fun X ds z l o hc h hp => ?_⟩
  unfold v6 at h
  split at h
  . rename_i n p c
    split at h
    . rename_i b hb
      cases h
      refine .inl ⟨"isinstance", by decide +kernel, ?_⟩
      have cr : c7 X (.builtin "isinstance") (fun xs H Q => ∃ v w P, xs = [v, w] /\ ak X.K H P (.xc n (some p)) v /\ ak X.K H P c w /\ Q (.bl b) H) := by
        intro pins s σ H xs us Q I r hh
        obtain ⟨v, w, P, rfl, r1, r2, q⟩ := hh
        obtain ⟨u, u2, rfl, ru, ru2⟩ := kK r
        rw [ak] at r1
        obtain ⟨x, C, S, rfl, h1, h2, h3, h4⟩ := r1
        cases ru
        have xo : wn x C s.heap := (show cf X.prog X.w H s.heap x (jt x C) from I.hok x _ h4).1
        unfold Dp at hb
        split at hb
        . rename_i m
          cases hb
          rw [ak] at r2
          obtain ⟨Cm, rfl, hm, hx⟩ := r2
          cases ru2
          exact W.kia_one (ky h3) I.kIn xo (uf h3 h1 h2 hm hx) (fun z => nomatch z) fun tk => ⟨.bl _, H, I.tok tk, rfl, q⟩
        . rename_i T
          split at hb
          . rename_i hT
            subst hT
            cases hb
            rw [ak] at r2
            subst r2
            cases ru2
            exact W.kia_one (ky h3) I.kIn xo (Bp h3) (fun z => nomatch z) fun tk => ⟨.bl _, H, I.tok tk, rfl, q⟩
          . cases hb
        . rename_i cs
          rw [ak] at r2
          obtain ⟨a, vs, rfl, sq, rl⟩ := r2
          cases ru2
          obtain ⟨its, rv, ⟨⟨c0, dd, data, sl⟩, e1, e2, n0, e3⟩, _⟩ := I.tuple sq
          simp only at e2 e3
          subst e2 e3
          exact W.kia_tup (ky h3) I.kIn xo e1 (xj h1 h2 h3 hb rl rv) (fun z => nomatch z) fun tk => ⟨.bl _, H, I.tok tk, rfl, q⟩
        . cases hb
      refine ⟨_, cr, fun ow H0 H2 vs P Q o s rx q => ?_⟩
      rw [ao] at rx
      obtain ⟨v, r, rfl, r1, r2⟩ := rx
      obtain ⟨w, rfl, r3⟩ := r2.only
      exact ⟨v, w, P, rfl, r1, r3, q _ _ (az.refl _) (by rw [ak])⟩
    . cases h
  . exact zE.2.2.2.2 X _ z l o hc h hp
theorem d7 {mg : Str -> Option Value} {K : W.Frag} {x : Str} {C : Addr} (hm : mg x = some (.ref C)) (hn : W.nsIn K mainGlobals x = some (some (.ref C))) (hx : xz K x C) : cX mg K (x, .xc x none) :=
  ⟨.ref C, .ref C, hm, rfl, fun H P => by rw [ak]; exact ⟨C, rfl, hn, hx⟩⟩
def ee (K : W.Frag) (n : Str) (C : Addr) : Bool :=
  match K.lookup mainGlobals with
  | some ⟨_, _, .dict es _, _⟩ => es.toList.all fun e => !(e.val == .ref C) || (match e.key with | .str m _ => decide (m = n) | _ => false)
  | _ => false
def fF (K : W.Frag) (C : Addr) : Bool :=
  match K.lookup C with
  | some ⟨.type t, _, .cls _, _⟩ => t == "type"
  | _ => false
theorem dX {K : W.Frag} {n : Str} {C : Addr} (h1 : ee K n C = true) (h2 : fF K C = true) : xz K n C := by
  unfold fF at h2
  split at h2
  . rename_i t d cd sl e
    have et : t = "type" := by simpa using h2
    subst et
    refine ⟨?_, fun m hm => ?_, ⟨_, e, rfl⟩⟩
    . have c1 : W.clsIn K C = some cd := by unfold W.clsIn; rw [e]
      have c2 : W.typeIn K (.ref C) = some (.type "type") := by
        show Option.map (fun x => x.cls) (List.lookup C K) = _
        rw [e]; rfl
      rw [c1, c2]; rfl
    . unfold ee at h1
      unfold W.nsIn at hm
      split at h1
      . rename_i a1 a2 es a3 a4 e1
        rw [e1] at hm
        dsimp only at hm
        split at hm
        . rename_i x hf
          have hv : x.val = .ref C := Option.some.inj (Option.some.inj hm)
          have hx := List.mem_of_find?_eq_some hf
          have hk : x.key.isStr m = true := List.find?_some (p := fun x : DictEntry => x.key.isStr m) hf
          have := List.all_eq_true.mp h1 x hx
          rw [hv, show ((Value.ref C == Value.ref C) : Bool) = true by simp, Bool.not_true, Bool.false_or] at this
          cases hkk : x.key with
          | str k t =>
            rw [hkk] at this hk
            have a1 : k = n := of_decide_eq_true this
            have a2 : k = m := by simpa [Value.isStr] using hk
            rw [<- a2, a1]
          | _ => rw [hkk] at this; cases this
        . split at hm <;> cases hm
      . cases h1
  . cases h2
abbrev Du (K : W.Frag) : Str × Str -> Prop := fun q => ∃ C S, W.nsIn K mainGlobals q.1 = some (some (.ref C)) /\ W.nsIn K mainGlobals q.2 = some (some (.ref S)) /\ gj K C S /\ W.exmOne K (.ref C) (.ref S) = some true
theorem ze {K : W.Frag} {l : List (Str × Str)} (h : ∀ q ∈ l, Du K q) : wv K (fun c => l.lookup c) := fun c p e => h (c, p) (PySem.mem_of_lookup e)
abbrev uX (P : Program) (w : World) (K : W.Frag) (mg : Str -> Option Value) (base : Heap) (k : Nat) : Str × (List D -> Option (Str × Str)) -> Prop := fun q => iI P w K mg base k q.1 q.2
theorem kS {P : Program} {w : World} {K : W.Frag} {mg : Str -> Option Value} {base : Heap} {k : Nat} {l : List (Str × (List D -> Option (Str × Str)))} (h : ∀ q ∈ l, uX P w K mg base k q) : ∀ g G, (fun g : Str => l.lookup g) g = some G -> iI P w K mg base k g G := fun g G e => h (g, G) (PySem.mem_of_lookup e)
def zT : Stmt -> List Stmt
  | .Try b _ _ _ _ => b
  | _ => []
theorem zS {Φ : Fx} {Ψ : Str -> Option (List D -> Option (Str × Str))} {Ex : Str -> Option Str} {sc : Scope} {ps : List Str} {pre tb post : List Stmt} {B n y : Str} {ds : List D} {r : D} {ρ1 : al} {c : Str} (h1 : af (aE Φ pre sc (cV ps ds)) (.nx ρ1)) (h2 : Rt Φ Ψ sc tb ρ1 (c, B)) (h3 : af (aE Φ post sc (pz ρ1 n y c B)) (.rt r)) (hc : Ex c = some B := by rfl) (hl : ds.length = ps.length := by rfl) : qg Φ Ψ Ex sc ps pre tb post B n y ds r := ⟨hl, ρ1, h1, .inr ⟨c, hc, h2, h3⟩⟩
end Sp
set_option Elab.async false
set_option linter.all false
set_option maxRecDepth 100000
namespace K
open PySem L2 Sp Qm
section
variable {Φ : Fx} {sc : Scope} {ρ ρ1 : al} {ss : List Stmt}
abbrev Dq : Str × Str := (Str.ofString "Nought", Str.ofString "SpaceError")
def o7 : D -> Bool
  | .tup [.int a, .int b, .int c, .int d] => decide (a = 0 /\ b = 0 /\ c = 0 /\ d = 0)
  | _ => false
theorem ui {d : D} (h : o7 d = true) : d = dq Er := by
  unfold o7 at h
  split at h
  . obtain ⟨rfl, rfl, rfl, rfl⟩ := of_decide_eq_true h; rfl
  . cases h
end
end K
set_option Elab.async false
set_option linter.all false
set_option maxRecDepth 100000
namespace K
open PySem L2 Sp Qm
def tq (q : Qd) : T9 := ⟨n4 q.1 q.2.1 q.2.2.1 q.2.2.2, fw q.1 q.2.1 q.2.2.1 q.2.2.2, fc q.1 q.2.1 q.2.2.1 q.2.2.2, eZ q.1 q.2.1 q.2.2.1 q.2.2.2, eY q.1 q.2.1 q.2.2.1 q.2.2.2, fv q.1 q.2.1 q.2.2.1 q.2.2.2, eV q.1 q.2.1 q.2.2.1 q.2.2.2, eU q.1 q.2.1 q.2.2.1 q.2.2.2, eT q.1 q.2.1 q.2.2.1 q.2.2.2, fu q.1 q.2.1 q.2.2.1 q.2.2.2⟩
theorem zU (p q : Qd) : tq (bf p q) = (tq q).bh (tq p) := by
  obtain ⟨a, b, c, d⟩ := p
  obtain ⟨e, f, g, h⟩ := q
  unfold tq T9.bh
  simp only [bf, n4, fw, fc, eZ, eY, fv, eV, eU, eT, fu, bM]
  congr 1 <;> grind
theorem qM (k : Int) (q : Qd) : tq (k * q.1, k * q.2.1, k * q.2.2.1, k * q.2.2.2) = (tq q).map (k * k * ·) := by
  obtain ⟨a, b, c, d⟩ := q
  unfold tq T9.map
  simp only [n4, fw, fc, eZ, eY, fv, eV, eU, eT, fu]
  congr 1 <;> grind
def kq (k : Int) (q : Qd) : Qd := (k * q.1, k * q.2.1, k * q.2.2.1, k * q.2.2.2)
def wX (q : Qd) : Prop := ¬ (q.1 = 0 /\ q.2.1 = 0 /\ q.2.2.1 = 0 /\ q.2.2.2 = 0)
theorem fR {q : Qd} (h : wX q) : 0 < (tq q).n := oQ h
theorem uc (k l : Int) (p q : Qd) : bf (kq k p) (kq l q) = kq (k * l) (bf p q) := by
  obtain ⟨a, b, c, d⟩ := p
  obtain ⟨e, f, g, h⟩ := q
  unfold kq bf
  refine kR ?_ ?_ ?_ ?_ <;> simp only <;> grind
theorem jM (k l : Int) (q : Qd) : kq k (kq l q) = kq (k * l) q := by
  unfold kq
  refine kR ?_ ?_ ?_ ?_ <;> simp only [Int.mul_assoc]
theorem yt (a b c d : Int) : bf (a, -b, -c, -d) (a, b, c, d) = kq (n4 a b c d) (1, 0, 0, 0) /\ bf (a, b, c, d) (a, -b, -c, -d) = kq (n4 a b c d) (1, 0, 0, 0) := by
  unfold kq bf n4
  constructor <;> refine kR ?_ ?_ ?_ ?_ <;> simp only <;> grind
theorem xf {k : Int} (hk : k ≠ 0) (a b c d : Int) : cQ (k * a) (k * b) (k * c) (k * d) = k * cQ a b c d := by
  have z : ∀ x : Int, k * x = 0 ↔ x = 0 := fun x => ⟨fun h => by rcases Int.mul_eq_zero.mp h with e | e; exact absurd e hk; exact e, fun h => by rw [h, Int.mul_zero]⟩
  unfold cQ
  simp only [z, ne_eq]
  repeat' split
  all_goals first | rfl | contradiction | skip
theorem mZ {k l : Int} {p q : Qd} (hk : k ≠ 0) (hl : l ≠ 0) (pp : Pm p.1 p.2.1 p.2.2.1 p.2.2.2) (pq : Pm q.1 q.2.1 q.2.2.1 q.2.2.2) (e : kq k p = kq l q) : p = q := by
  have e1 : k * p.1 = l * q.1 := congrArg (·.1) e
  have e2 : k * p.2.1 = l * q.2.1 := congrArg (·.2.1) e
  have e3 : k * p.2.2.1 = l * q.2.2.1 := congrArg (·.2.2.1) e
  have e4 : k * p.2.2.2 = l * q.2.2.2 := congrArg (·.2.2.2) e
  have a1 := lg hk pp
  have a2 := lg hl pq
  rw [e1, e2, e3, e4, a2] at a1
  have b1 := xf hk p.1 p.2.1 p.2.2.1 p.2.2.2
  have b2 := xf hl q.1 q.2.1 q.2.2.1 q.2.2.2
  rw [e1, e2, e3, e4, b2] at b1
  have kl : k = l := by
    rcases (show k = l \/ k = -l by omega) with h | h
    . exact h
    . exfalso
      have x := pp.pos; have y := pq.pos
      rw [h, Int.neg_mul] at b1
      rcases (show 0 < l \/ l < 0 by omega) with z | z
      . have := Int.mul_pos z x; have := Int.mul_pos z y; omega
      . have := Int.mul_neg_of_neg_of_pos z x; have := Int.mul_neg_of_neg_of_pos z y; omega
  subst kl
  have c : ∀ {x y : Int}, k * x = k * y -> x = y := fun h => Int.eq_of_mul_eq_mul_left hk h
  exact kR (c e1) (c e2) (c e3) (c e4)
def T9.dx (T : T9) (x y z : Int) : Int := bM T.a T.b T.c x y z
def T9.dy (T : T9) (x y z : Int) : Int := bM T.d T.e T.f x y z
def T9.dz (T : T9) (x y z : Int) : Int := bM T.g T.h T.i x y z
theorem EL (A B : T9) (x y z : Int) : (A.bh B).dx x y z = B.dx (A.dx x y z) (A.dy x y z) (A.dz x y z) /\ (A.bh B).dy x y z = B.dy (A.dx x y z) (A.dy x y z) (A.dz x y z) /\ (A.bh B).dz x y z = B.dz (A.dx x y z) (A.dy x y z) (A.dz x y z) := by
  unfold T9.dx T9.dy T9.dz T9.bh
  simp only [bM]
  refine ⟨?_, ?_, ?_⟩ <;> grind
theorem xa (c : Int) (T : T9) (x y z : Int) : (T.map (c * ·)).dx x y z = c * T.dx x y z /\ (T.map (c * ·)).dy x y z = c * T.dy x y z /\ (T.map (c * ·)).dz x y z = c * T.dz x y z := by
  unfold T9.dx T9.dy T9.dz T9.map
  simp only [bM]
  refine ⟨?_, ?_, ?_⟩ <;> grind
structure xA (T : T9) (x y z m X Y Z : Int) (g : Int) : Prop where
  pos : 0 < g
  mpos : 0 < m
  one : gI [m, X, Y, Z] = 1
  en : T.n = g * m
  ex : T.dx x y z = g * X
  ey : T.dy x y z = g * Y
  ez : T.dz x y z = g * Z
theorem AO {T : T9} (hn : 0 < T.n) (x y z : Int) : xA T x y z (T.n.fdiv (gI [T.n, T.dx x y z, T.dy x y z, T.dz x y z])) ((T.dx x y z).fdiv (gI [T.n, T.dx x y z, T.dy x y z, T.dz x y z])) ((T.dy x y z).fdiv (gI [T.n, T.dx x y z, T.dy x y z, T.dz x y z])) ((T.dz x y z).fdiv (gI [T.n, T.dx x y z, T.dy x y z, T.dz x y z])) (gI [T.n, T.dx x y z, T.dy x y z, T.dz x y z]) := by
  have mn : T.n ∈ [T.n, T.dx x y z, T.dy x y z, T.dz x y z] := by simp
  have h0 : T.n ≠ 0 := by omega
  have hg := iz mn h0
  have en := eF mn h0 mn
  exact ⟨hg, pw hg hn en, pi mn h0, en, eF mn h0 (by simp), eF mn h0 (by simp), eF mn h0 (by simp)⟩
theorem ud (q : Qd) : kq 1 q = q := by unfold kq; simp
def dG (q : Qd) : Qd := (q.1, -q.2.1, -q.2.2.1, -q.2.2.2)
theorem zy (k : Int) (q : Qd) : bf (kq k (dG q)) q = kq (k * (tq q).n) (1, 0, 0, 0) /\ bf q (kq k (dG q)) = kq (k * (tq q).n) (1, 0, 0, 0) := by
  obtain ⟨a, b, c, d⟩ := q
  obtain ⟨h1, h2⟩ := yt a b c d
  have e1 := uc k 1 (dG (a, b, c, d)) (a, b, c, d)
  have e2 := uc 1 k (a, b, c, d) (dG (a, b, c, d))
  rw [ud] at e1 e2
  rw [e1, e2]
  constructor
  . show kq (k * 1) (bf (a, -b, -c, -d) (a, b, c, d)) = _
    rw [h1, jM, Int.mul_one]; rfl
  . show kq (1 * k) (bf (a, b, c, d) (a, -b, -c, -d)) = _
    rw [h2, jM, Int.one_mul]; rfl
end K
set_option Elab.async false
set_option linter.all false
set_option maxRecDepth 100000
namespace K
open PySem L2 Sp Qm
abbrev V3 := Int × Int × Int
abbrev dv (v : V3) : D := d3 v.1 v.2.1 v.2.2
end K
set_option Elab.async false
set_option linter.all false
set_option maxRecDepth 100000
namespace K
open PySem L2 Sp Qm
theorem kM (q : Qd) (p : Pm q.1 q.2.1 q.2.2.1 q.2.2.2) : ∃ g : Int, (g = 1 \/ g = 2 \/ g = 4) /\ tq q = (tq q).low.map (g * ·) /\ (tq q).n = g * (tq q).low.n /\ (tq q).low.n % 2 = 1 /\ 0 < (tq q).low.n /\ gI (tq q).low.l = 1 := by
  have hp := fR p.ne
  obtain ⟨g, m, e, hg, en, ho, hm⟩ := B7 p
  have eg : gI (tq q).l = g := e
  have hn : (tq q).low.n = m := by
    show ((tq q).n).fdiv (gI (tq q).l) = m
    rw [eg, show (tq q).n = g * m from en]
    exact Int.mul_fdiv_cancel_left m (by omega)
  refine ⟨g, hg, ?_, ?_, by rw [hn]; exact ho, by rw [hn]; exact hm, ?_⟩
  . rw [<- eg]; exact T9.cut hp
  . rw [hn]; exact en
  . have := pi (tq q).mem_n (show (tq q).n ≠ 0 by omega)
    exact this
theorem yT {q : Qd} {g : Int} (cut : tq q = (tq q).low.map (g * ·)) : n4 q.1 q.2.1 q.2.2.1 q.2.2.2 = g * (tq q).low.n /\ fw q.1 q.2.1 q.2.2.1 q.2.2.2 = g * (tq q).low.a /\ fc q.1 q.2.1 q.2.2.1 q.2.2.2 = g * (tq q).low.b /\ eZ q.1 q.2.1 q.2.2.1 q.2.2.2 = g * (tq q).low.c /\ eY q.1 q.2.1 q.2.2.1 q.2.2.2 = g * (tq q).low.d /\ fv q.1 q.2.1 q.2.2.1 q.2.2.2 = g * (tq q).low.e /\ eV q.1 q.2.1 q.2.2.1 q.2.2.2 = g * (tq q).low.f /\ eU q.1 q.2.1 q.2.2.1 q.2.2.2 = g * (tq q).low.g /\ eT q.1 q.2.1 q.2.2.1 q.2.2.2 = g * (tq q).low.h /\ fu q.1 q.2.1 q.2.2.1 q.2.2.2 = g * (tq q).low.i :=
  ⟨congrArg T9.n cut, congrArg T9.a cut, congrArg T9.b cut, congrArg T9.c cut, congrArg T9.d cut, congrArg T9.e cut, congrArg T9.f cut, congrArg T9.g cut, congrArg T9.h cut, congrArg T9.i cut⟩
theorem iO {q : Qd} (p : Pm q.1 q.2.1 q.2.2.1 q.2.2.2) : ∃ K : Int, (K = 1 \/ K = 2 \/ K = 4) /\ (tq q).low.n + (tq q).low.a + (tq q).low.e + (tq q).low.i = K * (q.1 * q.1) /\ (tq q).low.h - (tq q).low.f = K * (q.1 * q.2.1) /\ (tq q).low.c - (tq q).low.g = K * (q.1 * q.2.2.1) /\ (tq q).low.d - (tq q).low.b = K * (q.1 * q.2.2.2) /\ (tq q).low.n + (tq q).low.a - (tq q).low.e - (tq q).low.i = K * (q.2.1 * q.2.1) /\ (tq q).low.b + (tq q).low.d = K * (q.2.1 * q.2.2.1) /\ (tq q).low.c + (tq q).low.g = K * (q.2.1 * q.2.2.2) /\ (tq q).low.n - (tq q).low.a + (tq q).low.e - (tq q).low.i = K * (q.2.2.1 * q.2.2.1) /\ (tq q).low.f + (tq q).low.h = K * (q.2.2.1 * q.2.2.2) /\ (tq q).low.n - (tq q).low.a - (tq q).low.e + (tq q).low.i = K * (q.2.2.2 * q.2.2.2) := by
  obtain ⟨g, hg, cut, en, ho, hn, g1⟩ := kM q p
  have g0 : 0 < g := by omega
  obtain ⟨f, f0, f1, f2, f3, f4, f5, f6, f7, f8⟩ := yT cut
  obtain ⟨K, hK, gK⟩ : ∃ K : Int, (K = 1 \/ K = 2 \/ K = 4) /\ g * K = 4 := by
    rcases hg with rfl | rfl | rfl
    . exact ⟨4, by omega, by omega⟩
    . exact ⟨2, by omega, by omega⟩
    . exact ⟨1, by omega, by omega⟩
  generalize (tq q).low = T at *
  obtain ⟨a, b, c, d⟩ := q
  simp only [n4, fw, fc, eZ, eY, fv, eV, eU, eT, fu] at f f0 f1 f2 f3 f4 f5 f6 f7 f8
  have k : ∀ {x y : Int}, g * x = 4 * y -> x = K * y := fun h => EK g0 (by rw [h, <- gK, Int.mul_assoc])
  clear gK
  clear cut en ho hn g1 hg
  refine ⟨K, hK, ?_, ?_, ?_, ?_, ?_, ?_, ?_, ?_, ?_, ?_⟩ <;> (apply k; clear k hK p; simp only [Int.mul_add, Int.mul_sub]; grind)
end K
set_option Elab.async false
set_option linter.all false
set_option maxRecDepth 100000
namespace K
open PySem L2 Sp Qm
abbrev el (q : Qd) : D := rM q.1 q.2.1 q.2.2.1 q.2.2.2
abbrev eH (q : Qd) : Prop := Pm q.1 q.2.1 q.2.2.1 q.2.2.2
theorem vH {k : Int} {q : Qd} {m : Nat} (hq : wX q) (h : c8 (2 ^ m) (kq k q)) : k.natAbs <= 2 ^ m := by
  obtain ⟨h1, h2, h3, h4⟩ := h
  have key : ∀ t : Int, t ≠ 0 -> (k * t).natAbs <= 2 ^ m -> k.natAbs <= 2 ^ m := fun t t0 ht => by
    rw [Int.natAbs_mul] at ht
    exact Nat.le_trans (Nat.le_mul_of_pos_right _ (by omega)) ht
  by_cases q1 : q.1 = 0
  . by_cases q2 : q.2.1 = 0
    . by_cases q3 : q.2.2.1 = 0
      . exact key _ (fun q4 => hq ⟨q1, q2, q3, q4⟩) h4
      . exact key _ q3 h3
    . exact key _ q2 h2
  . exact key _ q1 h1
theorem rV {k : Int} {q : Qd} {m : Nat} (hk : k ≠ 0) (h : c8 (2 ^ m) (kq k q)) : c8 (2 ^ m) q := by
  obtain ⟨h1, h2, h3, h4⟩ := h
  have key : ∀ t : Int, (k * t).natAbs <= 2 ^ m -> t.natAbs <= 2 ^ m := fun t ht => by
    rw [Int.natAbs_mul] at ht
    exact Nat.le_trans (Nat.le_mul_of_pos_left _ (by omega)) ht
  exact ⟨key _ h1, key _ h2, key _ h3, key _ h4⟩
theorem o0 {k : Int} {q : Qd} {m : Nat} (hm : m <= 999) (h : c8 (2 ^ m) (kq k q)) : okT (([k * q.1, k * q.2.1, k * q.2.2.1, k * q.2.2.2] : List Int).map D.int) := wQ (m := m) hm (by
  obtain ⟨h1, h2, h3, h4⟩ := h
  intro t ht
  simp only [List.mem_cons, List.not_mem_nil, or_false] at ht
  rcases ht with rfl | rfl | rfl | rfl
  . exact h1
  . exact h2
  . exact h3
  . exact h4)
theorem jE {q : Qd} {m : Nat} (h : c8 (2 ^ m) q) : (tq q).bd (m + m + 3) := by
  obtain ⟨h1, h2, h3, h4⟩ := h
  exact wG (m := 2 ^ m) (M := 2 ^ (m + m)) (by rw [Nat.pow_add]; exact Nat.le_refl _) (by rw [Nat.pow_succ, Nat.pow_succ, Nat.pow_succ]; omega) h1 h2 h3 h4
theorem vA {x y z w : Int} (h0 : ¬ (x = 0 /\ y = 0 /\ z = 0 /\ w = 0)) (n1 : cj x) (n2 : cj y) (n3 : cj z) (n4' : cj w) : ∃ (k : Int) (q : Qd), k ≠ 0 /\ (x, y, z, w) = kq k q /\ eH q /\ c8 (2 ^ 67) (kq k q) := by
  obtain ⟨k, a, b, c, d, hk, rfl, rfl, rfl, rfl, p, _⟩ := me h0
  have u67 : ∀ {t : Int}, cj t -> t.natAbs <= 2 ^ 67 := fun h => Nat.le_trans h (by decide)
  exact ⟨k, (a, b, c, d), hk, rfl, p, u67 n1, u67 n2, u67 n3, u67 n4'⟩
end K
set_option Elab.async false
set_option linter.all false
set_option maxRecDepth 100000
namespace Sp
open PySem PySem.Spec PyProof.Rows L2
def Ez : Stmt -> Expr
  | .Assign _ e _ => e
  | _ => .Constant .none 0 ⟨0, 0, 0, 0⟩
def um (s : Stmt) : List Expr := match ar s with
  | [_, .Expr (.Call _ (_ :: args) _ _) _] => args
  | _ => []
def gm (Φ : Fx) (sc : Scope) (ps : List Str) (x1 x2 : Str) (e : Expr) (args : List Expr) (n : Str) (fs : List Str) (ds : List D) : Rs D :=
  if ds.length + 1 = ps.length then (aC Φ e false sc (cV ps (.obj n [] [] :: ds))).bnd fun p => (match p.1 with
    | .tup [u, v] => if aA [u, v] = true then (bW Φ args sc (ck (ck (cV ps (.obj n [] [] :: ds)) x1 (u, false)) x2 (v, false))).bnd fun q => if q.1.length = fs.length then .ok (.obj n fs q.1) [aA q.1 = true, fg q.1 = true] else .st else .st
    | _ => .st) else .st
theorem rC {α β : Type} {r : Rs α} {f : α -> Rs β} {b : β} {l : List Prop} (h : r.bnd f = .ok b l) : ∃ a m, f a = .ok b m := by
  unfold Rs.bnd at h
  split at h
  . cases h
  . split at h
    . cases h
    . rename_i e; cases h; exact ⟨_, _, e⟩
theorem qp {Φ : Fx} {sc : Scope} {ps fs : List Str} {x1 x2 : Str} {e : Expr} {args : List Expr} {n : Str} : ∀ ds r l, gm Φ sc ps x1 x2 e args n fs ds = .ok r l -> r.lless = true := fun ds r l h => by
  unfold gm at h
  split at h
  . obtain ⟨a, m, h⟩ := rC h
    split at h
    . split at h
      . obtain ⟨b, m', h⟩ := rC h
        split at h
        . cases h; rfl
        . cases h
      . cases h
    . cases h
  . cases h
theorem vJ {P : Program} {w : World} {K : W.Frag} {mg : Str -> Option Value} {base : Heap} {k : Nat} {g qual : Str} {st : Stmt} {f f0 : Addr} {fd fd0 : FuncData} {ps ps0 fs : List Str} {Φ : Fx} {n b s0 x1 x2 : Str} {C0 : Addr} {mc : Value} {pb p0 ap cp p4 q1 q2 tp p5 : Pos} {tn : Nat} {e : Expr} {args : List Expr} (Fn : hW K g qual st f fd)
    (S : aD (au (ae st)) ps (ae st)) (hΦ : jC P w K mg base k Φ) (hF0 : bv P w K mg base c9 k f0 fd0 ps0 (wO K fs)) (hb0 : bV K fd0 ps0 []) (hk0 : W.keepIn K (.ref f0) = true)
    (hgb : (ae st).names.lookup b = some .globalImplicit) (hm : mg b = some (.ref C0)) (hga : W.specialIn K (.ref C0) "__getattribute__" = some (some (.builtin "type.__getattribute__"))) (hrd : W.readsIn K C0 mc = true) (hfc : W.findCls K (.ref C0) mc "__init__" = some (.val (.ref f0)))
    (hbody : ar st = [.Assign [.Tuple [.Name x1 q1, .Name x2 q2] tn tp] e p5, .Expr (.Call (.Attribute (.Name b pb) "__init__" ap) (.Name s0 p0 :: args) [] cp) p4]) (hs0 : ps[0]? = some s0) (hok : ff s0 = true) (hdb : (b == ("__debug__" : Str)) = false) (hln : (ap.endLine == cp.line) = true) (hfew : args.length < 28)
    (hl1 : dC (ae st) x1 = true) (hl2 : dC (ae st) x2 = true) (hn1 : x1 ≠ s0) (hn2 : x2 ≠ s0) (hsw : n9 (ae st) [.Name x1 q1, .Name x2 q2] e = false)
    (hna : ∀ C, W.nsIn K mainGlobals n = some (some (.ref C)) -> ∀ x ∈ fs, bn K C x) : bv P w K mg base c9 (k + 1) f fd ps (mU K n (gm Φ (ae st) ps x1 x2 e args n fs)) := by
  refine Fn.ok S (fun vs H Q E h => ?_) (fun cdv A outer s H vs Q E hr h => ?_)
  . obtain ⟨x, ws, C, dx, ds, r, l, rfl, hx, hns, hc, r1, hF, _⟩ := h
    unfold gm at hF
    split at hF
    . rename_i hl; rw [List.length_cons, <- r1.length]; exact hl
    . cases hF
  . obtain ⟨x, ws, C, dx, ds, r, l, rfl, hx, hns, hc, r1, hF, hp, hl, q⟩ := h
    have hF : af (gm Φ (ae st) ps x1 x2 e args n fs ds) r := ⟨l, hF, hp⟩
    unfold gm at hF
    split at hF
    . rename_i hlen
      obtain ⟨pv, h1, hF⟩ := aw hF
      split at hF
      . rename_i u v hpv
        split at hF
        . rename_i hll
          obtain ⟨qv, h2, hF⟩ := aw hF
          split at hF
          . rename_i hfl
            obtain ⟨l3, e3, p3⟩ := hF
            cases e3
            have G := gx (outer := outer) (H := H) (E := E) S hΦ hr
            have r0 : ao K H (fun _ _ => True) (.obj n [] [] :: ds) (.ref x :: ws) := ao.cons (by rw [ak]; exact ⟨rfl, rfl, x, C, dx, [], rfl, hns, hc, hx, ao.nil⟩) r1
            obtain ⟨E0, hsl⟩ := iE (P := P) (w := w) (mg := mg) (base := base) (qual := qual) (f := f) (cdv := cdv) (A := A) (outer := outer) (s := s) (E := E) S r0 hlen
            have ed := (cY h1 G).ed rfl
            obtain ⟨l2, h2, pp2⟩ := h2
            obtain ⟨hst, hal⟩ := cF h2 pp2
            have ad := iC args h2 pp2 G
            have hi0 : (au (ae st))[0]? = some s0 := by
              have hp0 := (List.getElem?_eq_some_iff.mp hs0).1
              have hs1 := hs0
              rw [<- S.pre, List.getElem?_take_of_lt hp0] at hs1
              exact hs1
            have hv0 : fj (ae st) s0 := by
              rcases S.par s0 (List.mem_of_getElem? hs0) with z | z
              . exact .inl z
              . exact .inr (.inl z)
            have hst' : ∀ e ∈ Expr.Name s0 p0 :: args, ∀ y p, e ≠ .Starred y p := fun e he => by
              rcases List.mem_cons.mp he with rfl | he
              . intro _ _ z; cases z
              . exact hst e he
            obtain ⟨g1, g2, g3, i1, g4⟩ := fW G hl1
            obtain ⟨k1, k2, k3, i2, k4⟩ := fW G hl2
            have ne1 : i1 ≠ 0 := fun z => by rw [z] at g4; exact hn1 (Option.some.inj (g4.symm.trans hi0))
            have ne2 : i2 ≠ 0 := fun z => by rw [z] at k4; exact hn2 (Option.some.inj (k4.symm.trans hi0))
            rw [hbody]
            refine ⟨_, dY (kT (ed (fun _ => none)) (oI (n := 2) G.calm (kv (iq (i := i1) G.nd g4 g1 g3) (kv (iq (i := i2) G.nd k4 k1 k3) qS rfl) rfl) rfl rfl) fS (l9 G hsw) rfl) (jI (ip (oM (G.gl b hgb) hm hga hrd hfc hk0 hF0 hr hb0 gU (gw (gC (i := 0) hi0 hv0 (dw hok).1 (dw hok).2) (ad (fun _ => none)) (aO fun _ _ z => by cases z)) (aO fun _ _ z => by cases z) (bP hst) hdb (nQ (eR rfl) (lr hst' (by rw [List.length_cons]; omega)) hln)) rfl)), ?_⟩
            refine ⟨E0, fun vv H1 s1 rv => ?_⟩
            rw [hpv] at rv
            obtain ⟨a, vs', rfl, hs, rl⟩ := eD rv
            rw [ao] at rl
            obtain ⟨va, vr, rfl, ra, rl⟩ := rl
            rw [ao] at rl
            obtain ⟨vb, vr', rfl, rb, rl⟩ := rl
            rw [ao] at rl
            subst rl
            have E1 := eh G.nd hsl (E0.same s1) g4 g2 (o := false) (ra.imp fun _ _ _ _ => rfl)
            have E2 := eh G.nd (by rw [List.length_set]; exact hsl) E1 k4 k2 (o := false) (rb.imp fun _ _ _ _ => rfl)
            refine ⟨a, [va, vb], rfl, hs, rfl, va, [vb], rfl, vb, [], rfl, rfl, .ref x, ?_, E2, fun vs H2 s2 rv => ?_⟩
            . rw [List.getElem?_set_ne ne2, List.getElem?_set_ne ne1]
              have hn : 0 < (au (ae st)).length := (List.getElem?_eq_some_iff.mp hi0).1
              rfl
            . have s12 := s1.trans s2
              refine ⟨x, vs ++ [], C, dx, rfl, by rw [List.append_nil, <- rv.length]; exact hfl, s12 _ _ hx, hc, hna C hns, q _ (fun a o ha h => ?_) ?_⟩
              . rw [aG ha]; exact s12 _ _ h
              . rw [ak, List.append_nil]
                exact ⟨p3.1, hfl.symm, x, C, dx, vs, rfl, hns, hc, aS, ((rv.off (s12 _ _ hx) (fun a o ha h => by rw [aG ha]; exact h) p3.2.1).imp fun _ _ _ => True.intro)⟩
          . exact (av hF).elim
        . exact (av hF).elim
      . exact (av hF).elim
    . exact (av hF).elim
end Sp
set_option Elab.async false
set_option linter.all false
set_option maxRecDepth 100000
namespace K
open PySem L2 Sp Qm
theorem BA {Φ : Fx} {sc : Scope} {ps fs : List Str} {x1 x2 : Str} {e : Expr} {args : List Expr} {n : Str} {ds q : List D} {u v : D} {k j : Nat} (hl : ds.length + 1 = ps.length) (h0 : af (aC Φ e false sc (cV ps (.obj n [] [] :: ds))) (.tup [u, v], j)) (hu : aA [u, v] = true) (h : af (bW Φ args sc (ck (ck (cV ps (.obj n [] [] :: ds)) x1 (u, false)) x2 (v, false))) (q, k)) (hq : q.length = fs.length) (h1 : aA q = true) (h2 : fg q = true) : af (gm Φ sc ps x1 x2 e args n fs ds) (.obj n fs q) := by
  unfold gm
  rw [if_pos hl]
  refine h0.bnd ?_
  dsimp only
  rw [if_pos hu]
  refine h.bnd ?_
  dsimp only
  rw [if_pos hq]
  exact ⟨_, rfl, h1, h2, True.intro⟩
abbrev aq (u : V3) : Qd := (0, u.1, u.2.1, u.2.2)
theorem CP {u : V3} (h : wX (aq u)) : ∃ (k : Int) (v : V3), k ≠ 0 /\ u = (k * v.1, k * v.2.1, k * v.2.2) /\ eH (aq v) := by
  obtain ⟨k, a, b, c, d, hk, e0, e1, e2, e3, p, _⟩ := me h
  have a0 : a = 0 := (Int.mul_eq_zero.mp e0.symm).resolve_left hk
  subst a0
  obtain ⟨x, y, z⟩ := u
  exact ⟨k, (b, c, d), hk, by simp only [Prod.mk.injEq]; exact ⟨e1, e2, e3⟩, p⟩
end K
namespace K
open PySem L2 Sp Qm
theorem EH (b c d : Int) : gI [0, b, c, d] = gI [b, c, d] := by unfold gI; simp [bO]
theorem Bu {k b c d : Int} (hk : k ≠ 0) (p : Pm 0 b c d) : gI [k * b, k * c, k * d] = k.natAbs := by
  rw [<- EH]
  have := lg hk p
  rw [Int.mul_zero] at this
  exact this
theorem yU {k b c d : Int} (hk : k ≠ 0) (h : ¬ (k * b = 0 /\ k * c = 0 /\ k * d = 0)) : L2.atI ((([k * b, k * c, k * d] : List Int).filter fun t => !decide (t = 0)).map D.int) 0 = some (.int (k * cQ 0 b c d)) := by
  have := oY (x := 0) (y := k * b) (z := k * c) (w := k * d) (fun z => h z.2)
  rw [show cQ 0 (k * b) (k * c) (k * d) = cQ (k * 0) (k * b) (k * c) (k * d) by rw [Int.mul_zero], fB _ _ _ _ hk] at this
  exact this
end K
set_option Elab.async false
set_option linter.all false
set_option maxRecDepth 100000
namespace K
open PySem L2 Sp Qm
end K
namespace K
open PySem L2 Sp Qm
end K
set_option Elab.async false
set_option linter.all false
set_option maxRecDepth 100000
namespace Sp
open PySem PySem.Spec PyProof.Rows L2
variable {X : Cx}
end Sp
set_option Elab.async false
set_option linter.all false
set_option maxRecDepth 100000
namespace K
open PySem L2 Sp Qm
theorem Ch (k : Int) (q : Qd) : dG (kq k q) = kq k (dG q) := by
  obtain ⟨a, b, c, d⟩ := q
  simp only [dG, kq, Prod.mk.injEq, Int.mul_neg, and_self]
def Fr (T : T9) (x y z n X Y Z : Int) : Prop := T.dx x y z * n = X * T.n /\ T.dy x y z * n = Y * T.n /\ T.dz x y z * n = Z * T.n
theorem uw {c : Int} (hc : c ≠ 0) {T : T9} {x y z n X Y Z : Int} : Fr (T.map (c * ·)) x y z n X Y Z ↔ Fr T x y z n X Y Z := by
  obtain ⟨m1, m2, m3⟩ := xa c T x y z
  unfold Fr
  rw [m1, m2, m3]
  have k : ∀ {a b : Int}, (c * a * n = b * (c * T.n)) ↔ (a * n = b * T.n) := fun {a b} => by
    rw [show c * a * n = c * (a * n) by grind, show b * (c * T.n) = c * (b * T.n) by grind]
    exact Int.mul_eq_mul_left_iff hc
  exact and_congr k (and_congr k k)
theorem rz (a b c x y z k : Int) : bM a b c (x * k) (y * k) (z * k) = bM a b c x y z * k := by unfold bM; grind
theorem rj {q : Qd} {x y z m P Q R g : Int} (hp : eH q) (p : xA (tq q).low x y z m P Q R g) : Fr (tq q) x y z m P Q R := by
  obtain ⟨g0, hg, cut, _⟩ := kM q hp
  rw [cut]
  refine (uw (by omega)).mpr ⟨?_, ?_, ?_⟩
  . rw [p.ex, p.en]; grind
  . rw [p.ey, p.en]; grind
  . rw [p.ez, p.en]; grind
theorem vP {A B : T9} {x y z n X Y Z m X' Y' Z' : Int} (h : Fr A x y z n X Y Z) (p : Fr B X Y Z m X' Y' Z') : Fr (A.bh B) x y z (n * m) X' Y' Z' := by
  obtain ⟨h1, h2, h3⟩ := h
  obtain ⟨d1, d2, d3⟩ := EL A B x y z
  have key : ∀ {u v w R : Int}, bM u v w X Y Z * m = R * B.n -> bM u v w (A.dx x y z) (A.dy x y z) (A.dz x y z) * (n * m) = R * (A.n * B.n) := fun {u v w R} e => by
    have s1 : bM u v w (A.dx x y z) (A.dy x y z) (A.dz x y z) * n = bM u v w X Y Z * A.n := by rw [<- rz, h1, h2, h3, rz]
    calc bM u v w (A.dx x y z) (A.dy x y z) (A.dz x y z) * (n * m) = (bM u v w (A.dx x y z) (A.dy x y z) (A.dz x y z) * n) * m := by grind
      _ = (bM u v w X Y Z * m) * A.n := by rw [s1]; grind
      _ = R * (A.n * B.n) := by rw [e]; grind
  refine ⟨?_, ?_, ?_⟩
  . rw [d1]; exact key p.1
  . rw [d2]; exact key p.2.1
  . rw [d3]; exact key p.2.2
theorem zc {V V' : Qd} {k : Int} (hk : k ≠ 0) (nV : wX V) (e : V' = kq k (dG V)) {x y z m P Q R n X Y Z : Int} (h : Fr (tq V) x y z m P Q R) (h' : Fr (tq V') P Q R n X Y Z) : x * m * n = X /\ y * m * n = Y /\ z * m * n = Z := by
  have t := vP h h'
  rw [<- zU, e, (zy k V).1] at t
  have c0 : k * (tq V).n ≠ 0 := Int.mul_ne_zero hk (by have := fR nV; omega)
  have e3 : tq (kq (k * (tq V).n) (1, 0, 0, 0)) = (tq (1, 0, 0, 0)).map (k * (tq V).n * (k * (tq V).n) * ·) := qM _ _
  rw [e3] at t
  obtain ⟨t1, t2, t3⟩ := (uw (Int.mul_ne_zero c0 c0)).mp t
  simp only [T9.dx, T9.dy, T9.dz, tq, bM, n4, fw, fc, eZ, eY, fv, eV, eU, eT, fu] at t1 t2 t3
  refine ⟨?_, ?_, ?_⟩ <;> grind
end K
set_option Elab.async false
set_option linter.all false
set_option maxRecDepth 100000
namespace K
open PySem L2 Sp Qm
theorem xS {p q : Qd} (hp : eH p) (hq : eH q) (e : (tq p).low = (tq q).low) : p = q := by
  obtain ⟨K, hK, f0, f1, f2, f3, f4, f5, f6, f7, f8, f9⟩ := iO hp
  obtain ⟨M, hM, g0, g1, g2, g3, g4, g5, g6, g7, g8, g9⟩ := iO hq
  rw [e] at f0 f1 f2 f3 f4 f5 f6 f7 f8 f9
  have e0 := f0.symm.trans g0; have e1 := f1.symm.trans g1; have e2 := f2.symm.trans g2; have e3 := f3.symm.trans g3
  have e4 := f4.symm.trans g4; have e5 := f5.symm.trans g5; have e6 := f6.symm.trans g6; have e7 := f7.symm.trans g7
  have e8 := f8.symm.trans g8; have e9 := f9.symm.trans g9
  clear f0 f1 f2 f3 f4 f5 f6 f7 f8 f9 g0 g1 g2 g3 g4 g5 g6 g7 g8 g9 e
  have K0 : K ≠ 0 := by omega
  have M0 : M ≠ 0 := by omega
  have key : ∀ x x' : Int, x ≠ 0 -> K * (x * x) = M * (x' * x') -> K * (x * p.1) = M * (x' * q.1) -> K * (x * p.2.1) = M * (x' * q.2.1) -> K * (x * p.2.2.1) = M * (x' * q.2.2.1) -> K * (x * p.2.2.2) = M * (x' * q.2.2.2) -> p = q := fun x x' hx h0 h1 h2 h3 h4 => by
    have x0 : x' ≠ 0 := fun z => by
      rw [z, Int.mul_zero, Int.mul_zero] at h0
      rcases Int.mul_eq_zero.mp h0 with r | r
      . exact K0 r
      . rcases Int.mul_eq_zero.mp r with r | r <;> exact hx r
    refine mZ (Int.mul_ne_zero K0 hx) (Int.mul_ne_zero M0 x0) hp hq ?_
    unfold kq
    rw [Int.mul_assoc, Int.mul_assoc, Int.mul_assoc, Int.mul_assoc, Int.mul_assoc, Int.mul_assoc, Int.mul_assoc, Int.mul_assoc, h1, h2, h3, h4]
  by_cases ha : p.1 = 0
  . by_cases hb : p.2.1 = 0
    . by_cases hc : p.2.2.1 = 0
      . by_cases hd : p.2.2.2 = 0
        . exact absurd ⟨ha, hb, hc, hd⟩ hp.ne
        . exact key p.2.2.2 q.2.2.2 hd e9 (by rw [Int.mul_comm p.2.2.2, Int.mul_comm q.2.2.2]; exact e3) (by rw [Int.mul_comm p.2.2.2, Int.mul_comm q.2.2.2]; exact e6) (by rw [Int.mul_comm p.2.2.2, Int.mul_comm q.2.2.2]; exact e8) e9
      . exact key p.2.2.1 q.2.2.1 hc e7 (by rw [Int.mul_comm p.2.2.1, Int.mul_comm q.2.2.1]; exact e2) (by rw [Int.mul_comm p.2.2.1, Int.mul_comm q.2.2.1]; exact e5) e7 e8
    . exact key p.2.1 q.2.1 hb e4 (by rw [Int.mul_comm p.2.1, Int.mul_comm q.2.1]; exact e1) e4 e5 e6
  . exact key p.1 q.1 ha e0 e0 e1 e2 e3
theorem Bl {p q : Qd} (hp : eH p) (hq : eH q) (q0 : q.1 = 0) (h0 : (tq p).low.n = (tq q).low.n) (h1 : (tq p).low.a = -(tq q).low.a) (h2 : (tq p).low.b = -(tq q).low.b) (h3 : (tq p).low.c = -(tq q).low.c) (h4 : (tq p).low.d = -(tq q).low.d) (h5 : (tq p).low.e = -(tq q).low.e) (h6 : (tq p).low.f = -(tq q).low.f) (h7 : (tq p).low.g = -(tq q).low.g) (h8 : (tq p).low.h = -(tq q).low.h) (h9 : (tq p).low.i = -(tq q).low.i) : False := by
  have n0 := T9.lown (fR hq.ne)
  obtain ⟨K, hK, f0, f1, f2, f3, f4, f5, f6, f7, f8, f9⟩ := iO hp
  obtain ⟨M, hM, g0, g1, g2, g3, g4, g5, g6, g7, g8, g9⟩ := iO hq
  rw [q0, Int.zero_mul, Int.mul_zero] at g0 g1 g2 g3
  have K0 : K ≠ 0 := by omega
  have hA : p.1 ≠ 0 := fun z => by rw [z, Int.zero_mul, Int.mul_zero] at f0; omega
  have zero : ∀ {y : Int}, K * (p.1 * y) = 0 -> y = 0 := fun {y} h => ((Int.mul_eq_zero.mp ((Int.mul_eq_zero.mp h).resolve_left K0)).resolve_left hA)
  have hb := zero (y := p.2.1) (by omega)
  have hc := zero (y := p.2.2.1) (by omega)
  have hd := zero (y := p.2.2.2) (by omega)
  rw [hb, Int.zero_mul, Int.mul_zero] at f4
  rw [hc, Int.zero_mul, Int.mul_zero] at f7
  rw [hd, Int.zero_mul, Int.mul_zero] at f9
  omega
end K
set_option Elab.async false
set_option linter.all false
set_option maxRecDepth 100000
namespace Sp
open PySem PySem.Spec PyProof.Rows L2
def xH (Φ : Fx) (Ψ : Str -> Option (List D -> Option (Str × Str))) (sc : Scope) (s0 c : Expr) (u : Str) (es : List Expr) (ρ : al) (r : Str × Str) : Prop := ∃ d0 kc0 d kc ds2 k2 Gu, af (aC Φ s0 false sc ρ) (d0, kc0) /\ af (aC Φ c false sc ρ) (d, kc) /\ af (bW Φ es sc ρ) (ds2, k2) /\ Ψ u = some Gu /\ Gu ds2 = some r
def Ag : List Stmt -> List Expr
  | [.Expr (.Call _ args _ _) _] => args
  | _ => []
def DP : List Stmt -> List Expr
  | [.Expr (.Call _ (_ :: _ :: .Call _ es _ _ :: _) _ _) _] => es
  | _ => []
def Fg (es : List Expr) : Bool := es.all fun e => match e with | .Starred _ _ => false | _ => true
theorem Bg {es : List Expr} (h : Fg es = true) : ∀ e ∈ es, ∀ y p, e ≠ .Starred y p := fun e he y p z => by
  have q := List.all_eq_true.mp h e he
  subst z
  cases q
theorem x4 {g : Str} {G : List D -> Option (Str × Str)} {ds : List D} {r : Str × Str} (h : ol g G ds = some r) : ∃ l, ds = .obj g [] [] :: l /\ G l = some r := by
  unfold ol at h
  split at h
  . split at h
    . rename_i e; subst e; exact ⟨_, rfl, h⟩
    . cases h
  . cases h
theorem xZ {g : Str} {G : List D -> Option (Str × Str)} {ps : List Str} {T : List D -> Str × Str -> Prop} (h : ∀ ds r, G ds = some r -> ds.length + 1 = ps.length /\ T (.obj g [] [] :: ds) r) : ∀ ds r, ol g G ds = some r -> ds.length = ps.length /\ T ds r := fun ds r q => by
  obtain ⟨l, rfl, q'⟩ := x4 q
  exact h l r q'
theorem vK {P : Program} {w : World} {K : W.Frag} {mg : Str -> Option Value} {base : Heap} {k : Nat} {g qual : Str} {st : Stmt} {f f0 : Addr} {fd : FuncData} {ps : List Str} {Φ : Fx} {Ψ : Str -> Option (List D -> Option (Str × Str))} {G : List D -> Option (Str × Str)} {b u : Str} {C0 : Addr} {mc : Value} {pb ap cp p4 up uq : Pos} {s0 c e : Expr} {es cw : List Expr} (Fn : hW K g qual st f fd)
    (S : aD (au (ae st)) ps (ae st)) (hΦ : jC P w K mg base k Φ) (hΨ : ∀ g G, Ψ g = some G -> iI P w K mg base k g G) (hk0 : W.keepIn K (.ref f0) = true)
    (hgb : (ae st).names.lookup b = some .globalImplicit) (hm : mg b = some (.ref C0)) (hga : W.specialIn K (.ref C0) "__getattribute__" = some (some (.builtin "type.__getattribute__"))) (hrd : W.readsIn K C0 mc = true) (hfc : W.findCls K (.ref C0) mc "__init__" = some (.val (.ref f0)))
    (hbody : ar st = [.Expr (.Call (.Attribute (.Name b pb) "__init__" ap) (s0 :: c :: .Call (.Name u up) (e :: es) [] uq :: cw) [] cp) p4]) (hdb : (b == ("__debug__" : Str)) = false) (hln : (ap.endLine == cp.line) = true) (hfew : cw.length < 20) (hst : ∀ e ∈ s0 :: c :: cw, ∀ y p, e ≠ .Starred y p) (hu : (ae st).names.lookup u = some .globalImplicit)
    (hrun : ∀ ds r, G ds = some r -> ds.length = ps.length /\ xH Φ Ψ (ae st) s0 c u (e :: es) (cV ps ds) r) : bv P w K mg base (cO P w) (k + 1) f fd ps (qO K G) := by
  obtain ⟨oc, od, kV, doc, pm, an, cdv, ct, osl, rfl, lk, hcd⟩ := Fn.ex
  refine sC lk hcd S (fun vs H Q E h => ?_) fun A outer s H vs Q E hr hsp => ?_
  . obtain ⟨ds, n, p, C, S', h1, h2, _⟩ := h
    rw [<- h1.length]; exact (hrun ds _ h2).1
  . obtain ⟨ds, n, p, C, S', h1, h2, h3, h4, h5, h6⟩ := hsp
    obtain ⟨hl, d0, kc0, d, kc, ds2, k2, Gu, e0, e1, e2, e3, e4⟩ := hrun ds _ h2
    have Gd : aT Φ (cJ (cO P w) P w K mg base (au (ae st)) qual (ae st) f cdv A outer s H E).nox (ae st) := gx (outer := outer) (H := H) (E := E) S hΦ hr
    obtain ⟨E0, hsl⟩ := iE (P := P) (w := w) (mg := mg) (base := base) (qual := qual) (f := f) (cdv := cdv) (A := A) (outer := outer) (s := s) (E := E) S h1 hl
    have B0 : cq H (fun _ => none) H := fun a o h => ⟨h, rfl⟩
    have n0 := hst s0 List.mem_cons_self
    have n1 := hst c (List.mem_cons_of_mem _ List.mem_cons_self)
    have hst' : ∀ e' ∈ s0 :: c :: .Call (.Name u up) (e :: es) [] uq :: cw, ∀ y p, e' ≠ .Starred y p := fun e' he => by
      rcases List.mem_cons.mp he with rfl | he
      . exact n0
      . rcases List.mem_cons.mp he with rfl | he
        . exact n1
        . rcases List.mem_cons.mp he with rfl | he
          . intro _ _ z; cases z
          . exact hst _ (List.mem_cons_of_mem _ (List.mem_cons_of_mem _ he))
    rw [hbody]
    refine ⟨wJ (cJ (cO P w) P w K mg base (au (ae st)) qual (ae st) f cdv A outer s H E) H (cV ps ds), fe fun pins s1 σ H1 D I ⟨ow, E1, hl1, B1⟩ => ?_, fun _ => none, E0, hsl, B0⟩
    have hx : ∀ pins σ H2 s2 e s', am (cJ (cO P w) P w K mg base (au (ae st)) qual (ae st) f cdv A outer s H E) pins σ H2 s2 -> cO P w (cJ (cO P w) P w K mg base (au (ae st)) qual (ae st) f cdv A outer s H E).stack H2 s2 (xL H C) e s' -> (cJ (cO P w) P w K mg base (au (ae st)) qual (ae st) f cdv A outer s H E).xe e s' := fun pins σ H2 s2 e s' I2 cx => by
      refine le I2 rfl rfl ?_
      obtain ⟨x, C', T, H', rfl, z1, z2, z3, z4, z5, z6, z7, z8, z9, ⟨q1, q2⟩⟩ := cx
      cases q1
      exact ⟨x, C, T, H', rfl, z1, z2, z3, z4, z5, z6, z7, z8, z9, h6 H' q2⟩
    have P0 : PE (cJ (cO P w) P w K mg base (au (ae st)) qual (ae st) f cdv A outer s H E) s0 (tD (cJ (cO P w) P w K mg base (au (ae st)) qual (ae st) f cdv A outer s H E).nox ow (cV ps ds) d0 kc0) := ((cY e0 Gd).ed rfl ow).nox
    have P1 : PE (cJ (cO P w) P w K mg base (au (ae st)) qual (ae st) f cdv A outer s H E) c (tD (cJ (cO P w) P w K mg base (au (ae st)) qual (ae st) f cdv A outer s H E).nox ow (cV ps ds) d kc) := ((cY e1 Gd).ed rfl ow).nox
    have P2 : PE (cJ (cO P w) P w K mg base (au (ae st)) qual (ae st) f cdv A outer s H E) (.Call (.Name u up) (e :: es) [] uq) (fun σ' H' _ => aP (cJ (cO P w) P w K mg base (au (ae st)) qual (ae st) f cdv A outer s H E).nox ow H' σ' (cV ps ds) /\ az H H') := fun pins' s' σ' H' Q' I' ⟨E', B'⟩ =>
      fz Gd ((hΨ u Gu e3).at hr) h3 h4 h5 e2 hu e4 I' E' B' (hx pins' σ')
    have P3 : PA (cJ (cO P w) P w K mg base (au (ae st)) qual (ae st) f cdv A outer s H E) cw (fun _ _ _ => False) := fun _ _ _ _ _ _ _ z => z.elim
    have PP := gw P0 (gw P1 (gw P2 P3 (aO fun _ _ z => by cases z)) (aO n1)) (aO n0)
    refine wpAny_Expr_any ?_ I.quiet rfl
    refine W.methodCall_KW (pl := (do return (<- importBound (.Name b pb) (cJ (cO P w) P w K mg base (au (ae st)) qual (ae st) f cdv A outer s H E).env).getD true)) (dE I (Gd.gl b hgb) hm ?_ hdb) (nQ (eR rfl) (lr hst' (by simp only [List.length_cons]; omega)) hln)
    refine W.method_cls I.kIn hga (W.cls_value I.kIn hrd hfc rfl ?_)
    have I' := I.tok (s1.toks + 1)
    refine W.callWith_K (first := []) (h₀ := base) I.ok.mod.kin hk0 (aL (PP cp pins _ σ H1 (fun _ _ => False) I' ⟨E1, fun v H2 s2 _ => ⟨E1.same s2, fun v' H3 s3 _ => ⟨(E1.same s2).same s3, (B1.sm.trans s2).trans s3⟩⟩⟩) fun us s2 ⟨vs, H2, I2, r, q2⟩ => q2.elim) (aO n0) (bP fun x hx => hst' x (List.mem_cons_of_mem _ hx))
end Sp
set_option Elab.async false
set_option linter.all false
set_option maxRecDepth 100000
namespace Att
open PySem PySem.W PySem.Calls PyProof.Rows
theorem kJ : ∀ (ns : List Int) (m : Int), m ∈ ns -> Builtin.Int.intBits m <= WData.weightAll (ns.map WData.int)
  | n :: ns, m, h => by
    rw [List.map_cons, WData.weightAll, WData.weight]
    rcases List.mem_cons.mp h with rfl | h
    . unfold Builtin.Int.intBits; omega
    . have := kJ ns m h; omega
theorem zu {ns : List Int} (h : WData.layableAll [WData.list (ns.map WData.int)] = true) : ∀ m ∈ ns, Builtin.Int.intBits m <= 2 ^ 20 := fun m hm => by
  unfold WData.layableAll at h
  have h1 : WData.layable (WData.list (ns.map WData.int)) = true := by simpa using h
  unfold WData.layable at h1
  have h2 := (Bool.and_eq_true_iff.mp h1).2
  have h3 := of_decide_eq_true h2
  rw [WData.weight] at h3
  exact Nat.le_trans (kJ ns m hm) h3
theorem attach_callB {l : OpenLaw} {n : Nat} {q : Program} {loose : List Str} {XP : (Str -> Option Value) -> Heap -> Prop} {YP : World -> Heap -> Prop} {d : DefRec}
    (hn : l.most = some n) (hdf : d.params.defaults = [])
    (call : ∀ (w : World) (s₀ s₁ : Shared) (mg mb : Str -> Option Value) (fa : Addr) (o : Obj) (pm cd doc : Value) (a : Addr) (vs : List Value) (ns : List Int),
      Ground q loose [] XP w s₀ mg mb s₁.heap -> YP w s₁.heap ->
      s₁.heap.get? fa = some o -> o.data = .func (docDef d.name d.params d.body d.scope pm cd doc) -> s₁.heap.CodeRec cd d.name -> mg d.name = some (.ref fa) ->
      s₁.heap.get? a = some { cls := .type "list", data := .seq vs.toArray } -> IntsAre vs ns -> ns.length <= n -> (∀ m ∈ ns, Builtin.Int.intBits m <= 2 ^ 20) -> s₁.gens = #[] ->
      codeAny (model l.prog w) callerA (.call (.ref fa) ⟨[.ref a], []⟩) (fun r s' => r = .ok (.ret (.bool true)) /\ OldK s₁.heap s'.heap /\ s'.os = s₁.os /\ AllBare s'.gens) s₁) :
    WalkO q loose XP YP l.row.toRowW d [] (fun f vs => PySem.call f vs) := by
  intro w s₀ s₁ mg mb G Y fa o pm cd doc dV kV ho hd hcd hD hmg hg args vals as hpre hlay hrd hwl hlo
  obtain rfl : dV = .none := Dflts.none hD hdf
  obtain rfl : kV = .none := Dflts.noKw hD
  obtain ⟨a, vs, ns, rfl, rfl, hobj, hints, hlen⟩ := mX hn hpre hwl
  have hbits := zu hlay
  refine enter_call (codeAny_mono (call w s₀ s₁ mg mb fa o pm cd doc a vs ns G Y ho (fd_plain hd) hcd hmg hobj hints hlen hbits hg) fun r s' hq => ?_)
  obtain ⟨rfl, h2, h3, h4⟩ := hq
  exact ⟨.inl ⟨.bool true, .bool true, [], rfl, fun _ => rfl, .bool true, m9 l _, fun _ => ⟨List.Pairwise.nil, fun _ hm => (nomatch hm)⟩⟩, h2, h3, h4⟩
end Att
namespace L2
open PySem PySem.Spec PyProof.Rows
theorem walk_ofB {l : W.OpenLaw} {n k : Nat} {q : Program} {loose : List Str} {XP : (Str -> Option Value) -> Heap -> Prop} {YP : World -> Heap -> Prop} {d : DefRec} {K : Params -> W.Frag} {CX : World -> gR} {sp : World -> Sp} {x : Str}
    (hn : l.most = some n) (hn2 : n <= sizeLine) (hdf : d.params.defaults = []) (hr : bQ k callerA)
    (hY : ∀ (w : World) (h : Heap), YP w h -> (K w.params).In h)
    (F : ∀ (w : World) (mg : Str -> Option Value) (fa : Addr) (h : Heap), (K w.params).In h -> h.Ns mainGlobals mg -> mg d.name = some (.ref fa) ->
      ∃ fd : FuncData, (∀ (s : Shared) (u : Value), BindsTo s fd ⟨[u], []⟩ [(x, u)]) /\
        ∀ base : Heap, (K w.params).In base -> base.Ns mainGlobals mg -> bv l.prog w (K w.params) mg base (CX w) k fa fd [x] (sp w))
    (hsp : ∀ (w : World) (H : Hp) (a : Addr) (ns : List Int), ns.length <= n -> (∀ m ∈ ns, Builtin.Int.intBits m <= 2 ^ 20) -> qh H -> cA (K w.params) H a (ns.map V.int) -> sp w [.ref a] H (fun v _ => v = .bl true) fun _ _ _ => False)
    (hCX : ∀ (w : World) (H : Hp) (s : Shared) (e : Value) (s' : Shared), CX w [] H s (fun _ _ _ => False) e s' -> False) :
    W.WalkO q loose XP YP l.row.toRowW d [] (fun f vs => PySem.call f vs) := by
  refine Att.attach_callB hn hdf fun w s₀ s₁ mg mb fa o pm cd doc a vs ns G Y ho hd hcd hmg hobj hints hlen hbits hg => ?_
  have KX := hY w _ Y
  obtain ⟨fd, hb, hF⟩ := F w mg fa _ KX G.T.g hmg
  exact oZ KX G.T.g G.T.b G.T.builtins G.T.nolimit hg hobj hints (Nat.le_trans hlen hn2) hr hF hb (fun H hO hS => hsp w H a ns hlen hbits hO hS) fun H e s' => hCX w H s₁ e s'
end L2
set_option Elab.async false
set_option linter.all false
set_option maxRecDepth 100000
namespace K
open PySem L2 Sp
def ah (i : Nat) : Stmt := PySem.Challenge.pw_spaceturns_k36_turns_as_deeds.main.body.getD i (.Pass ⟨0, 0, 0, 0⟩)
local macro_rules | `(tactic| walk_at "leaf") => `(tactic| first | ((with_reducible apply yM); decide) | ((with_reducible apply yN); decide) | ((with_reducible apply zp) <;> decide) | ((with_reducible apply cm) <;> (with_reducible assumption)) | ((with_reducible apply yp) <;> decide) | ((with_reducible refine Eq.trans ?_ rfl); exact rfl) | ((with_reducible apply vX); (with_reducible assumption)) | ((with_reducible apply Be); assumption) | exact Nat.le_of_ble_eq_true rfl | exact Or.inl rfl | exact Or.inr rfl | exact Or.inr (Nat.le_refl 1) | exact Or.inr (Nat.zero_le 1) | decide | decide +kernel)
local macro_rules | `(tactic| walk_at "ob") => `(tactic| (repeat' (first | with_reducible exact True.intro | with_reducible exact wj | with_reducible apply sM | with_reducible apply wg | with_reducible apply qw | with_reducible assumption | ((with_reducible apply ej); intro hgd) | walk_at "leaf")))
local macro_rules | `(decl_name%) => `(cK rfl (by walk_at "ob"))
def BL : List (Str × (List D -> R1)) := [("len", v5), ("tuple", pU), ("list", sJ), ("abs", we), ("all", wb), ("any", sK), ("sum", v3), ("isinstance", v6), ("int", v8)]
def IL : List (Str × (List D -> Nat -> R1)) := [("range", pe), ("zip", sy)]
def ML : List (Str × (D -> List D -> R1)) := []
def TL : List (Str × (List D -> List D -> Nat -> Rs (List D))) := [("append", mj)]
def EX : Str -> Option Str := fun c => ([("Nought", "SpaceError")] : List (Str × Str)).lookup c
def wm : Fx := Tb [] [] BL IL ML TL aQ
def wt : List D -> Rs D := bN wm (ae (ah 35)) ["_law_script", "_law_k"] (ar (ah 35))
def gM : List D -> Rs D := qP dL dI fun l k => .ok (.int (cn l k)) [okL l]
theorem qH : ∀ ds r, af (gM ds) r -> af (wt ds) r := by
  intro ds r h
  obtain ⟨l, k, rfl, h⟩ := jF h
  obtain ⟨rfl, ⟨ns, rfl⟩, _⟩ := du h
  refine b5 (eB 1 (cK rfl True.intro) (rR (cK rfl True.intro) (fun ht => ?_) (fun hf => ?_)))
  . have hl : (ns.map D.int).length = ns.length := by simp
    have hp : (0 : Int) < ((ns.map D.int).length : Nat) := by simpa using ht
    have hi : L2.atI (ns.map D.int) (k.fmod (((ns.map D.int).length : Nat) : Int)) = some (.int (d8 ns k)) := by
      rw [hl] at hp ⊢
      have hne : ns ≠ [] := by intro z; subst z; simp at hp
      unfold d8
      rw [if_neg hne]
      exact zL (Int.fmod_nonneg_of_pos _ hp) (Int.fmod_lt_of_pos _ hp)
    refine bt (bR (d := .int (d8 ns k)) (lA (cK rfl True.intro) (cK rfl ⟨Int.ne_of_gt hp, True.intro⟩) rfl hi)) ?_
    refine decl_name%.eq ?_
    unfold cn lD; rw [iJ]
  . have hp : ns = [] := by
      cases ns with
      | nil => rfl
      | cons n ns => simp at hf
    subst hp
    refine decl_name%.eq ?_
    rfl
def sR : Fx := Tb [] [] BL IL ML TL aQ
def sT : List D -> Rs D := bN sR (ae (ah 38)) ["_law_cell_here", "_law_kind"] (ar (ah 38))
def gq : List D -> Rs D := qP dI dI fun c k => .ok (.int (dZ c k)) [Builtin.Int.intBits c <= 2 ^ 21]
theorem nM : ∀ ds r, af (gq ds) r -> af (sT ds) r := by
  intro ds r h
  obtain ⟨c, k, rfl, h'⟩ := jF h
  obtain ⟨rfl, hb, _⟩ := du h'
  have hm : cg c (1000003 ^ Int.toNat 4) := yL (Nat.le_trans hb (by decide)) vZ
  unfold dZ
  by_cases h1 : k.fmod 3 = 0
  . rw [if_pos h1]
    exact b5 (gz decl_name% (sD h1) decl_name%)
  . rw [if_neg h1]
    by_cases h2 : k.fmod 3 = 1
    . rw [if_pos h2]
      exact b5 (bq decl_name% ((dt _ _).trans (decide_eq_false h1)) (gz decl_name% (sD h2) decl_name%))
    . rw [if_neg h2]
      exact b5 (bq decl_name% ((dt _ _).trans (decide_eq_false h1)) (bq decl_name% ((dt _ _).trans (decide_eq_false h2)) decl_name%))
def fO : Fx := Tb [("_law_cell", gM), ("_law_number", gq)] [] BL IL ML TL aQ
def fQ : List D -> Rs D := bN fO (ae (ah 39)) ["_law_script", "_law_at", "_law_many"] (ar (ah 39))
theorem wY {L : List D} (hw : kW L) (k q : Int) {a b c d : Int} (ha : cj a) (hb : cj b) (hc : cj c) (hd : cj d) : ∃ x y z w : Int, (cj x /\ cj y /\ cj z /\ cj w) /\ ¬ (x = 0 /\ y = 0 /\ z = 0 /\ w = 0) /\ af (aE fO ((ar (ah 39)).drop 4) (ae (ah 39)) (bS [("_law_script", .lst L, false), ("_law_at", .int k, false), ("_law_many", .int 4, false), ("_law_kind", .int q, true), ("_law_found", .lst [.int a, .int b, .int c, .int d], true)])) (.rt (.tup [.int x, .int y, .int z, .int w])) := by
  have i0 := Int.fmod_nonneg_of_pos (q.fdiv 9) (show (0 : Int) < 4 by decide)
  have i1 := Int.fmod_lt_of_pos (q.fdiv 9) (show (0 : Int) < 4 by decide)
  have j0 := Int.fmod_nonneg_of_pos (q.fdiv 36) (show (0 : Int) < 2 by decide)
  have j1 := Int.fmod_lt_of_pos (q.fdiv 36) (show (0 : Int) < 2 by decide)
  have an := wf a b c d
  by_cases h : a = 0 /\ b = 0 /\ c = 0 /\ d = 0
  . rw [decide_eq_true h] at an
    obtain ⟨x, y, z, w, e, hp, hn⟩ := vg i0 i1 a b c d (1 - 2 * (q.fdiv 36).fmod 2)
    refine ⟨x, y, z, w, hp cj ha hb hc hd (by unfold cj; generalize (q.fdiv 36).fmod 2 = t at *; omega), hn (by omega), ?_⟩
    exact gz (decl_name%.bl (c := true) (by show (!(([a, b, c, d] : List Int).any fun n => n != 0)) = true; rw [an]; rfl)) rfl (bt (pD rfl decl_name% decl_name% e rfl rfl) decl_name%)
  . rw [decide_eq_false h] at an
    refine ⟨a, b, c, d, ⟨ha, hb, hc, hd⟩, h, ?_⟩
    exact bq (decl_name%.bl (c := false) (by show (!(([a, b, c, d] : List Int).any fun n => n != 0)) = false; rw [an]; rfl)) rfl decl_name%
theorem wZ {L : List D} (hw : kW L) (k q : Int) {a b c d : Int} (ha : cj a) (hb : cj b) (hc : cj c) (hd : cj d) : ∃ x y z w : Int, (cj x /\ cj y /\ cj z /\ cj w) /\ ¬ (x = 0 /\ y = 0 /\ z = 0 /\ w = 0) /\ af (aE fO ((ar (ah 39)).drop 3) (ae (ah 39)) (bS [("_law_script", .lst L, false), ("_law_at", .int k, false), ("_law_many", .int 4, false), ("_law_kind", .int q, true), ("_law_found", .lst [.int a, .int b, .int c, .int d], true)])) (.rt (.tup [.int x, .int y, .int z, .int w])) := by
  have hl := hw.okL
  have i0 := Int.fmod_nonneg_of_pos (q.fdiv 9) (show (0 : Int) < 4 by decide)
  have i1 := Int.fmod_lt_of_pos (q.fdiv 9) (show (0 : Int) < 4 by decide)
  by_cases h : (q.fdiv 3).fmod 3 = 2
  . obtain ⟨x, y, z, w, e, hp, hn⟩ := vg i0 i1 a a a a (dZ (cn L (k + 2)) q)
    obtain ⟨hx, hy, hz, hw'⟩ := hp cj ha ha ha ha (fV _ _)
    obtain ⟨x', y', z', w', h1, h2, h3⟩ := wY hw k q hx hy hz hw'
    refine ⟨x', y', z', w', h1, h2, ?_⟩
    exact gz decl_name% (sD h) (eB 1 decl_name% (bt (pD rfl decl_name% decl_name% e rfl rfl) (cG (ai rfl (ai rfl (ai rfl (ai rfl (ai rfl aM))))) h3)))
  . obtain ⟨x', y', z', w', h1, h2, h3⟩ := wY hw k q ha hb hc hd
    refine ⟨x', y', z', w', h1, h2, ?_⟩
    exact bq decl_name% ((dt _ _).trans (decide_eq_false h)) h3
theorem C4 {L : List D} (hw : kW L) (k q : Int) {a b c d : Int} (ha : cj a) (hb : cj b) (hc : cj c) (hd : cj d) : ∃ x y z w : Int, (cj x /\ cj y /\ cj z /\ cj w) /\ ¬ (x = 0 /\ y = 0 /\ z = 0 /\ w = 0) /\ af (aE fO ((ar (ah 39)).drop 2) (ae (ah 39)) (bS [("_law_script", .lst L, false), ("_law_at", .int k, false), ("_law_many", .int 4, false), ("_law_kind", .int q, true), ("_law_found", .lst [.int a, .int b, .int c, .int d], true)])) (.rt (.tup [.int x, .int y, .int z, .int w])) := by
  have hl := hw.okL
  have i0 := Int.fmod_nonneg_of_pos (q.fdiv 9) (show (0 : Int) < 4 by decide)
  have i1 := Int.fmod_lt_of_pos (q.fdiv 9) (show (0 : Int) < 4 by decide)
  by_cases h : (q.fdiv 3).fmod 3 = 1
  . obtain ⟨x, y, z, w, e, hp, hn⟩ := vg i0 i1 a b c d 0
    obtain ⟨hx, hy, hz, hw'⟩ := hp cj ha hb hc hd (Nat.zero_le _)
    obtain ⟨x', y', z', w', h1, h2, h3⟩ := wZ hw k q hx hy hz hw'
    refine ⟨x', y', z', w', h1, h2, ?_⟩
    exact gz decl_name% (sD h) (bt (pD rfl decl_name% decl_name% e rfl rfl) (cG (ai rfl (ai rfl (ai rfl (ai rfl (ai rfl aM))))) h3))
  . obtain ⟨x', y', z', w', h1, h2, h3⟩ := wZ hw k q ha hb hc hd
    refine ⟨x', y', z', w', h1, h2, ?_⟩
    exact bq decl_name% ((dt _ _).trans (decide_eq_false h)) h3
theorem Bf {L : List D} (hw : kW L) (k : Int) : ∃ x y z w : Int, (cj x /\ cj y /\ cj z /\ cj w) /\ ¬ (x = 0 /\ y = 0 /\ z = 0 /\ w = 0) /\ af (fQ [.lst L, .int k, .int 4]) (.tup [.int x, .int y, .int z, .int w]) := by
  have hl := hw.okL
  obtain ⟨x', y', z', w', h1, h2, h3⟩ := C4 hw k (cn L k) (fV (cn L (k + 1 + 0)) (cn L k)) (fV (cn L (k + 1 + 1)) (cn L k)) (fV (cn L (k + 1 + 2)) (cn L k)) (fV (cn L (k + 1 + 3)) (cn L k))
  exact ⟨x', y', z', w', h1, h2, b5 (eB 2 decl_name% (cG (ai rfl (ai rfl (ai rfl (ai rfl (ai rfl aM))))) h3))⟩
def wk : Fx := Tb [("_law_cell", gM), ("_law_number", gq)] [] BL IL ML TL aQ
def wr : List D -> Rs D := bN wk (ae (ah 48)) ["_law_script", "_law_at"] (ar (ah 48))
def iX : List D -> Rs D := qP dL dI fun l k => .ok (d3 (dZ (cn l (k + 1 + 0)) (cn l k)) (dZ (cn l (k + 1 + 1)) (cn l k)) (dZ (cn l (k + 1 + 2)) (cn l k))) [kW l]
theorem qG : ∀ ds r, af (iX ds) r -> af (wr ds) r := by
  intro ds r h
  obtain ⟨l, k, rfl, h'⟩ := jF h
  obtain ⟨rfl, hw, _⟩ := du h'
  have hl := hw.okL
  exact cK rfl (by walk_at "ob")
def qz : Fx := Tb [] [] BL IL ML TL aQ
def qI : List D -> Rs D := bN qz (ae (ah 43)) ["_law_numbers_here"] (ar (ah 43))
def fP : List D -> Rs D := wP dQ fun p => .ok (.int (Al p)) [nD p]
theorem mJ : ∀ ds r, af (fP ds) r -> af (qI ds) r := by
  intro ds r h
  obtain ⟨p, rfl, h⟩ := qQ h
  obtain ⟨rfl, hp, _⟩ := du h
  obtain ⟨h1, h2, h3, h4⟩ := hp
  exact cK rfl (by walk_at "ob")
def qA : Fx := Tb [] [] BL IL ML TL aQ
def qJ : List D -> Rs D := bN qA (ae (ah 41)) ["_law_one", "_law_other"] (ar (ah 41))
def ij : List D -> Rs D := qP dQ dQ fun p q => .ok (dq (bf p q)) [nD p, nD q]
theorem mK : ∀ ds r, af (ij ds) r -> af (qJ ds) r := by
  intro ds r h
  obtain ⟨p, q, rfl, h⟩ := jF h
  obtain ⟨rfl, hp, hq, _⟩ := du h
  obtain ⟨⟨a1, a2, a3, a4⟩, ⟨b1, b2, b3, b4⟩, ⟨c1, c2, c3, c4⟩, d1, d2, d3, d4⟩ := Cf hp hq
  exact cK rfl (by walk_at "ob")
def wl : Fx := Tb [("_law_product", ij)] [] BL IL ML TL aQ
def iY : List D -> Rs D := bN wl (ae (ah 42)) ["_law_numbers_here"] (ar (ah 42))
theorem AG {x y z w : Int} (hx : cj x) (hy : cj y) (hz : cj z) (hw : cj w) : af (iY [.tup [.int x, .int y, .int z, .int w]]) (.lst [.lst [.int (fw x y z w), .int (fc x y z w), .int (eZ x y z w)], .lst [.int (eY x y z w), .int (fv x y z w), .int (eV x y z w)], .lst [.int (eU x y z w), .int (eT x y z w), .int (fu x y z w)]]) := by
  have h67 : ∀ t : Int, cj t -> t.natAbs < 2 ^ 67 := fun t h => Nat.lt_of_le_of_lt h (by decide)
  have wp : gS 67 (x, y, z, w) := ⟨h67 _ hx, h67 _ hy, h67 _ hz, h67 _ hw⟩
  have wc : gS 67 (x, -y, -z, -w) := ⟨h67 _ hx, by show (-y).natAbs < _; rw [Int.natAbs_neg]; exact h67 _ hy, by show (-z).natAbs < _; rw [Int.natAbs_neg]; exact h67 _ hz, by show (-w).natAbs < _; rw [Int.natAbs_neg]; exact h67 _ hw⟩
  have w1 : gS 1 (0, 1, 0, 0) := ⟨by decide, by decide, by decide, by decide⟩
  have w2 : gS 1 (0, 0, 1, 0) := ⟨by decide, by decide, by decide, by decide⟩
  have w3 : gS 1 (0, 0, 0, 1) := ⟨by decide, by decide, by decide, by decide⟩
  have bp := wp.bd (by decide)
  have bc := wc.bd (by decide)
  have b1 := w1.bd (by decide)
  have b2 := w2.bd (by decide)
  have b3 := w3.bd (by decide)
  have p1 := gv wp w1
  have p2 := gv wp w2
  have p3 := gv wp w3
  have c1 := p1.bd (by decide)
  have c2 := p2.bd (by decide)
  have c3 := p3.bd (by decide)
  have q1 := (gv p1 wc).mono (show _ <= 150 by decide)
  have q2 := (gv p2 wc).mono (show _ <= 150 by decide)
  have q3 := (gv p3 wc).mono (show _ <= 150 by decide)
  have e00 : (bf (bf (x, y, z, w) (0, 1, 0, 0)) (x, -y, -z, -w)).2.1 = fw x y z w := by simp only [bf, fw]; grind
  have e01 : (bf (bf (x, y, z, w) (0, 0, 1, 0)) (x, -y, -z, -w)).2.1 = fc x y z w := by simp only [bf, fc]; grind
  have e02 : (bf (bf (x, y, z, w) (0, 0, 0, 1)) (x, -y, -z, -w)).2.1 = eZ x y z w := by simp only [bf, eZ]; grind
  have e10 : (bf (bf (x, y, z, w) (0, 1, 0, 0)) (x, -y, -z, -w)).2.2.1 = eY x y z w := by simp only [bf, eY]; grind
  have e11 : (bf (bf (x, y, z, w) (0, 0, 1, 0)) (x, -y, -z, -w)).2.2.1 = fv x y z w := by simp only [bf, fv]; grind
  have e12 : (bf (bf (x, y, z, w) (0, 0, 0, 1)) (x, -y, -z, -w)).2.2.1 = eV x y z w := by simp only [bf, eV]; grind
  have e20 : (bf (bf (x, y, z, w) (0, 1, 0, 0)) (x, -y, -z, -w)).2.2.2 = eU x y z w := by simp only [bf, eU]; grind
  have e21 : (bf (bf (x, y, z, w) (0, 0, 1, 0)) (x, -y, -z, -w)).2.2.2 = eT x y z w := by simp only [bf, eT]; grind
  have e22 : (bf (bf (x, y, z, w) (0, 0, 0, 1)) (x, -y, -z, -w)).2.2.2 = fu x y z w := by simp only [bf, fu]; grind
  refine af.eq decl_name% ?_
  show D.lst [.lst [.int ((bf (bf (x, y, z, w) (0, 1, 0, 0)) (x, -y, -z, -w)).2.1), .int ((bf (bf (x, y, z, w) (0, 0, 1, 0)) (x, -y, -z, -w)).2.1), .int ((bf (bf (x, y, z, w) (0, 0, 0, 1)) (x, -y, -z, -w)).2.1)], .lst [.int ((bf (bf (x, y, z, w) (0, 1, 0, 0)) (x, -y, -z, -w)).2.2.1), .int ((bf (bf (x, y, z, w) (0, 0, 1, 0)) (x, -y, -z, -w)).2.2.1), .int ((bf (bf (x, y, z, w) (0, 0, 0, 1)) (x, -y, -z, -w)).2.2.1)], .lst [.int ((bf (bf (x, y, z, w) (0, 1, 0, 0)) (x, -y, -z, -w)).2.2.2), .int ((bf (bf (x, y, z, w) (0, 0, 1, 0)) (x, -y, -z, -w)).2.2.2), .int ((bf (bf (x, y, z, w) (0, 0, 0, 1)) (x, -y, -z, -w)).2.2.2)]] = D.lst [.lst [.int (fw x y z w), .int (fc x y z w), .int (eZ x y z w)], .lst [.int (eY x y z w), .int (fv x y z w), .int (eV x y z w)], .lst [.int (eU x y z w), .int (eT x y z w), .int (fu x y z w)]]
  rw [e00, e01, e02, e10, e11, e12, e20, e21, e22]
def j8 : Fx := Tb [] [] BL IL ML TL aQ
def qK : List D -> Rs D := bN j8 (ae (ah 40)) ["_law_numbers_here"] (ar (ah 40))
def dn : List D -> Rs D
  | [.lst l] => .ok (.int (fD l)) [okT l]
  | [.tup l] => .ok (.int (fD l)) [okT l]
  | _ => .st
theorem pL (g : Nat) (x : Int) (f : Bool) (hx : x.natAbs = g) : af (aE j8 ((ar (ah 40)).drop 2) (ae (ah 40)) (bS [("_law_found", .int x, f)])) (.rt (.int g)) := by
  have e : (if x < 0 then -x else x) = (g : Int) := by omega
  rw [<- e]
  exact cK rfl (by walk_at "ob")
theorem mL : ∀ ds r, af (dn ds) r -> af (qK ds) r := by
  intro ds r h
  unfold dn at h
  split at h
  . obtain ⟨rfl, ⟨ns, rfl, hl, hb⟩, _⟩ := du h
    rw [gG]
    refine b5 (eB 1 decl_name% (ma (ds := ns.map D.int) (fun rem ρ => ∃ (r : List Int) (x : Int) (f : Bool), rem = r.map D.int /\ (∀ n ∈ r, n.natAbs < 2 ^ 1000) /\ bO x.natAbs r = bO 0 ns /\ x.natAbs < 2 ^ 1000 /\ Sub (bS [("_law_found", .int x, f)]) ρ) decl_name% ⟨ns, 0, true, rfl, hb, rfl, Nat.pow_pos (by decide), ai rfl aM⟩ ?_ ?_ rfl (Bo (.lst (ns.map D.int)))))
    . rintro d l ρ ⟨r, x, f, hr, hb', hg, hlt, s⟩
      cases r with
      | nil => cases hr
      | cons n r =>
        cases hr
        have hn := hb' n List.mem_cons_self
        refine ⟨_, rfl, wA (m := 3000) (fun m ρ => ∃ (u v : Int) (f1 f2 : Bool), xK u v m /\ u.natAbs < 2 ^ 1000 /\ v.natAbs < 2 ^ 1000 /\ Nat.gcd u.natAbs v.natAbs = Nat.gcd x.natAbs n.natAbs /\ Sub (bS [("_law_found", .int u, f1), ("_law_other", .int v, f2)]) ρ) ⟨x, n, f, false, .inl rfl, hlt, hn, rfl, ai (s.put _ _).get (ai (s.put _ _).get aM)⟩ (by decide) ?_ ?_⟩
        . rintro m ρ ⟨u, v, f1, f2, hm, hu, hv, hg', s⟩
          refine ⟨!decide (v = 0), 0, iD s (decl_name%.bl (by show (!eqD (.int v) (.int 0)) = _; rw [dt])), fun ht => ?_⟩
          have h0 : v ≠ 0 := by simpa using ht
          obtain ⟨⟨m', hm', hE⟩, hgc, hlt'⟩ := pG hm h0 hv
          exact lW hm' (dA s decl_name% fun ρ' s' => ⟨v, u.fmod v, false, false, hE, hv, hlt', by rw [hgc, hg'], ai s'.get (ai s'.get aM)⟩)
        . rintro m ρ ⟨u, v, f1, f2, hm, hu, hv, hg', s⟩ ⟨k, hk⟩
          have e := hk.inj (iD s decl_name%)
          have h0 : v = 0 := by
            have e1 : (!eqD (.int v) (.int 0)) = false := by injection e with e1 e2; injection e1 with e1; exact e1.symm
            rw [dt] at e1
            simpa using e1
          subst h0
          have hg' : u.natAbs = Nat.gcd x.natAbs n.natAbs := by rw [<- hg']; simp
          exact ⟨r, u, f1, rfl, fun m hm => hb' m (List.mem_cons_of_mem _ hm), by rw [hg']; exact hg, hu, ai s.get aM⟩
    . rintro ρ ⟨r, x, f, hr, hb', hg, hlt, s⟩
      cases r with
      | nil =>
        rw [<- hg]
        exact cG s (pL _ _ _ rfl)
      | cons n r => cases hr
  . obtain ⟨rfl, ⟨ns, rfl, hl, hb⟩, _⟩ := du h
    rw [gG]
    refine b5 (eB 1 decl_name% (ma (ds := ns.map D.int) (fun rem ρ => ∃ (r : List Int) (x : Int) (f : Bool), rem = r.map D.int /\ (∀ n ∈ r, n.natAbs < 2 ^ 1000) /\ bO x.natAbs r = bO 0 ns /\ x.natAbs < 2 ^ 1000 /\ Sub (bS [("_law_found", .int x, f)]) ρ) decl_name% ⟨ns, 0, true, rfl, hb, rfl, Nat.pow_pos (by decide), ai rfl aM⟩ ?_ ?_ rfl (Bo (.tup (ns.map D.int)))))
    . rintro d l ρ ⟨r, x, f, hr, hb', hg, hlt, s⟩
      cases r with
      | nil => cases hr
      | cons n r =>
        cases hr
        have hn := hb' n List.mem_cons_self
        refine ⟨_, rfl, wA (m := 3000) (fun m ρ => ∃ (u v : Int) (f1 f2 : Bool), xK u v m /\ u.natAbs < 2 ^ 1000 /\ v.natAbs < 2 ^ 1000 /\ Nat.gcd u.natAbs v.natAbs = Nat.gcd x.natAbs n.natAbs /\ Sub (bS [("_law_found", .int u, f1), ("_law_other", .int v, f2)]) ρ) ⟨x, n, f, false, .inl rfl, hlt, hn, rfl, ai (s.put _ _).get (ai (s.put _ _).get aM)⟩ (by decide) ?_ ?_⟩
        . rintro m ρ ⟨u, v, f1, f2, hm, hu, hv, hg', s⟩
          refine ⟨!decide (v = 0), 0, iD s (decl_name%.bl (by show (!eqD (.int v) (.int 0)) = _; rw [dt])), fun ht => ?_⟩
          have h0 : v ≠ 0 := by simpa using ht
          obtain ⟨⟨m', hm', hE⟩, hgc, hlt'⟩ := pG hm h0 hv
          exact lW hm' (dA s decl_name% fun ρ' s' => ⟨v, u.fmod v, false, false, hE, hv, hlt', by rw [hgc, hg'], ai s'.get (ai s'.get aM)⟩)
        . rintro m ρ ⟨u, v, f1, f2, hm, hu, hv, hg', s⟩ ⟨k, hk⟩
          have e := hk.inj (iD s decl_name%)
          have h0 : v = 0 := by
            have e1 : (!eqD (.int v) (.int 0)) = false := by injection e with e1 e2; injection e1 with e1; exact e1.symm
            rw [dt] at e1
            simpa using e1
          subst h0
          have hg' : u.natAbs = Nat.gcd x.natAbs n.natAbs := by rw [<- hg']; simp
          exact ⟨r, u, f1, rfl, fun m hm => hb' m (List.mem_cons_of_mem _ hm), by rw [hg']; exact hg, hu, ai s.get aM⟩
    . rintro ρ ⟨r, x, f, hr, hb', hg, hlt, s⟩
      cases r with
      | nil =>
        rw [<- hg]
        exact cG s (pL _ _ _ rfl)
      | cons n r => cases hr
  . exact (av h).elim
def p9 : Fx := Tb [("_law_divisor", dn)] [] BL IL ML TL aQ
def gN : List D -> Rs D := bN p9 (ae (ah 49)) ["_law_numbers_here"] (ar (ah 49))
theorem tx (x y z w K : Int) (hK : fM K) : af (aE p9 ((ar (ah 49)).drop 3) (ae (ah 49)) (bS [("_law_numbers_here", t4 x y z w, false), ("_law_by", .int K, true)])) (.rt (t4 (x.fdiv K) (y.fdiv K) (z.fdiv K) (w.fdiv K))) := cK rfl (by walk_at "ob")
theorem zV {k a b c d : Int} (hk : k ≠ 0) (p : Pm a b c d) (hT : okT (([k * a, k * b, k * c, k * d] : List Int).map D.int)) (kb : k.natAbs < cu) : af (gN [t4 (k * a) (k * b) (k * c) (k * d)]) (t4 a b c d) := by
  have hn : ¬ (k * a = 0 /\ k * b = 0 /\ k * c = 0 /\ k * d = 0) := fun z => p.ne ⟨(Int.mul_eq_zero.mp z.1).resolve_left hk, (Int.mul_eq_zero.mp z.2.1).resolve_left hk, (Int.mul_eq_zero.mp z.2.2.1).resolve_left hk, (Int.mul_eq_zero.mp z.2.2.2).resolve_left hk⟩
  have hg : fD (([k * a, k * b, k * c, k * d] : List Int).map D.int) = k.natAbs := by rw [fC]; exact lg hk p
  have hl := oY hn
  rw [fB _ _ _ _ hk] at hl
  have pos := p.pos
  have fd : ∀ x : Int, (k * x).fdiv k = x := fun x => Int.mul_fdiv_cancel_left x hk
  have fin := tx (k * a) (k * b) (k * c) (k * d) k ⟨hk, kb⟩
  rw [fd, fd, fd, fd] at fin
  have hD : af (dn [t4 (k * a) (k * b) (k * c) (k * d)]) (.int (k.natAbs : Nat)) := ⟨[okT (([k * a, k * b, k * c, k * d] : List Int).map D.int)], by rw [<- hg]; rfl, hT, True.intro⟩
  refine b5 (bt (bR (d := .int (k.natAbs : Nat)) (aV decl_name% hD)) (bt (bR (d := .int (k * cQ a b c d)) (lA (k := 0) (mz (out := ((([k * a, k * b, k * c, k * d] : List Int).filter fun t => !decide (t = 0)).map D.int)) (j := 0) decl_name% (ds := ([k * a, k * b, k * c, k * d] : List Int).map D.int) rfl ⟨Nat.le_of_ble_eq_true rfl, .inl rfl⟩ (fh (g := D.int) (f := D.int) (c := fun t => !decide (t = 0)) (fun x _ => ?_)) (Nat.zero_le 1)) decl_name% rfl hl)) ?_))
  . refine af.bnd (a := !decide (x = 0)) (my (b := !decide (x = 0)) (c := !decide (x = 0)) (decl_name%.bl (by show (!eqD (.int x) (.int 0)) = _; rw [dt])) (fun h => by rw [h]; exact pF) id) ?_
    cases decide (x = 0)
    . exact af.bnd decl_name% cU
    . exact cU
  . rcases Int.lt_or_gt_of_ne hk with q | q
    . have hlt : k * cQ a b c d < 0 := Int.mul_neg_of_neg_of_pos q pos
      refine gz decl_name% (decide_eq_true hlt) (bt (bR (d := .int (0 - (k.natAbs : Int))) decl_name%) ?_)
      have ek : 0 - (k.natAbs : Int) = k := by omega
      rw [ek]
      exact cG (ai rfl (ai rfl aM)) fin
    . have hge : ¬ k * cQ a b c d < 0 := by have := Int.mul_pos q pos; omega
      refine bq decl_name% (decide_eq_false hge) ?_
      have ek : (k.natAbs : Int) = k := by omega
      rw [ek]
      exact cG (ai rfl (ai rfl aM)) fin
def uV : Fx := Tb [] [("NoSide", .xc "NoSide" none), ("Nought", .xc "Nought" none), ("TooGreat", .xc "TooGreat" none), ("NoPrime", .xc "NoPrime" none), ("NoLine", .xc "NoLine" none), ("NoText", .xc "NoText" none), ("NoOrder", .xc "NoOrder" none), ("Divided", .xc "Divided" none), ("NoTurn", .xc "NoTurn" none), ("NoName", .xc "NoName" none), ("SpaceError", .xc "SpaceError" none)] BL IL ML TL aQ
def nF : List D -> Rs D := bN uV (ae (ah 50)) ["_law_error"] (ar (ah 50))
def qy : Fx := Tb [] [] BL IL ML TL aQ
def il : List D -> Rs D := bN qy (ae (ah 19)) ["one", "other"] (ar (ah 19))
theorem DR (a b : Nat) (ha : a < 2 ^ 1000) (hb : b < 2 ^ 1000) : af (il [.int a, .int b]) (.int (Nat.gcd a b : Nat)) := by
  refine b5 (tH (m := 2002) (fun m ρ => ∃ (x y : Nat) (f g : Bool), uY x y m /\ Nat.gcd x y = Nat.gcd a b /\ Sub (bS [("one", .int x, f), ("other", .int y, g)]) ρ) ⟨a, b, false, false, BT ha hb, rfl, ai rfl (ai rfl aM)⟩ (by decide) ?_ ?_)
  . rintro m ρ ⟨x, y, f, g, hm, hg, s⟩
    refine ⟨!decide ((y : Int) = 0), 0, iD s (decl_name%.bl (by show (!eqD (.int y) (.int 0)) = _; rw [dt])), fun ht => ?_⟩
    have h0 : y ≠ 0 := by
      intro z; subst z; exact absurd ht (by decide)
    have hn : (y : Int) ≠ 0 := by omega
    obtain ⟨m', hm', hE⟩ := rn hm h0
    have e := pr x y
    exact lW hm' (dA s decl_name% fun ρ' s' => ⟨y, x % y, true, true, hE, by rw [<- hg, Nat.gcd_comm x y, Nat.gcd_rec y x, Nat.gcd_comm], ai s'.get (ai (by rw [<- e]; exact s'.get) aM)⟩)
  . rintro m ρ ⟨x, y, f, g, hm, hg, s⟩ ⟨k, hk⟩
    have e := hk.inj (iD s decl_name%)
    have h0 : y = 0 := by
      have e1 : (!eqD (.int y) (.int 0)) = false := by injection e with e1 e2; injection e1 with e1; exact e1.symm
      rw [dt] at e1
      have : (y : Int) = 0 := by simpa using e1
      omega
    subst h0
    rw [<- hg, Nat.gcd_zero_right]
    exact cG s decl_name%
def kD : Fx := Tb [("shared_by", il)] [] BL IL ML TL aQ
def kG : List D -> Rs D := bN kD (ae (ah 18)) ["numbers"] (ar (ah 18))
def b0 : List D -> Rs D
  | [.tup l] => .ok (.int (fD l)) [okT l]
  | _ => .st
theorem jd : ∀ ds r, af (b0 ds) r -> af (kG ds) r := by
  intro ds r h
  unfold b0 at h
  split at h
  . obtain ⟨rfl, ⟨ns, rfl, hl, hb⟩, _⟩ := du h
    rw [gG]
    refine b5 (eB 1 decl_name% (ma (ds := ns.map D.int) (fun rem ρ => ∃ (r : List Int) (g : Nat), rem = r.map D.int /\ (∀ n ∈ r, n.natAbs < 2 ^ 1000) /\ bO g r = bO 0 ns /\ g < 2 ^ 1000 /\ Sub (bS [("reached", .int g, true)]) ρ) decl_name% ⟨ns, 0, rfl, hb, rfl, Nat.pow_pos (by decide), ai rfl aM⟩ ?_ ?_ rfl (Bo (.tup (ns.map D.int)))))
    . rintro d l ρ ⟨r, g, hr, hb', hg, hlt, s⟩
      cases r with
      | nil => cases hr
      | cons n r =>
        cases hr
        have hn := hb' n List.mem_cons_self
        have ea : (if n < 0 then -n else n) = ((n.natAbs : Nat) : Int) := by omega
        have k := DR g n.natAbs hlt hn
        refine ⟨_, rfl, dA (s.put _ _) (bt (bR (aV (v := .int (Nat.gcd g n.natAbs : Nat)) (decl_name%.eq (by rw [ea])) k)) kO) fun ρ' s' => ⟨r, Nat.gcd g n.natAbs, rfl, fun m hm => hb' m (List.mem_cons_of_mem _ hm), hg, ?_, ai s'.get aM⟩⟩
        rcases Nat.eq_zero_or_pos g with z | z
        . subst z; rw [Nat.gcd_zero_left]; exact hn
        . exact Nat.lt_of_le_of_lt (Nat.le_of_dvd z (Nat.gcd_dvd_left _ _)) hlt
    . rintro ρ ⟨r, g, hr, hb', hg, hlt, s⟩
      cases r with
      | nil =>
        rw [<- hg]
        exact cG s decl_name%
      | cons n r => cases hr
  . exact (av h).elim
def qx : Fx := Tb [] [] BL IL ML TL aQ
def dP : List D -> Rs D := bN qx (ae (ah 20)) ["numbers", "divisor"] (ar (ah 20))
def nE : Fx := Tb [("common_divisor", b0), ("shortened", dP)] [] BL IL ML TL aQ
def uR : Str -> Option (List D -> Option (Str × Str)) := fun g => ([] : List (Str × (List D -> Option (Str × Str)))).lookup g
def d9 : List D -> Rs D := bN nE (ae (ah 21)) ["numbers"] (ar (ah 21))
theorem x6 (x y z w K : Int) (hK : fM K) : af (dP [t4 x y z w, .int K]) (t4 (x.fdiv K) (y.fdiv K) (z.fdiv K) (w.fdiv K)) := cK rfl (by walk_at "ob")
theorem wC {k a b c d : Int} (hk : k ≠ 0) (p : Pm a b c d) (hT : okT (([k * a, k * b, k * c, k * d] : List Int).map D.int)) (kb : k.natAbs < cu) : af (d9 [t4 (k * a) (k * b) (k * c) (k * d)]) (t4 a b c d) := by
  have hn : ¬ (k * a = 0 /\ k * b = 0 /\ k * c = 0 /\ k * d = 0) := fun z => p.ne ⟨(Int.mul_eq_zero.mp z.1).resolve_left hk, (Int.mul_eq_zero.mp z.2.1).resolve_left hk, (Int.mul_eq_zero.mp z.2.2.1).resolve_left hk, (Int.mul_eq_zero.mp z.2.2.2).resolve_left hk⟩
  have hg : fD (([k * a, k * b, k * c, k * d] : List Int).map D.int) = k.natAbs := by rw [fC]; exact lg hk p
  have hl := oY hn
  rw [fB _ _ _ _ hk] at hl
  have pos := p.pos
  have fd : ∀ x : Int, (k * x).fdiv k = x := fun x => Int.mul_fdiv_cancel_left x hk
  have fin := x6 (k * a) (k * b) (k * c) (k * d) k ⟨hk, kb⟩
  rw [fd, fd, fd, fd] at fin
  have hD : af (b0 [t4 (k * a) (k * b) (k * c) (k * d)]) (.int (k.natAbs : Nat)) := ⟨[okT (([k * a, k * b, k * c, k * d] : List Int).map D.int)], by rw [<- hg]; rfl, hT, True.intro⟩
  have k0 : ¬ ((k.natAbs : Nat) : Int) = 0 := by omega
  refine b5 (bt (bR (d := .int (k.natAbs : Nat)) (aV decl_name% hD)) (bq decl_name% ((dt _ _).trans (decide_eq_false k0)) (bt (bR (d := .int (k * cQ a b c d)) (lA (k := 0) (mz (out := ((([k * a, k * b, k * c, k * d] : List Int).filter fun t => !decide (t = 0)).map D.int)) (j := 0) decl_name% (ds := ([k * a, k * b, k * c, k * d] : List Int).map D.int) rfl ⟨Nat.le_of_ble_eq_true rfl, .inl rfl⟩ (fh (g := D.int) (f := D.int) (c := fun t => !decide (t = 0)) (fun x _ => ?_)) (Nat.zero_le 1)) decl_name% rfl hl)) ?_)))
  . refine af.bnd (a := !decide (x = 0)) (my (b := !decide (x = 0)) (c := !decide (x = 0)) (decl_name%.bl (by show (!eqD (.int x) (.int 0)) = _; rw [dt])) (fun h => by rw [h]; exact pF) id) ?_
    cases decide (x = 0)
    . exact af.bnd decl_name% cU
    . exact cU
  . refine dU (dF (aV (bJ decl_name% (bJ (xq (r := (.int k, 0)) decl_name% (fun ht => ?_) (fun hf => ?_)) df)) fin))
    . have hlt : 0 < k * cQ a b c d := of_decide_eq_true ht
      have kp : 0 < k := by
        rcases Int.lt_or_gt_of_ne hk with q | q
        . have := Int.mul_neg_of_neg_of_pos q pos; omega
        . exact q
      exact af.eq decl_name% (by rw [show ((k.natAbs : Nat) : Int) = k by omega]; rfl)
    . have hge : ¬ 0 < k * cQ a b c d := of_decide_eq_false hf
      have kp : k < 0 := by
        rcases Int.lt_or_gt_of_ne hk with q | q
        . exact q
        . have := Int.mul_pos q pos; omega
      exact af.eq decl_name% (by show (D.int (-((k.natAbs : Nat) : Int)), 0) = _; rw [show -((k.natAbs : Nat) : Int) = k by omega])
def cS : List D -> Option (Str × Str) := fun ds => match ds with
  | [q] => if o7 q = true then some Dq else none
  | _ => none
theorem pY : ∀ ds r, cS ds = some r -> ds.length = 1 /\ Rz nE uR EX (ae (ah 21)) (ar (ah 21)) (cV ["numbers"] ds) r := by
  intro ds r h
  unfold cS at h
  split at h
  . rename_i q
    split at h
    . rename_i hq
      cases h
      cases ui hq
      have hT : okT (([0, 0, 0, 0] : List Int).map D.int) := wQ (m := 1) (by decide) (by
        intro t ht
        simp only [List.mem_cons, List.not_mem_nil, or_false] at ht
        rcases ht with rfl | rfl | rfl | rfl <;> decide)
      have e0 : fD (([0, 0, 0, 0] : List Int).map D.int) = 0 := by rw [gG]; rfl
      exact ⟨rfl, Rz.step (bR (d := .int 0) (af.eq decl_name% (by show (D.int (fD (([0, 0, 0, 0] : List Int).map D.int)), 0) = _; rw [e0]))) (Rz.iff (t := true) (k := 0) decl_name% (Rz.raise decl_name% rfl (by decide +kernel) rfl))⟩
    . cases h
  . cases h
def pZ : Fx := Tb [("common_divisor", b0), ("shortened", dP)] [] BL IL ML TL aQ
def kF : List D -> Rs D := bN pZ (ae (ah 24)) ["table"] (ar (ah 24))
theorem vD (n a b c d e f g h i G : Int) (hG : fM G) : af (aE pZ ((ar (ah 24)).drop 2) (ae (ah 24)) (bS [("n", .int n, false), ("rows", .tup [d3 a b c, d3 d e f, d3 g h i], false), ("common", .int G, true)])) (.rt (.tup [.int (n.fdiv G), .tup [d3 (a.fdiv G) (b.fdiv G) (c.fdiv G), d3 (d.fdiv G) (e.fdiv G) (f.fdiv G), d3 (g.fdiv G) (h.fdiv G) (i.fdiv G)]])) := cK rfl (by walk_at "ob")
theorem Da {n a b c d e f g h i : Int} (hn : 0 < n) (nb : n.natAbs < cu) (hT : okT ([n, a, b, c, d, e, f, g, h, i].map D.int)) : af (kF [.tup [.int n, .tup [d3 a b c, d3 d e f, d3 g h i]]]) (.tup [.int (n.fdiv (gI [n, a, b, c, d, e, f, g, h, i])), .tup [d3 (a.fdiv (gI [n, a, b, c, d, e, f, g, h, i])) (b.fdiv (gI [n, a, b, c, d, e, f, g, h, i])) (c.fdiv (gI [n, a, b, c, d, e, f, g, h, i])), d3 (d.fdiv (gI [n, a, b, c, d, e, f, g, h, i])) (e.fdiv (gI [n, a, b, c, d, e, f, g, h, i])) (f.fdiv (gI [n, a, b, c, d, e, f, g, h, i])), d3 (g.fdiv (gI [n, a, b, c, d, e, f, g, h, i])) (h.fdiv (gI [n, a, b, c, d, e, f, g, h, i])) (i.fdiv (gI [n, a, b, c, d, e, f, g, h, i]))]]) := by
  have h0 : 0 < gI [n, a, b, c, d, e, f, g, h, i] := iz (n := n) (by simp) (by omega)
  have hd : fM (gI [n, a, b, c, d, e, f, g, h, i]) := ⟨by omega, Nat.lt_of_le_of_lt (xp (n := n) (by simp) (by omega)) nb⟩
  rw [<- fC] at hd ⊢
  exact b5 (eB 2 decl_name% (cG (ai rfl (ai rfl (ai rfl aM))) (vD n _ _ _ _ _ _ _ _ _ _ hd)))
def lJ : Fx := Tb [("upright", d9), ("lowest", kF)] [] BL IL ML TL aQ
def sO : Str -> Option (List D -> Option (Str × Str)) := fun g => ([("upright", cS)] : List (Str × (List D -> Option (Str × Str)))).lookup g
def gr : List D -> Rs D := bN lJ (ae (ah 26)) ["numbers"] (ar (ah 26))
theorem wF {k a b c d : Int} (hk : k ≠ 0) (p : Pm a b c d) (hT : okT (([k * a, k * b, k * c, k * d] : List Int).map D.int)) (kb : k.natAbs < cu) (ha : a.natAbs <= 2 ^ 140) (hb : b.natAbs <= 2 ^ 140) (hc : c.natAbs <= 2 ^ 140) (hd : d.natAbs <= 2 ^ 140) : af (gr [t4 (k * a) (k * b) (k * c) (k * d)]) (lZ a b c d) := by
  have aB := aH ha (by decide)
  have bB := aH hb (by decide)
  have cB := aH hc (by decide)
  have dB := aH hd (by decide)
  have dbl : ∀ {x : Int}, x.natAbs <= 2 ^ 140 -> (2 * x).natAbs < cu := fun {x} hx => aH (m := 141) (by rw [Int.natAbs_mul, Nat.pow_succ, Nat.mul_comm]; exact Nat.mul_le_mul_right _ hx) (by decide)
  have a2 := dbl ha
  have b2 := dbl hb
  have c2 := dbl hc
  have hL := Da (a := fw a b c d) (b := fc a b c d) (c := eZ a b c d) (d := eY a b c d) (e := fv a b c d) (f := eV a b c d) (g := eU a b c d) (h := eT a b c d) (i := fu a b c d) (oQ p.ne) (aH (Ab ha hb hc hd _ (by simp [ci])) (by decide)) (zX ha hb hc hd)
  exact b5 (bt (BN (aV decl_name% (wC hk p hT kb)) rfl (.inl rfl) rfl) (bt (bR (d := .tup [d3 (fw a b c d) (fc a b c d) (eZ a b c d), d3 (eY a b c d) (fv a b c d) (eV a b c d), d3 (eU a b c d) (eT a b c d) (fu a b c d)]) decl_name%) (dU (dF (aV decl_name% hL)))))
def iW : List D -> Option (Str × Str) := cS
theorem zO {ds : List D} {r : Str × Str} (h : cS ds = some r) : ∃ q, ds = [q] := by
  unfold cS at h
  split at h
  . exact ⟨_, rfl⟩
  . cases h
theorem nI : ∀ ds r, iW ds = some r -> ds.length = 1 /\ Rz lJ sO EX (ae (ah 26)) (ar (ah 26)) (cV ["numbers"] ds) r := by
  intro ds r h
  obtain ⟨q, rfl⟩ := zO h
  exact ⟨rfl, Rz.ast decl_name% rfl rfl h⟩
def gZ : Fx := Tb [("upright", d9), ("table_of", gr)] [] BL IL ML TL aQ
def lI : Str -> Option (List D -> Option (Str × Str)) := fun g => ([("upright", cS), ("table_of", iW)] : List (Str × (List D -> Option (Str × Str)))).lookup g
def b9 : List D -> Rs D := gn gZ (ae (ax (ah 30) 0)) ["self", "numbers"] (o9 (ax (ah 30) 0)) "Turn" ["word", "row", "fractions"]
theorem zR {k a b c d : Int} (hk : k ≠ 0) (p : Pm a b c d) (hT : okT (([k * a, k * b, k * c, k * d] : List Int).map D.int)) (kb : k.natAbs < cu) (ha : a.natAbs <= 2 ^ 140) (hb : b.natAbs <= 2 ^ 140) (hc : c.natAbs <= 2 ^ 140) (hd : d.natAbs <= 2 ^ 140) : af (b9 [t4 (k * a) (k * b) (k * c) (k * d)]) (rM a b c d) :=
  BB rfl (bJ decl_name% (bJ (aV decl_name% (wC hk p hT kb)) (bJ (aV decl_name% (wF hk p hT kb ha hb hc hd)) df))) rfl rfl rfl
def dW : List D -> Option (Str × Str) := cS
theorem jz : ∀ ds r, dW ds = some r -> ds.length + 1 = 2 /\ xH gZ lI (ae (ax (ah 30) 0)) ((Ag (ar (ax (ah 30) 0))).getD 0 (.Constant .none 0 ⟨0, 0, 0, 0⟩)) ((Ag (ar (ax (ah 30) 0))).getD 1 (.Constant .none 0 ⟨0, 0, 0, 0⟩)) "upright" (DP (ar (ax (ah 30) 0))) (cV ["self", "numbers"] (.obj "Turn" [] [] :: ds)) r := by
  intro ds r h
  obtain ⟨q, rfl⟩ := zO h
  exact ⟨rfl, _, _, _, _, _, _, cS, decl_name%, decl_name%, decl_name%, rfl, h⟩
def sS : Fx := Tb [("_law_kinds", nF), ("Turn", b9)] [] BL IL ML TL aQ
def lH : Str -> Option (List D -> Option (Str × Str)) := fun g => ([("Turn", dW)] : List (Str × (List D -> Option (Str × Str)))).lookup g
def fk : List D -> Rs D := fun ds => match ds with
  | [] => .ok (.bl true) []
  | _ => .st
theorem nN : ∀ ds r, af (fk ds) r -> qg sS lH EX (ae (ah 51)) [] ((ar (ah 51)).take 1) (zT ((ar (ah 51)).getD 1 (.Pass ⟨0, 0, 0, 0⟩))) ((ar (ah 51)).drop 2) "SpaceError" "_law_e" "_law_told_here" ds r := by
  intro ds r h
  unfold fk at h
  split at h
  . cases aK h
    have hz : dW [t4 0 0 0 0] = some Dq := rfl
    exact zS decl_name% (Rt.exp decl_name% rfl rfl hz) decl_name%
  . exact (av h).elim
def uS : Fx := Tb [] [] BL IL ML TL aQ
def hJ : List D -> Rs D := bN uS (ae (ah 36)) ["_law_x"] (ar (ah 36))
def uT : Fx := Tb [("_law_whole", hJ)] [] BL IL ML TL aQ
def ge : List D -> Rs D := bN uT (ae (ah 37)) ["_law_found", "_law_many"] (ar (ah 37))
def qc : Fx := Tb [("_law_divisor", dn), ("_law_whole", hJ), ("_law_tuple", ge)] [] BL IL ML TL aQ
def gO : List D -> Rs D := bN qc (ae (ah 44)) ["_law_found"] (ar (ah 44))
theorem De {m a b c d e f g h i : Int} (hm : 0 < m) (h1 : gI [m, a, b, c, d, e, f, g, h, i] = 1) (hT : okT ([m, a, b, c, d, e, f, g, h, i].map D.int)) : af (gO [.tup [.int m, .tup [d3 a b c, d3 d e f, d3 g h i]]]) (.bl true) := by
  rw [<- fC] at h1
  refine b5 (bq (fZ (cI decl_name% (cI decl_name% (cI decl_name% (cI (decl_name%.bl (c := false) (decide_eq_false (show ¬ m < 1 by omega))) fY))))) rfl (bq decl_name% rfl (af.eq decl_name% ?_)))
  show Fl.rt (.bl (eqD (.int (fD ([m, a, b, c, d, e, f, g, h, i].map D.int))) (.int 1))) = _
  rw [h1]; rfl
def sQ : Fx := Tb [("_law_is_table", gO)] [] BL IL ML TL aQ
def gs : List D -> Rs D := bN sQ (ae (ah 45)) ["_law_found", "_law_n", "_law_rows_here"] (ar (ah 45))
theorem u7 {m p0 p1 p2 p3 p4 p5 p6 p7 p8 n a0 a1 a2 a3 a4 a5 a6 a7 a8 : Int} (hm : 0 < m) (h1 : gI [m, p0, p1, p2, p3, p4, p5, p6, p7, p8] = 1) (hT : okT ([m, p0, p1, p2, p3, p4, p5, p6, p7, p8].map D.int)) (mb : m.natAbs <= 2 ^ 400) (nb : n.natAbs <= 2 ^ 400)
    (e0 : p0 * n = a0 * m) (p0b : p0.natAbs <= 2 ^ 400) (a0b : a0.natAbs <= 2 ^ 400)
    (e1 : p1 * n = a1 * m) (p1b : p1.natAbs <= 2 ^ 400) (a1b : a1.natAbs <= 2 ^ 400)
    (e2 : p2 * n = a2 * m) (p2b : p2.natAbs <= 2 ^ 400) (a2b : a2.natAbs <= 2 ^ 400)
    (e3 : p3 * n = a3 * m) (p3b : p3.natAbs <= 2 ^ 400) (a3b : a3.natAbs <= 2 ^ 400)
    (e4 : p4 * n = a4 * m) (p4b : p4.natAbs <= 2 ^ 400) (a4b : a4.natAbs <= 2 ^ 400)
    (e5 : p5 * n = a5 * m) (p5b : p5.natAbs <= 2 ^ 400) (a5b : a5.natAbs <= 2 ^ 400)
    (e6 : p6 * n = a6 * m) (p6b : p6.natAbs <= 2 ^ 400) (a6b : a6.natAbs <= 2 ^ 400)
    (e7 : p7 * n = a7 * m) (p7b : p7.natAbs <= 2 ^ 400) (a7b : a7.natAbs <= 2 ^ 400)
    (e8 : p8 * n = a8 * m) (p8b : p8.natAbs <= 2 ^ 400) (a8b : a8.natAbs <= 2 ^ 400)
    : af (gs [.tup [.int m, .tup [d3 p0 p1 p2, d3 p3 p4 p5, d3 p6 p7 p8]], .int n, .lst [.lst [.int a0, .int a1, .int a2], .lst [.int a3, .int a4, .int a5], .lst [.int a6, .int a7, .int a8]]]) (.bl true) := by
  have mB := aH mb (by decide)
  have nB := aH nb (by decide)
  have p0B := aH p0b (by decide)
  have a0B := aH a0b (by decide)
  have p1B := aH p1b (by decide)
  have a1B := aH a1b (by decide)
  have p2B := aH p2b (by decide)
  have a2B := aH a2b (by decide)
  have p3B := aH p3b (by decide)
  have a3B := aH a3b (by decide)
  have p4B := aH p4b (by decide)
  have a4B := aH a4b (by decide)
  have p5B := aH p5b (by decide)
  have a5B := aH a5b (by decide)
  have p6B := aH p6b (by decide)
  have a6B := aH a6b (by decide)
  have p7B := aH p7b (by decide)
  have a7B := aH a7b (by decide)
  have p8B := aH p8b (by decide)
  have a8B := aH a8b (by decide)
  refine b5 (bq (ju (aV decl_name% (De hm h1 hT))) rfl (xY [.int 0, .int 1, .int 2] decl_name% ?_))
  refine jO (C := bS [("_law_found", .tup [.int m, .tup [d3 p0 p1 p2, d3 p3 p4 p5, d3 p6 p7 p8]], false), ("_law_n", .int n, false), ("_law_rows_here", .lst [.lst [.int a0, .int a1, .int a2], .lst [.int a3, .int a4, .int a5], .lst [.int a6, .int a7, .int a8]], false)]) (P := fun ρ => xI _ _ _ _ _ _ _ ρ) (ai rfl (ai rfl (ai rfl aM))) fun ρ s => ?_
  refine ⟨_, rfl, .inl (mq [.int 0, .int 1, .int 2] decl_name% ?_)⟩
  replace s := (show Sub (bS [("_law_found", .tup [.int m, .tup [d3 p0 p1 p2, d3 p3 p4 p5, d3 p6 p7 p8]], false), ("_law_n", .int n, false), ("_law_rows_here", .lst [.lst [.int a0, .int a1, .int a2], .lst [.int a3, .int a4, .int a5], .lst [.int a6, .int a7, .int a8]], false), ("_law_k", .int 0, false)]) (ck ρ _ _) from ai (s.put _ _).get (ai (s.put _ _).get (ai (s.put _ _).get (ai (s.put "_law_k" (.int 0, false)).get aM))))
  refine jO (C := bS [("_law_found", .tup [.int m, .tup [d3 p0 p1 p2, d3 p3 p4 p5, d3 p6 p7 p8]], false), ("_law_n", .int n, false), ("_law_rows_here", .lst [.lst [.int a0, .int a1, .int a2], .lst [.int a3, .int a4, .int a5], .lst [.int a6, .int a7, .int a8]], false), ("_law_k", .int 0, false)]) (P := fun ρ => rH _ _ _ _ _ _ ρ) s fun ρ s => ?_
  refine ⟨_, rfl, dA (s.put _ _) (bq decl_name% (iM e0) decl_name%) fun ρ s' => ?_⟩
  replace s := (show Sub (bS [("_law_found", .tup [.int m, .tup [d3 p0 p1 p2, d3 p3 p4 p5, d3 p6 p7 p8]], false), ("_law_n", .int n, false), ("_law_rows_here", .lst [.lst [.int a0, .int a1, .int a2], .lst [.int a3, .int a4, .int a5], .lst [.int a6, .int a7, .int a8]], false), ("_law_k", .int 0, false)]) ρ from ai s'.get (ai s'.get (ai s'.get (ai s'.get aM))))
  clear s'
  refine ⟨_, rfl, dA (s.put _ _) (bq decl_name% (iM e1) decl_name%) fun ρ s' => ?_⟩
  replace s := (show Sub (bS [("_law_found", .tup [.int m, .tup [d3 p0 p1 p2, d3 p3 p4 p5, d3 p6 p7 p8]], false), ("_law_n", .int n, false), ("_law_rows_here", .lst [.lst [.int a0, .int a1, .int a2], .lst [.int a3, .int a4, .int a5], .lst [.int a6, .int a7, .int a8]], false), ("_law_k", .int 0, false)]) ρ from ai s'.get (ai s'.get (ai s'.get (ai s'.get aM))))
  clear s'
  refine ⟨_, rfl, dA (s.put _ _) (bq decl_name% (iM e2) decl_name%) fun ρ s' => ?_⟩
  replace s := (show Sub (bS [("_law_found", .tup [.int m, .tup [d3 p0 p1 p2, d3 p3 p4 p5, d3 p6 p7 p8]], false), ("_law_n", .int n, false), ("_law_rows_here", .lst [.lst [.int a0, .int a1, .int a2], .lst [.int a3, .int a4, .int a5], .lst [.int a6, .int a7, .int a8]], false), ("_law_k", .int 0, false)]) ρ from ai s'.get (ai s'.get (ai s'.get (ai s'.get aM))))
  clear s'
  replace s := (show Sub (bS [("_law_found", .tup [.int m, .tup [d3 p0 p1 p2, d3 p3 p4 p5, d3 p6 p7 p8]], false), ("_law_n", .int n, false), ("_law_rows_here", .lst [.lst [.int a0, .int a1, .int a2], .lst [.int a3, .int a4, .int a5], .lst [.int a6, .int a7, .int a8]], false)]) ρ from ai s.get (ai s.get (ai s.get aM)))
  refine ⟨_, rfl, .inl (mq [.int 0, .int 1, .int 2] decl_name% ?_)⟩
  replace s := (show Sub (bS [("_law_found", .tup [.int m, .tup [d3 p0 p1 p2, d3 p3 p4 p5, d3 p6 p7 p8]], false), ("_law_n", .int n, false), ("_law_rows_here", .lst [.lst [.int a0, .int a1, .int a2], .lst [.int a3, .int a4, .int a5], .lst [.int a6, .int a7, .int a8]], false), ("_law_k", .int 1, false)]) (ck ρ _ _) from ai (s.put _ _).get (ai (s.put _ _).get (ai (s.put _ _).get (ai (s.put "_law_k" (.int 1, false)).get aM))))
  refine jO (C := bS [("_law_found", .tup [.int m, .tup [d3 p0 p1 p2, d3 p3 p4 p5, d3 p6 p7 p8]], false), ("_law_n", .int n, false), ("_law_rows_here", .lst [.lst [.int a0, .int a1, .int a2], .lst [.int a3, .int a4, .int a5], .lst [.int a6, .int a7, .int a8]], false), ("_law_k", .int 1, false)]) (P := fun ρ => rH _ _ _ _ _ _ ρ) s fun ρ s => ?_
  refine ⟨_, rfl, dA (s.put _ _) (bq decl_name% (iM e3) decl_name%) fun ρ s' => ?_⟩
  replace s := (show Sub (bS [("_law_found", .tup [.int m, .tup [d3 p0 p1 p2, d3 p3 p4 p5, d3 p6 p7 p8]], false), ("_law_n", .int n, false), ("_law_rows_here", .lst [.lst [.int a0, .int a1, .int a2], .lst [.int a3, .int a4, .int a5], .lst [.int a6, .int a7, .int a8]], false), ("_law_k", .int 1, false)]) ρ from ai s'.get (ai s'.get (ai s'.get (ai s'.get aM))))
  clear s'
  refine ⟨_, rfl, dA (s.put _ _) (bq decl_name% (iM e4) decl_name%) fun ρ s' => ?_⟩
  replace s := (show Sub (bS [("_law_found", .tup [.int m, .tup [d3 p0 p1 p2, d3 p3 p4 p5, d3 p6 p7 p8]], false), ("_law_n", .int n, false), ("_law_rows_here", .lst [.lst [.int a0, .int a1, .int a2], .lst [.int a3, .int a4, .int a5], .lst [.int a6, .int a7, .int a8]], false), ("_law_k", .int 1, false)]) ρ from ai s'.get (ai s'.get (ai s'.get (ai s'.get aM))))
  clear s'
  refine ⟨_, rfl, dA (s.put _ _) (bq decl_name% (iM e5) decl_name%) fun ρ s' => ?_⟩
  replace s := (show Sub (bS [("_law_found", .tup [.int m, .tup [d3 p0 p1 p2, d3 p3 p4 p5, d3 p6 p7 p8]], false), ("_law_n", .int n, false), ("_law_rows_here", .lst [.lst [.int a0, .int a1, .int a2], .lst [.int a3, .int a4, .int a5], .lst [.int a6, .int a7, .int a8]], false), ("_law_k", .int 1, false)]) ρ from ai s'.get (ai s'.get (ai s'.get (ai s'.get aM))))
  clear s'
  replace s := (show Sub (bS [("_law_found", .tup [.int m, .tup [d3 p0 p1 p2, d3 p3 p4 p5, d3 p6 p7 p8]], false), ("_law_n", .int n, false), ("_law_rows_here", .lst [.lst [.int a0, .int a1, .int a2], .lst [.int a3, .int a4, .int a5], .lst [.int a6, .int a7, .int a8]], false)]) ρ from ai s.get (ai s.get (ai s.get aM)))
  refine ⟨_, rfl, .inl (mq [.int 0, .int 1, .int 2] decl_name% ?_)⟩
  replace s := (show Sub (bS [("_law_found", .tup [.int m, .tup [d3 p0 p1 p2, d3 p3 p4 p5, d3 p6 p7 p8]], false), ("_law_n", .int n, false), ("_law_rows_here", .lst [.lst [.int a0, .int a1, .int a2], .lst [.int a3, .int a4, .int a5], .lst [.int a6, .int a7, .int a8]], false), ("_law_k", .int 2, false)]) (ck ρ _ _) from ai (s.put _ _).get (ai (s.put _ _).get (ai (s.put _ _).get (ai (s.put "_law_k" (.int 2, false)).get aM))))
  refine jO (C := bS [("_law_found", .tup [.int m, .tup [d3 p0 p1 p2, d3 p3 p4 p5, d3 p6 p7 p8]], false), ("_law_n", .int n, false), ("_law_rows_here", .lst [.lst [.int a0, .int a1, .int a2], .lst [.int a3, .int a4, .int a5], .lst [.int a6, .int a7, .int a8]], false), ("_law_k", .int 2, false)]) (P := fun ρ => rH _ _ _ _ _ _ ρ) s fun ρ s => ?_
  refine ⟨_, rfl, dA (s.put _ _) (bq decl_name% (iM e6) decl_name%) fun ρ s' => ?_⟩
  replace s := (show Sub (bS [("_law_found", .tup [.int m, .tup [d3 p0 p1 p2, d3 p3 p4 p5, d3 p6 p7 p8]], false), ("_law_n", .int n, false), ("_law_rows_here", .lst [.lst [.int a0, .int a1, .int a2], .lst [.int a3, .int a4, .int a5], .lst [.int a6, .int a7, .int a8]], false), ("_law_k", .int 2, false)]) ρ from ai s'.get (ai s'.get (ai s'.get (ai s'.get aM))))
  clear s'
  refine ⟨_, rfl, dA (s.put _ _) (bq decl_name% (iM e7) decl_name%) fun ρ s' => ?_⟩
  replace s := (show Sub (bS [("_law_found", .tup [.int m, .tup [d3 p0 p1 p2, d3 p3 p4 p5, d3 p6 p7 p8]], false), ("_law_n", .int n, false), ("_law_rows_here", .lst [.lst [.int a0, .int a1, .int a2], .lst [.int a3, .int a4, .int a5], .lst [.int a6, .int a7, .int a8]], false), ("_law_k", .int 2, false)]) ρ from ai s'.get (ai s'.get (ai s'.get (ai s'.get aM))))
  clear s'
  refine ⟨_, rfl, dA (s.put _ _) (bq decl_name% (iM e8) decl_name%) fun ρ s' => ?_⟩
  replace s := (show Sub (bS [("_law_found", .tup [.int m, .tup [d3 p0 p1 p2, d3 p3 p4 p5, d3 p6 p7 p8]], false), ("_law_n", .int n, false), ("_law_rows_here", .lst [.lst [.int a0, .int a1, .int a2], .lst [.int a3, .int a4, .int a5], .lst [.int a6, .int a7, .int a8]], false), ("_law_k", .int 2, false)]) ρ from ai s'.get (ai s'.get (ai s'.get (ai s'.get aM))))
  clear s'
  replace s := (show Sub (bS [("_law_found", .tup [.int m, .tup [d3 p0 p1 p2, d3 p3 p4 p5, d3 p6 p7 p8]], false), ("_law_n", .int n, false), ("_law_rows_here", .lst [.lst [.int a0, .int a1, .int a2], .lst [.int a3, .int a4, .int a5], .lst [.int a6, .int a7, .int a8]], false)]) ρ from ai s.get (ai s.get (ai s.get aM)))
  exact cG s decl_name%
def uU : Fx := Tb [("_law_whole", hJ), ("_law_tuple", ge), ("_law_divisor", dn)] [] BL IL ML TL aQ
def hU : List D -> Rs D := bN uU (ae (ah 47)) ["_law_found", "_law_n", "_law_brought_here"] (ar (ah 47))
theorem Bn {m p q r n X Y Z : Int} (hm : 0 < m) (h1 : gI [m, p, q, r] = 1) (e1 : p * n = X * m) (e2 : q * n = Y * m) (e3 : r * n = Z * m) (mb : m.natAbs <= 2 ^ 400) (pb : p.natAbs <= 2 ^ 400) (qb : q.natAbs <= 2 ^ 400) (rb : r.natAbs <= 2 ^ 400) (nb : n.natAbs <= 2 ^ 400) (Xb : X.natAbs <= 2 ^ 400) (Yb : Y.natAbs <= 2 ^ 400) (Zb : Z.natAbs <= 2 ^ 400) :
    af (hU [.tup [.int m, d3 p q r], .int n, .lst [.int X, .int Y, .int Z]]) (.bl true) := by
  have hT : okT ([m, p, q, r].map D.int) := gD (k := 400) (by decide) (Nat.le_of_ble_eq_true rfl) (by
    intro x hx
    simp only [List.mem_cons, List.not_mem_nil, or_false] at hx
    rcases hx with rfl | rfl | rfl | rfl <;> assumption)
  have mB := aH mb (by decide)
  have pB := aH pb (by decide)
  have qB := aH qb (by decide)
  have rB := aH rb (by decide)
  have nB := aH nb (by decide)
  have XB := aH Xb (by decide)
  have YB := aH Yb (by decide)
  have ZB := aH Zb (by decide)
  rw [<- fC] at h1
  refine b5 (bq (fZ (cI decl_name% (cI decl_name% (cI decl_name% (cI (decl_name%.bl (c := false) (decide_eq_false (show ¬ m < 1 by omega))) fY))))) rfl (bq (fZ (cI decl_name% (cI (decl_name%.bl (c := false) (by show (!eqD (.int (fD ([m, p, q, r].map D.int))) (.int 1)) = false; rw [h1]; rfl)) fY))) rfl (af.eq decl_name% ?_)))
  show Fl.rt (.bl (eqD (.lst [.int (p * n), .int (q * n), .int (r * n)]) (.lst [.int (X * m), .int (Y * m), .int (Z * m)]))) = _
  rw [e1, e2, e3]
  show Fl.rt (.bl (X * m == X * m && (Y * m == Y * m && (Z * m == Z * m && true)))) = _
  simp
def qC : Fx := Tb [] [] BL IL ML TL aQ
def im : List D -> Rs D := bN qC (ae (ah 46)) ["_law_rows_here", "_law_spot_here"] (ar (ah 46))
def qd : Fx := Tb [("table_of", gr)] [] BL IL ML TL aQ
def fq : List D -> Rs D := bN qd (ae (ah 33)) ["axis"] (ar (ah 33))
theorem EB {k b c d : Int} (hk : k ≠ 0) (p : Pm 0 b c d) (hT : okT (([k * 0, k * b, k * c, k * d] : List Int).map D.int)) (kb : k.natAbs < cu) (hb : b.natAbs <= 2 ^ 140) (hc : c.natAbs <= 2 ^ 140) (hd : d.natAbs <= 2 ^ 140) : af (fq [d3 (k * b) (k * c) (k * d)]) (lZ 0 b c d) := by
  have h := wF hk p hT kb (show (0 : Int).natAbs <= 2 ^ 140 from Nat.zero_le _) hb hc hd
  rw [Int.mul_zero] at h
  exact b5 (dU (dF (aV decl_name% h)))
theorem An (x y z K : Int) (hK : fM K) : af (dP [d3 x y z, .int K]) (d3 (x.fdiv K) (y.fdiv K) (z.fdiv K)) := cK rfl (by walk_at "ob")
theorem DC {k b c d : Int} (hk : k ≠ 0) (p : Pm 0 b c d) (hT : okT (([k * b, k * c, k * d] : List Int).map D.int)) (kb : k.natAbs < cu) : af (d9 [d3 (k * b) (k * c) (k * d)]) (d3 b c d) := by
  have hn : ¬ (k * b = 0 /\ k * c = 0 /\ k * d = 0) := fun z => p.ne ⟨rfl, (Int.mul_eq_zero.mp z.1).resolve_left hk, (Int.mul_eq_zero.mp z.2.1).resolve_left hk, (Int.mul_eq_zero.mp z.2.2).resolve_left hk⟩
  have hg : fD (([k * b, k * c, k * d] : List Int).map D.int) = k.natAbs := by rw [fC]; exact Bu hk p
  have hl := yU hk hn
  have pos := p.pos
  have fd : ∀ x : Int, (k * x).fdiv k = x := fun x => Int.mul_fdiv_cancel_left x hk
  have fin := An (k * b) (k * c) (k * d) k ⟨hk, kb⟩
  rw [fd, fd, fd] at fin
  have hD : af (b0 [d3 (k * b) (k * c) (k * d)]) (.int (k.natAbs : Nat)) := ⟨[okT (([k * b, k * c, k * d] : List Int).map D.int)], by rw [<- hg]; rfl, hT, True.intro⟩
  have k0 : ¬ ((k.natAbs : Nat) : Int) = 0 := by omega
  refine b5 (bt (bR (d := .int (k.natAbs : Nat)) (aV decl_name% hD)) (bq decl_name% ((dt _ _).trans (decide_eq_false k0)) (bt (bR (d := .int (k * cQ 0 b c d)) (lA (k := 0) (mz (out := ((([k * b, k * c, k * d] : List Int).filter fun t => !decide (t = 0)).map D.int)) (j := 0) decl_name% (ds := ([k * b, k * c, k * d] : List Int).map D.int) rfl ⟨Nat.le_of_ble_eq_true rfl, .inl rfl⟩ (fh (g := D.int) (f := D.int) (c := fun t => !decide (t = 0)) (fun x _ => ?_)) (Nat.zero_le 1)) decl_name% rfl hl)) ?_)))
  . refine af.bnd (a := !decide (x = 0)) (my (b := !decide (x = 0)) (c := !decide (x = 0)) (decl_name%.bl (by show (!eqD (.int x) (.int 0)) = _; rw [dt])) (fun h => by rw [h]; exact pF) id) ?_
    cases decide (x = 0)
    . exact af.bnd decl_name% cU
    . exact cU
  . refine dU (dF (aV (bJ decl_name% (bJ (xq (r := (.int k, 0)) decl_name% (fun ht => ?_) (fun hf => ?_)) df)) fin))
    . have hlt : 0 < k * cQ 0 b c d := of_decide_eq_true ht
      have kp : 0 < k := by
        rcases Int.lt_or_gt_of_ne hk with q | q
        . have := Int.mul_neg_of_neg_of_pos q pos; omega
        . exact q
      exact af.eq decl_name% (by rw [show ((k.natAbs : Nat) : Int) = k by omega]; rfl)
    . have hge : ¬ 0 < k * cQ 0 b c d := of_decide_eq_false hf
      have kp : k < 0 := by
        rcases Int.lt_or_gt_of_ne hk with q | q
        . exact q
        . have := Int.mul_pos q pos; omega
      exact af.eq decl_name% (by show (D.int (-((k.natAbs : Nat) : Int)), 0) = _; rw [show -((k.natAbs : Nat) : Int) = k by omega])
def sP : Fx := Tb [] [] BL IL ML TL aQ
def lQ : List D -> Rs D := bN sP (ae (ah 14)) ["one"] (ar (ah 14))
def jX : Fx := Tb [("half_table", fq), ("upright", d9), ("opposite", lQ)] [] BL IL ML TL aQ
def cN : List D -> Rs D := gm jX (ae (ax (ah 32) 0)) ["self", "axis"] "n" "rows" (Ez ((ar (ax (ah 32) 0)).getD 0 (.Pass ⟨0, 0, 0, 0⟩))) (um (ax (ah 32) 0)) "Mirror" ["word", "row", "fractions"]
theorem C9 {k : Int} {u : V3} (hk : k ≠ 0) (p : eH (aq u)) (hT : okT (([k * u.1, k * u.2.1, k * u.2.2] : List Int).map D.int)) (hT4 : okT (([k * 0, k * u.1, k * u.2.1, k * u.2.2] : List Int).map D.int)) (kb : k.natAbs < cu) (hb : u.1.natAbs <= 2 ^ 140) (hc : u.2.1.natAbs <= 2 ^ 140) (hd : u.2.2.natAbs <= 2 ^ 140) : af (cN [d3 (k * u.1) (k * u.2.1) (k * u.2.2)]) (.obj "Mirror" ["word", "row", "fractions"] [.str "mirror", dv u, .tup [.int (tq (aq u)).low.n, .tup [d3 (-(tq (aq u)).low.a) (-(tq (aq u)).low.b) (-(tq (aq u)).low.c), d3 (-(tq (aq u)).low.d) (-(tq (aq u)).low.e) (-(tq (aq u)).low.f), d3 (-(tq (aq u)).low.g) (-(tq (aq u)).low.h) (-(tq (aq u)).low.i)]]]) :=
  BA rfl (aV decl_name% (EB hk p hT4 kb hb hc hd)) rfl (bJ decl_name% (bJ (aV decl_name% (DC hk p hT kb)) (bJ decl_name% df))) rfl rfl rfl
def kE : Fx := Tb [] [] BL IL ML TL aQ
def gP : List D -> Rs D := bN kE (ae (ah 22)) ["one", "other"] (ar (ah 22))
def qD : Fx := Tb [("added_products", gP)] [] BL IL ML TL aQ
def j9 : List D -> Rs D := bN qD (ae (ah 27)) ["rows", "other"] (ar (ah 27))
def lK : Fx := Tb [("each_with", j9), ("common_divisor", b0), ("shortened", dP)] [] BL IL ML TL aQ
def fo : List D -> Rs D := bN lK (ae (ah 25)) ["table", "spot"] (ar (ah 25))
theorem rZ (n X Y Z G : Int) (hG : fM G) : af (aE lK ((ar (ah 25)).drop 3) (ae (ah 25)) (bS [("n", .int n, false), ("brought", d3 X Y Z, true), ("common", .int G, true)])) (.rt (.tup [.int (n.fdiv G), d3 (X.fdiv G) (Y.fdiv G) (Z.fdiv G)])) := cK rfl (by walk_at "ob")
theorem yv {n a b c d e f g h i x y z : Int} (hn : 0 < n) (nb : n.natAbs < cu) (ab : a.natAbs < cu) (bb : b.natAbs < cu) (cb : c.natAbs < cu) (db : d.natAbs < cu) (eb : e.natAbs < cu) (fb : f.natAbs < cu) (gb : g.natAbs < cu) (hb : h.natAbs < cu) (ib : i.natAbs < cu) (xb : x.natAbs < cu) (yb : y.natAbs < cu) (zb : z.natAbs < cu)
    (hT : okT ([n, bM a b c x y z, bM d e f x y z, bM g h i x y z].map D.int)) : af (fo [.tup [.int n, .tup [d3 a b c, d3 d e f, d3 g h i]], d3 x y z]) (.tup [.int (n.fdiv (gI [n, bM a b c x y z, bM d e f x y z, bM g h i x y z])), d3 ((bM a b c x y z).fdiv (gI [n, bM a b c x y z, bM d e f x y z, bM g h i x y z])) ((bM d e f x y z).fdiv (gI [n, bM a b c x y z, bM d e f x y z, bM g h i x y z])) ((bM g h i x y z).fdiv (gI [n, bM a b c x y z, bM d e f x y z, bM g h i x y z]))]) := by
  have h0 : 0 < gI [n, bM a b c x y z, bM d e f x y z, bM g h i x y z] := iz (n := n) (by simp) (by omega)
  have hd : fM (gI [n, bM a b c x y z, bM d e f x y z, bM g h i x y z]) := ⟨by omega, Nat.lt_of_le_of_lt (xp (n := n) (by simp) (by omega)) nb⟩
  rw [<- fC] at hd ⊢
  exact b5 (eB 3 decl_name% (cG (ai rfl (ai rfl (ai rfl aM))) (rZ n _ _ _ _ hd)))
def qf : Fx := lM [("place_by", fo)] [] BL IL ML TL aQ [("Turn", ["fractions"]), ("HalfTurn", ["fractions"]), ("Mirror", ["fractions"])] []
def cW : List D -> Rs D := bN qf (ae (ax (ah 29) 2)) ["self", "spot"] (ar (ax (ah 29) 2))
theorem pK {w r t s d : D} (h : af (fo [t, s]) d) : af (cW [.obj "Turn" ["word", "row", "fractions"] [w, r, t], s]) d := b5 (dU (dF (aV decl_name% h)))
def mI : Fx := Tb [] [] BL IL ML TL aQ
def mM : List D -> Rs D := bN mI (ae (ah 16)) ["four"] (ar (ah 16))
def fG : List D -> Rs D := wP dQ fun p => .ok (dq (EN p)) []
theorem jY : ∀ ds r, af (fG ds) r -> af (mM ds) r := by
  intro ds r h
  obtain ⟨p, rfl, h'⟩ := qQ h
  obtain ⟨rfl, _⟩ := du h'
  exact cK rfl (by walk_at "ob")
def qE : Fx := lM [("other_signed", fG), ("Turn", b9)] [] BL IL ML TL aQ [("Turn", ["row"]), ("HalfTurn", ["row"]), ("Mirror", ["row"])] []
def eG : List D -> Rs D := bN qE (ae (ax (ah 30) 2)) ["self"] (ar (ax (ah 30) 2))
def qe : Fx := lM [] [] BL IL ML TL aQ [("Turn", ["fractions"]), ("HalfTurn", ["fractions"]), ("Mirror", ["fractions"])] []
def cy : List D -> Rs D := bN qe (ae (ax (ah 29) 1)) ["self"] (ar (ax (ah 29) 1))
def qF : Fx := lM [] [] BL IL ML TL aQ [("Turn", ["fractions"]), ("HalfTurn", ["fractions"]), ("Mirror", ["fractions"])] [("Turn", [("table", cy)]), ("HalfTurn", [("table", cy)]), ("Mirror", [("table", cy)])]
def cv : List D -> Rs D := bN qF (ae (ax (ah 29) 3)) ["self", "other"] (ar (ax (ah 29) 3))
theorem tN (a b c d e f g h : Int) : af (cv [rM a b c d, rM e f g h]) (.bl (eqD (lZ a b c d) (lZ e f g h))) :=
  b5 (dU (dF (dh decl_name% (b7 decl_name% decl_name% rfl (d := lZ e f g h) decl_name%) decl_name%)))
def nJ : Fx := lM [] [] BL IL ML TL aQ [("Turn", ["row"]), ("HalfTurn", ["row"]), ("Mirror", ["row"])] []
def ja : List D -> Rs D := bN nJ (ae (ax (ah 30) 1)) ["self"] (ar (ax (ah 30) 1))
def jc : Fx := Tb [("upright", d9), ("half_table", fq)] [] BL IL ML TL aQ
def dS : List D -> Rs D := gn jc (ae (ax (ah 31) 0)) ["self", "axis"] (o9 (ax (ah 31) 0)) "HalfTurn" ["word", "row", "fractions"]
def lL : Fx := lM [("HalfTurn", dS)] [] BL IL ML TL aQ [("Turn", ["row"]), ("HalfTurn", ["row"]), ("Mirror", ["row"])] []
def hV : List D -> Rs D := bN lL (ae (ax (ah 31) 2)) ["self"] (ar (ax (ah 31) 2))
def nK : Fx := lM [("Mirror", cN)] [] BL IL ML TL aQ [("Turn", ["row"]), ("HalfTurn", ["row"]), ("Mirror", ["row"])] []
def jb : List D -> Rs D := bN nK (ae (ax (ah 32) 2)) ["self"] (ar (ax (ah 32) 2))
def xy : Fx := lM [("_law_numbers", fQ), ("_law_spot", iX), ("_law_squares", fP), ("_law_rows", iY), ("_law_told", gN), ("_law_nought", fk), ("_law_stands", gs), ("_law_place", hU), ("_law_cell", gM), ("_law_tuple", ge), ("_law_brought", im), ("Turn", b9), ("Mirror", cN)] [("Turn", .cls "Turn"), ("Mirror", .cls "Mirror"), ("HalfTurn", .cls "HalfTurn"), ("Deed", .cls "Deed")] BL IL ML TL aQ [] [("Turn", [("place", cW), ("back", eG), ("same", cv), ("number", ja), ("table", cy)]), ("HalfTurn", [("place", cW), ("back", hV), ("same", cv), ("table", cy)]), ("Mirror", [("place", cW), ("back", jb), ("same", cv), ("table", cy)])]
def nR : List D -> Rs D := bN xy (ae (ah 52)) ["_law_script"] (ar (ah 52))
theorem kL {k : Int} {q : Qd} {m : Nat} (hk : k ≠ 0) (p : eH q) (hm : m <= 900) (h : c8 (2 ^ m) (kq k q)) (hq : c8 (2 ^ 140) q) : af (b9 [dq (kq k q)]) (el q) :=
  zR hk p (o0 (by omega) h) (aH (vH p.ne h) (by omega)) hq.1 hq.2.1 hq.2.2.1 hq.2.2.2
theorem tt {T : T9} {x y z : Int} {k j : Nat} (hn : 0 < T.n) (b : T.bd k) (hx : x.natAbs <= 2 ^ j) (hy : y.natAbs <= 2 ^ j) (hz : z.natAbs <= 2 ^ j) (hk : k + j <= 900) : ∃ m X Y Z g : Int, xA T x y z m X Y Z g /\ (m.natAbs <= 2 ^ k /\ X.natAbs <= 2 ^ (k + j + 2) /\ Y.natAbs <= 2 ^ (k + j + 2) /\ Z.natAbs <= 2 ^ (k + j + 2)) /\ af (fo [T.D, d3 x y z]) (.tup [.int m, d3 X Y Z]) := by
  have B : ∀ t ∈ T.l, t.natAbs < cu := fun t ht => aH (b t ht) (by omega)
  have d3b : ∀ {a b c : Int}, a ∈ T.l -> b ∈ T.l -> c ∈ T.l -> (bM a b c x y z).natAbs <= 2 ^ (k + j + 2) := fun ha hb' hc => by
    have k1 : ∀ {u v : Int}, u.natAbs <= 2 ^ k -> v.natAbs <= 2 ^ j -> (u * v).natAbs <= 2 ^ (k + j) := fun hu hv => by rw [Int.natAbs_mul, Nat.pow_add]; exact Nat.mul_le_mul hu hv
    have p1 := k1 (b _ ha) hx; have p2 := k1 (b _ hb') hy; have p3 := k1 (b _ hc) hz
    have e4 : 2 ^ (k + j + 2) = 4 * 2 ^ (k + j) := by rw [Nat.pow_succ, Nat.pow_succ]; omega
    rw [e4]; unfold bM
    generalize 2 ^ (k + j) = M at *
    omega
  have bx := d3b (a := T.a) (b := T.b) (c := T.c) (by simp [T9.l]) (by simp [T9.l]) (by simp [T9.l])
  have bY := d3b (a := T.d) (b := T.e) (c := T.f) (by simp [T9.l]) (by simp [T9.l]) (by simp [T9.l])
  have bz := d3b (a := T.g) (b := T.h) (c := T.i) (by simp [T9.l]) (by simp [T9.l]) (by simp [T9.l])
  have hT : okT ([T.n, bM T.a T.b T.c x y z, bM T.d T.e T.f x y z, bM T.g T.h T.i x y z].map D.int) := gD (k := k + j + 2) (by omega) (Nat.le_of_ble_eq_true rfl) (by
    intro t ht
    simp only [List.mem_cons, List.not_mem_nil, or_false] at ht
    rcases ht with rfl | rfl | rfl | rfl
    . exact Nat.le_trans (b _ T.mem_n) (Nat.pow_le_pow_right (by decide) (by omega))
    . exact bx
    . exact bY
    . exact bz)
  have h := yv hn (B _ T.mem_n) (B T.a (by simp [T9.l])) (B T.b (by simp [T9.l])) (B T.c (by simp [T9.l])) (B T.d (by simp [T9.l])) (B T.e (by simp [T9.l])) (B T.f (by simp [T9.l])) (B T.g (by simp [T9.l])) (B T.h (by simp [T9.l])) (B T.i (by simp [T9.l])) (aH hx (by omega)) (aH hy (by omega)) (aH hz (by omega)) hT
  have pc := AO hn x y z
  exact ⟨_, _, _, _, _, pc, ⟨Nat.le_trans (iB pc.pos) (b _ T.mem_n), Nat.le_trans (iB pc.pos) bx, Nat.le_trans (iB pc.pos) bY, Nat.le_trans (iB pc.pos) bz⟩, h⟩
theorem uO {q : Qd} (p : eH q) (hq : c8 (2 ^ 140) q) : ∃ k : Int, (k = 1 \/ k = -1) /\ eH (kq k (dG q)) /\ c8 (2 ^ 140) (kq k (dG q)) /\ af (eG [el q]) (el (kq k (dG q))) := by
  obtain ⟨a, b, c, d⟩ := q
  obtain ⟨h1, h2, h3, h4⟩ := hq
  obtain ⟨k, hk, p'⟩ := tR p
  have k0 : k ≠ 0 := by omega
  have ka : k.natAbs = 1 := by rcases hk with rfl | rfl <;> rfl
  have kn : ∀ x : Int, (k * x).natAbs = x.natAbs := fun x => by rw [Int.natAbs_mul, ka, Nat.one_mul]
  have nn : ∀ x : Int, (k * -x).natAbs = x.natAbs := fun x => by rw [kn, Int.natAbs_neg]
  have lq : c8 (2 ^ 140) (kq k (a, -b, -c, -d)) := ⟨by show (k * a).natAbs <= _; rw [kn]; exact h1, by show (k * -b).natAbs <= _; rw [nn]; exact h2, by show (k * -c).natAbs <= _; rw [nn]; exact h3, by show (k * -d).natAbs <= _; rw [nn]; exact h4⟩
  have kk : kq k (kq k (a, -b, -c, -d)) = (a, -b, -c, -d) := by
    rw [jM, show k * k = 1 by rcases hk with rfl | rfl <;> rfl]
    unfold kq; simp
  have t := (kL (q := kq k (a, -b, -c, -d)) k0 p' (m := 140) (by decide) (by rw [kk]; exact ⟨h1, by show (-b).natAbs <= _; rw [Int.natAbs_neg]; exact h2, by show (-c).natAbs <= _; rw [Int.natAbs_neg]; exact h3, by show (-d).natAbs <= _; rw [Int.natAbs_neg]; exact h4⟩) lq)
  rw [kk] at t
  exact ⟨k, hk, p', lq, b5 (dU (dF (aV (bJ (aV decl_name% (v := t4 a (-b) (-c) (-d)) decl_name%) df) t)))⟩
theorem yR {k : Int} (hk : k = 1 \/ k = -1) {q : Qd} {m : Nat} (h : c8 m q) : c8 m (kq k (dG q)) := by
  obtain ⟨h1, h2, h3, h4⟩ := h
  have ka : k.natAbs = 1 := by rcases hk with rfl | rfl <;> rfl
  have kn : ∀ x : Int, (k * x).natAbs = x.natAbs := fun x => by rw [Int.natAbs_mul, ka, Nat.one_mul]
  exact ⟨by show (k * q.1).natAbs <= _; rw [kn]; exact h1, by show (k * -q.2.1).natAbs <= _; rw [kn, Int.natAbs_neg]; exact h2, by show (k * -q.2.2.1).natAbs <= _; rw [kn, Int.natAbs_neg]; exact h3, by show (k * -q.2.2.2).natAbs <= _; rw [kn, Int.natAbs_neg]; exact h4⟩
theorem n6 {k : Int} {q : Qd} {m : Nat} (hk : k ≠ 0) (p : eH q) (hm : m <= 900) (h : c8 (2 ^ m) (kq k q)) : af (gN [dq (kq k q)]) (dq q) := zV hk p (o0 (by omega) h) (aH (vH p.ne h) (by omega))
theorem tz {k : Int} {Q : Qd} (hk : k ≠ 0) (p : eH Q) : ∃ c : Int, 0 < c /\ tq (kq k Q) = (tq Q).low.map (c * ·) := by
  obtain ⟨g, hg, cut, _⟩ := kM Q p
  refine ⟨k * k * g, Int.mul_pos (jg hk) (by omega), ?_⟩
  have t : tq (kq k Q) = (tq Q).map (k * k * ·) := qM k Q
  rw [t]
  conv => lhs; rw [cut]
  show (tq Q).low.map (fun x => k * k * (g * x)) = _
  congr 1
  funext x
  exact (Int.mul_assoc (k * k) g x).symm
theorem CF {k : Int} {Q : Qd} (hk : k ≠ 0) (p : eH Q) (l1 : c8 (2 ^ 67) (kq k Q)) : af (gs [(tq Q).low.D, .int (tq (kq k Q)).n, .lst [.lst [.int (tq (kq k Q)).a, .int (tq (kq k Q)).b, .int (tq (kq k Q)).c], .lst [.int (tq (kq k Q)).d, .int (tq (kq k Q)).e, .int (tq (kq k Q)).f], .lst [.int (tq (kq k Q)).g, .int (tq (kq k Q)).h, .int (tq (kq k Q)).i]]]) (.bl true) := by
  obtain ⟨c, c0, tK⟩ := tz hk p
  obtain ⟨g, hg, cut, en, _, ln0, g1⟩ := kM Q p
  have lq := rV hk l1
  have tl := T9.bd_low (fR p.ne) (jE lq)
  have tb := jE l1
  rw [tK] at tb ⊢
  have u4 : ∀ {t : Int} {a : Nat}, a <= 400 -> t.natAbs <= 2 ^ a -> t.natAbs <= 2 ^ 400 := fun h h' => Nat.le_trans h' (Nat.pow_le_pow_right (by decide) h)
  have hT : okT ((tq Q).low.l.map D.int) := gD (k := 137) (by decide) (Nat.le_of_ble_eq_true rfl) (fun t ht => tl t ht)
  generalize (tq Q).low = T at *
  have sw : ∀ u : Int, u * (c * T.n) = c * u * T.n := fun u => by grind
  exact u7 (m := T.n) (n := c * T.n) ln0 g1 hT (u4 (by decide) (tl _ (T9.mem_n _))) (u4 (by decide) (tb _ (T9.mem_n _))) (sw _) (u4 (by decide) (tl _ (by simp [T9.l]))) (u4 (by decide) (tb _ (by simp [T9.l, T9.map]))) (sw _) (u4 (by decide) (tl _ (by simp [T9.l]))) (u4 (by decide) (tb _ (by simp [T9.l, T9.map]))) (sw _) (u4 (by decide) (tl _ (by simp [T9.l]))) (u4 (by decide) (tb _ (by simp [T9.l, T9.map]))) (sw _) (u4 (by decide) (tl _ (by simp [T9.l]))) (u4 (by decide) (tb _ (by simp [T9.l, T9.map]))) (sw _) (u4 (by decide) (tl _ (by simp [T9.l]))) (u4 (by decide) (tb _ (by simp [T9.l, T9.map]))) (sw _) (u4 (by decide) (tl _ (by simp [T9.l]))) (u4 (by decide) (tb _ (by simp [T9.l, T9.map]))) (sw _) (u4 (by decide) (tl _ (by simp [T9.l]))) (u4 (by decide) (tb _ (by simp [T9.l, T9.map]))) (sw _) (u4 (by decide) (tl _ (by simp [T9.l]))) (u4 (by decide) (tb _ (by simp [T9.l, T9.map]))) (sw _) (u4 (by decide) (tl _ (by simp [T9.l]))) (u4 (by decide) (tb _ (by simp [T9.l, T9.map])))
theorem CQ {k : Int} {Q : Qd} (hk : k ≠ 0) (p : eH Q) (l1 : c8 (2 ^ 67) (kq k Q)) {x y z : Int} (hx : x.natAbs <= 2 ^ 70) (hy : y.natAbs <= 2 ^ 70) (hz : z.natAbs <= 2 ^ 70) {m P R S g : Int} (pl : xA (tq Q).low x y z m P R S g) (mb : m.natAbs <= 2 ^ 400) (Pb : P.natAbs <= 2 ^ 400) (Rb : R.natAbs <= 2 ^ 400) (Sb : S.natAbs <= 2 ^ 400) : af (hU [.tup [.int m, d3 P R S], .int (tq (kq k Q)).n, .lst [.int ((tq (kq k Q)).dx x y z), .int ((tq (kq k Q)).dy x y z), .int ((tq (kq k Q)).dz x y z)]]) (.bl true) := by
  obtain ⟨c, c0, tK⟩ := tz hk p
  have tb := jE l1
  have u4 : ∀ {t : Int} {a : Nat}, a <= 400 -> t.natAbs <= 2 ^ a -> t.natAbs <= 2 ^ 400 := fun h h' => Nat.le_trans h' (Nat.pow_le_pow_right (by decide) h)
  have db : ∀ {u v w : Int}, u ∈ (tq (kq k Q)).l -> v ∈ (tq (kq k Q)).l -> w ∈ (tq (kq k Q)).l -> (bM u v w x y z).natAbs <= 2 ^ 400 := fun hu hv hw => u4 (by decide) (B4 (tb _ hu) (tb _ hv) (tb _ hw) hx hy hz)
  have nb := u4 (by decide) (tb _ (T9.mem_n _))
  have X := db (u := (tq (kq k Q)).a) (v := (tq (kq k Q)).b) (w := (tq (kq k Q)).c) (by simp [T9.l]) (by simp [T9.l]) (by simp [T9.l])
  have Y := db (u := (tq (kq k Q)).d) (v := (tq (kq k Q)).e) (w := (tq (kq k Q)).f) (by simp [T9.l]) (by simp [T9.l]) (by simp [T9.l])
  have Z := db (u := (tq (kq k Q)).g) (v := (tq (kq k Q)).h) (w := (tq (kq k Q)).i) (by simp [T9.l]) (by simp [T9.l]) (by simp [T9.l])
  obtain ⟨d1, d2, d3⟩ := xa c (tq Q).low x y z
  rw [<- tK] at d1 d2 d3
  have en : (tq (kq k Q)).n = c * (g * m) := by rw [tK, <- pl.en]; rfl
  have sw : ∀ u : Int, u * (c * (g * m)) = c * (g * u) * m := fun u => by grind
  exact Bn pl.mpos pl.one (by rw [en, d1, pl.ex]; exact sw P) (by rw [en, d2, pl.ey]; exact sw R) (by rw [en, d3, pl.ez]; exact sw S) mb Pb Rb Sb nb X Y Z
theorem Aa {p q : Qd} (hp : eH p) (hq : eH q) : eqD (tq p).low.D (tq q).low.D = decide (p = q) := by
  by_cases h : p = q
  . subst h; rw [T9.eqD]; simp
  . rw [decide_eq_false h]
    cases hb : eqD (tq p).low.D (tq q).low.D with
    | false => rfl
    | true =>
      exfalso
      refine h (xS hp hq ?_)
      generalize (tq p).low = A at *
      generalize (tq q).low = B at *
      replace hb : (A.n == B.n && (((A.a == B.a && (A.b == B.b && (A.c == B.c && true))) && ((A.d == B.d && (A.e == B.e && (A.f == B.f && true))) && ((A.g == B.g && (A.h == B.h && (A.i == B.i && true))) && true))) && true)) = true := hb
      simp only [Bool.and_true, Bool.and_eq_true, beq_iff_eq] at hb
      obtain ⟨h0, ⟨h1, h2, h3⟩, ⟨h4, h5, h6⟩, h7, h8, h9⟩ := hb
      cases A; cases B
      simp only at *
      subst h0 h1 h2 h3 h4 h5 h6 h7 h8 h9
      rfl
theorem Bm {p q : Qd} (hp : eH p) (hq : eH q) (q0 : q.1 = 0) : eqD (tq p).low.D (.tup [.int (tq q).low.n, .tup [d3 (-(tq q).low.a) (-(tq q).low.b) (-(tq q).low.c), d3 (-(tq q).low.d) (-(tq q).low.e) (-(tq q).low.f), d3 (-(tq q).low.g) (-(tq q).low.h) (-(tq q).low.i)]]) = false /\ eqD (.tup [.int (tq q).low.n, .tup [d3 (-(tq q).low.a) (-(tq q).low.b) (-(tq q).low.c), d3 (-(tq q).low.d) (-(tq q).low.e) (-(tq q).low.f), d3 (-(tq q).low.g) (-(tq q).low.h) (-(tq q).low.i)]]) (tq p).low.D = false := by
  have no := Bl hp hq q0
  generalize (tq p).low = A at *
  generalize (tq q).low = B at *
  constructor
  . cases hb : eqD A.D (.tup [.int B.n, .tup [d3 (-B.a) (-B.b) (-B.c), d3 (-B.d) (-B.e) (-B.f), d3 (-B.g) (-B.h) (-B.i)]]) with
    | false => rfl
    | true =>
      replace hb : (A.n == B.n && (((A.a == -B.a && (A.b == -B.b && (A.c == -B.c && true))) && ((A.d == -B.d && (A.e == -B.e && (A.f == -B.f && true))) && ((A.g == -B.g && (A.h == -B.h && (A.i == -B.i && true))) && true))) && true)) = true := hb
      simp only [Bool.and_true, Bool.and_eq_true, beq_iff_eq] at hb
      obtain ⟨h0, ⟨h1, h2, h3⟩, ⟨h4, h5, h6⟩, h7, h8, h9⟩ := hb
      exact (no h0 h1 h2 h3 h4 h5 h6 h7 h8 h9).elim
  . cases hb : eqD (.tup [.int B.n, .tup [d3 (-B.a) (-B.b) (-B.c), d3 (-B.d) (-B.e) (-B.f), d3 (-B.g) (-B.h) (-B.i)]]) A.D with
    | false => rfl
    | true =>
      replace hb : (B.n == A.n && (((-B.a == A.a && (-B.b == A.b && (-B.c == A.c && true))) && ((-B.d == A.d && (-B.e == A.e && (-B.f == A.f && true))) && ((-B.g == A.g && (-B.h == A.h && (-B.i == A.i && true))) && true))) && true)) = true := hb
      simp only [Bool.and_true, Bool.and_eq_true, beq_iff_eq] at hb
      obtain ⟨h0, ⟨h1, h2, h3⟩, ⟨h4, h5, h6⟩, h7, h8, h9⟩ := hb
      exact (no h0.symm h1.symm h2.symm h3.symm h4.symm h5.symm h6.symm h7.symm h8.symm h9.symm).elim
theorem tO {n1 n2 : Str} {w1 r1 t1 w2 r2 t2 : D} {b : Bool} (h1 : n1 = "Turn" \/ n1 = "Mirror") (h2 : n2 = "Turn" \/ n2 = "Mirror") (hc : af (jw .Eq t1 t2) b) : af (cv [.obj n1 ["word", "row", "fractions"] [w1, r1, t1], .obj n2 ["word", "row", "fractions"] [w2, r2, t2]]) (.bl b) := by
  rcases h1 with rfl | rfl <;> rcases h2 with rfl | rfl
  . exact b5 (dU (dF (dh decl_name% (b7 decl_name% decl_name% rfl (d := t2) decl_name%) hc)))
  . exact b5 (dU (dF (dh decl_name% (b7 decl_name% decl_name% rfl (d := t2) decl_name%) hc)))
  . exact b5 (dU (dF (dh decl_name% (b7 decl_name% decl_name% rfl (d := t2) decl_name%) hc)))
  . exact b5 (dU (dF (dh decl_name% (b7 decl_name% decl_name% rfl (d := t2) decl_name%) hc)))
theorem EM {q : Qd} (p : eH q) (lq : c8 (2 ^ 67) q) : ∃ e : Int, (e = 1 \/ e = -1) /\ eH (kq e (dG q)) /\ af (eG [el q]) (el (kq e (dG q))) /\ af (eG [el (kq e (dG q))]) (el q) := by
  have up : ∀ {q : Qd} {m j : Nat}, m <= j -> c8 (2 ^ m) q -> c8 (2 ^ j) q := fun hm h => oW h (Nat.pow_le_pow_right (by decide) hm)
  obtain ⟨e, he, p1, l1, h1⟩ := uO p (up (by decide) lq)
  obtain ⟨e', he', p2, l2, h2⟩ := uO p1 l1
  have eb : kq e' (dG (kq e (dG q))) = kq (e' * e) q := by
    rw [Ch, jM]
    obtain ⟨a, b, c, d⟩ := q
    simp only [dG, Int.neg_neg]
  have e0 : e' * e ≠ 0 := Int.mul_ne_zero (by omega) (by omega)
  have := mZ (k := 1) (l := e' * e) (by decide) e0 p2 p (by rw [ud, eb])
  rw [this] at h2
  exact ⟨e, he, p1, h1, h2⟩
theorem Fe (q : Qd) : Al q = (tq q).n := by obtain ⟨a, b, c, d⟩ := q; simp only [Al, tq, n4]; omega
theorem vG (ns : List Int) (_ : ns.length <= 63) (hb : ∀ m ∈ ns, Builtin.Int.intBits m <= 2 ^ 20) : af (nR [.lst (ns.map D.int)]) (.bl true) := by
  have hw : kW (ns.map D.int) := ⟨ns, rfl, hb⟩
  generalize ns.map D.int = L at *
  have hl := hw.okL
  obtain ⟨x0, y0, z0, w0, ⟨n1, n2, n3, n4'⟩, h0, hN⟩ := Bf hw 0
  have hR := AG n1 n2 n3 n4'
  obtain ⟨k, Q, hk, eQ, pQ, l1⟩ := vA h0 n1 n2 n3 n4'
  have hN : af (fQ [.lst L, .int 0, .int 4]) (dq (kq k Q)) := by rw [<- eQ]; exact hN
  have hR : af (iY [dq (kq k Q)]) (.lst [.lst [.int (tq (kq k Q)).a, .int (tq (kq k Q)).b, .int (tq (kq k Q)).c], .lst [.int (tq (kq k Q)).d, .int (tq (kq k Q)).e, .int (tq (kq k Q)).f], .lst [.int (tq (kq k Q)).g, .int (tq (kq k Q)).h, .int (tq (kq k Q)).i]]) := by rw [<- eQ]; exact hR
  clear h0 n1 n2 n3 n4' eQ
  have lq := rV hk l1
  have up : ∀ {q : Qd} {m j : Nat}, m <= j -> c8 (2 ^ m) q -> c8 (2 ^ j) q := fun hm h => oW h (Nat.pow_le_pow_right (by decide) hm)
  have hT := kL hk pQ (by decide) l1 (up (by decide) lq)
  have hTo := n6 hk pQ (by decide) l1
  have bK : nD (kq k Q) := Cg l1 (Nat.pow_lt_pow_right (by decide) (by decide))
  have hS1 : af (fP [dq (kq k Q)]) (.int (tq (kq k Q)).n) := ⟨[nD (kq k Q)], by rw [<- Fe]; rfl, bK, True.intro⟩
  have hS : af (iX [.lst L, .int 6]) (d3 (dZ (cn L (6 + 1 + 0)) (cn L 6)) (dZ (cn L (6 + 1 + 1)) (cn L 6)) (dZ (cn L (6 + 1 + 2)) (cn L 6))) := decl_name%
  have x70 : (dZ (cn L (6 + 1 + 0)) (cn L 6)).natAbs <= 2 ^ 70 := Nat.le_trans (fV _ _) (by decide)
  have y70 : (dZ (cn L (6 + 1 + 1)) (cn L 6)).natAbs <= 2 ^ 70 := Nat.le_trans (fV _ _) (by decide)
  have z70 : (dZ (cn L (6 + 1 + 2)) (cn L 6)).natAbs <= 2 ^ 70 := Nat.le_trans (fV _ _) (by decide)
  generalize dZ (cn L (6 + 1 + 0)) (cn L 6) = x at *
  generalize dZ (cn L (6 + 1 + 1)) (cn L 6) = y at *
  generalize dZ (cn L (6 + 1 + 2)) (cn L 6) = z at *
  have hTup : af (ge [dq Q, .int 4]) (.bl true) := decl_name%
  have hSt := CF hk pQ l1
  obtain ⟨m, P, R, S, g, pl, ⟨mb, Pb, Rb, Sb⟩, hP⟩ := tt (T9.lown (fR pQ.ne)) (T9.bd_low (fR pQ.ne) (jE lq)) x70 y70 z70 (by decide)
  have u4 : ∀ {t : Int} {a : Nat}, a <= 400 -> t.natAbs <= 2 ^ a -> t.natAbs <= 2 ^ 400 := fun h h' => Nat.le_trans h' (Nat.pow_le_pow_right (by decide) h)
  have hLp := CQ hk pQ l1 x70 y70 z70 pl (u4 (by decide) mb) (u4 (by decide) Pb) (u4 (by decide) Rb) (u4 (by decide) Sb)
  have tb := jE l1
  have bA := aH (tb (tq (kq k Q)).a (by simp [T9.l])) (by decide); have bB := aH (tb (tq (kq k Q)).b (by simp [T9.l])) (by decide); have bC := aH (tb (tq (kq k Q)).c (by simp [T9.l])) (by decide)
  have bD := aH (tb (tq (kq k Q)).d (by simp [T9.l])) (by decide); have bE := aH (tb (tq (kq k Q)).e (by simp [T9.l])) (by decide); have bF := aH (tb (tq (kq k Q)).f (by simp [T9.l])) (by decide)
  have bG := aH (tb (tq (kq k Q)).g (by simp [T9.l])) (by decide); have bH := aH (tb (tq (kq k Q)).h (by simp [T9.l])) (by decide); have bI := aH (tb (tq (kq k Q)).i (by simp [T9.l])) (by decide)
  have xB := aH x70 (by decide); have yB := aH y70 (by decide); have zB := aH z70 (by decide)
  have hBr : af (im [.lst [.lst [.int (tq (kq k Q)).a, .int (tq (kq k Q)).b, .int (tq (kq k Q)).c], .lst [.int (tq (kq k Q)).d, .int (tq (kq k Q)).e, .int (tq (kq k Q)).f], .lst [.int (tq (kq k Q)).g, .int (tq (kq k Q)).h, .int (tq (kq k Q)).i]], d3 x y z]) (.lst [.int ((tq (kq k Q)).dx x y z), .int ((tq (kq k Q)).dy x y z), .int ((tq (kq k Q)).dz x y z)]) := decl_name%
  obtain ⟨e, he, pB', hBk, hBB⟩ := EM pQ lq
  have l' := yR he lq
  have hTo2 : af (gN [t4 (k * Q.1) (-(k * Q.2.1)) (-(k * Q.2.2.1)) (-(k * Q.2.2.2))]) (dq (kq e (dG Q))) := by
    have e2 : kq (k * e) (kq e (dG Q)) = (k * Q.1, -(k * Q.2.1), -(k * Q.2.2.1), -(k * Q.2.2.2)) := by
      rw [jM, show k * e * e = k by rcases he with rfl | rfl <;> omega]
      obtain ⟨a, b, c, d⟩ := Q
      simp only [kq, dG, Int.mul_neg]
    have lb : c8 (2 ^ 67) (kq (k * e) (kq e (dG Q))) := by
      rw [e2]
      obtain ⟨q1, q2, q3, q4⟩ := l1
      exact ⟨q1, by show (-(k * Q.2.1)).natAbs <= _; rw [Int.natAbs_neg]; exact q2, by show (-(k * Q.2.2.1)).natAbs <= _; rw [Int.natAbs_neg]; exact q3, by show (-(k * Q.2.2.2)).natAbs <= _; rw [Int.natAbs_neg]; exact q4⟩
    have := n6 (Int.mul_ne_zero hk (by omega)) pB' (by decide) lb
    rw [e2] at this
    exact this
  obtain ⟨m', P', R', S', g', pl', ⟨mb', Pb', Rb', Sb'⟩, hP'⟩ := tt (T9.lown (fR pB'.ne)) (T9.bd_low (fR pB'.ne) (jE l')) Pb Rb Sb (by decide)
  obtain ⟨f1, f2, f3⟩ := zc (k := e) (by omega) pQ.ne rfl (rj pQ pl) (rj pB' pl')
  have mx : ∀ {t : Int}, t.natAbs <= 2 ^ 70 -> (m * t).natAbs <= 2 ^ 400 := fun h => u4 (a := 137 + 70) (by decide) (by rw [Int.natAbs_mul, Nat.pow_add]; exact Nat.mul_le_mul mb h)
  have sw : ∀ {t X : Int}, t * m * m' = X -> X * 1 = m * t * m' := fun h => by rw [<- h]; grind
  have hLp2 := Bn pl'.mpos pl'.one (n := 1) (sw f1) (sw f2) (sw f3) (u4 (by decide) mb') (u4 (by decide) Pb') (u4 (by decide) Rb') (u4 (by decide) Sb') (by decide) (mx x70) (mx y70) (mx z70)
  have h4 : ∀ q : Qd, (!eqD (dq q) (dq q)) = false := fun q => by rw [xr]; simp
  have mB := aH mb (by decide)
  refine b5 (bt (bR (aV decl_name% hN)) (bt (bR (aV decl_name% hS)) (bt (bR (aV decl_name% hT)) (bt (bR (aV decl_name% hS1)) (bt (bR (aV decl_name% hR)) ?_)))))
  refine bq decl_name% rfl (bt (bR (aV decl_name% hTo)) ?_)
  refine bq (fZ (cI (ju (aV (bJ (b7 decl_name% decl_name% rfl (d := dq Q) decl_name%) (bJ decl_name% df)) hTup)) (cI (dh (x := dq Q) (y := dq Q) (b7 decl_name% decl_name% rfl (d := dq Q) decl_name%) decl_name% (decl_name%.eq (h4 Q))) fY))) rfl ?_
  refine bq (ju (aV (bJ (b7 decl_name% decl_name% rfl (d := (tq Q).low.D) decl_name%) decl_name%) hSt)) rfl ?_
  refine bt (bR (b7 decl_name% decl_name% rfl (pK hP))) (bq (ju (aV (bJ decl_name% (bJ decl_name% (bJ (aV decl_name% hBr) df))) hLp)) rfl ?_)
  refine bt (bR (b7 decl_name% decl_name% rfl hBk)) (eB 1 decl_name% ?_)
  refine bq (fZ (cI decl_name% (cI (dh (x := dq (kq e (dG Q))) (y := dq (kq e (dG Q))) (b7 decl_name% decl_name% rfl (d := dq (kq e (dG Q))) decl_name%) (aV decl_name% hTo2) (decl_name%.eq (h4 _))) fY))) rfl ?_
  refine bt (bR (b7 decl_name% (bJ (lA decl_name% decl_name% rfl rfl) df) rfl (pK hP'))) ?_
  refine bq (fZ (cI (ju (aV decl_name% hLp2)) (cI (dh (x := dq Q) (y := dq Q) (b7 decl_name% decl_name% rfl (d := dq Q) decl_name%) decl_name% (decl_name%.eq (h4 Q))) fY))) rfl (eB 1 decl_name% ?_)
  have k0 := Int.fmod_nonneg_of_pos (cn L 10) (show (0 : Int) < 4 by decide)
  have k1 := Int.fmod_lt_of_pos (cn L 10) (show (0 : Int) < 4 by decide)
  generalize (cn L 10).fmod 4 = kk at *
  refine cG (C := bS [("_law_numbers_here", dq (kq k Q), true), ("_law_spot_here", d3 x y z, true), ("_law_turn", el Q, true), ("_law_due", dq Q, true), ("_law_back", el (kq e (dG Q)), true), ("_law_k", .int kk, true)]) (ai rfl (ai rfl (ai rfl (ai rfl (ai rfl (ai rfl aM)))))) ?_
  have l2 : c8 (2 ^ 69) (kq (-3) (kq k Q)) := by
    obtain ⟨h1, h2, h3, h4⟩ := l1
    have q : ∀ {x : Int}, x.natAbs <= 2 ^ 67 -> (-3 * x).natAbs <= 2 ^ 69 := fun h => by rw [Int.natAbs_mul, show (2 : Nat) ^ 69 = 4 * 2 ^ 67 from rfl]; exact Nat.mul_le_mul (by decide) h
    exact ⟨q h1, q h2, q h3, q h4⟩
  have hT3 : af (b9 [dq (kq (-3) (kq k Q))]) (el Q) := by
    rw [jM] at l2 ⊢
    exact kL (Int.mul_ne_zero (by decide) hk) pQ (by decide) l2 (up (by decide) lq)
  have same_t : af (cv [el Q, el Q]) (.bl true) := af.eq (tN _ _ _ _ _ _ _ _) (congrArg D.bl (T9.eqD (tq Q).low))
  have hNo : af (fk []) (.bl true) := ⟨[], rfl, True.intro⟩
  have fin : ∀ O : Qd, c8 (2 ^ 68) O -> af (aE xy ((ar (ah 52)).drop 18) (ae (ah 52)) (bS [("_law_numbers_here", dq (kq k Q), true), ("_law_spot_here", d3 x y z, true), ("_law_turn", el Q, true), ("_law_due", dq Q, true), ("_law_back", el (kq e (dG Q)), true), ("_law_other", dq O, true)])) (.rt (.bl true)) := fun O lO => by
    refine bq (dh (x := .bl true) (y := .bl true) (b7 decl_name% (bJ (aV decl_name% hT3) df) rfl same_t) decl_name% decl_name%) rfl ?_
    refine bq (dh (x := .bl true) (y := .bl true) (b7 decl_name% (bJ (b7 decl_name% decl_name% rfl hBB) df) rfl same_t) decl_name% decl_name%) rfl ?_
    obtain ⟨zz, nz, zb, ez⟩ : ∃ zz : Int, ¬ (x = 0 /\ y = 0 /\ zz = 0) /\ zz.natAbs <= 2 ^ 71 /\ (zz = if x = 0 /\ y = 0 /\ z = 0 then z + 1 else z) := by
      have e71 : (2 : Nat) ^ 71 = 2 ^ 70 + 2 ^ 70 := rfl
      have : 1 <= 2 ^ 70 := by decide
      by_cases h : x = 0 /\ y = 0 /\ z = 0
      . exact ⟨z + 1, fun q => by omega, by rw [e71]; generalize (2 : Nat) ^ 70 = M at *; omega, by rw [if_pos h]⟩
      . exact ⟨z, h, by rw [e71]; generalize (2 : Nat) ^ 70 = M at *; omega, by rw [if_neg h]⟩
    obtain ⟨k2, v, hk2, ev, pv⟩ := CP (u := (x, y, zz)) (fun q => nz ⟨q.2.1, q.2.2.1, q.2.2.2⟩)
    have lv : c8 (2 ^ 71) (kq k2 (aq v)) := by
      have e1 : x = k2 * v.1 := congrArg (·.1) ev
      have e2 : y = k2 * v.2.1 := congrArg (·.2.1) ev
      have e3 : zz = k2 * v.2.2 := congrArg (·.2.2) ev
      have q : ∀ {t : Int}, t.natAbs <= 2 ^ 70 -> t.natAbs <= 2 ^ 71 := fun h => Nat.le_trans h (Nat.pow_le_pow_right (by decide) (by decide))
      exact ⟨by show (k2 * 0).natAbs <= _; rw [Int.mul_zero]; exact Nat.zero_le _, by show (k2 * v.1).natAbs <= _; rw [<- e1]; exact q x70, by show (k2 * v.2.1).natAbs <= _; rw [<- e2]; exact q y70, by show (k2 * v.2.2).natAbs <= _; rw [<- e3]; exact zb⟩
    have lv' := rV hk2 lv
    have hT4 := o0 (q := aq v) (by decide) lv
    have hT3' : okT (([k2 * v.1, k2 * v.2.1, k2 * v.2.2] : List Int).map D.int) := gD (k := 71) (by decide) (Nat.le_of_ble_eq_true rfl) (by
      intro t ht
      simp only [List.mem_cons, List.not_mem_nil, or_false] at ht
      rcases ht with rfl | rfl | rfl
      . exact lv.2.1
      . exact lv.2.2.1
      . exact lv.2.2.2)
    have lv140 : c8 (2 ^ 140) (aq v) := up (by decide) lv'
    have hMir := C9 hk2 pv hT3' hT4 (aH (vH pv.ne lv) (by decide)) lv140.2.1 lv140.2.2.1 lv140.2.2.2
    have em : d3 (k2 * v.1) (k2 * v.2.1) (k2 * v.2.2) = d3 x y zz := by
      have e1 : x = k2 * v.1 := congrArg (·.1) ev
      have e2 : y = k2 * v.2.1 := congrArg (·.2.1) ev
      have e3 : zz = k2 * v.2.2 := congrArg (·.2.2) ev
      rw [<- e1, <- e2, <- e3]
    rw [em] at hMir
    obtain ⟨mq1, mq2⟩ := Bm (q := aq v) pQ pv rfl
    refine bt (bR (aV (bJ (af.eq (b := (d3 x y zz, 0)) decl_name% ?_) df) hMir)) ?_
    . have eb : (z + bif !(([x, y, z] : List Int).any fun n => n != 0) then 1 else 0) = zz := by
        rw [ez]
        by_cases h : x = 0 /\ y = 0 /\ z = 0
        . rw [if_pos h, h.1, h.2.1, h.2.2]; rfl
        . rw [if_neg h]
          have ha : (([x, y, z] : List Int).any fun n => n != 0) = true := by
            by_cases h1 : x = 0
            . by_cases h2 : y = 0
              . by_cases h3 : z = 0
                . exact absurd ⟨h1, h2, h3⟩ h
                . simp [h3]
              . simp [h2]
            . simp [h1]
          rw [ha]; exact Int.add_zero z
      show (d3 x y (z + bif !(([x, y, z] : List Int).any fun n => n != 0) then 1 else 0), 0) = (d3 x y zz, 0)
      rw [eb]
    refine bq (fZ (cI (dh (x := .bl false) (y := .bl false) (b7 decl_name% decl_name% rfl (tO (.inl rfl) (.inr rfl) (decl_name%.eq mq1))) decl_name% decl_name%) (cI (dh (x := .bl false) (y := .bl false) (b7 decl_name% decl_name% rfl (tO (.inr rfl) (.inl rfl) (decl_name%.eq mq2))) decl_name% decl_name%) fY))) rfl ?_
    by_cases hO : O.1 = 0 /\ O.2.1 = 0 /\ O.2.2.1 = 0 /\ O.2.2.2 = 0
    . exact bq decl_name% (by show (([O.1, O.2.1, O.2.2.1, O.2.2.2] : List Int).any fun n => n != 0) = false; rw [wf, decide_eq_true hO]; rfl) (dU (dF (aV decl_name% hNo)))
    . obtain ⟨k3, a3, b3, c3, d3', hk3, e1, e2, e3, e4, p3, _⟩ := me hO
      have eO : O = kq k3 (a3, b3, c3, d3') := by
        obtain ⟨o1, o2, o3, o4⟩ := O
        simp only [kq] at *
        rw [e1, e2, e3, e4]
      have l3 : c8 (2 ^ 68) (kq k3 (a3, b3, c3, d3')) := by rw [<- eO]; exact lO
      have hT5 := kL hk3 p3 (by decide) l3 (up (by decide) (rV hk3 l3))
      have hTo5 := n6 hk3 p3 (by decide) l3
      rw [<- eO] at hT5 hTo5
      have hSm : af (cv [el Q, el (a3, b3, c3, d3')]) (.bl (decide (Q = (a3, b3, c3, d3')))) := af.eq (tN _ _ _ _ _ _ _ _) (congrArg D.bl (Aa pQ p3))
      refine gz decl_name% (by show (([O.1, O.2.1, O.2.2.1, O.2.2.2] : List Int).any fun n => n != 0) = true; rw [wf, decide_eq_false hO]; rfl) (bt (bR (b7 decl_name% (bJ (aV decl_name% hT5) df) rfl hSm)) ?_)
      refine bq (fZ (cI decl_name% (cI (dh (x := .bl (decide (Q = (a3, b3, c3, d3')))) (y := .bl (decide ((a3, b3, c3, d3') = Q))) decl_name% (dh (x := dq (a3, b3, c3, d3')) (y := dq Q) (aV decl_name% hTo5) decl_name% (decl_name%.eq (xr _ _))) (decl_name%.eq ?_)) fY))) rfl (dU (dF (aV decl_name% hNo)))
      rw [show decide ((a3, b3, c3, d3') = Q) = decide (Q = (a3, b3, c3, d3')) from decide_eq_decide.mpr eq_comm]
      cases decide (Q = (a3, b3, c3, d3')) <;> rfl
  have w4 : ∀ {t : Int}, t.natAbs <= 2 ^ 67 -> t.natAbs <= 2 ^ 68 /\ (t + 1).natAbs <= 2 ^ 68 := fun h => by
    have e67 : (2 : Nat) ^ 68 = 2 ^ 67 + 2 ^ 67 := rfl
    have : 1 <= 2 ^ 67 := by decide
    generalize (2 : Nat) ^ 67 = M at *
    omega
  obtain ⟨q1, q2, q3, q4⟩ := l1
  have hc : kk = 0 \/ kk = 1 \/ kk = 2 \/ kk = 3 := by omega
  rcases hc with rfl | rfl | rfl | rfl
  . exact bt (bR (d := dq (k * Q.1 + 1, k * Q.2.1, k * Q.2.2.1, k * Q.2.2.2)) decl_name%) (cG (ai rfl (ai rfl (ai rfl (ai rfl (ai rfl (ai rfl aM)))))) (fin (k * Q.1 + 1, k * Q.2.1, k * Q.2.2.1, k * Q.2.2.2) ⟨(w4 q1).2, (w4 q2).1, (w4 q3).1, (w4 q4).1⟩))
  . exact bt (bR (d := dq (k * Q.1, k * Q.2.1 + 1, k * Q.2.2.1, k * Q.2.2.2)) decl_name%) (cG (ai rfl (ai rfl (ai rfl (ai rfl (ai rfl (ai rfl aM)))))) (fin (k * Q.1, k * Q.2.1 + 1, k * Q.2.2.1, k * Q.2.2.2) ⟨(w4 q1).1, (w4 q2).2, (w4 q3).1, (w4 q4).1⟩))
  . exact bt (bR (d := dq (k * Q.1, k * Q.2.1, k * Q.2.2.1 + 1, k * Q.2.2.2)) decl_name%) (cG (ai rfl (ai rfl (ai rfl (ai rfl (ai rfl (ai rfl aM)))))) (fin (k * Q.1, k * Q.2.1, k * Q.2.2.1 + 1, k * Q.2.2.2) ⟨(w4 q1).1, (w4 q2).1, (w4 q3).2, (w4 q4).1⟩))
  . exact bt (bR (d := dq (k * Q.1, k * Q.2.1, k * Q.2.2.1, k * Q.2.2.2 + 1)) decl_name%) (cG (ai rfl (ai rfl (ai rfl (ai rfl (ai rfl (ai rfl aM)))))) (fin (k * Q.1, k * Q.2.1, k * Q.2.2.1, k * Q.2.2.2 + 1) ⟨(w4 q1).1, (w4 q2).1, (w4 q3).1, (w4 q4).2⟩))
theorem Ea : aD (au (ae (ah 35))) ["_law_script", "_law_k"] (ae (ah 35)) := ⟨rfl, rfl, rfl, by decide +kernel, by decide +kernel, by decide +kernel, by decide +kernel⟩
theorem D7 : aD (au (ae (ah 38))) ["_law_cell_here", "_law_kind"] (ae (ah 38)) := ⟨rfl, rfl, rfl, by decide +kernel, by decide +kernel, by decide +kernel, by decide +kernel⟩
theorem D6 : aD (au (ae (ah 39))) ["_law_script", "_law_at", "_law_many"] (ae (ah 39)) := ⟨rfl, rfl, rfl, by decide +kernel, by decide +kernel, by decide +kernel, by decide +kernel⟩
theorem DW : aD (au (ae (ah 48))) ["_law_script", "_law_at"] (ae (ah 48)) := ⟨rfl, rfl, rfl, by decide +kernel, by decide +kernel, by decide +kernel, by decide +kernel⟩
theorem D2 : aD (au (ae (ah 43))) ["_law_numbers_here"] (ae (ah 43)) := ⟨rfl, rfl, rfl, by decide +kernel, by decide +kernel, by decide +kernel, by decide +kernel⟩
theorem D4 : aD (au (ae (ah 41))) ["_law_one", "_law_other"] (ae (ah 41)) := ⟨rfl, rfl, rfl, by decide +kernel, by decide +kernel, by decide +kernel, by decide +kernel⟩
theorem D3 : aD (au (ae (ah 42))) ["_law_numbers_here"] (ae (ah 42)) := ⟨rfl, rfl, rfl, by decide +kernel, by decide +kernel, by decide +kernel, by decide +kernel⟩
theorem D5 : aD (au (ae (ah 40))) ["_law_numbers_here"] (ae (ah 40)) := ⟨rfl, rfl, rfl, by decide +kernel, by decide +kernel, by decide +kernel, by decide +kernel⟩
theorem DV : aD (au (ae (ah 49))) ["_law_numbers_here"] (ae (ah 49)) := ⟨rfl, rfl, rfl, by decide +kernel, by decide +kernel, by decide +kernel, by decide +kernel⟩
theorem DU : aD (au (ae (ah 50))) ["_law_error"] (ae (ah 50)) := ⟨rfl, rfl, rfl, by decide +kernel, by decide +kernel, by decide +kernel, by decide +kernel⟩
theorem Eh : aD (au (ae (ah 19))) ["one", "other"] (ae (ah 19)) := ⟨rfl, rfl, rfl, by decide +kernel, by decide +kernel, by decide +kernel, by decide +kernel⟩
theorem Ei : aD (au (ae (ah 18))) ["numbers"] (ae (ah 18)) := ⟨rfl, rfl, rfl, by decide +kernel, by decide +kernel, by decide +kernel, by decide +kernel⟩
theorem Eg : aD (au (ae (ah 20))) ["numbers", "divisor"] (ae (ah 20)) := ⟨rfl, rfl, rfl, by decide +kernel, by decide +kernel, by decide +kernel, by decide +kernel⟩
theorem AE : aD (au (ae (ah 21))) ["numbers"] (ae (ah 21)) := ⟨rfl, rfl, rfl, by decide +kernel, by decide +kernel, by decide +kernel, by decide +kernel⟩
theorem Ee : aD (au (ae (ah 24))) ["table"] (ae (ah 24)) := ⟨rfl, rfl, rfl, by decide +kernel, by decide +kernel, by decide +kernel, by decide +kernel⟩
theorem AC : aD (au (ae (ah 26))) ["numbers"] (ae (ah 26)) := ⟨rfl, rfl, rfl, by decide +kernel, by decide +kernel, by decide +kernel, by decide +kernel⟩
theorem AB : aD (au (ae (ax (ah 29) 0))) ["self", "word", "row", "fractions"] (ae (ax (ah 29) 0)) := ⟨rfl, rfl, rfl, by decide +kernel, by decide +kernel, by decide +kernel, by decide +kernel⟩
theorem tM : aD (au (ae (ax (ah 30) 0))) ["self", "numbers"] (ae (ax (ah 30) 0)) := ⟨rfl, rfl, rfl, by decide +kernel, by decide +kernel, by decide +kernel, by decide +kernel⟩
theorem DT : aD (au (ae (ah 51))) [] (ae (ah 51)) := ⟨rfl, rfl, rfl, by decide +kernel, by decide +kernel, by decide +kernel, by decide +kernel⟩
theorem D9 : aD (au (ae (ah 36))) ["_law_x"] (ae (ah 36)) := ⟨rfl, rfl, rfl, by decide +kernel, by decide +kernel, by decide +kernel, by decide +kernel⟩
theorem D8 : aD (au (ae (ah 37))) ["_law_found", "_law_many"] (ae (ah 37)) := ⟨rfl, rfl, rfl, by decide +kernel, by decide +kernel, by decide +kernel, by decide +kernel⟩
theorem D1 : aD (au (ae (ah 44))) ["_law_found"] (ae (ah 44)) := ⟨rfl, rfl, rfl, by decide +kernel, by decide +kernel, by decide +kernel, by decide +kernel⟩
theorem DZ : aD (au (ae (ah 45))) ["_law_found", "_law_n", "_law_rows_here"] (ae (ah 45)) := ⟨rfl, rfl, rfl, by decide +kernel, by decide +kernel, by decide +kernel, by decide +kernel⟩
theorem DX : aD (au (ae (ah 47))) ["_law_found", "_law_n", "_law_brought_here"] (ae (ah 47)) := ⟨rfl, rfl, rfl, by decide +kernel, by decide +kernel, by decide +kernel, by decide +kernel⟩
theorem DY : aD (au (ae (ah 46))) ["_law_rows_here", "_law_spot_here"] (ae (ah 46)) := ⟨rfl, rfl, rfl, by decide +kernel, by decide +kernel, by decide +kernel, by decide +kernel⟩
theorem Eb : aD (au (ae (ah 33))) ["axis"] (ae (ah 33)) := ⟨rfl, rfl, rfl, by decide +kernel, by decide +kernel, by decide +kernel, by decide +kernel⟩
theorem Ek : aD (au (ae (ah 14))) ["one"] (ae (ah 14)) := ⟨rfl, rfl, rfl, by decide +kernel, by decide +kernel, by decide +kernel, by decide +kernel⟩
theorem Av : aD (au (ae (ax (ah 32) 0))) ["self", "axis"] (ae (ax (ah 32) 0)) := ⟨rfl, rfl, rfl, by decide +kernel, by decide +kernel, by decide +kernel, by decide +kernel⟩
theorem Ef : aD (au (ae (ah 22))) ["one", "other"] (ae (ah 22)) := ⟨rfl, rfl, rfl, by decide +kernel, by decide +kernel, by decide +kernel, by decide +kernel⟩
theorem Ec : aD (au (ae (ah 27))) ["rows", "other"] (ae (ah 27)) := ⟨rfl, rfl, rfl, by decide +kernel, by decide +kernel, by decide +kernel, by decide +kernel⟩
theorem Ed : aD (au (ae (ah 25))) ["table", "spot"] (ae (ah 25)) := ⟨rfl, rfl, rfl, by decide +kernel, by decide +kernel, by decide +kernel, by decide +kernel⟩
theorem oz : aD (au (ae (ax (ah 29) 2))) ["self", "spot"] (ae (ax (ah 29) 2)) := ⟨rfl, rfl, rfl, by decide +kernel, by decide +kernel, by decide +kernel, by decide +kernel⟩
theorem Ej : aD (au (ae (ah 16))) ["four"] (ae (ah 16)) := ⟨rfl, rfl, rfl, by decide +kernel, by decide +kernel, by decide +kernel, by decide +kernel⟩
theorem Ay : aD (au (ae (ax (ah 30) 2))) ["self"] (ae (ax (ah 30) 2)) := ⟨rfl, rfl, rfl, by decide +kernel, by decide +kernel, by decide +kernel, by decide +kernel⟩
theorem oA : aD (au (ae (ax (ah 29) 1))) ["self"] (ae (ax (ah 29) 1)) := ⟨rfl, rfl, rfl, by decide +kernel, by decide +kernel, by decide +kernel, by decide +kernel⟩
theorem ou : aD (au (ae (ax (ah 29) 3))) ["self", "other"] (ae (ax (ah 29) 3)) := ⟨rfl, rfl, rfl, by decide +kernel, by decide +kernel, by decide +kernel, by decide +kernel⟩
theorem Az : aD (au (ae (ax (ah 30) 1))) ["self"] (ae (ax (ah 30) 1)) := ⟨rfl, rfl, rfl, by decide +kernel, by decide +kernel, by decide +kernel, by decide +kernel⟩
theorem Ax : aD (au (ae (ax (ah 31) 0))) ["self", "axis"] (ae (ax (ah 31) 0)) := ⟨rfl, rfl, rfl, by decide +kernel, by decide +kernel, by decide +kernel, by decide +kernel⟩
theorem Aw : aD (au (ae (ax (ah 31) 2))) ["self"] (ae (ax (ah 31) 2)) := ⟨rfl, rfl, rfl, by decide +kernel, by decide +kernel, by decide +kernel, by decide +kernel⟩
theorem Au : aD (au (ae (ax (ah 32) 2))) ["self"] (ae (ax (ah 32) 2)) := ⟨rfl, rfl, rfl, by decide +kernel, by decide +kernel, by decide +kernel, by decide +kernel⟩
theorem DS : aD (au (ae (ah 52))) ["_law_script"] (ae (ah 52)) := ⟨rfl, rfl, rfl, by decide +kernel, by decide +kernel, by decide +kernel, by decide +kernel⟩
theorem aZ : ∀ p ∈ BL, gi p := ag (Pr := gi) (zC) (ag (Pr := gi) (uP) (ag (Pr := gi) (v4) (ag (Pr := gi) (zI) (ag (Pr := gi) (zH) (ag (Pr := gi) (v9) (ag (Pr := gi) (zA) (ag (Pr := gi) (zD) (ag (Pr := gi) (zF) (aj)))))))))
theorem aY : ∀ p ∈ IL, qj p := ag (Pr := qj) (ur) (ag (Pr := qj) (vM) (aj))
theorem aX : ∀ p ∈ ML, wu p := aj
theorem aW : ∀ p ∈ TL, sV p := ag (Pr := sV) (so) (aj)
theorem cL {P : Program} {w : World} {k0 : W.Frag} {mg : Str -> Option Value} {base : Heap} {j k : Nat} {g : Str} {F : List D -> Rs D} {l : List (Str × (List D -> Rs D))} (h : cD P w k0 mg base j g F) (t : ∀ p ∈ l, nG P w k0 mg base k p) (hj : j <= k := by decide) : ∀ p ∈ (g, F) :: l, nG P w k0 mg base k p := ag (Pr := nG P w k0 mg base k) (Or.inl (h.mono hj)) t
theorem cR {P : Program} {w : World} {k0 : W.Frag} {mg : Str -> Option Value} {base : Heap} {j k : Nat} {g : Str} {F : List D -> Rs D} {l : List (Str × (List D -> Rs D))} (h : lS P w k0 mg base j g F) (t : ∀ p ∈ l, nG P w k0 mg base k p) (hj : j <= k := by decide) : ∀ p ∈ (g, F) :: l, nG P w k0 mg base k p := ag (Pr := nG P w k0 mg base k) (Or.inr (h.mono hj)) t
theorem all_mk {l : W.OpenLaw} {w : World} {K : W.Frag} {h : Heap} {mg : Str -> Option Value} {fa f35 f38 f39 f48 f43 f41 f42 f40 f49 f50 f19 f18 f20 f21 f24 f26 Hr GM f51 f36 f37 f44 f45 f47 f46 f33 f14 GK f22 f27 f25 FS f16 Ho FT FR Hq GL Hn Hm f52 Fo Fk Fm Ft : Addr} (X : K.In h) (G : h.Ns mainGlobals mg) (hfa : mg "law" = some (.ref fa))
    {NQ QL NN QI NM QH ND Qy NI QD NK QF NJ QE NL QG NC Qx NB Qw NZ QU N0 QV NY QT NX QS NV QQ NT QO Kc LK J8 LG NA Qv NP QK NO QJ NH QC NG QB NE Qz NF QA NR QM N2 QX JX LB NW QR NS QN NU QP Ka LI N1 QW J0 LE Kb LJ J9 LH J1 LF JZ LD JY LC JW LA Nz Lz : Option Addr} {MN MJ MI Mz ME MG MF MH Mx Mw MW MX MV MU MS MQ JJ JF Mv MM MK MD MC MA MB MO MZ JA MT MP MR JH MY JD JI JG JE JC JB Jz Mu : Array (Option Value)} {Ol OS Px Ni Ll Qh Oh OP Pu Nf Li Qe Og OO Pt Nd Lh Qc N7 OF Pi M4 K8 PZ Oc OK Po M9 Ld P8 Oe OM Pq Nb Lf Qa Od OL Pp Na Le P9 Of ON Ps Nc Lg Qb N6 OE Ph M3 K7 PY N5 OC Pg M2 K6 PX Ov O1 PK Nr Lv Qr Ox O6 PL Nt Lw Qs Ou O0 PJ Nq Lu Qq Ot OZ PH Np Ls Qp Oq OX PD Nn Lq Qn Oo OV PB Nl Lo Qk Ko KB KP JV IY K4 Kk Kx KL JR IT KZ N4 OB Pf M1 K5 PV Oj OR Pw Nh Lk Qg Oi OQ Pv Ng Lj Qf Ob OJ Pn M8 Lc P7 Oa OI Pl M7 Lb P6 N8 OG Pj M5 K9 P4 N9 OH Pk M6 La P5 Om OT Py Nj Lm Qi Oz O8 PN Nv Ly Qu Kf Ks KE JM IO KS Os OY PF No Lr Qo On OU Pz Nk Ln Qj Op OW PC Nm Lp Ql Km Kz KN JT IV K2 Oy O7 PM Nu Lx Qt Ki Kv KJ JP IR KW Kn KA KO JU IW K3 Kl Ky KM JS IU K1 Kj Kw KK JQ IS KY Kh Ku KH JO IQ KU Kg Kt KG JN IP KT Ke Kr KD JL IN KR N3 Kq KC JK Jf KQ : Value}
    (Fs : W.nsIn K mainGlobals "Turn" = some (some (.ref Fo)))
    (Jv : W.plainGet K Fo Str.empty = true)
    (Jw : W.hasDictIn K Fo = true)
    (Ju : W.plainOver K Fo = true)
    (Jt : W.findIn K (.ref Fo) "__setattr__" = some (some (.builtin "object.__setattr__")))
    (HX : W.makesIn K Fo = true)
    (HE : W.findIn K (.ref Fo) "__init__" = some (some (.ref GM)))
    (HG : W.isFn K (.ref GM) = true)
    (HI : W.keepIn K (.ref Fo) = true)
    (Hv : W.findIn K (.ref Fo) "word" = some none)
    (Gj : W.findIn K (.ref Fo) "row" = some none)
    (FL : W.findIn K (.ref Fo) "fractions" = some none)
    (Fp : W.nsIn K mainGlobals "HalfTurn" = some (some (.ref Fk)))
    (HP : W.plainGet K Fk Str.empty = true)
    (HR : W.hasDictIn K Fk = true)
    (HN : W.plainOver K Fk = true)
    (HM : W.findIn K (.ref Fk) "__setattr__" = some (some (.builtin "object.__setattr__")))
    (HQ : W.makesIn K Fk = true)
    (HF : W.findIn K (.ref Fk) "__init__" = some (some (.ref GL)))
    (HH : W.isFn K (.ref GL) = true)
    (HJ : W.keepIn K (.ref Fk) = true)
    (Gm : W.findIn K (.ref Fk) "word" = some none)
    (FQ : W.findIn K (.ref Fk) "row" = some none)
    (FB : W.findIn K (.ref Fk) "fractions" = some none)
    (Fq : W.nsIn K mainGlobals "Mirror" = some (some (.ref Fm)))
    (IJ : W.plainGet K Fm Str.empty = true)
    (IM : W.hasDictIn K Fm = true)
    (II : W.plainOver K Fm = true)
    (IH : W.findIn K (.ref Fm) "__setattr__" = some (some (.builtin "object.__setattr__")))
    (IK : W.makesIn K Fm = true)
    (Ib : W.findIn K (.ref Fm) "__init__" = some (some (.ref GK)))
    (Ic : W.isFn K (.ref GK) = true)
    (Id : W.keepIn K (.ref Fm) = true)
    (GT : W.findIn K (.ref Fm) "word" = some none)
    (FW : W.findIn K (.ref Fm) "row" = some none)
    (FD : W.findIn K (.ref Fm) "fractions" = some none)
    (Go : W.findIn K (.ref Fk) "back" = some (some (.ref Hn))) (Gq : W.isFn K (.ref Hn) = true)
    (Gg : W.findIn K (.ref Fk) "place" = some (some (.ref FS))) (Gi : W.isFn K (.ref FS) = true)
    (Gn : W.findIn K (.ref Fk) "same" = some (some (.ref FR))) (Gp : W.isFn K (.ref FR) = true)
    (Gf : W.findIn K (.ref Fk) "table" = some (some (.ref FT))) (Gh : W.isFn K (.ref FT) = true)
    (GW : W.findIn K (.ref Fm) "back" = some (some (.ref Hm))) (GZ : W.isFn K (.ref Hm) = true)
    (GG : W.findIn K (.ref Fm) "place" = some (some (.ref FS))) (GI : W.isFn K (.ref FS) = true)
    (GV : W.findIn K (.ref Fm) "same" = some (some (.ref FR))) (GY : W.isFn K (.ref FR) = true)
    (GF : W.findIn K (.ref Fm) "table" = some (some (.ref FT))) (GH : W.isFn K (.ref FT) = true)
    (Hx : W.findIn K (.ref Fo) "back" = some (some (.ref Ho))) (Hz : W.isFn K (.ref Ho) = true)
    (GU : W.findIn K (.ref Fo) "number" = some (some (.ref Hq))) (GX : W.isFn K (.ref Hq) = true)
    (Hc : W.findIn K (.ref Fo) "place" = some (some (.ref FS))) (He : W.isFn K (.ref FS) = true)
    (Hw : W.findIn K (.ref Fo) "same" = some (some (.ref FR))) (Hy : W.isFn K (.ref FR) = true)
    (Hb : W.findIn K (.ref Fo) "table" = some (some (.ref FT))) (Hd : W.isFn K (.ref FT) = true)
    (Fy : W.nsIn K mainGlobals "Deed" = some (some (.ref Ft))) (Gc : W.specialIn K (.ref Ft) "__getattribute__" = some (some (.builtin "type.__getattribute__"))) (F3 : W.readsIn K Ft (.type "type") = true) (Ge : W.findCls K (.ref Ft) (.type "type") "__init__" = some (.val (.ref Hr)))
    (a35 : W.nsIn K mainGlobals "_law_cell" = some (some (.ref f35)))    (l35 : K.lookup f35 = some ⟨Ol, NQ, .func (W.fnOf "_law_cell" "_law_cell" (aI (ah 35)) (ar (ah 35)) (ae (ah 35)) .none OS Px Ni QL Ll Qh), MN⟩) (c35 : W.codeIn K Ll "_law_cell" = true) (k35 : W.keepIn K (.ref f35) = true)
    (a38 : W.nsIn K mainGlobals "_law_number" = some (some (.ref f38)))    (l38 : K.lookup f38 = some ⟨Oh, NN, .func (W.fnOf "_law_number" "_law_number" (aI (ah 38)) (ar (ah 38)) (ae (ah 38)) .none OP Pu Nf QI Li Qe), MJ⟩) (c38 : W.codeIn K Li "_law_number" = true) (k38 : W.keepIn K (.ref f38) = true)
    (a39 : W.nsIn K mainGlobals "_law_numbers" = some (some (.ref f39)))    (l39 : K.lookup f39 = some ⟨Og, NM, .func (W.fnOf "_law_numbers" "_law_numbers" (aI (ah 39)) (ar (ah 39)) (ae (ah 39)) .none OO Pt Nd QH Lh Qc), MI⟩) (c39 : W.codeIn K Lh "_law_numbers" = true) (k39 : W.keepIn K (.ref f39) = true)
    (a48 : W.nsIn K mainGlobals "_law_spot" = some (some (.ref f48)))    (l48 : K.lookup f48 = some ⟨N7, ND, .func (W.fnOf "_law_spot" "_law_spot" (aI (ah 48)) (ar (ah 48)) (ae (ah 48)) .none OF Pi M4 Qy K8 PZ), Mz⟩) (c48 : W.codeIn K K8 "_law_spot" = true) (k48 : W.keepIn K (.ref f48) = true)
    (a43 : W.nsIn K mainGlobals "_law_squares" = some (some (.ref f43)))    (l43 : K.lookup f43 = some ⟨Oc, NI, .func (W.fnOf "_law_squares" "_law_squares" (aI (ah 43)) (ar (ah 43)) (ae (ah 43)) .none OK Po M9 QD Ld P8), ME⟩) (c43 : W.codeIn K Ld "_law_squares" = true) (k43 : W.keepIn K (.ref f43) = true)
    (a41 : W.nsIn K mainGlobals "_law_product" = some (some (.ref f41)))    (l41 : K.lookup f41 = some ⟨Oe, NK, .func (W.fnOf "_law_product" "_law_product" (aI (ah 41)) (ar (ah 41)) (ae (ah 41)) .none OM Pq Nb QF Lf Qa), MG⟩) (c41 : W.codeIn K Lf "_law_product" = true) (k41 : W.keepIn K (.ref f41) = true)
    (a42 : W.nsIn K mainGlobals "_law_rows" = some (some (.ref f42)))    (l42 : K.lookup f42 = some ⟨Od, NJ, .func (W.fnOf "_law_rows" "_law_rows" (aI (ah 42)) (ar (ah 42)) (ae (ah 42)) .none OL Pp Na QE Le P9), MF⟩) (c42 : W.codeIn K Le "_law_rows" = true) (k42 : W.keepIn K (.ref f42) = true)
    (a40 : W.nsIn K mainGlobals "_law_divisor" = some (some (.ref f40)))    (l40 : K.lookup f40 = some ⟨Of, NL, .func (W.fnOf "_law_divisor" "_law_divisor" (aI (ah 40)) (ar (ah 40)) (ae (ah 40)) .none ON Ps Nc QG Lg Qb), MH⟩) (c40 : W.codeIn K Lg "_law_divisor" = true) (k40 : W.keepIn K (.ref f40) = true)
    (a49 : W.nsIn K mainGlobals "_law_told" = some (some (.ref f49)))    (l49 : K.lookup f49 = some ⟨N6, NC, .func (W.fnOf "_law_told" "_law_told" (aI (ah 49)) (ar (ah 49)) (ae (ah 49)) .none OE Ph M3 Qx K7 PY), Mx⟩) (c49 : W.codeIn K K7 "_law_told" = true) (k49 : W.keepIn K (.ref f49) = true)
    (a50 : W.nsIn K mainGlobals "_law_kinds" = some (some (.ref f50)))    (l50 : K.lookup f50 = some ⟨N5, NB, .func (W.fnOf "_law_kinds" "_law_kinds" (aI (ah 50)) (ar (ah 50)) (ae (ah 50)) .none OC Pg M2 Qw K6 PX), Mw⟩) (c50 : W.codeIn K K6 "_law_kinds" = true) (k50 : W.keepIn K (.ref f50) = true)
    (a19 : W.nsIn K mainGlobals "shared_by" = some (some (.ref f19)))    (l19 : K.lookup f19 = some ⟨Ov, NZ, .func (W.fnOf "shared_by" "shared_by" (aI (ah 19)) (ar (ah 19)) (ae (ah 19)) .none O1 PK Nr QU Lv Qr), MW⟩) (c19 : W.codeIn K Lv "shared_by" = true) (k19 : W.keepIn K (.ref f19) = true)
    (a18 : W.nsIn K mainGlobals "common_divisor" = some (some (.ref f18)))    (l18 : K.lookup f18 = some ⟨Ox, N0, .func (W.fnOf "common_divisor" "common_divisor" (aI (ah 18)) (ar (ah 18)) (ae (ah 18)) .none O6 PL Nt QV Lw Qs), MX⟩) (c18 : W.codeIn K Lw "common_divisor" = true) (k18 : W.keepIn K (.ref f18) = true)
    (a20 : W.nsIn K mainGlobals "shortened" = some (some (.ref f20)))    (l20 : K.lookup f20 = some ⟨Ou, NY, .func (W.fnOf "shortened" "shortened" (aI (ah 20)) (ar (ah 20)) (ae (ah 20)) .none O0 PJ Nq QT Lu Qq), MV⟩) (c20 : W.codeIn K Lu "shortened" = true) (k20 : W.keepIn K (.ref f20) = true)
    (a21 : W.nsIn K mainGlobals "upright" = some (some (.ref f21)))    (l21 : K.lookup f21 = some ⟨Ot, NX, .func (W.fnOf "upright" "upright" (aI (ah 21)) (ar (ah 21)) (ae (ah 21)) .none OZ PH Np QS Ls Qp), MU⟩) (c21 : W.codeIn K Ls "upright" = true) (k21 : W.keepIn K (.ref f21) = true)
    (a24 : W.nsIn K mainGlobals "lowest" = some (some (.ref f24)))    (l24 : K.lookup f24 = some ⟨Oq, NV, .func (W.fnOf "lowest" "lowest" (aI (ah 24)) (ar (ah 24)) (ae (ah 24)) .none OX PD Nn QQ Lq Qn), MS⟩) (c24 : W.codeIn K Lq "lowest" = true) (k24 : W.keepIn K (.ref f24) = true)
    (a26 : W.nsIn K mainGlobals "table_of" = some (some (.ref f26)))    (l26 : K.lookup f26 = some ⟨Oo, NT, .func (W.fnOf "table_of" "table_of" (aI (ah 26)) (ar (ah 26)) (ae (ah 26)) .none OV PB Nl QO Lo Qk), MQ⟩) (c26 : W.codeIn K Lo "table_of" = true) (k26 : W.keepIn K (.ref f26) = true)
    (LX : K.lookup Hr = some ⟨Ko, Kc, .func (W.fnOf "__init__" "Deed.__init__" (aI (ax (ah 29) 0)) (ar (ax (ah 29) 0)) (ae (ax (ah 29) 0)) .none KB KP JV LK IY K4), JJ⟩) (Md : W.codeIn K IY "Deed.__init__" = true) (GJ : W.keepIn K (.ref Hr) = true)
    (LT : K.lookup GM = some ⟨Kk, J8, .func (W.fnOf "__init__" "Turn.__init__" (aI (ax (ah 30) 0)) (ar (ax (ah 30) 0)) (ae (ax (ah 30) 0)) .none Kx KL JR LG IT KZ), JF⟩) (L9 : W.codeIn K IT "Turn.__init__" = true) (L0 : W.keepIn K (.ref GM) = true)
    (a51 : W.nsIn K mainGlobals "_law_nought" = some (some (.ref f51)))    (l51 : K.lookup f51 = some ⟨N4, NA, .func (W.fnOf "_law_nought" "_law_nought" (aI (ah 51)) (ar (ah 51)) (ae (ah 51)) .none OB Pf M1 Qv K5 PV), Mv⟩) (c51 : W.codeIn K K5 "_law_nought" = true) (k51 : W.keepIn K (.ref f51) = true)
    (a36 : W.nsIn K mainGlobals "_law_whole" = some (some (.ref f36)))    (l36 : K.lookup f36 = some ⟨Oj, NP, .func (W.fnOf "_law_whole" "_law_whole" (aI (ah 36)) (ar (ah 36)) (ae (ah 36)) .none OR Pw Nh QK Lk Qg), MM⟩) (c36 : W.codeIn K Lk "_law_whole" = true) (k36 : W.keepIn K (.ref f36) = true)
    (a37 : W.nsIn K mainGlobals "_law_tuple" = some (some (.ref f37)))    (l37 : K.lookup f37 = some ⟨Oi, NO, .func (W.fnOf "_law_tuple" "_law_tuple" (aI (ah 37)) (ar (ah 37)) (ae (ah 37)) .none OQ Pv Ng QJ Lj Qf), MK⟩) (c37 : W.codeIn K Lj "_law_tuple" = true) (k37 : W.keepIn K (.ref f37) = true)
    (a44 : W.nsIn K mainGlobals "_law_is_table" = some (some (.ref f44)))    (l44 : K.lookup f44 = some ⟨Ob, NH, .func (W.fnOf "_law_is_table" "_law_is_table" (aI (ah 44)) (ar (ah 44)) (ae (ah 44)) .none OJ Pn M8 QC Lc P7), MD⟩) (c44 : W.codeIn K Lc "_law_is_table" = true) (k44 : W.keepIn K (.ref f44) = true)
    (a45 : W.nsIn K mainGlobals "_law_stands" = some (some (.ref f45)))    (l45 : K.lookup f45 = some ⟨Oa, NG, .func (W.fnOf "_law_stands" "_law_stands" (aI (ah 45)) (ar (ah 45)) (ae (ah 45)) .none OI Pl M7 QB Lb P6), MC⟩) (c45 : W.codeIn K Lb "_law_stands" = true) (k45 : W.keepIn K (.ref f45) = true)
    (a47 : W.nsIn K mainGlobals "_law_place" = some (some (.ref f47)))    (l47 : K.lookup f47 = some ⟨N8, NE, .func (W.fnOf "_law_place" "_law_place" (aI (ah 47)) (ar (ah 47)) (ae (ah 47)) .none OG Pj M5 Qz K9 P4), MA⟩) (c47 : W.codeIn K K9 "_law_place" = true) (k47 : W.keepIn K (.ref f47) = true)
    (a46 : W.nsIn K mainGlobals "_law_brought" = some (some (.ref f46)))    (l46 : K.lookup f46 = some ⟨N9, NF, .func (W.fnOf "_law_brought" "_law_brought" (aI (ah 46)) (ar (ah 46)) (ae (ah 46)) .none OH Pk M6 QA La P5), MB⟩) (c46 : W.codeIn K La "_law_brought" = true) (k46 : W.keepIn K (.ref f46) = true)
    (a33 : W.nsIn K mainGlobals "half_table" = some (some (.ref f33)))    (l33 : K.lookup f33 = some ⟨Om, NR, .func (W.fnOf "half_table" "half_table" (aI (ah 33)) (ar (ah 33)) (ae (ah 33)) .none OT Py Nj QM Lm Qi), MO⟩) (c33 : W.codeIn K Lm "half_table" = true) (k33 : W.keepIn K (.ref f33) = true)
    (a14 : W.nsIn K mainGlobals "opposite" = some (some (.ref f14)))    (l14 : K.lookup f14 = some ⟨Oz, N2, .func (W.fnOf "opposite" "opposite" (aI (ah 14)) (ar (ah 14)) (ae (ah 14)) .none O8 PN Nv QX Ly Qu), MZ⟩) (c14 : W.codeIn K Ly "opposite" = true) (k14 : W.keepIn K (.ref f14) = true)
    (LO : K.lookup GK = some ⟨Kf, JX, .func (W.fnOf "__init__" "Mirror.__init__" (aI (ax (ah 32) 0)) (ar (ax (ah 32) 0)) (ae (ax (ah 32) 0)) .none Ks KE JM LB IO KS), JA⟩) (L4 : W.codeIn K IO "Mirror.__init__" = true) (LY : W.keepIn K (.ref GK) = true)
    (a22 : W.nsIn K mainGlobals "added_products" = some (some (.ref f22)))    (l22 : K.lookup f22 = some ⟨Os, NW, .func (W.fnOf "added_products" "added_products" (aI (ah 22)) (ar (ah 22)) (ae (ah 22)) .none OY PF No QR Lr Qo), MT⟩) (c22 : W.codeIn K Lr "added_products" = true) (k22 : W.keepIn K (.ref f22) = true)
    (a27 : W.nsIn K mainGlobals "each_with" = some (some (.ref f27)))    (l27 : K.lookup f27 = some ⟨On, NS, .func (W.fnOf "each_with" "each_with" (aI (ah 27)) (ar (ah 27)) (ae (ah 27)) .none OU Pz Nk QN Ln Qj), MP⟩) (c27 : W.codeIn K Ln "each_with" = true) (k27 : W.keepIn K (.ref f27) = true)
    (a25 : W.nsIn K mainGlobals "place_by" = some (some (.ref f25)))    (l25 : K.lookup f25 = some ⟨Op, NU, .func (W.fnOf "place_by" "place_by" (aI (ah 25)) (ar (ah 25)) (ae (ah 25)) .none OW PC Nm QP Lp Ql), MR⟩) (c25 : W.codeIn K Lp "place_by" = true) (k25 : W.keepIn K (.ref f25) = true)
    (LV : K.lookup FS = some ⟨Km, Ka, .func (W.fnOf "place" "Deed.place" (aI (ax (ah 29) 2)) (ar (ax (ah 29) 2)) (ae (ax (ah 29) 2)) .none Kz KN JT LI IV K2), JH⟩) (Mb : W.codeIn K IV "Deed.place" = true) (Hk : W.keepIn K (.ref FS) = true)
    (a16 : W.nsIn K mainGlobals "other_signed" = some (some (.ref f16)))    (l16 : K.lookup f16 = some ⟨Oy, N1, .func (W.fnOf "other_signed" "other_signed" (aI (ah 16)) (ar (ah 16)) (ae (ah 16)) .none O7 PM Nu QW Lx Qt), MY⟩) (c16 : W.codeIn K Lx "other_signed" = true) (k16 : W.keepIn K (.ref f16) = true)
    (LR : K.lookup Ho = some ⟨Ki, J0, .func (W.fnOf "back" "Turn.back" (aI (ax (ah 30) 2)) (ar (ax (ah 30) 2)) (ae (ax (ah 30) 2)) .none Kv KJ JP LE IR KW), JD⟩) (L7 : W.codeIn K IR "Turn.back" = true) (Ji : W.keepIn K (.ref Ho) = true)
    (LW : K.lookup FT = some ⟨Kn, Kb, .func (W.fnOf "table" "Deed.table" (aI (ax (ah 29) 1)) (ar (ax (ah 29) 1)) (ae (ax (ah 29) 1)) .none KA KO JU LJ IW K3), JI⟩) (Mc : W.codeIn K IW "Deed.table" = true) (Hl : W.keepIn K (.ref FT) = true)
    (LU : K.lookup FR = some ⟨Kl, J9, .func (W.fnOf "same" "Deed.same" (aI (ax (ah 29) 3)) (ar (ax (ah 29) 3)) (ae (ax (ah 29) 3)) .none Ky KM JS LH IU K1), JG⟩) (Ma : W.codeIn K IU "Deed.same" = true) (Hj : W.keepIn K (.ref FR) = true)
    (LS : K.lookup Hq = some ⟨Kj, J1, .func (W.fnOf "number" "Turn.number" (aI (ax (ah 30) 1)) (ar (ax (ah 30) 1)) (ae (ax (ah 30) 1)) .none Kw KK JQ LF IS KY), JE⟩) (L8 : W.codeIn K IS "Turn.number" = true) (Jj : W.keepIn K (.ref Hq) = true)
    (LQ : K.lookup GL = some ⟨Kh, JZ, .func (W.fnOf "__init__" "HalfTurn.__init__" (aI (ax (ah 31) 0)) (ar (ax (ah 31) 0)) (ae (ax (ah 31) 0)) .none Ku KH JO LD IQ KU), JC⟩) (L6 : W.codeIn K IQ "HalfTurn.__init__" = true) (LZ : W.keepIn K (.ref GL) = true)
    (LP : K.lookup Hn = some ⟨Kg, JY, .func (W.fnOf "back" "HalfTurn.back" (aI (ax (ah 31) 2)) (ar (ax (ah 31) 2)) (ae (ax (ah 31) 2)) .none Kt KG JN LC IP KT), JB⟩) (L5 : W.codeIn K IP "HalfTurn.back" = true) (Jh : W.keepIn K (.ref Hn) = true)
    (LN : K.lookup Hm = some ⟨Ke, JW, .func (W.fnOf "back" "Mirror.back" (aI (ax (ah 32) 2)) (ar (ax (ah 32) 2)) (ae (ax (ah 32) 2)) .none Kr KD JL LA IN KR), Jz⟩) (L3 : W.codeIn K IN "Mirror.back" = true) (Jg : W.keepIn K (.ref Hm) = true)
    (a52 : W.nsIn K mainGlobals "law" = some (some (.ref f52)))    (l52 : K.lookup f52 = some ⟨N3, Nz, .func (W.fnOf "law" "law" (aI (ah 52)) (ar (ah 52)) (ae (ah 52)) .none Kq KC JK Lz Jf KQ), Mu⟩) (c52 : W.codeIn K Jf "law" = true) (k52 : W.keepIn K (.ref f52) = true)
    {F2 : Addr} (GP : W.nsIn K mainGlobals "Divided" = some (some (.ref F2)))
    {GE : Addr} (G9 : W.nsIn K mainGlobals "NoLine" = some (some (.ref GE)))
    {GC : Addr} (G8 : W.nsIn K mainGlobals "NoName" = some (some (.ref GC)))
    {F1 : Addr} (GO : W.nsIn K mainGlobals "NoOrder" = some (some (.ref F1)))
    {F0 : Addr} (GN : W.nsIn K mainGlobals "NoPrime" = some (some (.ref F0)))
    {GB : Addr} (G7 : W.nsIn K mainGlobals "NoSide" = some (some (.ref GB)))
    {GA : Addr} (G6 : W.nsIn K mainGlobals "NoText" = some (some (.ref GA)))
    {Gz : Addr} (G5 : W.nsIn K mainGlobals "NoTurn" = some (some (.ref Gz)))
    {Fu : Addr} (FZ : W.nsIn K mainGlobals "Nought" = some (some (.ref Fu)))
    {Fv : Addr} (FK : W.nsIn K mainGlobals "SpaceError" = some (some (.ref Fv)))
    {FV : Addr} (Gk : W.nsIn K mainGlobals "TooGreat" = some (some (.ref FV)))
    (Ia : ee K "Divided" F2 = true) (Ii : fF K F2 = true)
    (IG : ee K "NoLine" GE = true) (Jd : fF K GE = true)
    (IF : ee K "NoName" GC = true) (Jc : fF K GC = true)
    (HZ : ee K "NoOrder" F1 = true) (Ig : fF K F1 = true)
    (HY : ee K "NoPrime" F0 = true) (Ie : fF K F0 = true)
    (ID : ee K "NoSide" GB = true) (Jb : fF K GB = true)
    (IC : ee K "NoText" GA = true) (Ja : fF K GA = true)
    (IB : ee K "NoTurn" Gz = true) (I0 : fF K Gz = true)
    (IA : ee K "Nought" Fu = true) (IZ : fF K Fu = true)
    (Ha : ee K "SpaceError" Fv = true) (Hf : fF K Fv = true)
    (HL : ee K "TooGreat" FV = true) (HS : fF K FV = true)
    (xs0 : W.specialIn K (.builtin "object.__class__") "__get__" = some (some (.builtin "getset_descriptor.__get__"))) (xt0 : W.takesIn K (.builtin "object.__class__") = some true)
    (Iz : mw K Fu Fv = true) (Iy : W.findIn K (.ref Fu) "__getattribute__" = some (some (.builtin "BaseException.__getattribute__"))) (Ix : W.findIn K (.ref Fu) "__getattr__" = some none) (Iw : W.findIn K (.ref Fu) "__class__" = some (some (.builtin "object.__class__"))) (Iv : W.mroIn K Fu (.type "object") = some true) (Iu : W.exmOne K (.ref Fu) (.ref Fv) = some true)
    (Gb : W.findIn K (.ref Ft) "__class__" = some (some (.builtin "object.__class__"))) (F9 : W.specialIn K (.builtin "object.__class__") "__get__" = some (some (.builtin "getset_descriptor.__get__"))) (F7 : W.takesIn K (.builtin "object.__class__") = some true) (F5 : W.mroIn K Ft (.type "object") = some true)
    (Ga : W.findIn K (.ref Fo) "__class__" = some (some (.builtin "object.__class__"))) (F8 : W.specialIn K (.builtin "object.__class__") "__get__" = some (some (.builtin "getset_descriptor.__get__"))) (F6 : W.takesIn K (.builtin "object.__class__") = some true) (F4 : W.mroIn K Fo (.type "object") = some true)
    (FI : W.findIn K (.ref Fk) "__class__" = some (some (.builtin "object.__class__"))) (FH : W.specialIn K (.builtin "object.__class__") "__get__" = some (some (.builtin "getset_descriptor.__get__"))) (FG : W.takesIn K (.builtin "object.__class__") = some true) (FF : W.mroIn K Fk (.type "object") = some true)
    (FP : W.findIn K (.ref Fm) "__class__" = some (some (.builtin "object.__class__"))) (FO : W.specialIn K (.builtin "object.__class__") "__get__" = some (some (.builtin "getset_descriptor.__get__"))) (FN : W.takesIn K (.builtin "object.__class__") = some true) (FM : W.mroIn K Fm (.type "object") = some true)
    (HD : W.kitOne K (.ref Ft) (.ref Ft) = some (dj "Deed" "Deed"))
    (HC : W.kitOne K (.ref Fo) (.ref Ft) = some (dj "Turn" "Deed"))
    (Gx : W.kitOne K (.ref Fk) (.ref Ft) = some (dj "HalfTurn" "Deed"))
    (G3 : W.kitOne K (.ref Fm) (.ref Ft) = some (dj "Mirror" "Deed"))
    {Ny : Option Addr} {PU : Data} {Mt : Array (Option Value)} (lk0 : K.lookup Ft = some ⟨.type "type", Ny, PU, Mt⟩) (i10 : W.findIn K (.ref Ft) "__class__" = some (some (.builtin "object.__class__"))) (i20 : W.specialIn K (.builtin "object.__class__") "__get__" = some (some (.builtin "getset_descriptor.__get__"))) (i30 : W.takesIn K (.builtin "object.__class__") = some true) (i40 : W.mroIn K Ft (.type "object") = some true)
    (Gw : W.kitOne K (.ref Ft) (.ref Fk) = some (dj "Deed" "HalfTurn"))
    (Gv : W.kitOne K (.ref Fo) (.ref Fk) = some (dj "Turn" "HalfTurn"))
    (FU : W.kitOne K (.ref Fk) (.ref Fk) = some (dj "HalfTurn" "HalfTurn"))
    (FY : W.kitOne K (.ref Fm) (.ref Fk) = some (dj "Mirror" "HalfTurn"))
    {Nx : Option Addr} {PR : Data} {Ms : Array (Option Value)} (lk2 : K.lookup Fk = some ⟨.type "type", Nx, PR, Ms⟩) (i12 : W.findIn K (.ref Fk) "__class__" = some (some (.builtin "object.__class__"))) (i22 : W.specialIn K (.builtin "object.__class__") "__get__" = some (some (.builtin "getset_descriptor.__get__"))) (i32 : W.takesIn K (.builtin "object.__class__") = some true) (i42 : W.mroIn K Fk (.type "object") = some true)
    (G2 : W.kitOne K (.ref Ft) (.ref Fm) = some (dj "Deed" "Mirror"))
    (G1 : W.kitOne K (.ref Fo) (.ref Fm) = some (dj "Turn" "Mirror"))
    (FX : W.kitOne K (.ref Fk) (.ref Fm) = some (dj "HalfTurn" "Mirror"))
    (Gs : W.kitOne K (.ref Fm) (.ref Fm) = some (dj "Mirror" "Mirror"))
    {Nw : Option Addr} {PQ : Data} {Mr : Array (Option Value)} (lk3 : K.lookup Fm = some ⟨.type "type", Nw, PQ, Mr⟩) (i13 : W.findIn K (.ref Fm) "__class__" = some (some (.builtin "object.__class__"))) (i23 : W.specialIn K (.builtin "object.__class__") "__get__" = some (some (.builtin "getset_descriptor.__get__"))) (i33 : W.takesIn K (.builtin "object.__class__") = some true) (i43 : W.mroIn K Fm (.type "object") = some true)
    (HB : W.kitOne K (.ref Ft) (.ref Fo) = some (dj "Deed" "Turn"))
    (HA : W.kitOne K (.ref Fo) (.ref Fo) = some (dj "Turn" "Turn"))
    (Gr : W.kitOne K (.ref Fk) (.ref Fo) = some (dj "HalfTurn" "Turn"))
    (G0 : W.kitOne K (.ref Fm) (.ref Fo) = some (dj "Mirror" "Turn"))
    {LM : Option Addr} {L1 : Data} {LL : Array (Option Value)} (OA : K.lookup Fo = some ⟨.type "type", LM, L1, LL⟩) (Pd : W.findIn K (.ref Fo) "__class__" = some (some (.builtin "object.__class__"))) (Pc : W.specialIn K (.builtin "object.__class__") "__get__" = some (some (.builtin "getset_descriptor.__get__"))) (Pa : W.takesIn K (.builtin "object.__class__") = some true) (O9 : W.mroIn K Fo (.type "object") = some true)
    (z0 : W.nsIn K mainGlobals "len" = some none)    (z1 : W.nsIn K mainGlobals "tuple" = some none)    (z2 : W.nsIn K mainGlobals "list" = some none)    (z3 : W.nsIn K mainGlobals "abs" = some none)    (z4 : W.nsIn K mainGlobals "all" = some none)    (z5 : W.nsIn K mainGlobals "sum" = some none)    (z6 : W.nsIn K mainGlobals "isinstance" = some none)    (z7 : W.nsIn K mainGlobals "set" = some none)    (z8 : W.nsIn K mainGlobals "int" = some none)    (z9 : W.nsIn K mainGlobals "bool" = some none)    (z10 : W.nsIn K mainGlobals "str" = some none)    (z11 : W.nsIn K mainGlobals "range" = some none)    (z12 : W.nsIn K mainGlobals "zip" = some none)    (z13 : W.nsIn K mainGlobals "enumerate" = some none)    (z14 : W.nsIn K mainGlobals "any" = some none)    (z15 : W.nsIn K mainGlobals "sorted" = some none)    (z16 : W.nsIn K mainGlobals "min" = some none)    (z17 : W.nsIn K mainGlobals "max" = some none)    (z18 : W.nsIn K mainGlobals "reversed" = some none)    (z19 : W.nsIn K mainGlobals "ValueError" = some none) :
    ∃ fd : FuncData, (∀ (s : Shared) (v : Value), BindsTo s fd ⟨[v], []⟩ [("_law_script", v)]) /\ ∀ base : Heap, K.In base -> base.Ns mainGlobals mg -> bv l.prog w K mg base c9 9 fa fd ["_law_script"] (jh K nR) := by
  have e := hfa.symm.trans (W.mg_of X G a52)
  cases e
  have hbl : ∀ n ∈ gc, mg n = none := ag (Pr := fun n => mg n = none) (W.mg_none_of X G z0) (ag (Pr := fun n => mg n = none) (W.mg_none_of X G z1) (ag (Pr := fun n => mg n = none) (W.mg_none_of X G z2) (ag (Pr := fun n => mg n = none) (W.mg_none_of X G z3) (ag (Pr := fun n => mg n = none) (W.mg_none_of X G z4) (ag (Pr := fun n => mg n = none) (W.mg_none_of X G z5) (ag (Pr := fun n => mg n = none) (W.mg_none_of X G z6) (ag (Pr := fun n => mg n = none) (W.mg_none_of X G z7) (ag (Pr := fun n => mg n = none) (W.mg_none_of X G z8) (ag (Pr := fun n => mg n = none) (W.mg_none_of X G z9) (ag (Pr := fun n => mg n = none) (W.mg_none_of X G z10) (ag (Pr := fun n => mg n = none) (W.mg_none_of X G z11) (ag (Pr := fun n => mg n = none) (W.mg_none_of X G z12) (ag (Pr := fun n => mg n = none) (W.mg_none_of X G z13) (ag (Pr := fun n => mg n = none) (W.mg_none_of X G z14) (ag (Pr := fun n => mg n = none) (W.mg_none_of X G z15) (ag (Pr := fun n => mg n = none) (W.mg_none_of X G z16) (ag (Pr := fun n => mg n = none) (W.mg_none_of X G z17) (ag (Pr := fun n => mg n = none) (W.mg_none_of X G z18) (ag (Pr := fun n => mg n = none) (W.mg_none_of X G z19) (aj))))))))))))))))))))
  have hmg : ∀ n C, W.nsIn K mainGlobals n = some (some (.ref C)) -> mg n = some (.ref C) := fun n C h => W.mg_of X G h
  have hEx : wv K EX := ze (ag (Pr := Du K) (⟨Fu, Fv, FZ, FK, ⟨Iz, Iy, Ix, Iw, xs0, xt0, Iv⟩, Iu⟩) (aj))
  have FE : dH K Fo := ⟨Jv, Jw, Ju, Jt⟩
  have FA : dH K Fk := ⟨HP, HR, HN, HM⟩
  have FJ : dH K Fm := ⟨IJ, IM, II, IH⟩
  have F35 := aU (st := (ah 35)) l35 c35 k35
  have b35 := F35.binds (ps := ["_law_script", "_law_k"]) fun _ _ _ _ _ _ us hl => by obtain ⟨x0, x1, rfl⟩ := d6 hl; rfl
  have F38 := aU (st := (ah 38)) l38 c38 k38
  have b38 := F38.binds (ps := ["_law_cell_here", "_law_kind"]) fun _ _ _ _ _ _ us hl => by obtain ⟨x0, x1, rfl⟩ := d6 hl; rfl
  have F39 := aU (st := (ah 39)) l39 c39 k39
  have b39 := F39.binds (ps := ["_law_script", "_law_at", "_law_many"]) fun _ _ _ _ _ _ us hl => by obtain ⟨x0, x1, x2, rfl⟩ := sr hl; rfl
  have F48 := aU (st := (ah 48)) l48 c48 k48
  have b48 := F48.binds (ps := ["_law_script", "_law_at"]) fun _ _ _ _ _ _ us hl => by obtain ⟨x0, x1, rfl⟩ := d6 hl; rfl
  have F43 := aU (st := (ah 43)) l43 c43 k43
  have b43 := F43.binds (ps := ["_law_numbers_here"]) fun _ _ _ _ _ _ us hl => by obtain ⟨x0, rfl⟩ := dD hl; rfl
  have F41 := aU (st := (ah 41)) l41 c41 k41
  have b41 := F41.binds (ps := ["_law_one", "_law_other"]) fun _ _ _ _ _ _ us hl => by obtain ⟨x0, x1, rfl⟩ := d6 hl; rfl
  have F42 := aU (st := (ah 42)) l42 c42 k42
  have b42 := F42.binds (ps := ["_law_numbers_here"]) fun _ _ _ _ _ _ us hl => by obtain ⟨x0, rfl⟩ := dD hl; rfl
  have F40 := aU (st := (ah 40)) l40 c40 k40
  have b40 := F40.binds (ps := ["_law_numbers_here"]) fun _ _ _ _ _ _ us hl => by obtain ⟨x0, rfl⟩ := dD hl; rfl
  have F49 := aU (st := (ah 49)) l49 c49 k49
  have b49 := F49.binds (ps := ["_law_numbers_here"]) fun _ _ _ _ _ _ us hl => by obtain ⟨x0, rfl⟩ := dD hl; rfl
  have F50 := aU (st := (ah 50)) l50 c50 k50
  have b50 := F50.binds (ps := ["_law_error"]) fun _ _ _ _ _ _ us hl => by obtain ⟨x0, rfl⟩ := dD hl; rfl
  have F19 := aU (st := (ah 19)) l19 c19 k19
  have b19 := F19.binds (ps := ["one", "other"]) fun _ _ _ _ _ _ us hl => by obtain ⟨x0, x1, rfl⟩ := d6 hl; rfl
  have F18 := aU (st := (ah 18)) l18 c18 k18
  have b18 := F18.binds (ps := ["numbers"]) fun _ _ _ _ _ _ us hl => by obtain ⟨x0, rfl⟩ := dD hl; rfl
  have F20 := aU (st := (ah 20)) l20 c20 k20
  have b20 := F20.binds (ps := ["numbers", "divisor"]) fun _ _ _ _ _ _ us hl => by obtain ⟨x0, x1, rfl⟩ := d6 hl; rfl
  have F21 := aU (st := (ah 21)) l21 c21 k21
  have b21 := F21.binds (ps := ["numbers"]) fun _ _ _ _ _ _ us hl => by obtain ⟨x0, rfl⟩ := dD hl; rfl
  have F24 := aU (st := (ah 24)) l24 c24 k24
  have b24 := F24.binds (ps := ["table"]) fun _ _ _ _ _ _ us hl => by obtain ⟨x0, rfl⟩ := dD hl; rfl
  have F26 := aU (st := (ah 26)) l26 c26 k26
  have b26 := F26.binds (ps := ["numbers"]) fun _ _ _ _ _ _ us hl => by obtain ⟨x0, rfl⟩ := dD hl; rfl
  have Jr := aU (st := (ax (ah 29) 0)) LX Md GJ
  have Im := Jr.binds (ps := ["self", "word", "row", "fractions"]) fun _ _ _ _ _ _ us hl => by obtain ⟨x0, x1, x2, x3, rfl⟩ := Ev hl; rfl
  have Io := aU (st := (ax (ah 30) 0)) LT L9 L0
  have Jk := Io.binds (ps := ["self", "numbers"]) fun _ _ _ _ _ _ us hl => by obtain ⟨x0, x1, rfl⟩ := d6 hl; rfl
  have F51 := aU (st := (ah 51)) l51 c51 k51
  have b51 := F51.binds (ps := []) fun _ _ _ _ _ _ us hl => by cases Ew hl; rfl
  have F36 := aU (st := (ah 36)) l36 c36 k36
  have b36 := F36.binds (ps := ["_law_x"]) fun _ _ _ _ _ _ us hl => by obtain ⟨x0, rfl⟩ := dD hl; rfl
  have F37 := aU (st := (ah 37)) l37 c37 k37
  have b37 := F37.binds (ps := ["_law_found", "_law_many"]) fun _ _ _ _ _ _ us hl => by obtain ⟨x0, x1, rfl⟩ := d6 hl; rfl
  have F44 := aU (st := (ah 44)) l44 c44 k44
  have b44 := F44.binds (ps := ["_law_found"]) fun _ _ _ _ _ _ us hl => by obtain ⟨x0, rfl⟩ := dD hl; rfl
  have F45 := aU (st := (ah 45)) l45 c45 k45
  have b45 := F45.binds (ps := ["_law_found", "_law_n", "_law_rows_here"]) fun _ _ _ _ _ _ us hl => by obtain ⟨x0, x1, x2, rfl⟩ := sr hl; rfl
  have F47 := aU (st := (ah 47)) l47 c47 k47
  have b47 := F47.binds (ps := ["_law_found", "_law_n", "_law_brought_here"]) fun _ _ _ _ _ _ us hl => by obtain ⟨x0, x1, x2, rfl⟩ := sr hl; rfl
  have F46 := aU (st := (ah 46)) l46 c46 k46
  have b46 := F46.binds (ps := ["_law_rows_here", "_law_spot_here"]) fun _ _ _ _ _ _ us hl => by obtain ⟨x0, x1, rfl⟩ := d6 hl; rfl
  have F33 := aU (st := (ah 33)) l33 c33 k33
  have b33 := F33.binds (ps := ["axis"]) fun _ _ _ _ _ _ us hl => by obtain ⟨x0, rfl⟩ := dD hl; rfl
  have F14 := aU (st := (ah 14)) l14 c14 k14
  have b14 := F14.binds (ps := ["one"]) fun _ _ _ _ _ _ us hl => by obtain ⟨x0, rfl⟩ := dD hl; rfl
  have Jm := aU (st := (ax (ah 32) 0)) LO L4 LY
  have Mf := Jm.binds (ps := ["self", "axis"]) fun _ _ _ _ _ _ us hl => by obtain ⟨x0, x1, rfl⟩ := d6 hl; rfl
  have F22 := aU (st := (ah 22)) l22 c22 k22
  have b22 := F22.binds (ps := ["one", "other"]) fun _ _ _ _ _ _ us hl => by obtain ⟨x0, x1, rfl⟩ := d6 hl; rfl
  have F27 := aU (st := (ah 27)) l27 c27 k27
  have b27 := F27.binds (ps := ["rows", "other"]) fun _ _ _ _ _ _ us hl => by obtain ⟨x0, x1, rfl⟩ := d6 hl; rfl
  have F25 := aU (st := (ah 25)) l25 c25 k25
  have b25 := F25.binds (ps := ["table", "spot"]) fun _ _ _ _ _ _ us hl => by obtain ⟨x0, x1, rfl⟩ := d6 hl; rfl
  have Ht := aU (st := (ax (ah 29) 2)) LV Mb Hk
  have Ik := Ht.binds (ps := ["self", "spot"]) fun _ _ _ _ _ _ us hl => by obtain ⟨x0, x1, rfl⟩ := d6 hl; rfl
  have F16 := aU (st := (ah 16)) l16 c16 k16
  have b16 := F16.binds (ps := ["four"]) fun _ _ _ _ _ _ us hl => by obtain ⟨x0, rfl⟩ := dD hl; rfl
  have Jp := aU (st := (ax (ah 30) 2)) LR L7 Ji
  have Mi := Jp.binds (ps := ["self"]) fun _ _ _ _ _ _ us hl => by obtain ⟨x0, rfl⟩ := dD hl; rfl
  have Hu := aU (st := (ax (ah 29) 1)) LW Mc Hl
  have Il := Hu.binds (ps := ["self"]) fun _ _ _ _ _ _ us hl => by obtain ⟨x0, rfl⟩ := dD hl; rfl
  have Hs := aU (st := (ax (ah 29) 3)) LU Ma Hj
  have Ij := Hs.binds (ps := ["self", "other"]) fun _ _ _ _ _ _ us hl => by obtain ⟨x0, x1, rfl⟩ := d6 hl; rfl
  have Jq := aU (st := (ax (ah 30) 1)) LS L8 Jj
  have Mj := Jq.binds (ps := ["self"]) fun _ _ _ _ _ _ us hl => by obtain ⟨x0, rfl⟩ := dD hl; rfl
  have Jo := aU (st := (ax (ah 31) 0)) LQ L6 LZ
  have Mh := Jo.binds (ps := ["self", "axis"]) fun _ _ _ _ _ _ us hl => by obtain ⟨x0, x1, rfl⟩ := d6 hl; rfl
  have Jn := aU (st := (ax (ah 31) 2)) LP L5 Jh
  have Mg := Jn.binds (ps := ["self"]) fun _ _ _ _ _ _ us hl => by obtain ⟨x0, rfl⟩ := dD hl; rfl
  have Jl := aU (st := (ax (ah 32) 2)) LN L3 Jg
  have Me := Jl.binds (ps := ["self"]) fun _ _ _ _ _ _ us hl => by obtain ⟨x0, rfl⟩ := dD hl; rfl
  have F52 := aU (st := (ah 52)) l52 c52 k52
  refine ⟨W.fnOf "law" "law" (aI (ah 52)) (ar (ah 52)) (ae (ah 52)) .none Kq KC JK Lz Jf KQ, fun s v => .of_eq rfl, fun base _ _ => ?_⟩
  have nA0 : ∀ C, W.nsIn K mainGlobals "Turn" = some (some (.ref C)) -> ∀ f ∈ [("word" : Str), ("row" : Str), ("fractions" : Str)], bn K C f := by intro C hC; cases (Fs.symm.trans hC); exact ag (Pr := fun f => bn K Fo f) (Hv) (ag (Pr := fun f => bn K Fo f) (Gj) (ag (Pr := fun f => bn K Fo f) (FL) (aj)))
  have nA1 : ∀ C, W.nsIn K mainGlobals "Mirror" = some (some (.ref C)) -> ∀ f ∈ [("word" : Str), ("row" : Str), ("fractions" : Str)], bn K C f := by intro C hC; cases (Fq.symm.trans hC); exact ag (Pr := fun f => bn K Fm f) (GT) (ag (Pr := fun f => bn K Fm f) (FW) (ag (Pr := fun f => bn K Fm f) (FD) (aj)))
  have nA2 : ∀ C, W.nsIn K mainGlobals "Turn" = some (some (.ref C)) -> ∀ f ∈ [("fractions" : Str)], bn K C f := by intro C hC; cases (Fs.symm.trans hC); exact ag (Pr := fun f => bn K Fo f) (FL) (aj)
  have nA3 : ∀ C, W.nsIn K mainGlobals "HalfTurn" = some (some (.ref C)) -> ∀ f ∈ [("fractions" : Str)], bn K C f := by intro C hC; cases (Fp.symm.trans hC); exact ag (Pr := fun f => bn K Fk f) (FB) (aj)
  have nA4 : ∀ C, W.nsIn K mainGlobals "Mirror" = some (some (.ref C)) -> ∀ f ∈ [("fractions" : Str)], bn K C f := by intro C hC; cases (Fq.symm.trans hC); exact ag (Pr := fun f => bn K Fm f) (FD) (aj)
  have fL0 : ∀ p ∈ ([("Turn", ["fractions"]), ("HalfTurn", ["fractions"]), ("Mirror", ["fractions"])] : List (Str × List Str)), iZ K p := ag (Pr := iZ K) ((fun f hf C hC => nA2 C hC f hf)) (ag (Pr := iZ K) ((fun f hf C hC => nA3 C hC f hf)) (ag (Pr := iZ K) ((fun f hf C hC => nA4 C hC f hf)) (aj)))
  have nA5 : ∀ C, W.nsIn K mainGlobals "Turn" = some (some (.ref C)) -> ∀ f ∈ [("row" : Str)], bn K C f := by intro C hC; cases (Fs.symm.trans hC); exact ag (Pr := fun f => bn K Fo f) (Gj) (aj)
  have nA6 : ∀ C, W.nsIn K mainGlobals "HalfTurn" = some (some (.ref C)) -> ∀ f ∈ [("row" : Str)], bn K C f := by intro C hC; cases (Fp.symm.trans hC); exact ag (Pr := fun f => bn K Fk f) (FQ) (aj)
  have nA7 : ∀ C, W.nsIn K mainGlobals "Mirror" = some (some (.ref C)) -> ∀ f ∈ [("row" : Str)], bn K C f := by intro C hC; cases (Fq.symm.trans hC); exact ag (Pr := fun f => bn K Fm f) (FW) (aj)
  have fL1 : ∀ p ∈ ([("Turn", ["row"]), ("HalfTurn", ["row"]), ("Mirror", ["row"])] : List (Str × List Str)), iZ K p := ag (Pr := iZ K) ((fun f hf C hC => nA5 C hC f hf)) (ag (Pr := iZ K) ((fun f hf C hC => nA6 C hC f hf)) (ag (Pr := iZ K) ((fun f hf C hC => nA7 C hC f hf)) (aj)))
  have nA8 : ∀ C, W.nsIn K mainGlobals "HalfTurn" = some (some (.ref C)) -> ∀ f ∈ [("word" : Str), ("row" : Str), ("fractions" : Str)], bn K C f := by intro C hC; cases (Fp.symm.trans hC); exact ag (Pr := fun f => bn K Fk f) (Gm) (ag (Pr := fun f => bn K Fk f) (FQ) (ag (Pr := fun f => bn K Fk f) (FB) (aj)))
  have Jx : cX mg K ("Turn", D.cls "Turn") := jQ (W.mg_of X G Fs) Fs OA ⟨Pd, Pc, Pa, O9⟩ ⟨fun m hm Cm h => by simp only [mF, List.mem_cons, List.not_mem_nil, or_false] at hm; rcases hm with rfl | rfl | rfl | rfl; (rw [Fy] at h; cases h; exact ⟨⟨Gb, F9, F7, F5⟩, HB⟩); (rw [Fs] at h; cases h; exact ⟨⟨Ga, F8, F6, F4⟩, HA⟩); (rw [Fp] at h; cases h; exact ⟨⟨FI, FH, FG, FF⟩, Gr⟩); (rw [Fq] at h; cases h; exact ⟨⟨FP, FO, FN, FM⟩, G0⟩)⟩
  have Je : cX mg K ("Mirror", D.cls "Mirror") := jQ (W.mg_of X G Fq) Fq lk3 ⟨i13, i23, i33, i43⟩ ⟨fun m hm Cm h => by simp only [mF, List.mem_cons, List.not_mem_nil, or_false] at hm; rcases hm with rfl | rfl | rfl | rfl; (rw [Fy] at h; cases h; exact ⟨⟨Gb, F9, F7, F5⟩, G2⟩); (rw [Fs] at h; cases h; exact ⟨⟨Ga, F8, F6, F4⟩, G1⟩); (rw [Fp] at h; cases h; exact ⟨⟨FI, FH, FG, FF⟩, FX⟩); (rw [Fq] at h; cases h; exact ⟨⟨FP, FO, FN, FM⟩, Gs⟩)⟩
  have HU : cX mg K ("HalfTurn", D.cls "HalfTurn") := jQ (W.mg_of X G Fp) Fp lk2 ⟨i12, i22, i32, i42⟩ ⟨fun m hm Cm h => by simp only [mF, List.mem_cons, List.not_mem_nil, or_false] at hm; rcases hm with rfl | rfl | rfl | rfl; (rw [Fy] at h; cases h; exact ⟨⟨Gb, F9, F7, F5⟩, Gw⟩); (rw [Fs] at h; cases h; exact ⟨⟨Ga, F8, F6, F4⟩, Gv⟩); (rw [Fp] at h; cases h; exact ⟨⟨FI, FH, FG, FF⟩, FU⟩); (rw [Fq] at h; cases h; exact ⟨⟨FP, FO, FN, FM⟩, FY⟩)⟩
  have Jy : cX mg K ("Deed", D.cls "Deed") := jQ (W.mg_of X G Fy) Fy lk0 ⟨i10, i20, i30, i40⟩ ⟨fun m hm Cm h => by simp only [mF, List.mem_cons, List.not_mem_nil, or_false] at hm; rcases hm with rfl | rfl | rfl | rfl; (rw [Fy] at h; cases h; exact ⟨⟨Gb, F9, F7, F5⟩, HD⟩); (rw [Fs] at h; cases h; exact ⟨⟨Ga, F8, F6, F4⟩, HC⟩); (rw [Fp] at h; cases h; exact ⟨⟨FI, FH, FG, FF⟩, Gx⟩); (rw [Fq] at h; cases h; exact ⟨⟨FP, FO, FN, FM⟩, G3⟩)⟩
  have D35 : cD l.prog w K mg base 1 "_law_cell" gM := bL F35 Ea (W.mg_of X G a35) b35 (by decide +kernel) (bo (aj) (aj) aZ aY aX aW ay hbl) qH
  have D38 : cD l.prog w K mg base 1 "_law_number" gq := bL F38 D7 (W.mg_of X G a38) b38 (by decide +kernel) (bo (aj) (aj) aZ aY aX aW ay hbl) nM
  have D39 : cD l.prog w K mg base 2 "_law_numbers" fQ := bL F39 D6 (W.mg_of X G a39) b39 (by decide +kernel) (bo (cL D35 (cL D38 (aj))) (aj) aZ aY aX aW ay hbl) bT.self
  have D48 : cD l.prog w K mg base 2 "_law_spot" iX := bL F48 DW (W.mg_of X G a48) b48 (by decide +kernel) (bo (cL D35 (cL D38 (aj))) (aj) aZ aY aX aW ay hbl) qG
  have D43 : cD l.prog w K mg base 1 "_law_squares" fP := bL F43 D2 (W.mg_of X G a43) b43 (by decide +kernel) (bo (aj) (aj) aZ aY aX aW ay hbl) mJ
  have D41 : cD l.prog w K mg base 1 "_law_product" ij := bL F41 D4 (W.mg_of X G a41) b41 (by decide +kernel) (bo (aj) (aj) aZ aY aX aW ay hbl) mK
  have D42 : cD l.prog w K mg base 2 "_law_rows" iY := bL F42 D3 (W.mg_of X G a42) b42 (by decide +kernel) (bo (cL D41 (aj)) (aj) aZ aY aX aW ay hbl) bT.self
  have D40 : cD l.prog w K mg base 1 "_law_divisor" dn := bL F40 D5 (W.mg_of X G a40) b40 (by decide +kernel) (bo (aj) (aj) aZ aY aX aW ay hbl) mL
  have D49 : cD l.prog w K mg base 2 "_law_told" gN := bL F49 DV (W.mg_of X G a49) b49 (by decide +kernel) (bo (cL D40 (aj)) (aj) aZ aY aX aW ay hbl) bT.self
  have D50 : cD l.prog w K mg base 1 "_law_kinds" nF := bL F50 DU (W.mg_of X G a50) b50 (by decide +kernel) (bo (aj) (ag (Pr := cX mg K) (d7 (W.mg_of X G G7) G7 (dX ID Jb)) (ag (Pr := cX mg K) (d7 (W.mg_of X G FZ) FZ (dX IA IZ)) (ag (Pr := cX mg K) (d7 (W.mg_of X G Gk) Gk (dX HL HS)) (ag (Pr := cX mg K) (d7 (W.mg_of X G GN) GN (dX HY Ie)) (ag (Pr := cX mg K) (d7 (W.mg_of X G G9) G9 (dX IG Jd)) (ag (Pr := cX mg K) (d7 (W.mg_of X G G6) G6 (dX IC Ja)) (ag (Pr := cX mg K) (d7 (W.mg_of X G GO) GO (dX HZ Ig)) (ag (Pr := cX mg K) (d7 (W.mg_of X G GP) GP (dX Ia Ii)) (ag (Pr := cX mg K) (d7 (W.mg_of X G G5) G5 (dX IB I0)) (ag (Pr := cX mg K) (d7 (W.mg_of X G G8) G8 (dX IF Jc)) (ag (Pr := cX mg K) (d7 (W.mg_of X G FK) FK (dX Ha Hf)) (aj)))))))))))) aZ aY aX aW ay hbl) bT.self
  have D19 : cD l.prog w K mg base 1 "shared_by" il := bL F19 Eh (W.mg_of X G a19) b19 (by decide +kernel) (bo (aj) (aj) aZ aY aX aW ay hbl) bT.self
  have D18 : cD l.prog w K mg base 2 "common_divisor" b0 := bL F18 Ei (W.mg_of X G a18) b18 (by decide +kernel) (bo (cL D19 (aj)) (aj) aZ aY aX aW ay hbl) jd
  have D20 : cD l.prog w K mg base 1 "shortened" dP := bL F20 Eg (W.mg_of X G a20) b20 (by decide +kernel) (bo (aj) (aj) aZ aY aX aW ay hbl) bT.self
  have Q21 : iI l.prog w K mg base 3 "upright" cS := .inl ⟨_, _, ["numbers"], ux (Ex := EX) F21 AE (bo (cL D18 (cL D20 (aj))) (aj) aZ aY aX aW ay hbl) (kS (aj)) hmg pY, W.mg_of X G a21, k21, b21, by decide +kernel⟩
  have D21 : cD l.prog w K mg base 3 "upright" d9 := bL F21 AE (W.mg_of X G a21) b21 (by decide +kernel) (bo (cL D18 (cL D20 (aj))) (aj) aZ aY aX aW ay hbl) bT.self
  have D24 : cD l.prog w K mg base 3 "lowest" kF := bL F24 Ee (W.mg_of X G a24) b24 (by decide +kernel) (bo (cL D18 (cL D20 (aj))) (aj) aZ aY aX aW ay hbl) bT.self
  have Q26 : iI l.prog w K mg base 4 "table_of" iW := .inl ⟨_, _, ["numbers"], ux (Ex := EX) F26 AC (bo (cL D21 (cL D24 (aj))) (aj) aZ aY aX aW ay hbl) (kS (ag (Pr := uX l.prog w K mg base 3) (Q21.mono (by decide)) (aj))) hmg nI, W.mg_of X G a26, k26, b26, by decide +kernel⟩
  have D26 : cD l.prog w K mg base 4 "table_of" gr := bL F26 AC (W.mg_of X G a26) b26 (by decide +kernel) (bo (cL D21 (cL D24 (aj))) (aj) aZ aY aX aW ay hbl) bT.self
  have Ir : bv l.prog w K mg base c9 1 Hr _ ["self", "word", "row", "fractions"] (wO K ["word", "row", "fractions"]) := zx Jr rfl AB (ag (Pr := fun x => fj (ae (ax (ah 29) 0)) x) (Or.inl rfl) (ag (Pr := fun x => fj (ae (ax (ah 29) 0)) x) (Or.inl rfl) (ag (Pr := fun x => fj (ae (ax (ah 29) 0)) x) (Or.inl rfl) (ag (Pr := fun x => fj (ae (ax (ah 29) 0)) x) (Or.inl rfl) (aj))))) (ag (Pr := fun x => ff x = true) (rfl) (ag (Pr := fun x => ff x = true) (rfl) (ag (Pr := fun x => ff x = true) (rfl) (ag (Pr := fun x => ff x = true) (rfl) (aj))))) rfl (by decide) (by decide) (by decide)
  have Mp : bv l.prog w K mg base c9 5 GM _ ["self", "numbers"] (mU K "Turn" b9) := rg (n := "Turn") (b := "Deed") Io tM (bo (cL D21 (cL D26 (aj))) (aj) aZ aY aX aW ay hbl) (Ir.mono (by decide)) Im GJ rfl (W.mg_of X G Fy) Gc F3 Ge rfl rfl rfl (by decide +kernel) rfl (by decide) nA0
  have Iq : lS l.prog w K mg base 6 "Turn" b9 := oU ll ⟨HX, HE, HG, HI⟩ Mp (W.mg_of X G Fs) Fs FE Jk (by decide +kernel)
  have Ml : iI l.prog w K mg base 6 "Turn" dW := .inr ⟨5, Fo, _, _, ["self", "numbers"], by decide, ⟨HX, HE, HG, HI⟩, vK (b := "Deed") Io tM (bo (cL D21 (cL D26 (aj))) (aj) aZ aY aX aW ay hbl) (kS (ag (Pr := uX l.prog w K mg base 4) (Q21.mono (by decide)) (ag (Pr := uX l.prog w K mg base 4) (Q26.mono (by decide)) (aj)))) GJ rfl (W.mg_of X G Fy) Gc F3 Ge rfl (by decide +kernel) rfl (by decide) (Bg rfl) rfl (xZ jz), W.mg_of X G Fs, Fs, FE, Jk, by decide +kernel⟩
  have D51 : cD l.prog w K mg base 7 "_law_nought" fk := BH (BG (pre := (ar (ah 51)).take 1) (tb := zT ((ar (ah 51)).getD 1 (.Pass ⟨0, 0, 0, 0⟩))) (post := (ar (ah 51)).drop 2) (Ψ := lH) (Ex := EX) F51 DT (bo (cL D50 (cR Iq (aj))) (aj) aZ aY aX aW ay hbl) (kS (ag (Pr := uX l.prog w K mg base 6) (Ml.mono (by decide)) (aj))) hmg hEx rfl rfl (by decide +kernel) rfl rfl (by decide +kernel) (by decide +kernel) (by decide +kernel) nN) (W.mg_of X G a51) k51 b51 (by decide +kernel)
  have D36 : cD l.prog w K mg base 1 "_law_whole" hJ := bL F36 D9 (W.mg_of X G a36) b36 (by decide +kernel) (bo (aj) (aj) aZ aY aX aW ay hbl) bT.self
  have D37 : cD l.prog w K mg base 2 "_law_tuple" ge := bL F37 D8 (W.mg_of X G a37) b37 (by decide +kernel) (bo (cL D36 (aj)) (aj) aZ aY aX aW ay hbl) bT.self
  have D44 : cD l.prog w K mg base 3 "_law_is_table" gO := bL F44 D1 (W.mg_of X G a44) b44 (by decide +kernel) (bo (cL D40 (cL D36 (cL D37 (aj)))) (aj) aZ aY aX aW ay hbl) bT.self
  have D45 : cD l.prog w K mg base 4 "_law_stands" gs := bL F45 DZ (W.mg_of X G a45) b45 (by decide +kernel) (bo (cL D44 (aj)) (aj) aZ aY aX aW ay hbl) bT.self
  have D47 : cD l.prog w K mg base 3 "_law_place" hU := bL F47 DX (W.mg_of X G a47) b47 (by decide +kernel) (bo (cL D36 (cL D37 (cL D40 (aj)))) (aj) aZ aY aX aW ay hbl) bT.self
  have D46 : cD l.prog w K mg base 1 "_law_brought" im := bL F46 DY (W.mg_of X G a46) b46 (by decide +kernel) (bo (aj) (aj) aZ aY aX aW ay hbl) bT.self
  have D33 : cD l.prog w K mg base 5 "half_table" fq := bL F33 Eb (W.mg_of X G a33) b33 (by decide +kernel) (bo (cL D26 (aj)) (aj) aZ aY aX aW ay hbl) bT.self
  have D14 : cD l.prog w K mg base 1 "opposite" lQ := bL F14 Ek (W.mg_of X G a14) b14 (by decide +kernel) (bo (aj) (aj) aZ aY aX aW ay hbl) bT.self
  have Mm : bv l.prog w K mg base c9 6 GK _ ["self", "axis"] (mU K "Mirror" cN) := vJ (n := "Mirror") (b := "Deed") Jm Av (bo (cL D33 (cL D21 (cL D14 (aj)))) (aj) aZ aY aX aW ay hbl) (Ir.mono (by decide)) Im GJ rfl (W.mg_of X G Fy) Gc F3 Ge rfl rfl rfl (by decide +kernel) rfl (by decide) rfl rfl (by decide) (by decide) rfl nA1
  have Js : lS l.prog w K mg base 7 "Mirror" cN := oU qp ⟨IK, Ib, Ic, Id⟩ Mm (W.mg_of X G Fq) Fq FJ Mf (by decide +kernel)
  have D22 : cD l.prog w K mg base 1 "added_products" gP := bL F22 Ef (W.mg_of X G a22) b22 (by decide +kernel) (bo (aj) (aj) aZ aY aX aW ay hbl) bT.self
  have D27 : cD l.prog w K mg base 2 "each_with" j9 := bL F27 Ec (W.mg_of X G a27) b27 (by decide +kernel) (bo (cL D22 (aj)) (aj) aZ aY aX aW ay hbl) bT.self
  have D25 : cD l.prog w K mg base 3 "place_by" fo := bL F25 Ed (W.mg_of X G a25) b25 (by decide +kernel) (bo (cL D27 (cL D18 (cL D20 (aj)))) (aj) aZ aY aX aW ay hbl) bT.self
  have Gy : br l.prog w K mg base 4 "HalfTurn" "place" cW := cC Ht oz Fp FA ⟨Gg, Gi, Hk⟩ Ik (cH (cL D25 (aj)) (aj) aZ aY aX aW ay (fL0) (aj) hbl) bT.self
  have G4 : br l.prog w K mg base 4 "Mirror" "place" cW := cC Ht oz Fq FJ ⟨GG, GI, Hk⟩ Ik (cH (cL D25 (aj)) (aj) aZ aY aX aW ay (fL0) (aj) hbl) bT.self
  have HK : br l.prog w K mg base 4 "Turn" "place" cW := cC Ht oz Fs FE ⟨Hc, He, Hk⟩ Ik (cH (cL D25 (aj)) (aj) aZ aY aX aW ay (fL0) (aj) hbl) bT.self
  have D16 : cD l.prog w K mg base 1 "other_signed" fG := bL F16 Ej (W.mg_of X G a16) b16 (by decide +kernel) (bo (aj) (aj) aZ aY aX aW ay hbl) jY
  have HW : br l.prog w K mg base 7 "Turn" "back" eG := cC Jp Ay Fs FE ⟨Hx, Hz, Ji⟩ Mi (cH (cL D16 (cR Iq (aj))) (aj) aZ aY aX aW ay (fL1) (aj) hbl) bT.self
  have Fw : br l.prog w K mg base 1 "HalfTurn" "table" cy := cC Hu oA Fp FA ⟨Gf, Gh, Hl⟩ Il (cH (aj) (aj) aZ aY aX aW ay (fL0) (aj) hbl) bT.self
  have Fz : br l.prog w K mg base 1 "Mirror" "table" cy := cC Hu oA Fq FJ ⟨GF, GH, Hl⟩ Il (cH (aj) (aj) aZ aY aX aW ay (fL0) (aj) hbl) bT.self
  have FC : br l.prog w K mg base 1 "Turn" "table" cy := cC Hu oA Fs FE ⟨Hb, Hd, Hl⟩ Il (cH (aj) (aj) aZ aY aX aW ay (fL0) (aj) hbl) bT.self
  have GQ : br l.prog w K mg base 2 "HalfTurn" "same" cv := cC Hs ou Fp FA ⟨Gn, Gp, Hj⟩ Ij (cH (aj) (aj) aZ aY aX aW ay (fL0) (ag (Pr := fH l.prog w K mg base 1) (ag (Pr := fun q : Str × (List D -> Rs D) => br l.prog w K mg base 1 "Turn" q.1 q.2) (FC.mono (by decide)) (aj)) (ag (Pr := fH l.prog w K mg base 1) (ag (Pr := fun q : Str × (List D -> Rs D) => br l.prog w K mg base 1 "HalfTurn" q.1 q.2) (Fw.mono (by decide)) (aj)) (ag (Pr := fH l.prog w K mg base 1) (ag (Pr := fun q : Str × (List D -> Rs D) => br l.prog w K mg base 1 "Mirror" q.1 q.2) (Fz.mono (by decide)) (aj)) (aj)))) hbl) bT.self
  have Hh : br l.prog w K mg base 2 "Mirror" "same" cv := cC Hs ou Fq FJ ⟨GV, GY, Hj⟩ Ij (cH (aj) (aj) aZ aY aX aW ay (fL0) (ag (Pr := fH l.prog w K mg base 1) (ag (Pr := fun q : Str × (List D -> Rs D) => br l.prog w K mg base 1 "Turn" q.1 q.2) (FC.mono (by decide)) (aj)) (ag (Pr := fH l.prog w K mg base 1) (ag (Pr := fun q : Str × (List D -> Rs D) => br l.prog w K mg base 1 "HalfTurn" q.1 q.2) (Fw.mono (by decide)) (aj)) (ag (Pr := fH l.prog w K mg base 1) (ag (Pr := fun q : Str × (List D -> Rs D) => br l.prog w K mg base 1 "Mirror" q.1 q.2) (Fz.mono (by decide)) (aj)) (aj)))) hbl) bT.self
  have HV : br l.prog w K mg base 2 "Turn" "same" cv := cC Hs ou Fs FE ⟨Hw, Hy, Hj⟩ Ij (cH (aj) (aj) aZ aY aX aW ay (fL0) (ag (Pr := fH l.prog w K mg base 1) (ag (Pr := fun q : Str × (List D -> Rs D) => br l.prog w K mg base 1 "Turn" q.1 q.2) (FC.mono (by decide)) (aj)) (ag (Pr := fH l.prog w K mg base 1) (ag (Pr := fun q : Str × (List D -> Rs D) => br l.prog w K mg base 1 "HalfTurn" q.1 q.2) (Fw.mono (by decide)) (aj)) (ag (Pr := fH l.prog w K mg base 1) (ag (Pr := fun q : Str × (List D -> Rs D) => br l.prog w K mg base 1 "Mirror" q.1 q.2) (Fz.mono (by decide)) (aj)) (aj)))) hbl) bT.self
  have Hg : br l.prog w K mg base 1 "Turn" "number" ja := cC Jq Az Fs FE ⟨GU, GX, Jj⟩ Mj (cH (aj) (aj) aZ aY aX aW ay (fL1) (aj) hbl) bT.self
  have Mn : bv l.prog w K mg base c9 6 GL _ ["self", "axis"] (mU K "HalfTurn" dS) := rg (n := "HalfTurn") (b := "Deed") Jo Ax (bo (cL D21 (cL D33 (aj))) (aj) aZ aY aX aW ay hbl) (Ir.mono (by decide)) Im GJ rfl (W.mg_of X G Fy) Gc F3 Ge rfl rfl rfl (by decide +kernel) rfl (by decide) nA8
  have Mq : lS l.prog w K mg base 7 "HalfTurn" dS := oU ll ⟨HQ, HF, HH, HJ⟩ Mn (W.mg_of X G Fp) Fp FA Mh (by decide +kernel)
  have GS : br l.prog w K mg base 8 "HalfTurn" "back" hV := cC Jn Aw Fp FA ⟨Go, Gq, Jh⟩ Mg (cH (cR Mq (aj)) (aj) aZ aY aX aW ay (fL1) (aj) hbl) bT.self
  have Hi : br l.prog w K mg base 8 "Mirror" "back" jb := cC Jl Au Fq FJ ⟨GW, GZ, Jg⟩ Me (cH (cR Js (aj)) (aj) aZ aY aX aW ay (fL1) (aj) hbl) bT.self
  exact mr F52 DS (cH (cL D39 (cL D48 (cL D43 (cL D42 (cL D49 (cL D51 (cL D45 (cL D47 (cL D35 (cL D37 (cL D46 (cR Iq (cR Js (aj)))))))))))))) (ag (Pr := cX mg K) (Jx) (ag (Pr := cX mg K) (Je) (ag (Pr := cX mg K) (HU) (ag (Pr := cX mg K) (Jy) (aj))))) aZ aY aX aW ay (aj) (ag (Pr := fH l.prog w K mg base 8) (ag (Pr := fun q : Str × (List D -> Rs D) => br l.prog w K mg base 8 "Turn" q.1 q.2) (HK.mono (by decide)) (ag (Pr := fun q : Str × (List D -> Rs D) => br l.prog w K mg base 8 "Turn" q.1 q.2) (HW.mono (by decide)) (ag (Pr := fun q : Str × (List D -> Rs D) => br l.prog w K mg base 8 "Turn" q.1 q.2) (HV.mono (by decide)) (ag (Pr := fun q : Str × (List D -> Rs D) => br l.prog w K mg base 8 "Turn" q.1 q.2) (Hg.mono (by decide)) (ag (Pr := fun q : Str × (List D -> Rs D) => br l.prog w K mg base 8 "Turn" q.1 q.2) (FC.mono (by decide)) (aj)))))) (ag (Pr := fH l.prog w K mg base 8) (ag (Pr := fun q : Str × (List D -> Rs D) => br l.prog w K mg base 8 "HalfTurn" q.1 q.2) (Gy.mono (by decide)) (ag (Pr := fun q : Str × (List D -> Rs D) => br l.prog w K mg base 8 "HalfTurn" q.1 q.2) (GS.mono (by decide)) (ag (Pr := fun q : Str × (List D -> Rs D) => br l.prog w K mg base 8 "HalfTurn" q.1 q.2) (GQ.mono (by decide)) (ag (Pr := fun q : Str × (List D -> Rs D) => br l.prog w K mg base 8 "HalfTurn" q.1 q.2) (Fw.mono (by decide)) (aj))))) (ag (Pr := fH l.prog w K mg base 8) (ag (Pr := fun q : Str × (List D -> Rs D) => br l.prog w K mg base 8 "Mirror" q.1 q.2) (G4.mono (by decide)) (ag (Pr := fun q : Str × (List D -> Rs D) => br l.prog w K mg base 8 "Mirror" q.1 q.2) (Hi.mono (by decide)) (ag (Pr := fun q : Str × (List D -> Rs D) => br l.prog w K mg base 8 "Mirror" q.1 q.2) (Hh.mono (by decide)) (ag (Pr := fun q : Str × (List D -> Rs D) => br l.prog w K mg base 8 "Mirror" q.1 q.2) (Fz.mono (by decide)) (aj))))) (aj)))) hbl) bT.self
theorem walkX {q : Program} {loose : List Str} {XP : (Str -> Option Value) -> Heap -> Prop} {r : W.RowW} {d : DefRec} {kwd : List (Str × Expr)} {run : Value -> List Value -> Sem Value} {K : Params -> W.Frag} {as : List Addr} {n t : Nat}
    (e : ∀ P, as = (K P).map (·.1)) (h : W.WalkO q loose XP (W.InK K) r d kwd run) : W.WalkX q loose XP (W.X.obsZ as) (W.X.valZ K n t) r d kwd run :=
  fun w _ _ mg mb G y a o pm cd doc dV kV h1 h2 h3 h4 h5 h6 args vals as' L =>
    h w _ _ mg mb G (W.InK.keeps w _ _ (W.X.z_facts e y).2.1 L.keeps) a o pm cd doc dV kV h1 h2 h3 h4 h5 h6 args vals as'
theorem walk {l : W.OpenLaw} {q : Program} {loose : List Str} {XP : (Str -> Option Value) -> Heap -> Prop} {YP : World -> Heap -> Prop} {d : DefRec} {K : Params -> W.Frag} (hn : l.most = some 63) (hdf : d.params.defaults = [])
    (hY : ∀ (w : World) (h : Heap), YP w h -> (K w.params).In h)
    (F : ∀ (w : World) (mg : Str -> Option Value) (fa : Addr) (h : Heap), (K w.params).In h -> h.Ns mainGlobals mg -> mg d.name = some (.ref fa) ->
      ∃ fd : FuncData, (∀ (s : Shared) (u : Value), BindsTo s fd ⟨[u], []⟩ [("_law_script", u)]) /\ ∀ base : Heap, (K w.params).In base -> base.Ns mainGlobals mg -> bv l.prog w (K w.params) mg base c9 9 fa fd ["_law_script"] (jh (K w.params) nR)) :
    W.WalkO q loose XP YP l.row.toRowW d [] (fun f vs => PySem.call f vs) :=
  L2.walk_ofB (n := 63) (k := 9) (x := "_law_script") (CX := fun _ => c9) (sp := fun w => jh (K w.params) nR) hn (by decide) hdf ⟨rfl, by decide, by decide⟩ hY F (fun _ _ a ns hl hb hO hS => BE hO hS (vG ns hl hb)) fun _ _ _ _ _ z => z
end K
theorem PySem.W.Fast.tw13743949940059672441 : True := True.intro
theorem PySem.W.Fast.tw6695631327137248234 : True := True.intro
theorem PySem.W.Fast.tw14720964370288719594 : True := True.intro
theorem PySem.W.Fast.tw2257751052293113883 : True := True.intro
theorem PySem.W.Fast.tw14308371892964292428 : True := True.intro
theorem PySem.W.Fast.tw11724883292399055208 : True := True.intro
theorem PySem.W.Fast.tw7537842663038080221 : True := True.intro
theorem PySem.W.Fast.tw12464349426452677048 : True := True.intro
theorem PySem.W.Fast.tw1991314701695148329 : True := True.intro
theorem PySem.W.Fast.tw12017294988118242745 : True := True.intro
theorem PySem.W.Fast.tw4176677564788804910 : True := True.intro
theorem PySem.W.Fast.tw5273077947785456592 : True := True.intro
theorem PySem.W.Fast.tw16630211254704019828 : True := True.intro
theorem PySem.W.Fast.tw4925244553564979578 : True := True.intro
theorem PySem.W.Fast.tw6081354346480646078 : True := True.intro
theorem PySem.W.Fast.tw6537314523153256518 : True := True.intro
theorem PySem.W.Fast.tw9733497941133745485 : True := True.intro
theorem PySem.W.Fast.tw9119395945121430592 : True := True.intro
theorem PySem.W.Fast.tw11993518672600090417 : True := True.intro
theorem PySem.W.Fast.tw9122665397010915880 : True := True.intro
theorem PySem.W.Fast.tw14645784062472810435 : True := True.intro
theorem PySem.W.Fast.tw8326724091143978373 : True := True.intro
theorem PySem.W.Fast.tw3282810114895195423 : True := True.intro
theorem PySem.W.Fast.tw8034991268976521231 : True := True.intro
theorem PySem.W.Fast.tw8895030466355775307 : True := True.intro
theorem PySem.W.Fast.tw2986897809826906536 : True := True.intro
theorem PySem.W.Fast.tw5370104837250249642 : True := True.intro
theorem PySem.W.Fast.tw7544176033967010243 : True := True.intro
theorem PySem.W.Fast.tw10470952452154167463 : True := True.intro
theorem PySem.W.Fast.tw11281630452522411129 : True := True.intro
theorem PySem.W.Fast.tw10462015352079603699 : True := True.intro
theorem PySem.W.Fast.tw15319787701048706076 : True := True.intro
theorem PySem.W.Fast.tw11907419792276758815 : True := True.intro
theorem PySem.W.Fast.tw9940196136030254527 : True := True.intro
theorem PySem.W.Fast.tw17704891954949025733 : True := True.intro
theorem PySem.W.Fast.tw9405731284836988646 : True := True.intro
theorem PySem.W.Fast.tw16272573855605585688 : True := True.intro
theorem PySem.W.Fast.tw11115562629983078906 : True := True.intro
theorem PySem.W.Fast.tw14386916896575529029 : True := True.intro
theorem PySem.W.Fast.tw6297515794999839881 : True := True.intro
theorem PySem.W.Fast.tw13310492694413201487 : True := True.intro
theorem PySem.W.Fast.tw17308095270654652750 : True := True.intro
theorem PySem.W.Fast.tw10315115461116654383 : True := True.intro
theorem PySem.W.Fast.tw13529660220162353739 : True := True.intro
theorem PySem.W.Fast.tw16884940517189412916 : True := True.intro
theorem PySem.W.Fast.tw10967678995014437882 : True := True.intro
theorem PySem.W.Fast.tw13848207455651324471 : True := True.intro
theorem PySem.W.Fast.tw6914302889116122441 : True := True.intro
theorem PySem.W.Fast.tw3553130289844000209 : True := True.intro
theorem PySem.W.Fast.tw16580426498865172200 : True := True.intro
theorem PySem.W.Fast.tw11325752942458684733 : True := True.intro
theorem PySem.W.Fast.tw854579373667490552 : True := True.intro
theorem PySem.W.Fast.tw8297430774969987888 : True := True.intro
theorem PySem.W.Fast.tw3990408319410869098 : True := True.intro
theorem PySem.W.Fast.tw3022919467375413318 : True := True.intro
theorem PySem.W.Fast.tw5008734242424999983 : True := True.intro
theorem PySem.W.Fast.tw10203504050142800220 : True := True.intro
theorem PySem.W.Fast.tw17026124737434406712 : True := True.intro
theorem PySem.W.Fast.tw9684774548954958260 : True := True.intro
theorem PySem.W.Fast.tw8634972500411939371 : True := True.intro
theorem PySem.W.Fast.tw15611228910242693271 : True := True.intro
theorem PySem.W.Fast.tw17466209340589320977 : True := True.intro
theorem PySem.W.Fast.tw1985447570716589803 : True := True.intro
theorem PySem.W.Fast.tw13030328152923673172 : True := True.intro
theorem PySem.W.Fast.tw3620210243498903150 : True := True.intro
theorem PySem.W.Fast.tw11134723461779485136 : True := True.intro
theorem PySem.W.Fast.tw385532439473424609 : True := True.intro
theorem PySem.W.Fast.tw10508653683093940076 : True := True.intro
theorem PySem.W.Fast.tw12153582018721171024 : True := True.intro
theorem PySem.W.Fast.tw5508657483827676547 : True := True.intro
theorem PySem.W.Fast.tw14700146075904374397 : True := True.intro
theorem PySem.W.Fast.tw13136609335059661792 : True := True.intro
theorem PySem.W.Fast.tw10790279818385203082 : True := True.intro
theorem PySem.W.Fast.tw17888362537040380969 : True := True.intro
theorem PySem.W.Fast.tw16616437274354365249 : True := True.intro
theorem PySem.W.Fast.tw14689679510605241507 : True := True.intro
theorem PySem.W.Fast.tw5915503265337434184 : True := True.intro
theorem PySem.W.Fast.tw14417227538029961902 : True := True.intro
theorem PySem.W.Fast.tw14973647537146685043 : True := True.intro
theorem PySem.W.Fast.tw16440206896504984061 : True := True.intro
theorem PySem.W.Fast.tw1929111074314133159 : True := True.intro
theorem PySem.W.Fast.tw10483388329044315994 : True := True.intro
theorem PySem.W.Fast.tw14912795133600701456 : True := True.intro
theorem PySem.W.Fast.tw7855005050749155489 : True := True.intro
theorem PySem.W.Fast.tw16797981128682634982 : True := True.intro
theorem PySem.W.Fast.tw13339056968284283985 : True := True.intro
open PySem PySem.W PyProof.Rows
set_option maxRecDepth 100000 in
set_option maxHeartbeats 0 in
theorem PySem.Challenge.cw_spaceturns_k36_turns_as_deeds_holds : PySem.Challenge.rw_spaceturns_k36_turns_as_deeds.Holds := by
  w_on; o_law; z_head; (case hw => w_witness2)
  k_fill
  refine K.walkX (fun _ => rfl) (K.walk (l := PySem.Challenge.rw_spaceturns_k36_turns_as_deeds) rfl rfl (fun w h Y => Y) ?F)
  case F =>
    intro w mg fa h KX G hmg
    refine' K.all_mk KX G hmg ?_ ?_ ?_ ?_ ?_ ?_ ?_ ?_ ?_ ?_ ?_ ?_ ?_ ?_ ?_ ?_ ?_ ?_ ?_ ?_ ?_ ?_ ?_ ?_ ?_ ?_ ?_ ?_ ?_ ?_ ?_ ?_ ?_ ?_ ?_ ?_ ?_ ?_ ?_ ?_ ?_ ?_ ?_ ?_ ?_ ?_ ?_ ?_ ?_ ?_ ?_ ?_ ?_ ?_ ?_ ?_ ?_ ?_ ?_ ?_ ?_ ?_ ?_ ?_ ?_ ?_ ?_ ?_ ?_ ?_ ?_ ?_ ?_ ?_ ?_ ?_ ?_ ?_ ?_ ?_ ?_ ?_ ?_ ?_ ?_ ?_ ?_ ?_ ?_ ?_ ?_ ?_ ?_ ?_ ?_ ?_ ?_ ?_ ?_ ?_ ?_ ?_ ?_ ?_ ?_ ?_ ?_ ?_ ?_ ?_ ?_ ?_ ?_ ?_ ?_ ?_ ?_ ?_ ?_ ?_ ?_ ?_ ?_ ?_ ?_ ?_ ?_ ?_ ?_ ?_ ?_ ?_ ?_ ?_ ?_ ?_ ?_ ?_ ?_ ?_ ?_ ?_ ?_ ?_ ?_ ?_ ?_ ?_ ?_ ?_ ?_ ?_ ?_ ?_ ?_ ?_ ?_ ?_ ?_ ?_ ?_ ?_ ?_ ?_ ?_ ?_ ?_ ?_ ?_ ?_ ?_ ?_ ?_ ?_ ?_ ?_ ?_ ?_ ?_ ?_ ?_ ?_ ?_ ?_ ?_ ?_ ?_ ?_ ?_ ?_ ?_ ?_ ?_ ?_ ?_ ?_ ?_ ?_ ?_ ?_ ?_ ?_ ?_ ?_ ?_ ?_ ?_ ?_ ?_ ?_ ?_ ?_ ?_ ?_ ?_ ?_ ?_ ?_ ?_ ?_ ?_ ?_ ?_ ?_ ?_ ?_ ?_ ?_ ?_ ?_ ?_ ?_ ?_ ?_ ?_ ?_ ?_ ?_ ?_ ?_ ?_ ?_ ?_ ?_ ?_ ?_ ?_ ?_ ?_ ?_ ?_ ?_ ?_ ?_ ?_ ?_ ?_ ?_ ?_ ?_ ?_ ?_ ?_ ?_ ?_ ?_ ?_ ?_ ?_ ?_ ?_ ?_ ?_ ?_ ?_ ?_ ?_ ?_ ?_ ?_ ?_ ?_ ?_ ?_ ?_ ?_ ?_ ?_ ?_ ?_ ?_ ?_ ?_ ?_ ?_ ?_ ?_ ?_ ?_ ?_ ?_ ?_ ?_ ?_ ?_ ?_ ?_ ?_ ?_ ?_ ?_ ?_ ?_ ?_ ?_ ?_ ?_ ?_ ?_ ?_ ?_ ?_ ?_ ?_ ?_ ?_ ?_ ?_ ?_ ?_ ?_ ?_
    all_goals try first | k_is | kernel_rfl
