import PyProof.Rows.All
import Wide.All
import OpenK.AllK
import Wide.FinOn
import Lean
import PyProof.EqAt
import PyProof.EqKinds
import PyProof.TupleCall
import PySem.Challenge.RW_spaceturns_k57_whole_squares_and_sizes
set_option Elab.async false
set_option linter.all false
set_option maxRecDepth 100000
namespace L2
open PySem PySem.Spec PyProof.Rows
abbrev Key := Sum Int Str
def keyIs : Key -> Value -> Bool
  | .inl k, v => Value.isInt k v
  | .inr x, v => Value.isStrOf x v
def keyH (w : World) : Key -> Int
  | .inl k => hashInt k
  | .inr x => hashStr w x
theorem keyIs_shape : ∀ {k : Key} {v : Value}, keyIs k v = true -> (∃ i t, k = Sum.inl i /\ v = Value.int i t) \/ (∃ x t, k = Sum.inr x /\ v = Value.str x t)
  | .inl i, v, h => by
    obtain ⟨t, e⟩ := Value.isInt_shape (k := i) (v := v) h
    exact .inl ⟨i, t, rfl, e⟩
  | .inr x, v, h => by
    obtain ⟨t, e⟩ := Value.isStrOf_shape (x := x) (v := v) h
    exact .inr ⟨x, t, rfl, e⟩
theorem keyIs_int (i : Int) (t : Tok) : keyIs (.inl i) (.int i t) = true := by simp [keyIs, Value.isInt]
theorem keyIs_str (x : Str) (t : Tok) : keyIs (.inr x) (.str x t) = true := by simp [keyIs, Value.isStrOf]
theorem key_ll (a b : Int) : decide ((Sum.inl a : Key) = Sum.inl b) = (a == b) := by
  by_cases e : a = b
  . subst e; simp
  . have h : ¬ (Sum.inl a : Key) = Sum.inl b := fun q => e (Sum.inl.inj q)
    rw [decide_eq_false h]
    exact (beq_eq_false_iff_ne.mpr e).symm
theorem key_rr (a b : Str) : decide ((Sum.inr a : Key) = Sum.inr b) = decide (a = b) := by
  by_cases e : a = b
  . subst e; simp
  . have h : ¬ (Sum.inr a : Key) = Sum.inr b := fun q => e (Sum.inr.inj q)
    rw [decide_eq_false h, decide_eq_false e]
theorem key_lr (a : Int) (b : Str) : decide ((Sum.inl a : Key) = Sum.inr b) = false := decide_eq_false (fun q => nomatch q)
theorem key_rl (a : Str) (b : Int) : decide ((Sum.inr a : Key) = Sum.inl b) = false := decide_eq_false (fun q => nomatch q)
def mixKind (prog : Program) (w : World) : PySem.KeyKind prog w Key where
  is := keyIs
  hash := keyH w
  inj := fun v a b ha hb => by
    rcases keyIs_shape ha with ⟨i, t, rfl, rfl⟩ | ⟨x, t, rfl, rfl⟩
    . rcases keyIs_shape hb with ⟨j, u, rfl, e⟩ | ⟨y, u, rfl, e⟩
      . injection e with e1 _; rw [e1]
      . exact nomatch e
    . rcases keyIs_shape hb with ⟨j, u, rfl, e⟩ | ⟨y, u, rfl, e⟩
      . exact nomatch e
      . injection e with e1 _; rw [e1]
  byValue := fun k v h => by
    rcases keyIs_shape h with ⟨i, t, rfl, rfl⟩ | ⟨x, t, rfl, rfl⟩ <;> rfl
  pyHash := fun hv h => by
    rcases keyIs_shape hv with ⟨i, t, rfl, rfl⟩ | ⟨x, t, rfl, rfl⟩
    . exact wpAny_pyHash_int h
    . exact wpAny_pyHash_str h
  eqBool := fun hu hv h => by
    rcases keyIs_shape hu with ⟨i, t, rfl, rfl⟩ | ⟨x, t, rfl, rfl⟩
    . rcases keyIs_shape hv with ⟨j, u, rfl, rfl⟩ | ⟨y, u, rfl, rfl⟩
      . rw [key_ll] at h; exact wpAny_eqBool_int h
      . rw [key_lr] at h; exact SeqAt.EqAt.int_str i t y u _ _ _ _ h
    . rcases keyIs_shape hv with ⟨j, u, rfl, rfl⟩ | ⟨y, u, rfl, rfl⟩
      . rw [key_rl] at h; exact SeqAt.EqAt.str_int x t j u _ _ _ _ h
      . rw [key_rr] at h; exact wpAny_eqBool_str h
  «strs» := fun k x t v h => by
    rcases keyIs_shape h with ⟨i, u, rfl, e⟩ | ⟨y, u, rfl, e⟩
    . exact nomatch e
    . injection e with e1 _
      subst e1
      cases v <;> rfl
theorem mixKind_int (prog : Program) (w : World) (i : Int) (t : Tok) : (mixKind prog w).is (.inl i) (.int i t) = true := keyIs_int i t
theorem mixKind_str (prog : Program) (w : World) (x : Str) (t : Tok) : (mixKind prog w).is (.inr x) (.str x t) = true := keyIs_str x t
end L2
namespace L2
open PySem PySem.Spec PyProof.Rows
inductive V where
  | non | bl (b : Bool) | int (i : Int) | str (x : Str) | byt (b : Array UInt8) | flt (b : UInt64) | ref (a : Addr) | ty (n : String)
  deriving DecidableEq
def RelV : V -> Value -> Prop
  | .non, u => u = Value.none
  | .bl b, u => u = Value.bool b
  | .int i, u => ∃ t, u = Value.int i t
  | .str x, u => ∃ t, u = Value.str x t
  | .byt b, u => ∃ t, u = Value.bytes b t
  | .flt b, u => ∃ t, u = Value.float b t
  | .ref a, u => u = Value.ref a
  | .ty n, u => u = Value.type n
abbrev Vals : List V -> List Value -> Prop := Paired RelV
theorem Vals.length {xs : List V} {us : List Value} (r : Vals xs us) : xs.length = us.length := Paired.length r
theorem Vals.get : ∀ {xs : List V} {us : List Value} {i : Nat} {x : V}, Vals xs us -> xs[i]? = some x -> ∃ u, us[i]? = some u /\ RelV x u
  | _, _, _, _, .nil, e => by simp at e
  | _, _, 0, _, .cons r _, e => by simp at e; subst e; exact ⟨_, rfl, r⟩
  | _, _, i + 1, x, .cons _ t, e => by
    obtain ⟨u, h1, h2⟩ := Vals.get (i := i) (x := x) t (by simpa using e)
    exact ⟨u, by simpa using h1, h2⟩
theorem Vals.set {x : V} {u : Value} (r : RelV x u) : ∀ {xs : List V} {us : List Value} (i : Nat), Vals xs us -> Vals (xs.set i x) (us.set i u)
  | _, _, _, .nil => .nil
  | _, _, 0, .cons _ t => .cons r t
  | _, _, i + 1, .cons q t => .cons q (Vals.set r i t)
theorem Vals.append : ∀ {xs ys : List V} {us ws : List Value}, Vals xs us -> Vals ys ws -> Vals (xs ++ ys) (us ++ ws)
  | _, _, _, _, .nil, s => s
  | _, _, _, _, .cons r t, s => .cons r (Vals.append t s)
theorem Vals.take : ∀ {xs : List V} {us : List Value} (n : Nat), Vals xs us -> Vals (xs.take n) (us.take n)
  | _, _, 0, _ => .nil
  | _, _, _ + 1, .nil => .nil
  | _, _, n + 1, .cons r t => .cons r (Vals.take n t)
theorem Vals.drop : ∀ {xs : List V} {us : List Value} (n : Nat), Vals xs us -> Vals (xs.drop n) (us.drop n)
  | _, _, 0, r => r
  | _, _, _ + 1, .nil => .nil
  | _, _, n + 1, .cons _ t => Vals.drop n t
theorem Vals.none_of : ∀ {xs : List V} {us : List Value} {i : Nat}, Vals xs us -> xs[i]? = none -> us[i]? = none := fun {xs us i} r e => by
  have h1 := r.length
  have h2 : xs.length <= i := List.getElem?_eq_none_iff.mp e
  exact List.getElem?_eq_none_iff.mpr (by omega)
def RelO : Option V -> Option Value -> Prop
  | some v, some u => RelV v u
  | none, none => True
  | _, _ => False
def KV {κ : Type} : List (κ × V) -> List (κ × Value) -> Prop := Paired fun (p : κ × V) (q : κ × Value) => p.1 = q.1 /\ RelV p.2 q.2
def kV : Key -> V
  | .inl i => .int i
  | .inr x => .str x
inductive HO where
    | lst (xs : List V)
    | tup (xs : List V)
    | dK (kvs : List (Key × V)) | dT (kvs : List (List Key × V))
    | set (S : Int -> Bool) (n : Nat)
    | ins (C dx : Addr) (fs : List (Str × V))
    | own (x : Addr)
    | xd (fs : List (Str × V))
    | met (f x : Addr)
    | rng (lo hi : Int)
    | frz (o : Obj) (u : HO)
    | tbl (ps : Array Value)
    | ext (φ : Heap -> Prop)
abbrev Hp := Addr -> Option HO
def upd (H : Hp) (a : Addr) (o : HO) : Hp := fun b => if b = a then some o else H b
theorem upd_same {H : Hp} {a : Addr} {o : HO} : upd H a o a = some o := by unfold upd; rw [if_pos rfl]
theorem upd_ne {H : Hp} {a b : Addr} {o : HO} (h : b ≠ a) : upd H a o b = H b := by unfold upd; rw [if_neg h]
theorem ne_of {H : Hp} {a b : Addr} {o u : HO} (h : H a = some o) (h' : H b = some u) (d : o ≠ u) : a ≠ b := by
  intro e; subst e; rw [h] at h'; exact d (Option.some.inj h')
theorem ne_of_none {H : Hp} {a b : Addr} {o : HO} (h : H a = some o) (h' : H b = none) : a ≠ b := by
  intro e; subst e; rw [h] at h'; cases h'
section
variable (P : Program) (w : World)
def IsTupN (h : Heap) (a : Addr) (items : Array Value) : Prop := IsTup h a items /\ ∃ o, h.get? a = some o /\ o.dict = none
theorem IsTupN.new (h : Heap) (items : Array Value) : IsTupN (h.push { cls := .type "tuple", data := .seq items }) h.objs.size items := ⟨IsTup.new h items, _, Heap.get?_push_size _ rfl, rfl⟩
def ObjOk (H : Hp) (h : Heap) (a : Addr) : HO -> Prop
  | .lst xs => xs.length <= sizeLine /\ ∃ (its : List Value) (n : Nat), Vals xs its /\ h.get? a = some { cls := .type "list", data := .seq its.toArray n }
  | .tup xs => xs.length <= sizeLine /\ ∃ its : List Value, Vals xs its /\ IsTupN h a its.toArray
  | .dK kvs => kvs.length <= sizeLine /\ (a == sysModules) = false /\ ∃ vs, KV kvs vs /\ h.DictOf (mixKind P w) a vs
  | .dT kvs => kvs.length <= sizeLine /\ (a == sysModules) = false /\ ∃ xs : List (List Key × Addr × Value),
      Paired (fun (p : List Key × V) (q : List Key × Addr × Value) => p.1 = q.1 /\ H q.2.1 = some (.tup (p.1.map kV)) /\ RelV p.2 q.2.2) kvs xs /\
      ∃ o es ep, h.get? a = some o /\ o.ExactDict /\ o.data = .dict es ep /\ es.toList = xs.map (entryOfKey (tupleKind (mixKind P w))) /\ (xs.map (·.1)).Nodup
  | .set S n => h.SetOf (intKind P w) a S n
  | .ins C dx fs => H dx = some (.own a) /\ fs.length <= 1000 /\ dx ≠ a /\ h.get? a = some (PySem.W.instObj C dx) /\
      ∃ mA, h.Ns1 dx mA /\ (∀ f, RelO (fs.lookup f) (mA f)) /\ PySem.Within mA (fs.map (·.1))
  | .own _ => ∃ o, h.get? a = some o
  | .xd fs => ∃ mA, h.Ns1 a mA /\ ∀ f, RelO (fs.lookup f) (mA f)
  | .rng lo hi => ∃ t u v, h.get? a = some { cls := .type "range", data := .fields #[.int lo t, .int hi u, .int 1 v] }
  | .frz o u => h.get? a = some o /\ ObjOk H h a u
  | .tbl ps => h.get? a = some { cls := .none, data := .fields ps }
  | .met f x => h.get? a = some (PySem.W.methodObj (.ref f) (.ref x))
  | .ext φ => φ h /\ (∃ o, h.get? a = some o) /\ ∀ h1 h2 : Heap, φ h1 -> (∀ o, h1.get? a = some o -> h2.get? a = some o) -> φ h2
def HOk (H : Hp) (h : Heap) : Prop := ∀ a o, H a = some o -> ObjOk P w H h a o
end
section
variable {P : Program} {w : World} {H H' : Hp} {h h' : Heap} {a : Addr} {o : HO}
theorem ObjOk.lt (x : ObjOk P w H h a o) : a < h.objs.size := by
  cases o with
  | lst xs => obtain ⟨_, _, _, _, e⟩ := x; exact Heap.lt_size e
  | tup xs => obtain ⟨_, _, _, p⟩ := x; exact p.1.lt
  | dK kvs => obtain ⟨_, _, _, _, o, _, _, e, _⟩ := x; exact Heap.lt_size e
  | dT kvs => obtain ⟨_, _, _, _, o, _, _, e, _⟩ := x; exact Heap.lt_size e
  | set S n => obtain ⟨o, _, _, _, e, _⟩ := x; exact Heap.lt_size e
  | ins C dx fs => obtain ⟨_, _, _, e, _⟩ := x; exact Heap.lt_size e
  | own y => obtain ⟨_, e⟩ := x; exact Heap.lt_size e
  | xd fs => obtain ⟨_, ⟨_, _, _, e, _⟩, _⟩ := x; exact Heap.lt_size e
  | rng lo hi => obtain ⟨_, _, _, e⟩ := x; exact Heap.lt_size e
  | frz ob u => obtain ⟨e, _⟩ := x; exact Heap.lt_size e
  | tbl ps => exact Heap.lt_size (show h.get? a = some _ from x)
  | met f y => exact Heap.lt_size (show h.get? a = some _ from x)
  | ext φ => obtain ⟨_, ⟨_, e⟩, _⟩ := x; exact Heap.lt_size e
theorem Paired.mapP {α β : Type} {F G : α -> β -> Prop} : ∀ {l₁ : List α} {l₂ : List β}, Paired F l₁ l₂ -> (∀ a b, F a b -> G a b) -> Paired G l₁ l₂
  | _, _, .nil, _ => .nil
  | _, _, .cons r t, f => .cons (f _ _ r) (Paired.mapP t f)
theorem ObjOk.stay (x : ObjOk P w H h a o) (k : ∀ b u, (b = a \/ H b = some (.own a)) -> h.get? b = some u -> h'.get? b = some u)
    (ho : ∀ b, H b = some (.own a) -> H' b = some (.own a)) (ht : ∀ b xs, H b = some (.tup xs) -> H' b = some (.tup xs)) : ObjOk P w H' h' a o := by
  induction o with
  | lst xs => obtain ⟨z, its, n, r, e⟩ := x; exact ⟨z, its, n, r, k _ _ (.inl rfl) e⟩
  | tup xs => obtain ⟨z, its, r, ⟨ob, e, c⟩, o2, e2, d2⟩ := x; exact ⟨z, its, r, ⟨ob, k _ _ (.inl rfl) e, c⟩, o2, k _ _ (.inl rfl) e2, d2⟩
  | dK kvs => obtain ⟨z, y, vs, r, ob, es, ep, e, c⟩ := x; exact ⟨z, y, vs, r, ob, es, ep, k _ _ (.inl rfl) e, c⟩
  | dT kvs =>
    obtain ⟨z, y, xs, r, ob, es, ep, e, c⟩ := x
    exact ⟨z, y, xs, Paired.mapP r fun p q z => ⟨z.1, ht _ _ z.2.1, z.2.2⟩, ob, es, ep, k _ _ (.inl rfl) e, c⟩
  | set S n => obtain ⟨ob, es, ep, t, e, c⟩ := x; exact ⟨ob, es, ep, t, k _ _ (.inl rfl) e, c⟩
  | ins C dx fs =>
    obtain ⟨d, z, ne, e, mA, ⟨od, es, ep, e2, c⟩, r⟩ := x
    exact ⟨ho _ d, z, ne, k _ _ (.inl rfl) e, mA, ⟨od, es, ep, k _ _ (.inr d) e2, c⟩, r⟩
  | own y => obtain ⟨ob, e⟩ := x; exact ⟨ob, k _ _ (.inl rfl) e⟩
  | xd fs => obtain ⟨mA, ⟨od, es, ep, e, c⟩, r⟩ := x; exact ⟨mA, ⟨od, es, ep, k _ _ (.inl rfl) e, c⟩, r⟩
  | rng lo hi => obtain ⟨t, u, v, e⟩ := x; exact ⟨t, u, v, k _ _ (.inl rfl) e⟩
  | frz ob u ih => obtain ⟨e, q⟩ := x; exact ⟨k _ _ (.inl rfl) e, ih q⟩
  | tbl ps =>
    have e : h.get? a = some { cls := .none, data := .fields ps } := x
    show h'.get? a = some { cls := .none, data := .fields ps }
    exact k a _ (.inl rfl) e
  | met f y =>
    have e : h.get? a = some (PySem.W.methodObj (.ref f) (.ref y)) := x
    show h'.get? a = some (PySem.W.methodObj (.ref f) (.ref y))
    exact k a _ (.inl rfl) e
  | ext φ => obtain ⟨p, ⟨o, e⟩, st⟩ := x; exact ⟨st _ _ p fun o q => k _ _ (.inl rfl) q, ⟨o, k _ _ (.inl rfl) e⟩, st⟩
theorem HOk.lt (x : HOk P w H h) (e : H a = some o) : a < h.objs.size := (x a o e).lt
theorem HOk.fresh (x : HOk P w H h) (e : h.objs.size <= a) : H a = none := by
  cases q : H a with
  | none => rfl
  | some u => exact absurd (Nat.lt_of_lt_of_le (x.lt q) e) (Nat.lt_irrefl _)
theorem HOk.kept (x : HOk P w H h) (k : ∀ b u, h.get? b = some u -> h'.get? b = some u) : HOk P w H h' := fun a o e =>
  (x a o e).stay (fun b u _ q => k b u q) (fun _ q => q) fun _ _ q => q
theorem HOk.laid (x : HOk P w H h) (k : ∀ b u, h.get? b = some u -> h'.get? b = some u) (hp : h.objs.size <= a) (new : ObjOk P w (upd H a o) h' a o) : HOk P w (upd H a o) h' := fun b u e => by
  have hn := x.fresh hp
  by_cases hb : b = a
  . subst hb; rw [upd_same] at e; cases e; exact new
  . rw [upd_ne hb] at e
    exact (x b u e).stay (fun c v _ q => k c v q) (fun c q => by rw [upd_ne (ne_of_none q hn)]; exact q) fun c xs q => by rw [upd_ne (ne_of_none q hn)]; exact q
end
def Rd (H : Hp) (a : Addr) (u : HO) : Prop := H a = some u \/ ∃ o, H a = some (.frz o u)
theorem Rd.ok {P : Program} {w : World} {H : Hp} {h : Heap} {a : Addr} {u : HO} (r : Rd H a u) (x : HOk P w H h) : ObjOk P w H h a u := by
  rcases r with r | ⟨o, r⟩
  . exact x a u r
  . obtain ⟨_, q⟩ := x a _ r
    exact q
def Mut : Option HO -> Prop
  | some (.lst _) => True
  | some (.dK _) => True
  | some (.dT _) => True
  | some (.set _ _) => True
  | some (.ins _ _ _) => True
  | some (.ext _) => True
  | _ => False
section
variable {P : Program} {w : World} {H : Hp} {h h' : Heap} {x e : Addr} {o' : HO}
theorem HOk.write (ok : HOk P w H h) (mu : Mut (H x)) (he : e = x \/ H e = some (.own x)) (k : ∀ b u, b ≠ e -> h.get? b = some u -> h'.get? b = some u) (heo : ∃ u, h'.get? e = some u)
    (new : ObjOk P w (upd H x o') h' x o') : HOk P w (upd H x o') h' := fun b u q => by
  have nown : ∀ c y, H c = some (.own y) -> c ≠ x := fun c y r z => by subst z; rw [r] at mu; exact mu
  have ntup : ∀ c xs, H c = some (.tup xs) -> c ≠ x := fun c xs r z => by subst z; rw [r] at mu; exact mu
  by_cases hb : b = x
  . subst hb; rw [upd_same] at q; cases q; exact new
  . rw [upd_ne hb] at q
    by_cases hbe : b = e
    . have q' : H b = some (.own x) := by
        rcases he with z | z
        . exact absurd (hbe.trans z) hb
        . rw [hbe]; exact z
      rw [q] at q'; cases q'
      obtain ⟨v, hv⟩ := heo
      exact ⟨v, by rw [hbe]; exact hv⟩
    . refine (ok b u q).stay (fun c v hc r => k c v ?_ r) (fun c r => by rw [upd_ne (nown c b r)]; exact r) fun c xs r => by rw [upd_ne (ntup c xs r)]; exact r
      rcases hc with rfl | hc
      . exact hbe
      . rintro rfl
        rcases he with z | z
        . exact nown c b hc z
        . rw [hc] at z; cases z; exact hb rfl
end
structure Un (fs ex : List Addr) (H H' : Hp) (h h' : Heap) : Prop where
  keep : ∀ b o, h.get? b = some o -> H b = none -> b ∉ fs -> b ∉ ex -> h'.get? b = some o
  slot : ∀ b o, h.get? b = some o -> H b = none -> b ∈ fs -> b ∉ ex -> ∃ sl, h'.get? b = some { o with slots := sl }
  free : ∀ b o, h.get? b = some o -> H b = none -> b ∉ ex -> H' b = none
  there : ∀ b o, h.get? b = some o -> b ∉ ex -> ∃ o', h'.get? b = some o'
  tups : ∀ b xs, H b = some (.tup xs) -> H' b = some (.tup xs)
  frzs : ∀ b o u, H b = some (.frz o u) -> H' b = some (.frz o u)
  tbls : ∀ b ps, H b = some (.tbl ps) -> ∃ more, H' b = some (.tbl (ps ++ more))
section
variable {fs fs' ex ex' : List Addr} {H H1 H2 : Hp} {h h1 h2 h' : Heap} {a x e : Addr} {o : HO}
theorem Un.any (u : Un fs ex H H1 h h1) {b : Addr} {ob : Obj} (q : h.get? b = some ob) (n : H b = none) (hx : b ∉ ex) : ∃ sl, h1.get? b = some { ob with slots := sl } := by
  by_cases hb : b ∈ fs
  . exact u.slot b ob q n hb hx
  . exact ⟨ob.slots, u.keep b ob q n hb hx⟩
theorem Un.kept (k : ∀ b u, h.get? b = some u -> h'.get? b = some u) : Un fs ex H H h h' :=
  ⟨fun b ob q _ _ _ => k b ob q, fun b ob q _ _ _ => ⟨ob.slots, k b ob q⟩, fun _ _ _ n _ => n, fun b ob q _ => ⟨ob, k b ob q⟩, fun _ _ q => q, fun _ _ _ q => q, fun _ ps q => ⟨#[], by rw [q]; simp⟩⟩
theorem Un.refl : Un fs ex H H h h := Un.kept fun _ _ q => q
theorem Un.laid (k : ∀ b u, h.get? b = some u -> h'.get? b = some u) (hp : h.objs.size <= a) (hn : H a = none) : Un fs ex H (upd H a o) h h' where
  keep := fun b u q _ _ _ => k b u q
  slot := fun b u q _ _ _ => ⟨u.slots, k b u q⟩
  free := fun b u q n _ => by rw [upd_ne (Nat.ne_of_lt (Nat.lt_of_lt_of_le (Heap.lt_size q) hp))]; exact n
  there := fun b u q _ => ⟨u, k b u q⟩
  tups := fun b xs q => by rw [upd_ne (ne_of_none q hn)]; exact q
  frzs := fun b u xs q => by rw [upd_ne (ne_of_none q hn)]; exact q
  tbls := fun b ps q => ⟨#[], by rw [upd_ne (ne_of_none q hn), q]; simp⟩
theorem Un.write (mu : Mut (H x)) (he : e = x \/ H e = some (.own x)) (k : ∀ b u, b ≠ e -> h.get? b = some u -> h'.get? b = some u) (heo : ∃ u, h'.get? e = some u) : Un fs ex H (upd H x o) h h' := by
  have hx : ∀ b, H b = none -> b ≠ x := fun b n z => by subst z; rw [n] at mu; exact mu
  have hb : ∀ b, H b = none -> b ≠ e := fun b n z => by
    subst z
    rcases he with r | r
    . exact hx b n r
    . rw [n] at r; cases r
  have hm : ∀ b u, H b = some u -> ¬ Mut (some u) -> b ≠ x := fun b u q nm z => by subst z; rw [q] at mu; exact nm mu
  refine ⟨fun b u q n _ _ => k b u (hb b n) q, fun b u q n _ _ => ⟨u.slots, k b u (hb b n) q⟩, fun b u q n _ => by rw [upd_ne (hx b n)]; exact n, fun b u q _ => ?_,
    fun b xs q => by rw [upd_ne (hm b _ q fun z => z)]; exact q, fun b u xs q => by rw [upd_ne (hm b _ q fun z => z)]; exact q, fun b ps q => ⟨#[], by rw [upd_ne (hm b _ q fun z => z), q]; simp⟩⟩
  by_cases hbe : b = e
  . subst hbe; exact heo
  . exact ⟨u, k b u hbe q⟩
end
def trk (h : Heap) (H : Hp) : List Addr := (List.range h.objs.size).filter fun a => (H a).isSome
def hidT (h : Heap) (H : Hp) : Heap := PySem.W.hideAll h (trk h H)
theorem hidT_size (h : Heap) (H : Hp) : (hidT h H).objs.size = h.objs.size := PySem.W.hideAll_size _ _
theorem hidT_get {h : Heap} {H : Hp} {b : Addr} {o : Obj} (e : h.get? b = some o) (n : H b = none) : (hidT h H).get? b = some o :=
  PySem.W.hideAll_get _ e fun hm => by
    have q : (H b).isSome = true := (List.mem_filter.mp hm).2
    rw [n] at q; simp at q
theorem of_hidT {h : Heap} {H : Hp} {b : Addr} {o : Obj} (e : (hidT h H).get? b = some o) : h.get? b = some o /\ H b = none := by
  have e' : h.get? b = some o := PySem.W.of_hideAll (trk h H) e
  refine ⟨e', ?_⟩
  cases q : H b with
  | none => rfl
  | some x =>
    have hm : b ∈ trk h H := List.mem_filter.mpr ⟨List.mem_range.mpr (Heap.lt_size e'), by simp [q]⟩
    have z : (hidT h H).get? b = none := PySem.W.hideAll_none (trk h H) hm
    rw [z] at e; cases e
def allNews (g h : Heap) (L : Addr) : List (Addr × Obj) := (List.range h.objs.size).filterMap fun a => if a = L \/ (g.get? a).isSome = true then none else (h.get? a).map fun o => (a, o)
def rest (g h : Heap) (L d : Addr) : List (Addr × Obj) := (allNews g h L).filter fun p => decide (p.1 ≠ d)
end L2
namespace L2
open PySem PySem.Spec PyProof.Rows
structure Mod (K : PySem.W.Frag) (mg : Str -> Option Value) (base : Heap) : Prop where
  kin : K.In base
  glob : base.Ns mainGlobals mg
  blt : ∃ mb, base.Ns builtinsNs mb /\ ∀ x : Str, x ≠ "__name__" -> mb x = bootBuiltins x
  nolimit : base.NoLimit
structure Cx where
  prog : Program
  w : World
  K : PySem.W.Frag
  mg : Str -> Option Value
  base : Heap
  A : Around
  N : List Str
  s₀ : Shared
  H₀ : Hp
  env : Env
  outer : List Env
  stack : List Env
  ex : List Addr
  fn : Str -> Bool
  calm : Bool
  pn : List (Addr × Obj)
  xe : Value -> Shared -> Prop
def frs (l : List Env) : List Addr := l.filterMap (·.frame)
abbrev Cx.fs (X : Cx) : List Addr := frs X.outer
def Vis (sc : Scope) (x : Str) : Prop := sc.names.lookup x = some .local \/ sc.names.lookup x = some .cell \/ sc.names.lookup x = some .free
def Loc (sc : Scope) (x : Str) : Prop := sc.names.lookup x = some .local \/ sc.names.lookup x = some .cell
def Look (env : Env) (h : Heap) (m : Str -> Option Value) (x : Str) (u : Value) : Prop :=
  (env.kindOf x = some .local /\ m x = some u) \/ ((env.kindOf x = some .cell \/ env.kindOf x = some .free) /\ ∃ c, env.cells.lookup x = some c /\ h.IsCell c (some u))
structure Cx.Ok (X : Cx) : Prop where
  mod : Mod X.K X.mg X.base
  kind : X.env.scope.kind = .function
  glob : X.env.globals = mainGlobals
  blt : X.env.builtins = builtinsNs
  above : X.s₀.heap.objs.size <= X.env.locals
  inj : ∀ x y c, X.env.cells.lookup x = some c -> X.env.cells.lookup y = some c -> x = y
  has : ∀ x, (X.env.kindOf x = some .cell \/ X.env.kindOf x = some .free) -> ∃ c, X.env.cells.lookup x = some c
  cab : ∀ x c, X.fn x = true -> X.env.cells.lookup x = some c -> X.s₀.heap.objs.size <= c
  hd : X.calm = true -> X.A.handled = none
  frames : X.A.frames = some X.stack
  stk : X.stack = X.outer \/ (X.stack = X.env :: X.outer /\ X.env.frame = some X.env.locals)
  exf : ∀ b ∈ X.ex, b ≠ X.env.locals /\ ∀ x c, X.env.cells.lookup x = some c -> c ≠ b
  bs : ∀ b o, X.base.get? b = some o -> X.s₀.heap.get? b = some o /\ X.H₀ b = none
  bsz : X.base.objs.size <= X.s₀.heap.objs.size
  noex : ∀ b o, X.base.get? b = some o -> b ∉ X.ex
  exfs : ∀ b ∈ X.ex, b ∉ X.fs
  funs : X.s₀.heap.FunFrames X.base X.outer
  frf : ∀ b ∈ X.fs, X.H₀ b = none
structure Inv (X : Cx) (pins : List (Addr × Obj)) (σ : List (Option V)) (H : Hp) (s : Shared) : Prop where
  ok : X.Ok
  os : s.os = X.s₀.os
  bare : AllBare s.gens
  base : Un X.fs X.ex X.H₀ H X.s₀.heap s.heap
  loc : ∃ m, s.heap.Ns X.env.locals m /\ ∀ (i : Nat) (x : Str) (v : V), X.N[i]? = some x -> σ[i]? = some (some v) -> Vis X.env.scope x -> ∃ u, RelV v u /\ Look X.env s.heap m x u
  cell : ∀ x c, X.env.cells.lookup x = some c -> ∃ v, s.heap.IsCell c v
  free : H X.env.locals = none
  freeC : ∀ x c, X.env.cells.lookup x = some c -> H c = none
  pin : ∀ p ∈ X.pn ++ pins, s.heap.get? p.1 = some p.2 /\ H p.1 = none /\ p.1 ≠ X.env.locals /\ p.1 ∉ X.fs /\ ∀ v, p.2.data ≠ .cell v
  hok : HOk X.prog X.w H s.heap
  len : σ.length = X.N.length
section
variable {X : Cx} {pins : List (Addr × Obj)} {σ : List (Option V)} {H H' : Hp} {s : Shared} {h' : Heap}
theorem Cx.Ok.nofr (ok : X.Ok) {b : Addr} {o : Obj} (e : X.base.get? b = some o) : b ∉ X.fs := fun hb => by
  have := (ok.funs.mem hb).1
  rw [e] at this; cases this
theorem Inv.bs (I : Inv X pins σ H s) : ∀ b o, X.base.get? b = some o -> s.heap.get? b = some o /\ H b = none := fun b o e =>
  ⟨I.base.keep b o (I.ok.bs b o e).1 (I.ok.bs b o e).2 (I.ok.nofr e) (I.ok.noex b o e), I.base.free b o (I.ok.bs b o e).1 (I.ok.bs b o e).2 (I.ok.noex b o e)⟩
theorem Inv.bk (I : Inv X pins σ H s) : ∀ b o, X.base.get? b = some o -> s.heap.get? b = some o := fun b o e => (I.bs b o e).1
theorem Inv.mod (I : Inv X pins σ H s) : Mod X.K X.mg X.base := I.ok.mod
theorem Inv.kIn (I : Inv X pins σ H s) : X.K.In s.heap := I.ok.mod.kin.keeps I.bk
theorem Inv.nolimit (I : Inv X pins σ H s) : s.heap.NoLimit := I.ok.mod.nolimit.keeps I.bk
theorem Inv.fr (I : Inv X pins σ H s) : ∃ m, Fr X.base X.env.locals s.heap m :=
  let ⟨m, hn, _⟩ := I.loc
  ⟨m, hn, I.bk, Nat.le_trans I.ok.bsz I.ok.above⟩
theorem Inv.lt (I : Inv X pins σ H s) : X.env.locals < s.heap.objs.size := let ⟨_, hn, _⟩ := I.loc; hn.lt
theorem Inv.sz (I : Inv X pins σ H s) : X.s₀.heap.objs.size <= s.heap.objs.size := Nat.le_trans I.ok.above (Nat.le_of_lt I.lt)
theorem Inv.nofs (I : Inv X pins σ H s) {a : Addr} (h : s.heap.objs.size <= a) : a ∉ X.fs := fun hb => by
  obtain ⟨_, o, ho, _⟩ := I.ok.funs.mem hb
  exact absurd (Nat.lt_of_lt_of_le (Heap.lt_size ho) (Nat.le_trans I.sz h)) (Nat.lt_irrefl _)
theorem Inv.cne (I : Inv X pins σ H s) : ∀ x c, X.env.cells.lookup x = some c -> c ≠ X.env.locals := fun x c e z => by
  obtain ⟨v, o, ho, hd⟩ := I.cell x c e
  obtain ⟨m, ⟨o', es, ep, ho', hd', _⟩, _⟩ := I.loc
  rw [z, ho'] at ho; cases ho; rw [hd'] at hd; cases hd
theorem Inv.funs (I : Inv X pins σ H s) : s.heap.FunFrames X.base X.outer := by
  have all : ∀ (l : List Env), (∀ b ∈ frs l, b ∈ X.fs) -> X.s₀.heap.FunFrames X.base l -> s.heap.FunFrames X.base l := by
    intro l
    induction l with
    | nil => intro _ _; trivial
    | cons env r ih =>
      intro hs hl
      obtain ⟨hk, ⟨L, o, hf, hn, ho, hd⟩, hr⟩ := hl
      have hL : L ∈ X.fs := hs L (by unfold frs; rw [List.filterMap_cons, hf]; exact List.mem_cons_self)
      obtain ⟨sl, e⟩ := I.base.slot L o ho (I.ok.frf L hL) hL fun z => I.ok.exfs L z hL
      exact ⟨hk, ⟨L, _, hf, hn, e, hd⟩, ih (fun b hb => hs b (by unfold frs; rw [List.filterMap_cons, hf]; exact List.mem_cons_of_mem _ hb)) hr⟩
  exact all X.outer (fun _ hb => hb) I.ok.funs
theorem Inv.stack (I : Inv X pins σ H s) : s.heap.FunFrames X.base X.stack := by
  rcases I.ok.stk with e | ⟨e, hf⟩
  . rw [e]; exact I.funs
  . rw [e]
    obtain ⟨m, hn, _⟩ := I.loc
    refine .cons (by rw [I.ok.kind]; decide) hf hn ?_ I.funs
    exact Heap.get?_none_of_le (Nat.le_trans I.ok.bsz I.ok.above)
theorem Inv.stkSub (I : Inv X pins σ H s) : ∀ b ∈ frs X.stack, b ∈ X.env.locals :: X.fs := fun b hb => by
  rcases I.ok.stk with e | ⟨e, hf⟩
  . rw [e] at hb; exact List.mem_cons_of_mem _ hb
  . rw [e] at hb
    unfold frs at hb
    rw [List.filterMap_cons, hf] at hb
    exact hb
theorem Inv.stkFree (I : Inv X pins σ H s) : ∀ b ∈ frs X.stack, H b = none := fun b hb => by
  rcases List.mem_cons.mp (I.stkSub b hb) with e | hb
  . rw [e]; exact I.free
  . obtain ⟨_, o, ho, _⟩ := I.ok.funs.mem hb
    exact I.base.free b o ho (I.ok.frf b hb) fun z => I.ok.exfs b z hb
theorem Inv.step {g' : Array GenState} {t' : Nat} {d' : Drawn} {ch : List Addr} (I : Inv X pins σ H s)
    (hch : ∀ b ∈ ch, (b ∈ X.ex \/ X.s₀.heap.objs.size <= b) /\ b ≠ X.env.locals /\ (∀ x c, X.env.cells.lookup x = some c -> c ≠ b) /\ ∀ p ∈ X.pn ++ pins, p.1 ≠ b)
    (keep : ∀ b o, b ≠ X.env.locals -> b ∉ X.fs -> b ∉ ch -> s.heap.get? b = some o -> H b = none -> h'.get? b = some o)
    (slot : ∀ b o, b ≠ X.env.locals -> b ∈ X.fs -> b ∉ ch -> s.heap.get? b = some o -> H b = none -> ∃ sl, h'.get? b = some { o with slots := sl }) (free : ∀ b o, b ∉ ch -> s.heap.get? b = some o -> H b = none -> H' b = none)
    (there : ∀ b o, b ∉ ch -> s.heap.get? b = some o -> ∃ o', h'.get? b = some o')
    (tups : ∀ b xs, H b = some (.tup xs) -> H' b = some (.tup xs)) (frzs : ∀ b o u, H b = some (.frz o u) -> H' b = some (.frz o u)) (tbls : ∀ b ps, H b = some (.tbl ps) -> ∃ more, H' b = some (.tbl (ps ++ more)))
    (ns : ∀ m, s.heap.Ns X.env.locals m -> h'.Ns X.env.locals m) (hok : HOk X.prog X.w H' h') (hg : AllBare g') :
    Inv X pins σ H' { s with heap := h', gens := g', drawn := d', toks := t' } := by
  have neL : ∀ b o, X.s₀.heap.get? b = some o -> b ≠ X.env.locals := fun b o e => Nat.ne_of_lt (Nat.lt_of_lt_of_le (Heap.lt_size e) I.ok.above)
  have neC : ∀ b o, X.s₀.heap.get? b = some o -> b ∉ X.ex -> b ∉ ch := fun b o e hx hb => by
    rcases (hch b hb).1 with z | z
    . exact hx z
    . exact absurd (Nat.lt_of_lt_of_le (Heap.lt_size e) z) (Nat.lt_irrefl _)
  have cellK : ∀ x c, X.env.cells.lookup x = some c -> ∀ v, s.heap.IsCell c v -> h'.IsCell c v := fun x c e v ⟨o, ho, hd⟩ => by
    have nch : c ∉ ch := fun z => (hch c z).2.2.1 x c e rfl
    by_cases hc : c ∈ X.fs
    . obtain ⟨sl, q⟩ := slot c o (I.cne x c e) hc nch ho (I.freeC x c e)
      exact ⟨_, q, hd⟩
    . exact ⟨o, keep c o (I.cne x c e) hc nch ho (I.freeC x c e), hd⟩
  refine ⟨I.ok, I.os, hg, ⟨fun b o e n hb hx => ?_, fun b o e n hb hx => ?_, fun b o e n hx => ?_, fun b o e hx => ?_, fun b xs e => tups b xs (I.base.tups b xs e), fun b o xs e => frzs b o xs (I.base.frzs b o xs e), fun b ps e => ?_⟩, ?_, fun x c e => ?_, ?_, fun x c e => ?_, fun p hp => ?_, hok, I.len⟩
  . exact keep b o (neL b o e) hb (neC b o e hx) (I.base.keep b o e n hb hx) (I.base.free b o e n hx)
  . obtain ⟨sl, e1⟩ := I.base.slot b o e n hb hx
    obtain ⟨sl', e2⟩ := slot b _ (neL b o e) hb (neC b o e hx) e1 (I.base.free b o e n hx)
    exact ⟨sl', e2⟩
  . obtain ⟨o', e1⟩ := I.base.there b o e hx
    exact free b o' (neC b o e hx) e1 (I.base.free b o e n hx)
  . obtain ⟨o', e1⟩ := I.base.there b o e hx
    exact there b o' (neC b o e hx) e1
  . obtain ⟨m1, e1⟩ := I.base.tbls b ps e
    obtain ⟨m2, e2⟩ := tbls b _ e1
    exact ⟨m1 ++ m2, by rw [e2, Array.append_assoc]⟩
  . obtain ⟨m, hn, hl⟩ := I.loc
    refine ⟨m, ns m hn, fun i x v e1 e2 e3 => ?_⟩
    obtain ⟨u, r, l⟩ := hl i x v e1 e2 e3
    refine ⟨u, r, ?_⟩
    rcases l with l | ⟨k, c, e, z⟩
    . exact .inl l
    . exact .inr ⟨k, c, e, cellK x c e _ z⟩
  . obtain ⟨v, z⟩ := I.cell x c e
    exact ⟨v, cellK x c e v z⟩
  . obtain ⟨m, ⟨o, _, _, ho, _⟩, _⟩ := I.loc
    exact free _ o (fun z => (hch _ z).2.1 rfl) ho I.free
  . obtain ⟨v, o, ho, hd⟩ := I.cell x c e
    exact free c o (fun z => (hch c z).2.2.1 x c e rfl) ho (I.freeC x c e)
  . obtain ⟨e, n, ne, nf, d⟩ := I.pin p hp
    have nch : p.1 ∉ ch := fun z => (hch p.1 z).2.2.2 p hp rfl
    exact ⟨keep p.1 p.2 ne nf nch e n, free p.1 p.2 nch e n, ne, nf, d⟩
theorem Inv.un {t' : Nat} (I : Inv X pins σ H s) (u : Un X.fs [] H H' s.heap h') (hok : HOk X.prog X.w H' h') : Inv X pins σ H' { s with heap := h', toks := t' } := by
  obtain ⟨m, ⟨o, es, ep, ho, r⟩, _⟩ := id I.loc
  obtain ⟨sl, hL⟩ := u.any ho I.free (by simp)
  exact I.step (g' := s.gens) (d' := s.drawn) (ch := []) (fun _ z => nomatch z) (fun b o _ hb _ e n => u.keep b o e n hb (by simp)) (fun b o _ hb _ e n => u.slot b o e n hb (by simp)) (fun b o _ e n => u.free b o e n (by simp)) (fun b o _ e => u.there b o e (by simp)) u.tups u.frzs u.tbls (fun m' hm => by
    obtain ⟨o', es', ep', ho', r'⟩ := hm
    rw [ho] at ho'; cases ho'
    exact ⟨_, es', ep', hL, r'⟩) hok I.bare
theorem Inv.call {g' : Array GenState} {t' : Nat} {d' : Drawn} {ch : List Addr} (I : Inv X pins σ H s) (u : Un (frs X.stack) ch H H' s.heap h') (hok : HOk X.prog X.w H' h') (hg : AllBare g')
    (hch : ∀ b ∈ ch, (b ∈ X.ex \/ X.s₀.heap.objs.size <= b) /\ b ≠ X.env.locals /\ (∀ x c, X.env.cells.lookup x = some c -> c ≠ b) /\ ∀ p ∈ X.pn ++ pins, p.1 ≠ b) :
    Inv X pins σ H' { s with heap := h', gens := g', drawn := d', toks := t' } := by
  obtain ⟨m, ⟨o, es, ep, ho, r⟩, _⟩ := id I.loc
  obtain ⟨sl, hL⟩ := u.any ho I.free fun z => (hch _ z).2.1 rfl
  exact I.step (ch := ch) hch (fun b o hL hb hc e n => u.keep b o e n (fun z => (List.mem_cons.mp (I.stkSub b z)).elim hL hb) hc) (fun b o _ _ hc e n => u.any e n hc) (fun b o hc e n => u.free b o e n hc) (fun b o hc e => u.there b o e hc) u.tups u.frzs u.tbls (fun m' hm => by
    obtain ⟨o', es', ep', ho', r'⟩ := hm
    rw [ho] at ho'; cases ho'
    exact ⟨_, es', ep', hL, r'⟩) hok hg
theorem Inv.turned {t' : Nat} {it : Addr} (I : Inv X pins σ H s) (k : ∀ b o, b ≠ it -> s.heap.get? b = some o -> h'.get? b = some o) (hn : H it = none) (hL : it ≠ X.env.locals)
    (h1 : it ∈ X.ex \/ X.s₀.heap.objs.size <= it) (h2 : ∀ x c, X.env.cells.lookup x = some c -> c ≠ it) (h3 : ∀ p ∈ X.pn ++ pins, p.1 ≠ it) : Inv X pins σ H { s with heap := h', toks := t' } := by
  have nit : ∀ b u, H b = some u -> b ≠ it := fun b u e z => by rw [z, hn] at e; cases e
  refine I.step (g' := s.gens) (d' := s.drawn) (ch := [it]) (fun b hb => ?_) (fun b o _ _ hc e _ => k b o (fun z => hc (by simp [z])) e) (fun b o _ _ hc e _ => ⟨o.slots, k b o (fun z => hc (by simp [z])) e⟩) (fun _ _ _ _ n => n)
    (fun b o hc e => ⟨o, k b o (fun z => hc (by simp [z])) e⟩) (fun _ _ e => e) (fun _ _ _ e => e) (fun b ps e => ⟨#[], by rw [e]; simp⟩) (fun m hm => ?_) (fun b u e => ?_) I.bare
  . have e : b = it := by simpa using hb
    subst e
    exact ⟨h1, hL, h2, h3⟩
  . obtain ⟨o, es, ep, ho, r⟩ := hm
    exact ⟨o, es, ep, k _ o (Ne.symm hL) ho, r⟩
  . refine (I.hok b u e).stay (fun c v hc q => k c v ?_ q) (fun _ q => q) fun _ _ q => q
    rcases hc with z | z
    . rw [z]; exact nit b u e
    . exact nit c _ z
theorem Inv.tok (I : Inv X pins σ H s) (t : Nat) : Inv X pins σ H { s with toks := t } := I.un (h' := s.heap) (t' := t) Un.refl I.hok
theorem Inv.kept {t' : Nat} (I : Inv X pins σ H s) (k : ∀ b u, s.heap.get? b = some u -> h'.get? b = some u) : Inv X pins σ H { s with heap := h', toks := t' } := I.un (Un.kept k) (I.hok.kept k)
theorem Inv.laid {a : Addr} {o : HO} {t' : Nat} (I : Inv X pins σ H s) (k : ∀ b u, s.heap.get? b = some u -> h'.get? b = some u) (hp : s.heap.objs.size <= a) (new : ObjOk X.prog X.w (upd H a o) h' a o) :
    Inv X pins σ (upd H a o) { s with heap := h', toks := t' } := I.un (Un.laid k hp (I.hok.fresh hp)) (I.hok.laid k hp new)
theorem Inv.write {x e : Addr} {o : HO} {t' : Nat} (I : Inv X pins σ H s) (mu : Mut (H x)) (he : e = x \/ H e = some (.own x)) (k : ∀ b u, b ≠ e -> s.heap.get? b = some u -> h'.get? b = some u) (heo : ∃ u, h'.get? e = some u)
    (new : ObjOk X.prog X.w (upd H x o) h' x o) : Inv X pins σ (upd H x o) { s with heap := h', toks := t' } := I.un (Un.write mu he k heo) (I.hok.write mu he k heo new)
theorem Inv.pins_of {pins' : List (Addr × Obj)} (I : Inv X pins σ H s) (h : ∀ p ∈ pins', s.heap.get? p.1 = some p.2 /\ H p.1 = none /\ p.1 ≠ X.env.locals /\ p.1 ∉ X.fs /\ ∀ v, p.2.data ≠ .cell v) : Inv X pins' σ H s :=
  ⟨I.ok, I.os, I.bare, I.base, I.loc, I.cell, I.free, I.freeC, fun p hp => (List.mem_append.mp hp).elim (fun z => I.pin p (List.mem_append_left _ z)) (h p), I.hok, I.len⟩
theorem nodup_ix {N : List Str} (hN : N.Nodup) {i j : Nat} {x : Str} (a : N[i]? = some x) (b : N[j]? = some x) : i = j := by
  obtain ⟨h1, e1⟩ := List.getElem?_eq_some_iff.mp a
  obtain ⟨h2, e2⟩ := List.getElem?_eq_some_iff.mp b
  exact (List.getElem_inj hN).mp (e1.trans e2.symm)
theorem store_ok2 {M : Model} {A : Around} {E : Value -> Shared -> Prop} {i : Nat} {x : Str} {v : V} {u : Value} {Q : Unit -> Shared -> Prop} (I : Inv X pins σ H s) (hN : X.N.Nodup) (hi : X.N[i]? = some x) (hx : Loc X.env.scope x) (r : RelV v u)
    (h : ∀ s', Inv X pins (σ.set i (some v)) H s' -> (∃ a, Heap.SameBut a s.heap s'.heap /\ (a = X.env.locals \/ X.env.cells.lookup x = some a)) -> Q () s') (hf : X.fn x = true \/ X.env.scope.names.lookup x = some .local := by first | exact .inl rfl | exact .inr rfl | assumption) : wpAny M A (storeName X.env x u) Q E s := by
  obtain ⟨m, hn, hl⟩ := id I.loc
  have hcls : (X.env.scope.kind == .class || (X.env.scope.kind == .module && X.env.locals != X.env.globals)) = false := by rw [I.ok.kind]; rfl
  have hiσ : i < σ.length := by rw [I.len]; exact (List.getElem?_eq_some_iff.mp hi).1
  have cne := I.cne
  have tracked : ∀ {a : Addr} {h' : Heap}, (∃ o, s.heap.get? a = some o /\ H a = none) -> Heap.SameBut a s.heap h' -> HOk X.prog X.w H h' := fun {a h'} ha hs b ob e => by
    obtain ⟨_, _, hfree⟩ := ha
    refine (I.hok b ob e).stay (fun c w' hc q => (hs.2 c ?_).trans q) (fun _ q => q) fun _ _ q => q
    rintro rfl
    rcases hc with rfl | hc
    . rw [hfree] at e; cases e
    . rw [hfree] at hc; cases hc
  rcases hx with hk | hk
  . refine wpAny_storeName_local hk hn (fun h' hn' hs => ?_) hcls
    obtain ⟨oL, _, _, hoL, _⟩ := id hn
    refine h _ ⟨I.ok, I.os, I.bare, ⟨fun b o e n hb hx => ?_, fun b o e n hb hx => ?_, I.base.free, fun b o e hx => ?_, I.base.tups, I.base.frzs, I.base.tbls⟩, ⟨_, hn', fun j y v' e1 e2 e3 => ?_⟩, fun y c e => ?_, I.free, I.freeC, fun p hp => ?_, tracked ⟨oL, hoL, I.free⟩ hs, by simpa using I.len⟩ ⟨_, hs, .inl rfl⟩
    . exact (hs.2 b (Nat.ne_of_lt (Nat.lt_of_lt_of_le (Heap.lt_size e) I.ok.above))).trans (I.base.keep b o e n hb hx)
    . obtain ⟨sl, e1⟩ := I.base.slot b o e n hb hx
      exact ⟨sl, (hs.2 b (Nat.ne_of_lt (Nat.lt_of_lt_of_le (Heap.lt_size e) I.ok.above))).trans e1⟩
    . obtain ⟨o', e1⟩ := I.base.there b o e hx
      exact ⟨o', (hs.2 b (Nat.ne_of_lt (Nat.lt_of_lt_of_le (Heap.lt_size e) I.ok.above))).trans e1⟩
    . by_cases hj : j = i
      . subst hj
        rw [hi] at e1; cases e1
        rw [List.getElem?_set_self hiσ] at e2
        cases e2
        exact ⟨u, r, .inl ⟨hk, by simp⟩⟩
      . rw [List.getElem?_set_ne (Ne.symm hj)] at e2
        obtain ⟨u', r', q⟩ := hl j y v' e1 e2 e3
        refine ⟨u', r', ?_⟩
        rcases q with ⟨k, e⟩ | ⟨k, c, e, z⟩
        . refine .inl ⟨k, ?_⟩
          have : y ≠ x := fun e => hj (nodup_ix hN e1 (e ▸ hi))
          simp [this, e]
        . exact .inr ⟨k, c, e, z.sameBut hs (cne y c e)⟩
    . obtain ⟨w', z⟩ := I.cell y c e
      exact ⟨w', z.sameBut hs (cne y c e)⟩
    . obtain ⟨e, n, ne, nf, d⟩ := I.pin p hp
      exact ⟨(hs.2 p.1 ne).trans e, n, ne, nf, d⟩
  . have hfn : X.fn x = true := by
      rcases hf with z | z
      . exact z
      . rw [z] at hk; cases hk
    obtain ⟨c, hc⟩ := I.ok.has x (.inl hk)
    obtain ⟨w', z⟩ := I.cell x c hc
    refine wpAny_storeName_cell I.ok.kind hk hc z (fun h' hc' hs => ?_)
    obtain ⟨oc, hoc, hocd⟩ := id z
    refine h { s with heap := h' } ⟨I.ok, I.os, I.bare, ⟨fun b o e n hb hx => ?_, fun b o e n hb hx => ?_, I.base.free, fun b o e hx => ?_, I.base.tups, I.base.frzs, I.base.tbls⟩, ⟨m, hn.sameBut hs (Ne.symm (cne x c hc)), fun j y v' e1 e2 e3 => ?_⟩, fun y c' e => ?_, I.free, I.freeC, fun p hp => ?_, tracked ⟨oc, hoc, I.freeC x c hc⟩ hs, by simpa using I.len⟩ ⟨c, hs, .inr hc⟩
    . exact (hs.2 b (Nat.ne_of_lt (Nat.lt_of_lt_of_le (Heap.lt_size e) (I.ok.cab x c hfn hc)))).trans (I.base.keep b o e n hb hx)
    . obtain ⟨sl, e1⟩ := I.base.slot b o e n hb hx
      exact ⟨sl, (hs.2 b (Nat.ne_of_lt (Nat.lt_of_lt_of_le (Heap.lt_size e) (I.ok.cab x c hfn hc)))).trans e1⟩
    . obtain ⟨o', e1⟩ := I.base.there b o e hx
      exact ⟨o', (hs.2 b (Nat.ne_of_lt (Nat.lt_of_lt_of_le (Heap.lt_size e) (I.ok.cab x c hfn hc)))).trans e1⟩
    . by_cases hj : j = i
      . subst hj
        rw [hi] at e1; cases e1
        rw [List.getElem?_set_self hiσ] at e2
        cases e2
        exact ⟨u, r, .inr ⟨.inl hk, c, hc, hc'⟩⟩
      . rw [List.getElem?_set_ne (Ne.symm hj)] at e2
        obtain ⟨u', r', q⟩ := hl j y v' e1 e2 e3
        refine ⟨u', r', ?_⟩
        rcases q with q | ⟨k, c', e, z'⟩
        . exact .inl q
        . refine .inr ⟨k, c', e, z'.sameBut hs ?_⟩
          rintro rfl
          exact hj (nodup_ix hN e1 (I.ok.inj _ _ _ e hc ▸ hi))
    . by_cases hcc : c' = c
      . subst hcc; exact ⟨_, hc'⟩
      . obtain ⟨w2, z2⟩ := I.cell y c' e
        exact ⟨w2, z2.sameBut hs hcc⟩
    . obtain ⟨e, n, ne, nf, d⟩ := I.pin p hp
      refine ⟨(hs.2 p.1 ?_).trans e, n, ne, nf, d⟩
      intro q
      rw [q, hoc] at e
      have q' : oc = p.2 := Option.some.inj e
      exact d w' (by rw [<- q']; exact hocd)
theorem store_ok {M : Model} {A : Around} {E : Value -> Shared -> Prop} {i : Nat} {x : Str} {v : V} {u : Value} {Q : Unit -> Shared -> Prop} (I : Inv X pins σ H s) (hN : X.N.Nodup) (hi : X.N[i]? = some x) (hx : Loc X.env.scope x) (r : RelV v u)
    (h : ∀ s', Inv X pins (σ.set i (some v)) H s' -> Q () s') (hf : X.fn x = true \/ X.env.scope.names.lookup x = some .local := by first | exact .inl rfl | exact .inr rfl | assumption) : wpAny M A (storeName X.env x u) Q E s :=
  store_ok2 I hN hi hx r (fun s' I' _ => h s' I') hf
theorem Inv.call' {s' : Shared} {ch : List Addr} (I : Inv X pins σ H s) (ho : s'.os = s.os) (u : Un (frs X.stack) ch H H' s.heap s'.heap) (hok : HOk X.prog X.w H' s'.heap) (hg : AllBare s'.gens)
    (hch : ∀ b ∈ ch, (b ∈ X.ex \/ X.s₀.heap.objs.size <= b) /\ b ≠ X.env.locals /\ (∀ x c, X.env.cells.lookup x = some c -> c ≠ b) /\ ∀ p ∈ X.pn ++ pins, p.1 ≠ b) : Inv X pins σ H' s' := by
  obtain ⟨h', g', d', t', o'⟩ := s'
  have e : o' = s.os := ho
  subst e
  exact I.call (g' := g') (t' := t') (d' := d') u hok hg hch
end
abbrev XK := Value -> Option Addr -> Hp -> Prop
abbrev St := List (Option V)
abbrev VK := V -> Hp -> Prop
abbrev TE := St -> Hp -> VK -> Prop
abbrev TT := St -> Hp -> (Bool -> Hp -> Prop) -> Prop
abbrev TA := St -> Hp -> (List V -> Hp -> Prop) -> Prop
structure Ends where
  nx : St -> Hp -> Prop
  rt : VK
  bk : St -> Hp -> Prop := fun _ _ => False
  ct : St -> Hp -> Prop := fun _ _ => False
abbrev TS := Ends -> St -> Hp -> Prop
def EP (X : Cx) (pins : List (Addr × Obj)) (σ : St) (Q : VK) (u : Value) (s' : Shared) : Prop := ∃ v H', Inv X pins σ H' s' /\ RelV v u /\ Q v H'
def TP (X : Cx) (pins : List (Addr × Obj)) (σ : St) (Q : Bool -> Hp -> Prop) (b : Bool) (s' : Shared) : Prop := ∃ H', Inv X pins σ H' s' /\ Q b H'
def AP (X : Cx) (pins : List (Addr × Obj)) (σ : St) (Q : List V -> Hp -> Prop) (us : List Value) (s' : Shared) : Prop := ∃ vs H', Inv X pins σ H' s' /\ Vals vs us /\ Q vs H'
def SP (X : Cx) (pins : List (Addr × Obj)) (D : Ends) (f : Flow) (s' : Shared) : Prop :=
  match f with
  | .next => ∃ σ' H', Inv X pins σ' H' s' /\ D.nx σ' H'
  | .brk => ∃ σ' H', Inv X pins σ' H' s' /\ D.bk σ' H'
  | .cont => ∃ σ' H', Inv X pins σ' H' s' /\ D.ct σ' H'
  | .ret u => ∃ v σ' H', Inv X pins σ' H' s' /\ RelV v u /\ D.rt v H'
def PE (X : Cx) (e : Expr) (t : TE) : Prop :=
  ∀ (pins : List (Addr × Obj)) (s : Shared) (σ : St) (H : Hp) (Q : VK), Inv X pins σ H s -> t σ H Q -> wpAny (model X.prog X.w) X.A (eval e X.env) (EP X pins σ Q) X.xe s
def PT (X : Cx) (e : Expr) (t : TT) : Prop :=
  ∀ (pins : List (Addr × Obj)) (s : Shared) (σ : St) (H : Hp) (Q : Bool -> Hp -> Prop), Inv X pins σ H s -> t σ H Q -> wpAny (model X.prog X.w) X.A (isTrue e X.env (eval e X.env)) (TP X pins σ Q) X.xe s
def PW (X : Cx) (e : Expr) (t : TT) : Prop :=
  ∀ (whole : Sem Value) (pins : List (Addr × Obj)) (s : Shared) (σ : St) (H : Hp) (Q : Bool -> Hp -> Prop), Inv X pins σ H s -> t σ H Q -> wpAny (model X.prog X.w) X.A (isTrue e X.env whole) (TP X pins σ Q) X.xe s
theorem PW.pt {X : Cx} {e : Expr} {t : TT} (h : PW X e t) : PT X e t := h _
def PA (X : Cx) (es : List Expr) (t : TA) : Prop :=
  ∀ (pos : Pos) (pins : List (Addr × Obj)) (s : Shared) (σ : St) (H : Hp) (Q : List V -> Hp -> Prop), Inv X pins σ H s -> t σ H Q -> wpAny (model X.prog X.w) X.A (spliced (backTo pos (starEach es X.env))) (AP X pins σ Q) X.xe s
def PS (X : Cx) (st : Stmt) (t : TS) : Prop :=
  ∀ (pins : List (Addr × Obj)) (s : Shared) (σ : St) (H : Hp) (D : Ends), Inv X pins σ H s -> t D σ H -> wpAny (model X.prog X.w) X.A (exec st X.env) (SP X pins D) X.xe s
def PSs (X : Cx) (st : List Stmt) (t : TS) : Prop :=
  ∀ (pins : List (Addr × Obj)) (s : Shared) (σ : St) (H : Hp) (D : Ends), Inv X pins σ H s -> t D σ H -> wpAny (model X.prog X.w) X.A (execs st X.env) (SP X pins D) X.xe s
theorem thn {α : Type} {t : Sem α} {Q Q' : α -> Shared -> Prop} {M : Model} {A : Around} {E : Value -> Shared -> Prop} {s : Shared} (h : wpAny M A t Q E s) (hQ : ∀ a s, Q a s -> Q' a s) : wpAny M A t Q' E s := wpAny_mono h hQ fun _ _ x => x
end L2
namespace L2
open PySem PySem.Spec PyProof.Rows
section
variable {X : Cx}
theorem bin {a b : Expr} {ta tb : TE} (ha : PE X a ta) (hb : PE X b tb) {pins : List (Addr × Obj)} {s : Shared} {σ : St} {H : Hp} {R : V -> V -> Hp -> Prop} (I : Inv X pins σ H s) (h : ta σ H fun x H1 => tb σ H1 fun y H2 => R x y H2)
    {α : Type} {Q : α -> Shared -> Prop} {f : Value -> Value -> Sem α}
    (hf : ∀ v u s2 x y H2, Inv X pins σ H2 s2 -> RelV x v -> RelV y u -> R x y H2 -> wpAny (model X.prog X.w) X.A (f v u) Q X.xe s2) :
    wpAny (model X.prog X.w) X.A (eval a X.env) (fun v s₁ => wpAny (model X.prog X.w) X.A (eval b X.env) (fun u s₂ => wpAny (model X.prog X.w) X.A (f v u) Q X.xe s₂) X.xe s₁) X.xe s := by
  refine thn (ha pins s σ H _ I h) fun v s1 ⟨x, H1, I1, r1, q1⟩ => ?_
  refine thn (hb pins s1 σ H1 _ I1 q1) fun u s2 ⟨y, H2, I2, r2, q2⟩ => ?_
  exact hf v u s2 x y H2 I2 r1 r2 q2
def tVar (i : Nat) : TE := fun σ H Q => ∃ v, σ[i]? = some (some v) /\ Q v H
def tC (v : V) : TE := fun _ H Q => Q v H
theorem pe_var {i : Nat} {x : Str} {pos : Pos} (hN : X.N[i]? = some x) (hv : Vis X.env.scope x) (hd : (x == ("__debug__" : Str)) = false := by decide) (hcd : (x == ("__classdict__" : Str)) = false := by decide) : PE X (.Name x pos) (tVar i) := by
  intro pins s σ H Q I h
  obtain ⟨v, e, h⟩ := h
  obtain ⟨m, hn, hl⟩ := I.loc
  obtain ⟨u, r, l⟩ := hl i x v hN e hv
  have fin : EP X pins σ Q u s := ⟨v, H, I, r, h⟩
  rcases l with ⟨hk, hm⟩ | ⟨hk, c, hc, hcell⟩
  . exact wpAny_Name (wpAny_loadName_local I.ok.kind hk hn hm fin) hd
  . rcases hk with hk | hk
    . exact wpAny_Name (wpAny_loadName_cell I.ok.kind hk hc hcell fin) hd
    . exact wpAny_Name (wpAny_loadName_free I.ok.kind hk hc hcell fin hcd) hd
theorem pe_int {i j pos} : PE X (.Constant (.int i) j pos) (tC (.int i)) := fun _ _ _ H _ I h => wpAny_Constant_int ⟨.int i, H, I.tok _, ⟨_, rfl⟩, h⟩
theorem pe_bl {b j pos} : PE X (.Constant (.bool b) j pos) (tC (.bl b)) := fun _ _ _ H _ I h => Constant_bool ⟨.bl b, H, I, rfl, h⟩
theorem pe_non {j pos} : PE X (.Constant .none j pos) (tC .non) := fun _ _ _ H _ I h => Constant_none ⟨.non, H, I, rfl, h⟩
theorem pe_str {x j pos} : PE X (.Constant (.str x) j pos) (tC (.str x)) := fun _ _ _ H _ I h => Calls.Constant_str ⟨.str x, H, I.tok _, ⟨_, rfl⟩, h⟩
def Gl (X : Cx) (x : Str) : Prop := X.env.kindOf x = some .globalImplicit
theorem ld_glob {E : Value -> Shared -> Prop} {pins : List (Addr × Obj)} {s : Shared} {σ : St} {H : Hp} {x : Str} {u : Value} {pos : Pos} {Q : Value -> Shared -> Prop} (I : Inv X pins σ H s) (hg : Gl X x) (hm : X.mg x = some u) (h : Q u s)
    (hd : (x == ("__debug__" : Str)) = false := by decide) : wpAny (model X.prog X.w) X.A (eval (.Name x pos) X.env) Q E s :=
  Calls.Name_function_global I.ok.kind hg (Calls.loadGlobal_global (by rw [I.ok.glob]; exact I.mod.glob.keeps I.bk) hm h) hd
theorem ld_blt {E : Value -> Shared -> Prop} {pins : List (Addr × Obj)} {s : Shared} {σ : St} {H : Hp} {x : Str} {u : Value} {pos : Pos} {Q : Value -> Shared -> Prop} (I : Inv X pins σ H s) (hg : Gl X x) (hm : X.mg x = none) (hv : bootBuiltins x = some u) (h : Q u s)
    (hn : x ≠ "__name__" := by decide) (hd : (x == ("__debug__" : Str)) = false := by decide) : wpAny (model X.prog X.w) X.A (eval (.Name x pos) X.env) Q E s := by
  obtain ⟨mb, h1, h2⟩ := I.mod.blt
  exact Calls.Name_function_global I.ok.kind hg (Calls.loadGlobal_builtin (by rw [I.ok.glob]; exact I.mod.glob.keeps I.bk) hm (by rw [I.ok.blt]; exact h1.keeps I.bk) ((h2 x hn).trans hv) h) hd
theorem pe_glob {x : Str} {v : V} {u : Value} {pos : Pos} (hg : Gl X x) (hm : X.mg x = some u) (r : RelV v u) (hd : (x == ("__debug__" : Str)) = false := by decide) : PE X (.Name x pos) (tC v) :=
  fun _ _ _ H _ I h => ld_glob I hg hm ⟨v, H, I, r, h⟩ hd
theorem pe_bltn {x : Str} {v : V} {u : Value} {pos : Pos} (hg : Gl X x) (hm : X.mg x = none) (hv : bootBuiltins x = some u) (r : RelV v u) (hn : x ≠ "__name__" := by decide) (hd : (x == ("__debug__" : Str)) = false := by decide) : PE X (.Name x pos) (tC v) :=
  fun _ _ _ H _ I h => ld_blt I hg hm hv ⟨v, H, I, r, h⟩ hn hd
variable {a b : Expr} {ta tb : TE} {pos : Pos}
def tB (t : TE) : TT := fun σ H Q => t σ H fun x H1 => ∃ c, x = .bl c /\ Q c H1
theorem pt_val {e : Expr} {t : TE} (h : PE X e t) (he : ∀ whole, isTrue e X.env whole = (do let v <- whole; standAt e.pos; holding [v] (truthy v)) := by intro _; rfl) : PT X e (tB t) := by
  intro pins s σ H Q I hw
  refine isTrue_plain (thn (h pins s σ H _ I hw) fun v s1 ⟨x, H1, I1, r1, q1⟩ => ?_) (he _)
  obtain ⟨d, rfl, q⟩ := q1
  cases r1
  exact wpAny_truthy_bool ⟨H1, I1, q⟩
variable {tA tB' : TT} {rest : List Expr}
def tAnd (t u : TT) : TT := fun σ H Q => t σ H fun c H1 => if c = true then u σ H1 Q else Q false H1
def tOr (t u : TT) : TT := fun σ H Q => t σ H fun c H1 => if c = true then Q true H1 else u σ H1 Q
def tNot (t : TT) : TT := fun σ H Q => t σ H fun c H1 => Q (!c) H1
theorem pw_and1 (ha : PT X a tA) : PW X (.BoolOp .And [a] pos) tA := by
  intro wh pins s σ H Q I h
  refine isTrue_and (thn (ha pins s σ H Q I h) fun c s1 e => ?_)
  cases c with
  | true => exact isTrue_and_nil e
  | false => exact e
theorem pw_or1 (ha : PT X a tA) : PW X (.BoolOp .Or [a] pos) tA := by
  intro wh pins s σ H Q I h
  refine isTrue_or (thn (ha pins s σ H Q I h) fun c s1 e => ?_)
  cases c with
  | false => exact isTrue_or_nil e
  | true => exact e
theorem pw_and (ha : PT X a tA) (hb : PW X (.BoolOp .And (b :: rest) pos) tB') : PW X (.BoolOp .And (a :: b :: rest) pos) (tAnd tA tB') := by
  intro wh pins s σ H Q I h
  refine isTrue_and (thn (ha pins s σ H _ I h) fun c s1 ⟨H1, I1, q1⟩ => ?_)
  cases c with
  | true => exact hb wh pins s1 σ H1 Q I1 q1
  | false => exact ⟨H1, I1, q1⟩
theorem pw_or (ha : PT X a tA) (hb : PW X (.BoolOp .Or (b :: rest) pos) tB') : PW X (.BoolOp .Or (a :: b :: rest) pos) (tOr tA tB') := by
  intro wh pins s σ H Q I h
  refine isTrue_or (thn (ha pins s σ H _ I h) fun c s1 ⟨H1, I1, q1⟩ => ?_)
  cases c with
  | true => exact ⟨H1, I1, q1⟩
  | false => exact hb wh pins s1 σ H1 Q I1 q1
theorem pt_not (ha : PT X a tA) : PT X (.UnaryOp .Not a pos) (tNot tA) := by
  intro pins s σ H Q I h
  exact isTrue_not (ha pins s σ H (fun c H1 => Q (!c) H1) I h)
def tAndV (ta tb : TE) : TE := fun σ H Q => ta σ H fun x H1 => ∃ c, x = .bl c /\ if c = true then tb σ H1 Q else Q (.bl false) H1
def tOrV (ta tb : TE) : TE := fun σ H Q => ta σ H fun x H1 => ∃ c, x = .bl c /\ if c = true then Q (.bl true) H1 else tb σ H1 Q
def tNotV (ta : TE) : TE := fun σ H Q => ta σ H fun x H1 => ∃ c, x = .bl c /\ Q (.bl (!c)) H1
theorem pe_one {op} {t : TE} (h : PE X a t) : PE X (.BoolOp op [a] pos) t := fun pins s σ H Q I hw => BoolOp_one (h pins s σ H Q I hw)
theorem pe_and (ha : PE X a ta) (hb : PE X (.BoolOp .And (b :: rest) pos) tb) : PE X (.BoolOp .And (a :: b :: rest) pos) (tAndV ta tb) := by
  intro pins s σ H Q I h
  refine BoolOp_and (thn (ha pins s σ H _ I h) fun v s1 ⟨x, H1, I1, r1, q1⟩ => ?_)
  obtain ⟨c, rfl, q1⟩ := q1
  cases r1
  refine wpAny_truthy_bool ?_
  cases c with
  | true => exact hb pins s1 σ H1 Q I1 q1
  | false => exact ⟨.bl false, H1, I1, rfl, q1⟩
theorem pe_or (ha : PE X a ta) (hb : PE X (.BoolOp .Or (b :: rest) pos) tb) : PE X (.BoolOp .Or (a :: b :: rest) pos) (tOrV ta tb) := by
  intro pins s σ H Q I h
  refine BoolOp_or (thn (ha pins s σ H _ I h) fun v s1 ⟨x, H1, I1, r1, q1⟩ => ?_)
  obtain ⟨c, rfl, q1⟩ := q1
  cases r1
  refine wpAny_truthy_bool ?_
  cases c with
  | false => exact hb pins s1 σ H1 Q I1 q1
  | true => exact ⟨.bl true, H1, I1, rfl, q1⟩
theorem pe_not (ha : PE X a ta) : PE X (.UnaryOp .Not a pos) (tNotV ta) := by
  intro pins s σ H Q I h
  refine UnaryOp_ (thn (ha pins s σ H _ I h) fun v s1 ⟨x, H1, I1, r1, q1⟩ => ?_)
  obtain ⟨c, rfl, q1⟩ := q1
  cases r1
  exact not_of (wpAny_truthy_bool ⟨.bl (!c), H1, I1, rfl, q1⟩)
end
end L2
namespace L2
open PySem PySem.Spec PyProof.Rows
def SqL (K : PySem.W.Frag) (H : Hp) (a : Addr) (xs : List V) : Prop :=
  Rd H a (.lst xs) \/
    ∃ (o : Obj) (its : Array Value) (n : Nat), K.lookup a = some o /\ o.cls = .type "list" /\ o.dict = none /\ o.data = .seq its n /\ its.size <= sizeLine /\ Vals xs its.toList
def SqT (K : PySem.W.Frag) (H : Hp) (a : Addr) (xs : List V) : Prop :=
  Rd H a (.tup xs) \/
    ∃ (o : Obj) (its : Array Value) (n : Nat), K.lookup a = some o /\ o.cls = .type "tuple" /\ o.dict = none /\ o.data = .seq its n /\ its.size <= sizeLine /\ Vals xs its.toList
def absV : Value -> Option V
  | .none => some .non
  | .bool b => some (.bl b)
  | .int i _ => some (.int i)
  | .str x _ => some (.str x)
  | .bytes b _ => some (.byt b)
  | .float b _ => some (.flt b)
  | .ref a => some (.ref a)
  | .type n => some (.ty n)
  | _ => none
theorem RelV.abs {x : V} {u : Value} (r : RelV x u) : absV u = some x := by
  cases x with
  | non => cases r; rfl
  | bl _ => cases r; rfl
  | int _ => obtain ⟨t, rfl⟩ := r; rfl
  | str _ => obtain ⟨t, rfl⟩ := r; rfl
  | byt _ => obtain ⟨t, rfl⟩ := r; rfl
  | flt _ => obtain ⟨t, rfl⟩ := r; rfl
  | ref _ => cases r; rfl
  | ty _ => cases r; rfl
theorem RelV.inj {x y : V} {u : Value} (r : RelV x u) (q : RelV y u) : x = y := Option.some.inj (r.abs.symm.trans q.abs)
theorem Vals.inj : ∀ {xs ys : List V} {us : List Value}, Vals xs us -> Vals ys us -> xs = ys
  | _, _, _, .nil, .nil => rfl
  | _, _, _, .cons r t, .cons r' t' => by rw [r.inj r', Vals.inj t t']
section
variable {X : Cx} {pins : List (Addr × Obj)} {σ : St} {H : Hp} {s : Shared} {a : Addr} {xs ys : List V}
theorem SqL.of {K : PySem.W.Frag} (h : H a = some (.lst xs)) : SqL K H a xs := .inl (.inl h)
theorem SqT.of {K : PySem.W.Frag} (h : H a = some (.tup xs)) : SqT K H a xs := .inl (.inl h)
theorem Inv.list (I : Inv X pins σ H s) (h : SqL X.K H a xs) : ∃ its : List Value, Vals xs its /\ PlainL s.heap a its.toArray /\ xs.length <= sizeLine := by
  rcases h with h | ⟨o, its, n, hk, hc, hd, hs, hz, r⟩
  . obtain ⟨z, its, n, r, e⟩ := h.ok I.hok
    exact ⟨its, r, ⟨_, n, e, rfl, rfl, rfl⟩, z⟩
  . refine ⟨its.toList, r, ⟨o, n, I.kIn a o hk, hc, hd, by simpa using hs⟩, ?_⟩
    have e := r.length
    simp only [Array.length_toList] at e
    omega
theorem Inv.tuple (I : Inv X pins σ H s) (h : SqT X.K H a xs) : ∃ its : List Value, Vals xs its /\ IsTup s.heap a its.toArray /\ xs.length <= sizeLine := by
  rcases h with h | ⟨o, its, n, hk, hc, hd, hs, hz, r⟩
  . obtain ⟨z, its, r, p⟩ := h.ok I.hok
    exact ⟨its, r, p.1, z⟩
  . refine ⟨its.toList, r, ⟨o, I.kIn a o hk, hc, n, by simpa using hs⟩, ?_⟩
    have e := r.length
    simp only [Array.length_toList] at e
    omega
theorem Inv.tupN (I : Inv X pins σ H s) (h : SqT X.K H a xs) : ∃ o, s.heap.get? a = some o /\ o.cls = .type "tuple" /\ o.dict = none := by
  obtain h | ⟨o, _, _, hk, hc, hd, _⟩ := h
  . obtain ⟨z, its, r, ⟨o, e, c, _⟩, o2, e2, d⟩ := h.ok I.hok
    rw [e] at e2; cases e2
    exact ⟨o, e, c, d⟩
  . exact ⟨o, I.kIn a o hk, hc, hd⟩
theorem Inv.list_inj (I : Inv X pins σ H s) (h : SqL X.K H a xs) (h' : SqL X.K H a ys) : xs = ys := by
  obtain ⟨its, r, ⟨o, n, e, _, _, d⟩, _⟩ := I.list h
  obtain ⟨its', r', ⟨o', n', e', _, _, d'⟩, _⟩ := I.list h'
  rw [e] at e'; cases e'
  rw [d] at d'
  injection d' with d1 _
  have : its = its' := by simpa using congrArg Array.toList d1
  subst this
  exact r.inj r'
theorem Inv.tuple_inj (I : Inv X pins σ H s) (h : SqT X.K H a xs) (h' : SqT X.K H a ys) : xs = ys := by
  obtain ⟨its, r, ⟨o, e, _, n, d⟩, _⟩ := I.tuple h
  obtain ⟨its', r', ⟨o', e', _, n', d'⟩, _⟩ := I.tuple h'
  rw [e] at e'; cases e'
  rw [d] at d'
  injection d' with d1 _
  have : its = its' := by simpa using congrArg Array.toList d1
  subst this
  exact r.inj r'
end
abbrev Cx.wish (X : Cx) (E : Value -> Shared -> Prop) : Cx := { X with xe := E }
abbrev Cx.nox (X : Cx) : Cx := X.wish fun _ _ => False
theorem Cx.Ok.wish {X : Cx} (ok : X.Ok) (E : Value -> Shared -> Prop) : (X.wish E).Ok :=
  ⟨ok.mod, ok.kind, ok.glob, ok.blt, ok.above, ok.inj, ok.has, ok.cab, ok.hd, ok.frames, ok.stk, ok.exf, ok.bs, ok.bsz, ok.noex, ok.exfs, ok.funs, ok.frf⟩
theorem Cx.Ok.unwish {X : Cx} {E : Value -> Shared -> Prop} (ok : (X.wish E).Ok) : X.Ok :=
  ⟨ok.mod, ok.kind, ok.glob, ok.blt, ok.above, ok.inj, ok.has, ok.cab, ok.hd, ok.frames, ok.stk, ok.exf, ok.bs, ok.bsz, ok.noex, ok.exfs, ok.funs, ok.frf⟩
section
variable {X : Cx} {pins : List (Addr × Obj)} {σ : St} {H : Hp} {s : Shared} {E : Value -> Shared -> Prop}
theorem Inv.wish (I : Inv X pins σ H s) (E : Value -> Shared -> Prop) : Inv (X.wish E) pins σ H s := ⟨I.ok.wish E, I.os, I.bare, I.base, I.loc, I.cell, I.free, I.freeC, I.pin, I.hok, I.len⟩
theorem Inv.unwish (I : Inv (X.wish E) pins σ H s) : Inv X pins σ H s := ⟨I.ok.unwish, I.os, I.bare, I.base, I.loc, I.cell, I.free, I.freeC, I.pin, I.hok, I.len⟩
theorem SP.unwish {D : Ends} {f : Flow} {s' : Shared} (h : SP (X.wish E) pins D f s') : SP X pins D f s' := by
  cases f with
  | next => obtain ⟨σ', H', I, q⟩ := h; exact ⟨σ', H', I.unwish, q⟩
  | brk => obtain ⟨σ', H', I, q⟩ := h; exact ⟨σ', H', I.unwish, q⟩
  | cont => obtain ⟨σ', H', I, q⟩ := h; exact ⟨σ', H', I.unwish, q⟩
  | ret u => obtain ⟨v, σ', H', I, r, q⟩ := h; exact ⟨v, σ', H', I.unwish, r, q⟩
theorem PE.nox {e : Expr} {t : TE} (h : PE X.nox e t) : PE X e t := fun pins s σ H Q I hw =>
  wpAny_mono (h pins s σ H Q (I.wish _) hw) (fun _ _ ⟨v, H', I', r, q⟩ => ⟨v, H', I'.unwish, r, q⟩) fun _ _ z => False.elim z
theorem PT.nox {e : Expr} {t : TT} (h : PT X.nox e t) : PT X e t := fun pins s σ H Q I hw =>
  wpAny_mono (h pins s σ H Q (I.wish _) hw) (fun _ _ ⟨H', I', q⟩ => ⟨H', I'.unwish, q⟩) fun _ _ z => False.elim z
theorem PSs.nox {st : List Stmt} {t : TS} (h : PSs X.nox st t) : PSs X st t := fun pins s σ H D I hw =>
  wpAny_mono (h pins s σ H D (I.wish _) hw) (fun _ _ q => q.unwish) fun _ _ z => False.elim z
end
section
variable {X : Cx} {st : Stmt} {rest : List Stmt} {t u : TS} {e : Expr} {te : TE} {pos : Pos}
def tNext : TS := fun D σ H => D.nx σ H
def tSeq (t u : TS) : TS := fun D σ H => t { D with nx := u D } σ H
theorem pss_nil : PSs X [] tNext := fun _ _ σ H _ I h => wpAny_execs_nil ⟨σ, H, I, h⟩
theorem pss_cons (h1 : PS X st t) (h2 : PSs X rest u) : PSs X (st :: rest) (tSeq t u) := by
  intro pins s σ H D I h
  refine wpAny_execs_cons (thn (h1 pins s σ H { D with nx := u D } I h) fun f s1 q => ?_)
  cases f with
  | next =>
    obtain ⟨σ', H', I', q⟩ := q
    exact h2 pins s1 σ' H' D I' q
  | ret v => exact q
  | brk => exact q
  | cont => exact q
def tBreak : TS := fun D σ H => D.bk σ H
def tCont : TS := fun D σ H => D.ct σ H
theorem ps_pass : PS X (.Pass pos) tNext := fun _ _ σ H _ I h => wpAny_Pass ⟨σ, H, I, h⟩
theorem ps_break : PS X (.Break pos) tBreak := fun _ _ σ H _ I h => wpAny_Break ⟨σ, H, I, h⟩
theorem ps_continue : PS X (.Continue pos) tCont := fun _ _ σ H _ I h => wpAny_Continue ⟨σ, H, I, h⟩
theorem Inv.quiet {pins : List (Addr × Obj)} {σ : St} {H : Hp} {s : Shared} (I : Inv X pins σ H s) : interactive X.env = false := by simp [interactive, I.ok.kind]
def tDrop (te : TE) : TS := fun D σ H => te σ H fun _ H1 => D.nx σ H1
theorem ps_expr (he : PE X e te) (hs : swapsWith e none pos.line X.env = pure false := by rfl) : PS X (.Expr e pos) (tDrop te) := by
  intro pins s σ H D I h
  exact wpAny_Expr_any (thn (he pins s σ H _ I h) fun v s1 ⟨x, H1, I1, r1, q1⟩ => ⟨σ, H1, I1, q1⟩) I.quiet hs
def tRet (te : TE) : TS := fun D σ H => te σ H D.rt
theorem ps_ret (he : PE X e te) : PS X (.Return (some e) pos) (tRet te) := by
  intro pins s σ H D I h
  exact wpAny_Return_some (thn (he pins s σ H _ I h) fun v s1 ⟨x, H1, I1, r1, q1⟩ => ⟨x, σ, H1, I1, r1, q1⟩)
def tRetN : TS := fun D _ H => D.rt .non H
theorem ps_retN : PS X (.Return none pos) tRetN := fun _ _ σ H _ I h => wpAny_Return_none ⟨.non, σ, H, I, rfl, h⟩
def tIfS (c : TT) (t u : TS) : TS := fun D σ H => c σ H fun b H1 => if b = true then t D σ H1 else u D σ H1
theorem ps_if {c : Expr} {a b : List Stmt} {tc : TT} (hc : PT X c tc) (ha : PSs X a t) (hb : PSs X b u) : PS X (.If c a b pos) (tIfS tc t u) := by
  intro pins s σ H D I h
  refine wpAny_If (thn (hc pins s σ H _ I h) fun d s1 ⟨H1, I1, q1⟩ => ?_)
  cases d with
  | true => exact ha pins s1 σ H1 D I1 q1
  | false => exact hb pins s1 σ H1 D I1 q1
def tNever : TS := fun _ _ _ => False
theorem pss_never {sts : List Stmt} : PSs X sts tNever := fun _ _ _ _ _ _ h => h.elim
end
abbrev TG := V -> St -> Hp -> (St -> Hp -> Prop) -> Prop
abbrev TGs := List V -> St -> Hp -> (St -> Hp -> Prop) -> Prop
def PG (X : Cx) (target : Expr) (t : TG) : Prop :=
  ∀ (pins : List (Addr × Obj)) (s : Shared) (σ : St) (H : Hp) (v : V) (u : Value) (Q : St -> Hp -> Prop), Inv X pins σ H s -> RelV v u -> t v σ H Q ->
    wpAny (model X.prog X.w) X.A (assign target X.env u) (fun _ s' => ∃ σ' H', Inv X pins σ' H' s' /\ Q σ' H') X.xe s
def PGs (X : Cx) (ts : List Expr) (t : TGs) : Prop :=
  ∀ (pins : List (Addr × Obj)) (s : Shared) (σ : St) (H : Hp) (vs : List V) (us : List Value) (Q : St -> Hp -> Prop), Inv X pins σ H s -> Vals vs us -> t vs σ H Q ->
    wpAny (model X.prog X.w) X.A (assignInOrder ((assignEach ts X.env).map (·.2)) us) (fun _ s' => ∃ σ' H', Inv X pins σ' H' s' /\ Q σ' H') X.xe s
abbrev TSet := V -> V -> V -> Hp -> (Hp -> Prop) -> Prop
def PSet (X : Cx) (t : TSet) : Prop :=
  ∀ (pins : List (Addr × Obj)) (s : Shared) (σ : St) (H : Hp) (o i v : V) (ov iv u : Value) (Q : Hp -> Prop), Inv X pins σ H s -> RelV o ov -> RelV i iv -> RelV v u -> t o i v H Q ->
    wpAny (model X.prog X.w) X.A (setItem ov iv u) (fun _ s' => ∃ H', Inv X pins σ H' s' /\ Q H') X.xe s
abbrev TIp := V -> V -> Hp -> VK -> Prop
def PIp (X : Cx) (op : Operator) (t : TIp) : Prop :=
  ∀ (pins : List (Addr × Obj)) (s : Shared) (σ : St) (H : Hp) (x y : V) (v u : Value) (Q : VK), Inv X pins σ H s -> RelV x v -> RelV y u -> t x y H Q ->
    wpAny (model X.prog X.w) X.A (inplaceOp op v u) (EP X pins σ Q) X.xe s
section
variable {X : Cx} {pos : Pos}
def gName (i : Nat) : TG := fun v σ H Q => Q (σ.set i (some v)) H
theorem pg_name {i : Nat} {x : Str} (hN : X.N.Nodup) (hi : X.N[i]? = some x) (hx : Loc X.env.scope x) (hf : X.fn x = true \/ X.env.scope.names.lookup x = some .local := by first | exact .inl rfl | exact .inr rfl | assumption) : PG X (.Name x pos) (gName i) := by
  intro pins s σ H v u Q I r h
  exact wpAny_assign_Name (store_ok I hN hi hx r (fun s' I' => ⟨_, H, I', h⟩) hf)
def gNil : TGs := fun vs σ H Q => vs = [] /\ Q σ H
def gCons (t : TG) (u : TGs) : TGs := fun vs σ H Q => ∃ v r, vs = v :: r /\ t v σ H fun σ' H' => u r σ' H' Q
theorem pgs_nil : PGs X [] gNil := by
  intro pins s σ H vs us Q I r h
  obtain ⟨e, h⟩ := h
  subst e
  cases r
  exact assignInOrder_nil ⟨σ, H, I, h⟩
theorem pgs_cons {e : Expr} {es : List Expr} {t : TG} {u : TGs} (h1 : PG X e t) (h2 : PGs X es u)
    (hs : (assignEach (e :: es) X.env).map (·.2) = assign e X.env :: (assignEach es X.env).map (·.2) := by rfl) : PGs X (e :: es) (gCons t u) := by
  intro pins s σ H vs us Q I r h
  obtain ⟨v, vr, e1, h⟩ := h
  subst e1
  cases r with
  | cons r rr =>
    rw [hs]
    refine assignInOrder_cons (thn (h1 pins s σ H _ _ _ I r h) fun _ s1 ⟨σ1, H1, I1, q1⟩ => ?_)
    exact h2 pins s1 σ1 H1 _ _ Q I1 rr q1
def gTup (K : PySem.W.Frag) (n : Nat) (t : TGs) : TG := fun v σ H Q => ∃ a xs, v = .ref a /\ SqT K H a xs /\ xs.length = n /\ t xs σ H Q
theorem pg_tup {es : List Expr} {k : Nat} {t : TGs} {n : Nat} (hc : X.calm = true) (h : PGs X es t)
    (hn : (assignEach es X.env).length = n := by rfl) (hst : (assignEach es X.env).findIdx? (·.1) = none := by rfl) : PG X (.Tuple es k pos) (gTup X.K n t) := by
  intro pins s σ H v u Q I r hw
  obtain ⟨a, xs, e1, hq, hl, hw⟩ := hw
  subst e1
  cases r
  obtain ⟨its, rv, ht, hz⟩ := I.tuple hq
  refine assign_Tuple_tuple (I.ok.hd hc) ht (by simp [hn, <- hl, rv.length]) hst fun h' hx => ?_
  have I1 : Inv X pins σ H { s with heap := h' } := I.kept (t' := s.toks) fun b o e => hx b o (Nat.ne_of_lt (Heap.lt_size e)) e
  exact h pins _ σ H xs _ Q I1 (by simpa using rv) hw
def gSub (to ti : TE) (t : TSet) : TG := fun v σ H Q => to σ H fun o H1 => ti σ H1 fun i H2 => t o i v H2 fun H3 => Q σ H3
theorem pg_sub {o i : Expr} {to ti : TE} {t : TSet} (ho : PE X o to) (hi : PE X i ti) (hs : PSet X t)
    (ha : ∀ v, assign (.Subscript o i pos) X.env v = (do
      let ov <- holding [v] (eval o X.env)
      let iv <- holding [v, ov] (eval i X.env)
      standAt pos
      holding [v, ov, iv] (setItem ov iv v)
      release [v, ov, iv] []) := by intro _; rfl) : PG X (.Subscript o i pos) (gSub to ti t) := by
  intro pins s σ H v u Q I r h
  rw [ha]
  refine wpAny_bind (wpAny_holding (thn (ho pins s σ H _ I h) fun ov s1 ⟨x, H1, I1, r1, q1⟩ => ?_))
  refine wpAny_bind (wpAny_holding (thn (hi pins s1 σ H1 _ I1 q1) fun iv s2 ⟨y, H2, I2, r2, q2⟩ => ?_))
  refine wpAny_bind (wpAny_standAt (wpAny_bind (wpAny_holding (thn (hs pins s2 σ H2 x y v ov iv u _ I2 r1 r2 r q2) fun _ s3 ⟨H3, I3, q3⟩ => ?_))))
  exact wpAny_release ⟨σ, H3, I3, q3⟩
def tAsg (te : TE) (g : TG) : TS := fun D σ H => te σ H fun x H1 => g x σ H1 D.nx
theorem ps_asg {tg e : Expr} {te : TE} {g : TG} (he : PE X e te) (hg : PG X tg g) (hs : swapsWithSole [tg] e pos.line X.env = pure false := by rfl) (hw : swappedStores [tg] e X.env = pure none := by rfl)
    (h1 : (assignEach [tg] X.env).map (·.2) = [assign tg X.env] := by rfl) : PS X (.Assign [tg] e pos) (tAsg te g) := by
  intro pins s σ H D I h
  refine wpAny_Assign_stores (thn (he pins s σ H _ I h) fun v s1 ⟨x, H1, I1, r1, q1⟩ => ?_) hs hw
  rw [h1]
  exact thn (hg pins s1 σ H1 x v _ I1 r1 q1) fun _ s2 q => q
theorem ps_set {i : Nat} {x : Str} {e : Expr} {te : TE} {pos' : Pos} (hN : X.N.Nodup) (hi : X.N[i]? = some x) (hx : Loc X.env.scope x) (he : PE X e te) (hs : swapsWith e (some (.Name x pos')) pos.line X.env = pure false := by rfl) (hf : X.fn x = true \/ X.env.scope.names.lookup x = some .local := by first | exact .inl rfl | exact .inr rfl | assumption) :
    PS X (.Assign [.Name x pos'] e pos) (tAsg te (gName i)) := by
  intro pins s σ H D I h
  refine wpAny_Assign_Name (thn (he pins s σ H _ I h) fun v s1 ⟨y, H1, I1, r1, q1⟩ => ?_) hs
  exact store_ok I1 hN hi hx r1 (fun s2 I2 => ⟨_, H1, I2, q1⟩) hf
def tPar (i j : Nat) (ta : TA) : TS := fun D σ H => ta σ H fun vs H1 => ∃ v w, vs = [v, w] /\ D.nx ((σ.set i (some v)).set j (some w)) H1
theorem ps_par {i j : Nat} {x y : Str} {a b : Expr} {ta : TA} {px py pt : Pos} {kt k2 pt2} (hc : X.calm = true) (hN : X.N.Nodup) (hi : X.N[i]? = some x) (hj : X.N[j]? = some y) (hij : i ≠ j)
    (hx : X.env.scope.names.lookup x = some .local) (hy : X.env.scope.names.lookup y = some .local) (ha : PA X [a, b] ta)
    (hw : swappedStores [.Tuple [.Name x px, .Name y py] kt pt] (.Tuple [a, b] k2 pt2) X.env = pure (some [x, y]))
    (hs : swapsWithSole [.Tuple [.Name x px, .Name y py] kt pt] (.Tuple [a, b] k2 pt2) pos.line X.env = pure false := by rfl) :
    PS X (.Assign [.Tuple [.Name x px, .Name y py] kt pt] (.Tuple [a, b] k2 pt2) pos) (tPar i j ta) := by
  intro pins s σ H D I h
  rw [exec_Assign_arm]
  refine wpAny_bind (wpAny_standAt ?_)
  rw [hs]
  refine wpAny_bind (wpAny_pure ?_)
  rw [if_neg (by decide)]
  refine wpAny_bind (Tuple_ (thn (ha _ pins s σ H _ I h) fun us s1 ⟨vs, H1, I1, r1, q1⟩ => ?_))
  obtain ⟨v, w, e1, q1⟩ := q1
  subst e1
  obtain ⟨u1, u2, rfl, rv, rw'⟩ : ∃ u1 u2, us = [u1, u2] /\ RelV v u1 /\ RelV w u2 := by
    cases r1 with
    | cons p q =>
      cases q with
      | cons p' q' =>
        cases q'
        exact ⟨_, _, rfl, p, p'⟩
  refine wpAny_newObj_type ?_ (by show 2 <= sizeLine; decide)
  have I2 : Inv X pins σ H1 { s1 with heap := s1.heap.push { cls := .type "tuple", data := .seq [u1, u2].toArray } } := I1.kept (t' := s1.toks) fun b o e => Heap.get?_push_of_some _ e
  rw [hw]
  refine wpAny_bind (wpAny_pure ?_)
  show wpAny (model X.prog X.w) X.A (do rule "assign.swapped-stores"; let items <- unpackItems (.ref s1.heap.objs.size) 2 none; assignInOrder [fun v => bindName X.env y v, fun v => bindName X.env x v] items.reverse; pure Flow.next) _ _ _
  refine wpAny_bind (wpAny_rule (wpAny_bind (unpackItems_tuple (items := #[u1, u2]) (I.ok.hd hc) (IsTup.new s1.heap _) fun h' hx' => ?_)))
  have I3 := I2.kept (h' := h') (t' := s1.toks) fun b o e => hx' b o (Nat.ne_of_lt (Heap.lt_size e)) e
  show wpAny _ _ (assignInOrder [fun v => bindName X.env y v, fun v => bindName X.env x v] [u2, u1] >>= fun _ => pure Flow.next) _ _ _
  refine wpAny_bind (assignInOrder_cons (wpAny_bindName (store_ok I3 hN hj (.inl hy) rw' (fun s2 I4 => ?_) (.inr hy))))
  refine assignInOrder_cons (wpAny_bindName (store_ok I4 hN hi (.inl hx) rv (fun s3 I5 => assignInOrder_nil (wpAny_pure ?_)) (.inr hx)))
  rw [List.set_comm _ _ (Ne.symm hij)] at I5
  exact ⟨_, H1, I5, q1⟩
def tAug (i : Nat) (te : TE) (ti : TIp) : TS := fun D σ H => ∃ x, σ[i]? = some (some x) /\ te σ H fun y H1 => ti x y H1 fun z H2 => D.nx (σ.set i (some z)) H2
theorem ps_aug {i : Nat} {x : Str} {e : Expr} {te : TE} {op : Operator} {ti : TIp} {pos' : Pos} (hN : X.N.Nodup) (hi : X.N[i]? = some x) (hx : Loc X.env.scope x) (he : PE X e te) (ho : PIp X op ti) (hf : X.fn x = true \/ X.env.scope.names.lookup x = some .local := by first | exact .inl rfl | exact .inr rfl | assumption) :
    PS X (.AugAssign (.Name x pos') op e pos) (tAug i te ti) := by
  intro pins s σ H D I h
  obtain ⟨v, e1, h⟩ := h
  obtain ⟨m, hn, hl⟩ := I.loc
  have vis : Vis X.env.scope x := by rcases hx with k | k; exact .inl k; exact .inr (.inl k)
  obtain ⟨u, r, l⟩ := hl i x v hi e1 vis
  refine wpAny_AugAssign_Name ?_
  have go : wpAny (model X.prog X.w) X.A (eval e X.env) (fun w s₂ => wpAny (model X.prog X.w) X.A (inplaceOp op u w) (fun r s₃ => wpAny (model X.prog X.w) X.A (storeName X.env x r) (fun _ => SP X pins D .next) X.xe s₃) X.xe s₂) X.xe s := by
    refine thn (he pins s σ H _ I h) fun w s1 ⟨y, H1, I1, r1, q1⟩ => ?_
    refine thn (ho pins s1 σ H1 v y u w _ I1 r r1 q1) fun z s2 ⟨zv, H2, I2, r2, q2⟩ => ?_
    exact store_ok I2 hN hi hx r2 (fun s3 I3 => ⟨_, H2, I3, q2⟩) hf
  rcases l with ⟨hk, hm⟩ | ⟨hk, c, hc, hcell⟩
  . exact wpAny_loadName_local I.ok.kind hk hn hm go
  . rcases hk with hk | hk
    . exact wpAny_loadName_cell I.ok.kind hk hc hcell go
    . rcases hx with k | k
      . have : X.env.scope.names.lookup x = some .free := hk
        rw [k] at this; cases this
      . have : X.env.scope.names.lookup x = some .free := hk
        rw [k] at this; cases this
end
section
variable {X : Cx} {pos : Pos}
def tWhile (c : TT) (tb : TS) : TS := fun D σ H => ∃ W : Nat -> St -> Hp -> Prop, (∃ m, W m σ H) /\ ∀ m σ H, W m σ H ->
  c σ H fun b H1 => if b = true then ∃ N : St -> Hp -> Prop, (∀ σ' H', N σ' H' -> ∃ m', m' < m /\ W m' σ' H') /\ tb { D with nx := N, ct := N, bk := D.nx } σ H1 else D.nx σ H1
theorem ps_while {c : Expr} {body : List Stmt} {tc : TT} {tb : TS} (hp : PassesOwn (model X.prog X.w) X.A X.env X.xe) (hc : PT X c tc) (hb : PSs X body tb) : PS X (.While c body [] pos) (tWhile tc tb) := by
  intro pins s σ H D I h
  obtain ⟨W, ⟨m0, w0⟩, turn⟩ := h
  refine wpAny_While (codeAny_whileLoop (fun n s' => ∃ σ' H', Inv X pins σ' H' s' /\ W n σ' H') ?_ m0 ⟨σ, H, I, w0⟩)
  rintro n s1 ⟨σ1, H1, I1, w1⟩
  refine wpAny_passesOwn hp (thn (hc pins s1 σ1 H1 _ I1 (turn n σ1 H1 w1)) fun b s2 ⟨H2, I2, q2⟩ => ?_)
  cases b with
  | true =>
    obtain ⟨N, hN, q2⟩ := q2
    rw [if_pos rfl]
    refine wpAny_passesOwn hp (thn (hb pins s2 σ1 H2 _ I2 q2) fun f s3 q3 => ?_)
    cases f with
    | next =>
      obtain ⟨σ3, H3, I3, n3⟩ := q3
      obtain ⟨m', hm, w3⟩ := hN σ3 H3 n3
      exact ⟨m', hm, σ3, H3, I3, w3⟩
    | cont =>
      obtain ⟨σ3, H3, I3, n3⟩ := q3
      obtain ⟨m', hm, w3⟩ := hN σ3 H3 n3
      exact ⟨m', hm, σ3, H3, I3, w3⟩
    | brk => exact q3
    | ret v => exact q3
  | false =>
    rw [if_neg Bool.false_ne_true]
    exact wpAny_execs_nil ⟨σ1, H2, I2, q2⟩
end
structure It where
  go : Nat -> Hp -> Prop
  yld : Nat -> Hp -> V -> Hp -> Prop
  stop : Nat -> Hp -> Prop
def FpOk (X : Cx) (pins : List (Addr × Obj)) (H : Hp) (b : Addr) : Prop :=
  H b = none /\ b ≠ X.env.locals /\ b ∉ X.fs /\ (b ∈ X.ex \/ X.s₀.heap.objs.size <= b) /\ (∀ x c, X.env.cells.lookup x = some c -> c ≠ b) /\ ∀ p ∈ X.pn ++ pins, p.1 ≠ b
theorem Inv.fpOk {X : Cx} {pins : List (Addr × Obj)} {σ : St} {H H' : Hp} {s : Shared} {b : Addr} (I : Inv X pins σ H s) (hb : s.heap.objs.size <= b) (hn : H' b = none) : FpOk X pins H' b := by
  refine ⟨hn, Nat.ne_of_gt (Nat.lt_of_lt_of_le I.lt hb), I.nofs hb, .inr (Nat.le_trans I.sz hb), fun x c e z => ?_, fun p hp z => ?_⟩
  . obtain ⟨v, q⟩ := I.cell x c e
    exact absurd (Nat.lt_of_lt_of_le q.lt (by rw [z]; exact hb)) (Nat.lt_irrefl _)
  . exact absurd (Nat.lt_of_lt_of_le (Heap.lt_size (I.pin p hp).1) (by rw [z]; exact hb)) (Nat.lt_irrefl _)
structure Turn (P : Program) (w : World) (K : PySem.W.Frag) (tg : Expr) (J : It) (fp : List Addr) (it : Addr) (tn : Nat -> Heap -> Prop) : Prop where
  mem : it ∈ fp
  obj : ∀ i h, tn i h -> ∀ b ∈ fp, ∃ o, h.get? b = some o /\ ∀ v, o.data ≠ .cell v
  keep : ∀ i h h', tn i h -> (∀ b ∈ fp, ∀ o, h.get? b = some o -> h'.get? b = some o) -> tn i h'
  item : ∀ (X : Cx), X.prog = P -> X.w = w -> X.K = K -> X.calm = true -> ∀ (i : Nat) (pins : List (Addr × Obj)) (s : Shared) (σ : St) (H : Hp) (E : Value -> Shared -> Prop), Inv X pins σ H s -> (∀ b ∈ fp, FpOk X pins H b) -> tn i s.heap -> J.go i H ->
    wpAny (model P w) X.A (pyNext (.ref it)) (fun r s1 => ∃ u, r = some u /\
      wpAny (model P w) X.A (letOwnedTupleGo tg (.ref it) u) (fun _ s2 => ∃ x H', Inv X pins σ H' s2 /\ RelV x u /\ J.yld i H x H' /\ tn (i + 1) s2.heap /\ ∀ b ∈ fp, H' b = none) E s1) E s
  done : ∀ (X : Cx), X.prog = P -> X.w = w -> X.K = K -> X.calm = true -> ∀ (i : Nat) (pins : List (Addr × Obj)) (s : Shared) (σ : St) (H : Hp) (E : Value -> Shared -> Prop), Inv X pins σ H s -> (∀ b ∈ fp, FpOk X pins H b) -> tn i s.heap -> J.stop i H ->
    wpAny (model P w) X.A (pyNext (.ref it)) (fun r s1 => r = none /\ Inv X pins σ H s1) E s
  self : ∀ (A : Around) (i : Nat) (s : Shared) (Q : Value -> Shared -> Prop) (E : Value -> Shared -> Prop), tn i s.heap -> Q (.ref it) s -> wpAny (model P w) A (pyIter (.ref it)) Q E s
abbrev TI := St -> Hp -> (It -> Hp -> Prop) -> Prop
def PIE (X : Cx) (pins : List (Addr × Obj)) (σ : St) (tg : Expr) (R : It -> Hp -> Prop) (itv : Value) (s2 : Shared) : Prop :=
  ∃ (it : Addr) (fp : List Addr) (tn : Nat -> Heap -> Prop) (J : It) (H' : Hp), itv = .ref it /\ Inv X pins σ H' s2 /\ Turn X.prog X.w X.K tg J fp it tn /\ tn 0 s2.heap /\ (∀ b ∈ fp, FpOk X pins H' b) /\ R J H'
def PI (X : Cx) (tg iter : Expr) (wi : TI) : Prop :=
  ∀ (pins : List (Addr × Obj)) (s : Shared) (σ : St) (H : Hp) (R : It -> Hp -> Prop), Inv X pins σ H s -> wi σ H R ->
    wpAny (model X.prog X.w) X.A (eval iter X.env) (fun v s1 => wpAny (model X.prog X.w) X.A (pyIter v) (PIE X pins σ tg R) X.xe s1) X.xe s
theorem go_of {M : Model} {A : Around} {E : Value -> Shared -> Prop} {s : Shared} {tg : Expr} {it : Addr} {u : Value} {o : Obj} {n : String} {vs : Array Value} {Q : Unit -> Shared -> Prop} (ho : s.heap.get? it = some o) (hc : o.cls = .type n) (hd : o.data = .fields vs)
    (hn : ["enumerate", "zip", "dict_itemiterator", "dict_reverseitemiterator", "odict_iterator", "itertools.zip_longest", "itertools.pairwise"].contains n = false) (hQ : Q () s) : wpAny M A (letOwnedTupleGo tg (.ref it) u) Q E s := by
  unfold letOwnedTupleGo
  cases tg <;> first
    | exact wpAny_pure hQ
    | (cases u <;> first
        | exact wpAny_pure hQ
        | (refine wpAny_bind (wpAny_load ho ?_)
           rw [hc, hd]
           show wpAny M A (if (["enumerate", "zip", "dict_itemiterator", "dict_reverseitemiterator", "odict_iterator", "itertools.zip_longest", "itertools.pairwise"].contains n && vs[0]? == some (rawInt _)) = true then _ else _) Q E s
           rw [if_neg (by intro h; rw [hn, Bool.false_and] at h; cases h)]
           exact wpAny_pure hQ))
def Itl (K : PySem.W.Frag) (a : Addr) : It :=
  ⟨fun i H => ∃ xs x, SqL K H a xs /\ xs[i]? = some x, fun i H x H' => H' = H /\ ∀ xs, SqL K H a xs -> xs[i]? = some x, fun i H => ∃ xs, SqL K H a xs /\ xs.length <= i⟩
def Itt (K : PySem.W.Frag) (a : Addr) : It :=
  ⟨fun i H => ∃ xs x, SqT K H a xs /\ xs[i]? = some x, fun i H x H' => H' = H /\ ∀ xs, SqT K H a xs -> xs[i]? = some x, fun i H => ∃ xs, SqT K H a xs /\ xs.length <= i⟩
def Itr (lo : Int) (n : Nat) : It := ⟨fun i _ => i < n, fun i H x H' => H' = H /\ x = .int (lo + i), fun i _ => n <= i⟩
theorem turn_list {P : Program} {w : World} {K : PySem.W.Frag} {tg : Expr} (a it : Addr) : Turn P w K tg (Itl K a) [it] it (fun i h => h.IsListIter it a i) where
  mem := by simp
  obj := fun i h st b hb => by
    have e : b = it := by simpa using hb
    subst e
    obtain ⟨o, e, c, d⟩ := st
    exact ⟨o, e, fun v z => by rw [d] at z; cases z⟩
  keep := fun i h h' st k => st.at fun o e => k it (by simp) o e
  item := by
    intro X hP hw hK hc i pins s σ H E I hf st hg
    subst hP hw hK
    obtain ⟨xs, x, hq, hx⟩ := hg
    obtain ⟨its, rv, p, hz⟩ := I.list hq
    obtain ⟨u, hu, ru⟩ := rv.get hx
    obtain ⟨f0, f1, f2, f3, f4, f5⟩ := hf it (by simp)
    refine wpAny_pyNext_list_item st p.isList (x := u) (by simpa using hu) fun h' st' sb => ?_
    have I1 : Inv X pins σ H { s with heap := h' } := I.turned (t' := s.toks) (fun b o hb e => (sb.2 b hb).trans e) f0 f1 f3 f4 f5
    obtain ⟨o, e, c, d⟩ := id st'
    exact ⟨u, rfl, go_of (s := { s with heap := h' }) e c d (by decide) ⟨x, H, I1, ru, ⟨rfl, fun ys hy => by rw [I.list_inj hy hq]; exact hx⟩, st', fun b hb => (hf b hb).1⟩⟩
  done := by
    intro X hP hw hK hc i pins s σ H E I hf st hg
    subst hP hw hK
    obtain ⟨xs, hq, hx⟩ := hg
    obtain ⟨its, rv, p, hz⟩ := I.list hq
    obtain ⟨f0, f1, f2, f3, f4, f5⟩ := hf it (by simp)
    have hl := rv.length
    exact wpAny_pyNext_list_end (I.ok.hd hc) st p.isList (by simp; omega) fun h' eb => ⟨rfl, I.turned (t' := s.toks) (fun b o hb e => eb b o hb e) f0 f1 f3 f4 f5⟩
  self := fun _ _ _ _ _ st h => wpAny_pyIter_listiter st h
theorem turn_tuple {P : Program} {w : World} {K : PySem.W.Frag} {tg : Expr} (a it : Addr) : Turn P w K tg (Itt K a) [it] it (fun i h => h.IsTupleIter it a i) where
  mem := by simp
  obj := fun i h st b hb => by
    have e : b = it := by simpa using hb
    subst e
    obtain ⟨o, e, c, d⟩ := st
    exact ⟨o, e, fun v z => by rw [d] at z; cases z⟩
  keep := fun i h h' st k => st.at fun o e => k it (by simp) o e
  item := by
    intro X hP hw hK hc i pins s σ H E I hf st hg
    subst hP hw hK
    obtain ⟨xs, x, hq, hx⟩ := hg
    obtain ⟨its, rv, p, hz⟩ := I.tuple hq
    obtain ⟨u, hu, ru⟩ := rv.get hx
    obtain ⟨f0, f1, f2, f3, f4, f5⟩ := hf it (by simp)
    refine wpAny_pyNext_tuple_item st (show s.heap.IsTuple a its.toArray from p) (x := u) (by simpa using hu) fun h' st' sb => ?_
    have I1 : Inv X pins σ H { s with heap := h' } := I.turned (t' := s.toks) (fun b o hb e => (sb.2 b hb).trans e) f0 f1 f3 f4 f5
    obtain ⟨o, e, c, d⟩ := id st'
    exact ⟨u, rfl, go_of (s := { s with heap := h' }) e c d (by decide) ⟨x, H, I1, ru, ⟨rfl, fun ys hy => by rw [I.tuple_inj hy hq]; exact hx⟩, st', fun b hb => (hf b hb).1⟩⟩
  done := by
    intro X hP hw hK hc i pins s σ H E I hf st hg
    subst hP hw hK
    obtain ⟨xs, hq, hx⟩ := hg
    obtain ⟨its, rv, p, hz⟩ := I.tuple hq
    obtain ⟨f0, f1, f2, f3, f4, f5⟩ := hf it (by simp)
    have hl := rv.length
    exact wpAny_pyNext_tuple_end (I.ok.hd hc) st (show s.heap.IsTuple a its.toArray from p) (by simp; omega) fun h' eb => ⟨rfl, I.turned (t' := s.toks) (fun b o hb e => eb b o hb e) f0 f1 f3 f4 f5⟩
  self := fun _ _ _ _ _ st h => wpAny_pyIter_tupleiter st h
theorem turn_range {P : Program} {w : World} {K : PySem.W.Frag} {tg : Expr} (it : Addr) (lo : Int) (n : Nat) : Turn P w K tg (Itr lo n) [it] it (fun i h => IsRangeIter h it (lo + (i : Nat) * 1) ((n : Int) - (i : Nat)) 1) where
  mem := by simp
  obj := fun i h st b hb => by
    have e : b = it := by simpa using hb
    subst e
    exact ⟨_, st, fun v z => by
      have z' : Data.fields _ = Data.cell v := z
      cases z'⟩
  keep := fun i h h' st k => k it (by simp) _ st
  item := by
    intro X hP hw hK hc i pins s σ H E I hf st hg
    subst hP hw hK
    obtain ⟨f0, f1, f2, f3, f4, f5⟩ := hf it (by simp)
    have W := Walks.range (prog := X.prog) (w := X.w) (I.ok.hd hc) it lo 1 n
    refine W.item i s _ _ hg st fun v h' tk hv st' kk => ?_
    obtain ⟨t, rfl⟩ := hv
    have I1 : Inv X pins σ H { s with heap := h', toks := tk } := I.turned (fun b o hb e => kk b o (by simpa using hb) e) f0 f1 f3 f4 f5
    refine ⟨_, rfl, go_of (s := { s with heap := h', toks := tk }) (n := "range_iterator") st' rfl rfl (by decide) ⟨.int (lo + i), H, I1, ⟨t, ?_⟩, ⟨rfl, rfl⟩, st', fun b hb => (hf b hb).1⟩⟩
    rw [Int.mul_one]
  done := by
    intro X hP hw hK hc i pins s σ H E I hf st hg
    subst hP hw hK
    obtain ⟨f0, f1, f2, f3, f4, f5⟩ := hf it (by simp)
    exact wpAny_pyNext_range_end (I.ok.hd hc) st (by have : n <= i := hg; omega) fun h' eb => ⟨rfl, I.turned (t' := s.toks) (fun b o hb e => eb b o hb e) f0 f1 f3 f4 f5⟩
  self := fun _ _ _ _ _ st h => wpAny_pyIter_rangeiter st h
end L2
namespace L2
open PySem PySem.Spec PyProof.Rows
section
variable {X : Cx} {tg : Expr}
def iList (K : PySem.W.Frag) (tl : TE) : TI := fun σ H R => tl σ H fun x H1 => ∃ a, x = .ref a /\ (∃ xs, SqL K H1 a xs) /\ R (Itl K a) H1
def iTup (K : PySem.W.Frag) (tl : TE) : TI := fun σ H R => tl σ H fun x H1 => ∃ a, x = .ref a /\ (∃ xs, SqT K H1 a xs) /\ R (Itt K a) H1
theorem pi_list {l : Expr} {tl : TE} (hl : PE X l tl) : PI X tg l (iList X.K tl) := by
  intro pins s σ H R I h
  refine thn (hl pins s σ H _ I h) fun v s1 ⟨x, H1, I1, r1, q1⟩ => ?_
  obtain ⟨a, e, ⟨xs, hq⟩, q⟩ := q1
  subst e
  cases r1
  obtain ⟨its, rv, p, hz⟩ := I1.list hq
  refine wpAny_pyIter_list p.isList ?_
  refine ⟨s1.heap.objs.size, [s1.heap.objs.size], _, _, H1, rfl, I1.kept (t' := s1.toks) fun b o e => Heap.get?_push_of_some _ e, turn_list a _, ⟨_, Heap.get?_push_size _ rfl, rfl, rfl⟩, fun b hb => ?_, q⟩
  have e : b = s1.heap.objs.size := by simpa using hb
  subst e
  exact I1.fpOk (Nat.le_refl _) (I1.hok.fresh (Nat.le_refl _))
theorem pi_tup {l : Expr} {tl : TE} (hl : PE X l tl) : PI X tg l (iTup X.K tl) := by
  intro pins s σ H R I h
  refine thn (hl pins s σ H _ I h) fun v s1 ⟨x, H1, I1, r1, q1⟩ => ?_
  obtain ⟨a, e, ⟨xs, hq⟩, q⟩ := q1
  subst e
  cases r1
  obtain ⟨its, rv, p, hz⟩ := I1.tuple hq
  refine wpAny_pyIter_tuple (show s1.heap.IsTuple a its.toArray from p) ?_
  refine ⟨s1.heap.objs.size, [s1.heap.objs.size], _, _, H1, rfl, I1.kept (t' := s1.toks) fun b o e => Heap.get?_push_of_some _ e, turn_tuple a _, ⟨_, Heap.get?_push_size _ rfl, rfl, rfl⟩, fun b hb => ?_, q⟩
  have e : b = s1.heap.objs.size := by simpa using hb
  subst e
  exact I1.fpOk (Nat.le_refl _) (I1.hok.fresh (Nat.le_refl _))
theorem range_it {pins : List (Addr × Obj)} {σ : St} {H : Hp} {s : Shared} {R : It -> Hp -> Prop} {E : Value -> Shared -> Prop} {lo hi : Int} {t u v : Tok} {tk : Nat} (I : Inv X pins σ H s) (h1 : -(2 ^ 62) <= lo) (h2 : lo < 2 ^ 62) (h3 : -(2 ^ 62) <= hi) (h4 : hi < 2 ^ 62)
    (q : R (Itr lo (hi - lo).toNat) H) : wpAny (model X.prog X.w) X.A (pyIter (.ref s.heap.objs.size)) (PIE X pins σ tg R) E { s with heap := s.heap.push { cls := .type "range", data := .fields #[.int lo t, .int hi u, .int 1 v] }, toks := tk } := by
  refine wpAny_pyIter_range (IsRange.new ..) (small_one h1 h2 h3 h4) ?_
  have I1 : Inv X pins σ H { s with heap := s.heap.push { cls := .type "range", data := .fields #[.int lo t, .int hi u, .int 1 v] }, toks := tk } := I.kept fun b o e => Heap.get?_push_of_some _ e
  refine ⟨(s.heap.push { cls := .type "range", data := .fields #[.int lo t, .int hi u, .int 1 v] }).objs.size, [(s.heap.push { cls := .type "range", data := .fields #[.int lo t, .int hi u, .int 1 v] }).objs.size], _, _, H, rfl,
    I1.kept (t' := tk) fun b o e => Heap.get?_push_of_some _ e, turn_range _ lo (hi - lo).toNat, ?_, fun b hb => ?_, q⟩
  . have e1 : lo + ((0 : Nat) : Int) * 1 = lo := by simp
    have e2 : (((hi - lo).toNat : Nat) : Int) - ((0 : Nat) : Int) = Builtin.Range.rangeSize lo hi 1 := by rw [rangeSize_one]; split <;> omega
    show IsRangeIter _ _ (lo + ((0 : Nat) : Int) * 1) ((((hi - lo).toNat : Nat) : Int) - ((0 : Nat) : Int)) 1
    rw [e1, e2]
    exact Heap.get?_push_size _ rfl
  . have e : b = (s.heap.push { cls := .type "range", data := .fields #[.int lo t, .int hi u, .int 1 v] }).objs.size := by simpa using hb
    subst e
    exact I1.fpOk (Nat.le_refl _) (I1.hok.fresh (Nat.le_refl _))
def iRng1 (ta : TA) : TI := fun σ H R => ta σ H fun vs H1 => ∃ j : Int, vs = [.int j] /\ -(2 ^ 62) <= j /\ j < 2 ^ 62 /\ R (Itr 0 j.toNat) H1
def iRng2 (ta : TA) : TI := fun σ H R => ta σ H fun vs H1 => ∃ i j : Int, vs = [.int i, .int j] /\ (-(2 ^ 62) <= i /\ i < 2 ^ 62 /\ -(2 ^ 62) <= j /\ j < 2 ^ 62) /\ R (Itr i (j - i).toNat) H1
theorem pi_range1 {a : Expr} {ta : TA} {p pos : Pos} (hg : Gl X "range") (hm : X.mg "range" = none) (ha : PA X [a] ta) (hs : starEach [a] X.env = [(false, eval a X.env)] := by rfl) : PI X tg (.Call (.Name "range" p) [a] [] pos) (iRng1 ta) := by
  intro pins s σ H R I h
  refine Call_ (ld_blt I hg hm boot_range (PyProof.Rows.callWith_type1 (thn (ha pos pins s σ H _ I h) fun us s1 ⟨vs, H1, I1, r1, q1⟩ => ?_) hs rfl))
  obtain ⟨j, e, q1, q2, q⟩ := q1
  subst e
  cases r1 with
  | cons r rr =>
    cases rr
    obtain ⟨t, rfl⟩ := r
    exact call_range_1 (range_it I1 (by omega) (by omega) q1 q2 (by simpa using q))
theorem pi_range2 {a b : Expr} {ta : TA} {p pos : Pos} (hg : Gl X "range") (hm : X.mg "range" = none) (ha : PA X [a, b] ta) (hs : starEach [a, b] X.env = [(false, eval a X.env), (false, eval b X.env)] := by rfl) (hs2 : starEach [b] X.env = [(false, eval b X.env)] := by rfl) :
    PI X tg (.Call (.Name "range" p) [a, b] [] pos) (iRng2 ta) := by
  intro pins s σ H R I h
  refine Call_ (ld_blt I hg hm boot_range (PyProof.Rows.callWith_type1 (thn (ha pos pins s σ H _ I h) fun us s1 ⟨vs, H1, I1, r1, q1⟩ => ?_) (by rw [hs, hs2]) (by rw [hs2]; rfl)))
  obtain ⟨i, j, e, ⟨q1, q2, q3, q4⟩, q⟩ := q1
  subst e
  cases r1 with
  | cons r rr =>
    cases rr with
    | cons r' rr =>
      cases rr
      obtain ⟨t, rfl⟩ := r
      obtain ⟨t', rfl⟩ := r'
      exact call_range_2 (range_it I1 q1 q2 q3 q4 q)
def tFor (wi : TI) (g : TG) (tb : TS) : TS := fun D σ H => wi σ H fun J H1 => ∃ W : Nat -> Nat -> St -> Hp -> Prop, (∃ m, W 0 m σ H1) /\ ∀ i m σ H, W i m σ H ->
  (J.stop i H /\ D.nx σ H) \/ (J.go i H /\ ∃ N : St -> Hp -> Prop, (∀ σ' H', N σ' H' -> ∃ m', m' < m /\ W (i + 1) m' σ' H') /\ ∀ x H', J.yld i H x H' -> g x σ H' fun σ2 H2 => tb { D with nx := N, ct := N, bk := D.nx } σ2 H2)
def pinsAt (fp : List Addr) (h : Heap) : List (Addr × Obj) := fp.filterMap fun b => (h.get? b).map fun o => (b, o)
theorem mem_pinsAt {fp : List Addr} {h : Heap} {b : Addr} {o : Obj} (hb : b ∈ fp) (e : h.get? b = some o) : (b, o) ∈ pinsAt fp h := List.mem_filterMap.mpr ⟨b, hb, by rw [e]; rfl⟩
theorem of_pinsAt {fp : List Addr} {h : Heap} {p : Addr × Obj} (hp : p ∈ pinsAt fp h) : p.1 ∈ fp /\ h.get? p.1 = some p.2 := by
  obtain ⟨b, hb, e⟩ := List.mem_filterMap.mp hp
  cases q : h.get? b with
  | none => rw [q] at e; cases e
  | some o =>
    rw [q] at e
    have e' : (b, o) = p := Option.some.inj e
    subst e'
    exact ⟨hb, q⟩
theorem Inv.pinned {pins : List (Addr × Obj)} {σ : St} {H : Hp} {s : Shared} {fp : List Addr} (I : Inv X pins σ H s) (hf : ∀ b ∈ fp, FpOk X pins H b) (ho : ∀ b ∈ fp, ∃ o, s.heap.get? b = some o /\ ∀ v, o.data ≠ .cell v) : Inv X (pins ++ pinsAt fp s.heap) σ H s :=
  I.pins_of fun p hp => (List.mem_append.mp hp).elim (fun z => I.pin p (List.mem_append_right _ z)) fun z => by
    obtain ⟨hb, e⟩ := of_pinsAt z
    obtain ⟨f0, f1, f2, _⟩ := hf p.1 hb
    obtain ⟨o, e', d⟩ := ho p.1 hb
    rw [e] at e'; cases e'
    exact ⟨e, f0, f1, f2, d⟩
theorem Inv.unpinned {pins pl : List (Addr × Obj)} {σ : St} {H : Hp} {s : Shared} (I : Inv X (pins ++ pl) σ H s) : Inv X pins σ H s := I.pins_of fun p hp => I.pin p (List.mem_append_right _ (List.mem_append_left _ hp))
theorem ps_for {iter : Expr} {body : List Stmt} {wi : TI} {g : TG} {tb : TS} {pos : Pos} (hp : PassesOwn (model X.prog X.w) X.A X.env X.xe) (hc : X.calm = true) (hi : PI X tg iter wi) (hg : PG X tg g) (hb : PSs X body tb)
    (hs : ∀ x, foldedSetIterable iter X.env x = pure x := by intro _; rfl) : PS X (.For tg iter body [] pos) (tFor wi g tb) := by
  intro pins s σ H D I h
  refine wpAny_For (thn (hi pins s σ H _ I h) fun v s1 h1 => thn h1 fun itv s2 h2 => ?_) hs
  obtain ⟨it, fp, tn, J, H2, e, I2, T, st2, f2, W, ⟨m0, w0⟩, turn⟩ := h2
  subst e
  have stat : ∀ {H' : Hp}, (∀ b ∈ fp, H' b = none) -> ∀ b ∈ fp, FpOk X pins H' b := fun hn b hb => ⟨hn b hb, (f2 b hb).2⟩
  refine codeAny_forLoop_any (fun n s' => ∃ i σ' H', Inv X pins σ' H' s' /\ tn i s'.heap /\ (∀ b ∈ fp, H' b = none) /\ W i n σ' H') ?_ m0 ⟨0, σ, H2, I2, st2, fun b hb => (f2 b hb).1, w0⟩
  rintro n s3 ⟨i, σ3, H3, I3, st3, fr3, w3⟩
  rcases turn i n σ3 H3 w3 with ⟨stop, qn⟩ | ⟨go, N, hN, step⟩
  . refine wpAny_passesOwn hp (thn (T.done X rfl rfl rfl hc i pins s3 σ3 H3 X.xe I3 (stat fr3) st3 stop) fun r s4 ⟨hr, I4⟩ => ?_)
    subst hr
    exact wpAny_execs_nil ⟨σ3, H3, I4, qn⟩
  . refine wpAny_passesOwn hp (thn (T.item X rfl rfl rfl hc i pins s3 σ3 H3 X.xe I3 (stat fr3) st3 go) fun r s4 ⟨u, hr, h4⟩ => ?_)
    subst hr
    refine wpAny_passesOwn hp (thn h4 fun _ s5 ⟨x, H5, I5, r5, y5, st5, fr5⟩ => ?_)
    have I5' := I5.pinned (stat fr5) (T.obj _ _ st5)
    refine wpAny_passesOwn hp (thn (hg _ s5 σ3 H5 x u _ I5' r5 (step x H5 y5)) fun _ s6 ⟨σ6, H6, I6, q6⟩ => ?_)
    refine wpAny_passesOwn hp (thn (hb _ s6 σ6 H6 _ I6 q6) fun f s7 q7 => ?_)
    have again : ∀ {σ7 : St} {H7 : Hp}, Inv X (pins ++ pinsAt fp s5.heap) σ7 H7 s7 -> N σ7 H7 -> ∃ m, m < n /\ ∃ i σ' H', Inv X pins σ' H' s7 /\ tn i s7.heap /\ (∀ b ∈ fp, H' b = none) /\ W i m σ' H' := fun {σ7 H7} I7 n7 => by
      obtain ⟨m', hm, w7⟩ := hN σ7 H7 n7
      refine ⟨m', hm, i + 1, σ7, H7, I7.unpinned, T.keep _ _ _ st5 fun b hb o e => (I7.pin (b, o) (List.mem_append_right _ (List.mem_append_right _ (mem_pinsAt hb e)))).1, fun b hb => ?_, w7⟩
      obtain ⟨o, e, d⟩ := T.obj _ _ st5 b hb
      exact (I7.pin (b, o) (List.mem_append_right _ (List.mem_append_right _ (mem_pinsAt hb e)))).2.1
    cases f with
    | next => obtain ⟨σ7, H7, I7, n7⟩ := q7; exact again I7 n7
    | cont => obtain ⟨σ7, H7, I7, n7⟩ := q7; exact again I7 n7
    | brk => obtain ⟨σ7, H7, I7, q7⟩ := q7; exact ⟨σ7, H7, I7.unpinned, q7⟩
    | ret v => obtain ⟨x7, σ7, H7, I7, r7, q7⟩ := q7; exact ⟨x7, σ7, H7, I7.unpinned, r7, q7⟩
end
end L2
namespace L2
open PySem PySem.Spec PyProof.Rows
abbrev R2 := V -> V -> Hp -> VK -> Prop
def OpR (X : Cx) (f : Value -> Value -> Sem Value) (r : R2) : Prop :=
  ∀ (pins : List (Addr × Obj)) (s : Shared) (σ : St) (H : Hp) (x y : V) (v u : Value) (Q : VK), Inv X pins σ H s -> RelV x v -> RelV y u -> r x y H Q ->
    wpAny (model X.prog X.w) X.A (f v u) (EP X pins σ Q) X.xe s
def UnR (X : Cx) (f : Value -> Sem Value) (r : V -> Hp -> VK -> Prop) : Prop :=
  ∀ (pins : List (Addr × Obj)) (s : Shared) (σ : St) (H : Hp) (x : V) (v : Value) (Q : VK), Inv X pins σ H s -> RelV x v -> r x H Q ->
    wpAny (model X.prog X.w) X.A (f v) (EP X pins σ Q) X.xe s
def CallR (X : Cx) (f : Value) (r : List V -> Hp -> VK -> Prop) : Prop :=
  ∀ (pins : List (Addr × Obj)) (s : Shared) (σ : St) (H : Hp) (xs : List V) (us : List Value) (Q : VK), Inv X pins σ H s -> Vals xs us -> r xs H Q ->
    wpAny (model X.prog X.w) X.A (call f us) (EP X pins σ Q) X.xe s
def tOp (r : R2) (ta tb : TE) : TE := fun σ H Q => ta σ H fun x H1 => tb σ H1 fun y H2 => r x y H2 Q
def tUn (r : V -> Hp -> VK -> Prop) (ta : TE) : TE := fun σ H Q => ta σ H fun x H1 => r x H1 Q
def rI (C : Int -> Int -> Prop) (g : Int -> Int -> V) : R2 := fun x y H Q => ∃ i j, x = .int i /\ y = .int j /\ C i j /\ Q (g i j) H
def rI0 (g : Int -> Int -> V) : R2 := fun x y H Q => ∃ i j, x = .int i /\ y = .int j /\ Q (g i j) H
def rU (g : Int -> V) : V -> Hp -> VK -> Prop := fun x H Q => ∃ i, x = .int i /\ Q (g i) H
section
variable {X : Cx} {a b c : Expr} {ta tb tc : TE} {pos : Pos}
theorem binT (ha : PE X a ta) (hb : PE X b tb) {pins : List (Addr × Obj)} {s : Shared} {σ : St} {H : Hp} {R : V -> V -> Hp -> Prop} (I : Inv X pins σ H s)
    (h : ta σ H fun x H1 => tb σ H1 fun y H2 => R x y H2) {Q : Value -> Shared -> Prop} {f : Value -> Value -> Sem Value}
    (hf : ∀ v u s2 x y H2, Inv X pins σ H2 s2 -> RelV x v -> RelV y u -> R x y H2 -> wpAny (model X.prog X.w) X.A (f v u) Q X.xe s2) :
    wpAny (model X.prog X.w) X.A (eval a X.env) (fun v s₁ => wpAny (model X.prog X.w) X.A (eval b X.env) (fun u s₂ => wpAny (model X.prog X.w) X.A (f v u) Q X.xe s₂) X.xe s₁) X.xe s := by
  refine thn (ha pins s σ H _ I h) fun v s1 ⟨x, H1, I1, r1, q1⟩ => ?_
  refine thn (hb pins s1 σ H1 _ I1 q1) fun u s2 ⟨y, H2, I2, r2, q2⟩ => ?_
  exact hf v u s2 x y H2 I2 r1 r2 q2
theorem pe_op {op : Operator} {r : R2} (ho : OpR X (binaryOp op) r) (ha : PE X a ta) (hb : PE X b tb) : PE X (.BinOp a op b pos) (tOp r ta tb) := by
  intro pins s σ H Q I h
  exact wpAny_BinOp (binT ha hb I h fun v u s2 x y H2 I2 rx ry q => ho pins s2 σ H2 x y v u Q I2 rx ry q)
theorem pe_un {op : UnaryOp} {r : V -> Hp -> VK -> Prop} (ho : UnR X (unaryOp op) r) (ha : PE X a ta) : PE X (.UnaryOp op a pos) (tUn r ta) := by
  intro pins s σ H Q I h
  exact UnaryOp_ (thn (ha pins s σ H _ I h) fun v s1 ⟨x, H1, I1, r1, q1⟩ => ho pins s1 σ H1 x v Q I1 r1 q1)
theorem opI {f : Value -> Value -> Sem Value} {C : Int -> Int -> Prop} {g : Int -> Int -> Int}
    (rule : ∀ (i j : Int) (t u : Tok) (s : Shared) (Q : Value -> Shared -> Prop) (E : Value -> Shared -> Prop), C i j -> Q (.int (g i j) s.toks) { s with toks := s.toks + 1 } -> wpAny (model X.prog X.w) X.A (f (.int i t) (.int j u)) Q E s) :
    OpR X f (rI C fun i j => .int (g i j)) := by
  intro pins s σ H x y v u Q I rx ry h
  obtain ⟨i, j, rfl, rfl, hc, q⟩ := h
  obtain ⟨t, rfl⟩ := rx
  obtain ⟨t', rfl⟩ := ry
  exact rule i j t t' s _ _ hc ⟨.int (g i j), H, I.tok _, ⟨_, rfl⟩, q⟩
theorem opI0 {f : Value -> Value -> Sem Value} {g : Int -> Int -> Int}
    (rule : ∀ (i j : Int) (t u : Tok) (s : Shared) (Q : Value -> Shared -> Prop) (E : Value -> Shared -> Prop), Q (.int (g i j) s.toks) { s with toks := s.toks + 1 } -> wpAny (model X.prog X.w) X.A (f (.int i t) (.int j u)) Q E s) :
    OpR X f (rI0 fun i j => .int (g i j)) := by
  intro pins s σ H x y v u Q I rx ry h
  obtain ⟨i, j, rfl, rfl, q⟩ := h
  obtain ⟨t, rfl⟩ := rx
  obtain ⟨t', rfl⟩ := ry
  exact rule i j t t' s _ _ ⟨.int (g i j), H, I.tok _, ⟨_, rfl⟩, q⟩
theorem opB0 {f : Value -> Value -> Sem Value} {g : Int -> Int -> Bool}
    (rule : ∀ (i j : Int) (t u : Tok) (s : Shared) (Q : Value -> Shared -> Prop) (E : Value -> Shared -> Prop), Q (.bool (g i j)) s -> wpAny (model X.prog X.w) X.A (f (.int i t) (.int j u)) Q E s) :
    OpR X f (rI0 fun i j => .bl (g i j)) := by
  intro pins s σ H x y v u Q I rx ry h
  obtain ⟨i, j, rfl, rfl, q⟩ := h
  obtain ⟨t, rfl⟩ := rx
  obtain ⟨t', rfl⟩ := ry
  exact rule i j t t' s _ _ ⟨.bl (g i j), H, I, rfl, q⟩
def CPow (i j : Int) : Prop := 0 <= j /\ j <= 1000000 /\ i.natAbs < 2 ^ 64
theorem two_pow_nn (k : Nat) : (0 : Int) <= 2 ^ k := by
  rw [two_pow_cast]
  exact Int.natCast_nonneg _
theorem op_add : OpR X (binaryOp .Add) (rI0 fun i j => .int (i + j)) := opI0 fun _ _ _ _ _ _ _ q => add_int q
theorem op_sub : OpR X (binaryOp .Sub) (rI0 fun i j => .int (i - j)) := opI0 fun _ _ _ _ _ _ _ q => sub_int q
theorem op_modN : OpR X (binaryOp .Mod) (rI (fun _ j => j ≠ 0) fun i j => .int (i.fmod j)) := opI fun _ _ _ _ _ _ _ hc q => mod_int' hc q
theorem op_pow : OpR X (binaryOp .Pow) (rI CPow fun i j => .int (i ^ j.toNat)) := opI fun _ _ _ _ _ _ _ hc q => pow_int_small hc.1 hc.2.1 hc.2.2 q
theorem op_shr : OpR X (binaryOp .RShift) (rI (fun _ j => 0 <= j) fun i j => .int (i / 2 ^ j.toNat)) := opI fun i j _ _ _ _ _ hc q =>
  rshift_int hc (by rw [Int.fdiv_eq_ediv_of_nonneg i (two_pow_nn _)]; exact q)
theorem op_and : OpR X (binaryOp .BitAnd) (rI0 fun i j => .int (Builtin.bitAnd i j)) := opI0 fun _ _ _ _ _ _ _ q => and_int q
theorem op_xor : OpR X (binaryOp .BitXor) (rI0 fun i j => .int (Builtin.bitXor i j)) := opI0 fun _ _ _ _ _ _ _ q => xor_int q
theorem iop_add : OpR X (inplaceOp .Add) (rI0 fun i j => .int (i + j)) := opI0 fun _ _ _ _ _ _ _ q => iadd_int q
theorem iop_sub : OpR X (inplaceOp .Sub) (rI0 fun i j => .int (i - j)) := opI0 fun _ _ _ _ _ _ _ q => isub_int q
theorem unI {f : Value -> Sem Value} {g : Int -> Int}
    (rule : ∀ (i : Int) (t : Tok) (s : Shared) (Q : Value -> Shared -> Prop) (E : Value -> Shared -> Prop), Q (.int (g i) s.toks) { s with toks := s.toks + 1 } -> wpAny (model X.prog X.w) X.A (f (.int i t)) Q E s) :
    UnR X f (rU fun i => .int (g i)) := by
  intro pins s σ H x v Q I rx h
  obtain ⟨i, rfl, q⟩ := h
  obtain ⟨t, rfl⟩ := rx
  exact rule i t s _ _ ⟨.int (g i), H, I.tok _, ⟨_, rfl⟩, q⟩
theorem un_neg : UnR X (unaryOp .USub) (rU fun i => .int (-i)) := unI fun _ _ _ _ _ q => neg_int q
end
section
variable {X : Cx} {a b c : Expr} {ta tb tc : TE} {pos : Pos}
theorem fin_bl {pins : List (Addr × Obj)} {σ : St} {H : Hp} {s : Shared} {Q : VK} {k k' : Bool} (I : Inv X pins σ H s) (q : Q (.bl k) H) (e : k = k') : EP X pins σ Q (.bool k') s := by
  subst e
  exact ⟨.bl k, H, I, rfl, q⟩
theorem op_lt : OpR X (compareOp .Lt) (rI0 fun i j => .bl (decide (i < j))) := opB0 fun _ _ _ _ _ _ _ q => lt_int q
theorem op_le : OpR X (compareOp .LtE) (rI0 fun i j => .bl (decide (i <= j))) := opB0 fun _ _ _ _ _ _ _ q => le_int q
theorem op_gt : OpR X (compareOp .Gt) (rI0 fun i j => .bl (decide (j < i))) := opB0 fun _ _ _ _ _ _ _ q => gt_int q
theorem op_ge : OpR X (compareOp .GtE) (rI0 fun i j => .bl (decide (j <= i))) := opB0 fun _ _ _ _ _ _ _ q => ge_int q
theorem op_isN : OpR X (compareOp .Is) (fun x y H Q => y = .non /\ Q (.bl (decide (x = .non))) H) := by
  intro pins s σ H x y v u Q I rx ry h
  obtain ⟨rfl, q⟩ := h
  cases ry
  refine is_none_gen (fin_bl I q ?_)
  cases x <;> first
    | (cases rx; rfl)
    | (obtain ⟨t, rfl⟩ := rx; rfl)
theorem op_notN : OpR X (compareOp .IsNot) (fun x y H Q => y = .non /\ Q (.bl (!decide (x = .non))) H) := by
  intro pins s σ H x y v u Q I rx ry h
  obtain ⟨rfl, q⟩ := h
  cases ry
  refine isnot_none_gen (fin_bl I q ?_)
  cases x <;> first
    | (cases rx; rfl)
    | (obtain ⟨t, rfl⟩ := rx; rfl)
def tTest (t : TE) : TT := fun σ H Q => t σ H fun x H' => ∃ k, x = .bl k /\ Q k H'
def tChain (r r' : R2) (ta tb tc : TE) : TE := fun σ H Q => ta σ H fun x H1 => tb σ H1 fun y H2 => r x y H2 fun z H3 => ∃ k, z = .bl k /\
  (if k = true then tc σ H3 fun w' H4 => r' y w' H4 Q else Q (.bl false) H3)
theorem pe_chain {op op' : CmpOp} {r r' : R2} (ho : OpR X (compareOp op) r) (ho' : OpR X (compareOp op') r') (ha : PE X a ta) (hb : PE X b tb) (hc : PE X c tc)
    (hm : lastMarks [op, op'] [b, c] = false := by with_unfolding_all rfl) : PE X (.Compare a [op, op'] [b, c] pos) (tChain r r' ta tb tc) := by
  intro pins s σ H Q I h
  refine Compare_chain (thn (ha pins s σ H _ I h) fun v s1 ⟨x, H1, I1, r1, q1⟩ => chain_link (thn (hb pins s1 σ H1 _ I1 q1) fun u s2 ⟨y, H2, I2, r2, q2⟩ =>
    thn (ho pins s2 σ H2 x y v u _ I2 r1 r2 q2) fun d s3 ⟨z, H3, I3, r3, k, e, q3⟩ => ?_)) hm
  subst e
  cases r3
  refine wpAny_truthy_bool ?_
  cases k with
  | false => exact ite_ff ⟨.bl false, H3, I3, rfl, q3⟩
  | true => exact ite_tt (chain_last (thn (hc pins s3 σ H3 _ I3 q3) fun w' s4 ⟨z', H4, I4, r4, q4⟩ => ho' pins s4 σ H4 y z' u w' Q I4 r2 r4 q4))
theorem pt_chain {op op' : CmpOp} {r r' : R2} (ho : OpR X (compareOp op) r) (ho' : OpR X (compareOp op') r') (ha : PE X a ta) (hb : PE X b tb) (hc : PE X c tc)
    (hm : lastMarks [op, op'] [b, c] = false := by with_unfolding_all rfl) : PT X (.Compare a [op, op'] [b, c] pos) (tTest (tChain r r' ta tb tc)) := by
  intro pins s σ H Q I h
  refine isTrue_chain (thn (ha pins s σ H _ I h) fun v s1 ⟨x, H1, I1, r1, q1⟩ => test_link (thn (hb pins s1 σ H1 _ I1 q1) fun u s2 ⟨y, H2, I2, r2, q2⟩ =>
    thn (ho pins s2 σ H2 x y v u _ I2 r1 r2 q2) fun d s3 ⟨z, H3, I3, r3, k, e, q3⟩ => ?_)) hm
  subst e
  cases r3
  refine wpAny_truthy_bool ?_
  cases k with
  | false =>
    obtain ⟨k', e', q'⟩ := q3
    cases e'
    exact ite_ff ⟨H3, I3, q'⟩
  | true =>
    refine ite_tt (test_last (thn (hc pins s3 σ H3 _ I3 q3) fun w' s4 ⟨z', H4, I4, r4, q4⟩ => thn (ho' pins s4 σ H4 y z' u w' _ I4 r2 r4 q4) fun d' s5 ⟨z2, H5, I5, r5, k2, e2, q5⟩ => ?_))
    subst e2
    cases r5
    exact wpAny_truthy_bool ⟨H5, I5, q5⟩
theorem line63 : (sizeLine : Nat) < 2 ^ 63 := by rw [sizeLine_eq]; decide
theorem op_add_str : OpR X (binaryOp .Add) (fun x y H Q => ∃ i j, x = .str i /\ y = .str j /\ i.length + j.length <= sizeLine /\ Q (.str (i ++ j)) H) := by
  intro pins s σ H x y v u Q I rx ry h
  obtain ⟨i, j, rfl, rfl, hz, q⟩ := h
  obtain ⟨t, rfl⟩ := rx
  obtain ⟨t', rfl⟩ := ry
  exact add_str (fun t' tk => ⟨.str (i ++ j), H, I.tok _, ⟨_, rfl⟩, q⟩) hz
theorem vals1 {x : V} {us : List Value} (r : Vals [x] us) : ∃ u, us = [u] /\ RelV x u := by
  cases r with
  | cons r1 r2 => cases r2; exact ⟨_, rfl, r1⟩
theorem vals2 {x y : V} {us : List Value} (r : Vals [x, y] us) : ∃ u w', us = [u, w'] /\ RelV x u /\ RelV y w' := by
  cases r with
  | cons r1 r2 =>
    cases r2 with
    | cons r3 r4 => cases r4; exact ⟨_, _, rfl, r1, r3⟩
theorem call_abs : CallR X (.builtin "abs") (fun xs H Q => ∃ i, xs = [.int i] /\ Q (.int (if i < 0 then -i else i)) H) := by
  intro pins s σ H xs us Q I r h
  obtain ⟨i, rfl, q⟩ := h
  obtain ⟨u, rfl, t, rfl⟩ := vals1 r
  exact call_abs_int fun u tk => ⟨.int (if i < 0 then -i else i), H, I.tok _, ⟨_, rfl⟩, q⟩
end
end L2
namespace L2
open PySem PySem.Spec PyProof.Rows
structure ObjM (h : Heap) (x dx C : Addr) (mA : Str -> Option Value) : Prop where
  obj : h.get? x = some (PySem.W.instObj C dx)
  ns : h.Ns1 dx mA
  ne : dx ≠ x
theorem lookIn_ns {h : Heap} {dx : Addr} {mA : Str -> Option Value} (n : h.Ns1 dx mA) : ∃ od, h.get? dx = some od /\ ∀ name, PySem.W.lookIn name od = some (mA name) := by
  obtain ⟨o, es, ep, ho, hd, hk, _, hm⟩ := n
  refine ⟨o, ho, fun name => ?_⟩
  have e := hm name
  unfold nsFind findBy at e
  rw [<- Array.find?_toList] at e
  unfold PySem.W.lookIn
  rw [hd]
  dsimp only
  split
  . rename_i y q
    rw [q] at e
    exact congrArg some e
  . rename_i q
    rw [q] at e
    have a : es.toList.any (·.refKey) = false := by
      rw [List.any_eq_false]
      intro y hy
      obtain ⟨z, t, hkey⟩ := hk y (Array.mem_toList_iff.mp hy)
      simp [DictEntry.refKey, hkey]
    have a' : ¬ es.toList.any (·.refKey) = true := by rw [a]; exact Bool.false_ne_true
    rw [if_neg a']
    exact congrArg some e
theorem ObjM.look {h : Heap} {x dx C : Addr} {mA : Str -> Option Value} (I : ObjM h x dx C mA) : ∃ od, PySem.W.InstAt h x (PySem.W.instObj C dx) C (some od) /\ ∀ name, PySem.W.lookIn name od = some (mA name) :=
  let ⟨od, ho, hl⟩ := lookIn_ns I.ns
  ⟨od, ⟨I.obj, rfl, rfl, ho⟩, hl⟩
section
variable {prog : Program} {w : World} {A : Around} {E : Value -> Shared -> Prop} {s : Shared} {K : PySem.W.Frag} {x dx C f : Addr} {mA : Str -> Option Value} {name : Str} {v : Value}
theorem get_map {expr : Bool} {Q : Value -> Shared -> Prop} (X : K.In s.heap) (I : ObjM s.heap x dx C mA) (hg : PySem.W.plainGet K C name = true) (hh : PySem.W.hasDictIn K C = true)
    (ha : PySem.W.findIn K (.ref C) name = some none) (hv : mA name = some v) (hv' : PySem.W.handedIn v = true) (h : Q v { s with toks := s.toks + 1 }) :
    wpAny (model prog w) A (getAttr (.ref x) name expr) Q E s := by
  obtain ⟨od, J, hl⟩ := I.look
  exact PySem.W.get_value X J (PySem.W.plainGet_of hg).1 (PySem.W.findObj_own hh ha rfl (by rw [hl, hv])) hv' h
theorem get_meth {pl : Sem Bool} {Q : Value × List Value -> Shared -> Prop} (X : K.In s.heap) (I : ObjM s.heap x dx C mA) (hg : PySem.W.plainGet K C name = true)
    (hf : PySem.W.findIn K (.ref C) name = some (some (.ref f))) (ht : PySem.W.isFn K (.ref f) = true) (hv : mA name = none) (h : Q (.ref f, [.ref x]) s) :
    wpAny (model prog w) A (getMethod (.ref x) name pl) Q E s := by
  obtain ⟨od, J, hl⟩ := I.look
  exact PySem.W.method_fn X J (PySem.W.plainGet_of hg).1 (PySem.W.plainGet_of hg).2 hf (beq_iff_eq.mp ht) (by show (PySem.W.lookIn name od).map (·.isSome) = some false; rw [hl, hv]; rfl) h
theorem make_map {R : Result -> Shared -> Prop} {vs : List Value} {kw : List (Str × Value)} (X : K.In s.heap) (hm : PySem.W.makesIn K C = true)
    (hi : PySem.W.findIn K (.ref C) "__init__" = some (some (.ref f))) (hf : PySem.W.typeIn K (.ref f) = some (.type "function"))
    (h : codeAny (model prog w) (A.under (.builtin "type.__call__" ⟨.ref C :: vs, kw⟩)) (.call (.ref f) ⟨.ref (s.heap.objs.size + 1) :: vs, kw⟩) (PySem.W.InitBack (s.heap.objs.size + 1) R)
      { s with heap := (s.heap.push PySem.W.emptyDict).push (PySem.W.instObj C s.heap.objs.size) }) :
    codeAny (model prog w) A (.call (.ref C) ⟨vs, kw⟩) R s := by
  obtain ⟨hh, g, d, t, os⟩ := s
  exact PySem.W.make_core (PySem.W.makes_of X hm) (PySem.W.looks_findIn X hi) (fun self => PySem.W.bind_fn X self hf) (.inl rfl) h
end
theorem RelO.some_of {v : V} {o : Option Value} (r : RelO (some v) o) : ∃ u, o = some u /\ RelV v u := by
  cases o with
  | none => exact (show False from r).elim
  | some u => exact ⟨u, rfl, r⟩
theorem RelO.none_of {o : Option Value} (r : RelO none o) : o = none := by
  cases o with
  | none => rfl
  | some u => exact (show False from r).elim
theorem handed_of {v : V} {u : Value} (r : RelV v u) : PySem.W.handedIn u = true := by
  cases v with
  | non => cases (show u = Value.none from r); rfl
  | bl b => cases (show u = Value.bool b from r); rfl
  | int i => obtain ⟨t, e⟩ := (show ∃ t, u = Value.int i t from r); cases e; rfl
  | str x => obtain ⟨t, e⟩ := (show ∃ t, u = Value.str x t from r); cases e; rfl
  | byt b => obtain ⟨t, e⟩ := (show ∃ t, u = Value.bytes b t from r); cases e; rfl
  | flt b => obtain ⟨t, e⟩ := (show ∃ t, u = Value.float b t from r); cases e; rfl
  | ref a => cases (show u = Value.ref a from r); rfl
  | ty n => cases (show u = Value.type n from r); rfl
section
variable {P : Program} {w : World} {H H' : Hp} {h h' : Heap} {a C dx : Addr} {fs fs' : List (Str × V)}
theorem ins_get (hok : HOk P w H h) (e : H a = some (.ins C dx fs)) : ∃ mA, ObjM h a dx C mA /\ (∀ f, RelO (fs.lookup f) (mA f)) /\ PySem.Within mA (fs.map (·.1)) /\ fs.length <= 1000 /\ H dx = some (.own a) := by
  obtain ⟨d, z, ne, ob, mA, n, r, q⟩ := (show ObjOk P w H h a (.ins C dx fs) from hok a _ e)
  exact ⟨mA, ⟨ob, n, ne⟩, r, q, z, d⟩
end
structure Cls (K : PySem.W.Frag) (C : Addr) : Prop where
  pg : PySem.W.plainGet K C Str.empty = true
  hd : PySem.W.hasDictIn K C = true
  po : PySem.W.plainOver K C = true
  sa : PySem.W.findIn K (.ref C) "__setattr__" = some (some (.builtin "object.__setattr__"))
theorem Cls.get {K : PySem.W.Frag} {C : Addr} (c : Cls K C) (f : Str) : PySem.W.plainGet K C f = true := c.pg
def NoAttr (K : PySem.W.Frag) (C : Addr) (f : Str) : Prop := PySem.W.findIn K (.ref C) f = some none
structure Meth (K : PySem.W.Frag) (C : Addr) (m : Str) (f : Addr) : Prop where
  at_ : PySem.W.findIn K (.ref C) m = some (some (.ref f))
  fn : PySem.W.isFn K (.ref f) = true
  kp : PySem.W.keepIn K (.ref f) = true
section
variable {X : Cx} {pins : List (Addr × Obj)} {σ : St} {H : Hp} {s : Shared} {a C dx : Addr} {fs : List (Str × V)} {f : Str} {v : V} {A : Around} {E : Value -> Shared -> Prop}
theorem getattr_ok {b : Bool} {Q : Value -> Shared -> Prop} (I : Inv X pins σ H s) (e : H a = some (.ins C dx fs)) (c : Cls X.K C) (n : NoAttr X.K C f) (l : fs.lookup f = some v)
    (h : ∀ u s', Inv X pins σ H s' -> RelV v u -> Q u s') : wpAny (model X.prog X.w) A (getAttr (.ref a) f b) Q E s := by
  obtain ⟨mA, O, r, _, _, _⟩ := ins_get I.hok e
  obtain ⟨u, hu, ru⟩ := RelO.some_of (v := v) (o := mA f) (by rw [<- l]; exact r f)
  exact get_map I.kIn O (c.get f) c.hd n hu (handed_of ru) (h u _ (I.tok _) ru)
theorem getmeth_ok {m : Str} {g : Addr} {pl : Sem Bool} {Q : Value × List Value -> Shared -> Prop} (I : Inv X pins σ H s) (e : H a = some (.ins C dx fs)) (c : Cls X.K C) (k : Meth X.K C m g) (l : fs.lookup m = none)
    (h : Q (.ref g, [.ref a]) s) : wpAny (model X.prog X.w) A (getMethod (.ref a) m pl) Q E s := by
  obtain ⟨mA, O, r, _, _, _⟩ := ins_get I.hok e
  have hn : mA m = none := RelO.none_of (by rw [<- l]; exact r m)
  exact get_meth I.kIn O (c.get m) k.at_ k.fn hn h
theorem Inv.made (I : Inv X pins σ H s) : Inv X pins σ (upd (upd H s.heap.objs.size (.own (s.heap.objs.size + 1))) (s.heap.objs.size + 1) (.ins C s.heap.objs.size []))
    { s with heap := (s.heap.push PySem.W.emptyDict).push (PySem.W.instObj C s.heap.objs.size) } := by
  have e1 : (s.heap.push PySem.W.emptyDict).get? s.heap.objs.size = some PySem.W.emptyDict := Heap.get?_push_size s.heap rfl
  have e2 : ((s.heap.push PySem.W.emptyDict).push (PySem.W.instObj C s.heap.objs.size)).get? (s.heap.objs.size + 1) = some (PySem.W.instObj C s.heap.objs.size) := by
    have := Heap.get?_push_size (s.heap.push PySem.W.emptyDict) (o := PySem.W.instObj C s.heap.objs.size) rfl
    rwa [Heap.size_push] at this
  have e3 : (s.heap.push PySem.W.emptyDict).Ns s.heap.objs.size (fun _ => none) := ⟨PySem.W.emptyDict, #[], _, e1, rfl, (fun e he => absurd he (by simp)), fun _ => rfl⟩
  have I1 := I.laid (a := s.heap.objs.size) (o := .own (s.heap.objs.size + 1)) (h' := s.heap.push PySem.W.emptyDict) (t' := s.toks) (fun b u q => Heap.get?_push_of_some _ q) (Nat.le_refl _) ⟨_, e1⟩
  refine I1.laid (a := s.heap.objs.size + 1) (o := .ins C s.heap.objs.size []) (t' := s.toks) (fun b u q => Heap.get?_push_of_some _ q) (Nat.le_of_eq (Heap.size_push _ _)) ?_
  have ne : s.heap.objs.size ≠ s.heap.objs.size + 1 := Nat.ne_of_lt (Nat.lt_succ_self _)
  refine ⟨by rw [upd_ne ne, upd_same], Nat.zero_le _, ne, e2, fun _ => none, (Heap.Ns1.of_empty e3).at fun o q => Heap.get?_push_of_some _ q, fun _ => True.intro, fun y hy => absurd rfl hy⟩
theorem attr_of {prog : Program} {w : World} {env : Env} {e : Expr} {f : Str} {pos : Pos} {s : Shared} {Q : Value -> Shared -> Prop} (hb : attributeBase e f env (eval e env) = eval e env)
    (h : wpAny (model prog w) A (eval e env) (fun o s₁ => wpAny (model prog w) A (getAttr o f true) Q E s₁) E s) : wpAny (model prog w) A (eval (.Attribute e f pos) env) Q E s :=
  Attribute_any_ h (by rw [arm_eval_Attribute, hb])
end
def tFld (K : PySem.W.Frag) (ta : TE) (f : Str) : TE := fun σ H Q => ta σ H fun x H1 => ∃ a C dx fs v, x = .ref a /\ H1 a = some (.ins C dx fs) /\ Cls K C /\ NoAttr K C f /\ fs.lookup f = some v /\ Q v H1
section
variable {X : Cx} {o e value : Expr} {f : Str} {pos pos' tpos : Pos} {ta tv : TE}
theorem pe_fld (he : PE X e ta) (hb : attributeBase e f X.env (eval e X.env) = eval e X.env) : PE X (.Attribute e f pos) (tFld X.K ta f) := by
  intro pins s σ H Q I h
  refine attr_of hb (thn (he pins s σ H _ I h) fun u s1 ⟨x, H1, I1, rx, a, C, dx, fs, v, ex, ea, c, n, l, q⟩ => ?_)
  subst ex
  obtain rfl : u = Value.ref a := rx
  exact getattr_ok I1 ea c n l fun u' s2 I2 ru => ⟨v, H1, I2, ru, q⟩
end
section
variable {X : Cx} {pins : List (Addr × Obj)} {σ : St} {H : Hp} {s : Shared} {A : Around} {E : Value -> Shared -> Prop} {Q : Value -> Shared -> Prop} {c : Value} {b : Bool}
inductive TyOf (K : PySem.W.Frag) (H : Hp) : V -> Value -> Prop where
  | non : TyOf K H .non (.type "NoneType")
  | bl (x : Bool) : TyOf K H (.bl x) (.type "bool")
  | int (i : Int) : TyOf K H (.int i) (.type "int")
  | str (x : Str) : TyOf K H (.str x) (.type "str")
  | flt (x : UInt64) : TyOf K H (.flt x) (.type "float")
  | lst {a : Addr} {xs : List V} (e : H a = some (.lst xs)) : TyOf K H (.ref a) (.type "list")
  | frz {a : Addr} {o : Obj} {xs : List V} (e : H a = some (.frz o (.lst xs))) : TyOf K H (.ref a) (.type "list")
  | tup {a : Addr} {xs : List V} (e : H a = some (.tup xs)) : TyOf K H (.ref a) (.type "tuple")
  | dK {a : Addr} {kvs : List (Key × V)} (e : H a = some (.dK kvs)) : TyOf K H (.ref a) (.type "dict")
  | dT {a : Addr} {kvs : List (List Key × V)} (e : H a = some (.dT kvs)) : TyOf K H (.ref a) (.type "dict")
  | ins {a C dx : Addr} {fs : List (Str × V)} (e : H a = some (.ins C dx fs)) (cl : Cls K C) (ha : PySem.W.findIn K (.ref C) "__class__" = some (some (.builtin "object.__class__")))
      (hn : PySem.W.specialIn K (.builtin "object.__class__") "__get__" = some (some (.builtin "getset_descriptor.__get__"))) (htk : PySem.W.takesIn K (.builtin "object.__class__") = some true)
      (hm : PySem.W.mroIn K C (.type "object") = some true) : TyOf K H (.ref a) (.ref C)
theorem isinst_ok {x : V} {u t : Value} (I : Inv X pins σ H s) (rx : RelV x u) (ty : TyOf X.K H x t) (e : PySem.W.kitOne X.K t c = some b) (h : ∀ tk, Q (.bool b) { s with toks := tk }) :
    wpAny (model X.prog X.w) A (call (.builtin "isinstance") [u, c]) Q E s := by
  cases ty with
  | non => cases (show u = Value.none from rx); exact PySem.W.kia_one PySem.W.kitx_none I.kIn True.intro e (fun z => nomatch z) h
  | bl y => cases (show u = Value.bool y from rx); exact PySem.W.kia_one PySem.W.kitx_bool I.kIn True.intro e (fun z => nomatch z) h
  | int i => obtain ⟨t, q⟩ := (show ∃ t, u = Value.int i t from rx); cases q; exact PySem.W.kia_one PySem.W.kitx_int I.kIn True.intro e (fun z => nomatch z) h
  | str y => obtain ⟨t, q⟩ := (show ∃ t, u = Value.str y t from rx); cases q; exact PySem.W.kia_one PySem.W.kitx_str I.kIn True.intro e (fun z => nomatch z) h
  | flt y => obtain ⟨t, q⟩ := (show ∃ t, u = Value.float y t from rx); cases q; exact PySem.W.kia_one PySem.W.kitx_float I.kIn True.intro e (fun z => nomatch z) h
  | @lst a xs ea =>
    cases (show u = Value.ref a from rx)
    obtain ⟨_, _, n, _, h1⟩ := (show ObjOk X.prog X.w H s.heap a (.lst xs) from I.hok a _ ea)
    exact PySem.W.kia_one PySem.W.kitx_list I.kIn ⟨_, h1, rfl⟩ e (fun z => nomatch z) h
  | @frz a ob xs ea =>
    cases (show u = Value.ref a from rx)
    obtain ⟨_, _, _, n, _, h1⟩ := (show ObjOk X.prog X.w H s.heap a (.frz ob (.lst xs)) from I.hok a _ ea)
    exact PySem.W.kia_one PySem.W.kitx_list I.kIn ⟨_, h1, rfl⟩ e (fun z => nomatch z) h
  | @tup a xs ea =>
    cases (show u = Value.ref a from rx)
    obtain ⟨_, _, _, p⟩ := (show ObjOk X.prog X.w H s.heap a (.tup xs) from I.hok a _ ea)
    obtain ⟨o, h1, h2, _⟩ := p.1
    exact PySem.W.kia_one PySem.W.kitx_tuple I.kIn ⟨o, h1, h2⟩ e (fun z => nomatch z) h
  | @dK a kvs ea =>
    cases (show u = Value.ref a from rx)
    obtain ⟨_, _, vs, _, p⟩ := (show ObjOk X.prog X.w H s.heap a (.dK kvs) from I.hok a _ ea)
    obtain ⟨o, es, ep, h1, h2, _⟩ := p
    exact PySem.W.kia_one PySem.W.kitx_dict I.kIn ⟨o, h1, h2.1⟩ e (fun z => nomatch z) h
  | @dT a kvs ea =>
    cases (show u = Value.ref a from rx)
    obtain ⟨_, _, xs, _, o, es, ep, h1, h2, _⟩ := (show ObjOk X.prog X.w H s.heap a (.dT kvs) from I.hok a _ ea)
    exact PySem.W.kia_one PySem.W.kitx_dict I.kIn ⟨o, h1, h2.1⟩ e (fun z => nomatch z) h
  | @ins a C dx fs ea cl ha hn htk hm =>
    cases (show u = Value.ref a from rx)
    obtain ⟨mA, O, _⟩ := ins_get I.hok ea
    obtain ⟨od, J, _⟩ := O.look
    exact PySem.W.kia_one (PySem.W.kitx_own (cl.get _) cl.hd ha hn htk hm) I.kIn J e (fun z => nomatch z) h
end
end L2
namespace L2
open PySem PySem.Spec PyProof.Rows
structure Room (k : Nat) (A : Around) : Prop where
  hd : A.handled = none
  dp : A.depth + 3 * k + 5 < recursionLimit
  un : A.units + 16 * k + 200 < cLine
theorem Room.mono {j k : Nat} {A : Around} (r : Room k A) (h : j <= k) : Room j A := ⟨r.hd, by have := r.dp; omega, by have := r.un; omega⟩
theorem Room.deeper {k : Nat} {A : Around} (r : Room (k + 1) A) (env : Env) : Room k (A.deeper env) :=
  ⟨r.hd, by have := r.dp; show A.depth + 1 + 3 * k + 5 < _; omega, by have := r.un; show A.units + 3 + 16 * k + 200 < _; omega⟩
theorem Room.in1 {k : Nat} {A : Around} (r : Room (k + 1) A) : Room k A.in1 :=
  ⟨r.hd, by have := r.dp; show A.depth + 3 * k + 5 < _; omega, by have := r.un; show A.units + 1 + 16 * k + 200 < _; omega⟩
theorem make_depth {A : Around} {C : Addr} {us : List Value} {kw : List (Str × Value)} : (A.under (.builtin "type.__call__" ⟨.ref C :: us, kw⟩)).depth = A.depth + 1 := by
  first | rfl | simp [Around.under, Code.weight, Code.isCreation, Code.isGuard, Code.isCaller, Code.frames, Code.isFrame, guardIds]
theorem make_units {A : Around} {C : Addr} {us : List Value} {kw : List (Str × Value)} : (A.under (.builtin "type.__call__" ⟨.ref C :: us, kw⟩)).units = A.units + 1 := by
  first | rfl | simp [Around.under, Code.cUnits, Code.frames, Code.isFrame]
theorem Room.make {k : Nat} {A : Around} (r : Room (k + 1) A) (C : Addr) (us : List Value) (kw : List (Str × Value)) : Room k (A.under (.builtin "type.__call__" ⟨.ref C :: us, kw⟩)) :=
  ⟨r.hd, by have := r.dp; rw [make_depth]; omega, by have := r.un; rw [make_units]; omega⟩
theorem Room.depth {k : Nat} {A : Around} (r : Room k A) : A.depth < recursionLimit := by have := r.dp; omega
theorem Room.units {k : Nat} {A : Around} (r : Room k A) : A.units + 64 < cLine := by have := r.un; omega
def tNil : TA := fun _ H Q => Q [] H
def tCons (ta : TE) (tr : TA) : TA := fun σ H Q => ta σ H fun x H1 => tr σ H1 fun xs H2 => Q (x :: xs) H2
section
variable {X : Cx} {e : Expr} {es : List Expr} {te : TE} {t : TA} {pos : Pos}
theorem pa_nil : PA X [] tNil := fun _ _ _ _ H Q I h => Calls.spliced_nil ⟨[], H, I, .nil, h⟩
theorem pa_cons (ha : PE X e te) (hr : PA X es t) (hs : starEach (e :: es) X.env = (false, eval e X.env) :: starEach es X.env := by rfl) : PA X (e :: es) (tCons te t) := by
  intro pos pins s σ H Q I h
  rw [hs]
  show wpAny _ _ (spliced ((false, eval e X.env) :: backTo pos (starEach es X.env))) _ _ s
  refine Calls.spliced_cons (thn (ha pins s σ H _ I h) fun u s1 ⟨x, H1, I1, r1, q1⟩ => ?_)
  exact thn (hr pos pins s1 σ H1 _ I1 q1) fun us s2 ⟨xs, H2, I2, r2, q2⟩ => ⟨x :: xs, H2, I2, .cons r1 r2, q2⟩
def tTup (t : TA) : TE := fun σ H Q => t σ H fun xs H1 => xs.length <= sizeLine /\ ∀ p, H1 p = none -> Q (.ref p) (upd H1 p (.tup xs))
def tLst (t : TA) : TE := fun σ H Q => t σ H fun xs H1 => xs.length <= sizeLine /\ ∀ p, H1 p = none -> Q (.ref p) (upd H1 p (.lst xs))
theorem pe_tup {x1} (h : PA X es t) : PE X (.Tuple es x1 pos) (tTup t) := by
  intro pins s σ H Q I hq
  refine wpAny_Tuple_spliced (thn (h pos pins s σ H _ I hq) fun us s1 ⟨xs, H1, I1, r, z, q⟩ => ⟨by rw [<- r.length]; exact z, ?_⟩)
  have hf : H1 s1.heap.objs.size = none := I1.hok.fresh (Nat.le_refl _)
  refine ⟨.ref s1.heap.objs.size, upd H1 s1.heap.objs.size (.tup xs), I1.laid (t' := s1.toks) (fun b u e => Heap.get?_push_of_some _ e) (Nat.le_refl _) ?_, rfl, q _ hf⟩
  exact ⟨z, us, r, ⟨_, Heap.get?_push_size _ rfl, rfl, _, rfl⟩, _, Heap.get?_push_size _ rfl, rfl⟩
theorem pe_lst (h : PA X es t) : PE X (.List es pos) (tLst t) := by
  intro pins s σ H Q I hq
  refine wpAny_List_spliced (thn (h pos pins s σ H _ I hq) fun us s1 ⟨xs, H1, I1, r, z, q⟩ => ⟨by rw [<- r.length]; exact z, ?_⟩)
  have hf : H1 s1.heap.objs.size = none := I1.hok.fresh (Nat.le_refl _)
  refine ⟨.ref s1.heap.objs.size, upd H1 s1.heap.objs.size (.lst xs), I1.laid (t' := s1.toks) (fun b u e => Heap.get?_push_of_some _ e) (Nat.le_refl _) ?_, rfl, q _ hf⟩
  exact ⟨z, us, 0, r, Heap.get?_push_size _ rfl⟩
end
abbrev Sp := List V -> Hp -> VK -> XK -> Prop
abbrev CXT := List Env -> Hp -> Shared -> XK -> Value -> Shared -> Prop
structure Env0 (P : Program) (w : World) (K : PySem.W.Frag) (mg : Str -> Option Value) (base : Heap) (A : Around) (outer : List Env) (s : Shared) (H : Hp) : Prop where
  frames : A.frames = some outer
  mod : Mod K mg base
  bs : ∀ b o, base.get? b = some o -> s.heap.get? b = some o /\ H b = none
  bsz : base.objs.size <= s.heap.objs.size
  funs : s.heap.FunFrames base outer
  frf : ∀ b ∈ frs outer, H b = none
  hok : HOk P w H s.heap
  bare : AllBare s.gens
def CE (outer : List Env) (P : Program) (w : World) (H : Hp) (s : Shared) (Q : VK) (u : Value) (s' : Shared) : Prop :=
  ∃ v H', s'.os = s.os /\ AllBare s'.gens /\ Un (frs outer) [] H H' s.heap s'.heap /\ HOk P w H' s'.heap /\ RelV v u /\ Q v H'
def CR (CX : CXT) (outer : List Env) (P : Program) (w : World) (H : Hp) (s : Shared) (Q : VK) (E : XK) (r : Result) (s' : Shared) : Prop :=
  match r with
  | .ok (.ret u) => CE outer P w H s Q u s'
  | .ok _ => False
  | .error e => CX outer H s E e s'
structure FnOk (P : Program) (w : World) (K : PySem.W.Frag) (mg : Str -> Option Value) (base : Heap) (CX : CXT) (k : Nat) (f : Addr) (fd : FuncData) (ps : List Str) (sp : Sp) : Prop where
  len : ∀ vs H Q E, sp vs H Q E -> vs.length = ps.length
  run : ∀ (A : Around) (outer : List Env) (s : Shared) (H : Hp) (args : Args) (us : List Value) (vs : List V) (Q : VK) (E : XK), Room k A -> Env0 P w K mg base A outer s H -> BindsTo s fd args (ps.zip us) -> Vals vs us -> sp vs H Q E ->
    codeAny (model P w) A (.call (.ref f) args) (CR CX outer P w H s Q E) s
theorem FnOk.mono {P : Program} {w : World} {K : PySem.W.Frag} {mg : Str -> Option Value} {base : Heap} {CX : CXT} {j k : Nat} {f : Addr} {fd : FuncData} {ps : List Str} {sp : Sp} (F : FnOk P w K mg base CX j f fd ps sp) (h : j <= k) :
    FnOk P w K mg base CX k f fd ps sp := ⟨F.len, fun A outer s H args us vs Q E hr => F.run A outer s H args us vs Q E (hr.mono h)⟩
theorem Env0.make {P : Program} {w : World} {K : PySem.W.Frag} {mg : Str -> Option Value} {base : Heap} {A : Around} {outer : List Env} {s : Shared} {H : Hp} (e : Env0 P w K mg base A outer s H) (C : Addr) (us : List Value) (kw : List (Str × Value)) :
    Env0 P w K mg base (A.under (.builtin "type.__call__" ⟨.ref C :: us, kw⟩)) outer s H := ⟨by first | exact e.frames | (simpa [Around.under, Code.envs, Code.isFrame, pushEnvs] using e.frames), e.mod, e.bs, e.bsz, e.funs, e.frf, e.hok, e.bare⟩
theorem Env0.in1 {P : Program} {w : World} {K : PySem.W.Frag} {mg : Str -> Option Value} {base : Heap} {A : Around} {outer : List Env} {s : Shared} {H : Hp} (e : Env0 P w K mg base A outer s H) :
    Env0 P w K mg base A.in1 outer s H := ⟨e.frames, e.mod, e.bs, e.bsz, e.funs, e.frf, e.hok, e.bare⟩
section
variable {X : Cx} {pins : List (Addr × Obj)} {σ : St} {H : Hp} {s s' : Shared}
theorem Inv.env0 (I : Inv X pins σ H s) : Env0 X.prog X.w X.K X.mg X.base X.A X.stack s H :=
  ⟨I.ok.frames, I.ok.mod, I.bs, Nat.le_trans I.ok.bsz I.sz, I.stack, I.stkFree, I.hok, I.bare⟩
theorem Inv.after {Q : VK} {u : Value} (I : Inv X pins σ H s) (h : CE X.stack X.prog X.w H s Q u s') : EP X pins σ Q u s' := by
  obtain ⟨v, H', os, bare, un, hok, r, q⟩ := h
  obtain ⟨hh, g, d, t, os'⟩ := s'
  obtain rfl : os' = s.os := os
  exact ⟨v, H', I.call (h' := hh) (g' := g) (d' := d) (t' := t) (ch := []) un hok bare (fun b z => absurd z (by simp)), r, q⟩
end
def tCall (sp : Sp) (dvs : List V) (E : XK) (t : TA) : TE := fun σ H Q => t σ H fun vs H1 => sp (vs ++ dvs) H1 Q E
def tMeth (C : Addr) (m : Str) (sp : Sp) (dvs : List V) (E : XK) (ta : TE) (t : TA) : TE := fun σ H Q => ta σ H fun x H1 => ∃ a dx fs, x = .ref a /\ H1 a = some (.ins C dx fs) /\ fs.lookup m = none /\
  t σ H1 fun vs H2 => sp (x :: (vs ++ dvs)) H2 Q E
def tMake (C : Addr) (sp : Sp) (dvs : List V) (E : XK) (t : TA) : TE := fun σ H Q => t σ H fun vs H1 => ∀ x dx, H1 x = none -> H1 dx = none -> dx ≠ x ->
  sp (.ref x :: (vs ++ dvs)) (upd (upd H1 dx (.own x)) x (.ins C dx [])) (fun v H2 => v = .non /\ Q (.ref x) H2) E
def Binds (K : PySem.W.Frag) (fd : FuncData) (ps : List Str) (ds : List Value) : Prop :=
  ∀ (s : Shared) (us : List Value), K.In s.heap -> (us ++ ds).length = ps.length -> BindsTo s fd ⟨us, []⟩ (ps.zip (us ++ ds))
theorem Binds.all {K : PySem.W.Frag} {fd : FuncData} {ps : List Str} (h : ∀ us : List Value, us.length = ps.length -> bindArgs fd ⟨us, []⟩ = pure (ps.zip us)) : Binds K fd ps [] := fun s us _ hl => by
  rw [List.append_nil] at hl ⊢
  exact .of_eq (h us hl)
def Passes (CX : CXT) (X : Cx) (E : XK) : Prop := ∀ (pins : List (Addr × Obj)) (σ : St) (H : Hp) (s : Shared) (e : Value) (s' : Shared), Inv X pins σ H s -> CX X.stack H s E e s' -> X.xe e s'
section
variable {X : Cx} {CX : CXT} {k : Nat} {f C : Addr} {fd : FuncData} {ps : List Str} {sp : Sp} {dvs : List V} {ds : List Value} {E : XK} {x m : Str} {p pos apos : Pos} {e o : Expr} {es : List Expr} {ta : TE} {t : TA}
theorem run_fn {pins : List (Addr × Obj)} {σ : St} {H : Hp} {s : Shared} {Q : VK} {us : List Value} {vs : List V} (F : FnOk X.prog X.w X.K X.mg X.base CX k f fd ps sp) (hr : Room k X.A) (hb : Binds X.K fd ps ds) (hd : Vals dvs ds) (hx : Passes CX X E)
    (I : Inv X pins σ H s) (r : Vals vs us) (h : sp (vs ++ dvs) H Q E) : wpAny (model X.prog X.w) X.A (call (.ref f) us) (EP X pins σ Q) X.xe s := by
  have r2 : Vals (vs ++ dvs) (us ++ ds) := r.append hd
  have hl : (us ++ ds).length = ps.length := by rw [<- r2.length]; exact F.len _ _ _ _ h
  refine wpAny_call (codeAny_mono (F.run X.A X.stack s H ⟨us, []⟩ (us ++ ds) (vs ++ dvs) Q E hr I.env0 (hb s us I.kIn hl) r2 h) fun r s' hq => ?_)
  cases r with
  | error e => exact hx pins σ H s e s' I hq
  | ok fl =>
    cases fl with
    | ret u => exact I.after hq
    | next => exact False.elim hq
    | brk => exact False.elim hq
    | cont => exact False.elim hq
theorem pe_call (F : FnOk X.prog X.w X.K X.mg X.base CX k f fd ps sp) (hr : Room k X.A) (hg : Gl X x) (hm : X.mg x = some (.ref f)) (hk : PySem.W.keepIn X.K (.ref f) = true) (hb : Binds X.K fd ps ds) (hd : Vals dvs ds) (hx : Passes CX X E)
    (ha : PA X (e :: es) t) (hdb : (x == ("__debug__" : Str)) = false := by decide) (he : starEach (e :: es) X.env = (false, eval e X.env) :: starEach es X.env := by rfl) (hpl : (backTo pos (starEach es X.env)).any (·.1) = false := by rfl) :
    PE X (.Call (.Name x p) (e :: es) [] pos) (tCall sp dvs E t) := by
  intro pins s σ H Q I h
  refine wpAny_Call_Name_kw (ld_glob I hg hm ?_ hdb)
  refine PySem.W.callWith_K (h₀ := X.base) I.ok.mod.kin hk (thn (ha pos pins s σ H _ I h) fun us s1 ⟨vs, H1, I1, r, q⟩ => ⟨I1.kIn, ?_⟩) he hpl
  exact run_fn F hr hb hd hx I1 r q
theorem pe_call0 (F : FnOk X.prog X.w X.K X.mg X.base CX k f fd ps sp) (hr : Room k X.A) (hg : Gl X x) (hm : X.mg x = some (.ref f)) (hk : PySem.W.keepIn X.K (.ref f) = true) (hb : Binds X.K fd ps ds) (hd : Vals dvs ds) (hx : Passes CX X E)
    (hdb : (x == ("__debug__" : Str)) = false := by decide) : PE X (.Call (.Name x p) [] [] pos) (tCall sp dvs E tNil) := by
  intro pins s σ H Q I h
  refine wpAny_Call_Name_kw (ld_glob I hg hm ?_ hdb)
  exact PySem.W.callWith_K0 I.kIn hk (run_fn (us := []) F hr hb hd hx I .nil h)
theorem pe_meth {pl : Sem Bool} (he : PE X o ta) (c : Cls X.K C) (hm : Meth X.K C m f) (F : FnOk X.prog X.w X.K X.mg X.base CX k f fd ps sp) (hr : Room k X.A) (hb : Binds X.K fd ps ds) (hd : Vals dvs ds) (hx : Passes CX X E) (ha : PA X (e :: es) t)
    (hst : starEach (e :: es) X.env = (false, eval e X.env) :: starEach es X.env := by rfl) (hpl : (backTo pos (starEach es X.env)).any (·.1) = false := by rfl)
    (ht : eval (.Call (.Attribute o m apos) (e :: es) [] pos) X.env = (do
      let ov <- eval o X.env
      standAt apos.atName
      let (f, first) <- holding [ov] (getMethod ov m pl)
      callWith pos f first (backTo pos (starEach (e :: es) X.env)) (backToKw pos (keywordEach [] X.env))) := by rfl) :
    PE X (.Call (.Attribute o m apos) (e :: es) [] pos) (tMeth C m sp dvs E ta t) := by
  intro pins s σ H Q I h
  refine PySem.W.methodCall_KW (pl := pl) (thn (he pins s σ H _ I h) fun u s1 ⟨x, H1, I1, rx, a, dx, fs, ex, ea, l, q⟩ => ?_) ht
  subst ex
  obtain rfl : u = Value.ref a := rx
  refine getmeth_ok I1 ea c hm l ?_
  refine PySem.W.callWith_K (first := [.ref a]) (h₀ := X.base) I.ok.mod.kin hm.kp (thn (ha pos pins s1 σ H1 _ I1 q) fun us s2 ⟨vs, H2, I2, r, q2⟩ => ⟨I2.kIn, ?_⟩) hst hpl
  exact run_fn (us := .ref a :: us) (vs := .ref a :: vs) F hr hb hd hx I2 (.cons rfl r) q2
theorem pe_meth0 {pl : Sem Bool} (he : PE X o ta) (c : Cls X.K C) (hm : Meth X.K C m f) (F : FnOk X.prog X.w X.K X.mg X.base CX k f fd ps sp) (hr : Room k X.A) (hb : Binds X.K fd ps ds) (hd : Vals dvs ds) (hx : Passes CX X E)
    (ht : eval (.Call (.Attribute o m apos) [] [] pos) X.env = (do
      let ov <- eval o X.env
      standAt apos.atName
      let (f, first) <- holding [ov] (getMethod ov m pl)
      callWith pos f first (backTo pos (starEach [] X.env)) (backToKw pos (keywordEach [] X.env))) := by rfl) :
    PE X (.Call (.Attribute o m apos) [] [] pos) (tMeth C m sp dvs E ta tNil) := by
  intro pins s σ H Q I h
  refine PySem.W.methodCall_KW (pl := pl) (thn (he pins s σ H _ I h) fun u s1 ⟨x, H1, I1, rx, a, dx, fs, ex, ea, l, q⟩ => ?_) ht
  subst ex
  obtain rfl : u = Value.ref a := rx
  refine getmeth_ok I1 ea c hm l ?_
  exact PySem.W.callWith_K0 (first := [.ref a]) I1.kIn hm.kp (run_fn (us := [.ref a]) (vs := [.ref a]) F hr hb hd hx I1 (.cons rfl .nil) q)
structure Mk (K : PySem.W.Frag) (C f : Addr) : Prop where
  makes : PySem.W.makesIn K C = true
  init : PySem.W.findIn K (.ref C) "__init__" = some (some (.ref f))
  fn : PySem.W.isFn K (.ref f) = true
  kp : PySem.W.keepIn K (.ref C) = true
theorem run_make {pins : List (Addr × Obj)} {σ : St} {H : Hp} {s : Shared} {Q : VK} {us : List Value} {vs : List V} (M : Mk X.K C f) (F : FnOk X.prog X.w X.K X.mg X.base CX k f fd ps sp) (hr : Room (k + 1) X.A) (hb : Binds X.K fd ps ds) (hd : Vals dvs ds)
    (hx : Passes CX X E) (I : Inv X pins σ H s) (r : Vals vs us)
    (h : ∀ x dx, H x = none -> H dx = none -> dx ≠ x -> sp (.ref x :: (vs ++ dvs)) (upd (upd H dx (.own x)) x (.ins C dx [])) (fun v H2 => v = .non /\ Q (.ref x) H2) E) :
    wpAny (model X.prog X.w) X.A (call (.ref C) us) (EP X pins σ Q) X.xe s := by
  have hq := h (s.heap.objs.size + 1) s.heap.objs.size (I.hok.fresh (Nat.le_succ _)) (I.hok.fresh (Nat.le_refl _)) (Nat.ne_of_lt (Nat.lt_succ_self _))
  have I2 := Inv.made (C := C) I
  have r2 : Vals (V.ref (s.heap.objs.size + 1) :: (vs ++ dvs)) (Value.ref (s.heap.objs.size + 1) :: (us ++ ds)) := .cons rfl (r.append hd)
  have hl : (Value.ref (s.heap.objs.size + 1) :: us ++ ds).length = ps.length := by
    have e := r2.length
    rw [F.len _ _ _ _ hq] at e
    exact e.symm
  refine wpAny_call (make_map (f := f) I.kIn M.makes M.init (beq_iff_eq.mp M.fn) (codeAny_mono (F.run _ X.stack _ _ ⟨Value.ref (s.heap.objs.size + 1) :: us, []⟩ (Value.ref (s.heap.objs.size + 1) :: (us ++ ds)) _ _ E (hr.make C us [])
    (I2.env0.make C us []) (hb _ (Value.ref (s.heap.objs.size + 1) :: us) I2.kIn hl) r2 hq) fun r s' hq' => ?_))
  cases r with
  | error e => exact hx pins σ _ _ e s' I2 hq'
  | ok fl =>
    cases fl with
    | ret u =>
      obtain ⟨v, H', I3, rv, ev, q3⟩ := I2.after hq'
      subst ev
      exact ⟨rv, ⟨V.ref (s.heap.objs.size + 1), H', I3, rfl, q3⟩⟩
    | next => exact False.elim hq'
    | brk => exact False.elim hq'
    | cont => exact False.elim hq'
theorem pe_make (M : Mk X.K C f) (F : FnOk X.prog X.w X.K X.mg X.base CX k f fd ps sp) (hr : Room (k + 1) X.A) (hg : Gl X x) (hm : X.mg x = some (.ref C)) (hb : Binds X.K fd ps ds) (hd : Vals dvs ds) (hx : Passes CX X E)
    (ha : PA X (e :: es) t) (hdb : (x == ("__debug__" : Str)) = false := by decide) (he : starEach (e :: es) X.env = (false, eval e X.env) :: starEach es X.env := by rfl) (hpl : (backTo pos (starEach es X.env)).any (·.1) = false := by rfl) :
    PE X (.Call (.Name x p) (e :: es) [] pos) (tMake C sp dvs E t) := by
  intro pins s σ H Q I h
  refine wpAny_Call_Name_kw (ld_glob I hg hm ?_ hdb)
  refine PySem.W.callWith_K (h₀ := X.base) I.ok.mod.kin M.kp (thn (ha pos pins s σ H _ I h) fun us s1 ⟨vs, H1, I1, r, q⟩ => ⟨I1.kIn, ?_⟩) he hpl
  exact run_make M F hr hb hd hx I1 r q
theorem pe_make0 (M : Mk X.K C f) (F : FnOk X.prog X.w X.K X.mg X.base CX k f fd ps sp) (hr : Room (k + 1) X.A) (hg : Gl X x) (hm : X.mg x = some (.ref C)) (hb : Binds X.K fd ps ds) (hd : Vals dvs ds) (hx : Passes CX X E)
    (hdb : (x == ("__debug__" : Str)) = false := by decide) : PE X (.Call (.Name x p) [] [] pos) (tMake C sp dvs E tNil) := by
  intro pins s σ H Q I h
  refine wpAny_Call_Name_kw (ld_glob I hg hm ?_ hdb)
  exact PySem.W.callWith_K0 I.kIn M.kp (run_make (us := []) M F hr hb hd hx I .nil h)
end
section
variable {X : Cx} {CX : CXT} {k : Nat} {f C : Addr} {fd : FuncData} {ps ks : List Str} {sp : Sp} {E : XK} {x m : Str} {p pos apos kpos : Pos} {e o : Expr} {es : List Expr} {kws : List Keyword} {te ta : TE} {t tk : TA} {nm : Option Str}
variable {g : List Value -> List Value -> List Value} {gV : List V -> List V -> List V}
end
structure FnScope (N P : List Str) (sc : Scope) : Prop where
  kind : sc.kind = .function
  co : sc.isCoroutine = false
  gen : sc.isGenerator = false
  nd : N.Nodup
  pre : N.take P.length = P
  par : ∀ x ∈ P, sc.names.lookup x = some .local \/ sc.names.lookup x = some .cell
  nofree : ∀ y ∈ sc.names, y.2 ≠ .free
theorem bindL_out {kindOf : Str -> Option NameKind} {x : Str} : ∀ {binds : List (Str × Value)} {m : Str -> Option Value}, (∀ v, (x, v) ∉ binds) -> bindL kindOf binds m x = m x
  | [], _, _ => rfl
  | (n, v) :: r, m, h => by
    unfold bindL
    rw [bindL_out fun w hw => h w (List.mem_cons_of_mem _ hw)]
    split
    . have : x ≠ n := by rintro rfl; exact h v List.mem_cons_self
      simp [this]
    . rfl
theorem bindC_out {kindOf : Str -> Option NameKind} {x : Str} : ∀ {binds : List (Str × Value)} {m : Str -> Option Value}, (∀ v, (x, v) ∉ binds) -> bindC kindOf binds m x = m x
  | [], _, _ => rfl
  | (n, v) :: r, m, h => by
    unfold bindC
    rw [bindC_out fun w hw => h w (List.mem_cons_of_mem _ hw)]
    split
    . rfl
    . have : x ≠ n := by rintro rfl; exact h v List.mem_cons_self
      simp [this]
theorem bindL_get {kindOf : Str -> Option NameKind} {x : Str} {v : Value} : ∀ {P : List Str} {vs : List Value} {i : Nat} {m : Str -> Option Value}, P.Nodup -> P[i]? = some x -> vs[i]? = some v -> kindOf x = some .local ->
    bindL kindOf (P.zip vs) m x = some v
  | [], _, _, _, _, h, _, _ => by simp at h
  | _ :: _, [], _, _, _, _, h, _ => by simp at h
  | p :: P, w :: vs, 0, m, nd, h1, h2, hk => by
    simp at h1 h2; subst h1; subst h2
    show bindL kindOf ((p, w) :: P.zip vs) m p = _
    unfold bindL
    rw [bindL_out fun v hv => (List.nodup_cons.mp nd).1 (List.of_mem_zip hv).1, if_pos hk]
    simp
  | p :: P, w :: vs, i + 1, m, nd, h1, h2, hk => by
    show bindL kindOf ((p, w) :: P.zip vs) m x = _
    unfold bindL
    exact bindL_get (i := i) (List.nodup_cons.mp nd).2 (by simpa using h1) (by simpa using h2) hk
theorem bindC_get {kindOf : Str -> Option NameKind} {x : Str} {v : Value} : ∀ {P : List Str} {vs : List Value} {i : Nat} {m : Str -> Option Value}, P.Nodup -> P[i]? = some x -> vs[i]? = some v -> kindOf x ≠ some .local ->
    bindC kindOf (P.zip vs) m x = some v
  | [], _, _, _, _, h, _, _ => by simp at h
  | _ :: _, [], _, _, _, _, h, _ => by simp at h
  | p :: P, w :: vs, 0, m, nd, h1, h2, hk => by
    simp at h1 h2; subst h1; subst h2
    show bindC kindOf ((p, w) :: P.zip vs) m p = _
    unfold bindC
    rw [bindC_out fun v hv => (List.nodup_cons.mp nd).1 (List.of_mem_zip hv).1, if_neg hk]
    simp
  | p :: P, w :: vs, i + 1, m, nd, h1, h2, hk => by
    show bindC kindOf ((p, w) :: P.zip vs) m x = _
    unfold bindC
    exact bindC_get (i := i) (List.nodup_cons.mp nd).2 (by simpa using h1) (by simpa using h2) hk
def start (N : List Str) (vs : List V) : St := vs.map some ++ List.replicate (N.length - vs.length) none
def cxOf (CX : CXT) (P : Program) (w : World) (K : PySem.W.Frag) (mg : Str -> Option Value) (base : Heap) (N : List Str) (qual : Str) (scope : Scope) (f : Addr) (cd : Value) (A : Around) (outer : List Env) (s : Shared) (H : Hp) (E : XK) : Cx where
  prog := P
  w := w
  K := K
  mg := mg
  base := base
  A := A.deeper (envOfC qual scope s.heap.objs.size f cd)
  N := N
  s₀ := s
  H₀ := H
  env := envOfC qual scope s.heap.objs.size f cd
  outer := outer
  stack := envOfC qual scope s.heap.objs.size f cd :: outer
  ex := []
  calm := true
  fn := fun _ => true
  pn := []
  xe := fun e s' => wpAny (model P w) (A.deeper (envOfC qual scope s.heap.objs.size f cd)) (leaving (envOfC qual scope s.heap.objs.size f cd) e) (fun _ s'' => CX outer H s E e s'') (fun e' s'' => CX outer H s E e' s'') s'
theorem cell_has {sc : Scope} {n : Nat} {x : Str} (h : sc.names.lookup x = some .cell) : ∃ c, (cellsFrom n sc.names []).lookup x = some c := by
  have q := PySem.W.cellsFrom_some sc.names n [] (.inl h)
  exact Option.isSome_iff_exists.mp q
theorem inv_start {CX : CXT} {P : Program} {w : World} {K : PySem.W.Frag} {mg : Str -> Option Value} {base : Heap} {N ps : List Str} {qual : Str} {scope : Scope} {f : Addr} {cd : Value} {A : Around} {outer : List Env} {s s1 : Shared} {H : Hp} {E : XK} {us : List Value} {vs : List V}
    (S : FnScope N ps scope) (hd : A.handled = none) (e0 : Env0 P w K mg base A outer s H) (hl : vs.length = ps.length) (r : Vals vs us)
    (x : InCallC s s.heap.objs.size (bindL (envOfC qual scope s.heap.objs.size f cd).kindOf (ps.zip us) fun _ => none) (cellsFrom (s.heap.objs.size + 1) scope.names []) (bindC (envOfC qual scope s.heap.objs.size f cd).kindOf (ps.zip us) fun _ => none) s1) :
    Inv (cxOf CX P w K mg base N qual scope f cd A outer s H E) [] (start N vs) H s1 := by
  have hpl : ps.length <= N.length := by have := congrArg List.length S.pre; rw [List.length_take] at this; omega
  obtain ⟨h1, tk, rfl, hk⟩ := x.done
  have noA : ∀ b : Addr, b ∉ (cxOf CX P w K mg base N qual scope f cd A outer s H E).ex := fun b z => absurd (show b ∈ ([] : List Addr) from z) (by simp)
  refine ⟨⟨e0.mod, S.kind, rfl, rfl, Nat.le_refl _, fun y z c h1 h2 => ?_, fun y hy => ?_, fun y c _ h => ?_, fun _ => hd, Around.frames_deeper e0.frames, .inr ⟨rfl, rfl⟩, fun b z => absurd z (noA b), e0.bs, e0.bsz, fun b _ _ => noA b, fun b z => absurd z (noA b), e0.funs, e0.frf⟩,
    rfl, e0.bare, Un.kept hk, ⟨_, x.toInCall.ns, fun i y v h1 h2 h3 => ?_⟩, fun y c h => ⟨_, x.cell y c h⟩, e0.hok.fresh (Nat.le_refl _), fun y c h => ?_, fun p hp => absurd (show p ∈ ([] : List (Addr × Obj)) from hp) (by simp), e0.hok.kept hk, ?_⟩
  . exact name_of_addr x.apart (PySem.mem_of_lookup h1) (PySem.mem_of_lookup h2)
  . have hy : scope.names.lookup y = some .cell \/ scope.names.lookup y = some .free := hy
    rcases hy with hy | hy
    . exact cell_has hy
    . exact absurd rfl (S.nofree _ (PySem.mem_of_lookup hy))
  . exact Nat.le_of_lt (x.above y c (PySem.mem_of_lookup h))
  . have hi : i < vs.length := by
      unfold start at h2
      by_cases hi : i < vs.length
      . exact hi
      . rw [List.getElem?_append_right (by simpa using hi)] at h2
        rw [List.getElem?_replicate] at h2
        split at h2 <;> cases h2
    have ha : vs[i]? = some v := by
      unfold start at h2
      rw [List.getElem?_append_left (by simpa using hi), List.getElem?_map] at h2
      cases e : vs[i]? with
      | none => rw [e] at h2; cases h2
      | some a => rw [e] at h2; cases h2; rfl
    obtain ⟨u, hu, rv⟩ := r.get ha
    have hp : ps[i]? = some y := by
      rw [<- S.pre, List.getElem?_take_of_lt (by omega)]; exact h1
    have ndP : ps.Nodup := by rw [<- S.pre]; exact S.nd.sublist (List.take_sublist _ _)
    refine ⟨u, rv, ?_⟩
    rcases S.par y (List.mem_of_getElem? hp) with k | k
    . exact .inl ⟨k, bindL_get ndP hp hu k⟩
    . obtain ⟨c, e⟩ := cell_has (n := s.heap.objs.size + 1) k
      refine .inr ⟨.inl k, c, e, ?_⟩
      have q := x.cell y c e
      rw [bindC_get ndP hp hu (by show scope.names.lookup y ≠ _; rw [k]; decide)] at q
      exact q
  . exact e0.hok.fresh (Nat.le_of_lt (x.above y c (PySem.mem_of_lookup h)))
  . unfold start
    show _ = N.length
    rw [List.length_append, List.length_map, List.length_replicate]
    omega
theorem fn_of {CX : CXT} {P : Program} {w : World} {K : PySem.W.Frag} {mg : Str -> Option Value} {base : Heap} {k : Nat} {f : Addr} {name qual : Str} {params : Arguments} {body : List Stmt} {scope : Scope} {dV kV doc pm cdv ct oc : Value} {an od : Option Addr}
    {osl : Array (Option Value)} {N ps : List Str} {sp : Sp} (lk : K.lookup f = some ⟨oc, od, .func (PySem.W.fnOf name qual params body scope dV kV doc pm an cdv ct), osl⟩) (hcd : PySem.W.codeIn K cdv qual = true) (S : FnScope N ps scope)
    (len : ∀ vs H Q E, sp vs H Q E -> vs.length = ps.length)
    (hbody : ∀ (A : Around) (outer : List Env) (s : Shared) (H : Hp) (vs : List V) (Q : VK) (E : XK), Room k (A.deeper (envOfC qual scope s.heap.objs.size f cdv)) -> sp vs H Q E ->
      ∃ t, PSs (cxOf CX P w K mg base N qual scope f cdv A outer s H E) body t /\ t { nx := fun _ H' => Q .non H', rt := Q } (start N vs) H) :
    FnOk P w K mg base CX (k + 1) f (PySem.W.fnOf name qual params body scope dV kV doc pm an cdv ct) ps sp := by
  refine ⟨len, fun A outer s H args us vs Q E hr e0 hb r hsp => ?_⟩
  have hl := len _ _ _ _ hsp
  have KX : K.In s.heap := e0.mod.kin.keeps fun b o e => (e0.bs b o e).1
  have lim : s.heap.NoLimit := e0.mod.nolimit.keeps fun b o e => (e0.bs b o e).1
  have hkind : ∀ y ∈ ps.zip us, scope.names.lookup y.1 = some .local \/ (scope.names.lookup y.1 = some .cell /\ ((cellsFrom (s.heap.objs.size + 1) scope.names []).lookup y.1).isSome = true) := fun ⟨n, v⟩ hy => by
    rcases S.par n (List.of_mem_zip hy).1 with q | q
    . exact .inl q
    . exact .inr ⟨q, PySem.W.cellsFrom_some _ _ _ (.inl q)⟩
  refine codeAny_call_function hr.depth (KX _ _ lk) rfl S.co S.gen rfl (PySem.W.codeRec_of KX hcd) (hb _ _ _ _ ?_)
  refine wpAny_newFunctionEnv_cells S.kind hkind fun env he s1 x => ?_
  subst he
  refine ⟨lim.keeps x.toInCall.keep, codeAny_func ?_⟩
  obtain ⟨t, ht, hq⟩ := hbody A outer s H vs Q E (hr.deeper _) hsp
  have I : Inv (cxOf CX P w K mg base N qual scope f cdv A outer s H E) [] (start N vs) H s1 := inv_start S hr.hd e0 hl r x
  refine wpAny_mono (ht [] s1 (start N vs) H _ I hq) (fun fl s' hs => ?_) fun e s' hs => hs
  have fin : ∀ {σ' : St} {H' : Hp} {v : V} {u : Value}, Inv (cxOf CX P w K mg base N qual scope f cdv A outer s H E) [] σ' H' s' -> RelV v u -> Q v H' -> CE outer P w H s Q u s' :=
    fun {σ' H' v u} J rv q => ⟨v, H', J.os, J.bare, J.base, J.hok, rv, q⟩
  cases fl with
  | ret u =>
    obtain ⟨v, σ', H', J, rv, q⟩ := hs
    exact fin J rv q
  | next =>
    obtain ⟨σ', H', J, q⟩ := hs
    exact fin (v := V.non) (u := Value.none) J rfl q
  | brk =>
    obtain ⟨_, _, _, q⟩ := hs
    exact False.elim q
  | cont =>
    obtain ⟨_, _, _, q⟩ := hs
    exact False.elim q
end L2
namespace L2
open PySem PySem.Spec PyProof.Rows
section
variable {X : Cx} {x : Str} {p pos : Pos} {e : Expr} {es : List Expr} {t : TA} {id T : String} {r : List V -> Hp -> VK -> Prop}
def tCB (r : List V -> Hp -> VK -> Prop) (t : TA) : TE := fun σ H Q => t σ H fun vs H1 => r vs H1 Q
theorem pe_callB (hc : CallR X (.builtin id) r) (hg : Gl X x) (hm : X.mg x = none) (hv : bootBuiltins x = some (.builtin id)) (ha : PA X (e :: es) t) (hn : x ≠ "__name__" := by decide) (hdb : (x == ("__debug__" : Str)) = false := by decide)
    (he : starEach (e :: es) X.env = (false, eval e X.env) :: starEach es X.env := by rfl) (hpl : (backTo pos (starEach es X.env)).any (·.1) = false := by rfl) : PE X (.Call (.Name x p) (e :: es) [] pos) (tCB r t) := by
  intro pins s σ H Q I h
  refine wpAny_Call_Name_kw (ld_blt I hg hm hv ?_ hn hdb)
  exact PyProof.Rows.callWith_builtin1 (thn (ha pos pins s σ H _ I h) fun us s1 ⟨vs, H1, I1, r1, q1⟩ => hc pins s1 σ H1 vs us Q I1 r1 q1) he hpl
theorem pe_callTy (hc : CallR X (.type T) r) (hg : Gl X x) (hm : X.mg x = none) (hv : bootBuiltins x = some (.type T)) (ha : PA X (e :: es) t) (hn : x ≠ "__name__" := by decide) (hdb : (x == ("__debug__" : Str)) = false := by decide)
    (he : starEach (e :: es) X.env = (false, eval e X.env) :: starEach es X.env := by rfl) (hpl : (backTo pos (starEach es X.env)).any (·.1) = false := by rfl) : PE X (.Call (.Name x p) (e :: es) [] pos) (tCB r t) := by
  intro pins s σ H Q I h
  refine wpAny_Call_Name_kw (ld_blt I hg hm hv ?_ hn hdb)
  exact PyProof.Rows.callWith_type1 (thn (ha pos pins s σ H _ I h) fun us s1 ⟨vs, H1, I1, r1, q1⟩ => hc pins s1 σ H1 vs us Q I1 r1 q1) he hpl
end
end L2
namespace HT
open PySem PyProof.Rows
def lexLt : List Int -> List Int -> Bool
  | [], [] => false
  | [], _ :: _ => true
  | _ :: _, [] => false
  | x :: xs, y :: ys => if x = y then lexLt xs ys else decide (x < y)
theorem lexLt_cons (x y : Int) (xs ys : List Int) : lexLt (x :: xs) (y :: ys) = if x = y then lexLt xs ys else decide (x < y) := rfl
theorem lexLt_nil_nil : lexLt [] [] = false := rfl
theorem lexLt_nil_cons (y : Int) (ys : List Int) : lexLt [] (y :: ys) = true := rfl
theorem lexLt_cons_nil (x : Int) (xs : List Int) : lexLt (x :: xs) [] = false := rfl
theorem eqAt_int (A : Around) (s : Shared) (a : Int) (t : Tok) (c : Int) (u : Tok) : ∃ e, SeqAt.EqAt A s (.int a t) (.int c u) e /\ (e = true ↔ a = c) :=
  ⟨(a == c), SeqAt.EqAt.int_int a t c u, by simp⟩
theorem rcLt_int (A : Around) (s : Shared) (a : Int) (t : Tok) (c : Int) (u : Tok) (prog : Program) (w : World) (E : Value -> Shared -> Prop) (Q : Value -> Shared -> Prop) (h : Q (.bool (decide (a < c))) s) :
    wpAny (model prog w) A (richCompare .Lt (.int a t) (.int c u)) Q E s :=
  (PyProof.Rows.lt_int h : wpAny (model prog w) A (compareOp .Lt (.int a t) (.int c u)) Q E s)
section
open PySem.SeqAt
open PySem.AutoSeq1 (wpAny_loadPart')
open PySem.MeetsSeq PySem.MeetsSeq2 PySem.MeetsSeq3
theorem tuple_lt_ints (l b : Addr) (items items2 : Array Value) (n n2 : Nat) (dd dd2 : Option Addr) (sl sl2 : Array (Option Value)) (ns ms : List Int) (hi : IntsAre items.toList ns) (hj : IntsAre items2.toList ms) :
    Meets (Builtin.«tuple.__lt__» ⟨[.ref l, .ref b], []⟩)
      (fun _ R s => s.heap.get? l = some { cls := .type "tuple", dict := dd, data := .seq items n, slots := sl } /\ s.heap.get? b = some { cls := .type "tuple", dict := dd2, data := .seq items2 n2, slots := sl2 } /\
        R (.ok (.ret (.bool (lexLt ns ms)))) s) :=
  .of_wp fun prog w A R s h => by
    obtain ⟨hp, g, d, tk, os⟩ := s; obtain ⟨hl, hb, h⟩ := h
    have f2 := AutoSeq1.sub_tuple_tuple
    have z1 : items.size = ns.length := by rw [<- hi.length]; simp
    have z2 : items2.size = ms.length := by rw [<- hj.length]; simp
    wp_walk using wpAny_loadPart' hl, wpAny_loadPart' hb, wpAny_forIn_list _ (fun rest b s' => b.1 = none /\ s' = ⟨hp, g, d, tk, os⟩ /\ ∃ (vs ws : List Value) (ns' ms' : List Int), rest = vs.zip ws /\
      IntsAre vs ns' /\ IntsAre ws ms' /\ ns'.length + items2.size = ms'.length + items.size /\ R (.ok (.ret (.bool (lexLt ns' ms')))) ⟨hp, g, d, tk, os⟩) _
    case turn =>
      rintro ⟨y, x⟩ rest b s' ⟨hb', rfl, vs, ws, ns', ms', hz, hvi, hwi, hlen, hR⟩
      cases hvi with
      | nil => rw [List.zip_nil_left] at hz; cases hz
      | cons a t hvi' =>
        cases hwi with
        | nil => rw [List.zip_nil_right] at hz; cases hz
        | cons c u hwi' =>
          rw [List.zip_cons_cons] at hz
          injection hz with hyx hrest
          injection hyx with hy hx
          subst hy hx
          rw [lexLt_cons] at hR
          simp only [List.length_cons] at hlen
          obtain ⟨e, he, hiff⟩ := eqAt_int A.in1 ⟨hp, g, d, tk, os⟩ a t c u
          refine wpAny_bind (he prog w _ _ ?_)
          cases e with
          | true =>
            rw [if_pos (hiff.mp rfl)] at hR
            wp_walk
            exact ⟨rfl, rfl, _, _, _, _, hrest, hvi', hwi', by omega, hR⟩
          | false =>
            rw [if_neg (fun q => absurd (hiff.mpr q) Bool.false_ne_true)] at hR
            have hri := rcLt_int A.in1 ⟨hp, g, d, tk, os⟩ a t c u prog w
            wp_walk using hri
            exact ⟨_, rfl, by simpa using hR⟩
    case fin =>
      rintro ⟨b1, b2⟩ s' ⟨hb', rfl, vs, ws, ns', ms', hz, hvi, hwi, hlen, hR⟩
      simp only at hb'
      subst hb'
      have hv : lexLt ns' ms' = decide (items.size < items2.size) := by
        cases hvi with
        | nil =>
          cases hwi with
          | nil =>
            simp only [List.length_nil] at hlen
            rw [lexLt_nil_nil]
            exact (decide_eq_false (by omega)).symm
          | cons c u hw =>
            simp only [List.length_nil, List.length_cons] at hlen
            rw [lexLt_nil_cons]
            exact (decide_eq_true (by omega)).symm
        | cons a t hv =>
          cases hwi with
          | nil =>
            simp only [List.length_nil, List.length_cons] at hlen
            rw [lexLt_cons_nil]
            exact (decide_eq_false (by omega)).symm
          | cons c u hw =>
            rw [List.zip_cons_cons] at hz
            cases hz
      rw [hv] at hR
      wp_walk
      exact ⟨_, rfl, by simpa [Builtin.Tuple.tupleCompareSizes] using hR⟩
    case h =>
      exact ⟨rfl, rfl, items.toList, items2.toList, ns, ms, rfl, hi, hj, by omega, h⟩
end
section
variable {prog : Program} {w : World} {A : Around} {E : Value -> Shared -> Prop} {s : Shared}
theorem lt_tupInts {l b : Addr} {items items2 : Array Value} {ns ms : List Int} {Q : Value -> Shared -> Prop} (hl : IsTup s.heap l items) (hb : IsTup s.heap b items2) (hi : IntsAre items.toList ns) (hj : IntsAre items2.toList ms)
    (hu : A.units < cLine) (h : Q (.bool (lexLt ns ms)) s) : wpAny (model prog w) A (compareOp .Lt (.ref l) (.ref b)) Q E s := by
  obtain ⟨⟨cls, dd, data, sl⟩, ho, hc, n, hd⟩ := id hl
  obtain ⟨⟨cls2, dd2, data2, sl2⟩, ho2, hc2, n2, hd2⟩ := id hb
  simp only at hc hd hc2 hd2
  subst hc hd hc2 hd2
  exact richCompare_meets_room (op := .Lt) ⟨_, ho, rfl⟩ ⟨_, ho2, rfl⟩ PySem.F.slot_tuple_lt PySem.F.entry_tuple_lt (PySem.F.args_tuple_lt_2 _ _) (tuple_lt_ints l b items items2 n n2 dd dd2 sl sl2 ns ms hi hj)
    ⟨ho, ho2, show Value.bool (lexLt ns ms) ≠ Value.notImplemented /\ Q (.bool (lexLt ns ms)) s from ⟨(fun x => nomatch x), h⟩⟩ hu
theorem cat_tup {t b : Addr} {vs ws : List Value} {Q : Value -> Shared -> Prop} (ht : IsTup s.heap t vs.toArray) (hb : IsTup s.heap b ws.toArray) (hv : vs ≠ [])
    (h1 : ws = [] -> Q (.ref t) s) (h2 : ws ≠ [] -> Q (.ref s.heap.objs.size) { s with heap := s.heap.push { cls := .type "tuple", data := .seq (vs ++ ws).toArray } })
    (hsz : vs.length + ws.length <= sizeLine) : wpAny (model prog w) A (binaryOp .Add (.ref t) (.ref b)) Q E s := by
  obtain ⟨⟨cls, dd, data, sl⟩, ho, hc, n, hd⟩ := id ht
  obtain ⟨⟨cls2, dd2, data2, sl2⟩, ho2, hc2, n2, hd2⟩ := id hb
  simp only at hc hd hc2 hd2
  subst hc hd hc2 hd2
  have e : vs.toArray ++ ws.toArray = (vs ++ ws).toArray := by simp
  by_cases hw : ws = []
  . exact concat_meets ⟨_, ho, rfl⟩ ⟨_, ho2, rfl⟩ noFill_tuple_add seq_tuple_add PySem.F.slot_tuple_add PySem.F.entry_tuple_add (PySem.F.args_tuple_add_2 _ _)
      (tuple_addW1 t b vs.toArray ws.toArray n n2 dd dd2 sl sl2 (by simpa using hv) (by simp [hw])) ⟨ho, ho2, h1 hw⟩
  . refine concat_meets ⟨_, ho, rfl⟩ ⟨_, ho2, rfl⟩ noFill_tuple_add seq_tuple_add PySem.F.slot_tuple_add PySem.F.entry_tuple_add (PySem.F.args_tuple_add_2 _ _)
      (tuple_addW2 t b vs.toArray ws.toArray n n2 dd dd2 sl sl2 (by simpa using hv) (by simpa using hw) (by rw [List.size_toArray, List.size_toArray]; exact hsz)) ⟨ho, ho2, ?_⟩
    rw [e]
    exact h2 hw
def sIx (n d : Nat) : Option Int -> Nat
  | none => d
  | some v => if v < 0 then (v + (n : Int)).toNat else min v.toNat n
end
end HT
namespace L2
open PySem PySem.Spec PyProof.Rows
abbrev TO := St -> Hp -> (Option Int -> Hp -> Prop) -> Prop
def PO (X : Cx) (e : Option Expr) (t : TO) : Prop :=
  ∀ (pins : List (Addr × Obj)) (s : Shared) (σ : St) (H : Hp) (Q : Option Int -> Hp -> Prop), Inv X pins σ H s -> t σ H Q ->
    wpAny (model X.prog X.w) X.A (evalPart e X.env) (fun u s' => ∃ o H', Inv X pins σ H' s' /\ IsPart u o /\ Q o H') X.xe s
def tNoPart : TO := fun _ H Q => Q none H
def tPart (t : TE) : TO := fun σ H Q => t σ H fun x H1 => ∃ i, x = .int i /\ Q (some i) H1
theorem intsAre_of {ns : List Int} : ∀ {us : List Value}, Vals (ns.map V.int) us -> IntsAre us ns := by
  induction ns with
  | nil => intro us r; rw [List.map_nil] at r; cases r; exact .nil
  | cons n ns ih =>
    intro us r
    rw [List.map_cons] at r
    cases r with
    | cons r1 r2 =>
      obtain ⟨t, e⟩ := r1
      subst e
      exact .cons n t (ih r2)
section
variable {X : Cx} {e : Expr} {te : TE} {lo hi : Option Expr} {tl th : TO} {pos p2 : Pos}
theorem po_none : PO X none tNoPart := by
  intro pins s σ H Q I h
  rw [evalPart_none]
  exact wpAny_pure ⟨none, H, I, .none, h⟩
theorem po_some (h : PE X e te) : PO X (some e) (tPart te) := by
  intro pins s σ H Q I hw
  rw [evalPart_some]
  refine thn (h pins s σ H _ I hw) fun u s1 ⟨x, H1, I1, r1, q1⟩ => ?_
  obtain ⟨i, rfl, q⟩ := q1
  obtain ⟨t, rfl⟩ := r1
  exact ⟨some i, H1, I1, .int i t, q⟩
def cutV (xs : List V) (lo hi : Option Int) : List V := (xs.drop (HT.sIx xs.length 0 lo)).take (HT.sIx xs.length xs.length hi - HT.sIx xs.length 0 lo)
def rLtT (K : PySem.W.Frag) : R2 := fun x y H Q => ∃ a b ns ms, x = .ref a /\ y = .ref b /\ SqT K H a (ns.map V.int) /\ SqT K H b (ms.map V.int) /\ Q (.bl (HT.lexLt ns ms)) H
theorem op_ltT (hu : X.A.units < cLine) : OpR X (compareOp .Lt) (rLtT X.K) := by
  intro pins s σ H x y v u Q I rx ry h
  obtain ⟨a, b, ns, ms, rfl, rfl, ha, hb, q⟩ := h
  cases rx
  cases ry
  obtain ⟨its, r1, p1, _⟩ := I.tuple ha
  obtain ⟨its2, r2, p2, _⟩ := I.tuple hb
  have i1 : IntsAre its.toArray.toList ns := intsAre_of r1
  have i2 : IntsAre its2.toArray.toList ms := intsAre_of r2
  exact HT.lt_tupInts p1 p2 i1 i2 hu ⟨.bl (HT.lexLt ns ms), H, I, rfl, q⟩
def rCatT (K : PySem.W.Frag) : R2 := fun x y H Q => ∃ a b xs ys, x = .ref a /\ y = .ref b /\ SqT K H a xs /\ SqT K H b ys /\ xs ≠ [] /\ xs.length + ys.length <= sizeLine /\
  (ys = [] -> Q (.ref a) H) /\ (ys ≠ [] -> ∀ p, H p = none -> Q (.ref p) (upd H p (.tup (xs ++ ys))))
theorem Vals.nil_iff {xs : List V} {us : List Value} (r : Vals xs us) : us = [] ↔ xs = [] := by
  cases r with
  | nil => simp
  | cons _ _ => simp
theorem op_catT : OpR X (binaryOp .Add) (rCatT X.K) := by
  intro pins s σ H x y v u Q I rx ry h
  obtain ⟨a, b, xs, ys, rfl, rfl, ha, hb, hx, hz, q1, q2⟩ := h
  cases rx
  cases ry
  obtain ⟨its, r1, p1, _⟩ := I.tuple ha
  obtain ⟨its2, r2, p2, _⟩ := I.tuple hb
  refine HT.cat_tup p1 p2 (fun z => hx (r1.nil_iff.mp z)) (fun z => ⟨.ref a, H, I, rfl, q1 (r2.nil_iff.mp z)⟩) (fun z => ?_) (by rw [<- r1.length, <- r2.length]; exact hz)
  refine ⟨.ref s.heap.objs.size, _, I.laid (t' := s.toks) (o := .tup (xs ++ ys)) (fun b ob q => Heap.get?_push_of_some _ q) (Nat.le_refl _) ?_, rfl, q2 (fun w => z (r2.nil_iff.mpr w)) _ (I.hok.fresh (Nat.le_refl _))⟩
  exact ⟨by rw [List.length_append]; exact hz, _, r1.append r2, IsTupN.new _ _⟩
end
end L2
namespace L2
open PySem PySem.Spec PyProof.Rows
def ixN (n : Nat) (i : Int) : Option Nat := if 0 <= i then (if i < n then some i.toNat else none) else if -(n : Int) <= i then some (i + n).toNat else none
def atI {α : Type} (xs : List α) (i : Int) : Option α := (ixN xs.length i).bind fun j => xs[j]?
theorem ixN_seq {n : Nat} {i : Int} {j : Nat} (h : ixN n i = some j) : seqIndex? i n = some j /\ j < n /\ -(n : Int) <= i /\ i < n := by
  unfold ixN at h
  by_cases h0 : 0 <= i
  . rw [if_pos h0] at h
    by_cases h1 : i < n
    . rw [if_pos h1] at h
      have e : i.toNat = j := Option.some.inj h
      exact ⟨by rw [seqIndex_of h0 h1, e], by omega, by omega, h1⟩
    . rw [if_neg h1] at h; cases h
  . rw [if_neg h0] at h
    by_cases h1 : -(n : Int) <= i
    . rw [if_pos h1] at h
      have e : (i + n).toNat = j := Option.some.inj h
      exact ⟨by rw [seqIndex_neg (by omega) h1, e], by omega, h1, by omega⟩
    . rw [if_neg h1] at h; cases h
theorem atI_get {α : Type} {xs : List α} {i : Int} {v : α} (h : atI xs i = some v) : ∃ j, seqIndex? i xs.length = some j /\ xs[j]? = some v /\ j < xs.length /\ -(xs.length : Int) <= i /\ i < xs.length := by
  unfold atI at h
  cases e : ixN xs.length i with
  | none => rw [e] at h; cases h
  | some j =>
    rw [e] at h
    obtain ⟨h1, h2, h3, h4⟩ := ixN_seq e
    exact ⟨j, h1, h, h2, h3, h4⟩
theorem atI_nat {α : Type} {xs : List α} {j : Nat} {v : α} (h : xs[j]? = some v) : atI xs (j : Int) = some v := by
  have hj : j < xs.length := (List.getElem?_eq_some_iff.mp h).1
  have e : ixN xs.length (j : Int) = some j := by
    unfold ixN
    rw [if_pos (by omega), if_pos (by omega)]; simp
  unfold atI; rw [e]; exact h
def PlainIx (b : Expr) : Prop := ∀ o i, subscripted b false o i = operate [o, i] (getItem o i)
def IxR (X : Cx) (r : R2) : Prop :=
  ∀ (value slice : Expr) (pins : List (Addr × Obj)) (s : Shared) (σ : St) (H : Hp) (x y : V) (v u : Value) (Q : VK), Inv X pins σ H s -> RelV x v -> RelV y u -> r x y H Q ->
    subscripted slice false v u = operate [v, u] (getItem v u) -> wpAny (model X.prog X.w) X.A (subscriptTail value slice v u) (EP X pins σ Q) X.xe s
def MtR (X : Cx) (id : String) (r : V -> List V -> Hp -> VK -> Prop) : Prop :=
  ∀ (pins : List (Addr × Obj)) (s : Shared) (σ : St) (H : Hp) (x : V) (xs : List V) (v : Value) (us : List Value) (Q : VK), Inv X pins σ H s -> RelV x v -> Vals xs us -> r x xs H Q ->
    wpAny (model X.prog X.w) X.A (call (.builtin id) (v :: us)) (EP X pins σ Q) X.xe s
section
variable {X : Cx} {a b : Expr} {ta tb : TE} {pos : Pos}
theorem pe_ix {r : R2} (hr : IxR X r) (ha : PE X a ta) (hb : PE X b tb) (hs : PlainIx b) : PE X (.Subscript a b pos) (tOp r ta tb) := by
  intro pins s σ H Q I h
  exact Subscript_ (binT ha hb I h fun v u s2 x y H2 I2 rx ry q => hr a b pins s2 σ H2 x y v u Q I2 rx ry q (hs _ _))
def rIxL (K : PySem.W.Frag) : R2 := fun x y H Q => ∃ p xs i v, x = .ref p /\ y = .int i /\ SqL K H p xs /\ atI xs i = some v /\ Q v H
def rIxT (K : PySem.W.Frag) : R2 := fun x y H Q => ∃ p xs i v, x = .ref p /\ y = .int i /\ SqT K H p xs /\ atI xs i = some v /\ Q v H
theorem ix_list : IxR X (rIxL X.K) := by
  intro value slice pins s σ H x y v u Q I rx ry h hs
  obtain ⟨p, xs, i, z, rfl, rfl, hq, he, q⟩ := h
  cases rx
  obtain ⟨t, rfl⟩ := ry
  obtain ⟨its, r, pl, hz⟩ := I.list hq
  obtain ⟨j, h1, h2, h3, h4, h5⟩ := atI_get he
  obtain ⟨w, ew, rw'⟩ := r.get h2
  have hl := r.length
  have hn := line63
  have fin : EP X pins σ Q w s := ⟨z, H, I, rw', q⟩
  by_cases h0 : 0 <= i
  . have hj : i.toNat = j := by
      rw [seqIndex_of h0 h5] at h1
      exact Option.some.inj h1
    exact item_listR pl.isList h0 (by omega) (by rw [hj]; simpa using ew) fin hs
  . have hj : (i + (its.toArray.size : Int)).toNat = j := by
      rw [seqIndex_neg (by omega) h4] at h1
      rw [List.size_toArray, <- hl]
      exact Option.some.inj h1
    exact subscriptTail_builtinR (x := w) pl.isList.typeIs slot_list_getitem.lookup
      (wpAny_getItem_list_neg (Q := fun r s' => r = w /\ EP X pins σ Q r s') pl.isList (by omega) (by rw [List.size_toArray] <;> omega) (by omega) (by rw [hj]; simpa using ew) ⟨rfl, fin⟩) hs
theorem ix_tup : IxR X (rIxT X.K) := by
  intro value slice pins s σ H x y v u Q I rx ry h hs
  obtain ⟨p, xs, i, z, rfl, rfl, hq, he, q⟩ := h
  cases rx
  obtain ⟨t, rfl⟩ := ry
  obtain ⟨its, r, pl, hz⟩ := I.tuple hq
  obtain ⟨j, h1, h2, h3, h4, h5⟩ := atI_get he
  obtain ⟨w, ew, rw'⟩ := r.get h2
  have hl := r.length
  have hn := line63
  have fin : EP X pins σ Q w s := ⟨z, H, I, rw', q⟩
  exact subscriptTail_builtinR (x := w) pl.typeIs slot_tuple_getitem.lookup
    (getItem_tuple (j := j) (Q := fun r s' => r = w /\ EP X pins σ Q r s') pl (by omega) (by omega) (by rw [List.size_toArray, <- hl]; exact h1) (by simpa using ew) ⟨rfl, fin⟩) hs
theorem mapSeq_set (its : List Value) (n j : Nat) (u : Value) : Obj.mapSeq (·.setIfInBounds j u) { cls := .type "list", data := .seq its.toArray n } = { cls := .type "list", data := .seq (its.set j u).toArray n } := by
  simp [Obj.mapSeq]
theorem Inv.lst {pins : List (Addr × Obj)} {σ : St} {H : Hp} {s : Shared} {p : Addr} {xs : List V} (I : Inv X pins σ H s) (h : H p = some (.lst xs)) :
    ∃ (its : List Value) (n : Nat), Vals xs its /\ s.heap.get? p = some { cls := .type "list", data := .seq its.toArray n } /\ xs.length <= sizeLine := by
  obtain ⟨z, its, n, r, e⟩ := I.hok p _ h
  exact ⟨its, n, r, e, z⟩
theorem Inv.lstUpd {pins : List (Addr × Obj)} {σ : St} {H : Hp} {s : Shared} {p : Addr} {xs ys : List V} {its its' : List Value} {n n' : Nat} {f : Obj -> Obj} (I : Inv X pins σ H s) (h : H p = some (.lst xs))
    (ho : s.heap.get? p = some { cls := .type "list", data := .seq its.toArray n }) (hf : f { cls := .type "list", data := .seq its.toArray n } = { cls := .type "list", data := .seq its'.toArray n' }) (r : Vals ys its') (hz : ys.length <= sizeLine) (t : Nat) :
    Inv X pins σ (upd H p (.lst ys)) { s with heap := s.heap.update p f, toks := t } := by
  have e : (s.heap.update p f).get? p = some { cls := .type "list", data := .seq its'.toArray n' } := by
    rw [Heap.get?_update_self f ho (by rw [hf] <;> rfl), hf]
  refine I.write (x := p) (e := p) (by rw [h]; trivial) (.inl rfl) (fun b u hb q => (Heap.get?_update_other _ _ (Ne.symm hb)).trans q) ⟨_, e⟩ ?_
  exact ⟨hz, its', n', r, e⟩
def rSetL : V -> V -> V -> Hp -> (Hp -> Prop) -> Prop := fun o i v H Q => ∃ p xs k j, o = .ref p /\ i = .int k /\ H p = some (.lst xs) /\ ixN xs.length k = some j /\ Q (upd H p (.lst (xs.set j v)))
theorem set_list : PSet X rSetL := by
  intro pins s σ H o i v ov iv u Q I ro ri rv h
  obtain ⟨p, xs, k, j, rfl, rfl, hp, hj, q⟩ := h
  cases ro
  obtain ⟨t, rfl⟩ := ri
  obtain ⟨its, n, r, ho, hz⟩ := I.lst hp
  obtain ⟨h1, h2, h3, h4⟩ := ixN_seq hj
  have hl := r.length
  have hn := line63
  have I' : Inv X pins σ (upd H p (.lst (xs.set j v))) { s with heap := s.heap.update p (Obj.mapSeq (·.setIfInBounds j u)) } :=
    I.lstUpd hp ho (mapSeq_set its n j u) (r.set rv j) (by rw [List.length_set]; exact hz) s.toks
  by_cases h0 : 0 <= k
  . have hk : k.toNat = j := by
      rw [seqIndex_of h0 h4] at h1
      exact Option.some.inj h1
    exact PySem.W.ki_setAt ho h0 (by omega) (by rw [List.size_toArray, <- hl]; exact h4) (by rw [hk]; exact ⟨_, I', q⟩)
  . have hk : (k + (its.toArray.size : Int)).toNat = j := by
      rw [seqIndex_neg (by omega) h3] at h1
      rw [List.size_toArray, <- hl]
      exact Option.some.inj h1
    exact PySem.W.ki_setBack ho (by omega) (by rw [List.size_toArray, <- hl]; exact h3) (by omega) (by rw [hk]; exact ⟨_, I', q⟩)
def flatV : V -> Bool
  | .non => true
  | .bl _ => true
  | .int _ => true
  | .str _ => true
  | _ => false
def eqV : V -> V -> Bool
  | .non, .non => true
  | .bl a, .bl b => a == b
  | .bl a, .int b => (if a then 1 else 0) == b
  | .int a, .bl b => a == (if b then 1 else 0)
  | .int a, .int b => a == b
  | .str a, .str b => a == b
  | _, _ => false
theorem eqAt_V {A : Around} {s : Shared} {y x : V} {u v : Value} (ry : RelV y u) (rx : RelV x v) (fy : flatV y = true) (fx : flatV x = true) : SeqAt.EqAt A s u v (eqV y x) := by
  cases y with
  | non =>
    cases ry
    cases x with
    | non => cases rx; exact SeqAt.EqAt.same _
    | bl b => cases rx; exact SeqAt.EqAt.none_bool b
    | int b => obtain ⟨t, rfl⟩ := rx; exact SeqAt.EqAt.none_int b t
    | str b => obtain ⟨t, rfl⟩ := rx; exact SeqAt.EqAt.none_str b t
    | _ => exact absurd (show false = true from fx) Bool.false_ne_true
  | bl a =>
    cases ry
    cases x with
    | non => cases rx; exact SeqAt.EqAt.bool_none a
    | bl b => cases rx; exact SeqAt.EqAt.bool_bool a b
    | int b => obtain ⟨t, rfl⟩ := rx; exact SeqAt.EqAt.bool_int a b t
    | str b => obtain ⟨t, rfl⟩ := rx; exact SeqAt.EqAt.bool_str a b t
    | _ => exact absurd (show false = true from fx) Bool.false_ne_true
  | int a =>
    obtain ⟨t', rfl⟩ := ry
    cases x with
    | non => cases rx; exact SeqAt.EqAt.int_none a t'
    | bl b => cases rx; exact SeqAt.EqAt.int_bool a t' b
    | int b => obtain ⟨t, rfl⟩ := rx; exact SeqAt.EqAt.int_int a t' b t
    | str b => obtain ⟨t, rfl⟩ := rx; exact SeqAt.EqAt.int_str a t' b t
    | _ => exact absurd (show false = true from fx) Bool.false_ne_true
  | str a =>
    obtain ⟨t', rfl⟩ := ry
    cases x with
    | non => cases rx; exact SeqAt.EqAt.str_none a t'
    | bl b => cases rx; exact SeqAt.EqAt.str_bool a t' b
    | int b => obtain ⟨t, rfl⟩ := rx; exact SeqAt.EqAt.str_int a t' b t
    | str b => obtain ⟨t, rfl⟩ := rx; exact SeqAt.EqAt.str_str a t' b t
    | _ => exact absurd (show false = true from fx) Bool.false_ne_true
  | _ => exact absurd (show false = true from fy) Bool.false_ne_true
def eqU (x : V) (u : Value) : Bool := match u with
  | .none => eqV .non x
  | .bool b => eqV (.bl b) x
  | .int i _ => eqV (.int i) x
  | .str z _ => eqV (.str z) x
  | _ => false
theorem eqU_of {x y : V} {u : Value} (r : RelV y u) (f : flatV y = true) : eqU x u = eqV y x := by
  cases y with
  | non => cases r; rfl
  | bl b => cases r; rfl
  | int i => obtain ⟨t, rfl⟩ := r; rfl
  | str z => obtain ⟨t, rfl⟩ := r; rfl
  | _ => exact absurd (show false = true from f) Bool.false_ne_true
theorem mem_eqAt {A : Around} {s : Shared} {x : V} {v : Value} (rx : RelV x v) (fx : flatV x = true) : ∀ {xs : List V} {us : List Value}, Vals xs us -> xs.all flatV = true -> ∀ u ∈ us, SeqAt.EqAt A s u v (eqU x u)
  | _, _, .nil, _ => fun u hu => by cases hu
  | y :: xs, u :: us, .cons r t, f => fun u' hu => by
    rw [List.all_cons, Bool.and_eq_true] at f
    rcases List.mem_cons.mp hu with rfl | hu
    . rw [eqU_of r f.1]; exact eqAt_V r rx f.1 fx
    . exact mem_eqAt rx fx t f.2 u' hu
theorem call_len_seq : CallR X (.builtin "len") (fun xs H Q => ∃ p ys, xs = [.ref p] /\ (SqL X.K H p ys \/ SqT X.K H p ys) /\ Q (.int ys.length) H) := by
  intro pins s σ H xs us Q I r h
  obtain ⟨p, ys, rfl, hq, q⟩ := h
  obtain ⟨u, rfl, rx⟩ := vals1 r
  cases rx
  have hn := line63
  rcases hq with hq | hq
  . obtain ⟨its, r', pl, hz⟩ := I.list hq
    have hlen := r'.length
    exact Calls.call_len_list pl.isList (by simp only [List.size_toArray] <;> omega) ⟨.int ys.length, H, I.tok _, ⟨s.toks + 1, by rw [List.size_toArray, hlen]⟩, q⟩
  . obtain ⟨its, r', pl, hz⟩ := I.tuple hq
    have hlen := r'.length
    exact len_tuple pl (by simp only [List.size_toArray] <;> omega) ⟨.int ys.length, H, I.tok _, ⟨s.toks + 1, by rw [List.size_toArray, hlen]⟩, q⟩
theorem call_tuple_of : CallR X (.type "tuple") (fun xs H Q => ∃ p ys, xs = [.ref p] /\ ((SqL X.K H p ys /\ ∀ l, H l = none -> Q (.ref l) (upd H l (.tup ys))) \/ (SqT X.K H p ys /\ Q (.ref p) H))) := by
  intro pins s σ H xs us Q I r h
  obtain ⟨p, ys, rfl, h⟩ := h
  obtain ⟨u, rfl, rx⟩ := vals1 r
  cases rx
  rcases h with ⟨hq, q⟩ | ⟨hq, q⟩
  . obtain ⟨its, r', pl, hz⟩ := I.list hq
    have hlen := r'.length
    refine call_tuple_list pl.isList (fun h' kp => ?_) (by simp only [List.size_toArray] <;> omega)
    have I1 : Inv X pins σ H { s with heap := h' } := I.kept (t' := s.toks) kp
    have I2 : Inv X pins σ (upd H h'.objs.size (.tup ys)) { s with heap := h'.push { cls := .type "tuple", data := .seq its.toArray } } :=
      I1.laid (t' := s.toks) (fun b o e => Heap.get?_push_of_some _ e) (Nat.le_refl _) (show ObjOk X.prog X.w _ _ _ (.tup ys) from ⟨hz, its, r', IsTupN.new _ _⟩)
    exact ⟨.ref h'.objs.size, _, I2, rfl, q _ (I1.hok.fresh (Nat.le_refl _))⟩
  . obtain ⟨its, r', pl, hz⟩ := I.tuple hq
    exact call_tuple_same pl ⟨.ref p, H, I, rfl, q⟩
def tyV (K : PySem.W.Frag) (T : String) (x : V) (H : Hp) : Prop := match x with
  | .str _ => T = "str"
  | .int _ => T = "int"
  | .ref p => (T = "list" /\ ∃ xs, SqL K H p xs) \/ (T = "tuple" /\ ∃ xs, SqT K H p xs) \/
      (T = "dict" /\ ((∃ kvs, H p = some (.dK kvs)) \/ ∃ kvs, H p = some (.dT kvs))) \/ (T = "set" /\ ∃ S n, H p = some (.set S n))
  | _ => False
theorem tyV_is {pins : List (Addr × Obj)} {σ : St} {H : Hp} {s : Shared} {T : String} {x : V} {v : Value} (I : Inv X pins σ H s) (r : RelV x v) (ty : tyV X.K T x H) :
    s.TypeIs v T /\ ∀ a, v = .ref a -> ∃ ob, s.heap.get? a = some ob /\ ob.dict = none := by
  cases x with
  | str z =>
    obtain ⟨t, rfl⟩ := r
    cases (show T = "str" from ty)
    exact ⟨typeIs_str s z t, fun _ e => nomatch e⟩
  | int i =>
    obtain ⟨t, rfl⟩ := r
    cases (show T = "int" from ty)
    exact ⟨typeIs_int s i t, fun _ e => nomatch e⟩
  | ref p =>
    cases r
    rcases ty with ⟨rfl, xs, hq⟩ | ⟨rfl, xs, hk⟩ | ⟨rfl, hk⟩ | ⟨rfl, S, n, hk⟩
    . obtain ⟨its, _, pl, _⟩ := I.list hq
      refine ⟨pl.isList.typeIs, fun a e => ?_⟩
      cases e
      obtain ⟨o, n, e, c, hd, _⟩ := pl
      exact ⟨o, e, hd⟩
    . obtain ⟨o, e0, hc, hd⟩ := I.tupN hk
      refine ⟨⟨o, e0, hc⟩, fun a e => ?_⟩
      cases e
      exact ⟨o, e0, hd⟩
    . have z : ∃ o, s.heap.get? p = some o /\ o.ExactDict := by
        rcases hk with ⟨kvs, hk⟩ | ⟨kvs, hk⟩
        . obtain ⟨_, _, _, _, o, _, _, e, ex, _⟩ := I.hok p _ hk
          exact ⟨o, e, ex⟩
        . obtain ⟨_, _, _, _, o, _, _, e, ex, _⟩ := I.hok p _ hk
          exact ⟨o, e, ex⟩
      obtain ⟨o, e, ex⟩ := z
      refine ⟨⟨o, e, ex.1⟩, fun a e2 => ?_⟩
      cases e2
      exact ⟨o, e, ex.2.1⟩
    . obtain ⟨o, _, _, _, e, ex, _⟩ := I.hok p _ hk
      refine ⟨⟨o, e, ex.1⟩, fun a e2 => ?_⟩
      cases e2
      exact ⟨o, e, ex.2.1⟩
  | _ => exact False.elim ty
def tBM0 (K : PySem.W.Frag) (T : String) (r : V -> List V -> Hp -> VK -> Prop) (to : TE) : TE := fun σ H Q => to σ H fun x H1 => tyV K T x H1 /\ r x [] H1 Q
def tBM (K : PySem.W.Frag) (T : String) (r : V -> List V -> Hp -> VK -> Prop) (to : TE) (t : TA) : TE := fun σ H Q => to σ H fun x H1 => tyV K T x H1 /\ t σ H1 fun xs H2 => r x xs H2 Q
variable {o e : Expr} {es : List Expr} {to : TE} {t : TA} {name : Str} {apos cpos : Pos} {T id : String} {r : V -> List V -> Hp -> VK -> Prop}
theorem pe_bm0 (pa : PlainAttrs T) (slot : Slot T name id) (hty : typeOf (.builtin id) = pure (.type "method_descriptor")) (hm : MtR X id r) (ho : PE X o to)
    (hbase : attributeBase o name X.env (eval o X.env) = eval o X.env := by rfl) (hline : (apos.endLine == cpos.line) = true := by rfl) : PE X (.Call (.Attribute o name apos) [] [] cpos) (tBM0 X.K T r to) := by
  intro pins s σ H Q I h
  refine wpAny_Call_method0_late hbase hline (thn (ho pins s σ H _ I h) fun v s1 ⟨x, H1, I1, r1, ty, q1⟩ => ?_)
  obtain ⟨h1, h2⟩ := tyV_is I1 r1 ty
  exact ⟨T, id, pa, slot, hty, h1, h2, Calls.callWith_builtin rfl (PySem.evalArgs_none (hm pins s1 σ H1 x [] v [] Q I1 r1 .nil q1))⟩
theorem pe_bm (pa : PlainAttrs T) (slot : Slot T name id) (hty : typeOf (.builtin id) = pure (.type "method_descriptor")) (hm : MtR X id r) (ho : PE X o to) (ha : PA X (e :: es) t)
    (hbase : attributeBase o name X.env (eval o X.env) = eval o X.env := by rfl)
    (hfew : ((backTo cpos (starEach (e :: es) X.env)).all (fun x => !x.1) && (backToKw cpos (keywordEach [] X.env)).all (fun x => x.1.isSome)
      && decide ((e :: es).length + ([] : List Keyword).length + (if ([] : List Keyword).isEmpty then 0 else 1) < 30)) = true := by rfl)
    (hline : (apos.endLine == cpos.line) = true := by rfl) (hs : starEach (e :: es) X.env = (false, eval e X.env) :: starEach es X.env := by rfl) (hplain : (backTo cpos (starEach es X.env)).any (·.1) = false := by rfl) :
    PE X (.Call (.Attribute o name apos) (e :: es) [] cpos) (tBM X.K T r to t) := by
  intro pins s σ H Q I h
  refine wpAny_Call_method_late hbase hfew hline rfl (thn (ho pins s σ H _ I h) fun v s1 ⟨x, H1, I1, r1, ty, q1⟩ => ?_)
  obtain ⟨h1, h2⟩ := tyV_is I1 r1 ty
  refine ⟨T, id, pa, slot, hty, h1, h2, ?_⟩
  have hA := ha cpos pins s1 σ H1 _ I1 q1
  rw [hs] at hA ⊢
  refine Calls.callWith_builtin (by show (false || (backTo cpos (starEach es X.env)).any (·.1)) = false; rw [hplain] <;> rfl) (Calls.evalArgs_plain ?_)
  exact thn hA fun us s2 ⟨vs, H2, I2, r2, q2⟩ => hm pins s2 σ H2 x vs v us Q I2 r1 r2 q2
/- xs.append(e), list.index on a module's tuple .. are MtR facts of 06m -/
end
end L2
namespace L2
open PySem PySem.Spec PyProof.Rows
def MtM (X : Cx) (id : String) (r : V -> List V -> Hp -> VK -> Prop) : Prop :=
  ∀ (pins : List (Addr × Obj)) (s : Shared) (σ : St) (H : Hp) (x : V) (xs : List V) (v : Value) (us : List Value) (Q : VK), Inv X pins σ H s -> RelV x v -> Vals xs us -> r x xs H Q ->
    wpAny (model X.prog X.w) X.A (call (.builtin id) (v :: us)) (EP X pins σ Q) X.xe s
theorem Vals.one : ∀ {x : V} {us : List Value}, Vals [x] us -> ∃ u, us = [u] /\ RelV x u
  | _, _, .cons r .nil => ⟨_, rfl, r⟩
theorem Vals.zero : ∀ {us : List Value}, Vals [] us -> us = []
  | _, .nil => rfl
theorem Vals.eraseIdx : ∀ {xs : List V} {us : List Value} (i : Nat), Vals xs us -> Vals (xs.eraseIdx i) (us.eraseIdx i)
  | _, _, _, .nil => .nil
  | _, _, 0, .cons _ t => t
  | _, _, i + 1, .cons r t => .cons r (Vals.eraseIdx i t)
theorem Vals.reverse {xs : List V} {us : List Value} (h : Vals xs us) : Vals xs.reverse us.reverse := by
  induction h with
  | nil => exact .nil
  | cons r t ih => rw [List.reverse_cons, List.reverse_cons]; exact Vals.append ih (.cons r .nil)
section
variable {X : Cx} {pins : List (Addr × Obj)} {σ : St} {H : Hp} {s : Shared} {l b : Addr} {xs ys zs : List V}
theorem Inv.lset {its its' : List Value} {n : Nat} {f : Array Value -> Array Value} {t' : Nat} (I : Inv X pins σ H s) (hH : H l = some (.lst xs))
    (e : s.heap.get? l = some { cls := .type "list", data := .seq its.toArray n }) (hf : f its.toArray = its'.toArray) (hv : Vals ys its') (hz : ys.length <= sizeLine) :
    Inv X pins σ (upd H l (.lst ys)) { s with heap := s.heap.update l (Obj.mapSeq f), toks := t' } := by
  have q := PySem.IsL.update e f
  rw [hf] at q
  refine I.write (x := l) (e := l) (by rw [hH]; exact trivial) (.inl rfl) (fun b' u hb hu => (Heap.get?_update_other s.heap (Obj.mapSeq f) (Ne.symm hb)).trans hu) ⟨_, q⟩ ?_
  exact ⟨hz, its', _, hv, q⟩
theorem Inv.lnew {its : List Value} {t' : Nat} (I : Inv X pins σ H s) (hv : Vals ys its) (hz : ys.length <= sizeLine) :
    Inv X pins σ (upd H s.heap.objs.size (.lst ys)) { s with heap := s.heap.push { cls := .type "list", data := .seq its.toArray }, toks := t' } :=
  I.laid (fun _ _ q => Heap.get?_push_of_some _ q) (Nat.le_refl _) ⟨hz, its, 0, hv, Heap.get?_push_size _ rfl⟩
theorem Inv.fresh (I : Inv X pins σ H s) : H s.heap.objs.size = none := I.hok.fresh (Nat.le_refl _)
theorem Inv.lstM (I : Inv X pins σ H s) (hH : H l = some (.lst xs)) : xs.length <= sizeLine /\ ∃ (its : List Value) (n : Nat), Vals xs its /\ xs.length = its.length /\ s.heap.get? l = some { cls := .type "list", data := .seq its.toArray n } := by
  obtain ⟨z, its, n, r, e⟩ := I.hok l _ hH
  exact ⟨z, its, n, r, r.length, e⟩
theorem notLongL {n : Nat} (h : n <= sizeLine) : Builtin.List.listTooLong n = false := by
  unfold Builtin.List.listTooLong
  exact decide_eq_false (by omega)
end
section
variable {X : Cx}
def rAppend : V -> List V -> Hp -> VK -> Prop := fun x vs H Q => ∃ l xs y, x = .ref l /\ vs = [y] /\ H l = some (.lst xs) /\ xs.length < sizeLine /\ Q .non (upd H l (.lst (xs ++ [y])))
theorem mt_append : MtM X "list.append" rAppend := by
  intro pins s σ H x vs v us Q I rx rv h
  obtain ⟨l, xs, y, rfl, rfl, hH, hz, q⟩ := h
  cases rx
  obtain ⟨u, rfl, ru⟩ := rv.one
  obtain ⟨z, its, n, r, hl, e⟩ := I.lstM hH
  refine call_meets F.slot_list_append ⟨_, e, rfl⟩ F.entry_list_append (F.args_list_append_2 _ _) (PySem.list_append l its.toArray n u (by rw [List.size_toArray]; omega)) ⟨e, ?_⟩
  refine ⟨.non, _, I.lset (its' := its ++ [u]) hH e (by simp) (r.append (.cons ru .nil)) ?_, rfl, q⟩
  rw [List.length_append, List.length_singleton]
  omega
def rExtend : V -> List V -> Hp -> VK -> Prop := fun x vs H Q => ∃ l b xs zs, x = .ref l /\ vs = [.ref b] /\ H l = some (.lst xs) /\ H b = some (.lst zs) /\ xs.length + zs.length <= sizeLine /\ Q .non (upd H l (.lst (xs ++ zs)))
theorem mt_extend : MtM X "list.extend" rExtend := by
  intro pins s σ H x vs v us Q I rx rv h
  obtain ⟨l, b, xs, zs, rfl, rfl, hH, hB, hz, q⟩ := h
  cases rx
  obtain ⟨u, rfl, ru⟩ := rv.one
  cases ru
  obtain ⟨z, its, n, r, hl, e⟩ := I.lstM hH
  obtain ⟨z2, its2, n2, r2, hl2, e2⟩ := I.lstM hB
  have hsz : its.toArray.size + its2.toArray.size <= sizeLine := by rw [List.size_toArray, List.size_toArray]; omega
  have hlong : ¬ (!its.toArray.isEmpty && Builtin.List.listTooLong (its.toArray.size + its2.toArray.size)) = true := by
    rw [notLongL hsz, Bool.and_false]
    exact Bool.false_ne_true
  refine call_meets F.slot_list_extend ⟨_, e, rfl⟩ F.entry_list_extend (F.args_list_extend_2 _ _)
    (AutoSeq1.list_extend_list_list_0 l its.toArray n b its2.toArray n2 hlong (by rw [List.size_toArray]; omega) (by omega)) ⟨e, e2, ?_⟩
  refine ⟨.non, _, I.lset (its' := its ++ its2) hH e (by simp) (r.append r2) ?_, rfl, q⟩
  rw [List.length_append]
  omega
end
section
variable {prog : Program} {w : World} {A : Around} {E : Value -> Shared -> Prop} {s : Shared}
set_option maxRecDepth 100000 in
end
section
variable {X : Cx}
end
end L2
namespace Att
open PySem PySem.W PySem.Calls PyProof.Rows
theorem ints_of_wellAll {P : Params} {h : Heap} : ∀ (ns : List Int) (vs : List Value), WellAll P h vs (ns.map WData.int) -> IntsAre vs ns := by
  intro ns
  induction ns with
  | nil =>
    intro vs w
    rw [List.map_nil] at w
    cases w
    exact .nil
  | cons n ns ih =>
    intro vs w
    rw [List.map_cons] at w
    cases w with
    | cons a b =>
      cases a
      exact .cons _ _ (ih _ b)
theorem script_of {l : OpenLaw} {n : Nat} (hn : l.most = some n) {P : Params} {h : Heap} {args : List WData} {vals : List Value}
    (hpre : l.row.toRowW.claim.pre args = true) (hwl : WellAll P h vals args) :
    ∃ a vs ns, vals = [Value.ref a] /\ args = [WData.list (ns.map WData.int)] /\ h.get? a = some { cls := .type "list", data := .seq vs.toArray } /\ IntsAre vs ns /\ ns.length <= n := by
  have hsh : WShape.hasAll [] args [.list .int] = true := (pre_splitW hpre).1
  have hc : l.pre.holds [] { args := args } = true := (pre_splitW hpre).2
  obtain ⟨d, r, rfl, h1, h2⟩ := hasAllW_cons hsh
  obtain rfl := hasAllW_nil h2
  obtain ⟨xs, rfl, h3⟩ := hasW_list h1
  obtain ⟨ns, rfl⟩ := items_int h3
  have hlen : ns.length <= n := by
    unfold OpenLaw.pre at hc
    have h4 : (WTm.not (.lt (.lit (.int (n : Int))) (.len (.arg 0)))).holds [] { args := [.list (ns.map .int)] } = true := by
      have h4 := (holds_andW hc).1
      rw [hn] at h4
      exact h4
    have h5 := condW_of h4 (w_not (w_lt w_lit (w_len_list (w_arg rfl))))
    rw [List.length_map] at h5
    refine Nat.le_of_not_lt fun q => ?_
    have q' : (n : Int) < ((ns.length : Nat) : Int) := by omega
    first
      | (rw [decide_eq_true q'] at h5; exact absurd h5 (by decide))
      | (simp at h5; omega)
  cases hwl with
  | cons w1 w2 =>
    cases w2
    cases w1 with
    | list ho hall => exact ⟨_, _, ns, rfl, rfl, ho, ints_of_wellAll ns _ hall, hlen⟩
theorem post_true (l : OpenLaw) (args : List WData) : l.row.toRowW.claim.post args (.bool true) args = true :=
  postW_of (r := l.row.toRowW) (X := (true == true))
    (show WShape.has [] (.bool true) .bool = true by first | rfl | decide | simp [WShape.has, WShape.arms, WShape.armsAll])
    (show (WTm.eq .res (.lit (.bool true))).value [] { args := args, res := some (.bool true), after := args } = some (.bool (true == true)) from w_eq_bool (w_res rfl) w_lit) rfl
theorem attach_call {l : OpenLaw} {n : Nat} {q : Program} {loose : List Str} {XP : (Str -> Option Value) -> Heap -> Prop} {YP : World -> Heap -> Prop} {d : DefRec}
    (hn : l.most = some n) (hdf : d.params.defaults = [])
    (call : ∀ (w : World) (s₀ s₁ : Shared) (mg mb : Str -> Option Value) (fa : Addr) (o : Obj) (pm cd doc : Value) (a : Addr) (vs : List Value) (ns : List Int),
      Ground q loose [] XP w s₀ mg mb s₁.heap -> YP w s₁.heap ->
      s₁.heap.get? fa = some o -> o.data = .func (docDef d.name d.params d.body d.scope pm cd doc) -> s₁.heap.CodeRec cd d.name -> mg d.name = some (.ref fa) ->
      s₁.heap.get? a = some { cls := .type "list", data := .seq vs.toArray } -> IntsAre vs ns -> ns.length <= n -> s₁.gens = #[] ->
      codeAny (model l.prog w) callerA (.call (.ref fa) ⟨[.ref a], []⟩) (fun r s' => r = .ok (.ret (.bool true)) /\ OldK s₁.heap s'.heap /\ s'.os = s₁.os /\ AllBare s'.gens) s₁) :
    WalkO q loose XP YP l.row.toRowW d [] (fun f vs => PySem.call f vs) := by
  intro w s₀ s₁ mg mb G Y fa o pm cd doc dV kV ho hd hcd hD hmg hg args vals as hpre hlay hrd hwl hlo
  obtain rfl : dV = .none := Dflts.none hD hdf
  obtain rfl : kV = .none := Dflts.noKw hD
  obtain ⟨a, vs, ns, rfl, rfl, hobj, hints, hlen⟩ := script_of hn hpre hwl
  refine enter_call (codeAny_mono (call w s₀ s₁ mg mb fa o pm cd doc a vs ns G Y ho (fd_plain hd) hcd hmg hobj hints hlen hg) fun r s' hq => ?_)
  obtain ⟨rfl, h2, h3, h4⟩ := hq
  exact ⟨.inl ⟨.bool true, .bool true, [], rfl, fun _ => rfl, .bool true, post_true l _, fun _ => ⟨List.Pairwise.nil, fun _ hm => (nomatch hm)⟩⟩, h2, h3, h4⟩
section
variable {prog : Program} {w : World} {A : Around} {E : Value -> Shared -> Prop} {s : Shared} {K : Frag}
end
end Att
namespace L2
open PySem PySem.Spec PyProof.Rows
theorem vals_ints : ∀ {vs : List Value} {ns : List Int}, IntsAre vs ns -> Vals (ns.map V.int) vs
  | _, _, .nil => .nil
  | _, _, .cons n t h => .cons ⟨t, rfl⟩ (vals_ints h)
def Only (H : Hp) : Prop := ∀ b, H b = none \/ ∃ o xs, H b = some (.frz o (.lst xs))
theorem law_call {P : Program} {w : World} {K : PySem.W.Frag} {mg mb : Str -> Option Value} {CX : CXT} {k : Nat} {fa a : Addr} {fd : FuncData} {x : Str} {sp : Sp} {s₁ : Shared} {vs : List Value} {ns : List Int}
    (KX : K.In s₁.heap) (hns : s₁.heap.Ns mainGlobals mg) (hb : s₁.heap.Ns builtinsNs mb) (hbb : ∀ x : Str, x ≠ "__name__" -> mb x = bootBuiltins x) (hlim : s₁.heap.NoLimit) (hg : s₁.gens = #[])
    (ha : s₁.heap.get? a = some { cls := .type "list", data := .seq vs.toArray }) (hi : IntsAre vs ns) (hl : ns.length <= sizeLine) (hr : Room k callerA)
    (F : ∀ base : Heap, K.In base -> base.Ns mainGlobals mg -> FnOk P w K mg base CX k fa fd [x] sp) (hbind : ∀ (s : Shared) (u : Value), BindsTo s fd ⟨[u], []⟩ [(x, u)])
    (hsp : ∀ H : Hp, Only H -> SqL K H a (ns.map V.int) -> sp [.ref a] H (fun v _ => v = .bl true) fun _ _ _ => False)
    (hCX : ∀ H e s', CX [] H s₁ (fun _ _ _ => False) e s' -> False) :
    codeAny (model P w) callerA (.call (.ref fa) ⟨[.ref a], []⟩) (fun r s' => r = .ok (.ret (.bool true)) /\ OldK s₁.heap s'.heap /\ s'.os = s₁.os /\ AllBare s'.gens) s₁ := by
  have rv := vals_ints hi
  have lenV := hi.length
  have core : ∀ H : Hp, Only H -> SqL K H a (ns.map V.int) -> HOk P w H s₁.heap -> (∀ b, H b ≠ none -> b = a) -> (H a ≠ none -> K.lookup a = none) ->
      codeAny (model P w) callerA (.call (.ref fa) ⟨[.ref a], []⟩) (fun r s' => r = .ok (.ret (.bool true)) /\ OldK s₁.heap s'.heap /\ s'.os = s₁.os /\ AllBare s'.gens) s₁ := by
    intro H hO hS hok hA hK
    have base_of : ∀ {b : Addr} {o : Obj}, s₁.heap.get? b = some o -> H b = none -> (hidT s₁.heap H).get? b = some o := fun e n => hidT_get e n
    have noA : ∀ {b : Addr} {o : Obj} {es : Array DictEntry} {ep : Nat}, s₁.heap.get? b = some o -> o.data = .dict es ep -> H b = none := fun {b o es ep} e d => by
      cases q : H b with
      | none => rfl
      | some u =>
        have e' : b = a := hA b (by rw [q]; simp)
        subst e'
        rw [ha] at e; cases e
        have d' : Data.seq vs.toArray _ = Data.dict es ep := d
        cases d'
    have nsK : ∀ {b : Addr} {m : Str -> Option Value}, s₁.heap.Ns b m -> (hidT s₁.heap H).Ns b m := fun {b m} ⟨o, es, ep, e, d, r⟩ => ⟨o, es, ep, base_of e (noA e d), d, r⟩
    have hKb : K.In (hidT s₁.heap H) := fun b o e => base_of (KX b o e) (by
      cases q : H b with
      | none => rfl
      | some u =>
        have e' : b = a := hA b (by rw [q]; simp)
        subst e'
        rw [hK (by rw [q]; simp)] at e; cases e)
    have hM : Mod K mg (hidT s₁.heap H) := ⟨hKb, nsK hns, ⟨mb, nsK hb, hbb⟩, let ⟨mc, h1, h2⟩ := hlim; ⟨mc, nsK h1, h2⟩⟩
    have e0 : Env0 P w K mg (hidT s₁.heap H) callerA [] s₁ H := ⟨rfl, hM, fun b o e => of_hidT e, Nat.le_of_eq (hidT_size _ _), trivial, fun b hb => absurd (show b ∈ ([] : List Addr) from hb) (by simp), hok, .of_eq hg⟩
    refine codeAny_mono ((F _ hKb (nsK hns)).run callerA [] s₁ H ⟨[.ref a], []⟩ [.ref a] [.ref a] _ _ hr e0 (hbind s₁ (.ref a)) (.cons rfl .nil) (hsp H hO hS)) fun r s' h => ?_
    cases r with
    | error e => exact (hCX H e s' h).elim
    | ok fl =>
      cases fl with
      | next => exact False.elim h
      | brk => exact False.elim h
      | cont => exact False.elim h
      | ret u =>
        obtain ⟨v, H', os, bare, un, hok', r', q⟩ := h
        have q' : v = .bl true := q
        subst q'
        obtain rfl : u = Value.bool true := r'
        refine ⟨rfl, OldK.of_keep fun b o e => ?_, os, bare⟩
        cases q : H b with
        | none => exact un.keep b o e q (by intro z; exact absurd (show b ∈ ([] : List Addr) from z) (by simp)) (by simp)
        | some u =>
          rcases hO b with z | ⟨ob, xs, z⟩
          . rw [q] at z; cases z
          . have z2 := un.frzs b ob _ z
            obtain ⟨e1, _⟩ := hok b _ z
            obtain ⟨e2, _⟩ := hok' b _ z2
            rw [e] at e1; cases e1
            exact e2
  cases hk : K.lookup a with
  | some o =>
    have e := KX a o hk
    rw [ha] at e
    cases e
    refine core (fun _ => none) (fun _ => .inl rfl) (.inr ⟨_, vs.toArray, _, hk, rfl, rfl, rfl, by rw [List.size_toArray, lenV]; exact hl, by simpa using rv⟩) (fun b u z => by have z' : (none : Option HO) = some u := z; cases z') (fun b z => absurd rfl z) fun z => absurd rfl z
  | none =>
    refine core (fun b => if b = a then some (.frz { cls := .type "list", data := .seq vs.toArray } (.lst (ns.map V.int))) else none) (fun b => ?_) (.inl (.inr ⟨{ cls := .type "list", data := .seq vs.toArray }, if_pos rfl⟩)) (fun b u z => ?_) (fun b z => ?_) fun _ => hk
    . by_cases hb : b = a
      . exact .inr ⟨_, _, if_pos hb⟩
      . exact .inl (if_neg hb)
    . by_cases hb : b = a
      . have z' := (if_pos hb).symm.trans z
        cases z'
        subst hb
        exact ⟨ha, by rw [List.length_map]; exact hl, vs, _, rv, ha⟩
      . have z' := (if_neg hb).symm.trans z
        cases z'
    . by_cases hb : b = a
      . exact hb
      . exact absurd (if_neg hb) z
end L2
namespace L2
open PySem PySem.Spec PyProof.Rows
abbrev KOf {K : PySem.W.Frag} {h : Heap} (_ : K.In h) : PySem.W.Frag := K
theorem walk_of {l : PySem.W.OpenLaw} {n k : Nat} {q : Program} {loose : List Str} {XP : (Str -> Option Value) -> Heap -> Prop} {YP : World -> Heap -> Prop} {d : DefRec} {K : Params -> PySem.W.Frag} {CX : World -> CXT} {sp : World -> Sp} {x : Str}
    (hn : l.most = some n) (hn2 : n <= sizeLine) (hdf : d.params.defaults = []) (hr : Room k callerA)
    (hY : ∀ (w : World) (h : Heap), YP w h -> (K w.params).In h)
    (F : ∀ (w : World) (mg : Str -> Option Value) (fa : Addr) (h : Heap), (K w.params).In h -> h.Ns mainGlobals mg -> mg d.name = some (.ref fa) ->
      ∃ fd : FuncData, (∀ (s : Shared) (u : Value), BindsTo s fd ⟨[u], []⟩ [(x, u)]) /\
        ∀ base : Heap, (K w.params).In base -> base.Ns mainGlobals mg -> FnOk l.prog w (K w.params) mg base (CX w) k fa fd [x] (sp w))
    (hsp : ∀ (w : World) (H : Hp) (a : Addr) (ns : List Int), ns.length <= n -> Only H -> SqL (K w.params) H a (ns.map V.int) -> sp w [.ref a] H (fun v _ => v = .bl true) fun _ _ _ => False)
    (hCX : ∀ (w : World) (H : Hp) (s : Shared) (e : Value) (s' : Shared), CX w [] H s (fun _ _ _ => False) e s' -> False) :
    PySem.W.WalkO q loose XP YP l.row.toRowW d [] (fun f vs => PySem.call f vs) := by
  refine Att.attach_call hn hdf fun w s₀ s₁ mg mb fa o pm cd doc a vs ns G Y ho hd hcd hmg hobj hints hlen hg => ?_
  have KX := hY w _ Y
  obtain ⟨fd, hb, hF⟩ := F w mg fa _ KX G.T.g hmg
  exact law_call KX G.T.g G.T.b G.T.builtins G.T.nolimit hg hobj hints (Nat.le_trans hlen hn2) hr hF hb (fun H hO hS => hsp w H a ns hlen hO hS) fun H e s' => hCX w H s₁ e s'
end L2
/- THE LAST THEOREM (shape; LID, My.* are yours):
   My.Adr: a structure of the addresses that your layer names (classes, functions); My.Txt K t: a structure (Prop) of the equations over K;
   My.txt_mk : {K} {implicit addresses ..} (e1 : nsIn K mainGlobals "law" = some (some (.ref f))) (e2 : K.lookup f = some ⟨oc, od, .func (fnOf "law" "law" params body scope dV kV doc pm an cdv ct), sl⟩) (e3 : codeIn K cdv "law" = true) .. : ∃ t, My.Txt K t
set_option maxRecDepth 100000 in
set_option maxHeartbeats 0 in
theorem PySem.Challenge.cw_LID_holds : PySem.Challenge.rw_LID.Holds := by
  w_on; o_law; k_head; (case hw => w_witness2)
  k_fill
  refine L2.walk_of (l := PySem.Challenge.rw_LID) (n := 63) (k := 40) (x := "script") (CX := fun w => ..) (sp := fun _ => My.sp_law) rfl (by decide) rfl ⟨rfl, by decide, by decide⟩ (fun w h Y => PySem.W.kIn_of Y) ?F ?S ?C
  case F =>
    intro w mg fa h KX G hmg
    have T : ∃ t, My.Txt (L2.KOf KX) t := by
      dsimp only [L2.KOf]                          -- K must stand as «<heap const> w.params» for k_is
      refine' My.txt_mk ?e1 ?e2 ?e3 ..
      (case e1 => PySem.W.k_is)                    -- in the order: a name -> its address -> its object -> its parts
      (case e2 => PySem.W.k_is)
      ..
    obtain ⟨t, T⟩ := T
    have e0 := hmg.symm.trans (PySem.W.mg_of KX G T.law)
    cases e0                                       -- fa is the law's own address
    exact ⟨_, fun s u => .of_eq rfl, fun base kb nb => My.law_fn T kb nb⟩     -- if «.of_eq rfl» comes too early: refine' ⟨_, ?b, fun base kb nb => My.law_fn T kb nb⟩; exact fun s u => .of_eq rfl
  case S => exact fun w H a ns hl hO hS => ..
  case C => exact ..
(the tactic k_is has no namespace: write k_is) -/
namespace L2
open PySem PySem.Spec PyProof.Rows
def defArgs (s : Stmt) : Arguments := match s with
  | .FunctionDef _ a _ _ _ _ _ _ _ _ => a
  | _ => { posonlyargs := [], args := [], vararg := none, kwonlyargs := [], kw_defaults := [], kwarg := none, defaults := [] }
def defBody (s : Stmt) : List Stmt := match s with
  | .FunctionDef _ _ b _ _ _ _ _ _ _ => b
  | _ => []
def defScope (s : Stmt) : Scope := match s with
  | .FunctionDef _ _ _ _ _ _ sc _ _ _ => sc
  | _ => { kind := .function, names := [], isGenerator := false, isCoroutine := false }
abbrev CX0 : CXT := fun _ _ _ _ _ _ => False
abbrev E0 : XK := fun _ _ _ => False
theorem pass0 {X : Cx} : Passes CX0 X E0 := fun _ _ _ _ _ _ _ h => h.elim
structure Fun (K : PySem.W.Frag) (x qual : Str) (st : Stmt) (f : Addr) (fd : FuncData) : Prop where
  ex : ∃ (oc : Value) (od : Option Addr) (kV doc pm : Value) (an : Option Addr) (cdv ct : Value) (osl : Array (Option Value)),
    fd = PySem.W.fnOf x qual (defArgs st) (defBody st) (defScope st) .none kV doc pm an cdv ct /\ K.lookup f = some ⟨oc, od, .func fd, osl⟩ /\ PySem.W.codeIn K cdv qual = true
  kp : PySem.W.keepIn K (.ref f) = true
section
variable {P : Program} {w : World} {K : PySem.W.Frag} {mg : Str -> Option Value} {base : Heap}
theorem Fun.ok {x qual : Str} {st : Stmt} {f : Addr} {fd : FuncData} {N ps : List Str} {k : Nat} {sp : Sp} (F : Fun K x qual st f fd) (S : FnScope N ps (defScope st)) (len : ∀ vs H Q E, sp vs H Q E -> vs.length = ps.length)
    (hbody : ∀ (cdv : Value) (A : Around) (outer : List Env) (s : Shared) (H : Hp) (vs : List V) (Q : VK) (E : XK), Room k (A.deeper (envOfC qual (defScope st) s.heap.objs.size f cdv)) -> sp vs H Q E ->
      ∃ t, PSs (cxOf CX0 P w K mg base N qual (defScope st) f cdv A outer s H E).nox (defBody st) t /\ t { nx := fun _ H' => Q .non H', rt := Q } (start N vs) H) : FnOk P w K mg base CX0 (k + 1) f fd ps sp := by
  obtain ⟨oc, od, kV, doc, pm, an, cdv, ct, osl, rfl, lk, hcd⟩ := F.ex
  refine fn_of lk hcd S len fun A outer s H vs Q E hr hsp => ?_
  obtain ⟨t, h, q⟩ := hbody cdv A outer s H vs Q E hr hsp
  exact ⟨t, h.nox, q⟩
theorem Fun.binds {x qual : Str} {st : Stmt} {f : Addr} {fd : FuncData} {ps : List Str} (F : Fun K x qual st f fd)
    (h : ∀ (kV doc pm : Value) (an : Option Addr) (cdv ct : Value) (us : List Value), us.length = ps.length -> bindArgs (PySem.W.fnOf x qual (defArgs st) (defBody st) (defScope st) .none kV doc pm an cdv ct) ⟨us, []⟩ = pure (ps.zip us)) : Binds K fd ps [] := by
  obtain ⟨oc, od, kV, doc, pm, an, cdv, ct, osl, rfl, lk, hcd⟩ := F.ex
  exact .all (h kV doc pm an cdv ct)
theorem fun_mk {x qual : Str} {st : Stmt} {f : Addr} {oc : Value} {od an : Option Addr} {osl : Array (Option Value)} {kV doc pm cdv ct : Value} (l : K.lookup f = some ⟨oc, od, .func (PySem.W.fnOf x qual (defArgs st) (defBody st) (defScope st) .none kV doc pm an cdv ct), osl⟩)
    (c : PySem.W.codeIn K cdv qual = true) (k : PySem.W.keepIn K (.ref f) = true) : Fun K x qual st f (PySem.W.fnOf x qual (defArgs st) (defBody st) (defScope st) .none kV doc pm an cdv ct) := ⟨⟨oc, od, kV, doc, pm, an, cdv, ct, osl, rfl, l, c⟩, k⟩
end
section
variable {X : Cx}
end
def Same (H H' : Hp) : Prop := ∀ b o, H b = some o -> H' b = some o
theorem Same.refl (H : Hp) : Same H H := fun _ _ h => h
theorem Same.trans {H H1 H2 : Hp} (a : Same H H1) (b : Same H1 H2) : Same H H2 := fun c o h => b c o (a c o h)
theorem Same.free {H H' : Hp} (e : Same H H') {l : Addr} (h : H' l = Option.none) : H l = Option.none := by
  cases q : H l with
  | none => rfl
  | some o =>
    rw [e l o q] at h
    cases h
theorem Same.seq {K : PySem.W.Frag} {H H' : Hp} {a : Addr} {xs : List V} (e : Same H H') (h : SqL K H a xs) : SqL K H' a xs := by
  rcases h with (h | ⟨o, h⟩) | h
  . exact .inl (.inl (e _ _ h))
  . exact .inl (.inr ⟨o, e _ _ h⟩)
  . exact .inr h
end L2
namespace L2
open PySem PySem.Spec PyProof.Rows
section
variable {κ : Type} [DecidableEq κ]
def valV (kvs : List (κ × V)) (k : κ) : Option V := (kvs.find? fun kv => decide (kv.1 = k)).map (·.2)
def putK (kvs : List (κ × V)) (k : κ) (v : V) : List (κ × V) :=
  if (kvs.any fun kv => decide (kv.1 = k)) = true then kvs.map (fun kv => if kv.1 = k then (kv.1, v) else kv) else kvs ++ [(k, v)]
def dropK (kvs : List (κ × V)) (k : κ) : List (κ × V) := kvs.filter fun kv => decide (kv.1 ≠ k)
theorem valV_pos {p : κ × V} {r : List (κ × V)} {k : κ} (e : p.1 = k) : valV (p :: r) k = some p.2 := by simp [valV, List.find?_cons, e]
theorem valV_neg {p : κ × V} {r : List (κ × V)} {k : κ} (e : ¬ p.1 = k) : valV (p :: r) k = valV r k := by simp [valV, List.find?_cons, e]
theorem valV_any (k : κ) : ∀ kvs : List (κ × V), (kvs.any fun kv => decide (kv.1 = k)) = (valV kvs k).isSome
  | [] => rfl
  | p :: r => by
    rw [List.any_cons]
    by_cases e : p.1 = k
    . simp only [valV_pos e, decide_eq_true e, Bool.true_or, Option.isSome_some]
    . rw [valV_neg e, decide_eq_false e, Bool.false_or]; exact valV_any k r
theorem length_putK (kvs : List (κ × V)) (k : κ) (v : V) : (putK kvs k v).length <= kvs.length + 1 := by
  unfold putK
  split
  . rw [List.length_map]; omega
  . rw [List.length_append, List.length_cons, List.length_nil]; omega
theorem RelO.isSome_eq {o : Option V} {u : Option Value} (r : RelO o u) : o.isSome = u.isSome := by
  cases o with
  | none => cases u with
    | none => rfl
    | some _ => exact (show False from r).elim
  | some _ => cases u with
    | none => exact (show False from r).elim
    | some _ => rfl
theorem RelO.getD {o : Option V} {u : Option Value} {d : V} {d' : Value} (r : RelO o u) (rd : RelV d d') : RelV (o.getD d) (u.getD d') := by
  cases o with
  | none => cases u with
    | none => exact rd
    | some _ => exact (show False from r).elim
  | some _ => cases u with
    | none => exact (show False from r).elim
    | some _ => exact r
theorem KV.val {kvs : List (κ × V)} {vs : List (κ × Value)} (r : KV kvs vs) (k : κ) : RelO (valV kvs k) (valueAt vs k) := by
  unfold KV at r
  induction r with
  | nil => exact True.intro
  | @cons p q ps qs h t ih =>
    obtain ⟨h1, h2⟩ := h
    by_cases e : p.1 = k
    . have e' : q.1 = k := h1.symm.trans e
      have b : valueAt (q :: qs) k = some q.2 := by simp [valueAt, List.find?_cons, e']
      rw [valV_pos e, b]; exact h2
    . have e' : ¬ q.1 = k := fun z => e (h1.trans z)
      have b : valueAt (q :: qs) k = valueAt qs k := by simp [valueAt, List.find?_cons, e']
      rw [valV_neg e, b]; exact ih
theorem KV.any {kvs : List (κ × V)} {vs : List (κ × Value)} (r : KV kvs vs) (k : κ) : (kvs.any fun kv => decide (kv.1 = k)) = vs.any fun kv => decide (kv.1 = k) := by
  unfold KV at r
  induction r with
  | nil => rfl
  | cons h t ih => rw [List.any_cons, List.any_cons, ih, h.1]
theorem KV.repl {kvs : List (κ × V)} {vs : List (κ × Value)} (r : KV kvs vs) (k : κ) {y : V} {u : Value} (ry : RelV y u) :
    KV (kvs.map fun kv => if kv.1 = k then (kv.1, y) else kv) (vs.map fun kv => if kv.1 = k then (kv.1, u) else kv) := by
  unfold KV at r ⊢
  induction r with
  | nil => exact .nil
  | @cons p q ps qs h t ih =>
    rw [List.map_cons, List.map_cons]
    refine .cons ?_ ih
    obtain ⟨h1, h2⟩ := h
    by_cases e : p.1 = k
    . rw [if_pos e, if_pos (h1.symm.trans e)]; exact ⟨h1, ry⟩
    . rw [if_neg e, if_neg (fun z => e (h1.trans z))]; exact ⟨h1, h2⟩
theorem KV.put {kvs : List (κ × V)} {vs : List (κ × Value)} (r : KV kvs vs) (k : κ) {y : V} {u : Value} (ry : RelV y u) : KV (putK kvs k y) (stored vs k u) := by
  unfold putK stored
  rw [r.any k]
  by_cases e : (vs.any fun kv => decide (kv.1 = k)) = true
  . rw [if_pos e, if_pos e]; exact r.repl k ry
  . rw [if_neg e, if_neg e]; exact Paired.snoc r ⟨rfl, ry⟩
theorem KV.drop {kvs : List (κ × V)} {vs : List (κ × Value)} (r : KV kvs vs) (k : κ) : KV (dropK kvs k) (without vs k) := by
  unfold KV at r ⊢
  unfold dropK without
  induction r with
  | nil => exact .nil
  | @cons p q ps qs h t ih =>
    obtain ⟨h1, h2⟩ := h
    rw [List.filter_cons, List.filter_cons]
    by_cases e : p.1 = k
    . have a : ¬ decide (p.1 ≠ k) = true := by simp [e]
      have b : ¬ decide (q.1 ≠ k) = true := by simp [h1.symm.trans e]
      rw [if_neg a, if_neg b]; exact ih
    . have e' : ¬ q.1 = k := fun z => e (h1.trans z)
      have a : decide (p.1 ≠ k) = true := by simp [e]
      have b : decide (q.1 ≠ k) = true := by simp [e']
      rw [if_pos a, if_pos b]; exact .cons ⟨h1, h2⟩ ih
theorem KV.length {kvs : List (κ × V)} {vs : List (κ × Value)} (r : KV kvs vs) : kvs.length = vs.length := Paired.length r
end
theorem kV_is {P : Program} {w : World} {k : Key} {u : Value} (r : RelV (kV k) u) : (mixKind P w).is k u = true := by
  cases k with
  | inl i => obtain ⟨t, e⟩ := (show ∃ t, u = Value.int i t from r); subst e; exact mixKind_int P w i t
  | inr x => obtain ⟨t, e⟩ := (show ∃ t, u = Value.str x t from r); subst e; exact mixKind_str P w x t
end L2
set_option maxHeartbeats 4000000
namespace Sp
open PySem PySem.Spec PyProof.Rows L2
inductive D where
  | non | bl (b : Bool) | int (i : Int) | str (x : Str) | dct (ks : List Key) (ds : List D) | tup (l : List D) | lst (l : List D) | typ (n : String) | sn (n : Nat) | obj (n : Str) (ns : List Str) (ds : List D) | cls (n : Str)
mutual
def D.lless : D -> Bool
  | .lst _ => false
  | .dct _ _ => false
  | .tup l => llessL l
  | _ => true
def llessL : List D -> Bool
  | [] => true
  | d :: l => d.lless && llessL l
end
def LsB (K : PySem.W.Frag) (H : Hp) (a : Addr) (vs : List V) : Bool -> Prop
  | true => H a = some (.lst vs)
  | false => (∃ o, H a = some (.frz o (.lst vs))) \/ ∃ (o : Obj) (its : Array Value) (n : Nat), K.lookup a = some o /\ o.cls = .type "list" /\ o.dict = none /\ o.data = .seq its n /\ its.size <= sizeLine /\ Vals vs its.toList
theorem LsB.sq {K : PySem.W.Frag} {H : Hp} {a : Addr} {vs : List V} : ∀ {b : Bool}, LsB K H a vs b -> SqL K H a vs
  | true, h => SqL.of h
  | false, .inl ⟨o, h⟩ => .inl (.inr ⟨o, h⟩)
  | false, .inr h => .inr h
structure IsiOk (K : PySem.W.Frag) (C : Addr) : Prop where
  ha : PySem.W.findIn K (.ref C) "__class__" = some (some (.builtin "object.__class__"))
  hn : PySem.W.specialIn K (.builtin "object.__class__") "__get__" = some (some (.builtin "getset_descriptor.__get__"))
  ht : PySem.W.takesIn K (.builtin "object.__class__") = some true
  hm : PySem.W.mroIn K C (.type "object") = some true
def clsN : List Str := ["Deed", "Turn", "HalfTurn", "Mirror"]
def subc (m n : Str) : Bool := decide (m = n) || (decide (n = "Deed") && (decide (m = "Turn") || decide (m = "HalfTurn") || decide (m = "Mirror")))
structure AskOk (K : PySem.W.Frag) (C : Addr) (n : Str) : Prop where
  all : ∀ m ∈ clsN, ∀ Cm, PySem.W.nsIn K mainGlobals m = some (some (.ref Cm)) -> IsiOk K Cm /\ PySem.W.kitOne K (.ref Cm) (.ref C) = some (subc m n)
abbrev AP2 := Addr -> Bool -> Prop
mutual
def Rep (K : PySem.W.Frag) (H : Hp) (P : AP2) : D -> V -> Prop
  | .non, v => v = .non
  | .bl b, v => v = .bl b
  | .int i, v => v = .int i
  | .str x, v => v = .str x
  | .dct ks ds, v => llessL ds = true /\ ks.length = ds.length /\ ∃ a vs, v = .ref a /\ H a = some (.dK (ks.zip vs)) /\ P a true /\ RepL K H P ds vs
  | .typ n, v => v = .ty n
  | .sn n, v => ∃ a S, v = .ref a /\ H a = some (.set S n)
  | .cls n, v => ∃ C o, v = .ref C /\ PySem.W.nsIn K mainGlobals n = some (some (.ref C)) /\ K.lookup C = some o /\ o.cls = .type "type" /\ IsiOk K C /\ AskOk K C n
  | .obj n ns ds, v => llessL ds = true /\ ns.length = ds.length /\ ∃ a C dx vs, v = .ref a /\ PySem.W.nsIn K mainGlobals n = some (some (.ref C)) /\ Cls K C /\ H a = some (.ins C dx (ns.zip vs)) /\ RepL K H P ds vs
  | .tup l, v => ∃ a vs, v = .ref a /\ SqT K H a vs /\ RepL K H P l vs
  | .lst l, v => ∃ a vs b, v = .ref a /\ LsB K H a vs b /\ P a b /\ RepL K H P l vs
def RepL (K : PySem.W.Frag) (H : Hp) (P : AP2) : List D -> List V -> Prop
  | [], vs => vs = []
  | d :: l, vs => ∃ v r, vs = v :: r /\ Rep K H P d v /\ RepL K H P l r
end
def nm : HO -> Prop
  | .lst _ => False
  | .dK _ => False
  | _ => True
structure Stay (P P' : AP2) (H H' : Hp) : Prop where
  oth : ∀ a o, H a = some o -> nm o -> H' a = some o
  lst : ∀ a o, H a = some o -> P a true -> H' a = some o
  impT : ∀ a o, H a = some o -> P a true -> P' a true
  impF : ∀ a, P a false -> P' a false
theorem Stay.sq {P P' : AP2} {H H' : Hp} {K : PySem.W.Frag} (s : Stay P P' H H') {a : Addr} {vs : List V} (h : SqT K H a vs) : SqT K H' a vs := by
  rcases h with (h | ⟨o, h⟩) | h
  . exact .inl (.inl (s.oth _ _ h True.intro))
  . exact .inl (.inr ⟨o, s.oth _ _ h True.intro⟩)
  . exact .inr h
theorem Stay.ls {P P' : AP2} {H H' : Hp} {K : PySem.W.Frag} (s : Stay P P' H H') {a : Addr} {vs : List V} : ∀ {b : Bool}, LsB K H a vs b -> P a b -> LsB K H' a vs b
  | true, h, p => s.lst a _ h p
  | false, .inl ⟨o, h⟩, _ => .inl ⟨o, s.oth _ _ h True.intro⟩
  | false, .inr h, _ => .inr h
theorem Stay.imp {P P' : AP2} {H H' : Hp} {K : PySem.W.Frag} (s : Stay P P' H H') {a : Addr} {vs : List V} : ∀ {b : Bool}, LsB K H a vs b -> P a b -> P' a b
  | true, h, p => s.impT a _ h p
  | false, _, p => s.impF a p
mutual
theorem Rep.mono {K : PySem.W.Frag} {P P' : AP2} {H H' : Hp} (s : Stay P P' H H') : ∀ {d : D} {v : V}, Rep K H P d v -> Rep K H' P' d v
  | .non, v, h => by rw [Rep] at h ⊢; exact h
  | .bl b, v, h => by rw [Rep] at h ⊢; exact h
  | .int i, v, h => by rw [Rep] at h ⊢; exact h
  | .str x, v, h => by rw [Rep] at h ⊢; exact h
  | .dct ks ds, v, h => by
    rw [Rep] at h ⊢
    obtain ⟨f, e0, a, vs, e, h1, p, r⟩ := h
    exact ⟨f, e0, a, vs, e, s.lst _ _ h1 p, s.impT _ _ h1 p, RepL.mono s r⟩
  | .typ n, v, h => by rw [Rep] at h ⊢; exact h
  | .sn n, v, h => by
    rw [Rep] at h ⊢
    obtain ⟨a, S, e, h⟩ := h
    exact ⟨a, S, e, s.oth _ _ h True.intro⟩
  | .cls n, v, h => by rw [Rep] at h ⊢; exact h
  | .obj n ns ds, v, h => by
    rw [Rep] at h ⊢
    obtain ⟨f, e0, a, C, dx, vs, e, h1, h2, h3, r⟩ := h
    exact ⟨f, e0, a, C, dx, vs, e, h1, h2, s.oth _ _ h3 True.intro, RepL.mono s r⟩
  | .tup l, v, h => by
    rw [Rep] at h ⊢
    obtain ⟨a, vs, e, h, r⟩ := h
    exact ⟨a, vs, e, s.sq h, RepL.mono s r⟩
  | .lst l, v, h => by
    rw [Rep] at h ⊢
    obtain ⟨a, vs, b, e, h, p, r⟩ := h
    exact ⟨a, vs, b, e, s.ls h p, s.imp h p, RepL.mono s r⟩
theorem RepL.mono {K : PySem.W.Frag} {P P' : AP2} {H H' : Hp} (s : Stay P P' H H') : ∀ {l : List D} {vs : List V}, RepL K H P l vs -> RepL K H' P' l vs
  | [], vs, h => by rw [RepL] at h ⊢; exact h
  | d :: l, vs, h => by
    rw [RepL] at h ⊢
    obtain ⟨v, r, e, h1, h2⟩ := h
    exact ⟨v, r, e, Rep.mono s h1, RepL.mono s h2⟩
end
theorem Stay.same {P P' : AP2} {H H' : Hp} (s : Same H H') (i : ∀ a b, P a b -> P' a b) : Stay P P' H H' := ⟨fun a o h _ => s a o h, fun a vs h _ => s a _ h, fun a _ _ p => i a true p, fun a p => i a false p⟩
theorem Rep.same {K : PySem.W.Frag} {P : AP2} {H H' : Hp} (s : Same H H') {d : D} {v : V} (h : Rep K H P d v) : Rep K H' P d v := h.mono (.same s fun _ _ p => p)
theorem RepL.same {K : PySem.W.Frag} {P : AP2} {H H' : Hp} (s : Same H H') {d : List D} {v : List V} (h : RepL K H P d v) : RepL K H' P d v := h.mono (.same s fun _ _ p => p)
theorem Rep.imp {K : PySem.W.Frag} {P P' : AP2} {H : Hp} (i : ∀ a b, P a b -> P' a b) {d : D} {v : V} (h : Rep K H P d v) : Rep K H P' d v := h.mono (.same (Same.refl _) i)
theorem RepL.imp {K : PySem.W.Frag} {P P' : AP2} {H : Hp} (i : ∀ a b, P a b -> P' a b) {d : List D} {v : List V} (h : RepL K H P d v) : RepL K H P' d v := h.mono (.same (Same.refl _) i)
theorem Rep.impH {K : PySem.W.Frag} {P P' : AP2} {H : Hp} (i : ∀ a o, H a = some o -> P a true -> P' a true) (j : ∀ a, P a false -> P' a false) {d : D} {v : V} (h : Rep K H P d v) : Rep K H P' d v := h.mono ⟨fun _ _ h _ => h, fun _ _ h _ => h, i, j⟩
theorem RepL.impH {K : PySem.W.Frag} {P P' : AP2} {H : Hp} (i : ∀ a o, H a = some o -> P a true -> P' a true) (j : ∀ a, P a false -> P' a false) {d : List D} {v : List V} (h : RepL K H P d v) : RepL K H P' d v := h.mono ⟨fun _ _ h _ => h, fun _ _ h _ => h, i, j⟩
mutual
theorem Rep.flat {K : PySem.W.Frag} {P : AP2} (P' : AP2) {H : Hp} : ∀ {d : D} {v : V}, d.lless = true -> Rep K H P d v -> Rep K H P' d v
  | .non, v, _, h => by rw [Rep] at h ⊢; exact h
  | .bl b, v, _, h => by rw [Rep] at h ⊢; exact h
  | .int i, v, _, h => by rw [Rep] at h ⊢; exact h
  | .str x, v, _, h => by rw [Rep] at h ⊢; exact h
  | .dct _ _, v, f, h => by rw [D.lless] at f; cases f
  | .typ n, v, _, h => by rw [Rep] at h ⊢; exact h
  | .sn n, v, _, h => by rw [Rep] at h ⊢; exact h
  | .cls n, v, _, h => by rw [Rep] at h ⊢; exact h
  | .obj n ns ds, v, _, h => by
    rw [Rep] at h ⊢
    obtain ⟨f, e0, a, C, dx, vs, e, h1, h2, h3, r⟩ := h
    exact ⟨f, e0, a, C, dx, vs, e, h1, h2, h3, RepL.flat P' f r⟩
  | .tup l, v, f, h => by
    rw [Rep] at h ⊢
    obtain ⟨a, vs, e, h, r⟩ := h
    exact ⟨a, vs, e, h, RepL.flat P' (by rw [D.lless] at f; exact f) r⟩
  | .lst l, v, f, h => by rw [D.lless] at f; cases f
theorem RepL.flat {K : PySem.W.Frag} {P : AP2} (P' : AP2) {H : Hp} : ∀ {l : List D} {vs : List V}, llessL l = true -> RepL K H P l vs -> RepL K H P' l vs
  | [], vs, _, h => by rw [RepL] at h ⊢; exact h
  | d :: l, vs, f, h => by
    rw [RepL] at h ⊢
    rw [llessL, Bool.and_eq_true] at f
    obtain ⟨v, r, e, h1, h2⟩ := h
    exact ⟨v, r, e, Rep.flat P' f.1 h1, RepL.flat P' f.2 h2⟩
end
theorem RepL.length {K : PySem.W.Frag} {P : AP2} {H : Hp} : ∀ {l : List D} {vs : List V}, RepL K H P l vs -> l.length = vs.length
  | [], vs, h => by rw [RepL] at h; subst h; rfl
  | d :: l, vs, h => by
    rw [RepL] at h
    obtain ⟨v, r, e, h1, h2⟩ := h
    subst e
    rw [List.length_cons, List.length_cons, h2.length]
theorem RepL.get {K : PySem.W.Frag} {P : AP2} {H : Hp} : ∀ {l : List D} {vs : List V} {i : Nat} {d : D}, RepL K H P l vs -> l[i]? = some d -> ∃ v, vs[i]? = some v /\ Rep K H P d v
  | [], vs, i, d, h, e => by simp at e
  | x :: l, vs, 0, d, h, e => by
    rw [RepL] at h
    obtain ⟨v, r, rfl, h1, h2⟩ := h
    simp at e; subst e
    exact ⟨v, by simp, h1⟩
  | x :: l, vs, i + 1, d, h, e => by
    rw [RepL] at h
    obtain ⟨v, r, rfl, h1, h2⟩ := h
    obtain ⟨u, h3, h4⟩ := RepL.get (i := i) h2 (by simpa using e)
    exact ⟨u, by simpa using h3, h4⟩
theorem RepL.append {K : PySem.W.Frag} {P : AP2} {H : Hp} : ∀ {l m : List D} {vs ws : List V}, RepL K H P l vs -> RepL K H P m ws -> RepL K H P (l ++ m) (vs ++ ws)
  | [], m, vs, ws, h, g => by rw [RepL] at h; subst h; exact g
  | d :: l, m, vs, ws, h, g => by
    rw [RepL] at h
    obtain ⟨v, r, rfl, h1, h2⟩ := h
    show RepL K H P (d :: (l ++ m)) (v :: (r ++ ws))
    rw [RepL]
    exact ⟨v, _, rfl, h1, RepL.append h2 g⟩
theorem RepL.one {K : PySem.W.Frag} {P : AP2} {H : Hp} {d : D} {v : V} (h : Rep K H P d v) : RepL K H P [d] [v] := by
  rw [RepL]; exact ⟨v, [], rfl, h, by rw [RepL]⟩
theorem RepL.nil {K : PySem.W.Frag} {P : AP2} {H : Hp} : RepL K H P [] [] := by rw [RepL]
theorem RepL.cons {K : PySem.W.Frag} {P : AP2} {H : Hp} {d : D} {v : V} {l : List D} {vs : List V} (h : Rep K H P d v) (g : RepL K H P l vs) : RepL K H P (d :: l) (v :: vs) := by
  rw [RepL]; exact ⟨v, vs, rfl, h, g⟩
theorem RepL.take {K : PySem.W.Frag} {P : AP2} {H : Hp} : ∀ {l : List D} {vs : List V} (n : Nat), RepL K H P l vs -> RepL K H P (l.take n) (vs.take n)
  | [], vs, n, h => by rw [RepL] at h; subst h; simp; exact RepL.nil
  | d :: l, vs, 0, h => by simp; exact RepL.nil
  | d :: l, vs, n + 1, h => by
    rw [RepL] at h
    obtain ⟨v, r, rfl, h1, h2⟩ := h
    exact RepL.cons h1 (RepL.take n h2)
theorem RepL.drop {K : PySem.W.Frag} {P : AP2} {H : Hp} : ∀ {l : List D} {vs : List V} (n : Nat), RepL K H P l vs -> RepL K H P (l.drop n) (vs.drop n)
  | [], vs, n, h => by rw [RepL] at h; subst h; simp; exact RepL.nil
  | d :: l, vs, 0, h => h
  | d :: l, vs, n + 1, h => by
    rw [RepL] at h
    obtain ⟨v, r, rfl, h1, h2⟩ := h
    exact RepL.drop n h2
theorem RepL.mapInt {K : PySem.W.Frag} {P : AP2} {H : Hp} : ∀ {ns : List Int} {vs : List V}, RepL K H P (ns.map D.int) vs -> vs = ns.map V.int
  | [], vs, h => by rw [List.map_nil, RepL] at h; exact h
  | n :: ns, vs, h => by
    rw [List.map_cons, RepL] at h
    obtain ⟨v, r, rfl, h1, h2⟩ := h
    rw [Rep] at h1
    rw [h1, RepL.mapInt h2]; rfl
theorem RepL.ofInts {K : PySem.W.Frag} {P : AP2} {H : Hp} : ∀ {ns : List Int}, RepL K H P (ns.map D.int) (ns.map V.int)
  | [] => RepL.nil
  | n :: ns => RepL.cons (by rw [Rep]) RepL.ofInts
abbrev Ow := Addr -> Option (Option Str)
def Kp (ow : Ow) (H : Hp) : Nat -> AP2
  | 0 => fun a b => b = true /\ H a = none
  | 1 => fun a b => b = true -> ow a = none
  | 2 => fun a b => b = true /\ (ow a ≠ none \/ H a = none)
  | _ => fun _ _ => True
def kj : Nat -> Nat -> Nat
  | 0, k => k
  | k, 0 => k
  | 1, 1 => 1
  | 2, 2 => 2
  | _, _ => 3
def ownP (ow : Ow) (x : Str) : Bool -> AP2
  | true => fun a b => b = true /\ ow a = some (some x)
  | false => fun a b => b = true -> ow a = none
def OwIn (ow : Ow) (H : Hp) : Prop := ∀ a, ow a ≠ none -> ∃ o, H a = some o
theorem OwIn.same {ow : Ow} {H H' : Hp} (o : OwIn ow H) (s : Same H H') : OwIn ow H' := fun a h => let ⟨x, e⟩ := o a h; ⟨x, s a x e⟩
theorem OwIn.free {ow : Ow} {H : Hp} (o : OwIn ow H) {a : Addr} (h : H a = none) : ow a = none := by
  cases e : ow a with
  | none => rfl
  | some x => obtain ⟨y, q⟩ := o a (by rw [e]; exact (fun z => nomatch z)); rw [h] at q; cases q
theorem Kp.back {ow : Ow} {H H' : Hp} (s : Same H H') : ∀ (k : Nat) (a : Addr) (b : Bool), Kp ow H' k a b -> Kp ow H k a b
  | 0, a, b, h => ⟨h.1, s.free h.2⟩
  | 1, a, b, h => h
  | 2, a, b, h => ⟨h.1, h.2.imp id fun z => s.free z⟩
  | _ + 3, a, b, h => True.intro
theorem Kp.joinL {ow : Ow} {H : Hp} (o : OwIn ow H) : ∀ (k j : Nat) (a : Addr) (b : Bool), Kp ow H k a b -> Kp ow H (kj k j) a b
  | 0, 0, a, b, h => h
  | 0, 1, a, b, h => fun _ => o.free h.2
  | 0, 2, a, b, h => ⟨h.1, .inr h.2⟩
  | 0, _ + 3, a, b, h => True.intro
  | 1, 0, a, b, h => h
  | 1, 1, a, b, h => h
  | 1, 2, a, b, h => True.intro
  | 1, _ + 3, a, b, h => True.intro
  | 2, 0, a, b, h => h
  | 2, 1, a, b, h => True.intro
  | 2, 2, a, b, h => h
  | 2, _ + 3, a, b, h => True.intro
  | _ + 3, 0, a, b, h => True.intro
  | _ + 3, 1, a, b, h => True.intro
  | _ + 3, 2, a, b, h => True.intro
  | _ + 3, _ + 3, a, b, h => True.intro
theorem kj_comm : ∀ k j, kj k j = kj j k
  | 0, 0 | 0, 1 | 0, 2 | 0, _ + 3 | 1, 0 | 1, 1 | 1, 2 | 1, _ + 3 | 2, 0 | 2, 1 | 2, 2 | 2, _ + 3 | _ + 3, 0 | _ + 3, 1 | _ + 3, 2 | _ + 3, _ + 3 => rfl
theorem Kp.joinR {ow : Ow} {H : Hp} (o : OwIn ow H) (k j : Nat) (a : Addr) (b : Bool) (h : Kp ow H j a b) : Kp ow H (kj k j) a b := by
  rw [kj_comm]; exact Kp.joinL o j k a b h
abbrev Rho := Str -> Option (D × Bool)
structure EnvOk (X : Cx) (ow : Ow) (H : Hp) (σ : L2.St) (ρ : Rho) : Prop where
  get : ∀ x d o, ρ x = some (d, o) -> ∃ (i : Nat) (v : V), X.N[i]? = some x /\ Vis X.env.scope x /\ σ[i]? = some (some v) /\ Rep X.K H (ownP ow x o) d v
  own : OwIn ow H
theorem EnvOk.same {X : Cx} {ow : Ow} {H H' : Hp} {σ : L2.St} {ρ : Rho} (e : EnvOk X ow H σ ρ) (s : Same H H') : EnvOk X ow H' σ ρ :=
  ⟨fun x d o h => let ⟨i, v, h1, h2, h3, h4⟩ := e.get x d o h; ⟨i, v, h1, h2, h3, h4.same s⟩, e.own.same s⟩
def tD (X : Cx) (ow : Ow) (ρ : Rho) (d : D) (k : Nat) : TE := fun σ H Q => EnvOk X ow H σ ρ /\ ∀ v H', Same H H' -> Rep X.K H' (Kp ow H k) d v -> Q v H'
def ED (X : Cx) (ρ : Rho) (e : Expr) (d : D) (k : Nat) : Prop := ∀ ow, PE X e (tD X ow ρ d k)
def tTD (X : Cx) (ow : Ow) (ρ : Rho) (b : Bool) : TT := fun σ H Q => EnvOk X ow H σ ρ /\ ∀ H', Same H H' -> Q b H'
def TD (X : Cx) (ρ : Rho) (e : Expr) (b : Bool) : Prop := ∀ ow, PT X e (tTD X ow ρ b)
def tAD (X : Cx) (ow : Ow) (ρ : Rho) (ds : List D) (k : Nat) : TA := fun σ H Q => EnvOk X ow H σ ρ /\ ∀ vs H', Same H H' -> RepL X.K H' (Kp ow H k) ds vs -> Q vs H'
def AD (X : Cx) (ρ : Rho) (es : List Expr) (ds : List D) (k : Nat) : Prop := ∀ ow, PA X es (tAD X ow ρ ds k)
theorem PEimp {X : Cx} {e : Expr} {t t' : TE} (h : PE X e t) (i : ∀ σ H Q, t' σ H Q -> t σ H Q) : PE X e t' := fun pins s σ H Q I q => h pins s σ H Q I (i σ H Q q)
theorem PTimp {X : Cx} {e : Expr} {t t' : TT} (h : PT X e t) (i : ∀ σ H Q, t' σ H Q -> t σ H Q) : PT X e t' := fun pins s σ H Q I q => h pins s σ H Q I (i σ H Q q)
theorem PAimp {X : Cx} {e : List Expr} {t t' : TA} (h : PA X e t) (i : ∀ σ H Q, t' σ H Q -> t σ H Q) : PA X e t' := fun pos pins s σ H Q I q => h pos pins s σ H Q I (i σ H Q q)
def kn (d : D) (k : Nat) : Nat := if d.lless = true then 0 else k
theorem ED.kn {X : Cx} {ρ : Rho} {e : Expr} {d : D} {k : Nat} (h : ED X ρ e d k) : ED X ρ e d (Sp.kn d k) := by
  unfold Sp.kn
  by_cases f : d.lless = true
  . rw [if_pos f]
    exact fun ow => PEimp (h ow) fun σ H Q ⟨E, q⟩ => ⟨E, fun v H' s r => q v H' s (r.flat _ f)⟩
  . rw [if_neg f]; exact h
end Sp
set_option Elab.async false
set_option linter.all false
set_option maxRecDepth 100000
namespace Sp
open PySem PySem.Spec PyProof.Rows L2
def ItD (K : PySem.W.Frag) (J : It) (ds : List D) (P : AP2) (H1 : Hp) : Prop :=
  ∀ (i : Nat) (H2 : Hp), Stay P P H1 H2 -> (∀ d, ds[i]? = some d -> J.go i H2 /\ ∀ x H3, J.yld i H2 x H3 -> Same H2 H3 /\ Rep K H3 P d x) /\ (ds.length <= i -> J.stop i H2)
def Kd (ow : Ow) (H : Hp) (k : Nat) (H1 : Hp) : AP2 := fun a b => Kp ow H k a b /\ (b = true -> ∃ o, H1 a = some o)
def tI (X : Cx) (ow : Ow) (ρ : Rho) (ds : List D) (k : Nat) : TI := fun σ H R => EnvOk X ow H σ ρ /\ ∀ J H1, Same H H1 -> ItD X.K J ds (Kd ow H k H1) H1 -> R J H1
def IE (X : Cx) (ρ : Rho) (tg iter : Expr) (ds : List D) (k : Nat) : Prop := ∀ ow, PI X tg iter (tI X ow ρ ds k)
def forTests (ifs : List Expr) (env : Env) : Sem Bool := forIn ifs true fun c r => if r = true then do let ok <- isTrue c env (eval c env); pure (ForInStep.yield ok) else pure (ForInStep.yield r)
def TsD (X : Cx) (ρ : Rho) (ifs : List Expr) (b : Bool) : Prop := ∀ ow (pins : List (Addr × Obj)) (s : Shared) (σ : L2.St) (H : Hp) (Q : Bool -> Hp -> Prop), Inv X pins σ H s -> tTD X ow ρ b σ H Q -> wpAny (model X.prog X.w) X.A (forTests ifs X.env) (TP X pins σ Q) X.xe s
def GD (X : Cx) (ρ : Rho) (tg : Expr) (d : D) (ρ' : Rho) : Prop := ∃ g : TG, PG X tg g /\ ∀ (ow : Ow) (v : V) (σ : L2.St) (H : Hp) (Q : L2.St -> Hp -> Prop), σ.length = X.N.length -> EnvOk X ow H σ ρ -> Rep X.K H (fun a b => b = true -> ow a = none) d v -> (∀ σ', σ'.length = X.N.length -> EnvOk X ow H σ' ρ' -> Q σ' H) -> g v σ H Q
abbrev inX (X : Cx) (scope : Scope) (cl : List (Str × Addr)) (C : Addr) (N' : List Str) (s : Shared) (H : Hp) (fp : List Addr) : Cx :=
  { X with N := N', s₀ := s, H₀ := H, env := compEnvC scope cl C X.env, outer := X.stack, stack := X.stack, ex := fp, fn := fun x => decide (scope.names.lookup x = some .cell), pn := [], xe := fun _ _ => False }
theorem closure_loop {env : Env} : ∀ (names : List (Str × NameKind)) (cs : List (Str × Addr)), (∀ n, (n, NameKind.free) ∈ names -> ∃ c, env.cells.lookup n = some c) ->
    ∃ cl, (forIn names cs (fun (x : Str × NameKind) (r : List (Str × Addr)) => (if (x.2 == NameKind.free) = true then do let a <- cellOf env x.1; pure (ForInStep.yield ((x.1, a) :: r)) else pure (ForInStep.yield r) : Sem (ForInStep (List (Str × Addr)))))) = (pure cl : Sem (List (Str × Addr))) /\
      (∀ x c, cl.lookup x = some c -> (env.cells.lookup x = some c /\ (x, NameKind.free) ∈ names) \/ cs.lookup x = some c) /\ (∀ x, (x, NameKind.free) ∈ names -> ∃ c, cl.lookup x = some c) /\ (∀ x c, cs.lookup x = some c -> ∃ c', cl.lookup x = some c')
  | [], cs, _ => ⟨cs, rfl, fun x c h => .inr h, fun x h => (by cases h), fun x c h => ⟨c, h⟩⟩
  | (n, k) :: r, cs, h => by
    have hr : ∀ n, (n, NameKind.free) ∈ r -> ∃ c, env.cells.lookup n = some c := fun m hm => h m (List.mem_cons_of_mem _ hm)
    by_cases hk : k = .free
    . subst hk
      obtain ⟨c, hc⟩ := h n List.mem_cons_self
      obtain ⟨cl, e, h1, h2, h3⟩ := closure_loop r ((n, c) :: cs) hr
      refine ⟨cl, ?_, fun x c' hx => ?_, fun x hx => ?_, fun x c' hx => ?_⟩
      . rw [List.forIn_cons]
        simp only [beq_self_eq_true, if_true, cellOf, hc]
        rw [pure_bind, pure_bind]
        exact e
      . rcases h1 x c' hx with q | q
        . exact .inl ⟨q.1, List.mem_cons_of_mem _ q.2⟩
        . rw [List.lookup_cons] at q
          split at q
          . rename_i hb
            have : x = n := by simpa using hb
            subst this; cases q; exact .inl ⟨hc, List.mem_cons_self⟩
          . exact .inr q
      . rcases List.mem_cons.mp hx with q | q
        . cases q
          exact h3 n c (by simp)
        . exact h2 x q
      . by_cases hb : x == n
        . exact h3 x c (by rw [List.lookup_cons, hb])
        . exact h3 x c' (by rw [List.lookup_cons]; simp only [hb]; exact hx)
    . obtain ⟨cl, e, h1, h2, h3⟩ := closure_loop r cs hr
      refine ⟨cl, ?_, fun x c hx => (h1 x c hx).imp (fun q => ⟨q.1, List.mem_cons_of_mem _ q.2⟩) id, fun x hx => ?_, h3⟩
      . rw [List.forIn_cons]
        have : (k == NameKind.free) = false := by simpa using hk
        simp only [this, Bool.false_eq_true, if_false]
        rw [pure_bind]
        exact e
      . rcases List.mem_cons.mp hx with q | q
        . cases q; exact absurd rfl hk
        . exact h2 x q
theorem closure_for {env : Env} {scope : Scope} (h : ∀ n, (n, NameKind.free) ∈ scope.names -> ∃ c, env.cells.lookup n = some c) :
    ∃ cl, closureFor scope env = pure cl /\ (∀ x c, cl.lookup x = some c -> env.cells.lookup x = some c /\ (x, NameKind.free) ∈ scope.names) /\ (∀ x, (x, NameKind.free) ∈ scope.names -> ∃ c, cl.lookup x = some c) := by
  obtain ⟨cl, e, h1, h2, _⟩ := closure_loop scope.names [] h
  refine ⟨cl, ?_, fun x c hx => (h1 x c hx).resolve_right (by simp), h2⟩
  unfold closureFor
  rw [<- e, <- bind_pure (forIn scope.names _ _)]
theorem lookup_relabel_free {env : Env} : ∀ {names : List (Str × NameKind)} {x : Str}, names.lookup x = some .free ->
    (names.map fun (n, k) => if (k == NameKind.free && env.scope.kind == .function && env.kindOf n == some .cell) then (n, NameKind.cell) else (n, k)).lookup x = some .cell \/
    (names.map fun (n, k) => if (k == NameKind.free && env.scope.kind == .function && env.kindOf n == some .cell) then (n, NameKind.cell) else (n, k)).lookup x = some .free
  | [], _, h => by simp at h
  | (n, k) :: r, x, h => by
    have ih := @lookup_relabel_free env r x
    show List.lookup x ((if (k == NameKind.free && env.scope.kind == .function && env.kindOf n == some .cell) = true then (n, NameKind.cell) else (n, k)) :: _) = _ \/ List.lookup x ((if (k == NameKind.free && env.scope.kind == .function && env.kindOf n == some .cell) = true then (n, NameKind.cell) else (n, k)) :: _) = _
    cases hx : x == n with
    | true =>
      simp only [List.lookup_cons, hx] at h
      cases h
      by_cases hc : (NameKind.free == NameKind.free && env.scope.kind == .function && env.kindOf n == some .cell) = true
      . rw [if_pos hc]; simp [List.lookup_cons, hx]
      . rw [if_neg hc]; simp [List.lookup_cons, hx]
    | false =>
      simp only [List.lookup_cons, hx] at h
      by_cases hc : (k == NameKind.free && env.scope.kind == .function && env.kindOf n == some .cell) = true
      . rw [if_pos hc]; simp only [List.lookup_cons, hx]; exact ih h
      . rw [if_neg hc]; simp only [List.lookup_cons, hx]; exact ih h
theorem mem_of_relabel {env : Env} : ∀ {names : List (Str × NameKind)} {x : Str} {k : NameKind}, (names.map fun (n, k) => if (k == NameKind.free && env.scope.kind == .function && env.kindOf n == some .cell) then (n, NameKind.cell) else (n, k)).lookup x = some k ->
    names.lookup x = some k \/ (k = .cell /\ names.lookup x = some .free)
  | [], _, _, h => by simp at h
  | (n, j) :: r, x, k, h => by
    have ih := @mem_of_relabel env r x k
    replace h : List.lookup x ((if (j == NameKind.free && env.scope.kind == .function && env.kindOf n == some .cell) = true then (n, NameKind.cell) else (n, j)) :: _) = some k := h
    cases hx : x == n with
    | true =>
      simp only [List.lookup_cons, hx]
      by_cases hc : (j == NameKind.free && env.scope.kind == .function && env.kindOf n == some .cell) = true
      . rw [if_pos hc] at h
        simp only [List.lookup_cons, hx] at h
        cases h
        have : j = .free := by
          have := (Bool.and_eq_true _ _).mp ((Bool.and_eq_true _ _).mp hc).1
          simpa using this.1
        exact .inr ⟨rfl, by rw [this]⟩
      . rw [if_neg hc] at h
        simp only [List.lookup_cons, hx] at h
        exact .inl h
    | false =>
      simp only [List.lookup_cons, hx]
      by_cases hc : (j == NameKind.free && env.scope.kind == .function && env.kindOf n == some .cell) = true
      . rw [if_pos hc] at h; simp only [List.lookup_cons, hx] at h; exact ih h
      . rw [if_neg hc] at h; simp only [List.lookup_cons, hx] at h; exact ih h
structure CScope (env : Env) (scope : Scope) (N' : List Str) : Prop where
  kind : scope.kind = .function
  nn : (scope.names.map (·.1)).Nodup
  names : ∀ y ∈ scope.names, y.2 = .local -> scope.names.lookup y.1 = some .local
  nd : N'.Nodup
  fr : ∀ n, (n, NameKind.free) ∈ scope.names -> env.kindOf n = some .cell \/ env.kindOf n = some .free
theorem lk_mem : ∀ {names : List (Str × NameKind)} {x : Str} {k : NameKind}, (names.map (·.1)).Nodup -> (x, k) ∈ names -> names.lookup x = some k
  | [], _, _, _, h => by cases h
  | (n, j) :: r, x, k, nd, h => by
    rw [List.map_cons, List.nodup_cons] at nd
    rcases List.mem_cons.mp h with e | h'
    . cases e; simp
    . have hx : (x == n) = false := by
        cases q : x == n with
        | false => rfl
        | true =>
          have : x = n := by simpa using q
          subst this
          have hm : x ∈ r.map (·.1) := List.mem_map.mpr ⟨(x, k), h', rfl⟩
          exact absurd hm nd.1
      rw [List.lookup_cons, hx]
      exact lk_mem nd.2 h'
theorem cf_inv : ∀ (names : List (Str × NameKind)) (n : Nat) (acc : List (Str × Addr)) {x : Str} {c : Addr}, (cellsFrom n names acc).lookup x = some c -> acc.lookup x = some c \/ (n <= c /\ (x, NameKind.cell) ∈ names)
  | [], _, _, _, _, h => .inl h
  | (y, k) :: r, n, acc, x, c, h => by
    unfold cellsFrom at h
    split at h
    . rename_i hk
      have hk : k = .cell := by simpa using hk
      subst hk
      rcases cf_inv r (n + 1) ((y, n) :: acc) h with q | ⟨q1, q2⟩
      . rw [List.lookup_cons] at q
        split at q
        . rename_i hb
          have : x = y := by simpa using hb
          subst this
          cases q
          exact .inr ⟨Nat.le_refl _, List.mem_cons_self⟩
        . exact .inl q
      . exact .inr ⟨by omega, List.mem_cons_of_mem _ q2⟩
    . rcases cf_inv r n acc h with q | ⟨q1, q2⟩
      . exact .inl q
      . exact .inr ⟨q1, List.mem_cons_of_mem _ q2⟩
theorem cf_inj : ∀ (names : List (Str × NameKind)) (n : Nat) (acc : List (Str × Addr)), (∀ x y c, acc.lookup x = some c -> acc.lookup y = some c -> x = y) -> (∀ x c, acc.lookup x = some c -> c < n) ->
    ∀ x y c, (cellsFrom n names acc).lookup x = some c -> (cellsFrom n names acc).lookup y = some c -> x = y
  | [], _, _, h, _, x, y, c, a, b => h x y c a b
  | (z, k) :: r, n, acc, h, hb, x, y, c, a, b => by
    unfold cellsFrom at a b
    split at a
    . rename_i hk
      rw [if_pos hk] at b
      refine cf_inj r (n + 1) ((z, n) :: acc) (fun u v d p q => ?_) (fun u d p => ?_) x y c a b
      . rw [List.lookup_cons] at p q
        split at p
        . rename_i e1
          split at q
          . rename_i e2
            rw [show u = z by simpa using e1, show v = z by simpa using e2]
          . cases p; exact absurd (hb v _ q) (Nat.lt_irrefl _)
        . split at q
          . cases q; exact absurd (hb u _ p) (Nat.lt_irrefl _)
          . exact h u v d p q
      . rw [List.lookup_cons] at p
        split at p
        . cases p; exact Nat.lt_succ_self _
        . exact Nat.lt_succ_of_lt (hb u d p)
    . rename_i hk
      rw [if_neg hk] at b
      exact cf_inj r n acc h hb x y c a b
theorem cf_cell : ∀ (names : List (Str × NameKind)) (h : Heap) (acc : List (Str × Addr)), (∀ x c, acc.lookup x = some c -> ∃ v, h.IsCell c v) -> ∀ x c, (cellsFrom h.objs.size names acc).lookup x = some c -> ∃ v, (pushCells h names).IsCell c v
  | [], _, _, h, x, c, a => h x c a
  | (z, k) :: r, h, acc, hc, x, c, a => by
    unfold cellsFrom at a
    unfold pushCells
    split at a
    . rename_i hk
      rw [if_pos hk]
      have := cf_cell r (h.push { cls := .type "cell", data := .cell none }) ((z, h.objs.size) :: acc) (fun u d p => ?_) x c
      . rw [Heap.size_push] at this
        exact this a
      . rw [List.lookup_cons] at p
        split at p
        . cases p; exact ⟨none, _, Heap.get?_push_size _ rfl, rfl⟩
        . obtain ⟨v, q⟩ := hc u d p
          exact ⟨v, q.keeps fun b o e => Heap.get?_push_of_some _ e⟩
    . rename_i hk
      rw [if_neg hk]
      exact cf_cell r h acc hc x c a
theorem wp_newEnv {M : Model} {A : Around} {E : Value -> Shared -> Prop} {s : Shared} {scope : Scope} {globals : Addr} {cl : List (Str × Addr)} {qual : Str} {env : Env} {Q : Env -> Shared -> Prop} (hcl : ∀ x c, cl.lookup x = some c -> ∃ v, s.heap.IsCell c v)
    (h : ∀ h', h'.Ns s.heap.objs.size (fun _ => none) -> (∀ b o, s.heap.get? b = some o -> h'.get? b = some o) -> (∀ x c, (cellsFrom (s.heap.objs.size + 1) scope.names cl).lookup x = some c -> ∃ v, h'.IsCell c v) ->
      Q (newEnv scope s.heap.objs.size globals (cellsFrom (s.heap.objs.size + 1) scope.names cl) qual none .none (some env) builtinsNs) { s with heap := h', toks := s.toks + 0 }) :
    wpAny M A (newFunctionEnv scope globals cl [] qual none .none (some env)) Q E s := by
  simp only [newFunctionEnv, Option.isSome_some, if_true]
  refine wpAny_bind (wpAny_alloc ?_)
  refine wpAny_bind (wpAny_layCells _ (fun name kind cells => by cases hkc : kind == NameKind.cell <;> simp [hkc]) _ _ _ _ ?_)
  rw [show ({ s with heap := s.heap.push { cls := .type "dict", data := .dict #[] } } : Shared).heap.objs.size = s.heap.objs.size + 1 from Heap.size_push ..]
  rw [List.forIn_nil]
  refine wpAny_bind (wpAny_pure (wpAny_pure ?_))
  refine h _ ((Heap.Ns.new s.heap (.type "dict")).keeps (pushCells_keeps _ _)) (fun b o e => pushCells_keeps _ _ b o (Heap.get?_push_of_some _ e)) fun x c hc => ?_
  have := cf_cell scope.names (s.heap.push { cls := .type "dict", data := .dict #[] }) cl (fun u d p => by
    obtain ⟨v, q⟩ := hcl u d p
    exact ⟨v, q.keeps fun b o e => Heap.get?_push_of_some _ e⟩) x c
  rw [Heap.size_push] at this
  exact this hc
structure CellsIn (X : Cx) (scope : Scope) (cl : List (Str × Addr)) (n : Nat) : Prop where
  k1 : ∀ x c, cl.lookup x = some c -> X.env.cells.lookup x = some c \/ (n < c /\ scope.names.lookup x = some .cell)
  k2 : ∀ x, scope.names.lookup x = some .free \/ scope.names.lookup x = some .cell -> ∃ c, cl.lookup x = some c
  k4 : ∀ x y c, cl.lookup x = some c -> cl.lookup y = some c -> x = y
  k5 : ∀ x c, scope.names.lookup x = some .cell -> cl.lookup x = some c -> n <= c
variable {X : Cx}
theorem cells_in {pins : List (Addr × Obj)} {σ : L2.St} {H : Hp} {s : Shared} {scope : Scope} {cl : List (Str × Addr)} {N' : List Str} (I : Inv X pins σ H s) (S : CScope X.env scope N')
    (h1 : ∀ x c, cl.lookup x = some c -> X.env.cells.lookup x = some c /\ (x, NameKind.free) ∈ scope.names) (h2 : ∀ x, (x, NameKind.free) ∈ scope.names -> ∃ c, cl.lookup x = some c) :
    CellsIn X scope (cellsFrom (s.heap.objs.size + 1) scope.names cl) s.heap.objs.size where
  k1 := fun x c h => by
    rcases cf_inv _ _ _ h with q | ⟨q1, q2⟩
    . exact .inl (h1 x c q).1
    . exact .inr ⟨q1, lk_mem S.nn q2⟩
  k2 := fun x h => by
    refine Option.isSome_iff_exists.mp (PySem.W.cellsFrom_some scope.names _ cl ?_)
    rcases h with h | h
    . obtain ⟨c, hc⟩ := h2 x (PySem.mem_of_lookup h)
      exact .inr (by rw [hc]; rfl)
    . exact .inl h
  k4 := cf_inj scope.names _ cl (fun x y c a b => I.ok.inj x y c (h1 x c a).1 (h1 y c b).1) fun x c a => by
    obtain ⟨v, hv⟩ := I.cell x c (h1 x c a).1
    exact Nat.lt_succ_of_lt hv.lt
  k5 := fun x c hx h => by
    rcases cf_inv _ _ _ h with q | ⟨q1, q2⟩
    . rw [lk_mem S.nn (h1 x c q).2] at hx; cases hx
    . omega
theorem ok_in {pins : List (Addr × Obj)} {σ : L2.St} {H : Hp} {s : Shared} {scope : Scope} {cl : List (Str × Addr)} {C : Addr} {N' : List Str} {fp : List Addr} (I : Inv X pins σ H s) (S : CScope X.env scope N')
    (hC : s.heap.objs.size <= C) (k : CellsIn X scope cl s.heap.objs.size)
    (hf : ∀ b ∈ fp, FpOk X pins H b) (hfC : ∀ b ∈ fp, b < s.heap.objs.size) : (inX X scope cl C N' s H fp).Ok where
  mod := I.ok.mod
  kind := by show (relabel scope X.env).kind = _; exact S.kind
  glob := I.ok.glob
  blt := I.ok.blt
  above := hC
  inj := k.k4
  has := fun x hx => by
    have hx : (relabel scope X.env).names.lookup x = some .cell \/ (relabel scope X.env).names.lookup x = some .free := hx
    rcases hx with hx | hx
    . rcases mem_of_relabel hx with q | ⟨_, q⟩
      . exact k.k2 x (.inr q)
      . exact k.k2 x (.inl q)
    . rcases mem_of_relabel hx with q | ⟨q, _⟩
      . exact k.k2 x (.inl q)
      . cases q
  cab := fun x c h hc => k.k5 x c (of_decide_eq_true h) hc
  hd := I.ok.hd
  frames := I.ok.frames
  stk := .inl rfl
  exf := fun b hb => ⟨by have := hfC b hb; intro z; subst z; show False; exact absurd (Nat.lt_of_lt_of_le this hC) (Nat.lt_irrefl _), fun x c h => by
    rcases k.k1 x c h with q | ⟨q, _⟩
    . exact (hf b hb).2.2.2.2.1 x c q
    . have := hfC b hb
      intro z; subst z; exact absurd (Nat.lt_trans q this) (Nat.lt_irrefl _)⟩
  bs := I.bs
  bsz := Nat.le_trans I.ok.bsz I.sz
  noex := fun b o e hb => by
    rcases (hf b hb).2.2.2.1 with q | q
    . exact I.ok.noex b o e q
    . exact absurd (Nat.lt_of_lt_of_le (Heap.lt_size e) (Nat.le_trans I.ok.bsz q)) (Nat.lt_irrefl _)
  exfs := fun b hb z => by
    rcases List.mem_cons.mp (I.stkSub b z) with q | q
    . exact (hf b hb).2.1 q
    . exact (hf b hb).2.2.1 q
  funs := I.stack
  frf := I.stkFree
def sigF (X : Cx) (scope : Scope) (N' : List Str) (σ : L2.St) : L2.St := N'.map fun x => if scope.names.lookup x = some .free then (σ[X.N.idxOf x]?).join else none
theorem inv_in {pins : List (Addr × Obj)} {σ : L2.St} {H : Hp} {s s1 : Shared} {scope : Scope} {cl : List (Str × Addr)} {N' : List Str} {fp : List Addr} {m : Str -> Option Value} (I : Inv X pins σ H s) (S : CScope X.env scope N')
    (k : CellsIn X scope cl s.heap.objs.size) (k6 : ∀ x c, cl.lookup x = some c -> ∃ v, s1.heap.IsCell c v)
    (hf : ∀ b ∈ fp, FpOk X pins H b) (hfC : ∀ b ∈ fp, b < s.heap.objs.size)
    (es : ∃ h t, s1 = { s with heap := h, toks := t }) (hns : s1.heap.Ns s.heap.objs.size m) (hk : ∀ b o, s.heap.get? b = some o -> s1.heap.get? b = some o) :
    Inv (inX X scope cl s.heap.objs.size N' s H fp) [] (sigF X scope N' σ) H s1 := by
  obtain ⟨h', t, rfl⟩ := es
  have I1 : Inv X pins σ H { s with heap := h', toks := t } := I.kept hk
  refine ⟨ok_in I S (Nat.le_refl _) k hf hfC, rfl, I.bare, Un.kept hk, ⟨m, hns, fun i x v e1 e2 e3 => ?_⟩, k6, I.hok.fresh (Nat.le_refl _), fun x c h => (k.k1 x c h).elim (fun q => I.freeC x c q) fun q => I.hok.fresh (Nat.le_of_lt q.1), fun p hp => absurd (show p ∈ ([] : List (Addr × Obj)) from hp) (by simp), I1.hok, ?_⟩
  . have hN : N'[i]? = some x := e1
    unfold sigF at e2
    rw [List.getElem?_map, hN] at e2
    simp only [Option.map_some, Option.some.injEq] at e2
    split at e2
    . rename_i hfr
      have hj : σ[X.N.idxOf x]? = some (some v) := by
        cases q : σ[X.N.idxOf x]? with
        | none => rw [q] at e2; cases e2
        | some y => rw [q] at e2; rw [show y = some v from e2]
      have hlt : X.N.idxOf x < X.N.length := by rw [<- I.len]; exact (List.getElem?_eq_some_iff.mp hj).1
      have hx : X.N[X.N.idxOf x]? = some x := by
        rw [List.getElem?_eq_getElem hlt, List.getElem_idxOf hlt]
      have kf := S.fr x (PySem.mem_of_lookup hfr)
      have vis : Vis X.env.scope x := .inr (kf.imp id id)
      obtain ⟨m1, hn1, hl1⟩ := I1.loc
      obtain ⟨u, r, l⟩ := hl1 _ x v hx hj vis
      refine ⟨u, r, .inr ⟨?_, ?_⟩⟩
      . exact lookup_relabel_free hfr
      . rcases l with ⟨hk', _⟩ | ⟨_, c, hc, hcell⟩
        . rcases kf with q | q <;> rw [q] at hk' <;> cases hk'
        . obtain ⟨c', hc'⟩ := k.k2 x (.inl hfr)
          have : c' = c := by
            rcases k.k1 x c' hc' with this | ⟨_, this⟩
            . rw [hc] at this; exact (Option.some.inj this).symm
            . rw [hfr] at this; cases this
          subst this
          exact ⟨c', hc', hcell⟩
    . cases e2
  . unfold sigF; simp
def flt (scope : Scope) (ρ : Rho) : Rho := fun x => if scope.names.lookup x = some .free then ρ x else none
theorem flt_look {scope : Scope} {ρ : Rho} {x : Str} {y : D × Bool} (h : flt scope ρ x = some y) : ρ x = some y /\ scope.names.lookup x = some .free := by
  unfold flt at h
  split at h
  . rename_i e; exact ⟨h, e⟩
  . cases h
theorem env_in {ow : Ow} {H : Hp} {σ : L2.St} {ρ : Rho} {scope : Scope} {cl : List (Str × Addr)} {C : Addr} {N' : List Str} {s : Shared} {fp : List Addr} {H0 : Hp} (E : EnvOk X ow H σ ρ) (hN : X.N.Nodup)
    (hsub : ∀ x d o, flt scope ρ x = some (d, o) -> x ∈ N') :
    EnvOk (inX X scope cl C N' s H0 fp) ow H (sigF X scope N' σ) (flt scope ρ) := by
  refine ⟨fun x d o h => ?_, E.own⟩
  obtain ⟨h1, h2⟩ := flt_look h
  obtain ⟨i, v, e1, e2, e3, e4⟩ := E.get x d o h1
  have hx : x ∈ N' := hsub x d o h
  have hi : X.N.idxOf x = i := by
    have hm : x ∈ X.N := List.mem_of_getElem? e1
    have hlt := List.idxOf_lt_length_iff.mpr hm
    exact nodup_ix hN (by rw [List.getElem?_eq_getElem hlt, List.getElem_idxOf hlt]) e1
  refine ⟨N'.idxOf x, v, ?_, ?_, ?_, e4⟩
  . have hlt := List.idxOf_lt_length_iff.mpr hx
    show N'[N'.idxOf x]? = some x
    rw [List.getElem?_eq_getElem hlt, List.getElem_idxOf hlt]
  . exact .inr (lookup_relabel_free h2)
  . have hlt := List.idxOf_lt_length_iff.mpr hx
    unfold sigF
    rw [List.getElem?_map, List.getElem?_eq_getElem hlt, List.getElem_idxOf hlt]
    simp only [Option.map_some]
    rw [if_pos h2, hi, e3]; rfl
end Sp
set_option Elab.async false
set_option linter.all false
set_option maxRecDepth 100000
namespace Sp
open PySem PySem.Spec PyProof.Rows L2
variable {X : Cx}
theorem comp_loop {prog : Program} {w : World} {A : Around} {R : Result -> Shared -> Prop} {s : Shared} {elt target iter : Expr} {ifs : List Expr} {scope : Scope} {pos : Pos} {it acc : Value} {env : Env} (J : Nat -> Shared -> Prop)
    (turn : ∀ n s, J n s -> wpAny (model prog w) A (pyNext it) (fun r s₁ => match r with
      | none => R (.ok .next) s₁
      | some v => wpAny (model prog w) A (letOwnedTupleGo target it v) (fun _ s₁ => wpAny (model prog w) A (assign target env v) (fun _ s₂ =>
          wpAny (model prog w) A (forTests ifs env) (fun ok s₃ =>
            if ok = true then wpAny (model prog w) A (eval elt env) (fun x s₄ =>
              wpAny (model prog w) A (call (.builtin "list.append") [acc, x]) (fun _ s₅ => ∃ m, m < n /\ J m s₅) (fun _ _ => False) s₄) (fun _ _ => False) s₃
            else ∃ m, m < n /\ J m s₃) (fun _ _ => False) s₂) (fun _ _ => False) s₁) (fun _ _ => False) s₁) (fun _ _ => False) s)
    (n : Nat) (h : J n s) : codeAny (model prog w) A (.compLoop (.ListComp elt [⟨target, iter, ifs, 0⟩] scope pos) 0 it acc env) R s := by
  refine codeAny_loop rfl J (fun n s hI => ?_) n h
  show wpAny _ A ((compTurn (.ListComp elt [⟨target, iter, ifs, 0⟩] scope pos) 0 it acc env).onRaise (fun x => do noteFrame x env; theTreesLotGoes x)) _ _ s
  refine wpAny_noted ?_
  rw [compTurn_list]
  refine wpAny_bind (wpAny_standAt (wpAny_bind (wpAny_mono (turn n s hI) (fun r s₁ h₁ => ?_) fun _ _ h' => h'.elim)))
  cases r with
  | none => exact wpAny_pure h₁
  | some v =>
    refine wpAny_bind (wpAny_mono h₁ (fun _ s₁' h₁' => ?_) fun _ _ h' => h'.elim)
    refine wpAny_bind (wpAny_mono h₁' (fun _ s₂ h₂ => wpAny_bind (wpAny_mono h₂ (fun ok s₃ h₃ => ?_) fun _ _ h' => h'.elim)) fun _ _ h' => h'.elim)
    cases ok with
    | false => exact wpAny_pure ⟨rfl, h₃⟩
    | true =>
      exact wpAny_bind (wpAny_bind (wpAny_mono h₃ (fun x s₄ h₄ => wpAny_bind (wpAny_mono h₄ (fun _ s₅ h₅ => wpAny_pure (wpAny_pure ⟨rfl, h₅⟩)) fun _ _ h' => h'.elim)) fun _ _ h' => h'.elim))
def TurnD (X : Cx) (ρ : Rho) (tg : Expr) (ifs : List Expr) (elt : Expr) (k : Nat) (d : D) (r : Option D) : Prop :=
  ∃ ρ' b, GD X ρ tg d ρ' /\ (∀ x y, ρ x = some y -> ρ' x = some y) /\ TsD X ρ' ifs b /\ match r with | some d' => b = true /\ ED X ρ' elt d' k | none => b = false
theorem kp_shared {ow : Ow} {H : Hp} (o : OwIn ow H) {a : Addr} : ∀ {k : Nat}, k <= 1 -> Kp ow H k a true -> ow a = none
  | 0, _, p => o.free p.2
  | 1, _, p => p rfl
  | _ + 2, h, _ => absurd h (by omega)
theorem kp_elem {ow : Ow} {H H9 : Hp} {D : Addr} {x : HO} (sm : Same H H9) (hD : H9 D = some x) {a : Addr} {b : Bool} : ∀ {k : Nat}, k <= 1 -> Kp (fun a => if a = D then some none else ow a) H9 k a b -> Kp ow H k a b /\ (b = true -> a ≠ D)
  | 0, _, p => ⟨⟨p.1, sm.free p.2⟩, fun _ z => by subst z; have := p.2; rw [hD] at this; cases this⟩
  | 1, _, p => by
    have p : b = true -> (if a = D then some none else ow a) = none := p
    refine ⟨fun hb => ?_, fun hb hz => ?_⟩
    . have p := p hb
      by_cases hz : a = D
      . rw [if_pos hz] at p; cases p
      . rw [if_neg hz] at p; exact p
    . have p := p hb
      rw [if_pos hz] at p; cases p
  | _ + 2, h, _ => absurd h (by omega)
theorem kp_new {ow : Ow} {H : Hp} {D : Addr} (o : OwIn ow H) (hD : H D = none) : ∀ {k : Nat}, k <= 1 -> Kp ow H k D true
  | 0, _ => ⟨rfl, hD⟩
  | 1, _ => fun _ => o.free hD
  | _ + 2, h => absurd h (by omega)
theorem llessL_get : ∀ {l : List D} {i : Nat} {d : D}, llessL l = true -> l[i]? = some d -> d.lless = true
  | [], _, _, _, h => by simp at h
  | x :: l, 0, d, f, h => by
    rw [llessL, Bool.and_eq_true] at f
    simp at h; subst h; exact f.1
  | x :: l, i + 1, d, f, h => by
    rw [llessL, Bool.and_eq_true] at f
    exact llessL_get (i := i) f.2 (by simpa using h)
structure CompEnd (X : Cx) (pins : List (Addr × Obj)) (σ : L2.St) (H5 : Hp) (s6 : Shared) (C : Addr) (m6 : Str -> Option Value) : Prop where
  inv : Inv X pins σ H5 s6
  ns : s6.heap.Ns C m6
  free : H5 C = none
  loc : C ≠ X.env.locals
  old : X.s₀.heap.objs.size <= C
  cell : ∀ x c, X.env.cells.lookup x = some c -> c ≠ C
  pin : ∀ p ∈ X.pn ++ pins, p.1 ≠ C
  fs : C ∉ X.fs
theorem comp_core {ow : Ow} {use : Option (Value -> Sem Unit)} {Q' : Value -> Shared -> Prop} {pins : List (Addr × Obj)} {s : Shared} {σ : L2.St} {H : Hp} {ρ : Rho} {tg elt iter : Expr} {ifs : List Expr} {scope : Scope} {pos pos2 : Pos} {ds : List D} {f : D -> Option D} {k ko : Nat} {N' : List Str}
    (hcalm : X.calm = true) (hN : X.N.Nodup) (hk : llessL ds = true \/ k <= 1) (hko : ko <= 1) (hlen : ds.length < sizeLine) (S : CScope X.env scope N') (hsub : ∀ x d o, flt scope ρ x = some (d, o) -> x ∈ N')
    (hi : IE X ρ tg iter ds k)
    (turn : ∀ cl C s H fp, ∀ d ∈ ds, TurnD (inX X scope cl C N' s H fp) (flt scope ρ) tg ifs elt ko d (f d))
    (hs : ∀ x, foldedSetIterable iter X.env x = pure x) (I : Inv X pins σ H s) (E : EnvOk X ow H σ ρ)
    (fin : ∀ D C s6 H5 m6, CompEnd X pins σ H5 s6 C m6 -> Same H H5 -> Rep X.K H5 (Kp ow H ko) (.lst (ds.filterMap f)) (.ref D) -> compPost (model X.prog X.w) X.A X.xe use Q' (.ref D) C (.ok .next) s6) :
    wpAny (model X.prog X.w) X.A (comprehension (.ListComp elt [⟨tg, iter, ifs, 0⟩] scope pos) scope X.env pos2 (newList []) false (eval iter X.env) use) Q' X.xe s := by
  obtain ⟨cl, hclos, h1, h2⟩ := closure_for (env := X.env) (scope := scope) fun n hn => I.ok.has n (S.fr n hn)
  refine wpAny_comprehension_free rfl hs hclos S.kind S.names ?_
  refine thn (hi ow pins s σ H (fun J H1 => Same H H1 /\ ItD X.K J ds (Kd ow H k H1) H1) I ⟨E, fun J H1 a b => ⟨a, b⟩⟩) fun v s1 h1' => thn h1' fun itv s2 h2' => ?_
  obtain ⟨it, fp, tn, J, H2, rfl, I2, T, st2, f2, s12, itd⟩ := h2'
  have hD2 : H2 s2.heap.objs.size = none := I2.hok.fresh (Nat.le_refl _)
  refine wpAny_newObj_type (wp_newEnv (fun x c hc => (I2.cell x c (h1 x c hc).1).imp fun v q => q.keeps fun b o e => Heap.get?_push_of_some _ e) fun h₁ hns₁ kp0 k60 => ?_)
  have I3 : Inv X pins σ (upd H2 s2.heap.objs.size (.lst [])) { s2 with heap := s2.heap.push { cls := .type "list", dict := none, data := .seq ([] : List Value).toArray } } :=
    I2.laid (t' := s2.toks) (fun b u e => Heap.get?_push_of_some _ e) (Nat.le_refl _) ⟨Nat.zero_le _, [], 0, .nil, Heap.get?_push_size _ rfl⟩
  generalize hD : s2.heap.objs.size = D at *
  generalize hs3 : ({ s2 with heap := s2.heap.push { cls := .type "list", dict := none, data := .seq ([] : List Value).toArray } } : Shared) = s3 at *
  have hsz3 : s3.heap.objs.size = D + 1 := by rw [<- hs3]; show (s2.heap.push _).objs.size = _; rw [Heap.size_push, hD]
  have f3 : ∀ b ∈ fp, FpOk X pins (upd H2 D (.lst [])) b := fun b hb => by
    obtain ⟨g0, g⟩ := f2 b hb
    obtain ⟨o, e, _⟩ := T.obj _ _ st2 b hb
    have hlt := Heap.lt_size e
    rw [hD] at hlt
    exact ⟨by rw [upd_ne (Nat.ne_of_lt hlt)]; exact g0, g⟩
  have fl3 : ∀ b ∈ fp, b < s3.heap.objs.size := fun b hb => by
    obtain ⟨o, e, _⟩ := T.obj _ _ st2 b hb
    have hlt := Heap.lt_size e
    rw [hD] at hlt
    rw [hsz3]; exact Nat.lt_succ_of_lt hlt
  have kp : ∀ b o, s3.heap.get? b = some o -> h₁.get? b = some o := kp0
  have kc : CellsIn X scope (cellsFrom (s3.heap.objs.size + 1) scope.names cl) s3.heap.objs.size := cells_in I3 S h1 h2
  generalize hcl' : cellsFrom (s3.heap.objs.size + 1) scope.names cl = cl' at *
  have I4 := inv_in (s1 := { s3 with heap := h₁, toks := s3.toks + 0 }) (N' := N') I3 S kc k60 f3 fl3 ⟨_, _, rfl⟩ hns₁ kp
  have sH2 : ∀ vs, Same H2 (upd H2 D (.lst vs)) := fun vs b o e => by rw [upd_ne (ne_of_none e hD2)]; exact e
  let ow' : Ow := fun a => if a = D then some none else ow a
  have ow'D : ow' D = some none := if_pos rfl
  have ow'n : ∀ a, a ≠ D -> ow' a = ow a := fun a h => if_neg h
  have own' : ∀ {H' : Hp} (vs : List V), H' D = some (.lst vs) -> Same H2 H' -> OwIn ow' H' := fun {H'} vs hd sm a ha => by
    by_cases hz : a = D
    . subst hz; exact ⟨_, hd⟩
    . rw [ow'n a hz] at ha
      obtain ⟨o, e⟩ := (E.same s12).own a ha
      exact ⟨o, sm a o e⟩
  have E4 : EnvOk (inX X scope cl' s3.heap.objs.size N' s3 (upd H2 D (.lst [])) fp) ow' (upd H2 D (.lst [])) (sigF X scope N' σ) (flt scope ρ) := by
    have E3 := env_in (scope := scope) (cl := cl') (C := s3.heap.objs.size) (N' := N') (s := s3) (fp := fp) (H0 := upd H2 D (.lst [])) (E.same s12) hN hsub
    refine ⟨fun x d o h => ?_, own' [] upd_same (sH2 [])⟩
    obtain ⟨i, v, e1, e2, e3, e4⟩ := E3.get x d o h
    refine ⟨i, v, e1, e2, e3, Rep.same (sH2 []) (e4.impH (fun a ob ha p => ?_) fun a p => ?_)⟩
    . have hz : a ≠ D := ne_of_none ha hD2
      cases o with
      | true => exact ⟨p.1, (ow'n a hz).trans p.2⟩
      | false => exact fun _ => (ow'n a hz).trans (p rfl)
    . cases o with
      | true => cases p.1
      | false => exact fun z => (by cases z)
  generalize hX' : inX X scope cl' s3.heap.objs.size N' s3 (upd H2 D (.lst [])) fp = X' at *
  have turn' : ∀ d ∈ ds, TurnD X' (flt scope ρ) tg ifs elt ko d (f d) := fun d hd => by rw [<- hX']; exact turn _ _ _ _ _ d hd
  have eK : X'.K = X.K := by rw [<- hX']
  have eP : X'.prog = X.prog := by rw [<- hX']
  have eW : X'.w = X.w := by rw [<- hX']
  have eA : X'.A = X.A := by rw [<- hX']
  have eE : X'.env = compEnvC scope cl' s3.heap.objs.size X.env := by rw [<- hX']
  have eX : X'.xe = fun _ _ => False := by rw [<- hX']
  have eC : X'.calm = true := by rw [<- hX']; exact hcalm
  have stat : ∀ {H' : Hp}, (∀ b ∈ fp, H' b = none) -> ∀ b ∈ fp, FpOk X' [] H' b := fun hn b hb => by
    rw [<- hX']
    refine ⟨hn b hb, ?_, ?_, .inl hb, fun x c h => (kc.k1 x c h).elim (fun q => (f3 b hb).2.2.2.2.1 x c q) (fun q z => by subst z; exact absurd (Nat.lt_trans q.1 (fl3 _ hb)) (Nat.lt_irrefl _)), fun p hp => absurd (show p ∈ ([] : List (Addr × Obj)) from hp) (by simp)⟩
    . show b ≠ s3.heap.objs.size
      exact Nat.ne_of_lt (fl3 b hb)
    . intro z
      rcases List.mem_cons.mp (I3.stkSub b z) with q | q
      . exact (f3 b hb).2.1 q
      . exact (f3 b hb).2.2.1 q
  let Pe : AP2 := fun a b => Kp ow H ko a b /\ (b = true -> a ≠ D)
  have loop : codeAny (model X.prog X.w) X.A (.compLoop (.ListComp elt [⟨tg, iter, ifs, 0⟩] scope pos) 0 (.ref it) (.ref D) (compEnvC scope cl' s3.heap.objs.size X.env)) (compPost (model X.prog X.w) X.A X.xe use Q' (.ref D) s3.heap.objs.size) { s3 with heap := h₁, toks := s3.toks + 0 } := by
    refine comp_loop (fun n s' => ∃ (i : Nat) (σ' : L2.St) (H' : Hp) (vs : List V), Inv X' [] σ' H' s' /\ tn i s'.heap /\ (∀ b ∈ fp, H' b = none) /\ EnvOk X' ow' H' σ' (flt scope ρ) /\ H' D = some (.lst vs) /\ Same H2 H' /\
      RepL X.K H' Pe ((ds.take i).filterMap f) vs /\ i <= ds.length /\ n = ds.length - i) ?_ ds.length
      ⟨0, sigF X scope N' σ, upd H2 D (.lst []), [], I4, ?_, fun b hb => (f3 b hb).1, E4, upd_same, sH2 [], ?_, Nat.zero_le _, rfl⟩
    . rintro n s5 ⟨i, σ5, H5, vs, I5, st5, fr5, E5, hD5, sm5, rp5, hi5, rfl⟩
      have stay : Stay (Kd ow H k H2) (Kd ow H k H2) H2 H5 := .same sm5 fun _ _ p => p
      have itd5 := itd i H5 stay
      by_cases hlt : i < ds.length
      . obtain ⟨go, yl⟩ := itd5.1 ds[i] (by simp [hlt])
        have Ti := T.item X' eP eW eK eC i [] s5 σ5 H5 (fun _ _ => False) I5 (stat fr5) st5 go
        rw [eA] at Ti
        refine thn Ti fun r s6 ⟨u, hr, h6⟩ => ?_
        subst hr
        refine thn h6 fun _ s7 ⟨x, H7, I7, r7, y7, st7, fr7⟩ => ?_
        obtain ⟨sm7, rx7⟩ := yl x H7 y7
        obtain ⟨ρ', b, ⟨g, hg, hgd⟩, hext, hts, hel⟩ := turn' ds[i] (List.getElem_mem hlt)
        have rx7' : Rep X'.K H7 (fun a b => b = true -> ow' a = none) ds[i] x := by
          rw [eK]
          rcases hk with hk | hk
          . exact rx7.flat _ (llessL_get hk (List.getElem?_eq_getElem hlt))
          refine rx7.impH (fun a o ha p _ => ?_) fun a _ z => (by cases z)
          obtain ⟨p, p2⟩ := p
          obtain ⟨o2, ho2⟩ := p2 rfl
          show ow' a = none
          rw [ow'n a (ne_of_none ho2 hD2)]
          exact kp_shared E.own hk p
        have E7 := E5.same sm7
        have I7' := I7.pinned (stat fr7) (T.obj _ _ st7)
        have hg' := hg _ s7 σ5 H7 x u (fun σ' H' => EnvOk X' ow' H' σ' ρ' /\ H7 = H') I7' r7 (hgd ow' x σ5 H7 _ I7.len E7 rx7' fun σ' _ e => ⟨e, rfl⟩)
        rw [eP, eW, eA, eE, eX] at hg'
        refine thn hg' fun _ s8 ⟨σ8, H8, I8, E8, eH8⟩ => ?_
        subst eH8
        have ht' := hts ow' _ s8 σ8 H7 (fun c H' => c = b /\ Same H7 H') I8 ⟨E8, fun H' sm => ⟨rfl, sm⟩⟩
        rw [eP, eW, eA, eE, eX] at ht'
        refine thn ht' fun c s9 ⟨H9, I9, ec, sm9⟩ => ?_
        subst ec
        have back : ∀ {H' : Hp} {σ' : L2.St} {s' : Shared}, Inv X' ([] ++ pinsAt fp s7.heap) σ' H' s' -> Inv X' [] σ' H' s' /\ tn (i + 1) s'.heap /\ ∀ b ∈ fp, H' b = none := fun {H' σ' s'} J7 => by
          refine ⟨J7.unpinned, T.keep _ _ _ st7 fun b hb o e => (J7.pin (b, o) (List.mem_append_right _ (List.mem_append_right _ (mem_pinsAt hb e)))).1, fun b hb => ?_⟩
          obtain ⟨o, e, d⟩ := T.obj _ _ st7 b hb
          exact (J7.pin (b, o) (List.mem_append_right _ (List.mem_append_right _ (mem_pinsAt hb e)))).2.1
        have envf : ∀ {H' : Hp} {σ' : L2.St}, EnvOk X' ow' H' σ' ρ' -> EnvOk X' ow' H' σ' (flt scope ρ) := fun {H' σ'} e => ⟨fun x d o h => e.get x d o (hext x _ h), e.own⟩
        have tk : (ds.take (i + 1)).filterMap f = (ds.take i).filterMap f ++ (f ds[i]).toList := by
          rw [List.take_add_one]
          simp only [List.getElem?_eq_getElem hlt, Option.toList_some, List.filterMap_append]
          congr 1
        have sm59 : Same H5 H9 := sm7.trans sm9
        cases hc : c with
        | false =>
          rw [if_neg Bool.false_ne_true]
          subst hc
          obtain ⟨I9', st9, fr9⟩ := back I9
          have fn : f ds[i] = none := by
            cases hf : f ds[i] with
            | none => rfl
            | some d' => rw [hf] at hel; cases hel.1
          refine ⟨ds.length - (i + 1), by omega, i + 1, σ8, H9, vs, I9', st9, fr9, envf (E8.same sm9), sm59 _ _ hD5, sm5.trans sm59, ?_, hlt, rfl⟩
          rw [tk, fn, Option.toList_none, List.append_nil]
          exact rp5.same sm59
        | true =>
          rw [if_pos rfl]
          subst hc
          obtain ⟨d', fs, hed⟩ : ∃ d', f ds[i] = some d' /\ ED X' ρ' elt d' ko := by
            cases hf : f ds[i] with
            | none => rw [hf] at hel; cases hel
            | some d' => rw [hf] at hel; exact ⟨d', rfl, hel.2⟩
          have he' := hed ow' _ s9 σ8 H9 (fun v H' => Same H9 H' /\ Rep X'.K H' (Kp ow' H9 ko) d' v) I9 ⟨E8.same sm9, fun v H' a r => ⟨a, r⟩⟩
          rw [eP, eW, eA, eE, eX] at he'
          refine thn he' fun y s10 ⟨v10, H10, I10, r10, sm10, rp10⟩ => ?_
          have sm510 := sm59.trans sm10
          have hD10 := sm510 _ _ hD5
          have hlv : vs.length < sizeLine := by
            rw [<- rp5.length]
            refine Nat.lt_of_le_of_lt (List.length_filterMap_le _ _) ?_
            rw [List.length_take]; omega
          have ha' := mt_append (X := X') _ s10 σ8 H10 (.ref D) [v10] (.ref D) [y] (fun w H' => upd H10 D (.lst (vs ++ [v10])) = H') I10 rfl (.cons r10 .nil) ⟨D, vs, v10, rfl, rfl, hD10, hlv, rfl⟩
          rw [eP, eW, eA, eX] at ha'
          refine thn ha' fun _ s11 ⟨w11, H11, I11, _, eH11⟩ => ?_
          subst eH11
          obtain ⟨I11', st11, fr11⟩ := back I11
          have s2D : ∀ a o, H2 a = some o -> a ≠ D := fun a o e => ne_of_none e hD2
          have stD : Stay Pe Pe H10 (upd H10 D (.lst (vs ++ [v10]))) := ⟨fun a o h hn => by rw [upd_ne (fun z => by subst z; rw [hD10] at h; cases h; exact hn)]; exact h, fun a ws h p => by rw [upd_ne (p.2 rfl)]; exact h, fun _ _ _ p => p, fun _ p => p⟩
          refine ⟨ds.length - (i + 1), by omega, i + 1, σ8, _, vs ++ [v10], I11', st11, fr11, ?_, upd_same, ?_, ?_, hlt, rfl⟩
          . have E10 := envf ((E8.same sm9).same sm10)
            refine ⟨fun x d o h => ?_, own' _ upd_same (fun a o e => by rw [upd_ne (s2D a o e)]; exact (sm5.trans sm510) a o e)⟩
            obtain ⟨i', v', e1, e2, e3, e4⟩ := E10.get x d o h
            refine ⟨i', v', e1, e2, e3, e4.mono ⟨fun a o h hn => by rw [upd_ne (fun z => by subst z; rw [hD10] at h; cases h; exact hn)]; exact h, fun a ws h p => ?_, fun _ _ _ p => p, fun _ p => p⟩⟩
            have hz : a ≠ D := by
              intro z; subst z
              cases o with
              | true => have := p.2; rw [ow'D] at this; cases this
              | false => have : ow' a = none := p rfl; rw [ow'D] at this; cases this
            rw [upd_ne hz]; exact h
          . intro a o e
            rw [upd_ne (s2D a o e)]
            exact (sm5.trans sm510) a o e
          . rw [tk, fs, Option.toList_some]
            refine ((rp5.same sm510).mono stD).append (RepL.one (Rep.mono stD ?_))
            rw [eK] at rp10
            have sH9 : Same H H9 := s12.trans (sm5.trans sm59)
            exact rp10.imp fun a b p => kp_elem sH9 (sm59 _ _ hD5) hko p
      . have hstop := itd5.2 (by omega)
        have Td := T.done X' eP eW eK eC i [] s5 σ5 H5 (fun _ _ => False) I5 (stat fr5) st5 hstop
        rw [eA] at Td
        refine thn Td fun r s6 ⟨hr, I6⟩ => ?_
        subst hr
        have ei : i = ds.length := by omega
        subst ei
        rw [List.take_length] at rp5
        have hC : X'.env.locals = s3.heap.objs.size := by rw [eE]; rfl
        obtain ⟨m6, hn6, _⟩ := I6.loc
        rw [hC] at hn6
        have hfree : H5 s3.heap.objs.size = none := by have := I6.free; rw [hC] at this; exact this
        have IX : Inv X pins σ H5 s6 := by
          have b6 := I6.base
          have o6 := I6.os
          have k6 := I6.hok
          have g6 := I6.bare
          rw [<- hX'] at b6 o6 k6
          exact I3.call' o6 b6 k6 g6 fun b hb => ⟨(f3 b hb).2.2.2.1, (f3 b hb).2.1, (f3 b hb).2.2.2.2.1, (f3 b hb).2.2.2.2.2⟩
        have hHD : H D = none := s12.free hD2
        refine fin D _ s6 H5 m6 ⟨IX, hn6, hfree, Nat.ne_of_gt I3.lt, I3.sz, fun x c hc z => ?_, fun p hp z => ?_, I3.nofs (Nat.le_refl _)⟩ (s12.trans sm5) ?_
        . obtain ⟨v, hv⟩ := I3.cell x c hc
          have := hv.lt
          rw [z] at this; exact absurd this (Nat.lt_irrefl _)
        . have := Heap.lt_size (I3.pin p hp).1
          rw [z] at this; exact absurd this (Nat.lt_irrefl _)
        . rw [Rep]
          exact ⟨D, vs, true, rfl, hD5, kp_new E.own hHD hko, rp5.imp fun _ _ p => p.1⟩
    . exact T.keep 0 s2.heap h₁ st2 fun b hb o e => kp b o (by rw [<- hs3]; exact Heap.get?_push_of_some _ e)
    . exact RepL.nil
  exact codeAny_compStart_list loop (T.self _ 0 _ _ _ (T.keep 0 s2.heap h₁ st2 fun b hb o e => kp b o (by rw [<- hs3]; exact Heap.get?_push_of_some _ e)) loop)
theorem CompEnd.done {pins : List (Addr × Obj)} {σ : L2.St} {H5 : Hp} {s6 : Shared} {C : Addr} {m6 : Str -> Option Value} (e : CompEnd X pins σ H5 s6 C m6) {h' : Heap} (sb : Heap.SameBut C s6.heap h') : Inv X pins σ H5 { s6 with heap := h' } :=
  e.inv.turned (t' := s6.toks) (it := C) (fun b o hb e => sb.extBut b o hb e) e.free e.loc (.inr e.old) e.cell e.pin
theorem ed_comp {ρ : Rho} {tg elt iter : Expr} {ifs : List Expr} {scope : Scope} {pos : Pos} {ds : List D} {f : D -> Option D} {k ko : Nat} {N' : List Str}
    (hcalm : X.calm = true) (hN : X.N.Nodup) (hk : llessL ds = true \/ k <= 1) (hko : ko <= 1) (hlen : ds.length < sizeLine) (S : CScope X.env scope N') (hsub : ∀ x d o, flt scope ρ x = some (d, o) -> x ∈ N')
    (hi : IE X ρ tg iter ds k)
    (turn : ∀ cl C s H fp, ∀ d ∈ ds, TurnD (inX X scope cl C N' s H fp) (flt scope ρ) tg ifs elt ko d (f d))
    (hs : ∀ x, foldedSetIterable iter X.env x = pure x := by intro _; rfl) :
    ED X ρ (.ListComp elt [⟨tg, iter, ifs, 0⟩] scope pos) (.lst (ds.filterMap f)) ko := by
  intro ow pins s σ H Q I ⟨E, q⟩
  rw [eval_ListComp]
  refine comp_core hcalm hN hk hko hlen S hsub hi turn hs I E fun D C s6 H5 m6 ce sm rp => ?_
  exact ⟨m6, ce.ns, fun h' sb => ⟨.ref D, H5, ce.done sb, rfl, q (.ref D) H5 sm rp⟩⟩
theorem ps_comp {D0 : Ends} {ow : Ow} {x : Str} {px spos : Pos} {pins : List (Addr × Obj)} {s : Shared} {σ : L2.St} {H : Hp} {ρ : Rho} {tg elt iter : Expr} {ifs : List Expr} {scope : Scope} {pos : Pos} {ds : List D} {f : D -> Option D} {k ko : Nat} {N' : List Str} {i : Nat}
    (hcalm : X.calm = true) (hN : X.N.Nodup) (hk : llessL ds = true \/ k <= 1) (hko : ko <= 1) (hlen : ds.length < sizeLine) (S : CScope X.env scope N') (hsub : ∀ x d o, flt scope ρ x = some (d, o) -> x ∈ N')
    (hi : IE X ρ tg iter ds k)
    (turn : ∀ cl C s H fp, ∀ d ∈ ds, TurnD (inX X scope cl C N' s H fp) (flt scope ρ) tg ifs elt ko d (f d))
    (hs : ∀ x, foldedSetIterable iter X.env x = pure x) (I : Inv X pins σ H s) (E : EnvOk X ow H σ ρ)
    (hsw : swapsWith (.ListComp elt [⟨tg, iter, ifs, 0⟩] scope pos) (some (.Name x px)) spos.line X.env = pure true)
    (hx : X.N[i]? = some x) (hl : Loc X.env.scope x) (hf : X.fn x = true \/ X.env.scope.names.lookup x = some .local)
    (q : ∀ v H', Same H H' -> Rep X.K H' (Kp ow H ko) (.lst (ds.filterMap f)) v -> D0.nx (σ.set i (some v)) H') :
    wpAny (model X.prog X.w) X.A (exec (.Assign [.Name x px] (.ListComp elt [⟨tg, iter, ifs, 0⟩] scope pos) spos) X.env) (SP X pins D0) X.xe s := by
  rw [exec_Assign_Name_used _ _ _ _ hsw]
  refine wpAny_bind (wpAny_standAt (wpAny_bind ?_))
  show wpAny _ X.A (do let _ <- comprehension (.ListComp elt [⟨tg, iter, ifs, 0⟩] scope pos) scope X.env _ (newList []) false (eval iter X.env) (some (assign (.Name x px) X.env))) _ _ s
  refine wpAny_bind (wpAny_mono (comp_core (use := some (assign (.Name x px) X.env)) (Q' := fun _ s' => SP X pins D0 .next s') hcalm hN hk hko hlen S hsub hi turn hs I E fun D C s6 H5 m6 ce sm rp => ?_) (fun _ s' hq => wpAny_pure (wpAny_pure hq)) fun _ _ e => e)
  obtain ⟨o, es, ep, ho, hd, hrest⟩ := id ce.ns
  have Ip : Inv X (pins ++ [(C, o)]) σ H5 s6 := ce.inv.pins_of fun p hp => by
    rcases List.mem_append.mp hp with z | z
    . exact ce.inv.pin p (List.mem_append_right _ z)
    . have e : p = (C, o) := by simpa using z
      subst e
      exact ⟨ho, ce.free, ce.loc, ce.fs, fun v z => by rw [hd] at z; cases z⟩
  show wpAny _ X.A (assign (.Name x px) X.env (.ref D)) _ _ _
  refine thn (pg_name (i := i) hN hx hl hf (pins ++ [(C, o)]) s6 σ H5 (.ref D) (.ref D) (fun σ' H' => σ.set i (some (.ref D)) = σ' /\ H5 = H') Ip rfl ⟨rfl, rfl⟩) fun _ s7 ⟨σ7, H7, I7, e1, e2⟩ => ?_
  subst e1 e2
  have pC := (I7.pin (C, o) (List.mem_append_right _ (List.mem_append_right _ (by simp)))).1
  refine ⟨m6, ⟨o, es, ep, pC, hd, hrest⟩, fun h' sb => ?_⟩
  have ce' : CompEnd X pins (σ.set i (some (.ref D))) H5 s7 C m6 := ⟨I7.unpinned, ⟨o, es, ep, pC, hd, hrest⟩, ce.free, ce.loc, ce.old, ce.cell, ce.pin, ce.fs⟩
  exact ⟨_, H5, ce'.done sb, q (.ref D) H5 sm rp⟩
end Sp
set_option Elab.async false
set_option linter.all false
set_option maxRecDepth 100000
namespace Sp
open PySem PySem.Spec PyProof.Rows L2
mutual
def D.py : D -> PyData
  | .non => .none
  | .bl b => .bool b
  | .int i => .int i
  | .str x => .str x
  | .dct _ _ => .dict []
  | .typ _ => .dict []
  | .sn _ => .dict []
  | .obj _ _ _ => .dict []
  | .cls _ => .dict []
  | .tup l => .tuple (pyL l)
  | .lst l => .list (pyL l)
def pyL : List D -> List PyData
  | [] => []
  | d :: l => d.py :: pyL l
end
inductive Rs (α : Type) where
  | ok (a : α) (l : List Prop)
  | st
def allP : List Prop -> Prop
  | [] => True
  | p :: l => p /\ allP l
def Rs.bnd {α β : Type} (r : Rs α) (f : α -> Rs β) : Rs β :=
  match r with
  | .st => .st
  | .ok a l => match f a with
    | .st => .st
    | .ok b m => .ok b (l ++ m)
def ofO {α : Type} : Option α -> Rs α
  | some a => .ok a []
  | none => .st
def gd (b : Bool) : List Prop -> List Prop
  | [] => []
  | m => [b = true -> allP m]
abbrev R1 := Rs (D × Nat)
def mk (d : D) (k : Nat) : R1 := .ok (d, kn d k) []
structure Fx where
  fn : Str -> Option (List D -> Rs D)
  con : Str -> Option D
  blt : Str -> Option (List D -> R1)
  itr : Str -> Option (List D -> Nat -> R1)
  mth : Str -> Option (D -> List D -> R1)
  mtt : Str -> Option (List D -> List D -> Nat -> Rs (List D))
  slf : D -> Option Int -> Option Int -> R1 := fun _ _ _ => .st
  fld : Str -> Str -> Bool := fun _ _ => false
  omt : Str -> Str -> Option (List D -> Rs D) := fun _ _ => none
def cst : Const -> Option D
  | .none => some .non
  | .bool b => some (.bl b)
  | .int i => some (.int i)
  | .str x => some (.str x)
  | _ => none
def big : Nat := 2 ^ 9000
def mulOk (a b : Int) : Prop := a.natAbs < 2 ^ 64 \/ b.natAbs < 2 ^ 64 \/ (a.natAbs < big /\ b.natAbs < big) \/ (Builtin.Int.intBits a <= 2 ^ 22 /\ Builtin.Int.intBits b <= 2 ^ 22)
def divOk (b : Int) : Prop := b ≠ 0 /\ b.natAbs < big
def powOk (a b : Int) : Prop := 0 <= b /\ b <= 1000 /\ a.natAbs < 2 ^ 64
def many : Nat := 40000
def binI (op : Operator) (a b : Int) : R1 :=
  match op with
  | .Add => .ok (.int (a + b), 0) []
  | .Sub => .ok (.int (a - b), 0) []
  | .Mult => .ok (.int (a * b), 0) [mulOk a b]
  | .FloorDiv => .ok (.int (a.fdiv b), 0) [divOk b]
  | .Mod => .ok (.int (a.fmod b), 0) [b ≠ 0]
  | .Pow => .ok (.int (a ^ b.toNat), 0) [powOk a b]
  | _ => .st
def isAdd : Operator -> Bool
  | .Add => true
  | _ => false
def binD (op : Operator) (x y : D) (k j : Nat) : R1 :=
  match x, y with
  | .int a, .int b => binI op a b
  | .tup a, .tup b => if isAdd op = true then .ok (.tup (a ++ b), kn (.tup (a ++ b)) (kj k j)) [a.length + b.length <= many] else .st
  | .lst a, .lst b => if isAdd op = true then .ok (.lst (a ++ b), 0) [llessL (a ++ b) = true, a.length + b.length <= many] else .st
  | _, _ => .st
def unD (op : UnaryOp) (x : D) : Option D :=
  match op, x with
  | .USub, .int a => some (.int (-a))
  | .Not, .bl b => some (.bl (!b))
  | _, _ => none
def eqOk (x y : D) : Bool := SeqAt.shaped x.py && SeqAt.shaped y.py
def eqD (x y : D) : Bool := PyData.eqv x.py y.py
def intsOf : List D -> Option (List Int)
  | [] => some []
  | .int i :: l => (intsOf l).map (i :: ·)
  | _ :: _ => none
def memD (x : D) (l : List D) : Rs Bool := .ok (l.any fun y => eqD y x) [eqOk (.tup l) x = true]
def D.isNon : D -> Bool
  | .non => true
  | _ => false
def seqOf : D -> Option (List D)
  | .tup l => some l
  | .lst l => some l
  | _ => none
def cmpI (op : CmpOp) (a b : Int) : Option Bool :=
  match op with
  | .Lt => some (decide (a < b))
  | .LtE => some (decide (a <= b))
  | .Gt => some (decide (b < a))
  | .GtE => some (decide (b <= a))
  | _ => none
def ordD (op : CmpOp) (x y : D) : Option Bool :=
  match x, y with
  | .int a, .int b => cmpI op a b
  | _, _ => none
def Rs.nt : Rs Bool -> Rs Bool
  | .ok b l => .ok (!b) l
  | .st => .st
def keyD : D -> Option Key
  | .int i => some (.inl i)
  | .str x => some (.inr x)
  | _ => none
def dGet (ks : List Key) (ds : List D) (k : Key) : Option D := ((ks.zip ds).find? fun p => decide (p.1 = k)).map (·.2)
def hasK (ks : List Key) (k : Key) : Bool := ks.any fun j => decide (j = k)
def dPutK (ks : List Key) (k : Key) : List Key := cond (hasK ks k) ks (ks ++ [k])
def dPutV {α : Type} (ks : List Key) (ds : List α) (k : Key) (d : α) : List α := cond (hasK ks k) (List.zipWith (fun j e => if j = k then d else e) ks ds) (ds ++ [d])
def inD (x y : D) : Rs Bool :=
  match y with
  | .tup l => memD x l
  | .lst l => memD x l
  | .dct ks _ => (match keyD x with | some k => .ok (hasK ks k) [] | none => .st)
  | .str b => (match x with | .str a => .ok (Txt.contains b a) [] | _ => .st)
  | _ => .st
def cmpD (op : CmpOp) (x y : D) : Rs Bool :=
  match op with
  | .Eq => .ok (eqD x y) [eqOk x y = true]
  | .NotEq => .ok (!eqD x y) [eqOk x y = true]
  | .In => inD x y
  | .NotIn => (inD x y).nt
  | .Is => (match y with | .non => .ok x.isNon [] | _ => .st)
  | .IsNot => (match y with | .non => .ok (!x.isNon) [] | _ => .st)
  | op => ofO (ordD op x y)
def D.ty0 : D -> Option String
  | .non => some "NoneType"
  | .bl _ => some "bool"
  | .int _ => some "int"
  | .str _ => some "str"
  | .dct _ _ => some "dict"
  | .tup _ => some "tuple"
  | .lst _ => some "list"
  | _ => none
def isD (x : D) (T : String) : Option Bool := x.ty0.map fun a => decide (a = T) || decide (a = "bool" /\ T = "int")
def tyOf (x : Str) : Option String :=
  if x = "int" then some "int" else if x = "bool" then some "bool" else if x = "str" then some "str" else if x = "tuple" then some "tuple" else if x = "list" then some "list" else none
def boolsOf : List D -> Option (List Bool)
  | [] => some []
  | .bl i :: l => (boolsOf l).map (i :: ·)
  | _ :: _ => none
def bnames : List Str := ["len", "tuple", "list", "abs", "all", "sum", "isinstance", "set", "int", "bool", "str", "range", "zip", "enumerate", "any", "sorted", "min", "max", "reversed"]
def isTupE : Expr -> Bool
  | .Tuple .. => true
  | _ => false
def tgOk (e tg : Expr) : Bool :=
  match e with
  | .Call (.Name f _) _ _ _ => if f = "enumerate" \/ f = "zip" then isTupE tg else true
  | _ => true
def sgs (x : Str) : List D := x.cps.toList.map fun c => .str ⟨#[c]⟩
def items : D -> Option (List D)
  | .lst l => some l
  | .tup l => some l
  | .str x => if (x.cps.all fun c => decide (c < 128)) = true then some (sgs x) else none
  | _ => none
def putR (ρ : Rho) (x : Str) (y : D × Bool) : Rho := fun z => if z = x then some y else ρ z
def locK (sc : Scope) (x : Str) : Bool := sc.names.lookup x == some .local || sc.names.lookup x == some .cell
def bindNs (sc : Scope) : List Expr -> List D -> Rho -> Option Rho
  | [], [], ρ => some ρ
  | .Name x _ :: es, d :: ds, ρ => if locK sc x = true then bindNs sc es ds (putR ρ x (d, false)) else none
  | _, _, _ => none
def bindG (sc : Scope) (tg : Expr) (d : D) (ρ : Rho) : Option Rho :=
  match tg with
  | .Name x _ => if locK sc x = true then some (putR ρ x (d, false)) else none
  | .Tuple es _ _ => (match d with | .tup ds => bindNs sc es ds ρ | _ => none)
  | _ => none
def cOk (sc scope : Scope) : Bool :=
  decide (scope.kind = .function) && scope.names.all (fun y => decide (y.2 ≠ .local) || decide (scope.names.lookup y.1 = some .local)) &&
  scope.names.all (fun y => decide (y.2 ≠ .free) || locK sc y.1 && decide (sc.names.lookup y.1 = some .cell) || decide (sc.names.lookup y.1 = some .free)) && decide ((scope.names.map (·.1)).Nodup)
def compD (step : D -> Rs (Option (D × Nat))) : List D -> Rs (List D × Nat)
  | [] => .ok ([], 0) []
  | d :: l => (step d).bnd fun r => (compD step l).bnd fun q => match r with
    | none => .ok q []
    | some p => .ok (p.1 :: q.1, kj p.2 q.2) []
def ixD (x : D) (i : Int) (k : Nat) : R1 :=
  match seqOf x with
  | some l => (match atI l i with | some d => mk d k | none => .st)
  | none => .st
def intR (p : D × Nat) (f : Int -> R1) : R1 :=
  match p.1 with
  | .int j => f j
  | _ => .st
def subD (p q : D × Nat) : R1 :=
  match p.1 with
  | .dct ks ds => (match keyD q.1 with | some k => (match dGet ks ds k with | some d => .ok (d, 0) [] | none => .st) | none => .st)
  | x => intR q fun j => ixD x j p.2
def cutD (l : List D) (lo hi : Option Int) : List D := (l.drop (HT.sIx l.length 0 lo)).take (HT.sIx l.length l.length hi - HT.sIx l.length 0 lo)
def okN (x : Str) : Bool := decide ((x == ("__debug__" : Str)) = false) && decide ((x == ("__classdict__" : Str)) = false)
def andR (b : Bool) (r : Rs Bool) : Rs Bool :=
  match r with
  | .ok c m => .ok (b && c) (gd b m)
  | .st => match b with | false => .ok false [] | true => .st
def orR (b : Bool) (r : Rs Bool) : Rs Bool :=
  match r with
  | .ok c m => .ok (b || c) (gd (!b) m)
  | .st => match b with | true => .ok true [] | false => .st
mutual
def mrgD (b : Bool) : D -> D -> D
  | .int x, .int y => .int (cond b x y)
  | .bl x, .bl y => .bl (cond b x y)
  | .tup x, .tup y => if x.length = y.length then .tup (mrgL b x y) else cond b (.tup x) (.tup y)
  | x, y => cond b x y
def mrgL (b : Bool) : List D -> List D -> List D
  | x :: l, y :: m => mrgD b x y :: mrgL b l m
  | l, m => cond b l m
end
def kIf (t : Bool) (k j : Nat) : Nat := if k = j then k else cond t k j
def ifR (b : Bool) (r s : R1) : R1 :=
  match r with
  | .st => (match b with | true => .st | false => s)
  | .ok p m => match s with
    | .st => (match b with | true => .ok p m | false => .st)
    | .ok q n => .ok (mrgD b p.1 q.1, kIf b p.2 q.2) (gd b m ++ gd (!b) n)
def nameD (Φ : Fx) (x : Str) (sc : Scope) (ρ : Rho) : R1 :=
  if okN x = true then
    (if sc.names.lookup x = some .globalImplicit then (match Φ.con x with | some d => .ok (d, 0) [] | none => match tyOf x with | some T => .ok (.typ T, 0) [] | none => .st)
    else match ρ x with
      | some p => mk p.1 (cond p.2 2 1)
      | none => .st)
  else .st
def callD (Φ : Fx) (f : Str) (it : Bool) (ds : List D) (k : Nat) : R1 :=
  match Φ.fn f with
  | some F => (F ds).bnd fun d => .ok (d, 0) []
  | none => match (if it = true then Φ.itr f else none) with
    | some B => B ds k
    | none => match Φ.blt f with
      | some B => B ds
      | none => .st
def blR {α : Type} (p : D × Nat) (f : Bool -> Rs α) : Rs α :=
  match p.1 with
  | .bl j => f j
  | _ => .st
def fldD (Φ : Fx) (x : D) (f : Str) : R1 :=
  match x with
  | .obj n ns ds => if Φ.fld n f = true then (match (ns.zip ds).lookup f with | some d => .ok (d, 0) [] | none => .st) else .st
  | _ => .st
def baseOk : Expr -> Bool
  | .Call (.Name _ _) [] [] _ => false
  | _ => true
def mthD (Φ : Fx) (a : Expr) (m : Str) (x : D) (ds : List D) : R1 :=
  match x with
  | .obj n ns es => if ns.contains m = false /\ baseOk a = true /\ ds.length < 29 then (match Φ.omt n m with | some F => (F (.obj n ns es :: ds)).bnd fun d => .ok (d, 0) [] | none => .st) else .st
  | x => if baseOk a = true then (match Φ.mth m with | some M => M x ds | none => .st) else .st
def chD (op op2 : CmpOp) (x y z : D) : R1 :=
  match x, y, z with
  | .int a, .int b, .int c => (match cmpI op a b, cmpI op2 b c with | some r, some r2 => .ok (.bl (r && r2), 0) [] | _, _ => .st)
  | _, _, _ => .st
mutual
def evE (Φ : Fx) : Expr -> Bool -> Scope -> Rho -> R1
  | .Constant c _ _, _, _, _ => (match cst c with | some d => .ok (d, 0) [] | none => .st)
  | .Name x _, _, sc, ρ => nameD Φ x sc ρ
  | .BinOp a op b _, _, sc, ρ => (evE Φ a false sc ρ).bnd fun p => (evE Φ b false sc ρ).bnd fun q => binD op p.1 q.1 p.2 q.2
  | .UnaryOp op a _, _, sc, ρ => (evE Φ a false sc ρ).bnd fun p => (match unD op p.1 with | some d => .ok (d, 0) [] | none => .st)
  | .BoolOp op es _, _, sc, ρ => if es.isEmpty = true then .st else (evB Φ op es sc ρ).bnd fun b => .ok (.bl b, 0) []
  | .Compare a [op] [b] _, _, sc, ρ => (evE Φ a false sc ρ).bnd fun p => (evE Φ b false sc ρ).bnd fun q => (cmpD op p.1 q.1).bnd fun r => .ok (.bl r, 0) []
  | .Compare a [op, op2] [b, c] _, _, sc, ρ => (evE Φ a false sc ρ).bnd fun p => (evE Φ b false sc ρ).bnd fun q => (evE Φ c false sc ρ).bnd fun t => chD op op2 p.1 q.1 t.1
  | .IfExp c a b _, _, sc, ρ => (evE Φ c false sc ρ).bnd fun p => blR p fun t => ifR t (evE Φ a false sc ρ) (evE Φ b false sc ρ)
  | .Tuple es _ _, _, sc, ρ => (evEs Φ es sc ρ).bnd fun p => if p.1.length <= many then mk (.tup p.1) p.2 else .st
  | .Dict [] [] _, _, _, _ => .ok (.dct [] [], 0) []
  | .List es _, _, sc, ρ => (evEs Φ es sc ρ).bnd fun p => if p.1.length <= many /\ p.2 <= 1 then .ok (.lst p.1, p.2) [] else .st
  | .Subscript a (.Slice lo hi none _) _, _, sc, ρ => (evE Φ a false sc ρ).bnd fun p => (evO Φ lo sc ρ).bnd fun l => (evO Φ hi sc ρ).bnd fun h => Φ.slf p.1 l h
  | .Subscript a i _, _, sc, ρ => (evE Φ a false sc ρ).bnd fun p => (evE Φ i false sc ρ).bnd fun q => subD p q
  | .Call (.Name f _) args [] _, it, sc, ρ =>
    if sc.names.lookup f = some .globalImplicit then (evEs Φ args sc ρ).bnd fun p => callD Φ f it p.1 p.2
    else .st
  | .Attribute (.Name x _) f _, _, sc, ρ => (nameD Φ x sc ρ).bnd fun p => fldD Φ p.1 f
  | .Call (.Attribute a m ap) args [] cp, _, sc, ρ => if (ap.endLine == cp.line) = true then (evE Φ a false sc ρ).bnd fun p => (evEs Φ args sc ρ).bnd fun q => mthD Φ a m p.1 q.1 else .st
  | .ListComp elt [⟨tg, iter, ifs, 0⟩] scope _, _, sc, ρ =>
    if cOk sc scope = true then (evE Φ iter true sc ρ).bnd fun p => (match items p.1 with
      | some ds => if tgOk iter tg = true then
          (Rs.ok () [ds.length <= many, llessL ds = true \/ p.2 <= 1]).bnd fun _ => (compD (fun d => match bindG scope tg d (flt scope ρ) with
            | none => .st
            | some ρ' => (evB Φ .And ifs scope ρ').bnd fun b => cond b ((evE Φ elt false scope ρ').bnd fun r => .ok (some r) []) (.ok none [])) ds).bnd fun q => if q.2 <= 1 then .ok (.lst q.1, q.2) [] else .st
        else .st
      | none => .st)
    else .st
  | _, _, _, _ => .st
def evEs (Φ : Fx) : List Expr -> Scope -> Rho -> Rs (List D × Nat)
  | [], _, _ => .ok ([], 0) []
  | e :: es, sc, ρ => (evE Φ e false sc ρ).bnd fun p => (evEs Φ es sc ρ).bnd fun q => .ok (p.1 :: q.1, kj p.2 q.2) []
def evB (Φ : Fx) : BoolOp -> List Expr -> Scope -> Rho -> Rs Bool
  | .And, [], _, _ => .ok true []
  | .Or, [], _, _ => .ok false []
  | .And, e :: es, sc, ρ => (evE Φ e false sc ρ).bnd fun p => blR p fun b => andR b (evB Φ .And es sc ρ)
  | .Or, e :: es, sc, ρ => (evE Φ e false sc ρ).bnd fun p => blR p fun b => orR b (evB Φ .Or es sc ρ)
def evO (Φ : Fx) : Option Expr -> Scope -> Rho -> Rs (Option Int)
  | none, _, _ => .ok none []
  | some e, sc, ρ => (evE Φ e false sc ρ).bnd fun p => (match p.1 with | .int i => .ok (some i) [] | _ => .st)
end
theorem evE_bop {Φ : Fx} {op : BoolOp} {es : List Expr} {p : Pos} {it : Bool} {sc : Scope} {ρ : Rho} : evE Φ (.BoolOp op es p) it sc ρ = (if es.isEmpty = true then .st else (evB Φ op es sc ρ).bnd fun b => .ok (.bl b, 0) []) := rfl
theorem evE_calN {Φ : Fx} {f : Str} {args : List Expr} {p q : Pos} {it : Bool} {sc : Scope} {ρ : Rho} : evE Φ (.Call (.Name f p) args [] q) it sc ρ = (if sc.names.lookup f = some .globalImplicit then (evEs Φ args sc ρ).bnd fun p => callD Φ f it p.1 p.2 else .st) := rfl
theorem evE_calA {Φ : Fx} {a : Expr} {m : Str} {args : List Expr} {ap cp : Pos} {it : Bool} {sc : Scope} {ρ : Rho} : evE Φ (.Call (.Attribute a m ap) args [] cp) it sc ρ = (if (ap.endLine == cp.line) = true then (evE Φ a false sc ρ).bnd fun p => (evEs Φ args sc ρ).bnd fun q => mthD Φ a m p.1 q.1 else .st) := rfl
theorem evE_cmp {Φ : Fx} {elt tg iter : Expr} {ifs : List Expr} {scope : Scope} {q : Pos} {it : Bool} {sc : Scope} {ρ : Rho} : evE Φ (.ListComp elt [⟨tg, iter, ifs, 0⟩] scope q) it sc ρ = (if cOk sc scope = true then (evE Φ iter true sc ρ).bnd fun p => (match items p.1 with
      | some ds => if tgOk iter tg = true then
          (Rs.ok () [ds.length <= many, llessL ds = true \/ p.2 <= 1]).bnd fun _ => (compD (fun d => match bindG scope tg d (flt scope ρ) with
            | none => .st
            | some ρ' => (evB Φ .And ifs scope ρ').bnd fun b => cond b ((evE Φ elt false scope ρ').bnd fun r => .ok (some r) []) (.ok none [])) ds).bnd fun q => if q.2 <= 1 then .ok (.lst q.1, q.2) [] else .st
        else .st
      | none => .st)
    else .st) := rfl
end Sp
set_option Elab.async false
set_option linter.all false
set_option maxRecDepth 100000
namespace Sp
open PySem PySem.Spec PyProof.Rows L2
inductive Fl where
  | nx (ρ : Rho) | rt (d : D) | bk (ρ : Rho) | ct (ρ : Rho)
def isComp : Expr -> Bool
  | .ListComp .. => true
  | .SetComp .. => true
  | .DictComp .. => true
  | _ => false
def setD (l : List D) (i : Int) (d : D) : Option (List D) := (ixN l.length i).map fun j => l.set j d
def nxt (f : Rho -> Rs Fl) : Fl -> Rs Fl
  | .nx ρ => f ρ
  | .ct ρ => f ρ
  | .bk ρ => .ok (.nx ρ) []
  | .rt d => .ok (.rt d) []
def forD (bind : D -> Rho -> Option Rho) (body : Rho -> Rs Fl) : List D -> Rho -> Rs Fl
  | [], ρ => .ok (.nx ρ) []
  | d :: l, ρ => match bind d ρ with
    | none => .st
    | some ρ1 => (body ρ1).bnd (nxt (forD bind body l))
def whD (test : Rho -> Rs Bool) (body : Rho -> Rs Fl) : Nat -> Rho -> Rs Fl
  | 0, _ => .st
  | n + 1, ρ => (test ρ).bnd fun b => cond b ((body ρ).bnd (nxt (whD test body n))) (.ok (.nx ρ) [])
def demX (x : Str) (ρ : Rho) : Rho := fun y => if y = x then (ρ y).map fun p => (p.1, false) else ρ y
def demA (x : Str) (ρ : Rho) : Rho := fun y => if y = x then (ρ y).map fun p => (p.1, p.2 && p.1.lless) else ρ y
def demL : List Expr -> Rho -> Rho
  | [], ρ => ρ
  | .Name x _ :: es, ρ => demL es (demA x ρ)
  | .Subscript (.Name x _) _ _ :: es, ρ => demL es (demA x ρ)
  | _ :: es, ρ => demL es ρ
def demote (e : Expr) (ρ : Rho) : Rho :=
  match e with
  | .Name x _ => demX x ρ
  | .Subscript (.Name x _) _ _ => demX x ρ
  | .Call _ args _ _ => demL args ρ
  | _ => ρ
def putO (sc : Scope) (x : Str) (p : D × Nat) (ρ : Rho) : Rs Fl :=
  if locK sc x = true then
    match p.2 with
    | 0 => .ok (.nx (putR ρ x (p.1, true))) []
    | 1 => .ok (.nx (putR ρ x (p.1, false))) []
    | _ => .st
  else .st
def ownM (ρ : Rho) (x : Str) (f : List D -> Rs Fl) : Rs Fl :=
  match ρ x with
  | some (.lst l, true) => if okN x = true then f l else .st
  | _ => .st
def parOk (sc : Scope) (x y : Str) (px py : Pos) (a b : Expr) : Bool :=
  sc.names.lookup x == some .local && sc.names.lookup y == some .local && (px.line == py.line) && !decide (x = y) && !([a, b].all (foldedForSure 8)) && !([a, b].all (constantsAlone 8))
def exPar (Φ : Fx) (es : List Expr) (e : Expr) (sc : Scope) (ρ : Rho) : Rs Fl :=
  match es, e with
  | [.Name x px, .Name y py], .Tuple [a, b] _ _ => if parOk sc x y px py a b = true then (evEs Φ [a, b] sc ρ).bnd fun p => (match p.1 with
      | [u, v] => if llessL [u, v] = true \/ p.2 <= 1 then .ok (.nx (putR (putR ρ x (u, false)) y (v, false))) [] else .st
      | _ => .st) else .st
  | _, _ => .st
def celPar (sc : Scope) (es : List Expr) (e : Expr) : Bool :=
  match es, e with
  | [.Name x _, .Name _ _], .Tuple [_, _] _ _ => sc.names.lookup x == some .cell
  | _, _ => false
def swE (sc : Scope) (es : List Expr) (e : Expr) : Bool := isTupE e && !celPar sc es e
def own2 (sc : Scope) (es : List Expr) (p : D × Nat) : Bool :=
  match es, p.1, p.2 with
  | [.Name x _, .Name y _], .tup [d1, d2], 0 => d1.lless && !d2.lless && !decide (x = y) && locK sc x && locK sc y
  | _, _, _ => false
def put2 (es : List Expr) (p : D × Nat) (ρ : Rho) : Rho :=
  match es, p.1 with
  | [.Name x _, .Name y _], .tup [d1, d2] => putR (putR ρ y (d2, true)) x (d1, false)
  | _, _ => ρ
def stOk (_ : Expr) : Bool := true
def stoD (ρ : Rho) (x : Str) (i d : D) : Rs Fl :=
  match ρ x with
  | some (.lst l, true) => (match i with | .int j => if okN x = true then (match setD l j d with | some l' => .ok (.nx (putR ρ x (.lst l', true))) [llessL l = true, d.lless = true] | none => .st) else .st | _ => .st)
  | some (.dct ks ds, true) => (match keyD i with | some k => if okN x = true then .ok (.nx (putR ρ x (.dct (dPutK ks k) (dPutV ks ds k d), true))) [d.lless = true, ks.length < many] else .st | none => .st)
  | _ => .st
def exAsg (Φ : Fx) (tgs : List Expr) (e : Expr) (sc : Scope) (ρ : Rho) : Rs Fl :=
  match tgs with
  | [.Name x _] => (evE Φ e false sc ρ).bnd fun p => putO sc x p ρ
  | [.Tuple es _ _] => if swE sc es e = true then exPar Φ es e sc ρ else (evE Φ e false sc ρ).bnd fun p => if own2 sc es p = true then .ok (.nx (put2 es p ρ)) [] else (match seqOf p.1 with
      | some ds => if llessL ds = true \/ p.2 <= 1 then (match bindNs sc es ds ρ with | some ρ' => .ok (.nx ρ') [] | none => .st) else .st
      | none => .st)
  | [.Subscript (.Name x _) i _] => if stOk e = true then (evE Φ e false sc ρ).bnd fun p => (evE Φ i false sc ρ).bnd fun q => stoD ρ x q.1 p.1
    else .st
  | _ => .st
def augI (op : Operator) (a b : Int) : R1 :=
  match op with
  | .Add => .ok (.int (a + b), 0) []
  | .Sub => .ok (.int (a - b), 0) []
  | .Mult => .ok (.int (a * b), 0) [mulOk a b]
  | .FloorDiv => .ok (.int (a.fdiv b), 0) [divOk b]
  | _ => .st
def exAug (Φ : Fx) (t : Expr) (op : Operator) (e : Expr) (sc : Scope) (ρ : Rho) : Rs Fl :=
  match t with
  | .Name x _ => if locK sc x = true then (match ρ x with
      | some p => intR (p.1, 0) (fun a => (evE Φ e false sc ρ).bnd fun q => intR q fun b => augI op a b) |>.bnd fun r => .ok (.nx (putR ρ x (r.1, true))) []
      | none => .st) else .st
  | _ => .st
def exExp (Φ : Fx) (e : Expr) (sc : Scope) (ρ : Rho) : Rs Fl :=
  match e with
  | .Call (.Attribute (.Name x _) m ap) args [] cp => if (ap.endLine == cp.line) = true then (evEs Φ args sc ρ).bnd fun p => (match Φ.mtt m with
      | some M => ownM ρ x fun l => (M l p.1 p.2).bnd fun l' => .ok (.nx (putR ρ x (.lst l', true))) []
      | none => .st) else .st
  | .Call (.Name f p) args ks cp => (evE Φ (.Call (.Name f p) args ks cp) false sc ρ).bnd fun _ => .ok (.nx ρ) []
  | _ => .st
def demAll (ρ : Rho) : Rho := fun y => (ρ y).map fun p => (p.1, false)
def nest1 : Expr -> Bool
  | .ListComp elt _ _ _ => isComp elt
  | _ => false
def nestE : Expr -> Bool
  | .Tuple es _ _ => es.any nest1
  | e => nest1 e
def rtR (e : Expr) (ρ : Rho) : Rho := cond (nestE e) (demAll ρ) ρ
def retK (p : D × Nat) : Rs Fl := if p.2 = 0 \/ p.2 = 2 then .ok (.rt p.1) [] else .st
mutual
def exS (Φ : Fx) : Stmt -> Scope -> Rho -> Rs Fl
  | .Return (some e) _, sc, ρ => (evE Φ e false sc (rtR e ρ)).bnd retK
  | .Return none _, _, _ => .ok (.rt .non) []
  | .Pass _, _, ρ => .ok (.nx ρ) []
  | .Break _, _, ρ => .ok (.bk ρ) []
  | .Continue _, _, ρ => .ok (.ct ρ) []
  | .Assign tgs e _, sc, ρ => exAsg Φ tgs e sc ρ
  | .AugAssign t op e _, sc, ρ => exAug Φ t op e sc ρ
  | .Expr e _, sc, ρ => exExp Φ e sc ρ
  | .If c a b _, sc, ρ => (evE Φ c false sc ρ).bnd fun p => blR p fun t => cond t (exSs Φ a sc ρ) (exSs Φ b sc ρ)
  | .For tg it body els _, sc, ρ => if els.isEmpty = true then (evE Φ it true sc (demote it ρ)).bnd fun p => (match items p.1 with
      | some ds => if p.2 <= 1 /\ tgOk it tg = true then forD (bindG sc tg) (exSs Φ body sc) ds (demote it ρ) else .st
      | none => .st)
    else .st
  | .While c body els _, sc, ρ => if els.isEmpty = true then whD (fun ρ => (evE Φ c false sc ρ).bnd fun p => blR p fun b => .ok b []) (exSs Φ body sc) many ρ else .st
  | _, _, _ => .st
def exSs (Φ : Fx) : List Stmt -> Scope -> Rho -> Rs Fl
  | [], _, ρ => .ok (.nx ρ) []
  | s :: ss, sc, ρ => (exS Φ s sc ρ).bnd fun
    | .nx ρ' => exSs Φ ss sc ρ'
    | f => .ok f []
end
theorem exS_for {Φ : Fx} {tg it : Expr} {body els : List Stmt} {q : Pos} {sc : Scope} {ρ : Rho} : exS Φ (.For tg it body els q) sc ρ = (if els.isEmpty = true then (evE Φ it true sc (demote it ρ)).bnd fun p => (match items p.1 with
      | some ds => if p.2 <= 1 /\ tgOk it tg = true then forD (bindG sc tg) (exSs Φ body sc) ds (demote it ρ) else .st
      | none => .st)
    else .st) := rfl
theorem exS_wh {Φ : Fx} {c : Expr} {body els : List Stmt} {q : Pos} {sc : Scope} {ρ : Rho} : exS Φ (.While c body els q) sc ρ = (if els.isEmpty = true then whD (fun ρ => (evE Φ c false sc ρ).bnd fun p => blR p fun b => .ok b []) (exSs Φ body sc) many ρ else .st) := rfl
def argR : List Str -> List D -> Rho
  | p :: ps, d :: ds => fun z => if z = p then some (d, false) else argR ps ds z
  | _, _ => fun _ => none
def runD (Φ : Fx) (sc : Scope) (ps : List Str) (body : List Stmt) (ds : List D) : Rs D :=
  if ds.length = ps.length then (exSs Φ body sc (argR ps ds)).bnd fun
    | .rt d => .ok d []
    | .nx _ => .ok .non []
    | _ => .st
  else .st
def bLen (ds : List D) : R1 :=
  match ds with
  | [.sn n] => .ok (.int n, 0) []
  | [x] => (match seqOf x with | some l => .ok (.int l.length, 0) [] | none => .st)
  | _ => .st
def tyNames : List String := ["int", "bool", "str", "tuple", "list", "dict"]
def bIsi (ds : List D) : R1 :=
  match ds with
  | [.obj m _ _, .cls n] => if m = n then .ok (.bl true, 0) [] else if m ∈ clsN then .ok (.bl (subc m n), 0) [] else .st
  | [x, .typ T] => if T ∈ tyNames then (match isD x T with | some b => .ok (.bl b, 0) [] | none => .st) else .st
  | _ => .st
def bTuple (ds : List D) : R1 :=
  match ds with
  | [x] => (match seqOf x with | some l => .ok (.tup l, 0) [llessL l = true] | none => .st)
  | _ => .st
def bAbs (ds : List D) : R1 :=
  match ds with
  | [.int i] => .ok (.int (if i < 0 then -i else i), 0) []
  | _ => .st
def bAll (ds : List D) : R1 :=
  match ds with
  | [.lst l] => (match boolsOf l with | some bs => .ok (.bl (bs.all id), 0) [] | none => .st)
  | _ => .st
def bSum (ds : List D) : R1 :=
  match ds with
  | [.lst l] => (match intsOf l with | some ns => .ok (.int ns.sum, 0) [] | none => .st)
  | _ => .st
def iRange (ds : List D) (_ : Nat) : R1 :=
  match ds with
  | [.int j] => .ok (.lst ((List.range j.toNat).map fun i => .int (i : Nat)), 0) [-4611686018427387904 <= j, j <= many]
  | [.int i, .int j] => .ok (.lst ((List.range (j - i).toNat).map fun m => .int (i + (m : Nat))), 0) [-4611686018427387904 <= i, i <= 4611686018427387000, -4611686018427387904 <= j, j - i <= 800]
  | _ => .st
def noSl (_ : D) (_ _ : Option Int) : R1 := .st
def mAppend (l ds : List D) (k : Nat) : Rs (List D) :=
  match ds with
  | [d] => .ok (l ++ [d]) [d.lless = true \/ k = 0, l.length < many]
  | _ => .st
def mExtend (l ds : List D) (k : Nat) : Rs (List D) :=
  match ds, k with
  | [.lst d], 0 => .ok (l ++ d) [l.length + d.length <= many]
  | _, _ => .st
def Tb (l : List (Str × (List D -> Rs D))) (c : List (Str × D)) (b : List (Str × (List D -> R1))) (i : List (Str × (List D -> Nat -> R1))) (m : List (Str × (D -> List D -> R1))) (t : List (Str × (List D -> List D -> Nat -> Rs (List D)))) (sf : D -> Option Int -> Option Int -> R1) : Fx :=
  { slf := sf, fn := fun g => l.lookup g, con := fun x => c.lookup x, blt := fun x => b.lookup x, itr := fun x => i.lookup x, mth := fun x => m.lookup x, mtt := fun x => t.lookup x }
end Sp
set_option Elab.async false
set_option linter.all false
set_option maxRecDepth 100000
namespace Sp
open PySem PySem.Spec PyProof.Rows L2
variable {X : Cx}
theorem natbits {k : Int} {n : Nat} (h : k.natAbs < 2 ^ n) : Builtin.Int.intBits k <= n := by
  unfold Builtin.Int.intBits
  split
  . exact Nat.zero_le _
  . rename_i h0
    have : k.natAbs.log2 < n := by
      rcases Nat.eq_zero_or_pos k.natAbs with h1 | hp
      . exact absurd (by simpa using h1) (by simpa using h0)
      . exact (Nat.log2_lt (Nat.ne_of_gt hp)).mpr h
    omega
theorem allP_append : ∀ {l m : List Prop}, allP (l ++ m) ↔ allP l /\ allP m
  | [], m => by simp [allP]
  | p :: l, m => by
    show p /\ allP (l ++ m) ↔ (p /\ allP l) /\ allP m
    rw [allP_append, and_assoc]
theorem bnd_inv {α β : Type} {r : Rs α} {f : α -> Rs β} {b : β} {l : List Prop} (h : r.bnd f = .ok b l) (hp : allP l) : ∃ a l1 l2, r = .ok a l1 /\ allP l1 /\ f a = .ok b l2 /\ allP l2 := by
  unfold Rs.bnd at h
  split at h
  . cases h
  . rename_i a l1
    split at h
    . cases h
    . rename_i b' m e
      cases h
      obtain ⟨h1, h2⟩ := allP_append.mp hp
      exact ⟨a, l1, m, rfl, h1, e, h2⟩
theorem gd_inv {b : Bool} {m : List Prop} (h : allP (gd b m)) (hb : b = true) : allP m := by
  cases m with
  | nil => exact True.intro
  | cons p l => exact h.1 hb
theorem mul_w {a b : Int} (h : Builtin.Int.intBits a <= 2 ^ 22) (g : Builtin.Int.intBits b <= 2 ^ 22) : IntMulOk a b := by
  have h' : Builtin.Int.intTooBig (Builtin.Int.intBits a + Builtin.Int.intBits b) = false := by
    unfold Builtin.Int.intTooBig bitsLine; exact decide_eq_false (by omega)
  unfold IntMulOk; rw [h']; simp
theorem mulOk_ok {a b : Int} (h : mulOk a b) : IntMulOk a b := by
  rcases h with h | h | ⟨h, g⟩ | ⟨h, g⟩
  . exact .of_left (natbits h)
  . exact .of_right (natbits h)
  . exact IntMulOk.of_bits (Nat.le_trans (natbits h) (by decide)) (Nat.le_trans (natbits g) (by decide))
  . exact mul_w h g
theorem op_mulS : OpR X (binaryOp .Mult) (rI (fun i j => mulOk i j) fun i j => .int (i * j)) := opI fun _ _ _ _ _ _ _ hc q => mul_int q (mulOk_ok hc)
theorem op_fdivS : OpR X (binaryOp .FloorDiv) (rI (fun _ j => j ≠ 0 /\ j.natAbs < big) fun i j => .int (i.fdiv j)) := opI fun i j _ _ _ _ _ hc q => floordiv_int hc.1 q (.inl (PyProof.noPylong_of_log2 (by
  rcases Nat.eq_zero_or_pos j.natAbs with h1 | hp
  . exact absurd (by simpa using h1) hc.1
  . exact (Nat.log2_lt (Nat.ne_of_gt hp)).mpr hc.2)))
mutual
theorem reads_of {pins : List (Addr × Obj)} {σ : L2.St} {H : Hp} {s : Shared} (I : Inv X pins σ H s) {P : AP2} : ∀ {d : D} {v : V} {u : Value}, d.py.canLay0 = true -> Rep X.K H P d v -> RelV v u -> ∃ as, Reads s.heap u d.py as
  | .non, v, u, _, h, r => by
    rw [Rep] at h; subst h; cases (show u = Value.none from r); rw [D.py]; exact ⟨_, .none⟩
  | .bl b, v, u, _, h, r => by rw [Rep] at h; subst h; cases (show u = Value.bool b from r); rw [D.py]; exact ⟨_, .bool b⟩
  | .int i, v, u, _, h, r => by rw [Rep] at h; subst h; obtain ⟨t, e⟩ := (show ∃ t, u = Value.int i t from r); subst e; rw [D.py]; exact ⟨_, .int i t⟩
  | .str x, v, u, _, h, r => by rw [Rep] at h; subst h; obtain ⟨t, e⟩ := (show ∃ t, u = Value.str x t from r); subst e; rw [D.py]; exact ⟨_, .str x t⟩
  | .dct _ _, v, u, c, h, r => by rw [D.py] at c; simp [PyData.canLay0] at c
  | .typ _, v, u, c, h, r => by rw [D.py] at c; simp [PyData.canLay0] at c
  | .sn _, v, u, c, h, r => by rw [D.py] at c; simp [PyData.canLay0] at c
  | .obj _ _ _, v, u, c, h, r => by rw [D.py] at c; simp [PyData.canLay0] at c
  | .cls _, v, u, c, h, r => by rw [D.py] at c; simp [PyData.canLay0] at c
  | .tup l, v, u, c, h, r => by
    rw [Rep] at h
    obtain ⟨a, vs, rfl, h, q⟩ := h
    cases (show u = Value.ref a from r)
    obtain ⟨its, rv, ht, _⟩ := I.tuple h
    obtain ⟨o, e1, e2, n, e3⟩ := ht
    rw [D.py] at c ⊢
    obtain ⟨as, ra⟩ := readsL_of I (by simpa [PyData.canLay0] using c) q rv
    exact ⟨as, .tuple e1 e2 e3 (by simpa using ra)⟩
  | .lst l, v, u, c, h, r => by
    rw [Rep] at h
    obtain ⟨a, vs, b, rfl, h, _, q⟩ := h
    cases (show u = Value.ref a from r)
    have hs : SqL X.K H a vs := h.sq
    obtain ⟨its, rv, ht, _⟩ := I.list hs
    obtain ⟨o, n, e1, e2, _, e3⟩ := ht
    rw [D.py] at c ⊢
    obtain ⟨as, ra⟩ := readsL_of I (by simpa [PyData.canLay0] using c) q rv
    exact ⟨_, .list e1 e2 e3 (by simpa using ra)⟩
theorem readsL_of {pins : List (Addr × Obj)} {σ : L2.St} {H : Hp} {s : Shared} (I : Inv X pins σ H s) {P : AP2} : ∀ {l : List D} {vs : List V} {us : List Value}, PyData.canLayAll0 (pyL l) = true -> RepL X.K H P l vs -> Vals vs us -> ∃ as, ReadsAll s.heap us (pyL l) as
  | [], vs, us, _, h, r => by rw [RepL] at h; subst h; cases r; rw [pyL]; exact ⟨_, .nil⟩
  | d :: l, vs, us, c, h, r => by
    rw [RepL] at h
    obtain ⟨v, vr, rfl, h1, h2⟩ := h
    cases r with
    | cons r1 r2 =>
      rw [pyL, PyData.canLayAll0, Bool.and_eq_true] at c
      obtain ⟨as, ra⟩ := reads_of I c.1 h1 r1
      obtain ⟨bs, rb⟩ := readsL_of I c.2 h2 r2
      rw [pyL]
      exact ⟨_, .cons ra rb⟩
end
def OpD (X : Cx) (f : Value -> Value -> Sem Value) (x y z : D) (k j l : Nat) : Prop :=
  ∃ r : R2, OpR X f r /\ ∀ ow H0 H2 v u (Q : VK), OwIn ow H0 -> Same H0 H2 -> Rep X.K H2 (Kp ow H0 k) x v -> Rep X.K H2 (Kp ow H0 j) y u -> (∀ w H', Same H2 H' -> Rep X.K H' (Kp ow H0 l) z w -> Q w H') -> r v u H2 Q
theorem same_upd {H : Hp} {p : Addr} {o : HO} (h : H p = none) : Same H (upd H p o) := fun b x e => by rw [upd_ne (ne_of_none e h)]; exact e
theorem Rep.kn {K : PySem.W.Frag} {ow : Ow} {H0 H : Hp} {d : D} {k : Nat} {v : V} (h : Rep K H (Kp ow H0 k) d v) : Rep K H (Kp ow H0 (Sp.kn d k)) d v := by
  unfold Sp.kn
  by_cases f : d.lless = true
  . rw [if_pos f]; exact h.flat _ f
  . rw [if_neg f]; exact h
theorem manyLine : many <= sizeLine := by rw [sizeLine_eq]; decide
theorem manyLine' : many < sizeLine := by rw [sizeLine_eq]; decide
theorem opD_int {f : Value -> Value -> Sem Value} {a b : Int} {g : Int -> Int -> Int} {C : Int -> Int -> Prop} {k j : Nat} (h : OpR X f (rI C fun i j => .int (g i j))) (hc : C a b) : OpD X f (.int a) (.int b) (.int (g a b)) k j 0 :=
  ⟨_, h, fun ow H0 H2 v u Q o s rx ry q => by
    rw [Rep] at rx ry; subst rx ry
    exact ⟨a, b, rfl, rfl, hc, q _ _ (Same.refl _) (by rw [Rep])⟩⟩
theorem opD_int0 {f : Value -> Value -> Sem Value} {a b : Int} {g : Int -> Int -> Int} {k j : Nat} (h : OpR X f (rI0 fun i j => .int (g i j))) : OpD X f (.int a) (.int b) (.int (g a b)) k j 0 :=
  ⟨_, h, fun ow H0 H2 v u Q o s rx ry q => by
    rw [Rep] at rx ry; subst rx ry
    exact ⟨a, b, rfl, rfl, q _ _ (Same.refl _) (by rw [Rep])⟩⟩
theorem llessL_append : ∀ {a b : List D}, llessL (a ++ b) = (llessL a && llessL b)
  | [], b => by simp [llessL]
  | x :: a, b => by rw [List.cons_append, llessL, llessL, llessL_append, Bool.and_assoc]
theorem binI_ok {op : Operator} {a b : Int} {z : D} {k j l : Nat} {o : List Prop} (h : binI op a b = .ok (z, l) o) (hp : allP o) : OpD X (binaryOp op) (.int a) (.int b) z k j l := by
  unfold binI at h
  split at h
  . cases h; exact opD_int0 op_add
  . cases h; exact opD_int0 op_sub
  . cases h; exact opD_int op_mulS hp.1
  . cases h; exact opD_int op_fdivS hp.1
  . cases h; exact opD_int op_modN hp.1
  . cases h
    have c : powOk a b := hp.1
    exact opD_int op_pow ⟨c.1, by have := c.2.1; omega, c.2.2⟩
  . cases h
theorem isAdd_eq {op : Operator} (h : isAdd op = true) : op = .Add := by cases op <;> first | rfl | cases h
theorem op_catT0 : OpR X (binaryOp .Add) (fun x y H Q => ∃ a b ys, x = .ref a /\ y = .ref b /\ SqT X.K H a [] /\ SqT X.K H b ys /\ Q (.ref b) H) := by
  intro pins s σ H x y v u Q I rx ry h
  obtain ⟨a, b, ys, rfl, rfl, ha, hb, q⟩ := h
  cases rx
  cases ry
  obtain ⟨its, r1, p1, _⟩ := I.tuple ha
  obtain ⟨its2, r2, p2, _⟩ := I.tuple hb
  cases r1
  obtain ⟨⟨cls, dd, data, sl⟩, ho, hc, n, hd⟩ := id p1
  obtain ⟨⟨cls2, dd2, data2, sl2⟩, ho2, hc2, n2, hd2⟩ := id p2
  simp only at hc hd hc2 hd2
  subst hc hd hc2 hd2
  exact concat_meets ⟨_, ho, rfl⟩ ⟨_, ho2, rfl⟩ noFill_tuple_add seq_tuple_add PySem.F.slot_tuple_add PySem.F.entry_tuple_add (PySem.F.args_tuple_add_2 _ _)
    (tuple_addW0 a b _ its2.toArray n n2 dd dd2 sl sl2 (by rfl)) ⟨ho, ho2, ⟨.ref b, H, I, rfl, q⟩⟩
theorem op_catL : OpR X (binaryOp .Add) (fun x y H Q => ∃ l b xs zs, x = .ref l /\ y = .ref b /\ SqL X.K H l xs /\ SqL X.K H b zs /\ xs.length + zs.length <= sizeLine /\ ∀ p, H p = none -> Q (.ref p) (upd H p (.lst (xs ++ zs)))) := by
  intro pins s σ H x y v u Q I rx ry h
  obtain ⟨l, b, xs, zs, rfl, rfl, hH, hB, hz, q⟩ := h
  cases rx
  cases ry
  obtain ⟨its, r, ⟨⟨cls, dd, data, sl⟩, n, ho, hc, _, hd⟩, z⟩ := I.list hH
  obtain ⟨its2, r2, ⟨⟨cls2, dd2, data2, sl2⟩, n2, ho2, hc2, _, hd2⟩, z2⟩ := I.list hB
  simp only at hc hd hc2 hd2
  subst hc hd hc2 hd2
  have l1 := r.length
  have l2 := r2.length
  refine concat_meets ⟨_, ho, rfl⟩ ⟨_, ho2, rfl⟩ noFill_list_add seq_list_add PySem.F.slot_list_add PySem.F.entry_list_add (PySem.F.args_list_add_2 _ _) (list_addW l b its.toArray its2.toArray n n2 dd dd2 sl sl2 (by rw [List.size_toArray, List.size_toArray]; omega)) ⟨ho, ho2, ?_⟩
  have ea : its.toArray ++ its2.toArray = (its ++ its2).toArray := by simp
  rw [ea]
  exact ⟨.ref _, _, I.lnew (t' := s.toks) (r.append r2) (by rw [List.length_append]; omega), rfl, q _ I.fresh⟩
theorem bin_ok {op : Operator} {x y z : D} {k j l : Nat} {o : List Prop} (h : binD op x y k j = .ok (z, l) o) (hp : allP o) : OpD X (binaryOp op) x y z k j l := by
  unfold binD at h
  split at h
  . exact binI_ok h hp
  . rename_i a b
    split at h
    . rename_i c
      cases isAdd_eq c
      cases h
      cases a with
      | nil =>
        refine ⟨_, op_catT0, fun ow H0 H2 v u Q o s rx ry q => ?_⟩
        rw [Rep] at rx ry
        obtain ⟨pa, va, rfl, ha, ra⟩ := rx
        obtain ⟨pb, vb, rfl, hb, rb⟩ := ry
        have rb' := rb.imp (Kp.joinR o k j)
        cases ra
        refine ⟨pa, pb, vb, rfl, rfl, ha, hb, q _ _ (Same.refl _) (Rep.kn ?_)⟩
        rw [Rep]
        exact ⟨pb, vb, rfl, hb, rb'⟩
      | cons a0 a =>
        refine ⟨_, op_catT, fun ow H0 H2 v u Q o s rx ry q => ?_⟩
        rw [Rep] at rx ry
        obtain ⟨pa, va, rfl, ha, ra⟩ := rx
        obtain ⟨pb, vb, rfl, hb, rb⟩ := ry
        have ra' := ra.imp (Kp.joinL o k j)
        have rb' := rb.imp (Kp.joinR o k j)
        have la := ra.length
        have lb := rb.length
        refine ⟨pa, pb, va, vb, rfl, rfl, ha, hb, ?_, ?_, fun e => ?_, fun e p hp' => ?_⟩
        . intro e; subst e; cases la
        . rw [<- la, <- lb]; exact Nat.le_trans hp.1 manyLine
        . subst e
          have : b = [] := List.length_eq_zero_iff.mp lb
          subst this
          refine q _ _ (Same.refl _) (Rep.kn ?_)
          rw [Rep]
          exact ⟨pa, va, rfl, ha, by rw [List.append_nil]; exact ra'⟩
        . have sm := same_upd (o := HO.tup (va ++ vb)) hp'
          refine q _ _ sm (Rep.kn ?_)
          rw [Rep]
          exact ⟨p, _, rfl, SqT.of upd_same, (ra'.same sm).append (rb'.same sm)⟩
    . cases h
  . rename_i a b
    split at h
    . rename_i c; cases h
      cases isAdd_eq c
      refine ⟨_, op_catL, fun ow H0 H2 v u Q o s rx ry q => ?_⟩
      rw [Rep] at rx ry
      obtain ⟨pa, va, b1, rfl, ha, qa, ra⟩ := rx
      obtain ⟨pb, vb, b2, rfl, hb, qb, rb⟩ := ry
      have la := ra.length
      have lb := rb.length
      have fl := hp.1
      rw [llessL_append, Bool.and_eq_true] at fl
      refine ⟨pa, pb, va, vb, rfl, rfl, ha.sq, hb.sq, by rw [<- la, <- lb]; exact Nat.le_trans hp.2.1 manyLine, fun p hp' => ?_⟩
      have sm := same_upd (o := HO.lst (va ++ vb)) hp'
      refine q _ _ sm ?_
      rw [Rep]
      exact ⟨p, _, true, rfl, upd_same, ⟨rfl, s.free hp'⟩, ((ra.flat _ fl.1).same sm).append ((rb.flat _ fl.2).same sm)⟩
    . cases h
  . cases h
theorem lists_of {pins : List (Addr × Obj)} {σ : L2.St} {H : Hp} {s : Shared} {P : AP2} {l : List D} {v : V} (h : Rep X.K H P (.lst l) v) : ∃ a vs, v = .ref a /\ SqL X.K H a vs /\ RepL X.K H P l vs := by
  rw [Rep] at h
  obtain ⟨a, vs, b, rfl, h, _, q⟩ := h
  exact ⟨a, vs, rfl, h.sq, q⟩
theorem intsOf_eq : ∀ {l : List D} {ns : List Int}, intsOf l = some ns -> l = ns.map D.int
  | [], ns, h => by rw [intsOf] at h; cases h; rfl
  | .int i :: l, ns, h => by
    rw [intsOf] at h
    cases e : intsOf l with
    | none => rw [e] at h; cases h
    | some m => rw [e] at h; cases h; rw [intsOf_eq e]; rfl
  | .non :: l, ns, h => by rw [intsOf] at h <;> first | cases h | (intro z; intro e; cases e)
  | .bl _ :: l, ns, h => by rw [intsOf] at h <;> first | cases h | (intro z; intro e; cases e)
  | .str _ :: l, ns, h => by rw [intsOf] at h <;> first | cases h | (intro z; intro e; cases e)
  | .dct _ _ :: l, ns, h => by rw [intsOf] at h <;> first | cases h | (intro z; intro e; cases e)
  | .typ _ :: l, ns, h => by cases h
  | .sn _ :: l, ns, h => by cases h
  | .obj _ _ _ :: l, ns, h => by cases h
  | .cls _ :: l, ns, h => by cases h
  | .tup _ :: l, ns, h => by rw [intsOf] at h <;> first | cases h | (intro z; intro e; cases e)
  | .lst _ :: l, ns, h => by rw [intsOf] at h <;> first | cases h | (intro z; intro e; cases e)
theorem boolsOf_eq : ∀ {l : List D} {ns : List Bool}, boolsOf l = some ns -> l = ns.map D.bl
  | [], ns, h => by rw [boolsOf] at h; cases h; rfl
  | .bl i :: l, ns, h => by
    rw [boolsOf] at h
    cases e : boolsOf l with
    | none => rw [e] at h; cases h
    | some m => rw [e] at h; cases h; rw [boolsOf_eq e]; rfl
  | .non :: l, ns, h => by rw [boolsOf] at h <;> first | cases h | (intro z; intro e; cases e)
  | .int _ :: l, ns, h => by rw [boolsOf] at h <;> first | cases h | (intro z; intro e; cases e)
  | .str _ :: l, ns, h => by rw [boolsOf] at h <;> first | cases h | (intro z; intro e; cases e)
  | .dct _ _ :: l, ns, h => by rw [boolsOf] at h <;> first | cases h | (intro z; intro e; cases e)
  | .typ _ :: l, ns, h => by cases h
  | .sn _ :: l, ns, h => by cases h
  | .obj _ _ _ :: l, ns, h => by cases h
  | .cls _ :: l, ns, h => by cases h
  | .tup _ :: l, ns, h => by rw [boolsOf] at h <;> first | cases h | (intro z; intro e; cases e)
  | .lst _ :: l, ns, h => by rw [boolsOf] at h <;> first | cases h | (intro z; intro e; cases e)
def CmpR (X : Cx) (op : CmpOp) (x y : D) (r : Bool) : Prop := ∀ (P P' : AP2), OpR X (compareOp op) (fun v u H Q => Rep X.K H P x v /\ Rep X.K H P' y u /\ Q (.bl r) H)
theorem any_py {x : D} : ∀ {l : List D}, ((pyL l).any fun y => PyData.eqv y x.py) = l.any fun y => eqD y x
  | [] => by rw [pyL]; rfl
  | y :: l => by rw [pyL, List.any_cons, List.any_cons, any_py]; rfl
theorem cmp_int {op : CmpOp} {a b : Int} {g : Int -> Int -> Bool} (h : OpR X (compareOp op) (rI0 fun i j => .bl (g i j))) : CmpR X op (.int a) (.int b) (g a b) := fun P P' pins s σ H v u xv yu Q I rx ry ⟨h1, h2, q⟩ => by
  rw [Rep] at h1 h2; subst h1 h2
  exact h pins s σ H _ _ xv yu Q I rx ry ⟨a, b, rfl, rfl, q⟩
theorem lay_tup {l : List D} (h : SeqAt.shaped (D.tup l).py = true) : PyData.canLayAll0 (pyL l) = true := by
  have := SeqAt.canLay_of_shaped h
  rw [D.py] at this
  simpa [PyData.canLay0] using this
theorem mem_tup {x : D} {l : List D} {r : Bool} {o : List Prop} (hu : X.A.units + 70 < cLine) (h : memD x l = .ok r o) (hp : allP o) : CmpR X .In x (.tup l) r /\ CmpR X .In x (.lst l) r /\ CmpR X .NotIn x (.tup l) (!r) /\ CmpR X .NotIn x (.lst l) (!r) := by
  unfold memD at h
  cases h
  . have c := hp.1
    unfold eqOk at c
    rw [Bool.and_eq_true] at c
    have c1 := lay_tup c.1
    have c2 := SeqAt.canLay_of_shaped c.2
    have dx := SeqAt.depth_of_shaped c.2
    have hm : min (PyData.depthAll (pyL l)) x.py.depth <= 64 := Nat.le_trans (Nat.min_le_right _ _) dx
    have ct : (D.tup l).py.canLay0 = true := SeqAt.canLay_of_shaped c.1
    have cl : (D.lst l).py.canLay0 = true := by rw [D.py]; simpa [PyData.canLay0] using c1
    have et : (D.tup l).py = .tuple (pyL l) := by rw [D.py]
    have el : (D.lst l).py = .list (pyL l) := by rw [D.py]
    refine ⟨?_, ?_, ?_, ?_⟩ <;> intro P P' pins s σ H v u xv yu Q I rx ry ⟨h1, h2, q⟩ <;> obtain ⟨as, r1⟩ := reads_of I c2 h1 rx
    . obtain ⟨bs, r2⟩ := reads_of I ct h2 ry
      rw [et] at r2
      exact SeqAt.in_tuple_reads r2 r1 c1 c2 (by omega) ⟨.bl _, H, I, rfl, by rw [any_py]; exact q⟩
    . obtain ⟨bs, r2⟩ := reads_of I cl h2 ry
      rw [el] at r2
      exact SeqAt.in_list_reads r2 r1 c1 c2 (by omega) ⟨.bl _, H, I, rfl, by rw [any_py]; exact q⟩
    . obtain ⟨bs, r2⟩ := reads_of I ct h2 ry
      rw [et] at r2
      exact SeqAt.notIn_tuple_reads r2 r1 c1 c2 (by omega) ⟨.bl _, H, I, rfl, by rw [any_py]; exact q⟩
    . obtain ⟨bs, r2⟩ := reads_of I cl h2 ry
      rw [el] at r2
      exact SeqAt.notIn_list_reads r2 r1 c1 c2 (by omega) ⟨.bl _, H, I, rfl, by rw [any_py]; exact q⟩
theorem nt_inv {r : Rs Bool} {b : Bool} {o : List Prop} (h : r.nt = .ok b o) : r = .ok (!b) o := by
  cases r with
  | st => cases h
  | ok c l => cases h; simp
theorem non_iff {P : AP2} {H : Hp} {x : D} {v : V} (h : Rep X.K H P x v) : decide (v = .non) = x.isNon := by
  cases x with
  | non => rw [Rep] at h; subst h; rfl
  | bl _ => rw [Rep] at h; subst h; rfl
  | int _ => rw [Rep] at h; subst h; rfl
  | str _ => rw [Rep] at h; subst h; rfl
  | dct _ _ => rw [Rep] at h; obtain ⟨_, _, a, _, rfl, _⟩ := h; rfl
  | typ _ => rw [Rep] at h; subst h; rfl
  | sn _ => rw [Rep] at h; obtain ⟨a, _, rfl, _⟩ := h; rfl
  | obj _ _ _ => rw [Rep] at h; obtain ⟨_, _, a, _, _, _, rfl, _⟩ := h; rfl
  | cls _ => rw [Rep] at h; obtain ⟨_, _, rfl, _⟩ := h; rfl
  | tup _ => rw [Rep] at h; obtain ⟨a, _, rfl, _⟩ := h; rfl
  | lst _ => rw [Rep] at h; obtain ⟨a, _, _, rfl, _⟩ := h; rfl
theorem seqOf_eq {d : D} {l : List D} (h : seqOf d = some l) : d = .tup l \/ d = .lst l := by
  unfold seqOf at h
  split at h
  . cases h; exact .inl rfl
  . cases h; exact .inr rfl
  . cases h
theorem cmpI_ok {op : CmpOp} {a b : Int} {r : Bool} (h : cmpI op a b = some r) : CmpR X op (.int a) (.int b) r := by
  unfold cmpI at h
  split at h
  . cases h; exact cmp_int op_lt
  . cases h; exact cmp_int op_le
  . cases h; exact cmp_int op_gt
  . cases h; exact cmp_int op_ge
  . cases h
theorem ord_ok {op : CmpOp} {x y : D} {r : Bool} (hu : X.A.units + 70 < cLine) (h : ordD op x y = some r) : CmpR X op x y r := by
  unfold ordD at h
  split at h
  . exact cmpI_ok h
  . cases h
theorem bb_eq (b c : Bool) : (Value.bool b == Value.bool c) = (b == c) := by cases b <;> cases c <;> rfl
theorem keyD_rep {P : AP2} {H : Hp} {d : D} {k : Key} {v : V} (e : keyD d = some k) (h : Rep X.K H P d v) : v = kV k := by
  cases d <;> first | (cases e; done) | (rw [Rep] at h; subst h; injection e with e; subst e; rfl)
theorem zip_any {ks : List Key} {k : Key} : ∀ {vs : List V}, ks.length = vs.length -> ((ks.zip vs).any fun p => decide (p.1 = k)) = hasK ks k := by
  induction ks with
  | nil => intro vs _; rfl
  | cons j ks ih =>
    intro vs h
    cases vs with
    | nil => cases h
    | cons v vs =>
      show (decide (j = k) || (ks.zip vs).any _) = (decide (j = k) || hasK ks k)
      rw [ih (by simpa using h)]
theorem in_ok {x y : D} {r : Bool} {o : List Prop} (hu : X.A.units + 70 < cLine) (h : inD x y = .ok r o) (hp : allP o) : CmpR X .In x y r /\ CmpR X .NotIn x y (!r) := by
  unfold inD at h
  split at h
  . have m := mem_tup hu h hp; exact ⟨m.1, m.2.2.1⟩
  . have m := mem_tup hu h hp; exact ⟨m.2.1, m.2.2.2⟩
  . rename_i ks ds
    split at h
    . rename_i k e
      cases h
      have key : ∀ {P P' : AP2} {pins : List (Addr × Obj)} {s : Shared} {σ : L2.St} {H : Hp} {v u : V} {xv yu : Value}, Inv X pins σ H s -> RelV v xv -> RelV u yu -> Rep X.K H P x v -> Rep X.K H P' (.dct ks ds) u -> ∃ a vs, yu = .ref a /\ (mixKind X.prog X.w).is k xv = true /\ (a == sysModules) = false /\ s.heap.DictOf (mixKind X.prog X.w) a vs /\ (valueAt vs k).isSome = hasK ks k := fun {P P' pins s σ H v u xv yu} I rx ry h1 h2 => by
        have hk := keyD_rep e h1
        subst hk
        rw [Rep] at h2
        obtain ⟨_, e0, a, vs, rfl, ha, _, rl⟩ := h2
        obtain ⟨z, hd, ws, rel, dd⟩ := (show ObjOk X.prog X.w H s.heap a (.dK (ks.zip vs)) from I.hok a _ ha)
        refine ⟨a, ws, ry, kV_is rx, hd, dd, ?_⟩
        rw [<- (rel.val k).isSome_eq, <- valV_any, zip_any (e0.trans rl.length)]
      refine ⟨?_, ?_⟩ <;> intro P P' pins s σ H v u xv yu Q I rx ry ⟨h1, h2, q⟩ <;> obtain ⟨a, vs, rfl, kk, hd, dd, ev⟩ := key I rx ry h1 h2
      . refine wpAny_in_of kk hd dd.mapOf ?_
        rw [ev]
        exact ⟨.bl _, H, I.tok _, rfl, q⟩
      . refine wpAny_notIn_of kk hd dd.mapOf ?_
        rw [ev]
        exact ⟨.bl _, H, I.tok _, rfl, q⟩
    . cases h
  . rename_i b
    split at h
    . rename_i a
      cases h
      refine ⟨?_, ?_⟩ <;> intro P P' pins s σ H v u xv yu Q I rx ry ⟨h1, h2, q⟩ <;> (rw [Rep] at h1 h2; subst h1 h2; obtain ⟨t, rfl⟩ := rx; obtain ⟨t', rfl⟩ := ry)
      . exact SB.contains ⟨.bl _, H, I, rfl, q⟩
      . exact SB.notContains ⟨.bl _, H, I, rfl, q⟩
    . cases h
  . cases h
theorem cmp_ok {op : CmpOp} {x y : D} {r : Bool} {o : List Prop} (hu : X.A.units + 70 < cLine) (h : cmpD op x y = .ok r o) (hp : allP o) : CmpR X op x y r := by
  unfold cmpD at h
  split at h
  . cases h
    have c := hp.1
    unfold eqOk at c
    rw [Bool.and_eq_true] at c
    intro P P' pins s σ H v u xv yu Q I rx ry ⟨h1, h2, q⟩
    obtain ⟨as, r1⟩ := reads_of I (SeqAt.canLay_of_shaped c.1) h1 rx
    obtain ⟨bs, r2⟩ := reads_of I (SeqAt.canLay_of_shaped c.2) h2 ry
    exact eq_dataH r1 r2 c.1 c.2 (by omega) ⟨.bl _, H, I, rfl, q⟩
  . cases h
    have c := hp.1
    unfold eqOk at c
    rw [Bool.and_eq_true] at c
    intro P P' pins s σ H v u xv yu Q I rx ry ⟨h1, h2, q⟩
    obtain ⟨as, r1⟩ := reads_of I (SeqAt.canLay_of_shaped c.1) h1 rx
    obtain ⟨bs, r2⟩ := reads_of I (SeqAt.canLay_of_shaped c.2) h2 ry
    exact ne_dataH r1 r2 c.1 c.2 (by omega) ⟨.bl _, H, I, rfl, q⟩
  . exact (in_ok hu h hp).1
  . have := (in_ok hu (nt_inv h) hp).2; rw [Bool.not_not] at this; exact this
  . split at h
    . cases h
      intro P P' pins s σ H v u xv yu Q I rx ry ⟨h1, h2, q⟩
      rw [Rep] at h2
      subst h2
      exact op_isN pins s σ H v _ xv yu Q I rx ry ⟨rfl, by rw [non_iff h1]; exact q⟩
    . cases h
  . split at h
    . cases h
      intro P P' pins s σ H v u xv yu Q I rx ry ⟨h1, h2, q⟩
      rw [Rep] at h2
      subst h2
      refine op_notN pins s σ H v _ xv yu Q I rx ry ⟨rfl, ?_⟩
      rw [non_iff h1]
      exact q
    . cases h
  . cases e : ordD op x y with
    | none => rw [e] at h; cases h
    | some b => rw [e] at h; cases h; exact ord_ok hu e
end Sp
set_option Elab.async false
set_option linter.all false
set_option maxRecDepth 100000
namespace Sp
open PySem PySem.Spec PyProof.Rows L2
variable {X : Cx}
theorem kit_own (K : PySem.W.Frag) {t : Value} : PySem.W.kitOne K t t = some true := by unfold PySem.W.kitOne; rw [if_pos (beq_self_eq_true t)]
def D.ty : D -> String
  | .non => "NoneType"
  | .bl _ => "bool"
  | .int _ => "int"
  | .str _ => "str"
  | .dct _ _ => "dict"
  | .tup _ => "tuple"
  | .lst _ => "list"
  | .typ _ => "type"
  | .sn _ => "set"
  | .obj _ _ _ => "object"
  | .cls _ => "type"
def D.plain : D -> Bool
  | .typ _ => false
  | .sn _ => false
  | .obj _ _ _ => false
  | .cls _ => false
  | _ => true
theorem isi_ok {x : D} {c : String} {b : Bool} (hpl : x.plain = true) (e : ∀ K, PySem.W.kitOne K (.type x.ty) (.type c) = some b) {pins : List (Addr × Obj)} {σ : L2.St} {H : Hp} {s : Shared} {v : V} {u : Value} {P : AP2} {Q : Value -> Shared -> Prop} {E : Value -> Shared -> Prop}
    (I : Inv X pins σ H s) (h : Rep X.K H P x v) (r : RelV v u) (q : ∀ tk, Q (.bool b) { s with toks := tk }) : wpAny (model X.prog X.w) X.A (call (.builtin "isinstance") [u, .type c]) Q E s := by
  have e := e X.K
  cases x with
  | non => rw [Rep] at h; subst h; cases (show u = Value.none from r); exact PySem.W.kia_one PySem.W.kitx_none I.kIn True.intro e (fun z => nomatch z) q
  | bl y => rw [Rep] at h; subst h; cases (show u = Value.bool y from r); exact PySem.W.kia_one PySem.W.kitx_bool I.kIn True.intro e (fun z => nomatch z) q
  | int i => rw [Rep] at h; subst h; obtain ⟨t, z⟩ := (show ∃ t, u = Value.int i t from r); cases z; exact PySem.W.kia_one PySem.W.kitx_int I.kIn True.intro e (fun z => nomatch z) q
  | str y => rw [Rep] at h; subst h; obtain ⟨t, z⟩ := (show ∃ t, u = Value.str y t from r); cases z; exact PySem.W.kia_one PySem.W.kitx_str I.kIn True.intro e (fun z => nomatch z) q
  | dct ks ds =>
    rw [Rep] at h
    obtain ⟨_, _, a, vs, rfl, ea, _⟩ := h
    cases (show u = Value.ref a from r)
    obtain ⟨_, _, vs, _, p⟩ := (show ObjOk X.prog X.w H s.heap a (.dK _) from I.hok a _ ea)
    obtain ⟨o, es, ep, h1, h2, _⟩ := p
    exact PySem.W.kia_one PySem.W.kitx_dict I.kIn ⟨o, h1, h2.1⟩ e (fun z => nomatch z) q
  | typ _ => cases hpl
  | sn _ => cases hpl
  | obj _ _ _ => cases hpl
  | cls _ => cases hpl
  | tup l =>
    rw [Rep] at h
    obtain ⟨a, vs, rfl, ea, _⟩ := h
    cases (show u = Value.ref a from r)
    obtain ⟨_, _, ⟨o, h1, h2, _⟩, _⟩ := I.tuple ea
    exact PySem.W.kia_one PySem.W.kitx_tuple I.kIn ⟨o, h1, h2⟩ e (fun z => nomatch z) q
  | lst l =>
    obtain ⟨a, vs, rfl, ea, _⟩ := lists_of (pins := pins) (σ := σ) (s := s) h
    cases (show u = Value.ref a from r)
    obtain ⟨_, _, ⟨o, n, h1, h2, _⟩, _⟩ := I.list ea
    exact PySem.W.kia_one PySem.W.kitx_list I.kIn ⟨o, h1, h2⟩ e (fun z => nomatch z) q
theorem kt (K : PySem.W.Frag) (a b : String) (r : Bool) (h : (a == b) = false) (h2 : PySem.W.kitCls K (.type a) (.type b) = some r) : PySem.W.kitOne K (.type a) (.type b) = some r := by
  unfold PySem.W.kitOne
  rw [if_neg (by
    intro z
    have : a = b := by simpa using z
    subst this
    simp at h)]
  exact h2
theorem kit_tab : ∀ a ∈ ["NoneType", "bool", "int", "str", "dict", "tuple", "list"], ∀ T ∈ tyNames, (a == T) = false -> ∀ K, PySem.W.kitCls K (.type a) (.type T) = some (decide (a = "bool" /\ T = "int")) := by
  intro a ha T hT
  simp only [List.mem_cons, List.not_mem_nil, or_false, tyNames] at ha hT
  rcases ha with rfl | rfl | rfl | rfl | rfl | rfl | rfl <;> rcases hT with rfl | rfl | rfl | rfl | rfl | rfl <;> intro h K <;> first | (exact absurd h (by decide)) | kernel_rfl
theorem isD_ok {x : D} {T : String} {b : Bool} (h : isD x T = some b) (hT : T ∈ tyNames) : x.plain = true /\ ∀ K, PySem.W.kitOne K (.type x.ty) (.type T) = some b := by
  have key : ∀ (a : String), a ∈ ["NoneType", "bool", "int", "str", "dict", "tuple", "list"] -> ∀ K, PySem.W.kitOne K (.type a) (.type T) = some (decide (a = T) || decide (a = "bool" /\ T = "int")) := fun a ha K => by
    by_cases e : a = T
    . subst e; rw [kit_own]; simp
    . have e' : (a == T) = false := by simpa using e
      rw [kt K a T _ e' (kit_tab a ha T hT e' K)]; simp [e]
  unfold isD at h
  cases hx : x.ty0 with
  | none => rw [hx] at h; cases h
  | some a =>
    rw [hx] at h
    cases h
    have hp : x.plain = true /\ x.ty = a /\ a ∈ ["NoneType", "bool", "int", "str", "dict", "tuple", "list"] := by
      cases x <;> cases hx <;> exact ⟨rfl, rfl, by decide⟩
    refine ⟨hp.1, fun K => ?_⟩
    rw [hp.2.1]
    exact key a hp.2.2 K
def CallD (X : Cx) (f : Value) (ds : List D) (z : D) (l : Nat) : Prop :=
  ∃ r : List V -> Hp -> VK -> Prop, CallR X f r /\ ∀ ow H0 H2 vs (P : AP2) (Q : VK), OwIn ow H0 -> Same H0 H2 -> RepL X.K H2 P ds vs -> (∀ w H', Same H2 H' -> Rep X.K H' (Kp ow H0 l) z w -> Q w H') -> r vs H2 Q
theorem RepL.only {K : PySem.W.Frag} {P : AP2} {H : Hp} {d : D} {vs : List V} (h : RepL K H P [d] vs) : ∃ v, vs = [v] /\ Rep K H P d v := by
  rw [RepL] at h
  obtain ⟨v, r, rfl, h1, h2⟩ := h
  rw [RepL] at h2; subst h2
  exact ⟨v, rfl, h1⟩
theorem sq_of {P : AP2} {H : Hp} {l : List D} {v : V} (h : Rep X.K H P (.lst l) v) : ∃ a vs, v = .ref a /\ SqL X.K H a vs /\ RepL X.K H P l vs := by
  rw [Rep] at h
  obtain ⟨a, vs, b, rfl, h, _, q⟩ := h
  exact ⟨a, vs, rfl, h.sq, q⟩
theorem sqt_of {P : AP2} {H : Hp} {l : List D} {v : V} (h : Rep X.K H P (.tup l) v) : ∃ a vs, v = .ref a /\ SqT X.K H a vs /\ RepL X.K H P l vs := by
  rw [Rep] at h; exact h
theorem len_ok {l : List D} : CallD X (.builtin "len") [.tup l] (.int l.length) 0 /\ CallD X (.builtin "len") [.lst l] (.int l.length) 0 := by
  constructor
  . refine ⟨_, call_len_seq, fun ow H0 H2 vs P Q o s rx q => ?_⟩
    obtain ⟨v, rfl, ry⟩ := rx.only
    obtain ⟨a, ws, rfl, hs, rl⟩ := sqt_of ry
    exact ⟨a, ws, rfl, .inr hs, by rw [<- rl.length]; exact q _ _ (Same.refl _) (by rw [Rep])⟩
  . refine ⟨_, call_len_seq, fun ow H0 H2 vs P Q o s rx q => ?_⟩
    obtain ⟨v, rfl, ry⟩ := rx.only
    obtain ⟨a, ws, rfl, hs, rl⟩ := sq_of ry
    exact ⟨a, ws, rfl, .inl hs, by rw [<- rl.length]; exact q _ _ (Same.refl _) (by rw [Rep])⟩
theorem tuple_ok {l : List D} (f : llessL l = true) : CallD X (.type "tuple") [.lst l] (.tup l) 0 /\ CallD X (.type "tuple") [.tup l] (.tup l) 0 := by
  constructor
  . refine ⟨_, call_tuple_of, fun ow H0 H2 vs P Q o s rx q => ?_⟩
    obtain ⟨v, rfl, ry⟩ := rx.only
    obtain ⟨a, ws, rfl, hs, rl⟩ := sq_of ry
    refine ⟨a, ws, rfl, .inl ⟨hs, fun p hp => ?_⟩⟩
    have sm := same_upd (o := HO.tup ws) hp
    refine q _ _ sm ?_
    rw [Rep]
    exact ⟨p, ws, rfl, SqT.of upd_same, (rl.flat _ f).same sm⟩
  . refine ⟨_, call_tuple_of, fun ow H0 H2 vs P Q o s rx q => ?_⟩
    obtain ⟨v, rfl, ry⟩ := rx.only
    obtain ⟨a, ws, rfl, hs, rl⟩ := sqt_of ry
    refine ⟨a, ws, rfl, .inr ⟨hs, q _ _ (Same.refl _) ?_⟩⟩
    rw [Rep]
    exact ⟨a, ws, rfl, hs, rl.flat _ f⟩
theorem abs_ok {i : Int} : CallD X (.builtin "abs") [.int i] (.int (if i < 0 then -i else i)) 0 := by
  refine ⟨_, call_abs, fun ow H0 H2 vs P Q o s rx q => ?_⟩
  obtain ⟨v, rfl, ry⟩ := rx.only
  rw [Rep] at ry; subst ry
  exact ⟨i, rfl, q _ _ (Same.refl _) (by rw [Rep])⟩
theorem RepL.mapBl {K : PySem.W.Frag} {P : AP2} {H : Hp} : ∀ {ns : List Bool} {vs : List V}, RepL K H P (ns.map D.bl) vs -> vs = ns.map V.bl
  | [], vs, h => by rw [List.map_nil, RepL] at h; exact h
  | n :: ns, vs, h => by
    rw [List.map_cons, RepL] at h
    obtain ⟨v, r, rfl, h1, h2⟩ := h
    rw [Rep] at h1
    rw [h1, RepL.mapBl h2]; rfl
theorem vals_bl : ∀ {bs : List Bool} {us : List Value}, Vals (bs.map V.bl) us -> us = bs.map Value.bool
  | [], us, h => by cases h; rfl
  | b :: bs, us, h => by
    cases h with
    | cons h1 h2 => rw [show _ = Value.bool b from h1, vals_bl h2]; rfl
theorem vals_int : ∀ {ns : List Int} {us : List Value}, Vals (ns.map V.int) us -> (∀ v, v ∈ us -> ∃ a t, v = Value.int a t) /\ numsOf us = ns
  | [], us, h => by cases h; exact ⟨fun _ h => (by cases h), rfl⟩
  | n :: ns, us, h => by
    cases h with
    | cons h1 h2 =>
      obtain ⟨t, rfl⟩ := (show ∃ t, _ = Value.int n t from h1)
      obtain ⟨i1, i2⟩ := vals_int h2
      refine ⟨fun v hv => ?_, by simp only [numsOf]; rw [i2]⟩
      rcases List.mem_cons.mp hv with rfl | hv
      . exact ⟨_, _, rfl⟩
      . exact i1 v hv
theorem call_sumL (hc : X.calm = true) : CallR X (.builtin "sum") (fun xs H Q => ∃ (p : Addr) (ns : List Int), xs = [.ref p] /\ SqL X.K H p (ns.map V.int) /\ Q (.int ns.sum) H) := by
  intro pins s σ H xs us Q I r h
  obtain ⟨p, ns, rfl, hq, q⟩ := h
  obtain ⟨u, rfl, rx⟩ := vals1 r
  cases rx
  obtain ⟨its, rv, pl, hz⟩ := I.list hq
  obtain ⟨hall, hnum⟩ := vals_int rv
  obtain ⟨xs, e⟩ := AllInts.items (vs := its.toArray) (fun v hv => hall v (by simpa using hv))
  have hl := pl.isList
  rw [e] at hl
  refine sum_intListG (I.ok.hd hc) hl fun h' tk t' hk => ?_
  refine ⟨.int ns.sum, H, I.kept hk, ⟨t', ?_⟩, q⟩
  congr 1
  rw [preSum_eq, List.take_of_length_le (by simp), <- nums_intItems, <- e]
  simp [hnum]
theorem call_allL (hc : X.calm = true) : CallR X (.builtin "all") (fun xs H Q => ∃ (p : Addr) (bs : List Bool), xs = [.ref p] /\ SqL X.K H p (bs.map V.bl) /\ Q (.bl (bs.all id)) H) := by
  intro pins s σ H xs us Q I r h
  obtain ⟨p, bs, rfl, hq, q⟩ := h
  obtain ⟨u, rfl, rx⟩ := vals1 r
  cases rx
  obtain ⟨its, rv, pl, hz⟩ := I.list hq
  have ei := vals_bl rv
  subst ei
  have hl := pl.isList
  have hlt : p < s.heap.objs.size := by obtain ⟨_, e, _⟩ := hl; exact Heap.lt_size e
  refine call_all_walk (wpAny_pyIter_list hl ?_)
  refine ⟨_, _, _, _, _, _, fun i => bs.getD i true, rfl, Walks.list (A := X.A.in1) (by exact I.ok.hd hc) _ p (Nat.ne_of_lt hlt) (bs.map Value.bool).toArray, ⟨⟨_, Heap.get?_push_size _ rfl, rfl, rfl⟩, hl.push _⟩, ?_, fun h' tk hk => ?_⟩
  . intro i v s' Q' E' hP hQ
    have hP : ((bs.map Value.bool).toArray)[i]? = some v := hP
    simp only [List.getElem?_toArray, List.getElem?_map] at hP
    cases e : bs[i]? with
    | none => rw [e] at hP; cases hP
    | some b =>
      rw [e] at hP; cases hP
      refine wpAny_truthy_bool ?_
      have : bs.getD i true = b := by rw [List.getD_eq_getElem?_getD, e]; rfl
      rw [<- this]; exact hQ
  . have : ((List.range (bs.map Value.bool).toArray.size).all fun i => bs.getD i true) = bs.all id := by
      simp only [List.size_toArray, List.length_map]
      rw [Bool.eq_iff_iff, List.all_eq_true, List.all_eq_true]
      constructor
      . intro h x hx
        obtain ⟨i, hi, rfl⟩ := List.mem_iff_getElem.mp hx
        have := h i (List.mem_range.mpr hi)
        rw [List.getD_eq_getElem?_getD, List.getElem?_eq_getElem hi] at this
        exact this
      . intro h i hi
        have hi := List.mem_range.mp hi
        rw [List.getD_eq_getElem?_getD, List.getElem?_eq_getElem hi]
        exact h _ (List.getElem_mem hi)
    rw [this]
    refine ⟨.bl _, H, I.kept (fun b o e => hk b o (fun hm => ?_) (Heap.get?_push_of_some _ e)), rfl, q⟩
    have hb : b = s.heap.objs.size := by simpa using hm
    subst hb
    exact absurd (Heap.lt_size e) (Nat.lt_irrefl _)
theorem call_lenS : CallR X (.builtin "len") (fun xs H Q => ∃ (p : Addr) (S : Int -> Bool) (n : Nat), xs = [.ref p] /\ H p = some (.set S n) /\ Q (.int n) H) := by
  intro pins s σ H xs us Q I r h
  obtain ⟨p, S, n, rfl, hp, q⟩ := h
  obtain ⟨u, rfl, rx⟩ := vals1 r
  cases rx
  obtain ⟨o, es, ep, t, h1, h2, h3, _, _, h4, h5, rfl⟩ := (show s.heap.SetOf (intKind X.prog X.w) p S n from I.hok p _ hp)
  exact call_len_set h1 h2 h3 h5 (by unfold scanBound at h4; omega) ⟨.int _, H, I.tok _, ⟨_, rfl⟩, q⟩
def BltOk (f : Str) (B : List D -> R1) : Prop := f ∈ bnames /\ f ≠ "__name__" /\ (f == ("__debug__" : Str)) = false /\ (B [] = .st) /\ ∀ (X : Cx) (ds : List D) (z : D) (l : Nat) (o : List Prop), X.calm = true -> B ds = .ok (z, l) o -> allP o ->
  ((∃ id, bootBuiltins f = some (.builtin id) /\ CallD X (.builtin id) ds z l) \/ ∃ T, bootBuiltins f = some (.type T) /\ CallD X (.type T) ds z l)
theorem bLen_ok : BltOk "len" bLen := by
  refine ⟨by decide +kernel, by decide +kernel, by decide +kernel, rfl, fun X ds z l o hc h _ => .inl ⟨"len", by decide +kernel, ?_⟩⟩
  unfold bLen at h
  split at h
  . cases h
    refine ⟨_, call_lenS, fun ow H0 H2 vs P Q o s rx q => ?_⟩
    obtain ⟨v, rfl, ry⟩ := rx.only
    rw [Rep] at ry
    obtain ⟨a, S, rfl, ha⟩ := ry
    exact ⟨a, S, _, rfl, ha, q _ _ (Same.refl _) (by rw [Rep])⟩
  . split at h
    . rename_i m e
      cases h
      rcases seqOf_eq e with rfl | rfl
      . exact len_ok.1
      . exact len_ok.2
    . cases h
  . cases h
theorem bTuple_ok : BltOk "tuple" bTuple := by
  refine ⟨by decide +kernel, by decide +kernel, by decide +kernel, rfl, fun X ds z l o hc h hp => .inr ⟨"tuple", by decide +kernel, ?_⟩⟩
  unfold bTuple at h
  split at h
  . split at h
    . rename_i m e
      cases h
      have c := hp.1
      rcases seqOf_eq e with rfl | rfl
      . exact (tuple_ok c).2
      . exact (tuple_ok c).1
    . cases h
  . cases h
theorem bAbs_ok : BltOk "abs" bAbs := by
  refine ⟨by decide +kernel, by decide +kernel, by decide +kernel, rfl, fun X ds z l o hc h _ => .inl ⟨"abs", by decide +kernel, ?_⟩⟩
  unfold bAbs at h
  split at h
  . cases h; exact abs_ok
  . cases h
theorem bAll_ok : BltOk "all" bAll := by
  refine ⟨by decide +kernel, by decide +kernel, by decide +kernel, rfl, fun X ds z l o hc h _ => .inl ⟨"all", by decide +kernel, ?_⟩⟩
  unfold bAll at h
  split at h
  . split at h
    . rename_i bs e
      cases h
      cases boolsOf_eq e
      refine ⟨_, call_allL hc, fun ow H0 H2 vs P Q o s rx q => ?_⟩
      obtain ⟨v, rfl, ry⟩ := rx.only
      obtain ⟨a, ws, rfl, hs, rl⟩ := sq_of ry
      exact ⟨a, bs, rfl, by rw [<- rl.mapBl]; exact hs, q _ _ (Same.refl _) (by rw [Rep])⟩
    . cases h
  . cases h
theorem bSum_ok : BltOk "sum" bSum := by
  refine ⟨by decide +kernel, by decide +kernel, by decide +kernel, rfl, fun X ds z l o hc h _ => .inl ⟨"sum", by decide +kernel, ?_⟩⟩
  unfold bSum at h
  split at h
  . split at h
    . rename_i bs e
      cases h
      cases intsOf_eq e
      refine ⟨_, call_sumL hc, fun ow H0 H2 vs P Q o s rx q => ?_⟩
      obtain ⟨v, rfl, ry⟩ := rx.only
      obtain ⟨a, ws, rfl, hs, rl⟩ := sq_of ry
      exact ⟨a, bs, rfl, by rw [<- rl.mapInt]; exact hs, q _ _ (Same.refl _) (by rw [Rep])⟩
    . cases h
  . cases h
theorem bIsi_ok : BltOk "isinstance" bIsi := by
  refine ⟨by decide +kernel, by decide +kernel, by decide +kernel, rfl, fun X ds z l o hc h _ => .inl ⟨"isinstance", by decide +kernel, ?_⟩⟩
  unfold bIsi at h
  split at h
  . rename_i m ns es n
    split at h
    . rename_i hmn
      subst hmn
      cases h
      have cr : CallR X (.builtin "isinstance") (fun xs H Q => ∃ a C dx fs, xs = [.ref a, .ref C] /\ H a = some (.ins C dx fs) /\ Cls X.K C /\ IsiOk X.K C /\ Q (.bl true) H) := by
        intro pins s σ H xs us Q I r hh
        obtain ⟨a, C, dx, fs, rfl, ea, hc, ho, q⟩ := hh
        obtain ⟨u, u2, rfl, ru, ru2⟩ := vals2 r
        cases (show u2 = Value.ref C from ru2)
        exact isinst_ok I ru (.ins ea hc ho.ha ho.hn ho.ht ho.hm) (kit_own _) fun tk => ⟨.bl true, H, I.tok tk, rfl, q⟩
      refine ⟨_, cr, fun ow H0 H2 vs P Q o s rx q => ?_⟩
      rw [RepL] at rx
      obtain ⟨v, r, rfl, r1, r2⟩ := rx
      obtain ⟨w, rfl, r3⟩ := r2.only
      rw [Rep] at r1
      rw [Rep] at r3
      obtain ⟨_, _, a, C, dx, vs, rfl, h1, h2, h3, _⟩ := r1
      obtain ⟨C', o', rfl, h4, _, _, h5, _⟩ := r3
      rw [h1] at h4; cases h4
      exact ⟨a, C, dx, _, rfl, h3, h2, h5, q _ _ (Same.refl _) (by rw [Rep])⟩
    . split at h
      . rename_i hmn
        cases h
        have cr : CallR X (.builtin "isinstance") (fun xs H Q => ∃ a C C' dx fs, xs = [.ref a, .ref C'] /\ H a = some (.ins C dx fs) /\ Cls X.K C /\ IsiOk X.K C /\ PySem.W.kitOne X.K (.ref C) (.ref C') = some (subc m n) /\ Q (.bl (subc m n)) H) := by
          intro pins s σ H xs us Q I r hh
          obtain ⟨a, C, C', dx, fs, rfl, ea, hc, ho, hk, q⟩ := hh
          obtain ⟨u, u2, rfl, ru, ru2⟩ := vals2 r
          cases (show u2 = Value.ref C' from ru2)
          exact isinst_ok I ru (.ins ea hc ho.ha ho.hn ho.ht ho.hm) hk fun tk => ⟨.bl (subc m n), H, I.tok tk, rfl, q⟩
        refine ⟨_, cr, fun ow H0 H2 vs P Q o s rx q => ?_⟩
        rw [RepL] at rx
        obtain ⟨v, r, rfl, r1, r2⟩ := rx
        obtain ⟨w, rfl, r3⟩ := r2.only
        rw [Rep] at r1
        rw [Rep] at r3
        obtain ⟨_, _, a, C, dx, vs, rfl, h1, h2, h3, _⟩ := r1
        obtain ⟨C', o', rfl, _, _, _, _, h5⟩ := r3
        obtain ⟨h6, h7⟩ := h5.all m hmn C h1
        exact ⟨a, C, C', dx, _, rfl, h3, h2, h6, h7, q _ _ (Same.refl _) (by rw [Rep])⟩
      . cases h
  . rename_i x T
    split at h
    . rename_i hT
      split at h
      . rename_i b hb
        cases h
        obtain ⟨h1, h2⟩ := isD_ok hb hT
        have cr : CallR X (.builtin "isinstance") (fun xs H Q => ∃ v P, xs = [v, .ty T] /\ Rep X.K H P x v /\ Q (.bl b) H) := by
          intro pins s σ H xs us Q I r hh
          obtain ⟨v, P, rfl, rp, q⟩ := hh
          obtain ⟨u, u2, rfl, ru, ru2⟩ := vals2 r
          cases (show u2 = Value.type T from ru2)
          exact isi_ok h1 h2 I rp ru fun tk => ⟨.bl b, H, I.tok tk, rfl, q⟩
        refine ⟨_, cr, fun ow H0 H2 vs P Q o s rx q => ?_⟩
        rw [RepL] at rx
        obtain ⟨v, r, rfl, r1, r2⟩ := rx
        obtain ⟨w, rfl, r3⟩ := r2.only
        rw [Rep] at r3; subst r3
        exact ⟨v, P, rfl, r1, q _ _ (Same.refl _) (by rw [Rep])⟩
      . cases h
    . cases h
  . cases h
end Sp
set_option Elab.async false
set_option linter.all false
set_option maxRecDepth 100000
namespace Sp
open PySem PySem.Spec PyProof.Rows L2
def spD (K : PySem.W.Frag) (F : List D -> Rs D) : Sp := fun vs H Q _ => ∃ ds r l, RepL K H (fun _ _ => True) ds vs /\ F ds = .ok r l /\ allP l /\ ∀ v H', Same H H' -> Rep K H' (fun a b => b = true /\ H a = none) r v -> Q v H'
def FnAt0 (X : Cx) (g : Str) (F : List D -> Rs D) : Prop := ∃ k f fd ps, FnOk X.prog X.w X.K X.mg X.base CX0 k f fd ps (spD X.K F) /\ Room k X.A /\ X.mg g = some (.ref f) /\ PySem.W.keepIn X.K (.ref f) = true /\ Binds X.K fd ps [] /\ (g == ("__debug__" : Str)) = false
def spI (K : PySem.W.Frag) (n : Str) (F : List D -> Rs D) : Sp := fun vs H Q _ => ∃ x ws C dx ds r l, vs = .ref x :: ws /\ H x = some (.ins C dx []) /\ PySem.W.nsIn K mainGlobals n = some (some (.ref C)) /\ Cls K C /\ RepL K H (fun _ _ => True) ds ws /\ F ds = .ok r l /\ allP l /\ r.lless = true /\
  ∀ H', (∀ a o, a ≠ x -> H a = some o -> H' a = some o) -> Rep K H' (fun _ _ => True) r (.ref x) -> Q .non H'
def MkAt (X : Cx) (g : Str) (F : List D -> Rs D) : Prop := ∃ k C f fd ps, (∀ ds r l, F ds = .ok r l -> r.lless = true) /\ Mk X.K C f /\ FnOk X.prog X.w X.K X.mg X.base CX0 k f fd ps (spI X.K g F) /\ Room (k + 1) X.A /\ X.mg g = some (.ref C) /\ PySem.W.nsIn X.K mainGlobals g = some (some (.ref C)) /\ Cls X.K C /\ Binds X.K fd ps [] /\ (g == ("__debug__" : Str)) = false
def FnAt (X : Cx) (g : Str) (F : List D -> Rs D) : Prop := FnAt0 X g F \/ MkAt X g F
def MethAt (X : Cx) (n m : Str) (F : List D -> Rs D) : Prop := ∃ k C f fd ps, PySem.W.nsIn X.K mainGlobals n = some (some (.ref C)) /\ Cls X.K C /\ Meth X.K C m f /\ FnOk X.prog X.w X.K X.mg X.base CX0 k f fd ps (spD X.K F) /\ Room k X.A /\ Binds X.K fd ps []
def ItrOk (f : Str) (B : List D -> Nat -> R1) : Prop := f ∈ bnames /\ ∀ (X : Cx) (ρ : Rho) (p pos : Pos) (args : List Expr) (ds : List D) (k : Nat) (d : D) (j : Nat) (l : List D) (tg : Expr) (o : List Prop), X.calm = true -> Gl X f -> X.mg f = none -> AD X ρ args ds k ->
  (∀ e ∈ args, ∀ x p, e ≠ .Starred x p) -> args.length = ds.length -> B ds k = .ok (d, j) o -> allP o -> items d = some l -> tgOk (.Call (.Name f p) args [] pos) tg = true -> IE X ρ tg (.Call (.Name f p) args [] pos) l j
def MthOk (m : Str) (M : D -> List D -> R1) : Prop := ∀ (X : Cx) (ρ : Rho) (a : Expr) (args : List Expr) (ap cp : Pos) (x : D) (k : Nat) (ds : List D) (j : Nat) (z : D) (l : Nat) (o : List Prop), X.calm = true -> X.A.units + 70 < cLine -> ED X ρ a x k -> AD X ρ args ds j ->
  (∀ e ∈ args, ∀ x p, e ≠ .Starred x p) -> args.length = ds.length -> (ap.endLine == cp.line) = true -> baseOk a = true -> M x ds = .ok (z, l) o -> allP o -> ED X ρ (.Call (.Attribute a m ap) args [] cp) z l
def MutOk (m : Str) (M : List D -> List D -> Nat -> Rs (List D)) : Prop := ∀ X : Cx, X.calm = true -> ∃ (id : String) (r : V -> List V -> Hp -> VK -> Prop), Slot "list" m id /\ typeOf (.builtin id) = pure (.type "method_descriptor") /\ MtM X id r /\
  ∀ (ow : Ow) (H0 H : Hp) (l ds l' : List D) (j : Nat) (o : List Prop) (a : Addr) (vs ws : List V), M l ds j = .ok l' o -> allP o -> ds.length < 29 /\ (∀ (P : AP2) (Q : VK), (∀ b c, Kp ow H0 0 b c -> P b c) -> OwIn ow H0 -> Same H0 H -> H a = some (.lst vs) -> RepL X.K H P l vs -> RepL X.K H (Kp ow H0 j) ds ws ->
    (∀ vs' w, RepL X.K H P l' vs' -> Q w (upd H a (.lst vs'))) -> r (.ref a) ws H Q)
def tOD (X : Cx) (ow : Ow) (ρ : Rho) (o : Option Int) : TO := fun σ H Q => EnvOk X ow H σ ρ /\ ∀ H', Same H H' -> Q o H'
def OD (X : Cx) (ρ : Rho) (e : Option Expr) (o : Option Int) : Prop := ∀ ow, PO X e (tOD X ow ρ o)
def SlfOk (F : D -> Option Int -> Option Int -> R1) : Prop := ∀ (X : Cx) (ρ : Rho) (a : Expr) (lo hi : Option Expr) (p2 pos : Pos) (x z : D) (l h : Option Int) (k j : Nat) (o : List Prop), ED X ρ a x k -> OD X ρ lo l -> OD X ρ hi h -> F x l h = .ok (z, j) o -> allP o -> ED X ρ (.Subscript a (.Slice lo hi none p2) pos) z j
structure Good (Φ : Fx) (X : Cx) (sc : Scope) : Prop where
  calm : X.calm = true
  nd : X.N.Nodup
  gl : ∀ x, sc.names.lookup x = some .globalImplicit -> Gl X x
  kc : ∀ x, (sc.names.lookup x = some .cell \/ sc.names.lookup x = some .free) -> X.env.kindOf x = some .cell \/ X.env.kindOf x = some .free
  lc : ∀ x, sc.names.lookup x = some .local -> X.env.scope.names.lookup x = some .local
  cc : ∀ x, sc.names.lookup x = some .cell -> X.env.scope.names.lookup x = some .cell
  fn : ∀ g F, Φ.fn g = some F -> FnAt X g F
  con : ∀ x d, Φ.con x = some d -> ∃ v u, X.mg x = some u /\ RelV v u /\ ∀ H P, Rep X.K H P d v
  blt : ∀ f B, Φ.blt f = some B -> BltOk f B
  itr : ∀ f B, Φ.itr f = some B -> ItrOk f B
  mth : ∀ m M, Φ.mth m = some M -> MthOk m M
  mtt : ∀ m M, Φ.mtt m = some M -> MutOk m M
  slf : SlfOk Φ.slf
  fld : ∀ n f, Φ.fld n f = true -> ∀ C, PySem.W.nsIn X.K mainGlobals n = some (some (.ref C)) -> NoAttr X.K C f
  omt : ∀ n m F, Φ.omt n m = some F -> MethAt X n m F
  bl : ∀ f ∈ bnames, X.mg f = none
  room : X.A.units + 70 < cLine
  ns : ∀ x, locK sc x = true -> x ∈ X.N
  ft : ∀ x, sc.names.lookup x = some .cell -> X.fn x = true
variable {X : Cx}
theorem okN_of {x : Str} (h : okN x = true) : (x == ("__debug__" : Str)) = false /\ (x == ("__classdict__" : Str)) = false := by
  unfold okN at h
  rw [Bool.and_eq_true] at h
  exact ⟨of_decide_eq_true h.1, of_decide_eq_true h.2⟩
theorem ed_name {ρ : Rho} {x : Str} {pos : Pos} {d : D} {o : Bool} (h : ρ x = some (d, o)) (hx : okN x = true) : ED X ρ (.Name x pos) d (kn d (cond o 2 1)) := by
  refine ED.kn fun ow pins s σ H Q I ⟨E, q⟩ => ?_
  obtain ⟨i, v, e1, e2, e3, e4⟩ := E.get x d o h
  refine pe_var (i := i) e1 e2 (okN_of hx).1 (okN_of hx).2 pins s σ H Q I ⟨v, e3, q v H (Same.refl _) (e4.imp fun a b p => ?_)⟩
  cases o with
  | true => exact ⟨p.1, .inl (by rw [p.2]; exact (fun z => nomatch z))⟩
  | false => exact p
theorem ed_con {Φ : Fx} {sc : Scope} {ρ : Rho} {x : Str} {pos : Pos} {d : D} (G : Good Φ X sc) (h : Φ.con x = some d) (hg : sc.names.lookup x = some .globalImplicit) (hx : okN x = true) : ED X ρ (.Name x pos) d 0 := by
  obtain ⟨v, u, h1, h2, h3⟩ := G.con x d h
  exact fun ow => PEimp (pe_glob (G.gl x hg) h1 h2 (okN_of hx).1) fun σ H Q ⟨E, q⟩ => q v H (Same.refl _) (h3 H _)
theorem tyOf_ok {x : Str} {T : String} (h : tyOf x = some T) : bootBuiltins x = some (.type T) /\ x ≠ "__name__" /\ (x == ("__debug__" : Str)) = false /\ x ∈ bnames := by
  unfold tyOf at h
  split at h
  . rename_i e; subst e; cases h; exact ⟨by decide +kernel, by decide +kernel, by decide +kernel, by decide +kernel⟩
  split at h
  . rename_i e; subst e; cases h; exact ⟨by decide +kernel, by decide +kernel, by decide +kernel, by decide +kernel⟩
  split at h
  . rename_i e; subst e; cases h; exact ⟨by decide +kernel, by decide +kernel, by decide +kernel, by decide +kernel⟩
  split at h
  . rename_i e; subst e; cases h; exact ⟨by decide +kernel, by decide +kernel, by decide +kernel, by decide +kernel⟩
  split at h
  . rename_i e; subst e; cases h; exact ⟨by decide +kernel, by decide +kernel, by decide +kernel, by decide +kernel⟩
  . cases h
theorem ed_typ {Φ : Fx} {sc : Scope} {ρ : Rho} {x : Str} {pos : Pos} {T : String} (G : Good Φ X sc) (h : tyOf x = some T) (hg : sc.names.lookup x = some .globalImplicit) : ED X ρ (.Name x pos) (.typ T) 0 := by
  obtain ⟨h1, h2, h3, h4⟩ := tyOf_ok h
  exact fun ow => PEimp (pe_bltn (v := .ty T) (G.gl x hg) (G.bl x h4) h1 rfl h2 h3) fun σ H Q ⟨E, q⟩ => q _ H (Same.refl _) (by rw [Rep])
theorem ed_cst {ρ : Rho} {c : Const} {n : Nat} {pos : Pos} {d : D} (h : cst c = some d) : ED X ρ (.Constant c n pos) d 0 := by
  intro ow
  unfold cst at h
  split at h
  . cases h; exact PEimp pe_non fun σ H Q ⟨E, q⟩ => q _ H (Same.refl _) (by rw [Rep])
  . cases h; exact PEimp pe_bl fun σ H Q ⟨E, q⟩ => q _ H (Same.refl _) (by rw [Rep])
  . cases h; exact PEimp pe_int fun σ H Q ⟨E, q⟩ => q _ H (Same.refl _) (by rw [Rep])
  . cases h; exact PEimp pe_str fun σ H Q ⟨E, q⟩ => q _ H (Same.refl _) (by rw [Rep])
  . cases h
theorem ed_bin {ρ : Rho} {a b : Expr} {op : Operator} {pos : Pos} {x y z : D} {k j l : Nat} (ha : ED X ρ a x k) (hb : ED X ρ b y j) {o : List Prop} (h : binD op x y k j = .ok (z, l) o) (hp : allP o) : ED X ρ (.BinOp a op b pos) z l := by
  obtain ⟨r, h1, h2⟩ := bin_ok (X := X) h hp
  refine fun ow => PEimp (pe_op h1 (ha ow) (hb ow)) fun σ H Q ⟨E, q⟩ => ⟨E, fun v H1 s1 r1 => ⟨E.same s1, fun u H2 s2 r2 => ?_⟩⟩
  exact h2 ow H H2 v u Q E.own (s1.trans s2) (r1.same s2) (r2.imp (Kp.back s1 j)) fun w H' s3 r3 => q w H' ((s1.trans s2).trans s3) r3
theorem ed_un {ρ : Rho} {a : Expr} {op : UnaryOp} {pos : Pos} {x z : D} {k : Nat} (ha : ED X ρ a x k) (h : unD op x = some z) : ED X ρ (.UnaryOp op a pos) z 0 := by
  unfold unD at h
  split at h
  . cases h
    refine fun ow => PEimp (pe_un un_neg (ha ow)) fun σ H Q ⟨E, q⟩ => ⟨E, fun v H1 s1 r1 => ?_⟩
    rw [Rep] at r1; subst r1
    exact ⟨_, rfl, q _ H1 s1 (by rw [Rep])⟩
  . cases h
    refine fun ow => PEimp (pe_not (ha ow)) fun σ H Q ⟨E, q⟩ => ⟨E, fun v H1 s1 r1 => ?_⟩
    rw [Rep] at r1; subst r1
    exact ⟨_, rfl, q _ H1 s1 (by rw [Rep])⟩
  . cases h
theorem ed_cmp {ρ : Rho} {a b : Expr} {op : CmpOp} {pos : Pos} {x y : D} {r : Bool} {k j : Nat} (hu : X.A.units + 70 < cLine) {o : List Prop} (ha : ED X ρ a x k) (hb : ED X ρ b y j) (h : cmpD op x y = .ok r o) (hp : allP o) (hm : behindInMarks op b = false) : ED X ρ (.Compare a [op] [b] pos) (.bl r) 0 := by
  have c := cmp_ok hu h hp
  intro ow pins s σ H Q I ⟨E, q⟩
  refine wpAny_Compare1 (bin (ha ow) (hb ow) I (R := fun v u H2 => Same H H2 /\ Rep X.K H2 (fun _ _ => True) x v /\ Rep X.K H2 (fun _ _ => True) y u) ⟨E, fun v H1 s1 r1 => ⟨E.same s1, fun u H2 s2 r2 => ⟨s1.trans s2, (r1.imp fun _ _ _ => True.intro).same s2, r2.imp fun _ _ _ => True.intro⟩⟩⟩ fun v u s2 x y H2 I2 rx ry ⟨sm, r1, r2⟩ => ?_) hm
  exact c _ _ pins s2 σ H2 x y v u Q I2 rx ry ⟨r1, r2, q _ H2 sm (by rw [Rep])⟩
theorem chD_inv {op op2 : CmpOp} {x y z : D} {r : D × Nat} {l : List Prop} (h : chD op op2 x y z = .ok r l) : ∃ a b c r1 r2, x = .int a /\ y = .int b /\ z = .int c /\ cmpI op a b = some r1 /\ cmpI op2 b c = some r2 /\ r = (.bl (r1 && r2), 0) := by
  unfold chD at h
  split at h
  . split at h
    . rename_i h1 h2; cases h; exact ⟨_, _, _, _, _, rfl, rfl, rfl, h1, h2, rfl⟩
    . cases h
  . cases h
theorem cmpI_D {op : CmpOp} {a b : Int} {r : Bool} (h : cmpI op a b = some r) : cmpD op (.int a) (.int b) = .ok r [] := by
  unfold cmpI at h
  split at h <;> first | (cases h; rfl) | cases h
theorem ed_chain {ρ : Rho} {a b c : Expr} {op op2 : CmpOp} {pos : Pos} {x y z : Int} {r r2 : Bool} {k j i : Nat} (hu : X.A.units + 70 < cLine) (ha : ED X ρ a (.int x) k) (hb : ED X ρ b (.int y) j) (hc : ED X ρ c (.int z) i) (h : cmpI op x y = some r) (h2 : cmpI op2 y z = some r2) (hm : behindInMarks op2 c = false) : ED X ρ (.Compare a [op, op2] [b, c] pos) (.bl (r && r2)) 0 := by
  have c1 := cmp_ok (X := X) hu (cmpI_D h) (show allP [] from True.intro)
  have c2 := cmp_ok (X := X) hu (cmpI_D h2) (show allP [] from True.intro)
  refine fun ow => PEimp (pe_chain (c1 (fun _ _ => True) (fun _ _ => True)) (c2 (fun _ _ => True) (fun _ _ => True)) (ha ow) (hb ow) (hc ow) hm) fun σ H Q ⟨E, q⟩ => ⟨E, fun v H1 s1 r1 => ⟨E.same s1, fun u H2 s2 r2 => ?_⟩⟩
  rw [Rep] at r1 r2
  subst r1 r2
  refine ⟨by rw [Rep], by rw [Rep], r, rfl, ?_⟩
  cases r with
  | false => exact q _ H2 (s1.trans s2) (by rw [Rep]; rfl)
  | true =>
    rw [if_pos rfl]
    refine ⟨(E.same s1).same s2, fun w H3 s3 r3 => ?_⟩
    rw [Rep] at r3
    subst r3
    exact ⟨by rw [Rep], by rw [Rep], q _ H3 ((s1.trans s2).trans s3) (by rw [Rep]; rfl)⟩
theorem td_ed {ρ : Rho} {e : Expr} {b : Bool} {k : Nat} (h : ED X ρ e (.bl b) k) (he : ∀ whole, isTrue e X.env whole = (do let v <- whole; standAt e.pos; holding [v] (truthy v))) : TD X ρ e b :=
  fun ow => PTimp (pt_val (h ow) he) fun σ H Q ⟨E, q⟩ => ⟨E, fun v H1 s1 r1 => by rw [Rep] at r1; exact ⟨b, r1, q H1 s1⟩⟩
theorem ad_nil {ρ : Rho} : AD X ρ [] [] 0 := fun ow => PAimp pa_nil fun σ H Q ⟨E, q⟩ => q [] H (Same.refl _) RepL.nil
theorem ad_cons {ρ : Rho} {e : Expr} {es : List Expr} {d : D} {ds : List D} {k j : Nat} (h1 : ED X ρ e d k) (h2 : AD X ρ es ds j) (hs : starEach (e :: es) X.env = (false, eval e X.env) :: starEach es X.env) : AD X ρ (e :: es) (d :: ds) (kj k j) :=
  fun ow => PAimp (pa_cons (h1 ow) (h2 ow) hs) fun σ H Q ⟨E, q⟩ => ⟨E, fun v H1 s1 r1 => ⟨E.same s1, fun vs H2 s2 r2 => q _ H2 (s1.trans s2) (RepL.cons ((r1.imp (Kp.joinL E.own k j)).same s2) (r2.imp fun a b p => Kp.joinR E.own k j a b (Kp.back s1 j a b p)))⟩⟩
theorem ed_tuple {ρ : Rho} {es : List Expr} {n : Nat} {pos : Pos} {ds : List D} {k : Nat} (h : AD X ρ es ds k) (hl : ds.length <= many) : ED X ρ (.Tuple es n pos) (.tup ds) (kn (.tup ds) k) := by
  refine ED.kn fun ow => PEimp (pe_tup (h ow)) fun σ H Q ⟨E, q⟩ => ⟨E, fun vs H1 s1 r1 => ⟨by rw [<- r1.length]; exact Nat.le_trans hl manyLine, fun p hp => ?_⟩⟩
  have sm := same_upd (o := HO.tup vs) hp
  refine q _ _ (s1.trans sm) ?_
  rw [Rep]
  exact ⟨p, vs, rfl, SqT.of upd_same, r1.same sm⟩
theorem ed_emp {ρ : Rho} {pos : Pos} : ED X ρ (.Dict [] [] pos) (.dct [] []) 0 := by
  intro ow pins s σ H Q I ⟨E, q⟩
  refine wpAny_Dict_empty ⟨.ref s.heap.objs.size, _, I.laid (t' := s.toks) (o := .dK []) (fun b ob q => Heap.get?_push_of_some _ q) (Nat.le_refl _) ?_, rfl, q _ _ (same_upd (I.hok.fresh (Nat.le_refl _))) ?_⟩
  . exact ⟨Nat.zero_le _, beq_eq_false_iff_ne.mpr (Nat.ne_of_gt (modules_low I.nolimit)), [], .nil, Heap.DictOf.new _⟩
  . rw [Rep]; exact ⟨rfl, rfl, _, [], rfl, upd_same, ⟨rfl, I.hok.fresh (Nat.le_refl _)⟩, RepL.nil⟩
theorem ed_list {ρ : Rho} {es : List Expr} {pos : Pos} {ds : List D} {k : Nat} (h : AD X ρ es ds k) (hk : k <= 1) (hl : ds.length <= many) : ED X ρ (.List es pos) (.lst ds) k := by
  refine fun ow => PEimp (pe_lst (h ow)) fun σ H Q ⟨E, q⟩ => ⟨E, fun vs H1 s1 r1 => ⟨by rw [<- r1.length]; exact Nat.le_trans hl manyLine, fun p hp => ?_⟩⟩
  have sm := same_upd (o := HO.lst vs) hp
  refine q _ _ (s1.trans sm) ?_
  rw [Rep]
  exact ⟨p, vs, true, rfl, upd_same, kp_new E.own (s1.free hp) hk, r1.same sm⟩
theorem ed_if {ρ : Rho} {c a b : Expr} {pos : Pos} {t : Bool} {d : D} {k : Nat} (hc : TD X ρ c t) (h : if t = true then ED X ρ a d k else ED X ρ b d k) : ED X ρ (.IfExp c a b pos) d k := by
  cases t with
  | true =>
    intro ow pins s σ H Q I ⟨E, q⟩
    refine PyProof.Rows.IfExp_ (thn (hc ow pins s σ H (fun t H1 => t = true /\ Same H H1) I ⟨E, fun H1 s1 => ⟨rfl, s1⟩⟩) fun t s1 ⟨H1, I1, e1, s1'⟩ => ?_)
    subst e1
    exact h ow pins s1 σ H1 Q I1 ⟨E.same s1', fun v H2 s2 r2 => q v H2 (s1'.trans s2) (r2.imp (Kp.back s1' k))⟩
  | false =>
    intro ow pins s σ H Q I ⟨E, q⟩
    refine PyProof.Rows.IfExp_ (thn (hc ow pins s σ H (fun t H1 => t = false /\ Same H H1) I ⟨E, fun H1 s1 => ⟨rfl, s1⟩⟩) fun t s1 ⟨H1, I1, e1, s1'⟩ => ?_)
    subst e1
    exact h ow pins s1 σ H1 Q I1 ⟨E.same s1', fun v H2 s2 r2 => q v H2 (s1'.trans s2) (r2.imp (Kp.back s1' k))⟩
end Sp
set_option Elab.async false
set_option linter.all false
set_option maxRecDepth 100000
namespace Sp
open PySem PySem.Spec PyProof.Rows L2
variable {X : Cx}
theorem RepL.atI {K : PySem.W.Frag} {P : AP2} {H : Hp} {l : List D} {vs : List V} {i : Int} {d : D} (h : RepL K H P l vs) (e : L2.atI l i = some d) : ∃ v, L2.atI vs i = some v /\ Rep K H P d v := by
  unfold L2.atI at e ⊢
  rw [<- h.length]
  cases q : ixN l.length i with
  | none => rw [q] at e; cases e
  | some j => rw [q] at e; exact h.get e
theorem ed_ix {ρ : Rho} {a b : Expr} {pos : Pos} {x z : D} {i : Int} {k j l : Nat} {o : List Prop} (ha : ED X ρ a x k) (hb : ED X ρ b (.int i) j) (hs : PlainIx b) (h : ixD x i k = .ok (z, l) o) : ED X ρ (.Subscript a b pos) z l := by
  unfold ixD at h
  split at h
  . rename_i m e0
    split at h
    . rename_i d e
      unfold mk at h
      cases h
      rcases seqOf_eq e0 with rfl | rfl
      . refine ED.kn fun ow => PEimp (pe_ix ix_tup (ha ow) (hb ow) hs) fun σ H Q ⟨E, q⟩ => ⟨E, fun v H1 s1 r1 => ⟨E.same s1, fun u H2 s2 r2 => ?_⟩⟩
        obtain ⟨p, vs, rfl, hq, rl⟩ := sqt_of (r1.same s2)
        rw [Rep] at r2; subst r2
        obtain ⟨w, h1, h2⟩ := rl.atI e
        exact ⟨p, vs, i, w, rfl, rfl, hq, h1, q w H2 (s1.trans s2) h2⟩
      . refine ED.kn fun ow => PEimp (pe_ix ix_list (ha ow) (hb ow) hs) fun σ H Q ⟨E, q⟩ => ⟨E, fun v H1 s1 r1 => ⟨E.same s1, fun u H2 s2 r2 => ?_⟩⟩
        obtain ⟨p, vs, rfl, hq, rl⟩ := sq_of (r1.same s2)
        rw [Rep] at r2; subst r2
        obtain ⟨w, h1, h2⟩ := rl.atI e
        exact ⟨p, vs, i, w, rfl, rfl, hq, h1, q w H2 (s1.trans s2) h2⟩
    . cases h
  . cases h
def rIxD : R2 := fun x y H Q => ∃ p kvs k v, x = .ref p /\ y = kV k /\ H p = some (.dK kvs) /\ valV kvs k = some v /\ Q v H
theorem ix_dict : IxR X rIxD := by
  intro value slice pins s σ H x y v u Q I rx ry h hs
  obtain ⟨p, kvs, k, z, rfl, rfl, hq, he, q⟩ := h
  cases rx
  obtain ⟨_, hd, vs, rel, dd⟩ := (show ObjOk X.prog X.w H s.heap p (.dK kvs) from I.hok p _ hq)
  obtain ⟨w, hw, rw'⟩ := RelO.some_of (v := z) (o := valueAt vs k) (by rw [<- he]; exact rel.val k)
  exact subscriptTail_builtinR (x := w) dd.typeIs PySem.F.slot_dict_getitem.lookup (wpAny_getItem_of (Q := fun r s' => r = w /\ EP X pins σ Q r s') (kV_is ry) dd.mapOf hw ⟨rfl, z, H, I.tok _, rw', q⟩) hs
theorem dGet_rep {K : PySem.W.Frag} {P : AP2} {H : Hp} {k : Key} {d : D} : ∀ {ks : List Key} {ds : List D} {vs : List V}, RepL K H P ds vs -> dGet ks ds k = some d -> ∃ v, valV (ks.zip vs) k = some v /\ Rep K H P d v /\ d ∈ ds
  | [], ds, vs, _, e => by cases e
  | j :: ks, [], vs, _, e => by cases e
  | j :: ks, x :: ds, vs, h, e => by
    rw [RepL] at h
    obtain ⟨v, r, rfl, h1, h2⟩ := h
    by_cases hj : j = k
    . have e' : some x = some d := by rw [<- e]; simp [dGet, List.find?_cons, hj]
      cases e'
      exact ⟨v, valV_pos hj, h1, List.mem_cons_self⟩
    . have e' : dGet ks ds k = some d := by rw [<- e]; simp [dGet, List.find?_cons, hj]
      obtain ⟨w, g1, g2, g3⟩ := dGet_rep h2 e'
      exact ⟨w, (valV_neg hj).trans g1, g2, List.mem_cons_of_mem _ g3⟩
theorem lless_mem : ∀ {l : List D} {d : D}, llessL l = true -> d ∈ l -> d.lless = true
  | x :: l, d, h, m => by
    rw [llessL, Bool.and_eq_true] at h
    rcases List.mem_cons.mp m with rfl | m
    . exact h.1
    . exact lless_mem h.2 m
theorem ed_sub {ρ : Rho} {a b : Expr} {pos : Pos} {p q r : D × Nat} {o : List Prop} (ha : ED X ρ a p.1 p.2) (hb : ED X ρ b q.1 q.2) (hs : PlainIx b) (h : subD p q = .ok r o) : ED X ρ (.Subscript a b pos) r.1 r.2 := by
  obtain ⟨z, k⟩ := p
  unfold subD at h
  split at h
  . rename_i ks ds e0
    have e0 : z = _ := e0
    subst e0
    split at h
    . rename_i key e
      split at h
      . rename_i d e2
        cases h
        refine fun ow => PEimp (pe_ix ix_dict (ha ow) (hb ow) hs) fun σ H Q ⟨E, qq⟩ => ⟨E, fun v H1 s1 r1 => ⟨E.same s1, fun u H2 s2 r2 => ?_⟩⟩
        have r1' := r1.same s2
        rw [Rep] at r1'
        obtain ⟨f, e1, p, vs, rfl, hq, _, rl⟩ := r1'
        have hk := keyD_rep (X := X) e r2
        obtain ⟨w, g1, g2, g3⟩ := dGet_rep rl e2
        exact ⟨p, _, key, w, rfl, hk, hq, g1, qq w H2 (s1.trans s2) (g2.flat _ (lless_mem f g3))⟩
      . cases h
    . cases h
  . unfold intR at h
    split at h
    . rename_i j hj
      rw [hj] at hb
      exact ed_ix ha hb hs h
    . cases h
theorem POimp {X : Cx} {e : Option Expr} {t t' : TO} (h : PO X e t) (i : ∀ σ H Q, t' σ H Q -> t σ H Q) : PO X e t' := fun pins s σ H Q I q => h pins s σ H Q I (i σ H Q q)
theorem od_none {ρ : Rho} : OD X ρ none none := fun ow => POimp po_none fun σ H Q ⟨E, q⟩ => q H (Same.refl _)
theorem od_some {ρ : Rho} {e : Expr} {i : Int} {k : Nat} (h : ED X ρ e (.int i) k) : OD X ρ (some e) (some i) := fun ow => POimp (po_some (h ow)) fun σ H Q ⟨E, q⟩ => ⟨E, fun v H1 s1 r1 => by rw [Rep] at r1; exact ⟨i, r1, q H1 s1⟩⟩
theorem RepL.cut {K : PySem.W.Frag} {P : AP2} {H : Hp} {l : List D} {vs : List V} {lo hi : Option Int} (h : RepL K H P l vs) : RepL K H P (cutD l lo hi) (cutV vs lo hi) := by
  unfold cutD cutV
  rw [<- h.length]
  exact (h.drop _).take _
theorem noSl_ok : SlfOk noSl := fun X ρ a lo hi p2 pos x z l h k j o ha hl hh e hp => by cases e
theorem nostar_any {env : Env} {pos : Pos} : ∀ {es : List Expr}, (∀ e ∈ es, ∀ x p, e ≠ .Starred x p) -> (backTo pos (starEach es env)).any (·.1) = false
  | [], _ => rfl
  | e :: es, h => by
    have ih := nostar_any (env := env) (es := es) (pos := pos) fun x hx => h x (List.mem_cons_of_mem _ hx)
    have he := h e List.mem_cons_self
    cases e <;> first | exact absurd rfl (he _ _) | exact ih
theorem nostar_one {e : Expr} {es : List Expr} {env : Env} (h : ∀ x p, e ≠ .Starred x p) : starEach (e :: es) env = (false, eval e env) :: starEach es env := by
  cases e <;> first | exact absurd rfl (h _ _) | rfl
theorem ed_call0 {Φ : Fx} {sc : Scope} {ρ : Rho} {f : Str} {p pos : Pos} {args : List Expr} {F : List D -> Rs D} {ds : List D} {k : Nat} {r : D} {o : List Prop} (G : Good Φ X sc) (hf : FnAt0 X f F) (hg : sc.names.lookup f = some .globalImplicit)
    (ha : AD X ρ args ds k) (hst : ∀ e ∈ args, ∀ x p, e ≠ .Starred x p) (hnil : args = [] -> ds = []) (h : F ds = .ok r o) (hp : allP o) : ED X ρ (.Call (.Name f p) args [] pos) r 0 := by
  obtain ⟨n, fa, fd, ps, hF, hr, hm, hk, hb, hd⟩ := hf
  intro ow
  cases args with
  | nil =>
    refine PEimp (pe_call0 hF hr (G.gl f hg) hm hk hb .nil pass0 hd) fun σ H Q ⟨E, q⟩ => ?_
    have hds := hnil rfl
    subst hds
    exact ⟨[], r, o, RepL.nil, h, hp, fun v H' s1 r1 => q v H' s1 r1⟩
  | cons e es =>
    refine PEimp (pe_call hF hr (G.gl f hg) hm hk hb .nil pass0 (ha ow) hd (nostar_one (hst e List.mem_cons_self)) (nostar_any fun x hx => hst x (List.mem_cons_of_mem _ hx))) fun σ H Q ⟨E, q⟩ => ⟨E, fun vs H1 s1 r1 => ?_⟩
    refine ⟨ds, r, o, by rw [List.append_nil]; exact r1.imp fun _ _ _ => True.intro, h, hp, fun v H' s2 r2 => q v H' (s1.trans s2) (r2.imp fun a b p => ⟨p.1, s1.free p.2⟩)⟩
theorem same_made {H : Hp} {x dx C : Addr} (hx : H x = none) (hd : H dx = none) : Same H (upd (upd H dx (.own x)) x (.ins C dx [])) := fun a o h => by
  rw [upd_ne (fun z => by subst z; rw [hx] at h; cases h), upd_ne (fun z => by subst z; rw [hd] at h; cases h)]
  exact h
theorem ed_make {Φ : Fx} {sc : Scope} {ρ : Rho} {f : Str} {p pos : Pos} {args : List Expr} {F : List D -> Rs D} {ds : List D} {k : Nat} {r : D} {o : List Prop} (G : Good Φ X sc) (hf : MkAt X f F) (hg : sc.names.lookup f = some .globalImplicit)
    (ha : AD X ρ args ds k) (hst : ∀ e ∈ args, ∀ x p, e ≠ .Starred x p) (hnil : args = [] -> ds = []) (h : F ds = .ok r o) (hp : allP o) : ED X ρ (.Call (.Name f p) args [] pos) r 0 := by
  obtain ⟨n, C, fa, fd, ps, hfl, hM, hF, hr, hm, hns, hc, hb, hd⟩ := hf
  have hl := hfl ds r o h
  intro ow
  cases args with
  | nil =>
    refine PEimp (pe_make0 hM hF hr (G.gl f hg) hm hb .nil pass0 hd) fun σ H Q ⟨E, q⟩ => ?_
    have hds := hnil rfl
    subst hds
    intro x dx hx hdx ne
    refine ⟨x, [], C, dx, [], r, o, rfl, upd_same, hns, hc, RepL.nil, h, hp, hl, fun H' kp rr => ⟨rfl, q _ H' (fun a ob ha => ?_) (rr.flat _ hl)⟩⟩
    exact kp a ob (fun z => by subst z; rw [hx] at ha; cases ha) (same_made hx hdx a ob ha)
  | cons e es =>
    refine PEimp (pe_make hM hF hr (G.gl f hg) hm hb .nil pass0 (ha ow) hd (nostar_one (hst e List.mem_cons_self)) (nostar_any fun x hx => hst x (List.mem_cons_of_mem _ hx))) fun σ H Q ⟨E, q⟩ => ⟨E, fun vs H1 s1 r1 => ?_⟩
    intro x dx hx hdx ne
    refine ⟨x, vs ++ [], C, dx, ds, r, o, rfl, upd_same, hns, hc, by rw [List.append_nil]; exact (r1.same (same_made hx hdx)).imp fun _ _ _ => True.intro, h, hp, hl, fun H' kp rr => ⟨rfl, q _ H' (s1.trans fun a ob ha => ?_) (rr.flat _ hl)⟩⟩
    exact kp a ob (fun z => by subst z; rw [hx] at ha; cases ha) (same_made hx hdx a ob ha)
theorem ed_call {Φ : Fx} {sc : Scope} {ρ : Rho} {f : Str} {p pos : Pos} {args : List Expr} {F : List D -> Rs D} {ds : List D} {k : Nat} {r : D} {o : List Prop} (G : Good Φ X sc) (hf : Φ.fn f = some F) (hg : sc.names.lookup f = some .globalImplicit)
    (ha : AD X ρ args ds k) (hst : ∀ e ∈ args, ∀ x p, e ≠ .Starred x p) (hnil : args = [] -> ds = []) (h : F ds = .ok r o) (hp : allP o) : ED X ρ (.Call (.Name f p) args [] pos) r 0 := by
  rcases G.fn f F hf with z | z
  . exact ed_call0 G z hg ha hst hnil h hp
  . exact ed_make G z hg ha hst hnil h hp
theorem ht_of {o : Expr} {name : Str} {apos pos : Pos} {args : List Expr} {env : Env} (hb : attributeBase o name env (eval o env) = eval o env) (hf : methodCallForm (args.length + ([] : List Keyword).length) (backTo pos (starEach args env)) (backToKw pos (keywordEach [] env)) = true)
    (hl : (apos.endLine == pos.line) = true) : eval (.Call (.Attribute o name apos) args [] pos) env = (do
      let ov <- eval o env
      standAt apos.atName
      let (f, first) <- holding [ov] (getMethod ov name (do return (<- importBound o env).getD true))
      callWith pos f first (backTo pos (starEach args env)) (backToKw pos (keywordEach [] env))) := by
  show (do
    let ov <- attributeBase o name env (eval o env)
    standAt apos.atName
    methodCall o name apos pos env ov (args.length + ([] : List Keyword).length) (backTo pos (starEach args env)) (backToKw pos (keywordEach [] env))) = _
  rw [hb]
  unfold methodCall calleeOf methodCallPos
  rw [hf, hl]
  rfl
theorem base_of {a : Expr} {m : Str} {env : Env} {t : Sem Value} (h : baseOk a = true) : attributeBase a m env t = t := by
  unfold attributeBase
  split
  . cases h
  . rfl
theorem few_of {env : Env} {pos : Pos} {args : List Expr} (hst : ∀ e ∈ args, ∀ x p, e ≠ .Starred x p) (hn : args.length < 29) : methodCallForm (args.length + ([] : List Keyword).length) (backTo pos (starEach args env)) (backToKw pos (keywordEach [] env)) = true := by
  unfold methodCallForm
  have e1 : (backTo pos (starEach args env)).all (fun x => !x.1) = true := by
    have := nostar_any (env := env) (pos := pos) hst
    rw [List.all_eq_true]
    intro x hx
    have h2 : ¬ (backTo pos (starEach args env)).any (·.1) = true := by rw [this]; exact Bool.false_ne_true
    cases hb : x.1 with
    | false => rfl
    | true => exact absurd (List.any_eq_true.mpr ⟨x, hx, hb⟩) h2
  rw [e1]
  show (true && true && decide (args.length + 0 + 0 < 30)) = true
  simp; omega
theorem zip_none {ns : List Str} {vs : List V} {m : Str} : ns.contains m = false -> (ns.zip vs).lookup m = none := by
  induction ns generalizing vs with
  | nil => intro _; rfl
  | cons a ns ih =>
    intro h
    cases vs with
    | nil => rfl
    | cons v vs =>
      rw [List.contains_cons, Bool.or_eq_false_iff] at h
      show List.lookup m ((a, v) :: ns.zip vs) = none
      rw [List.lookup_cons, h.1]
      exact ih h.2
theorem ed_meth {Φ : Fx} {sc : Scope} {ρ : Rho} {a : Expr} {n m : Str} {ap pos : Pos} {args : List Expr} {F : List D -> Rs D} {ns : List Str} {es ds : List D} {j k : Nat} {r : D} {o : List Prop} (G : Good Φ X sc) (hf : Φ.omt n m = some F) (he : ED X ρ a (.obj n ns es) j)
    (ha : AD X ρ args ds k) (hst : ∀ e ∈ args, ∀ x p, e ≠ .Starred x p) (hlen : args.length = ds.length) (hn : ns.contains m = false) (hb : baseOk a = true) (hfew : ds.length < 29) (hl : (ap.endLine == pos.line) = true) (h : F (.obj n ns es :: ds) = .ok r o) (hp : allP o) : ED X ρ (.Call (.Attribute a m ap) args [] pos) r 0 := by
  obtain ⟨kk, C, fa, fd, ps, hns, hc, hm, hF, hr, hbd⟩ := G.omt n m F hf
  intro ow
  have ht := ht_of (o := a) (name := m) (apos := ap) (pos := pos) (args := args) (env := X.env) (base_of hb) (few_of hst (by omega)) hl
  cases args with
  | nil =>
    refine PEimp (pe_meth0 (he ow) hc hm hF hr hbd .nil pass0 ht) fun σ H Q ⟨E, q⟩ => ⟨E, fun v H1 s1 r1 => ?_⟩
    have hds : ds = [] := List.length_eq_zero_iff.mp hlen.symm
    subst hds
    have r0 := r1
    rw [Rep] at r1
    obtain ⟨f, e0, x, C', dx, vs, rfl, h1, h2, h3, r2⟩ := r1
    rw [hns] at h1; cases h1
    refine ⟨x, dx, _, rfl, h3, zip_none hn, [.obj n ns es], r, o, RepL.one (r0.imp fun _ _ _ => True.intro), h, hp, fun v H' s2 r2 => q v H' (s1.trans s2) (r2.imp fun a b p => ⟨p.1, s1.free p.2⟩)⟩
  | cons e es' =>
    refine PEimp (pe_meth (he ow) hc hm hF hr hbd .nil pass0 (ha ow) (nostar_one (hst e List.mem_cons_self)) (nostar_any fun x hx => hst x (List.mem_cons_of_mem _ hx)) ht) fun σ H Q ⟨E, q⟩ => ⟨E, fun v H1 s1 r1 => ?_⟩
    have r0 := r1
    rw [Rep] at r1
    obtain ⟨f, e0, x, C', dx, vs, rfl, h1, h2, h3, r2⟩ := r1
    rw [hns] at h1; cases h1
    refine ⟨x, dx, _, rfl, h3, zip_none hn, E.same s1, fun ws H2 s2 rw2 => ?_⟩
    refine ⟨.obj n ns es :: ds, r, o, by rw [List.append_nil]; exact RepL.cons ((r0.same s2).imp fun _ _ _ => True.intro) (rw2.imp fun _ _ _ => True.intro), h, hp, fun v H' s3 r3 => q v H' ((s1.trans s2).trans s3) (r3.imp fun a b p => ⟨p.1, s1.free (s2.free p.2)⟩)⟩
theorem zip_look {K : PySem.W.Frag} {H : Hp} {P : AP2} {f : Str} {d : D} : ∀ {ns : List Str} {ds : List D} {vs : List V}, RepL K H P ds vs -> (ns.zip ds).lookup f = some d -> ∃ v, (ns.zip vs).lookup f = some v /\ Rep K H P d v /\ (llessL ds = true -> d.lless = true)
  | [], ds, vs, _, h => by cases h
  | a :: ns, [], vs, _, h => by cases h
  | a :: ns, e :: ds, vs, r, h => by
    rw [RepL] at r
    obtain ⟨v, ws, rfl, r1, r2⟩ := r
    replace h : List.lookup f ((a, e) :: ns.zip ds) = some d := h
    show ∃ u, List.lookup f ((a, v) :: ns.zip ws) = some u /\ _
    rw [List.lookup_cons] at h ⊢
    cases hb : f == a with
    | true =>
      rw [hb] at h; cases h
      exact ⟨v, rfl, r1, fun z => by rw [llessL, Bool.and_eq_true] at z; exact z.1⟩
    | false =>
      rw [hb] at h
      obtain ⟨u, u1, u2, u3⟩ := zip_look r2 h
      exact ⟨u, u1, u2, fun z => by rw [llessL, Bool.and_eq_true] at z; exact u3 z.2⟩
theorem ed_fld {Φ : Fx} {sc : Scope} {ρ : Rho} {a : Expr} {n f : Str} {pos : Pos} {ns : List Str} {ds : List D} {j : Nat} {d : D} (G : Good Φ X sc) (hf : Φ.fld n f = true) (he : ED X ρ a (.obj n ns ds) j) (hb : baseOk a = true) (h : (ns.zip ds).lookup f = some d) : ED X ρ (.Attribute a f pos) d 0 := by
  intro ow
  refine PEimp (pe_fld (he ow) (base_of hb)) fun σ H Q ⟨E, q⟩ => ⟨E, fun v H1 s1 r1 => ?_⟩
  rw [Rep] at r1
  obtain ⟨fl, e0, x, C, dx, vs, rfl, h1, h2, h3, r2⟩ := r1
  obtain ⟨u, u1, u2, u3⟩ := zip_look r2 h
  exact ⟨x, C, dx, _, u, rfl, h3, h2, G.fld n f hf C h1, u1, q u H1 s1 (u2.flat _ (u3 fl))⟩
theorem ed_blt {Φ : Fx} {sc : Scope} {ρ : Rho} {f : Str} {B : List D -> R1} {p pos : Pos} {e : Expr} {es : List Expr} {ds : List D} {k l : Nat} {z : D} {o : List Prop} (G : Good Φ X sc) (hB : BltOk f B) (hg : sc.names.lookup f = some .globalImplicit)
    (ha : AD X ρ (e :: es) ds k) (hst : ∀ x ∈ e :: es, ∀ y p, x ≠ .Starred y p) (h : B ds = .ok (z, l) o) (hp : allP o) : ED X ρ (.Call (.Name f p) (e :: es) [] pos) z l := by
  obtain ⟨h3, h1, h2, _, h4⟩ := hB
  have h4 := h4 X ds z l o G.calm h hp
  intro ow
  have n1 := nostar_one (env := X.env) (es := es) (hst e List.mem_cons_self)
  have n2 : (backTo pos (starEach es X.env)).any (·.1) = false := nostar_any fun x hx => hst x (List.mem_cons_of_mem _ hx)
  rcases h4 with ⟨id, e1, r, e2, e3⟩ | ⟨T, e1, r, e2, e3⟩
  . refine PEimp (pe_callB e2 (G.gl f hg) (G.bl f h3) e1 (ha ow) h1 h2 n1 n2) fun σ H Q ⟨E, q⟩ => ⟨E, fun vs H1 s1 r1 => ?_⟩
    exact e3 ow H H1 vs _ Q E.own s1 r1 fun w H' s2 r2 => q w H' (s1.trans s2) r2
  . refine PEimp (pe_callTy e2 (G.gl f hg) (G.bl f h3) e1 (ha ow) h1 h2 n1 n2) fun σ H Q ⟨E, q⟩ => ⟨E, fun vs H1 s1 r1 => ?_⟩
    exact e3 ow H H1 vs _ Q E.own s1 r1 fun w H' s2 r2 => q w H' (s1.trans s2) r2
theorem ie_list {ρ : Rho} {tg e : Expr} {l : List D} {k : Nat} (h : ED X ρ e (.lst l) k) : IE X ρ tg e l k := by
  intro ow pins s σ H R I ⟨E, q⟩
  refine pi_list (tg := tg) (h ow) pins s σ H R I ⟨E, fun v H1 s1 r1 => ?_⟩
  rw [Rep] at r1
  obtain ⟨a, vs, b, rfl, hl, hp, rl⟩ := r1
  have rl' : RepL X.K H1 (Kd ow H k H1) l vs := rl.impH (fun a o ho p => ⟨p, fun _ => ⟨o, ho⟩⟩) fun a p => ⟨p, fun z => (by cases z)⟩
  have hp' : Kd ow H k H1 a b := ⟨hp, fun hb => by subst hb; exact ⟨_, hl⟩⟩
  have sq : ∀ {H2 : Hp}, LsB X.K H2 a vs b -> SqL X.K H2 a vs := fun {H2} h => h.sq
  refine ⟨a, rfl, ⟨vs, sq hl⟩, q _ H1 s1 fun i H2 st => ⟨fun d hd => ?_, fun hle => ?_⟩⟩
  . have h2 := sq (st.ls hl hp')
    obtain ⟨w, hw, rw'⟩ := rl'.get hd
    refine ⟨⟨vs, w, h2, hw⟩, fun x H3 ⟨e3, y3⟩ => ?_⟩
    subst e3
    have := y3 vs h2
    rw [hw] at this; cases this
    exact ⟨Same.refl _, rw'.mono st⟩
  . exact ⟨vs, sq (st.ls hl hp'), by rw [<- rl.length]; exact hle⟩
theorem ie_tup {ρ : Rho} {tg e : Expr} {l : List D} {k : Nat} (h : ED X ρ e (.tup l) k) : IE X ρ tg e l k := by
  intro ow pins s σ H R I ⟨E, q⟩
  refine pi_tup (tg := tg) (h ow) pins s σ H R I ⟨E, fun v H1 s1 r1 => ?_⟩
  rw [Rep] at r1
  obtain ⟨a, vs, rfl, hl, rl⟩ := r1
  have rl' : RepL X.K H1 (Kd ow H k H1) l vs := rl.impH (fun a o ho p => ⟨p, fun _ => ⟨o, ho⟩⟩) fun a p => ⟨p, fun z => (by cases z)⟩
  refine ⟨a, rfl, ⟨vs, hl⟩, q _ H1 s1 fun i H2 st => ⟨fun d hd => ?_, fun hle => ?_⟩⟩
  . have h2 := st.sq hl
    obtain ⟨w, hw, rw'⟩ := rl'.get hd
    refine ⟨⟨vs, w, h2, hw⟩, fun x H3 ⟨e3, y3⟩ => ?_⟩
    subst e3
    have := y3 vs h2
    rw [hw] at this; cases this
    exact ⟨Same.refl _, rw'.mono st⟩
  . exact ⟨vs, st.sq hl, by rw [<- rl.length]; exact hle⟩
def ItS (x : Str) : It := ⟨fun i _ => i < x.cps.size, fun i H v H' => H' = H /\ ∃ c, x.cps[i]? = some c /\ v = .str ⟨#[c]⟩, fun i _ => x.cps.size <= i⟩
theorem turn_str {P : Program} {w : World} {K : PySem.W.Frag} {tg : Expr} (x : Str) (t : Tok) (it : Addr) : Turn P w K tg (ItS x) [it] it (fun i h => h.IsStrIter it "str_ascii_iterator" x t i) where
  mem := by simp
  obj := fun i h st b hb => by
    have e : b = it := by simpa using hb
    subst e
    obtain ⟨o, e, c, d⟩ := st
    exact ⟨o, e, fun v z => by rw [d] at z; cases z⟩
  keep := fun i h h' st k => by
    obtain ⟨o, e, c, d⟩ := st
    exact ⟨o, k it (by simp) o e, c, d⟩
  item := by
    intro X hP hw hK hc i pins s σ H E I hf st hg
    subst hP hw hK
    obtain ⟨f0, f1, f2, f3, f4, f5⟩ := hf it (by simp)
    have hx : x.cps[i]? = some x.cps[i] := Array.getElem?_eq_getElem hg
    refine wpAny_pyNext_ascii_item st hx fun h' st' sb => ?_
    have I1 : Inv X pins σ H { s with heap := h', toks := s.toks + 1 } := I.turned (t' := s.toks + 1) (fun b o hb e => (sb.2 b hb).trans e) f0 f1 f3 f4 f5
    obtain ⟨o, e, c, d⟩ := id st'
    exact ⟨_, rfl, go_of (s := { s with heap := h', toks := s.toks + 1 }) e c d (by decide) ⟨.str ⟨#[x.cps[i]]⟩, H, I1, ⟨_, rfl⟩, ⟨rfl, _, hx, rfl⟩, st', fun b hb => (hf b hb).1⟩⟩
  done := by
    intro X hP hw hK hc i pins s σ H E I hf st hg
    subst hP hw hK
    obtain ⟨f0, f1, f2, f3, f4, f5⟩ := hf it (by simp)
    exact wpAny_pyNext_ascii_end (I.ok.hd hc) st (Array.getElem?_eq_none hg) fun h' eb => ⟨rfl, I.turned (t' := s.toks) (fun b o hb e => eb b o hb e) f0 f1 f3 f4 f5⟩
  self := fun _ _ _ _ _ st h => wpAny_pyIter_striter_ascii st h
theorem ie_str {ρ : Rho} {tg e : Expr} {x : Str} {k : Nat} (h : ED X ρ e (.str x) k) (ha : (x.cps.all fun c => decide (c < 128)) = true) : IE X ρ tg e (sgs x) k := by
  intro ow pins s σ H R I ⟨E, q⟩
  refine thn (h ow pins s σ H _ I ⟨E, fun v H1 s1 r1 => (show (fun v H1 => Same H H1 /\ Rep X.K H1 (Kp ow H k) (.str x) v) v H1 from ⟨s1, r1⟩)⟩) fun v s1 ⟨y, H1, I1, rel, sm, rp⟩ => ?_
  rw [Rep] at rp; subst rp
  obtain ⟨t, rfl⟩ := rel
  have ty : strIterType x = "str_ascii_iterator" := if_pos ha
  refine wpAny_pyIter_strU ?_
  rw [ty]
  refine ⟨s1.heap.objs.size, [s1.heap.objs.size], _, ItS x, H1, rfl, I1.kept (t' := s1.toks) fun b o e => Heap.get?_push_of_some _ e, turn_str x t _, ⟨_, Heap.get?_push_size _ rfl, rfl, rfl⟩, fun b hb => ?_, q _ H1 sm fun i H2 st => ⟨fun d hd => ?_, fun hle => ?_⟩⟩
  . have e : b = s1.heap.objs.size := by simpa using hb
    subst e
    exact I1.fpOk (Nat.le_refl _) (I1.hok.fresh (Nat.le_refl _))
  . unfold sgs at hd
    rw [List.getElem?_map] at hd
    cases hc : x.cps.toList[i]? with
    | none => rw [hc] at hd; cases hd
    | some c =>
      rw [hc] at hd; cases hd
      have hi : i < x.cps.size := by simpa using (List.getElem?_eq_some_iff.mp hc).1
      refine ⟨hi, fun z H3 ⟨e3, c', e4, e5⟩ => ?_⟩
      subst e3 e5
      rw [Array.getElem?_toList] at hc
      rw [hc] at e4; cases e4
      exact ⟨Same.refl _, by rw [Rep]⟩
  . unfold sgs at hle
    rw [List.length_map, Array.length_toList] at hle
    exact hle
theorem ie_of {ρ : Rho} {tg e : Expr} {d : D} {l : List D} {k : Nat} (h : ED X ρ e d k) (hi : items d = some l) : IE X ρ tg e l k := by
  unfold items at hi
  split at hi
  . cases hi; exact ie_list h
  . cases hi; exact ie_tup h
  . split at hi
    . rename_i ha; cases hi; exact ie_str h ha
    . cases hi
  . cases hi
theorem ie_range {ρ : Rho} {tg a : Expr} {p pos : Pos} {j : Int} {k : Nat} (hg : Gl X "range") (hm0 : X.mg "range" = none) (ha : AD X ρ [a] [.int j] k) (hst : ∀ y p, a ≠ .Starred y p) (h1 : -4611686018427387904 <= j) (h2 : j <= many) :
    IE X ρ tg (.Call (.Name "range" p) [a] [] pos) ((List.range j.toNat).map fun i => .int (i : Nat)) 0 := by
  intro ow pins s σ H R I ⟨E, q⟩
  refine pi_range1 (tg := tg) hg hm0 (ha ow) (by rw [nostar_one hst]; rfl) pins s σ H R I ⟨E, fun vs H1 s1 r1 => ?_⟩
  obtain ⟨v, rfl, rv⟩ := r1.only
  rw [Rep] at rv; subst rv
  have hm : (many : Int) < 2 ^ 62 := by decide
  refine ⟨j, rfl, h1, by omega, q _ H1 s1 fun i H2 st => ⟨fun d hd => ?_, fun hle => ?_⟩⟩
  . rw [List.getElem?_map] at hd
    cases e : (List.range j.toNat)[i]? with
    | none => rw [e] at hd; cases hd
    | some n =>
      rw [e] at hd; cases hd
      obtain ⟨hi, hn⟩ := List.getElem?_eq_some_iff.mp e
      rw [List.getElem_range] at hn
      subst hn
      rw [List.length_range] at hi
      refine ⟨hi, fun x H3 ⟨e3, y3⟩ => ?_⟩
      subst e3 y3
      exact ⟨Same.refl _, by rw [Rep, Int.zero_add]⟩
  . rw [List.length_map, List.length_range] at hle
    exact hle
theorem ie_range2 {ρ : Rho} {tg a b : Expr} {p pos : Pos} {j0 j : Int} {k : Nat} (hg : Gl X "range") (hm0 : X.mg "range" = none) (ha : AD X ρ [a, b] [.int j0, .int j] k) (hst : ∀ y p, a ≠ .Starred y p) (hst2 : ∀ y p, b ≠ .Starred y p) (h1 : -4611686018427387904 <= j0) (h2 : j0 <= 4611686018427387000) (h3 : -4611686018427387904 <= j) (h4 : j - j0 <= 800) :
    IE X ρ tg (.Call (.Name "range" p) [a, b] [] pos) ((List.range (j - j0).toNat).map fun i => .int (j0 + (i : Nat))) 0 := by
  intro ow pins s σ H R I ⟨E, q⟩
  refine pi_range2 (tg := tg) hg hm0 (ha ow) (by rw [nostar_one hst, nostar_one hst2]; rfl) (by rw [nostar_one hst2]; rfl) pins s σ H R I ⟨E, fun vs H1 s1 r1 => ?_⟩
  rw [RepL] at r1
  obtain ⟨v1, r, rfl, r2, r3⟩ := r1
  rw [RepL] at r3
  obtain ⟨v2, r', rfl, r4, r5⟩ := r3
  rw [RepL] at r5
  rw [Rep] at r2 r4
  subst r2 r4 r5
  refine ⟨j0, j, rfl, ⟨h1, by omega, h3, by omega⟩, q _ H1 s1 fun i H2 st => ⟨fun d hd => ?_, fun hle => ?_⟩⟩
  . rw [List.getElem?_map] at hd
    cases e : (List.range (j - j0).toNat)[i]? with
    | none => rw [e] at hd; cases hd
    | some n =>
      rw [e] at hd; cases hd
      obtain ⟨hi, hn⟩ := List.getElem?_eq_some_iff.mp e
      rw [List.getElem_range] at hn
      subst hn
      rw [List.length_range] at hi
      refine ⟨hi, fun x H3 ⟨e3, y3⟩ => ?_⟩
      subst e3 y3
      exact ⟨Same.refl _, by rw [Rep]⟩
  . rw [List.length_map, List.length_range] at hle
    exact hle
theorem iRange_ok : ItrOk "range" iRange := by
  refine ⟨by decide +kernel, fun X ρ p pos args ds k d j l tg o hc hg hm ha hst hlen h hp hl ht => ?_⟩
  unfold iRange at h
  split at h
  . rename_i n
    cases h
    cases hl
    match args, hlen, ha, hst with
    | [a], _, ha, hst => exact ie_range hg hm ha (hst a List.mem_cons_self) hp.1 hp.2.1
  . rename_i m n
    cases h
    cases hl
    match args, hlen, ha, hst with
    | [a, b], _, ha, hst => exact ie_range2 hg hm ha (hst a List.mem_cons_self) (hst b (List.mem_cons_of_mem _ List.mem_cons_self)) hp.1 hp.2.1 hp.2.2.1 hp.2.2.2.1
  . cases h
end Sp
set_option Elab.async false
set_option linter.all false
set_option maxRecDepth 100000
namespace Sp
open PySem PySem.Spec PyProof.Rows L2
variable {X : Cx}
theorem lookup_putR {x : Str} {y : D × Bool} {ρ : Rho} (z : Str) : putR ρ x y z = if z = x then some y else ρ z := rfl
theorem env_put {ow : Ow} {H : Hp} {σ : L2.St} {ρ : Rho} {x : Str} {d : D} {o : Bool} {v : V} {i : Nat} (hN : X.N.Nodup) (hl : σ.length = X.N.length) (E : EnvOk X ow H σ ρ) (hi : X.N[i]? = some x) (hv : Vis X.env.scope x) (r : Rep X.K H (ownP ow x o) d v) :
    EnvOk X ow H (σ.set i (some v)) (putR ρ x (d, o)) := by
  have hil : i < σ.length := by rw [hl]; exact (List.getElem?_eq_some_iff.mp hi).1
  refine ⟨fun y e o' h => ?_, E.own⟩
  rw [lookup_putR] at h
  by_cases hy : y = x
  . subst hy
    rw [if_pos rfl] at h
    cases h
    exact ⟨i, v, hi, hv, by rw [List.getElem?_set_self hil], r⟩
  . rw [if_neg hy] at h
    obtain ⟨j, w, e1, e2, e3, e4⟩ := E.get y e o' h
    have hij : i ≠ j := by intro z; subst z; rw [hi] at e1; cases e1; exact hy rfl
    exact ⟨j, w, e1, e2, by rw [List.getElem?_set_ne hij]; exact e3, e4⟩
theorem loc_of {Φ : Fx} {sc : Scope} {x : Str} (G : Good Φ X sc) (h : locK sc x = true) : Loc X.env.scope x /\ Vis X.env.scope x /\ (X.fn x = true \/ X.env.scope.names.lookup x = some .local) /\ ∃ i : Nat, X.N[i]? = some x := by
  have hx := G.ns x h
  have hlt := List.idxOf_lt_length_iff.mpr hx
  have hi : ∃ i : Nat, X.N[i]? = some x := ⟨X.N.idxOf x, by rw [List.getElem?_eq_getElem hlt, List.getElem_idxOf hlt]⟩
  unfold locK at h
  rw [Bool.or_eq_true] at h
  rcases h with h | h
  . have h := G.lc x (by simpa using h)
    exact ⟨.inl h, .inl h, .inr h, hi⟩
  . have h0 : sc.names.lookup x = some .cell := by simpa using h
    have h := G.cc x h0
    exact ⟨.inr h, .inr (.inl h), .inl (G.ft x h0), hi⟩
theorem pgs_names {Φ : Fx} {sc : Scope} (G : Good Φ X sc) : ∀ {es : List Expr} {ds : List D} {ρ ρ' : Rho}, bindNs sc es ds ρ = some ρ' -> ∃ t, PGs X es t /\ (assignEach es X.env).length = ds.length /\ (assignEach es X.env).findIdx? (·.1) = none /\
    ∀ (ow : Ow) (vs : List V) (σ : L2.St) (H : Hp) (Q : L2.St -> Hp -> Prop), σ.length = X.N.length -> EnvOk X ow H σ ρ -> RepL X.K H (fun a b => b = true -> ow a = none) ds vs -> (∀ σ', σ'.length = X.N.length -> EnvOk X ow H σ' ρ' -> Q σ' H) -> t vs σ H Q
  | [], [], ρ, ρ', h => by
    rw [bindNs] at h; cases h
    refine ⟨_, pgs_nil, rfl, rfl, fun ow vs σ H Q hl E r q => ?_⟩
    rw [RepL] at r
    exact ⟨r, q σ hl E⟩
  | .Name x p :: es, d :: ds, ρ, ρ', h => by
    rw [bindNs] at h
    split at h
    . rename_i hx
      obtain ⟨t, h1, h2, h3, h4⟩ := pgs_names G h
      obtain ⟨g1, g2, g3, i, g4⟩ := loc_of G hx
      refine ⟨_, pgs_cons (pg_name (i := i) G.nd g4 g1 g3) h1 rfl, ?_, ?_, fun ow vs σ H Q hl E r q => ?_⟩
      . show (assignEach es X.env).length + 1 = ds.length + 1
        rw [h2]
      . show List.findIdx? (·.1) ((false, _) :: assignEach es X.env) = none
        rw [List.findIdx?_cons, h3]; rfl
      . rw [RepL] at r
        obtain ⟨v, vr, rfl, r1, r2⟩ := r
        refine ⟨v, vr, rfl, ?_⟩
        exact h4 ow vr _ H Q (by rw [List.length_set]; exact hl) (env_put G.nd hl E g4 g2 r1) r2 q
    . cases h
  | [], _ :: _, ρ, ρ', h => by simp [bindNs] at h
  | .Name _ _ :: _, [], ρ, ρ', h => by simp [bindNs] at h
  | .BoolOp .. :: _, ds, ρ, ρ', h => by cases ds <;> simp [bindNs] at h
  | .NamedExpr .. :: _, ds, ρ, ρ', h => by cases ds <;> simp [bindNs] at h
  | .BinOp .. :: _, ds, ρ, ρ', h => by cases ds <;> simp [bindNs] at h
  | .UnaryOp .. :: _, ds, ρ, ρ', h => by cases ds <;> simp [bindNs] at h
  | .Lambda .. :: _, ds, ρ, ρ', h => by cases ds <;> simp [bindNs] at h
  | .IfExp .. :: _, ds, ρ, ρ', h => by cases ds <;> simp [bindNs] at h
  | .Dict .. :: _, ds, ρ, ρ', h => by cases ds <;> simp [bindNs] at h
  | .Set .. :: _, ds, ρ, ρ', h => by cases ds <;> simp [bindNs] at h
  | .ListComp .. :: _, ds, ρ, ρ', h => by cases ds <;> simp [bindNs] at h
  | .SetComp .. :: _, ds, ρ, ρ', h => by cases ds <;> simp [bindNs] at h
  | .DictComp .. :: _, ds, ρ, ρ', h => by cases ds <;> simp [bindNs] at h
  | .GeneratorExp .. :: _, ds, ρ, ρ', h => by cases ds <;> simp [bindNs] at h
  | .Await .. :: _, ds, ρ, ρ', h => by cases ds <;> simp [bindNs] at h
  | .Yield .. :: _, ds, ρ, ρ', h => by cases ds <;> simp [bindNs] at h
  | .YieldFrom .. :: _, ds, ρ, ρ', h => by cases ds <;> simp [bindNs] at h
  | .Compare .. :: _, ds, ρ, ρ', h => by cases ds <;> simp [bindNs] at h
  | .Call .. :: _, ds, ρ, ρ', h => by cases ds <;> simp [bindNs] at h
  | .FormattedValue .. :: _, ds, ρ, ρ', h => by cases ds <;> simp [bindNs] at h
  | .JoinedStr .. :: _, ds, ρ, ρ', h => by cases ds <;> simp [bindNs] at h
  | .Constant .. :: _, ds, ρ, ρ', h => by cases ds <;> simp [bindNs] at h
  | .Attribute .. :: _, ds, ρ, ρ', h => by cases ds <;> simp [bindNs] at h
  | .Subscript .. :: _, ds, ρ, ρ', h => by cases ds <;> simp [bindNs] at h
  | .Starred .. :: _, ds, ρ, ρ', h => by cases ds <;> simp [bindNs] at h
  | .List .. :: _, ds, ρ, ρ', h => by cases ds <;> simp [bindNs] at h
  | .Tuple .. :: _, ds, ρ, ρ', h => by cases ds <;> simp [bindNs] at h
  | .Slice .. :: _, ds, ρ, ρ', h => by cases ds <;> simp [bindNs] at h
theorem gd_of {Φ : Fx} {sc : Scope} {tg : Expr} {d : D} {ρ ρ' : Rho} (G : Good Φ X sc) (h : bindG sc tg d ρ = some ρ') : GD X ρ tg d ρ' := by
  unfold bindG at h
  split at h
  . split at h
    . rename_i x p hx
      cases h
      obtain ⟨g1, g2, g3, i, g4⟩ := loc_of G hx
      exact ⟨_, pg_name (i := i) G.nd g4 g1 g3, fun ow v σ H Q hl E r q => q _ (by rw [List.length_set]; exact hl) (env_put G.nd hl E g4 g2 r)⟩
    . cases h
  . split at h
    . obtain ⟨t, h1, h2, h3, h4⟩ := pgs_names G h
      refine ⟨_, pg_tup (n := _) G.calm h1 h2 h3, fun ow v σ H Q hl E r q => ?_⟩
      obtain ⟨a, vs, rfl, hs, rl⟩ := sqt_of r
      exact ⟨a, vs, rfl, hs, rl.length.symm, h4 ow vs σ H Q hl E rl q⟩
    . cases h
  . cases h
theorem tests_cons {c : Expr} {cs : List Expr} {env : Env} {M : Model} {A : Around} {E : Value -> Shared -> Prop} {s : Shared} {Q : Bool -> Shared -> Prop}
    (h : wpAny M A (isTrue c env (eval c env)) (fun b s' => if b = true then wpAny M A (forTests cs env) Q E s' else Q false s') E s) : wpAny M A (forTests (c :: cs) env) Q E s := by
  have no : ∀ (l : List Expr) (s : Shared), Q false s -> wpAny M A (forIn l false fun c r => if r = true then do let ok <- isTrue c env (eval c env); pure (ForInStep.yield ok) else pure (ForInStep.yield r)) Q E s := by
    intro l
    induction l with
    | nil => intro s h; exact wpAny_pure h
    | cons x l ih =>
      intro s h
      rw [List.forIn_cons]
      simp only [Bool.false_eq_true, if_false]
      exact wpAny_bind (wpAny_pure (ih s h))
  unfold forTests
  rw [List.forIn_cons]
  simp only [if_true]
  refine wpAny_bind (wpAny_bind (wpAny_mono h (fun b s' hb => wpAny_pure ?_) fun _ _ x => x))
  cases b with
  | true => exact hb
  | false => exact no cs s' hb
theorem ts_nil {ρ : Rho} : TsD X ρ [] true := fun ow pins s σ H Q I ⟨E, q⟩ => wpAny_pure ⟨H, I, q H (Same.refl _)⟩
theorem ts_cons {ρ : Rho} {c : Expr} {cs : List Expr} {b b' : Bool} (h : TD X ρ c b) (h' : if b = true then TsD X ρ cs b' else b' = false) : TsD X ρ (c :: cs) b' := by
  intro ow pins s σ H Q I ⟨E, q⟩
  refine tests_cons (thn (h ow pins s σ H (fun t H1 => t = b /\ Same H H1) I ⟨E, fun H1 s1 => ⟨rfl, s1⟩⟩) fun t s1 ⟨H1, I1, e, sm⟩ => ?_)
  subst e
  cases t with
  | true =>
    rw [if_pos rfl] at h' ⊢
    exact h' ow pins s1 σ H1 Q I1 ⟨E.same sm, fun H2 s2 => q H2 (sm.trans s2)⟩
  | false =>
    rw [if_neg Bool.false_ne_true] at h' ⊢
    subst h'
    exact ⟨H1, I1, q H1 sm⟩
end Sp
set_option Elab.async false
set_option linter.all false
set_option maxRecDepth 100000
namespace Sp
open PySem PySem.Spec PyProof.Rows L2
variable {X : Cx}
structure Con (X : Cx) (ρ : Rho) (e : Expr) (it : Bool) (d : D) (k : Nat) : Prop where
  ed : it = false -> ED X ρ e d k
  td : it = false -> ∀ b, d = .bl b -> TD X ρ e b
  ie : it = true -> ∀ tg l, items d = some l -> tgOk e tg = true -> IE X ρ tg e l k
theorem Con.of {ρ : Rho} {e : Expr} {it : Bool} {d : D} {k : Nat} (h : ED X ρ e d k) (t : ∀ b, d = .bl b -> TD X ρ e b) : Con X ρ e it d k := ⟨fun _ => h, fun _ => t, fun _ tg l hi _ => ie_of h hi⟩
theorem evE_nostar {Φ : Fx} {e : Expr} {it : Bool} {sc : Scope} {ρ : Rho} {r : D × Nat} {l : List Prop} (h : evE Φ e it sc ρ = .ok r l) : ∀ x p, e ≠ .Starred x p := by
  intro x p z; subst z; cases h
theorem evEs_nostar {Φ : Fx} {sc : Scope} {ρ : Rho} : ∀ {es : List Expr} {r : List D × Nat} {l : List Prop}, evEs Φ es sc ρ = .ok r l -> allP l -> (∀ e ∈ es, ∀ x p, e ≠ .Starred x p) /\ es.length = r.1.length
  | [], r, l, h, _ => by cases h; exact ⟨fun e he => (by cases he), rfl⟩
  | e :: es, r, l, h, hp => by
    obtain ⟨p, l1, l2, h1, p1, h, p2⟩ := bnd_inv h hp
    obtain ⟨q, l3, l4, h2, p3, h, p4⟩ := bnd_inv h p2
    cases h
    obtain ⟨i1, i2⟩ := evEs_nostar h2 p3
    refine ⟨fun e' he => ?_, by rw [List.length_cons, List.length_cons, i2]⟩
    rcases List.mem_cons.mp he with rfl | he
    . exact evE_nostar h1
    . exact i1 e' he
theorem kn_le {d : D} {k : Nat} : kn d k = 0 \/ kn d k = k := by
  unfold kn; split
  . exact .inl rfl
  . exact .inr rfl
theorem cOk_of {sc scope : Scope} (h : cOk sc scope = true) : scope.kind = .function /\ (∀ y ∈ scope.names, y.2 = .local -> scope.names.lookup y.1 = some .local) /\
    (∀ y ∈ scope.names, y.2 = .free -> sc.names.lookup y.1 = some .cell \/ sc.names.lookup y.1 = some .free) /\ (scope.names.map (·.1)).Nodup := by
  unfold cOk at h
  simp only [Bool.and_eq_true, List.all_eq_true, decide_eq_true_eq, Bool.or_eq_true] at h
  obtain ⟨⟨⟨h1, h3⟩, h4⟩, h5⟩ := h
  refine ⟨h1, fun y hy e => (h3 y hy).resolve_left (fun z => z e), fun y hy e => ?_, h5⟩
  rcases h4 y hy with (q | q) | q
  . exact absurd e q
  . exact .inl q.2
  . exact .inr q
theorem lookup_relabel_glob {env : Env} : ∀ {names : List (Str × NameKind)} {x : Str} {k0 : NameKind}, k0 ≠ .free -> names.lookup x = some k0 ->
    (names.map fun (n, k) => if (k == NameKind.free && env.scope.kind == .function && env.kindOf n == some .cell) then (n, NameKind.cell) else (n, k)).lookup x = some k0
  | [], _, _, _, h => by simp at h
  | (n, k) :: r, x, k0, hk, h => by
    have ih := @lookup_relabel_glob env r x k0 hk
    show List.lookup x ((if (k == NameKind.free && env.scope.kind == .function && env.kindOf n == some .cell) = true then (n, NameKind.cell) else (n, k)) :: _) = _
    cases hx : x == n with
    | true =>
      simp only [List.lookup_cons, hx] at h
      cases h
      have : (k == NameKind.free) = false := by simpa using hk
      simp [List.lookup_cons, hx, this]
    | false =>
      simp only [List.lookup_cons, hx] at h
      by_cases hc : (k == NameKind.free && env.scope.kind == .function && env.kindOf n == some .cell) = true
      . rw [if_pos hc]; simp only [List.lookup_cons, hx]; exact ih h
      . rw [if_neg hc]; simp only [List.lookup_cons, hx]; exact ih h
theorem lookup_mem {names : List (Str × NameKind)} : ∀ {x : Str} {k : NameKind}, names.lookup x = some k -> x ∈ names.map (·.1) := fun {x k} h => List.mem_map.mpr ⟨_, PySem.mem_of_lookup h, rfl⟩
theorem good_in {Φ : Fx} {sc scope : Scope} {cl : List (Str × Addr)} {C : Addr} {s : Shared} {H : Hp} {fp : List Addr} (G : Good Φ X sc) (h : cOk sc scope = true) : Good Φ (inX X scope cl C (scope.names.map (·.1)) s H fp) scope := by
  obtain ⟨h1, h3, h4, h5⟩ := cOk_of h
  refine ⟨G.calm, h5, fun x hx => ?_, fun x hx => ?_, fun x hx => lookup_relabel_local hx, fun x hx => lookup_relabel_glob (by decide) hx, fun g F hg => G.fn g F hg, G.con, G.blt, G.itr, G.mth, G.mtt, G.slf, G.fld, G.omt, G.bl, G.room, fun x hx => ?_, fun x hx => decide_eq_true hx⟩
  . exact lookup_relabel_glob (by decide) hx
  . rcases hx with hx | hx
    . exact .inl (lookup_relabel_glob (by decide) hx)
    . exact lookup_relabel_free hx
  . unfold locK at hx
    rw [Bool.or_eq_true] at hx
    rcases hx with hx | hx <;> exact lookup_mem (by simpa using hx)
theorem cscope_of {Φ : Fx} {sc scope : Scope} (G : Good Φ X sc) (h : cOk sc scope = true) : CScope X.env scope (scope.names.map (·.1)) := by
  obtain ⟨h1, h3, h4, h5⟩ := cOk_of h
  exact ⟨h1, h5, h3, h5, fun n hn => G.kc n (h4 (n, .free) hn rfl)⟩
theorem kj_le : ∀ {a b : Nat}, kj a b <= 1 -> a <= kj a b /\ b <= kj a b
  | 0, 0, _ => by decide
  | 0, 1, _ => by decide
  | 0, 2, h => absurd h (by decide)
  | 0, _ + 3, h => by rw [kj] at h; omega
  | 1, 0, _ => by decide
  | 1, 1, _ => by decide
  | 1, 2, h => absurd h (by decide)
  | 1, _ + 3, h => absurd h (by rw [kj] <;> simp)
  | 2, 0, h => absurd h (by decide)
  | 2, 1, h => absurd h (by decide)
  | 2, 2, h => absurd h (by decide)
  | 2, _ + 3, h => absurd h (by rw [kj] <;> simp)
  | _ + 3, 0, h => by rw [kj] at h <;> simp_all <;> omega
  | _ + 3, 1, h => absurd h (by rw [kj] <;> simp)
  | _ + 3, 2, h => absurd h (by rw [kj] <;> simp)
  | _ + 3, _ + 3, h => absurd h (by rw [kj] <;> simp)
theorem Kp.up {ow : Ow} {H : Hp} (o : OwIn ow H) {a : Addr} {b : Bool} : ∀ {i j : Nat}, i <= j -> j <= 1 -> Kp ow H i a b -> Kp ow H j a b
  | 0, 0, _, _, p => p
  | 0, 1, _, _, p => fun _ => o.free p.2
  | 1, 1, _, _, p => p
  | 1, 0, h, _, _ => absurd h (by omega)
  | _ + 2, _, h, g, _ => absurd h (by omega)
  | 0, _ + 2, _, g, _ => absurd g (by omega)
  | 1, _ + 2, _, g, _ => absurd g (by omega)
theorem ED.up {ρ : Rho} {e : Expr} {d : D} {i j : Nat} (h : ED X ρ e d i) (h1 : i <= j) (h2 : j <= 1) : ED X ρ e d j := fun ow => PEimp (h ow) fun σ H Q ⟨E, q⟩ => ⟨E, fun v H' s r => q v H' s (r.imp fun a b p => Kp.up E.own h1 h2 p)⟩
def outOf (step : D -> Rs (Option (D × Nat))) (d : D) : Option D := match step d with | .ok (some p) _ => some p.1 | _ => none
theorem compD_ok {step : D -> Rs (Option (D × Nat))} : ∀ {ds : List D} {r : List D × Nat} {l : List Prop}, compD step ds = .ok r l -> allP l ->
    (∀ d ∈ ds, ∃ r l, step d = .ok r l /\ allP l) /\ r.1 = ds.filterMap (outOf step) /\ (r.2 <= 1 -> ∀ d ∈ ds, ∀ p l, step d = .ok (some p) l -> p.2 <= r.2)
  | [], r, l, h, _ => by
    cases h
    exact ⟨fun d hd => (by cases hd), rfl, fun _ d hd => (by cases hd)⟩
  | d :: ds, r, l, h, hp => by
    obtain ⟨x, l1, l2, h1, p1, h, p2⟩ := bnd_inv h hp
    obtain ⟨q, l3, l4, h2, p3, h, p4⟩ := bnd_inv h p2
    obtain ⟨i1, i2, i3⟩ := compD_ok h2 p3
    have i1' : ∀ y ∈ d :: ds, ∃ r l, step y = .ok r l /\ allP l := fun y hy => by
      rcases List.mem_cons.mp hy with rfl | hy
      . exact ⟨_, _, h1, p1⟩
      . exact i1 y hy
    cases x with
    | none =>
      cases h
      refine ⟨i1', ?_, fun hj x hx y i e => ?_⟩
      . rw [List.filterMap_cons_none (by unfold outOf; rw [h1])]; exact i2
      . rcases List.mem_cons.mp hx with rfl | hx
        . rw [h1] at e; cases e
        . exact i3 hj x hx y i e
    | some p =>
      cases h
      refine ⟨i1', ?_, fun hj x hx y i e => ?_⟩
      . rw [List.filterMap_cons_some (by unfold outOf; rw [h1]), i2]
      . obtain ⟨a1, a2⟩ := kj_le hj
        rcases List.mem_cons.mp hx with rfl | hx
        . rw [h1] at e; cases e; exact a1
        . exact Nat.le_trans (i3 (Nat.le_trans a2 hj) x hx y i e) a2
end Sp
set_option Elab.async false
set_option linter.all false
set_option maxRecDepth 100000
namespace Sp
open PySem PySem.Spec PyProof.Rows L2
theorem con_plain {X : Cx} {ρ : Rho} {e : Expr} {it : Bool} {d : D} {k : Nat} (h : ED X ρ e d k) (he : ∀ whole, isTrue e X.env whole = (do let v <- whole; standAt e.pos; holding [v] (truthy v))) : Con X ρ e it d k := .of h fun b hb => by subst hb; exact td_ed h he
theorem td_cmp {X : Cx} {ρ : Rho} {a b : Expr} {op : CmpOp} {pos : Pos} {x y : D} {r : Bool} {k j : Nat} {o : List Prop} (hu : X.A.units + 70 < cLine) (ha : ED X ρ a x k) (hb : ED X ρ b y j) (h : cmpD op x y = .ok r o) (hp : allP o) (hm : behindInMarks op b = false) : TD X ρ (.Compare a [op] [b] pos) r := by
  have c := cmp_ok (X := X) hu h hp
  intro ow pins s σ H Q I ⟨E, q⟩
  refine wpAny_isTrue_Compare1 (bin (ha ow) (hb ow) I (R := fun v u H2 => Same H H2 /\ Rep X.K H2 (fun _ _ => True) x v /\ Rep X.K H2 (fun _ _ => True) y u) ⟨E, fun v H1 s1 r1 => ⟨E.same s1, fun u H2 s2 r2 => ⟨s1.trans s2, (r1.imp fun _ _ _ => True.intro).same s2, r2.imp fun _ _ _ => True.intro⟩⟩⟩ fun v u s2 x y H2 I2 rx ry ⟨sm, r1, r2⟩ => ?_) hm
  refine thn (c _ _ pins s2 σ H2 x y v u (fun w H' => w = .bl r /\ H2 = H') I2 rx ry ⟨r1, r2, rfl, rfl⟩) fun u' s3 ⟨w, H3, I3, r3, e1, e2⟩ => ?_
  subst e1 e2
  cases (show u' = Value.bool r from r3)
  exact wpAny_truthy_bool ⟨H2, I3, q H2 sm⟩
theorem td_chain {X : Cx} {ρ : Rho} {a b c : Expr} {op op2 : CmpOp} {pos : Pos} {x y z : Int} {r r2 : Bool} {k j i : Nat} (hu : X.A.units + 70 < cLine) (ha : ED X ρ a (.int x) k) (hb : ED X ρ b (.int y) j) (hc : ED X ρ c (.int z) i) (h : cmpI op x y = some r) (h2 : cmpI op2 y z = some r2) (hm : behindInMarks op2 c = false) : TD X ρ (.Compare a [op, op2] [b, c] pos) (r && r2) := by
  have c1 := cmp_ok (X := X) hu (cmpI_D h) (show allP [] from True.intro)
  have c2 := cmp_ok (X := X) hu (cmpI_D h2) (show allP [] from True.intro)
  refine fun ow => PTimp (pt_chain (c1 (fun _ _ => True) (fun _ _ => True)) (c2 (fun _ _ => True) (fun _ _ => True)) (ha ow) (hb ow) (hc ow) hm) fun σ H Q ⟨E, q⟩ => ⟨E, fun v H1 s1 r1 => ⟨E.same s1, fun u H2 s2 r2 => ?_⟩⟩
  rw [Rep] at r1 r2
  subst r1 r2
  refine ⟨by rw [Rep], by rw [Rep], r, rfl, ?_⟩
  cases r with
  | false => exact ⟨false, rfl, q H2 (s1.trans s2)⟩
  | true =>
    rw [if_pos rfl]
    refine ⟨(E.same s1).same s2, fun w H3 s3 r3 => ?_⟩
    rw [Rep] at r3
    subst r3
    exact ⟨by rw [Rep], by rw [Rep], _, rfl, q H3 ((s1.trans s2).trans s3)⟩
theorem td_not {X : Cx} {ρ : Rho} {a : Expr} {pos : Pos} {b : Bool} (h : TD X ρ a b) : TD X ρ (.UnaryOp .Not a pos) (!b) := fun ow => PTimp (pt_not (h ow)) fun σ H Q ⟨E, q⟩ => ⟨E, fun H1 s1 => q H1 s1⟩
structure BoolCon (X : Cx) (ρ : Rho) (op : BoolOp) (es : List Expr) (b : Bool) : Prop where
  ed : es ≠ [] -> ∀ pos, ED X ρ (.BoolOp op es pos) (.bl b) 0
  tw : es ≠ [] -> ∀ pos ow, PW X (.BoolOp op es pos) (tTD X ow ρ b)
  ts : op = .And -> TsD X ρ es b
theorem boolCon_one {X : Cx} {ρ : Rho} {op : BoolOp} {e : Expr} {b : Bool} {k : Nat} (h : ED X ρ e (.bl b) k) (t : TD X ρ e b) : BoolCon X ρ op [e] b := by
  have h0 : ED X ρ e (.bl b) 0 := by
    have := h.kn
    rw [show kn (.bl b) k = 0 from rfl] at this
    exact this
  refine ⟨fun _ pos ow => pe_one (h0 ow), fun _ pos ow => ?_, fun _ => ts_cons t (by cases b; rfl; exact ts_nil)⟩
  cases op with
  | And => exact pw_and1 (t ow)
  | Or => exact pw_or1 (t ow)
theorem boolCon_and {X : Cx} {ρ : Rho} {e e2 : Expr} {es : List Expr} {b : Bool} {k : Nat} (h : ED X ρ e (.bl true) k) (t : TD X ρ e true) (r : BoolCon X ρ .And (e2 :: es) b) : BoolCon X ρ .And (e :: e2 :: es) b := by
  refine ⟨fun _ pos ow => ?_, fun _ pos ow => ?_, fun _ => ts_cons t (by rw [if_pos rfl]; exact r.ts rfl)⟩
  . refine PEimp (pe_and (h ow) (r.ed (by simp) pos ow)) fun σ H Q ⟨E, q⟩ => ⟨E, fun v H1 s1 r1 => ?_⟩
    rw [Rep] at r1
    exact ⟨true, r1, by rw [if_pos rfl]; exact ⟨E.same s1, fun w H2 s2 r2 => q w H2 (s1.trans s2) (r2.imp (Kp.back s1 0))⟩⟩
  . intro wh pins s σ H Q I hq
    exact pw_and (t ow) (r.tw (by simp) pos ow) wh pins s σ H Q I ⟨hq.1, fun H1 s1 => by dsimp only; rw [if_pos rfl]; exact ⟨hq.1.same s1, fun H2 s2 => hq.2 H2 (s1.trans s2)⟩⟩
theorem boolCon_andF {X : Cx} {ρ : Rho} {e e2 : Expr} {es : List Expr} {k : Nat} (h : ED X ρ e (.bl false) k) (t : TD X ρ e false) (ne : ∀ pos, ∃ t, PE X (.BoolOp .And (e2 :: es) pos) t) (nw : ∀ pos, ∃ t, PW X (.BoolOp .And (e2 :: es) pos) t) : BoolCon X ρ .And (e :: e2 :: es) false := by
  refine ⟨fun _ pos ow => ?_, fun _ pos ow => ?_, fun _ => ts_cons t (by rw [if_neg Bool.false_ne_true])⟩
  . obtain ⟨t2, h2⟩ := ne pos
    refine PEimp (pe_and (h ow) h2) fun σ H Q ⟨E, q⟩ => ⟨E, fun v H1 s1 r1 => ?_⟩
    rw [Rep] at r1
    exact ⟨false, r1, by rw [if_neg Bool.false_ne_true]; exact q _ H1 s1 (by rw [Rep])⟩
  . obtain ⟨t2, h2⟩ := nw pos
    intro wh pins s σ H Q I hq
    exact pw_and (t ow) h2 wh pins s σ H Q I ⟨hq.1, fun H1 s1 => by dsimp only; rw [if_neg Bool.false_ne_true]; exact hq.2 H1 s1⟩
theorem boolCon_or {X : Cx} {ρ : Rho} {e e2 : Expr} {es : List Expr} {b : Bool} {k : Nat} (h : ED X ρ e (.bl false) k) (t : TD X ρ e false) (r : BoolCon X ρ .Or (e2 :: es) b) : BoolCon X ρ .Or (e :: e2 :: es) b := by
  refine ⟨fun _ pos ow => ?_, fun _ pos ow => ?_, fun z => by cases z⟩
  . refine PEimp (pe_or (h ow) (r.ed (by simp) pos ow)) fun σ H Q ⟨E, q⟩ => ⟨E, fun v H1 s1 r1 => ?_⟩
    rw [Rep] at r1
    exact ⟨false, r1, by rw [if_neg Bool.false_ne_true]; exact ⟨E.same s1, fun w H2 s2 r2 => q w H2 (s1.trans s2) (r2.imp (Kp.back s1 0))⟩⟩
  . intro wh pins s σ H Q I hq
    exact pw_or (t ow) (r.tw (by simp) pos ow) wh pins s σ H Q I ⟨hq.1, fun H1 s1 => by dsimp only; rw [if_neg Bool.false_ne_true]; exact ⟨hq.1.same s1, fun H2 s2 => hq.2 H2 (s1.trans s2)⟩⟩
theorem boolCon_orT {X : Cx} {ρ : Rho} {e e2 : Expr} {es : List Expr} {k : Nat} (h : ED X ρ e (.bl true) k) (t : TD X ρ e true) (ne : ∀ pos, ∃ t, PE X (.BoolOp .Or (e2 :: es) pos) t) (nw : ∀ pos, ∃ t, PW X (.BoolOp .Or (e2 :: es) pos) t) : BoolCon X ρ .Or (e :: e2 :: es) true := by
  refine ⟨fun _ pos ow => ?_, fun _ pos ow => ?_, fun z => by cases z⟩
  . obtain ⟨t2, h2⟩ := ne pos
    refine PEimp (pe_or (h ow) h2) fun σ H Q ⟨E, q⟩ => ⟨E, fun v H1 s1 r1 => ?_⟩
    rw [Rep] at r1
    exact ⟨true, r1, by rw [if_pos rfl]; exact q _ H1 s1 (by rw [Rep])⟩
  . obtain ⟨t2, h2⟩ := nw pos
    intro wh pins s σ H Q I hq
    exact pw_or (t ow) h2 wh pins s σ H Q I ⟨hq.1, fun H1 s1 => by dsimp only; rw [if_pos rfl]; exact hq.2 H1 s1⟩
theorem pe_never {X : Cx} {e : Expr} : PE X e (fun _ _ _ => False) := fun _ _ _ _ _ _ h => h.elim
theorem pw_never {X : Cx} {e : Expr} : PW X e (fun _ _ _ => False) := fun _ _ _ _ _ _ _ h => h.elim
theorem beh {op : CmpOp} {b : Expr} {Φ : Fx} {sc : Scope} {ρ : Rho} {r : D × Nat} {it : Bool} {l : List Prop} (h : evE Φ b it sc ρ = .ok r l) : behindInMarks op b = false := by
  cases b <;> first | rfl | cases h
theorem locK_ne {sc : Scope} {x z : Str} (h : locK sc z = true) (hx : sc.names.lookup x = some .free) : x ≠ z := by
  intro e; subst e
  unfold locK at h
  rw [hx] at h
  revert h; decide
theorem bindNs_ext {sc : Scope} : ∀ {es : List Expr} {ds : List D} {ρ ρ' : Rho}, bindNs sc es ds ρ = some ρ' -> ∀ x y, sc.names.lookup x = some .free -> ρ x = some y -> ρ' x = some y := by
  intro es
  induction es with
  | nil =>
    intro ds ρ ρ' h x y hx hl
    cases ds with
    | nil => rw [bindNs] at h; cases h; exact hl
    | cons d ds => cases h
  | cons e es ih =>
    intro ds ρ ρ' h x y hx hl
    cases ds with
    | nil => cases e <;> cases h
    | cons d ds =>
      cases e with
      | Name z p =>
        rw [bindNs] at h
        split at h
        . rename_i hz
          exact ih h x y hx (by rw [lookup_putR, if_neg (locK_ne hz hx)]; exact hl)
        . cases h
      | _ => cases h
theorem bindG_ext {sc : Scope} {tg : Expr} {d : D} {ρ ρ' : Rho} (h : bindG sc tg d ρ = some ρ') : ∀ x y, sc.names.lookup x = some .free -> ρ x = some y -> ρ' x = some y := by
  intro x y hx hl
  unfold bindG at h
  split at h
  . split at h
    . rename_i hz
      cases h
      rw [lookup_putR, if_neg (locK_ne hz hx)]; exact hl
    . cases h
  . split at h
    . exact bindNs_ext h x y hx hl
    . cases h
  . cases h
theorem folded_of {Φ : Fx} {e : Expr} {it : Bool} {sc : Scope} {ρ : Rho} {r : D × Nat} {l : List Prop} {env : Env} (h : evE Φ e it sc ρ = .ok r l) (x : Value) : foldedSetIterable e env x = pure x := by
  cases e <;> first | rfl | cases h
mutual
theorem mrgD_t : ∀ x y : D, mrgD true x y = x
  | .int _, .int _ => rfl
  | .bl _, .bl _ => rfl
  | .tup l, .tup m => by
    show (if l.length = m.length then D.tup (mrgL true l m) else cond true (.tup l) (.tup m)) = .tup l
    split
    . rename_i h; rw [mrgL_t l m h]
    . rfl
  | .non, _ => rfl
  | .str _, _ => rfl
  | .dct _ _, _ => rfl
  | .lst _, _ => rfl
  | .typ _, _ => rfl
  | .sn _, _ => rfl
  | .obj _ _ _, _ => rfl
  | .cls _, _ => rfl
  | .int _, .non => rfl
  | .int _, .bl _ => rfl
  | .int _, .str _ => rfl
  | .int _, .dct _ _ => rfl
  | .int _, .typ _ => rfl
  | .int _, .sn _ => rfl
  | .int _, .obj _ _ _ => rfl
  | .int _, .cls _ => rfl
  | .int _, .tup _ => rfl
  | .int _, .lst _ => rfl
  | .bl _, .non => rfl
  | .bl _, .int _ => rfl
  | .bl _, .str _ => rfl
  | .bl _, .dct _ _ => rfl
  | .bl _, .typ _ => rfl
  | .bl _, .sn _ => rfl
  | .bl _, .obj _ _ _ => rfl
  | .bl _, .cls _ => rfl
  | .bl _, .tup _ => rfl
  | .bl _, .lst _ => rfl
  | .tup _, .non => rfl
  | .tup _, .int _ => rfl
  | .tup _, .bl _ => rfl
  | .tup _, .str _ => rfl
  | .tup _, .dct _ _ => rfl
  | .tup _, .typ _ => rfl
  | .tup _, .sn _ => rfl
  | .tup _, .obj _ _ _ => rfl
  | .tup _, .cls _ => rfl
  | .tup _, .lst _ => rfl
theorem mrgL_t : ∀ l m : List D, l.length = m.length -> mrgL true l m = l
  | [], [], _ => rfl
  | x :: l, y :: m, h => by
    show mrgD true x y :: mrgL true l m = x :: l
    rw [mrgD_t x y, mrgL_t l m (by simpa using h)]
  | [], _ :: _, h => by cases h
  | _ :: _, [], h => by cases h
end
mutual
theorem mrgD_f : ∀ x y : D, mrgD false x y = y
  | .int _, .int _ => rfl
  | .bl _, .bl _ => rfl
  | .tup l, .tup m => by
    show (if l.length = m.length then D.tup (mrgL false l m) else cond false (.tup l) (.tup m)) = .tup m
    split
    . rename_i h; rw [mrgL_f l m h]
    . rfl
  | .non, _ => rfl
  | .str _, _ => rfl
  | .dct _ _, _ => rfl
  | .lst _, _ => rfl
  | .typ _, _ => rfl
  | .sn _, _ => rfl
  | .obj _ _ _, _ => rfl
  | .cls _, _ => rfl
  | .int _, .non => rfl
  | .int _, .bl _ => rfl
  | .int _, .str _ => rfl
  | .int _, .dct _ _ => rfl
  | .int _, .typ _ => rfl
  | .int _, .sn _ => rfl
  | .int _, .obj _ _ _ => rfl
  | .int _, .cls _ => rfl
  | .int _, .tup _ => rfl
  | .int _, .lst _ => rfl
  | .bl _, .non => rfl
  | .bl _, .int _ => rfl
  | .bl _, .str _ => rfl
  | .bl _, .dct _ _ => rfl
  | .bl _, .typ _ => rfl
  | .bl _, .sn _ => rfl
  | .bl _, .obj _ _ _ => rfl
  | .bl _, .cls _ => rfl
  | .bl _, .tup _ => rfl
  | .bl _, .lst _ => rfl
  | .tup _, .non => rfl
  | .tup _, .int _ => rfl
  | .tup _, .bl _ => rfl
  | .tup _, .str _ => rfl
  | .tup _, .dct _ _ => rfl
  | .tup _, .typ _ => rfl
  | .tup _, .sn _ => rfl
  | .tup _, .obj _ _ _ => rfl
  | .tup _, .cls _ => rfl
  | .tup _, .lst _ => rfl
theorem mrgL_f : ∀ l m : List D, l.length = m.length -> mrgL false l m = m
  | [], [], _ => rfl
  | x :: l, y :: m, h => by
    show mrgD false x y :: mrgL false l m = y :: m
    rw [mrgD_f x y, mrgL_f l m (by simpa using h)]
  | [], _ :: _, h => by cases h
  | _ :: _, [], h => by cases h
end
theorem kIf_t {k j : Nat} : kIf true k j = k := by unfold kIf; split <;> rfl
theorem kIf_f {k j : Nat} : kIf false k j = j := by
  unfold kIf; split
  . assumption
  . rfl
theorem ifR_inv {t : Bool} {r s : R1} {d : D × Nat} {l : List Prop} (h : ifR t r s = .ok d l) (hp : allP l) : ∃ m, (if t = true then r else s) = .ok d m /\ allP m := by
  unfold ifR at h
  split at h
  . cases t with
    | true => cases h
    | false => exact ⟨l, h, hp⟩
  . rename_i p m
    split at h
    . cases t with
      | true => exact ⟨l, h, hp⟩
      | false => cases h
    . rename_i q n
      cases h
      obtain ⟨p1, p2⟩ := allP_append.mp hp
      cases t with
      | true => exact ⟨m, by rw [mrgD_t, kIf_t]; rfl, gd_inv p1 rfl⟩
      | false => exact ⟨n, by rw [mrgD_f, kIf_f]; rfl, gd_inv p2 rfl⟩
theorem blR_inv {α : Type} {p : D × Nat} {f : Bool -> Rs α} {a : α} {l : List Prop} (h : blR p f = .ok a l) : ∃ b, p.1 = .bl b /\ f b = .ok a l := by
  unfold blR at h
  split at h
  . rename_i b e; exact ⟨b, e, h⟩
  . cases h
theorem intR_inv {p : D × Nat} {f : Int -> R1} {a : D × Nat} {l : List Prop} (h : intR p f = .ok a l) : ∃ b, p.1 = .int b /\ f b = .ok a l := by
  unfold intR at h
  split at h
  . rename_i b e; exact ⟨b, e, h⟩
  . cases h
structure Ih (Φ : Fx) (n : Nat) : Prop where
  e : ∀ (e : Expr) {it : Bool} {sc : Scope} {ρ : Rho} {p : D × Nat} {l : List Prop} {X : Cx}, sizeOf e < n -> evE Φ e it sc ρ = .ok p l -> allP l -> Good Φ X sc -> Con X ρ e it p.1 p.2
  es : ∀ (es : List Expr) {sc : Scope} {ρ : Rho} {p : List D × Nat} {l : List Prop} {X : Cx}, sizeOf es < n -> evEs Φ es sc ρ = .ok p l -> allP l -> Good Φ X sc -> AD X ρ es p.1 p.2
  b : ∀ (op : BoolOp) (es : List Expr) {sc : Scope} {ρ : Rho} {b : Bool} {l : List Prop} {X : Cx}, sizeOf es < n -> evB Φ op es sc ρ = .ok b l -> allP l -> Good Φ X sc -> BoolCon X ρ op es b
  o : ∀ (e : Option Expr) {sc : Scope} {ρ : Rho} {o : Option Int} {l : List Prop} {X : Cx}, sizeOf e < n -> evO Φ e sc ρ = .ok o l -> allP l -> Good Φ X sc -> OD X ρ e o
theorem szE {a b n : Nat} (h : a < b) (hs : b < n + 1) : a < n := Nat.lt_of_lt_of_le h (Nat.le_of_lt_succ hs)
section
variable {Φ : Fx} {n : Nat} {it : Bool} {sc : Scope} {ρ : Rho} {r : D × Nat} {l : List Prop} {X : Cx}
theorem st_name {x : Str} {pos : Pos} (h : nameD Φ x sc ρ = .ok r l) (G : Good Φ X sc) : Con X ρ (.Name x pos) it r.1 r.2 := by
  unfold nameD at h
  split at h
  . rename_i hx
    split at h
    . rename_i hg
      split at h
      . rename_i d hd; cases h; exact con_plain (ed_con G hd hg hx) (fun _ => rfl)
      . split at h
        . rename_i T hT; cases h; exact con_plain (ed_typ G hT hg) (fun _ => rfl)
        . cases h
    . split at h
      . rename_i p hl
        unfold mk at h; cases h
        exact con_plain (ed_name (o := p.2) hl hx) (fun _ => rfl)
      . cases h
  . cases h
theorem st_bin (I : Ih Φ n) {a b : Expr} {op : Operator} {pos : Pos} (hs : sizeOf (Expr.BinOp a op b pos) < n + 1) (h : evE Φ (.BinOp a op b pos) it sc ρ = .ok r l) (hp : allP l) (G : Good Φ X sc) : Con X ρ (.BinOp a op b pos) it r.1 r.2 := by
  obtain ⟨p, l1, l2, h1, p1, h, p2⟩ := bnd_inv (show Rs.bnd _ _ = _ from h) hp
  obtain ⟨q, l3, l4, h2, p3, h, p4⟩ := bnd_inv h p2
  exact con_plain (ed_bin ((I.e a (szE (by simp <;> omega) hs) h1 p1 G).ed rfl) ((I.e b (szE (by simp <;> omega) hs) h2 p3 G).ed rfl) h p4) (fun _ => rfl)
theorem st_un (I : Ih Φ n) {a : Expr} {op : UnaryOp} {pos : Pos} (hs : sizeOf (Expr.UnaryOp op a pos) < n + 1) (h : evE Φ (.UnaryOp op a pos) it sc ρ = .ok r l) (hp : allP l) (G : Good Φ X sc) : Con X ρ (.UnaryOp op a pos) it r.1 r.2 := by
  obtain ⟨p, l1, l2, h1, p1, h, p2⟩ := bnd_inv (show Rs.bnd _ _ = _ from h) hp
  split at h
  . rename_i z hu
    cases h
    have c := I.e a (szE (by simp <;> omega) hs) h1 p1 G
    refine .of (ed_un (c.ed rfl) hu) fun b hb => ?_
    have hb : z = .bl b := hb
    subst hb
    unfold unD at hu
    split at hu
    . cases hu
    . rename_i e; cases hu; exact td_not (c.td rfl _ e)
    . cases hu
  . cases h
theorem st_cmp (I : Ih Φ n) {a b : Expr} {op : CmpOp} {pos : Pos} (hs : sizeOf (Expr.Compare a [op] [b] pos) < n + 1) (h : evE Φ (.Compare a [op] [b] pos) it sc ρ = .ok r l) (hp : allP l) (G : Good Φ X sc) : Con X ρ (.Compare a [op] [b] pos) it r.1 r.2 := by
  obtain ⟨p, l1, l2, h1, p1, h, p2⟩ := bnd_inv (show Rs.bnd _ _ = _ from h) hp
  obtain ⟨q, l3, l4, h2, p3, h, p4⟩ := bnd_inv h p2
  obtain ⟨z, l5, l6, hc, p5, h, p6⟩ := bnd_inv h p4
  cases h
  have ca := (I.e a (szE (by simp <;> omega) hs) h1 p1 G).ed rfl
  have cb := (I.e b (szE (by simp <;> omega) hs) h2 p3 G).ed rfl
  exact .of (ed_cmp G.room ca cb hc p5 (beh h2)) fun b' hb' => by cases hb'; exact td_cmp G.room ca cb hc p5 (beh h2)
theorem st_chain (I : Ih Φ n) {a b c : Expr} {op op2 : CmpOp} {pos : Pos} (hs : sizeOf (Expr.Compare a [op, op2] [b, c] pos) < n + 1) (h : evE Φ (.Compare a [op, op2] [b, c] pos) it sc ρ = .ok r l) (hp : allP l) (G : Good Φ X sc) : Con X ρ (.Compare a [op, op2] [b, c] pos) it r.1 r.2 := by
  obtain ⟨p, l1, l2, h1, p1, h, p2⟩ := bnd_inv (show Rs.bnd _ _ = _ from h) hp
  obtain ⟨q, l3, l4, h2, p3, h, p4⟩ := bnd_inv h p2
  obtain ⟨t, l5, l6, h3, p5, h, p6⟩ := bnd_inv h p4
  obtain ⟨x, y, z, r1, r2, e1, e2, e3, k1, k2, rfl⟩ := chD_inv h
  have ca := (I.e a (szE (by simp <;> omega) hs) h1 p1 G).ed rfl
  have cb := (I.e b (szE (by simp <;> omega) hs) h2 p3 G).ed rfl
  have cc := (I.e c (szE (by simp <;> omega) hs) h3 p5 G).ed rfl
  rw [e1] at ca
  rw [e2] at cb
  rw [e3] at cc
  exact .of (ed_chain G.room ca cb cc k1 k2 (beh h3)) fun b' hb' => by cases hb'; exact td_chain G.room ca cb cc k1 k2 (beh h3)
theorem st_if (I : Ih Φ n) {c a b : Expr} {pos : Pos} (hs : sizeOf (Expr.IfExp c a b pos) < n + 1) (h : evE Φ (.IfExp c a b pos) it sc ρ = .ok r l) (hp : allP l) (G : Good Φ X sc) : Con X ρ (.IfExp c a b pos) it r.1 r.2 := by
  obtain ⟨p, l1, l2, h1, p1, h, p2⟩ := bnd_inv (show Rs.bnd _ _ = _ from h) hp
  obtain ⟨t, ht, h⟩ := blR_inv h
  obtain ⟨m, he, hm⟩ := ifR_inv h p2
  have hc := (I.e c (szE (by simp <;> omega) hs) h1 p1 G).td rfl t ht
  cases t with
  | true =>
    rw [if_pos rfl] at he
    have ha := I.e a (szE (by simp <;> omega) hs) he hm G
    refine .of (ed_if hc (by rw [if_pos rfl]; exact ha.ed rfl)) fun b' hb' => ?_
    intro ow pins s σ H Q I ⟨E, q⟩
    refine isTrue_IfExp (thn (hc ow pins s σ H (fun t H1 => t = true /\ Same H H1) I ⟨E, fun H1 s1 => ⟨rfl, s1⟩⟩) fun t s1 ⟨H1, I1, e1, s1'⟩ => ?_)
    subst e1
    exact ha.td rfl b' hb' ow pins s1 σ H1 Q I1 ⟨E.same s1', fun H2 s2 => q H2 (s1'.trans s2)⟩
  | false =>
    rw [if_neg Bool.false_ne_true] at he
    have hb := I.e b (szE (by simp <;> omega) hs) he hm G
    refine .of (ed_if hc (by rw [if_neg Bool.false_ne_true]; exact hb.ed rfl)) fun b' hb' => ?_
    intro ow pins s σ H Q I ⟨E, q⟩
    refine isTrue_IfExp (thn (hc ow pins s σ H (fun t H1 => t = false /\ Same H H1) I ⟨E, fun H1 s1 => ⟨rfl, s1⟩⟩) fun t s1 ⟨H1, I1, e1, s1'⟩ => ?_)
    subst e1
    exact hb.td rfl b' hb' ow pins s1 σ H1 Q I1 ⟨E.same s1', fun H2 s2 => q H2 (s1'.trans s2)⟩
theorem plainIx_of {Φ : Fx} {e : Expr} {it : Bool} {sc : Scope} {ρ : Rho} {r : D × Nat} {l : List Prop} (h : evE Φ e it sc ρ = .ok r l) : PlainIx e := by
  cases e <;> first | (intro _ _; rfl) | cases h
theorem st_ix (I : Ih Φ n) {a i : Expr} {pos : Pos} (hs : sizeOf (Expr.Subscript a i pos) < n + 1) (h : ((evE Φ a false sc ρ).bnd fun p => (evE Φ i false sc ρ).bnd fun q => subD p q) = .ok r l) (hp : allP l) (G : Good Φ X sc) : Con X ρ (.Subscript a i pos) it r.1 r.2 := by
  obtain ⟨p, l1, l2, h1, p1, h, p2⟩ := bnd_inv h hp
  obtain ⟨q, l3, l4, h2, p3, h, p4⟩ := bnd_inv h p2
  exact con_plain (ed_sub ((I.e a (szE (by simp <;> omega) hs) h1 p1 G).ed rfl) ((I.e i (szE (by simp <;> omega) hs) h2 p3 G).ed rfl) (plainIx_of h2) h) (fun _ => rfl)
theorem st_slice (I : Ih Φ n) {a : Expr} {lo hi : Option Expr} {p2 pos : Pos} (hs : sizeOf (Expr.Subscript a (.Slice lo hi none p2) pos) < n + 1) (h : evE Φ (.Subscript a (.Slice lo hi none p2) pos) it sc ρ = .ok r l) (hp : allP l) (G : Good Φ X sc) : Con X ρ (.Subscript a (.Slice lo hi none p2) pos) it r.1 r.2 := by
  obtain ⟨p, l1, l2, h1, p1, h, q2⟩ := bnd_inv (show Rs.bnd _ _ = _ from h) hp
  obtain ⟨q, l3, l4, h2, p3, h, p4⟩ := bnd_inv h q2
  obtain ⟨q', l5, l6, h3, p5, h, p6⟩ := bnd_inv h p4
  exact con_plain (G.slf X ρ a lo hi p2 pos p.1 r.1 q q' p.2 r.2 l6 ((I.e a (szE (by simp <;> omega) hs) h1 p1 G).ed rfl) (I.o lo (szE (by simp <;> omega) hs) h2 p3 G) (I.o hi (szE (by simp <;> omega) hs) h3 p5 G) h p6) (fun _ => rfl)
theorem st_sub (I : Ih Φ n) {a i : Expr} {pos : Pos} (hs : sizeOf (Expr.Subscript a i pos) < n + 1) (h : evE Φ (.Subscript a i pos) it sc ρ = .ok r l) (hp : allP l) (G : Good Φ X sc) : Con X ρ (.Subscript a i pos) it r.1 r.2 := by
  cases i with
  | Slice lo hi st p2 =>
    cases st with
    | none => exact st_slice I hs h hp G
    | some e => exact st_ix I hs h hp G
  | _ => exact st_ix I hs h hp G
theorem st_call (I : Ih Φ n) {f : Str} {p pos : Pos} {args : List Expr} (hs : sizeOf args < n) (hf : sc.names.lookup f = some .globalImplicit) (h0 : ((evEs Φ args sc ρ).bnd fun p => callD Φ f it p.1 p.2) = .ok r l) (hp : allP l) (G : Good Φ X sc) : Con X ρ (.Call (.Name f p) args [] pos) it r.1 r.2 := by
  obtain ⟨q, l1, l2, h1, p1, h, p2⟩ := bnd_inv h0 hp
  clear h0
  have ha := I.es args hs h1 p1 G
  obtain ⟨hst, hlen⟩ := evEs_nostar h1 p1
  unfold callD at h
  split at h
  . rename_i F hF
    obtain ⟨d, l3, l4, h2, p3, h, p4⟩ := bnd_inv h p2
    cases h
    exact con_plain (ed_call G hF hf ha hst (fun z => by subst z; exact List.length_eq_zero_iff.mp hlen.symm) h2 p3) (fun _ => rfl)
  . split at h
    . rename_i B hB
      split at hB
      . rename_i hit
        have hI := G.itr f B hB
        refine ⟨fun z => (by rw [hit] at z; cases z), fun z => (by rw [hit] at z; cases z), fun _ tg l' hl ht => ?_⟩
        exact hI.2 X ρ p pos args q.1 q.2 r.1 r.2 l' tg l2 G.calm (G.gl f hf) (G.bl f hI.1) ha hst hlen h p2 hl ht
      . cases hB
    . split at h
      . rename_i B hB
        have hb := G.blt f B hB
        cases args with
        | nil =>
          have e0 : q.1 = [] := List.length_eq_zero_iff.mp hlen.symm
          rw [e0, hb.2.2.2.1] at h; cases h
        | cons e es => exact con_plain (ed_blt G hb hf ha hst h p2) (fun _ => rfl)
      . cases h
theorem st_callN (I : Ih Φ n) {f : Str} {p pos : Pos} {args : List Expr} (hs : sizeOf (Expr.Call (.Name f p) args [] pos) < n + 1) (h : evE Φ (.Call (.Name f p) args [] pos) it sc ρ = .ok r l) (hp : allP l) (G : Good Φ X sc) : Con X ρ (.Call (.Name f p) args [] pos) it r.1 r.2 := by
  rw [evE_calN] at h
  split at h
  . rename_i hf
    exact st_call I (szE (by simp <;> omega) hs) hf h hp G
  . cases h
theorem st_callA (I : Ih Φ n) {a : Expr} {m : Str} {ap pos : Pos} {args : List Expr} (hs : sizeOf (Expr.Call (.Attribute a m ap) args [] pos) < n + 1) (h : evE Φ (.Call (.Attribute a m ap) args [] pos) it sc ρ = .ok r l) (hp : allP l) (G : Good Φ X sc) : Con X ρ (.Call (.Attribute a m ap) args [] pos) it r.1 r.2 := by
  rw [evE_calA] at h
  split at h
  . rename_i hln
    obtain ⟨p, l1, l2, h1, p1, h, p2⟩ := bnd_inv h hp
    obtain ⟨q, l3, l4, h2, p3, h, p4⟩ := bnd_inv h p2
    obtain ⟨hst, hlen⟩ := evEs_nostar h2 p3
    have hea := (I.e a (szE (by simp <;> omega) hs) h1 p1 G).ed rfl
    have hes := I.es args (szE (by simp <;> omega) hs) h2 p3 G
    obtain ⟨x, kx⟩ := p
    unfold mthD at h
    dsimp only at h hea
    split at h
    . rename_i n ns es
      split at h
      . rename_i hc
        split at h
        . rename_i F hF
          obtain ⟨d, l5, l6, h3, p5, h, p6⟩ := bnd_inv h p4
          cases h
          exact con_plain (ed_meth G hF hea hes hst hlen hc.1 hc.2.1 hc.2.2 hln h3 p5) (fun _ => rfl)
        . cases h
      . cases h
    . split at h
      . rename_i hb
        split at h
        . rename_i M hM
          exact con_plain (G.mth m M hM X ρ a args ap pos x kx q.1 q.2 r.1 r.2 l4 G.calm G.room hea hes hst hlen hln hb h p4) (fun _ => rfl)
        . cases h
      . cases h
  . cases h
theorem turn_of {elt tg : Expr} {ifs : List Expr} {scope : Scope} {ds : List D} {q : List D × Nat} {m : List Prop} (hE : ∀ {ρ : Rho} {p : D × Nat} {l : List Prop} {X : Cx}, evE Φ elt false scope ρ = .ok p l -> allP l -> Good Φ X scope -> Con X ρ elt false p.1 p.2)
    (hB : ∀ {ρ : Rho} {b : Bool} {l : List Prop} {X : Cx}, evB Φ .And ifs scope ρ = .ok b l -> allP l -> Good Φ X scope -> BoolCon X ρ .And ifs b) (hc : cOk sc scope = true) (G : Good Φ X sc)
    (h : compD (fun d => match bindG scope tg d (flt scope ρ) with
            | none => .st
            | some ρ' => (evB Φ .And ifs scope ρ').bnd fun b => cond b ((evE Φ elt false scope ρ').bnd fun r => .ok (some r) []) (.ok none [])) ds = .ok q m) (hp : allP m) (hj : q.2 <= 1) :
    ∃ f : D -> Option D, q.1 = ds.filterMap f /\ ∀ cl C s H fp, ∀ d ∈ ds, TurnD (inX X scope cl C (scope.names.map (·.1)) s H fp) (flt scope ρ) tg ifs elt q.2 d (f d) := by
  generalize hst : (fun d => match bindG scope tg d (flt scope ρ) with
            | none => .st
            | some ρ' => (evB Φ .And ifs scope ρ').bnd fun b => cond b ((evE Φ elt false scope ρ').bnd fun r => .ok (some r) []) (.ok none []) : D -> Rs (Option (D × Nat))) = step at h
  obtain ⟨c1, c2, c3⟩ := compD_ok h hp
  refine ⟨_, c2, fun cl C s H fp d hd => ?_⟩
  have G' := good_in (cl := cl) (C := C) (s := s) (H := H) (fp := fp) G hc
  obtain ⟨x, lx, hx, px⟩ := c1 d hd
  have c3 := c3 hj d hd
  have hs := congrFun hst d
  unfold outOf
  rw [hx]
  split at hs
  . rw [<- hs] at hx; cases hx
  . rename_i ρ' hb
    have gd := gd_of G' hb
    have ext : ∀ x y, flt scope ρ x = some y -> ρ' x = some y := fun x y hxy => bindG_ext hb x y (flt_look hxy).2 hxy
    have hx0 := hx
    rw [<- hs] at hx
    obtain ⟨b, l3, l4, h2, p3, hx, p4⟩ := bnd_inv hx px
    have ts := (hB h2 p3 G').ts rfl
    cases b with
    | false =>
      cases hx
      exact ⟨ρ', false, gd, ext, ts, rfl⟩
    | true =>
      rw [cond_true] at hx
      obtain ⟨z, l5, l6, h3, p5, hx, p6⟩ := bnd_inv hx p4
      cases hx
      exact ⟨ρ', true, gd, ext, ts, rfl, ((hE h3 p5 G').ed rfl).up (c3 z lx hx0) hj⟩
theorem st_comp (I : Ih Φ n) {elt tg iter : Expr} {ifs : List Expr} {scope : Scope} {pos : Pos} (hs : sizeOf (Expr.ListComp elt [⟨tg, iter, ifs, 0⟩] scope pos) < n + 1) (h : evE Φ (.ListComp elt [⟨tg, iter, ifs, 0⟩] scope pos) it sc ρ = .ok r l) (hp : allP l) (G : Good Φ X sc) :
    ∃ ds f k, (llessL ds = true \/ k <= 1) /\ r.2 <= 1 /\ ds.length < sizeLine /\ CScope X.env scope (scope.names.map (·.1)) /\ (∀ x d o, flt scope ρ x = some (d, o) -> x ∈ scope.names.map (·.1)) /\ IE X ρ tg iter ds k /\
      (∀ cl C s H fp, ∀ d ∈ ds, TurnD (inX X scope cl C (scope.names.map (·.1)) s H fp) (flt scope ρ) tg ifs elt r.2 d (f d)) /\ (∀ x, foldedSetIterable iter X.env x = pure x) /\ r.1 = .lst (ds.filterMap f) := by
  rw [evE_cmp] at h
  split at h
  . rename_i hc
    obtain ⟨p, l1, l2, h1, p1, h, p2⟩ := bnd_inv h hp
    split at h
    . rename_i ds hd
      split at h
      . rename_i ht
        obtain ⟨u0, l7, l8, h7, p7, h, p8⟩ := bnd_inv h p2
        cases h7
        have hl := And.intro p7.1 p7.2.1
        obtain ⟨q, l3, l4, h2, p3, h, p4⟩ := bnd_inv h p8
        split at h
        . rename_i hj
          cases h
          obtain ⟨f, e1, t⟩ := turn_of (fun a b c => I.e elt (by first | omega | (simp at *; omega)) a b c) (fun a b c => I.b .And ifs (by first | omega | (simp at *; omega)) a b c) hc G h2 p3 hj
          refine ⟨ds, f, p.2, hl.2, hj, Nat.lt_of_le_of_lt hl.1 manyLine', cscope_of G hc, fun x d o hx => lookup_mem (flt_look hx).2, (I.e iter (by first | omega | (simp at *; omega)) h1 p1 G).ie rfl tg ds hd ht, t, folded_of h1, by rw [e1]⟩
        . cases h
      . cases h
    . cases h
  . cases h
theorem gens_eq {elt : Expr} {gens : List Comprehension} {scope : Scope} {pos : Pos} (h : evE Φ (.ListComp elt gens scope pos) it sc ρ = .ok r l) : ∃ tg iter ifs, gens = [⟨tg, iter, ifs, 0⟩] := by
  match gens, h with
  | [⟨tg, iter, ifs, 0⟩], h => exact ⟨_, _, _, rfl⟩
  | [], h => cases h
  | ⟨_, _, _, .ofNat (n + 1)⟩ :: r, h => cases r <;> cases h
  | ⟨_, _, _, .negSucc n⟩ :: _, h => cases h
  | ⟨_, _, _, 0⟩ :: _ :: _, h => cases h
theorem ev_st (I : Ih Φ n) (e : Expr) (hs : sizeOf e < n + 1) (h : evE Φ e it sc ρ = .ok r l) (hp : allP l) (G : Good Φ X sc) : Con X ρ e it r.1 r.2 := by
  cases e with
  | Constant c k p =>
    replace h : (match cst c with | some d => .ok (d, 0) [] | none => .st : R1) = .ok r l := h
    split at h
    . rename_i d hc; cases h; exact con_plain (ed_cst hc) (fun _ => rfl)
    . cases h
  | Name x p => exact st_name h G
  | BinOp a op b p => exact st_bin I hs h hp G
  | UnaryOp op a p => exact st_un I hs h hp G
  | BoolOp op es p =>
    rw [evE_bop] at h
    split at h
    . cases h
    . rename_i hne
      obtain ⟨b, l1, l2, h1, p1, h, p2⟩ := bnd_inv h hp
      cases h
      have ne : es ≠ [] := fun z => hne (by rw [z]; rfl)
      have c := I.b op es (szE (by simp <;> omega) hs) h1 p1 G
      exact .of (c.ed ne p) fun b' hb' => by cases hb'; exact fun ow => (c.tw ne p ow).pt
  | Compare a ops bs p =>
    match ops, bs, hs, h with
    | [op], [b], hs, h => exact st_cmp I hs h hp G
    | [], bs, _, h => cases h
    | [op], [], _, h => cases h
    | [op], _ :: _ :: _, _, h => cases h
    | [op, op2], [b, c], hs, h => exact st_chain I hs h hp G
    | [_, _], [], _, h => cases h
    | [_, _], [_], _, h => cases h
    | [_, _], _ :: _ :: _ :: _, _, h => cases h
    | _ :: _ :: _ :: _, bs, _, h => cases h
  | IfExp c a b p => exact st_if I hs h hp G
  | Tuple es k p =>
    obtain ⟨q, l1, l2, h1, p1, h, p2⟩ := bnd_inv (show Rs.bnd _ _ = _ from h) hp
    split at h
    . rename_i hl
      unfold mk at h; cases h
      exact con_plain (ed_tuple (I.es es (szE (by simp <;> omega) hs) h1 p1 G) hl) (fun _ => rfl)
    . cases h
  | List es p =>
    obtain ⟨q, l1, l2, h1, p1, h, p2⟩ := bnd_inv (show Rs.bnd _ _ = _ from h) hp
    split at h
    . rename_i hl
      cases h
      exact con_plain (ed_list (I.es es (szE (by simp <;> omega) hs) h1 p1 G) hl.2 hl.1) (fun _ => rfl)
    . cases h
  | Attribute a f p =>
    cases a with
    | Name x pn =>
      obtain ⟨q, l1, l2, h1, p1, h, p2⟩ := bnd_inv (show Rs.bnd _ _ = _ from h) hp
      have hea := (I.e (.Name x pn) (szE (by simp <;> omega) hs) (it := false) h1 p1 G).ed rfl
      obtain ⟨d, kd⟩ := q
      unfold fldD at h
      dsimp only at h hea
      split at h
      . rename_i n ns ds
        split at h
        . rename_i hf
          split at h
          . rename_i e hl
            cases h
            exact con_plain (ed_fld G hf hea rfl hl) (fun _ => rfl)
          . cases h
        . cases h
      . cases h
    | _ => cases h
  | Dict ks vs p =>
    match ks, vs, h with
    | [], [], h => cases h; exact con_plain ed_emp (fun _ => rfl)
    | _ :: _, _, h => cases h
    | [], _ :: _, h => cases h
  | Subscript a i p => exact st_sub I hs h hp G
  | Call f args kws p =>
    cases f with
    | Name f fp =>
      cases kws with
      | nil => exact st_callN I hs h hp G
      | cons _ _ => cases h
    | Attribute a m ap =>
      cases kws with
      | nil => exact st_callA I hs h hp G
      | cons _ _ => cases h
    | _ => cases h
  | ListComp elt gens scope p =>
    obtain ⟨tg, iter, ifs, rfl⟩ := gens_eq h
    obtain ⟨ds, f, k, a1, a2, a3, a4, a5, a6, a7, a8, a9⟩ := st_comp I hs h hp G
    rw [a9]
    exact con_plain (ed_comp G.calm G.nd a1 a2 a3 a4 a5 a6 a7 a8) (fun _ => rfl)
  | _ => cases h
theorem evs_st (I : Ih Φ n) (es : List Expr) {r : List D × Nat} (hs : sizeOf es < n + 1) (h : evEs Φ es sc ρ = .ok r l) (hp : allP l) (G : Good Φ X sc) : AD X ρ es r.1 r.2 := by
  cases es with
  | nil => cases h; exact ad_nil
  | cons e es =>
    obtain ⟨p, l1, l2, h1, p1, h, p2⟩ := bnd_inv (show Rs.bnd _ _ = _ from h) hp
    obtain ⟨q, l3, l4, h2, p3, h, p4⟩ := bnd_inv h p2
    cases h
    exact ad_cons ((I.e e (szE (by simp <;> omega) hs) h1 p1 G).ed rfl) (I.es es (szE (by simp <;> omega) hs) h2 p3 G) (nostar_one (evE_nostar h1))
theorem andR_inv {b c : Bool} {r : Rs Bool} {l : List Prop} (h : andR b r = .ok c l) (hp : allP l) : (b = true /\ ∃ m, r = .ok c m /\ allP m) \/ (b = false /\ c = false) := by
  unfold andR at h
  split at h
  . rename_i c' m
    cases h
    cases b with
    | true => exact .inl ⟨rfl, m, rfl, gd_inv hp rfl⟩
    | false => exact .inr ⟨rfl, rfl⟩
  . cases b with
    | true => cases h
    | false => cases h; exact .inr ⟨rfl, rfl⟩
theorem orR_inv {b c : Bool} {r : Rs Bool} {l : List Prop} (h : orR b r = .ok c l) (hp : allP l) : (b = false /\ ∃ m, r = .ok c m /\ allP m) \/ (b = true /\ c = true) := by
  unfold orR at h
  split at h
  . rename_i c' m
    cases h
    cases b with
    | false => exact .inl ⟨rfl, m, rfl, gd_inv hp rfl⟩
    | true => exact .inr ⟨rfl, rfl⟩
  . cases b with
    | false => cases h
    | true => cases h; exact .inr ⟨rfl, rfl⟩
theorem evb_st (I : Ih Φ n) (op : BoolOp) (es : List Expr) {b : Bool} (hs : sizeOf es < n + 1) (h : evB Φ op es sc ρ = .ok b l) (hp : allP l) (G : Good Φ X sc) : BoolCon X ρ op es b := by
  cases es with
  | nil =>
    cases op with
    | And => cases h; exact ⟨fun z => absurd rfl z, fun z => absurd rfl z, fun _ => ts_nil⟩
    | Or => cases h; exact ⟨fun z => absurd rfl z, fun z => absurd rfl z, fun z => (by cases z)⟩
  | cons e es =>
    cases op with
    | And =>
      obtain ⟨p, l1, l2, h1, p1, h, p2⟩ := bnd_inv (show Rs.bnd _ _ = _ from h) hp
      obtain ⟨b', hb, h⟩ := blR_inv h
      have c := I.e e (szE (by simp <;> omega) hs) h1 p1 G
      have ce := c.ed rfl
      rw [hb] at ce
      have ct := c.td rfl b' hb
      rcases andR_inv h p2 with ⟨rfl, m, h, pm⟩ | ⟨rfl, rfl⟩
      . cases es with
        | nil => cases h; exact boolCon_one ce ct
        | cons e2 es => exact boolCon_and ce ct (I.b .And (e2 :: es) (szE (by simp <;> omega) hs) h pm G)
      . cases es with
        | nil => exact boolCon_one ce ct
        | cons e2 es => exact boolCon_andF ce ct (fun pos => ⟨_, pe_never⟩) (fun pos => ⟨_, pw_never⟩)
    | Or =>
      obtain ⟨p, l1, l2, h1, p1, h, p2⟩ := bnd_inv (show Rs.bnd _ _ = _ from h) hp
      obtain ⟨b', hb, h⟩ := blR_inv h
      have c := I.e e (szE (by simp <;> omega) hs) h1 p1 G
      have ce := c.ed rfl
      rw [hb] at ce
      have ct := c.td rfl b' hb
      rcases orR_inv h p2 with ⟨rfl, m, h, pm⟩ | ⟨rfl, rfl⟩
      . cases es with
        | nil => cases h; exact boolCon_one ce ct
        | cons e2 es => exact boolCon_or ce ct (I.b .Or (e2 :: es) (szE (by simp <;> omega) hs) h pm G)
      . cases es with
        | nil => exact boolCon_one ce ct
        | cons e2 es => exact boolCon_orT ce ct (fun pos => ⟨_, pe_never⟩) (fun pos => ⟨_, pw_never⟩)
theorem evo_st (I : Ih Φ n) (e : Option Expr) {o : Option Int} (hs : sizeOf e < n + 1) (h : evO Φ e sc ρ = .ok o l) (hp : allP l) (G : Good Φ X sc) : OD X ρ e o := by
  cases e with
  | none => cases h; exact od_none
  | some e =>
    obtain ⟨p, l1, l2, h1, p1, h, p2⟩ := bnd_inv (show Rs.bnd _ _ = _ from h) hp
    have c := (I.e e (szE (by simp <;> omega) hs) h1 p1 G).ed rfl
    split at h
    . rename_i i hi
      cases h
      rw [hi] at c
      exact od_some c
    . cases h
end
theorem ih_all (Φ : Fx) : ∀ n, Ih Φ n
  | 0 => ⟨fun _ _ _ _ _ _ _ h => absurd h (Nat.not_lt_zero _), fun _ _ _ _ _ _ h => absurd h (Nat.not_lt_zero _), fun _ _ _ _ _ _ _ h => absurd h (Nat.not_lt_zero _), fun _ _ _ _ _ _ h => absurd h (Nat.not_lt_zero _)⟩
  | n + 1 => ⟨fun e _ _ _ _ _ _ hs h hp G => ev_st (ih_all Φ n) e hs h hp G, fun e _ _ _ _ _ hs h hp G => evs_st (ih_all Φ n) e hs h hp G, fun op e _ _ _ _ _ hs h hp G => evb_st (ih_all Φ n) op e hs h hp G, fun e _ _ _ _ _ hs h hp G => evo_st (ih_all Φ n) e hs h hp G⟩
theorem ev_ok {Φ : Fx} (e : Expr) {it : Bool} {sc : Scope} {ρ : Rho} {p : D × Nat} {l : List Prop} {X : Cx} (h : evE Φ e it sc ρ = .ok p l) (hp : allP l) (G : Good Φ X sc) : Con X ρ e it p.1 p.2 := (ih_all Φ _).e e (Nat.lt_succ_self _) h hp G
theorem evs_ok {Φ : Fx} (es : List Expr) {sc : Scope} {ρ : Rho} {p : List D × Nat} {l : List Prop} {X : Cx} (h : evEs Φ es sc ρ = .ok p l) (hp : allP l) (G : Good Φ X sc) : AD X ρ es p.1 p.2 := (ih_all Φ _).es es (Nat.lt_succ_self _) h hp G
end Sp
set_option Elab.async false
set_option linter.all false
set_option maxRecDepth 100000
namespace Sp
open PySem PySem.Spec PyProof.Rows L2
structure Keep (ow : Ow) (H : Hp) (ow' : Ow) (H' : Hp) : Prop where
  keep : ∀ a o, H a = some o -> (nm o \/ ow a = none) -> H' a = some o
  low : ∀ a o, H a = some o -> ow a = none -> ow' a = none
theorem Keep.refl (ow : Ow) (H : Hp) : Keep ow H ow H := ⟨fun _ _ h _ => h, fun _ _ _ h => h⟩
theorem Keep.same {ow : Ow} {H H' : Hp} (s : Same H H') : Keep ow H ow H' := ⟨fun a o h _ => s a o h, fun _ _ _ h => h⟩
theorem Keep.trans {ow ow1 ow2 : Ow} {H H1 H2 : Hp} (a : Keep ow H ow1 H1) (b : Keep ow1 H1 ow2 H2) : Keep ow H ow2 H2 :=
  ⟨fun x o h c => b.keep x o (a.keep x o h c) (c.imp id fun z => a.low x o h z), fun x o h z => b.low x o (a.keep x o h (.inr z)) (a.low x o h z)⟩
def BaseOk (H0 : Hp) (ow : Ow) (H : Hp) : Prop := ∀ a o, H0 a = some o -> H a = some o /\ ow a = none
theorem BaseOk.keep {H0 : Hp} {ow ow' : Ow} {H H' : Hp} (b : BaseOk H0 ow H) (k : Keep ow H ow' H') : BaseOk H0 ow' H' := fun a o h => let ⟨h1, h2⟩ := b a o h; ⟨k.keep a o h1 (.inr h2), k.low a o h1 h2⟩
theorem BaseOk.sm {H0 : Hp} {ow : Ow} {H : Hp} (b : BaseOk H0 ow H) : Same H0 H := fun a o h => (b a o h).1
variable {X : Cx}
def Post (X : Cx) (H0 : Hp) (ow : Ow) (H : Hp) (fl : Fl) (D : Ends) : Prop :=
  match fl with
  | .nx ρ => ∀ ow' σ' H', EnvOk X ow' H' σ' ρ -> σ'.length = X.N.length -> Keep ow H ow' H' -> D.nx σ' H'
  | .bk ρ => ∀ ow' σ' H', EnvOk X ow' H' σ' ρ -> σ'.length = X.N.length -> Keep ow H ow' H' -> D.bk σ' H'
  | .ct ρ => ∀ ow' σ' H', EnvOk X ow' H' σ' ρ -> σ'.length = X.N.length -> Keep ow H ow' H' -> D.ct σ' H'
  | .rt d => ∀ v H', Same H0 H' -> Rep X.K H' (fun a b => b = true /\ H0 a = none) d v -> D.rt v H'
theorem Post.keep {H0 : Hp} {ow ow' : Ow} {H H' : Hp} {fl : Fl} {D : Ends} (p : Post X H0 ow H fl D) (k : Keep ow H ow' H') : Post X H0 ow' H' fl D := by
  cases fl with
  | nx ρ => exact fun ow2 σ2 H2 a b c => p ow2 σ2 H2 a b (k.trans c)
  | bk ρ => exact fun ow2 σ2 H2 a b c => p ow2 σ2 H2 a b (k.trans c)
  | ct ρ => exact fun ow2 σ2 H2 a b c => p ow2 σ2 H2 a b (k.trans c)
  | rt d => exact p
def tSD (X : Cx) (H0 : Hp) (ρ : Rho) (fl : Fl) : TS := fun D σ H => ∃ ow, EnvOk X ow H σ ρ /\ σ.length = X.N.length /\ BaseOk H0 ow H /\ Post X H0 ow H fl D
def SD (X : Cx) (H0 : Hp) (ρ : Rho) (st : Stmt) (fl : Fl) : Prop := PS X st (tSD X H0 ρ fl)
def SsD (X : Cx) (H0 : Hp) (ρ : Rho) (st : List Stmt) (fl : Fl) : Prop := PSs X st (tSD X H0 ρ fl)
theorem ssd_nil {H0 : Hp} {ρ : Rho} : SsD X H0 ρ [] (.nx ρ) := fun pins s σ H D I ⟨ow, E, hl, B, q⟩ => pss_nil pins s σ H D I (q ow σ H E hl (Keep.refl _ _))
theorem ssd_cons {H0 : Hp} {ρ ρ1 : Rho} {st : Stmt} {ss : List Stmt} {fl : Fl} (h1 : SD X H0 ρ st (.nx ρ1)) (h2 : SsD X H0 ρ1 ss fl) : SsD X H0 ρ (st :: ss) fl := fun pins s σ H D I ⟨ow, E, hl, B, q⟩ =>
  pss_cons h1 h2 pins s σ H D I ⟨ow, E, hl, B, fun ow' σ' H' E' hl' k => ⟨ow', E', hl', B.keep k, q.keep k⟩⟩
theorem ssd_stop {H0 : Hp} {ρ : Rho} {st : Stmt} {ss : List Stmt} {fl : Fl} (h1 : SD X H0 ρ st fl) (hf : ∀ ρ', fl ≠ .nx ρ') : SsD X H0 ρ (st :: ss) fl := fun pins s σ H D I ⟨ow, E, hl, B, q⟩ =>
  pss_cons h1 pss_never pins s σ H D I ⟨ow, E, hl, B, by
    cases fl with
    | nx ρ' => exact absurd rfl (hf ρ')
    | bk ρ' => exact q
    | ct ρ' => exact q
    | rt d => exact q⟩
theorem sd_ret {H0 : Hp} {ρ : Rho} {e : Expr} {pos : Pos} {d : D} {k : Nat} (h : ED X ρ e d k) (hk : k = 0 \/ k = 2) : SD X H0 ρ (.Return (some e) pos) (.rt d) := fun pins s σ H D I ⟨ow, E, hl, B, q⟩ =>
  ps_ret (h ow) pins s σ H D I ⟨E, fun v H1 s1 r1 => q v H1 (B.sm.trans s1) (r1.imp fun a b p => by
    rcases hk with rfl | rfl
    . exact ⟨p.1, B.sm.free p.2⟩
    . refine ⟨p.1, p.2.elim (fun z => ?_) B.sm.free⟩
      cases e0 : H0 a with
      | none => rfl
      | some o => exact absurd (B a o e0).2 z)⟩
theorem env_dem {ow : Ow} {H : Hp} {σ : L2.St} {ρ : Rho} (E : EnvOk X ow H σ ρ) : EnvOk X (fun _ => none) H σ (demAll ρ) := by
  refine ⟨fun x d o h => ?_, fun a z => absurd rfl z⟩
  unfold demAll at h
  cases e : ρ x with
  | none => rw [e] at h; cases h
  | some y =>
    rw [e] at h
    cases h
    obtain ⟨i, v, h1, h2, h3, h4⟩ := E.get x y.1 y.2 e
    exact ⟨i, v, h1, h2, h3, h4.imp fun _ _ _ _ => rfl⟩
theorem sd_retD {H0 : Hp} {ρ : Rho} {e : Expr} {pos : Pos} {d : D} {k : Nat} (h : ED X (demAll ρ) e d k) (hk : k = 0 \/ k = 2) : SD X H0 ρ (.Return (some e) pos) (.rt d) := fun pins s σ H D I ⟨ow, E, hl, B, q⟩ =>
  ps_ret (h fun _ => none) pins s σ H D I ⟨env_dem E, fun v H1 s1 r1 => q v H1 (B.sm.trans s1) (r1.imp fun a b p => by
    rcases hk with rfl | rfl
    . exact ⟨p.1, B.sm.free p.2⟩
    . exact ⟨p.1, p.2.elim (fun z => absurd rfl z) B.sm.free⟩)⟩
theorem sd_expr {H0 : Hp} {ρ : Rho} {e : Expr} {pos : Pos} {d : D} {k : Nat} (h : ED X ρ e d k) (hc : ∃ f p args ks cp, e = .Call (.Name f p) args ks cp) : SD X H0 ρ (.Expr e pos) (.nx ρ) := fun pins s σ H D I ⟨ow, E, hl, B, q⟩ => by
  obtain ⟨f, p, args, ks, cp, rfl⟩ := hc
  exact ps_expr (h ow) rfl pins s σ H D I ⟨E, fun v H1 s1 r1 => q ow σ H1 (E.same s1) hl (Keep.same s1)⟩
theorem sd_retN {H0 : Hp} {ρ : Rho} {pos : Pos} : SD X H0 ρ (.Return none pos) (.rt .non) := fun pins s σ H D I ⟨ow, E, hl, B, q⟩ => ps_retN pins s σ H D I (q .non H B.sm (by rw [Rep]))
theorem sd_pass {H0 : Hp} {ρ : Rho} {pos : Pos} : SD X H0 ρ (.Pass pos) (.nx ρ) := fun pins s σ H D I ⟨ow, E, hl, B, q⟩ => ps_pass pins s σ H D I (q ow σ H E hl (Keep.refl _ _))
theorem sd_break {H0 : Hp} {ρ : Rho} {pos : Pos} : SD X H0 ρ (.Break pos) (.bk ρ) := fun pins s σ H D I ⟨ow, E, hl, B, q⟩ => ps_break pins s σ H D I (q ow σ H E hl (Keep.refl _ _))
theorem sd_cont {H0 : Hp} {ρ : Rho} {pos : Pos} : SD X H0 ρ (.Continue pos) (.ct ρ) := fun pins s σ H D I ⟨ow, E, hl, B, q⟩ => ps_continue pins s σ H D I (q ow σ H E hl (Keep.refl _ _))
theorem sd_if {H0 : Hp} {ρ : Rho} {c : Expr} {a b : List Stmt} {pos : Pos} {t : Bool} {fl : Fl} (hc : TD X ρ c t) (h : if t = true then SsD X H0 ρ a fl else SsD X H0 ρ b fl) : SD X H0 ρ (.If c a b pos) fl := by
  cases t with
  | true =>
    intro pins s σ H D I ⟨ow, E, hl, B, q⟩
    exact ps_if (hc ow) h pss_never pins s σ H D I ⟨E, fun H1 s1 => by
      show if true = true then _ else _
      rw [if_pos rfl]
      exact ⟨ow, E.same s1, hl, B.keep (Keep.same s1), q.keep (Keep.same s1)⟩⟩
  | false =>
    intro pins s σ H D I ⟨ow, E, hl, B, q⟩
    exact ps_if (hc ow) pss_never h pins s σ H D I ⟨E, fun H1 s1 => by
      show if false = true then _ else _
      rw [if_neg Bool.false_ne_true]
      exact ⟨ow, E.same s1, hl, B.keep (Keep.same s1), q.keep (Keep.same s1)⟩⟩
theorem env_own {ow : Ow} {H H1 : Hp} {σ : L2.St} {ρ : Rho} {x : Str} {d : D} {v : V} {i : Nat} (hN : X.N.Nodup) (hl : σ.length = X.N.length) (E : EnvOk X ow H σ ρ) (sm : Same H H1) (hi : X.N[i]? = some x) (hv : Vis X.env.scope x) (r : Rep X.K H1 (Kp ow H 0) d v) :
    ∃ ow', EnvOk X ow' H1 (σ.set i (some v)) (putR ρ x (d, true)) /\ Keep ow H ow' H1 := by
  classical
  let ow' : Ow := fun a => if H a = none /\ ∃ o, H1 a = some o then some (some x) else ow a
  have o1 : ∀ a o, H a = some o -> ow' a = ow a := fun a o h => if_neg (fun z => by rw [h] at z; cases z.1)
  have E1 : EnvOk X ow' H1 σ ρ := ⟨fun y e o h => by
    obtain ⟨j, w, e1, e2, e3, e4⟩ := E.get y e o h
    refine ⟨j, w, e1, e2, e3, Rep.same sm (e4.impH (fun a ob ha p => ?_) fun a p => ?_)⟩
    . cases o with
      | true => exact ⟨p.1, (o1 a ob ha).trans p.2⟩
      | false => exact fun z => (o1 a ob ha).trans (p z)
    . cases o with
      | true => cases p.1
      | false => exact fun z => (by cases z), fun a ha => by
    by_cases hz : H a = none /\ ∃ o, H1 a = some o
    . exact hz.2
    . have : ow' a = ow a := if_neg hz
      rw [this] at ha
      exact (E.own.same sm) a ha⟩
  refine ⟨ow', env_put hN hl E1 hi hv (r.impH (fun a o ha p => ⟨rfl, if_pos ⟨p.2, o, ha⟩⟩) fun a p => (by cases p.1)), fun a o h _ => sm a o h, fun a o h z => (o1 a o h).trans z⟩
theorem swaps_plain {e : Expr} {t : Option Expr} {n : Nat} {env : Env} (h : isComp e = false) : swapsWith e t n env = pure false := by
  cases e <;> first | rfl | cases h
theorem sd_set {Φ : Fx} {sc : Scope} {H0 : Hp} {ρ : Rho} {e : Expr} {x : Str} {p pos : Pos} {d : D} {k : Nat} {o : Bool} (G : Good Φ X sc) (hx : locK sc x = true) (h : ED X ρ e d k) (ho : (k = 0 /\ o = true) \/ (k = 1 /\ o = false)) (hs : swapsWith e (some (.Name x p)) pos.line X.env = pure false) :
    SD X H0 ρ (.Assign [.Name x p] e pos) (.nx (putR ρ x (d, o))) := by
  obtain ⟨g1, g2, g3, i, g4⟩ := loc_of G hx
  intro pins s σ H D I ⟨ow, E, hl, B, q⟩
  refine ps_set (i := i) G.nd g4 g1 (h ow) hs g3 pins s σ H D I ⟨E, fun v H1 s1 r1 => ?_⟩
  show D.nx (σ.set i (some v)) H1
  rcases ho with ⟨rfl, rfl⟩ | ⟨rfl, rfl⟩
  . obtain ⟨ow', E', k'⟩ := env_own G.nd hl E s1 g4 g2 r1
    exact q ow' _ H1 E' (by rw [List.length_set]; exact hl) k'
  . exact q ow _ H1 (env_put G.nd hl (E.same s1) g4 g2 r1) (by rw [List.length_set]; exact hl) (Keep.same s1)
theorem swaps_tup {e : Expr} {es : List Expr} {n k : Nat} {p : Pos} {env : Env} : swapsWithSole [.Tuple es n p] e k env = pure false := by
  cases e <;> rfl
theorem swaps_sub {e a i : Expr} {k : Nat} {p : Pos} {env : Env} : swapsWithSole [.Subscript a i p] e k env = pure false := by
  cases e <;> rfl
def gLst (K : PySem.W.Frag) (n : Nat) (t : TGs) : TG := fun v σ H Q => ∃ a xs, v = .ref a /\ SqL K H a xs /\ xs.length = n /\ t xs σ H Q
theorem pg_lst {es : List Expr} {k : Nat} {t : TGs} {n : Nat} {pos : Pos} (hc : X.calm = true) (h : PGs X es t)
    (hn : (assignEach es X.env).length = n) (hst : (assignEach es X.env).findIdx? (·.1) = none) : PG X (.Tuple es k pos) (gLst X.K n t) := by
  intro pins s σ H v u Q I r hw
  obtain ⟨a, xs, e1, hq, hl, hw⟩ := hw
  subst e1
  cases r
  obtain ⟨its, rv, pl, hz⟩ := I.list hq
  have hsz : (assignEach es X.env).length = its.toArray.size := by simp [hn, <- hl, rv.length]
  rw [assign_Tuple]
  refine wpAny_bind (wpAny_standAt ?_)
  unfold unpack
  rw [hst, hsz]
  refine wpAny_bind (wpAny_holding (PySem.W.kun_itemsOf (I.ok.hd hc) pl.isList fun h' hx => ?_))
  have I1 : Inv X pins σ H { s with heap := h' } := I.kept (t' := s.toks) fun b o e => hx b o (Nat.ne_of_lt (Heap.lt_size e)) e
  exact h pins _ σ H xs _ Q I1 (by simpa using rv) hw
theorem rep_shared {ow : Ow} {H H1 : Hp} {ds : List D} {vs : List V} {k : Nat} (o : OwIn ow H) (hf : llessL ds = true \/ k <= 1) (r : RepL X.K H1 (Kp ow H k) ds vs) : RepL X.K H1 (fun a b => b = true -> ow a = none) ds vs := by
  rcases hf with hf | hf
  . exact r.flat _ hf
  . exact r.imp fun a b p hb => by subst hb; exact kp_shared o hf p
theorem sw_none {Φ : Fx} {sc : Scope} {es : List Expr} {e : Expr} {n : Nat} {p : Pos} (G : Good Φ X sc) (ht : swE sc es e = false) : swappedStores [.Tuple es n p] e X.env = pure none := by
  unfold swE at ht
  cases hte : isTupE e with
  | false => cases e <;> first | rfl | cases hte
  | true =>
    rw [hte] at ht
    have hc : celPar sc es e = true := by simpa using ht
    unfold celPar at hc
    split at hc
    . rename_i x px y py a b m q
      have k1 : X.env.kindOf x = some .cell := G.cc x (by simpa using hc)
      unfold swappedStores
      dsimp only
      split
      . rfl
      . split
        . rfl
        . rw [if_pos]
          rw [List.filterMap_cons_none (by simp [k1])]
          have : ∀ l : List Str, l.length <= 1 -> (l.length != [Expr.Name x px, Expr.Name y py].length || l.eraseDups.length != l.length) = true := fun l hl => by
            have : (l.length != [Expr.Name x px, Expr.Name y py].length) = true := by simp; omega
            rw [this]; rfl
          exact this _ (Nat.le_trans (List.length_filterMap_le _ _) (Nat.le_refl _))
    . cases hc
theorem sd_tup {Φ : Fx} {sc : Scope} {H0 : Hp} {ρ ρ' : Rho} {es : List Expr} {e : Expr} {n : Nat} {p pos : Pos} {d : D} {ds : List D} {k : Nat} (G : Good Φ X sc) (h : ED X ρ e d k) (hd : seqOf d = some ds) (hf : llessL ds = true \/ k <= 1) (hb : bindNs sc es ds ρ = some ρ') (ht : swE sc es e = false) :
    SD X H0 ρ (.Assign [.Tuple es n p] e pos) (.nx ρ') := by
  obtain ⟨t, h1, h2, h3, h4⟩ := pgs_names G hb
  intro pins s σ H D I ⟨ow, E, hl, B, q⟩
  have fin : ∀ H1 vs, Same H H1 -> RepL X.K H1 (Kp ow H k) ds vs -> t vs σ H1 D.nx := fun H1 vs s1 rl => h4 ow vs σ H1 D.nx hl (E.same s1) (rep_shared E.own hf rl) fun σ' hl' E' => q ow σ' H1 E' hl' (Keep.same s1)
  rcases seqOf_eq hd with rfl | rfl
  . refine ps_asg (h ow) (pg_tup (n := _) G.calm h1 h2 h3) swaps_tup (sw_none G ht) rfl pins s σ H D I ⟨E, fun v H1 s1 r1 => ?_⟩
    obtain ⟨a, vs, rfl, hs, rl⟩ := sqt_of r1
    exact ⟨a, vs, rfl, hs, rl.length.symm, fin H1 vs s1 rl⟩
  . refine ps_asg (h ow) (pg_lst (n := _) G.calm h1 h2 h3) swaps_tup (sw_none G ht) rfl pins s σ H D I ⟨E, fun v H1 s1 r1 => ?_⟩
    obtain ⟨a, vs, rfl, hs, rl⟩ := sq_of r1
    exact ⟨a, vs, rfl, hs, rl.length.symm, fin H1 vs s1 rl⟩
theorem repl2 {K : PySem.W.Frag} {H : Hp} {P : AP2} {a b : D} {vs : List V} (h : RepL K H P [a, b] vs) : ∃ x y, vs = [x, y] /\ Rep K H P a x /\ Rep K H P b y := by
  rw [RepL] at h
  obtain ⟨x, r, rfl, h1, h⟩ := h
  rw [RepL] at h
  obtain ⟨y, r, rfl, h2, h⟩ := h
  rw [RepL] at h
  subst h
  exact ⟨x, y, rfl, h1, h2⟩
theorem sd_own2 {Φ : Fx} {sc : Scope} {H0 : Hp} {ρ : Rho} {es : List Expr} {e : Expr} {n : Nat} {pt pos : Pos} {p : D × Nat} (G : Good Φ X sc) (h : ED X ρ e p.1 p.2) (ho : own2 sc es p = true) (ht : swE sc es e = false) :
    SD X H0 ρ (.Assign [.Tuple es n pt] e pos) (.nx (put2 es p ρ)) := by
  obtain ⟨d, k⟩ := p
  unfold own2 at ho
  split at ho
  . rename_i x px y py d1 d2 e0 e1
    have e0 : d = _ := e0
    have e1 : k = _ := e1
    subst e0 e1
    simp only [Bool.and_eq_true, Bool.not_eq_true', decide_eq_false_iff_not] at ho
    obtain ⟨⟨⟨⟨f1, _⟩, hxy⟩, hx⟩, hy⟩ := ho
    obtain ⟨g1, g2, g3, i, g4⟩ := loc_of G hx
    obtain ⟨j1, j2, j3, j, j4⟩ := loc_of G hy
    have hij : i ≠ j := fun z => by subst z; rw [g4] at j4; exact hxy (Option.some.inj j4)
    intro pins s σ H D I ⟨ow, E, hl, B, q⟩
    refine ps_asg (h ow) (pg_tup (n := 2) G.calm (pgs_cons (pg_name (i := i) G.nd g4 g1 g3) (pgs_cons (pg_name (i := j) G.nd j4 j1 j3) pgs_nil rfl) rfl) rfl rfl) swaps_tup (sw_none G ht) rfl pins s σ H D I ⟨E, fun v H1 s1 r1 => ?_⟩
    obtain ⟨a, vs, rfl, hs, rl⟩ := sqt_of r1
    obtain ⟨v1, v2, rfl, r2, r3⟩ := repl2 rl
    refine ⟨a, [v1, v2], rfl, hs, rfl, v1, [v2], rfl, v2, [], rfl, rfl, ?_⟩
    obtain ⟨ow', E', k'⟩ := env_own G.nd hl E s1 j4 j2 r3
    have hl' : (σ.set j (some v2)).length = X.N.length := by rw [List.length_set]; exact hl
    have E2 := env_put (o := false) G.nd hl' E' g4 g2 (r2.flat _ f1)
    rw [List.set_comm _ _ hij]
    exact q ow' _ H1 E2 (by rw [List.length_set]; exact hl') k'
  . cases ho
theorem swapped_of {sc : Scope} {Φ : Fx} {x y : Str} {px py p p2 : Pos} {n n2 : Nat} {a b : Expr} (G : Good Φ X sc) (hk : X.env.scope.kind = .function) (h : parOk sc x y px py a b = true) (ha : ∀ x p, a ≠ .Starred x p) (hb : ∀ x p, b ≠ .Starred x p) :
    swappedStores [.Tuple [.Name x px, .Name y py] n p] (.Tuple [a, b] n2 p2) X.env = pure (some [x, y]) := by
  unfold parOk at h
  simp only [Bool.and_eq_true, Bool.not_eq_true', beq_iff_eq, decide_eq_false_iff_not] at h
  obtain ⟨⟨⟨⟨⟨h1, h2⟩, h3⟩, h4⟩, h5⟩, h6⟩ := h
  have k1 : X.env.kindOf x = some .local := G.lc x h1
  have k2 : X.env.kindOf y = some .local := G.lc y h2
  have bk : X.env.blockKind = .function := by unfold Env.blockKind; rw [hk]; rfl
  have an : ∀ f : Expr -> Bool, (∀ e, (∀ x p, e ≠ .Starred x p) -> f e = false) -> ¬ ([a, b].any f = true) := fun f hf => by simp [hf a ha, hf b hb]
  have fm : ∀ f : Expr -> Option Str, f (.Name x px) = some x -> f (.Name y py) = some y -> [Expr.Name x px, Expr.Name y py].filterMap f = [x, y] := fun f h1 h2 => by simp [h1, h2]
  have ed : [x, y].eraseDups = [x, y] := by
    have e1 : (!(y == x)) = true := by simp; exact fun z => h4 z.symm
    rw [List.eraseDups_cons, List.filter_cons_of_pos (p := fun b => !b == x) e1, List.filter_nil]
    rfl
  unfold swappedStores
  dsimp only
  rw [bk]
  refine (if_neg (by simp)).trans ?_
  refine (if_neg (an _ fun e he => by cases e <;> first | rfl | exact absurd rfl (he _ _))).trans ?_
  rw [fm _ (by show (if (X.env.kindOf x == some NameKind.local && px.line == px.line) = true then some x else none) = some x; rw [k1]; simp) (by show (if (X.env.kindOf y == some NameKind.local && py.line == px.line) = true then some y else none) = some y; rw [k2, h3]; simp)]
  rw [ed]
  refine (if_neg (by simp)).trans ?_
  rw [h5, h6]
  rfl
theorem sd_par {Φ : Fx} {sc : Scope} {H0 : Hp} {ρ : Rho} {a b : Expr} {x y : Str} {px py p p2 pos : Pos} {n n2 : Nat} {u v : D} {k : Nat} (G : Good Φ X sc) (h : AD X ρ [a, b] [u, v] k) (hf : llessL [u, v] = true \/ k <= 1) (hp : parOk sc x y px py a b = true) (ha : ∀ x p, a ≠ .Starred x p) (hb : ∀ x p, b ≠ .Starred x p) :
    SD X H0 ρ (.Assign [.Tuple [.Name x px, .Name y py] n p] (.Tuple [a, b] n2 p2) pos) (.nx (putR (putR ρ x (u, false)) y (v, false))) := by
  have hp0 := hp
  unfold parOk at hp
  simp only [Bool.and_eq_true, Bool.not_eq_true', beq_iff_eq, decide_eq_false_iff_not] at hp
  obtain ⟨⟨⟨⟨⟨l1, l2⟩, _⟩, hxy⟩, _⟩, _⟩ := hp
  obtain ⟨g1, g2, g3, i, g4⟩ := loc_of (x := x) G (by unfold locK; rw [l1]; rfl)
  obtain ⟨j1, j2, j3, j, j4⟩ := loc_of (x := y) G (by unfold locK; rw [l2]; rfl)
  have hij : i ≠ j := by intro z; subst z; rw [g4] at j4; cases j4; exact hxy rfl
  intro pins s σ H D I ⟨ow, E, hl, B, q⟩
  refine ps_par (i := i) (j := j) G.calm G.nd g4 j4 hij (G.lc x l1) (G.lc y l2) (h ow) (swapped_of G I.ok.kind hp0 ha hb) swaps_tup pins s σ H D I ⟨E, fun vs H1 s1 r1 => ?_⟩
  have rs := rep_shared E.own hf r1
  rw [RepL] at rs
  obtain ⟨v1, r, rfl, rv1, rs⟩ := rs
  obtain ⟨v2, rfl, rv2⟩ := rs.only
  refine ⟨v1, v2, rfl, ?_⟩
  have E1 := env_put (o := false) G.nd hl (E.same s1) g4 g2 rv1
  have hl1 : (σ.set i (some v1)).length = X.N.length := by rw [List.length_set]; exact hl
  exact q ow _ H1 (env_put (o := false) G.nd hl1 E1 j4 j2 rv2) (by rw [List.length_set]; exact hl1) (Keep.same s1)
theorem env_write {ow : Ow} {H1 : Hp} {σ : L2.St} {ρ : Rho} {x : Str} {l' : List D} {a : Addr} {vs vs' : List V} {i : Nat} (E : EnvOk X ow H1 σ ρ) (hi : X.N[i]? = some x) (hs : σ[i]? = some (some (.ref a)))
    (hv : Vis X.env.scope x) (ha : H1 a = some (.lst vs)) (ho : ow a = some (some x)) (f : llessL l' = true) (r : RepL X.K H1 (fun _ _ => True) l' vs') :
    EnvOk X ow (upd H1 a (.lst vs')) σ (putR ρ x (.lst l', true)) := by
  have st : ∀ {P : AP2}, (P a true -> False) -> Stay P P H1 (upd H1 a (.lst vs')) := fun {P} h => ⟨fun b o hb hn => by rw [upd_ne (fun z => by subst z; rw [ha] at hb; cases hb; exact hn)]; exact hb, fun b ws hb p => by rw [upd_ne (fun z => by subst z; exact h p)]; exact hb, fun _ _ _ p => p, fun _ p => p⟩
  have r' : RepL X.K (upd H1 a (.lst vs')) (ownP ow x true) l' vs' := RepL.flat _ f ((r.flat (fun _ _ => False) f).mono (st fun z => z))
  refine ⟨fun y e o h => ?_, fun b hb => ?_⟩
  . rw [lookup_putR] at h
    by_cases hy : y = x
    . subst hy
      rw [if_pos rfl] at h
      cases h
      exact ⟨i, .ref a, hi, hv, hs, by rw [Rep]; exact ⟨a, vs', true, rfl, upd_same, ⟨rfl, ho⟩, r'⟩⟩
    . rw [if_neg hy] at h
      obtain ⟨j, w, e1, e2, e3, e4⟩ := E.get y e o h
      refine ⟨j, w, e1, e2, e3, e4.mono (st fun p => ?_)⟩
      cases o with
      | true => have := p.2; rw [ho] at this; cases this; exact hy rfl
      | false => have := p rfl; rw [ho] at this; cases this
  . by_cases hz : b = a
    . subst hz; exact ⟨_, upd_same⟩
    . rw [upd_ne hz]; exact E.own b hb
theorem own_of {ow : Ow} {H : Hp} {σ : L2.St} {ρ : Rho} {x : Str} {l : List D} (E : EnvOk X ow H σ ρ) (h : ρ x = some (.lst l, true)) : ∃ (i : Nat) (a : Addr) (vs : List V), X.N[i]? = some x /\ Vis X.env.scope x /\ σ[i]? = some (some (.ref a)) /\ H a = some (.lst vs) /\ ow a = some (some x) /\ RepL X.K H (fun _ _ => True) l vs := by
  obtain ⟨i, v, e1, e2, e3, e4⟩ := E.get x _ _ h
  rw [Rep] at e4
  obtain ⟨a, vs, b, rfl, hl, hp, rl⟩ := e4
  cases hp.1
  exact ⟨i, a, vs, e1, e2, e3, hl, hp.2, rl.imp fun _ _ _ => True.intro⟩
theorem keep_write {ow : Ow} {H H1 : Hp} {a : Addr} {vs vs' : List V} {x : Str} (sm : Same H H1) (h0 : H a = some (.lst vs)) (ho : ow a = some (some x)) : Keep ow H ow (upd H1 a (.lst vs')) :=
  ⟨fun b o h c => by
    rw [upd_ne (fun z => by
      subst z
      rw [h0] at h; cases h
      rcases c with c | c
      . exact c
      . rw [ho] at c; cases c)]
    exact sm b o h, fun _ _ _ z => z⟩
theorem k_free {pins : List (Addr × Obj)} {σ : L2.St} {H : Hp} {s : Shared} (I : Inv X pins σ H s) {a : Addr} {o : Obj} (h : X.K.lookup a = some o) : H a = none := (I.bs a o (I.ok.mod.kin a o h)).2
mutual
def D.lsz : D -> Nat
  | .lst l => 1 + lszL l
  | .tup l => lszL l
  | _ => 0
def lszL : List D -> Nat
  | [] => 0
  | d :: l => d.lsz + lszL l
end
theorem lst_only {pins : List (Addr × Obj)} {σ : L2.St} {H : Hp} {s : Shared} (I : Inv X pins σ H s) {P : AP2} {d : D} {a : Addr} {vs : List V} (ha : H a = some (.lst vs)) (h : Rep X.K H P d (.ref a)) : ∃ l, d = .lst l := by
  cases d with
  | lst l => exact ⟨l, rfl⟩
  | tup l =>
    rw [Rep] at h
    obtain ⟨a', vs', e, hs, _⟩ := h
    cases e
    rcases hs with (q | ⟨o, q⟩) | ⟨o, its, n, q, _⟩
    . rw [ha] at q; cases q
    . rw [ha] at q; cases q
    . rw [k_free I q] at ha; cases ha
  | dct _ _ => rw [Rep] at h; obtain ⟨_, _, a', _, e, hl, _⟩ := h; cases e; rw [ha] at hl; cases hl
  | sn m => rw [Rep] at h; obtain ⟨a', S, e, hl⟩ := h; cases e; rw [ha] at hl; cases hl
  | obj n ns es => rw [Rep] at h; obtain ⟨_, _, a', C, dx, vs', e, _, _, hl, _⟩ := h; cases e; rw [ha] at hl; cases hl
  | cls n => rw [Rep] at h; obtain ⟨C, o', e, _, hl, _⟩ := h; cases e; rw [k_free I hl] at ha; cases ha
  | _ => rw [Rep] at h; cases h
theorem tup_only {pins : List (Addr × Obj)} {σ : L2.St} {H : Hp} {s : Shared} (I : Inv X pins σ H s) {P : AP2} (hP : ∀ a b, P a b -> b = true) {d : D} {a : Addr} {vs : List V} (ha : SqT X.K H a vs) (h : Rep X.K H P d (.ref a)) : ∃ l, d = .tup l /\ RepL X.K H P l vs := by
  have no : ∀ o, H a = some o -> (∀ xs, o ≠ .tup xs) -> (∀ p q, o ≠ .frz p q) -> False := fun o e h1 h2 => by
    rcases ha with (q | ⟨o', q⟩) | ⟨o', its, n, q, _⟩
    . rw [e] at q; cases q; exact h1 _ rfl
    . rw [e] at q; cases q; exact h2 _ _ rfl
    . rw [k_free I q] at e; cases e
  cases d with
  | lst l =>
    rw [Rep] at h
    obtain ⟨a', vs', b, e, hl, p, _⟩ := h
    cases e
    cases hP _ _ p
    exact (no _ hl (fun _ z => nomatch z) fun _ _ z => nomatch z).elim
  | tup l =>
    rw [Rep] at h
    obtain ⟨a', vs', e, hs, rl⟩ := h
    cases e
    have := I.tuple_inj ha hs
    subst this
    exact ⟨l, rfl, rl⟩
  | dct _ _ => rw [Rep] at h; obtain ⟨_, _, a', _, e, hl, _⟩ := h; cases e; exact (no _ hl (fun _ z => nomatch z) fun _ _ z => nomatch z).elim
  | sn m => rw [Rep] at h; obtain ⟨a', S, e, hl⟩ := h; cases e; exact (no _ hl (fun _ z => nomatch z) fun _ _ z => nomatch z).elim
  | obj n ns es => rw [Rep] at h; obtain ⟨_, _, a', C, dx, vs', e, _, _, hl, _⟩ := h; cases e; exact (no _ hl (fun _ z => nomatch z) fun _ _ z => nomatch z).elim
  | cls n =>
    rw [Rep] at h
    obtain ⟨C, o', e, _, hl, ht, _⟩ := h
    cases e
    rcases ha with (q | ⟨o, q⟩) | ⟨o, its, n, q, hc, _⟩
    . rw [k_free I hl] at q; cases q
    . rw [k_free I hl] at q; cases q
    . rw [hl] at q; cases q; rw [hc] at ht; injection ht with ht; exact absurd ht (by decide)
  | _ => rw [Rep] at h; cases h
mutual
theorem rep_uniq {pins : List (Addr × Obj)} {σ : L2.St} {H : Hp} {s : Shared} (I : Inv X pins σ H s) {P : AP2} (hP : ∀ a b, P a b -> b = true) : ∀ (d d' : D) (v : V), Rep X.K H P d v -> Rep X.K H P d' v -> d.lsz <= d'.lsz
  | .tup l, d', v, h, h' => by
    rw [Rep] at h
    obtain ⟨a, vs, rfl, hs, rl⟩ := h
    obtain ⟨l', rfl, rl'⟩ := tup_only I hP hs h'
    rw [D.lsz, D.lsz]; exact repl_uniq I hP l l' vs rl rl'
  | .lst l, d', v, h, h' => by
    rw [Rep] at h
    obtain ⟨a, vs, b, rfl, hs, p, rl⟩ := h
    cases hP _ _ p
    replace hs : H a = some (.lst vs) := hs
    obtain ⟨l', rfl⟩ := lst_only I hs h'
    rw [Rep] at h'
    obtain ⟨a', vs', b, e, hl, p', rl'⟩ := h'
    cases e
    cases hP _ _ p'
    replace hl : H a = some (.lst vs') := hl
    rw [hs] at hl; cases hl
    rw [D.lsz, D.lsz]
    exact Nat.add_le_add_left (repl_uniq I hP l l' vs rl rl') 1
  | .non, _, _, _, _ => Nat.zero_le _
  | .bl _, _, _, _, _ => Nat.zero_le _
  | .int _, _, _, _, _ => Nat.zero_le _
  | .str _, _, _, _, _ => Nat.zero_le _
  | .dct _ _, _, _, _, _ => Nat.zero_le _
  | .typ _, _, _, _, _ => Nat.zero_le _
  | .sn _, _, _, _, _ => Nat.zero_le _
  | .obj _ _ _, _, _, _, _ => Nat.zero_le _
  | .cls _, _, _, _, _ => Nat.zero_le _
theorem repl_uniq {pins : List (Addr × Obj)} {σ : L2.St} {H : Hp} {s : Shared} (I : Inv X pins σ H s) {P : AP2} (hP : ∀ a b, P a b -> b = true) : ∀ (l l' : List D) (vs : List V), RepL X.K H P l vs -> RepL X.K H P l' vs -> lszL l <= lszL l'
  | [], l', vs, h, h' => Nat.zero_le _
  | d :: l, l', vs, h, h' => by
    rw [RepL] at h
    obtain ⟨v, r, rfl, h1, h2⟩ := h
    cases l' with
    | nil => rw [RepL] at h'; cases h'
    | cons d' l' =>
      rw [RepL] at h'
      obtain ⟨v', r', e, h1', h2'⟩ := h'
      cases e
      rw [lszL, lszL]
      exact Nat.add_le_add (rep_uniq I hP d d' v h1 h1') (repl_uniq I hP l l' r h2 h2')
end
mutual
theorem rep_ne {pins : List (Addr × Obj)} {σ : L2.St} {H : Hp} {s : Shared} (I : Inv X pins σ H s) {P : AP2} (hP : ∀ a b, P a b -> b = true) {A : Addr} {l : List D} (hA : Rep X.K H P (.lst l) (.ref A)) : ∀ (d : D) (v : V), d.lsz < (D.lst l).lsz -> Rep X.K H P d v -> Rep X.K H (fun a b => P a b /\ a ≠ A) d v
  | .tup m, v, hs, h => by
    rw [Rep] at h ⊢
    obtain ⟨a, vs, e, h1, h2⟩ := h
    exact ⟨a, vs, e, h1, repl_ne I hP hA m vs (by rw [D.lsz] at hs; exact hs) h2⟩
  | .lst m, v, hs, h => by
    have h0 := h
    rw [Rep] at h ⊢
    obtain ⟨a, vs, b, e, h1, p, h2⟩ := h
    refine ⟨a, vs, b, e, h1, ⟨p, fun z => ?_⟩, repl_ne I hP hA m vs (by rw [D.lsz] at hs; omega) h2⟩
    subst e z
    have := rep_uniq I hP _ _ _ hA h0
    exact absurd (Nat.lt_of_lt_of_le hs this) (Nat.lt_irrefl _)
  | .non, v, _, h => by rw [Rep] at h ⊢; exact h
  | .bl _, v, _, h => by rw [Rep] at h ⊢; exact h
  | .int _, v, _, h => by rw [Rep] at h ⊢; exact h
  | .str _, v, _, h => by rw [Rep] at h ⊢; exact h
  | .dct ks es, v, _, h => by
    rw [Rep] at h ⊢
    obtain ⟨f, e0, a, vs, e, h1, p, r⟩ := h
    refine ⟨f, e0, a, vs, e, h1, ⟨p, fun z => ?_⟩, r.flat _ f⟩
    subst z
    rw [Rep] at hA
    obtain ⟨a2, vs2, b, e2, hl, p2, _⟩ := hA
    cases e2
    cases hP _ _ p2
    replace hl : H a = some (.lst vs2) := hl
    rw [h1] at hl; cases hl
  | .typ _, v, _, h => by rw [Rep] at h ⊢; exact h
  | .sn _, v, _, h => by rw [Rep] at h ⊢; exact h
  | .obj n ns es, v, _, h => h.flat _ rfl
  | .cls n, v, _, h => h.flat _ rfl
theorem repl_ne {pins : List (Addr × Obj)} {σ : L2.St} {H : Hp} {s : Shared} (I : Inv X pins σ H s) {P : AP2} (hP : ∀ a b, P a b -> b = true) {A : Addr} {l : List D} (hA : Rep X.K H P (.lst l) (.ref A)) : ∀ (m : List D) (vs : List V), lszL m < (D.lst l).lsz -> RepL X.K H P m vs -> RepL X.K H (fun a b => P a b /\ a ≠ A) m vs
  | [], vs, _, h => by rw [RepL] at h ⊢; exact h
  | d :: m, vs, hs, h => by
    rw [RepL] at h ⊢
    obtain ⟨v, r, e, h1, h2⟩ := h
    exact ⟨v, r, e, rep_ne I hP hA d v (by rw [lszL] at hs; omega) h1, repl_ne I hP hA m r (by rw [lszL] at hs; omega) h2⟩
end
theorem own_in {pins : List (Addr × Obj)} {s : Shared} {ow : Ow} {H : Hp} {σ : L2.St} {ρ : Rho} {x : Str} {l : List D} (I : Inv X pins σ H s) (E : EnvOk X ow H σ ρ) (h : ρ x = some (.lst l, true)) : ∃ (i : Nat) (a : Addr) (vs : List V), X.N[i]? = some x /\ Vis X.env.scope x /\ σ[i]? = some (some (.ref a)) /\ H a = some (.lst vs) /\ ow a = some (some x) /\ RepL X.K H (fun b c => ownP ow x true b c /\ b ≠ a) l vs := by
  obtain ⟨i, v, e1, e2, e3, e4⟩ := E.get x _ _ h
  have e5 := e4
  rw [Rep] at e4
  obtain ⟨a, vs, b, rfl, hl, hp, rl⟩ := e4
  cases hp.1
  exact ⟨i, a, vs, e1, e2, e3, hl, hp.2, repl_ne I (fun _ _ p => p.1) e5 l vs (by rw [D.lsz]; omega) rl⟩
theorem env_mut {ow : Ow} {H H1 : Hp} {σ : L2.St} {ρ : Rho} {x : Str} {l' : List D} {a : Addr} {vs vs' : List V} {i : Nat} (E : EnvOk X ow H σ ρ) (sm : Same H H1) (hi : X.N[i]? = some x) (hs : σ[i]? = some (some (.ref a)))
    (hv : Vis X.env.scope x) (h0 : H a = some (.lst vs)) (ho : ow a = some (some x)) (r : RepL X.K H1 (fun b c => (ownP ow x true b c /\ b ≠ a) \/ Kp ow H 0 b c) l' vs') :
    ∃ ow', EnvOk X ow' (upd H1 a (.lst vs')) σ (putR ρ x (.lst l', true)) /\ Keep ow H ow' (upd H1 a (.lst vs')) := by
  classical
  let ow' : Ow := fun a => if H a = none /\ ∃ o, H1 a = some o then some (some x) else ow a
  have o1 : ∀ a o, H a = some o -> ow' a = ow a := fun a o h => if_neg (fun z => by rw [h] at z; cases z.1)
  have ha : H1 a = some (.lst vs) := sm _ _ h0
  have ho' : ow' a = some (some x) := (o1 a _ h0).trans ho
  have E1 : EnvOk X ow' H1 σ ρ := ⟨fun y e o h => by
    obtain ⟨j, w, e1, e2, e3, e4⟩ := E.get y e o h
    refine ⟨j, w, e1, e2, e3, Rep.same sm (e4.impH (fun a ob ha p => ?_) fun a p => ?_)⟩
    . cases o with
      | true => exact ⟨p.1, (o1 a ob ha).trans p.2⟩
      | false => exact fun z => (o1 a ob ha).trans (p z)
    . cases o with
      | true => cases p.1
      | false => exact fun z => (by cases z), fun a ha => by
    by_cases hz : H a = none /\ ∃ o, H1 a = some o
    . exact hz.2
    . have : ow' a = ow a := if_neg hz
      rw [this] at ha
      exact (E.own.same sm) a ha⟩
  have st : ∀ {P : AP2}, (P a true -> False) -> Stay P P H1 (upd H1 a (.lst vs')) := fun {P} h => ⟨fun b o hb hn => by rw [upd_ne (fun z => by subst z; rw [ha] at hb; cases hb; exact hn)]; exact hb, fun b ws hb p => by rw [upd_ne (fun z => by subst z; exact h p)]; exact hb, fun _ _ _ p => p, fun _ p => p⟩
  have r1 : RepL X.K H1 (fun b c => ownP ow' x true b c /\ b ≠ a) l' vs' := r.impH (fun b o hb p => by
    rcases p with ⟨p, hne⟩ | p
    . refine ⟨⟨rfl, ?_⟩, hne⟩
      by_cases hz : H b = none /\ ∃ o, H1 b = some o
      . exact if_pos hz
      . exact (if_neg hz).trans p.2
    . exact ⟨⟨rfl, if_pos ⟨p.2, o, hb⟩⟩, fun z => by subst z; rw [p.2] at h0; cases h0⟩) fun b p => by
    rcases p with ⟨p, _⟩ | p
    . cases p.1
    . cases p.1
  have r' : RepL X.K (upd H1 a (.lst vs')) (ownP ow' x true) l' vs' := (r1.mono (st fun z => z.2 rfl)).imp fun _ _ p => p.1
  refine ⟨ow', ⟨fun y e o h => ?_, fun b hb => ?_⟩, fun b o h c => ?_, fun b o h z => (o1 b o h).trans z⟩
  . rw [lookup_putR] at h
    by_cases hy : y = x
    . subst hy
      rw [if_pos rfl] at h
      cases h
      exact ⟨i, .ref a, hi, hv, hs, by rw [Rep]; exact ⟨a, vs', true, rfl, upd_same, ⟨rfl, ho'⟩, r'⟩⟩
    . rw [if_neg hy] at h
      obtain ⟨j, w, e1, e2, e3, e4⟩ := E1.get y e o h
      refine ⟨j, w, e1, e2, e3, e4.mono (st fun p => ?_)⟩
      cases o with
      | true => have := p.2; rw [ho'] at this; cases this; exact hy rfl
      | false => have := p rfl; rw [ho'] at this; cases this
  . by_cases hz : b = a
    . subst hz; exact ⟨_, upd_same⟩
    . rw [upd_ne hz]; exact E1.own b hb
  . rw [upd_ne (fun z => by
      subst z
      rw [h0] at h; cases h
      rcases c with c | c
      . exact c
      . rw [ho] at c; cases c)]
    exact sm b o h
theorem nostar_few {env : Env} {pos : Pos} : ∀ {es : List Expr}, (∀ e ∈ es, ∀ x p, e ≠ .Starred x p) -> (backTo pos (starEach es env)).all (fun x => !x.1) = true
  | [], _ => rfl
  | e :: es, h => by
    have ih := nostar_few (env := env) (es := es) (pos := pos) fun x hx => h x (List.mem_cons_of_mem _ hx)
    have he := h e List.mem_cons_self
    cases e <;> first | exact absurd rfl (he _ _) | exact ih
theorem sd_mut {H0 : Hp} {ρ : Rho} {x m : Str} {M : List D -> List D -> Nat -> Rs (List D)} {args : List Expr} {p1 ap cp p4 : Pos} {l l' ds : List D} {k : Nat} {o : List Prop} (hcalm : X.calm = true) (hM : MutOk m M) (hx : ρ x = some (.lst l, true)) (h : AD X ρ args ds k) (hst : ∀ e ∈ args, ∀ y p, e ≠ .Starred y p) (hlen : args.length = ds.length)
    (hn : okN x = true) (hln : (ap.endLine == cp.line) = true) (hm : M l ds k = .ok l' o) (hp : allP o) : SD X H0 ρ (.Expr (.Call (.Attribute (.Name x p1) m ap) args [] cp) p4) (.nx (putR ρ x (.lst l', true))) := by
  obtain ⟨id, r, sl, ty, mt, hr⟩ := hM X hcalm
  intro pins s σ H D I ⟨ow, E, hl, B, q⟩
  obtain ⟨i, a, vs, g1, g2, g3, g4, g5, g6⟩ := own_in I E hx
  have pn : PE X (.Name x p1) (tVar i) := pe_var g1 g2 (okN_of hn).1 (okN_of hn).2
  have fin : ∀ (H1 : Hp) (ws : List V), Same H H1 -> RepL X.K H1 (Kp ow H k) ds ws -> r (.ref a) ws H1 fun _ H2 => D.nx σ H2 := fun H1 ws s1 r1 =>
    (hr ow H H1 l ds l' k o a vs ws hm hp).2 (fun b c => (ownP ow x true b c /\ b ≠ a) \/ Kp ow H 0 b c) _ (fun _ _ p => .inr p) E.own s1 (s1 _ _ g4) ((g6.same s1).imp fun _ _ p => .inl p) r1 fun vs' _ rv => by
      obtain ⟨ow', E', k'⟩ := env_mut E s1 g1 g3 g2 g4 g5 rv
      exact q ow' σ _ E' hl k'
  have few : ds.length < 29 := (hr ow H H l ds l' k o a vs vs hm hp).1
  cases args with
  | nil =>
    have e0 : ds = [] := List.length_eq_zero_iff.mp hlen.symm
    refine ps_expr (pe_bm0 PySem.F.plainAttrs_list sl ty mt pn rfl hln) rfl pins s σ H D I ⟨_, g3, .inl ⟨rfl, _, SqL.of g4⟩, ?_⟩
    exact fin H [] (Same.refl _) (by rw [e0]; exact RepL.nil)
  | cons e es =>
    have hfew : ((backTo cp (starEach (e :: es) X.env)).all (fun x => !x.1) && (backToKw cp (keywordEach [] X.env)).all (fun x => x.1.isSome) && decide ((e :: es).length + ([] : List Keyword).length + (if ([] : List Keyword).isEmpty then 0 else 1) < 30)) = true := by
      rw [nostar_few hst, hlen]
      have : decide (ds.length + 0 + 0 < 30) = true := by simp; omega
      exact this
    refine ps_expr (pe_bm PySem.F.plainAttrs_list sl ty mt pn (h ow) rfl hfew hln (nostar_one (hst e List.mem_cons_self)) (nostar_any fun x hx => hst x (List.mem_cons_of_mem _ hx))) rfl pins s σ H D I ⟨_, g3, .inl ⟨rfl, _, SqL.of g4⟩, E, fun ws H1 s1 r1 => ?_⟩
    exact fin H1 ws s1 r1
theorem llessL_set : ∀ {l : List D} {j : Nat} {d : D}, llessL l = true -> d.lless = true -> llessL (l.set j d) = true
  | [], j, d, h, f => by simp [llessL]
  | x :: l, 0, d, h, f => by
    rw [llessL, Bool.and_eq_true] at h
    rw [List.set_cons_zero, llessL, Bool.and_eq_true]; exact ⟨f, h.2⟩
  | x :: l, j + 1, d, h, f => by
    rw [llessL, Bool.and_eq_true] at h
    rw [List.set_cons_succ, llessL, Bool.and_eq_true]; exact ⟨h.1, llessL_set h.2 f⟩
theorem RepL.set {K : PySem.W.Frag} {P : AP2} {H : Hp} {d : D} {v : V} (r : Rep K H P d v) : ∀ {l : List D} {vs : List V} (j : Nat), RepL K H P l vs -> RepL K H P (l.set j d) (vs.set j v)
  | [], vs, j, h => by rw [RepL] at h; subst h; simp; exact RepL.nil
  | x :: l, vs, 0, h => by
    rw [RepL] at h
    obtain ⟨w, u, rfl, h1, h2⟩ := h
    exact RepL.cons r h2
  | x :: l, vs, j + 1, h => by
    rw [RepL] at h
    obtain ⟨w, u, rfl, h1, h2⟩ := h
    exact RepL.cons h1 (RepL.set r j h2)
theorem sd_store {H0 : Hp} {ρ : Rho} {x : Str} {e i : Expr} {p1 p2 pos : Pos} {l l' : List D} {d : D} {j : Int} {k k2 : Nat} (hx : ρ x = some (.lst l, true)) (h : ED X ρ e d k) (hi : ED X ρ i (.int j) k2) (f : llessL l = true) (fd : d.lless = true) (hn : okN x = true) (hm : setD l j d = some l') (hsl : ∀ a b c p, i ≠ .Slice a b c p) :
    SD X H0 ρ (.Assign [.Subscript (.Name x p1) i p2] e pos) (.nx (putR ρ x (.lst l', true))) := by
  unfold setD at hm
  cases hj : ixN l.length j with
  | none => rw [hj] at hm; cases hm
  | some n =>
    rw [hj] at hm; cases hm
    intro pins s σ H D I ⟨ow, E, hl, B, q⟩
    obtain ⟨ix, a, vs, g1, g2, g3, g4, g5, g6⟩ := own_of E hx
    have pn : PE X (.Name x p1) (tVar ix) := pe_var g1 g2 (okN_of hn).1 (okN_of hn).2
    refine ps_asg (h ow) (pg_sub pn (hi ow) set_list (fun v => by cases i <;> first | rfl | exact absurd rfl (hsl _ _ _ _))) swaps_sub (by cases e <;> rfl) rfl pins s σ H D I ⟨E, fun v H1 s1 r1 => ?_⟩
    refine ⟨_, g3, E.same s1, fun u H2 s2 r2 => ?_⟩
    rw [Rep] at r2; subst r2
    have s12 := s1.trans s2
    refine ⟨a, vs, j, n, rfl, rfl, s12 _ _ g4, by rw [<- g6.length]; exact hj, ?_⟩
    exact q ow σ _ (env_write (E.same s12) g1 g3 g2 (s12 _ _ g4) g5 (llessL_set f fd) (RepL.set ((r1.imp fun _ _ _ => True.intro).same s2) n (g6.same s12))) hl (keep_write s12 g4 g5)
def rSetD : TSet := fun o i v H Q => ∃ p kvs k, o = .ref p /\ i = kV k /\ H p = some (.dK kvs) /\ kvs.length < sizeLine /\ Q (upd H p (.dK (putK kvs k v)))
theorem set_dict : PSet X rSetD := by
  intro pins s σ H o i v ov iv u Q I ro ri rv h
  obtain ⟨p, kvs, k, rfl, rfl, hp, hz, q⟩ := h
  cases ro
  obtain ⟨z, hd, vs, rel, dd⟩ := (show ObjOk X.prog X.w H s.heap p (.dK kvs) from I.hok p _ hp)
  have hz' : vs.length <= sizeLine := by rw [<- rel.length]; exact z
  have hl : (putK kvs k v).length <= sizeLine := by have := length_putK kvs k v; omega
  refine wpAny_setItem_pairs (hsz := hz') (kV_is ri) dd fun h' dd' hs => ?_
  have he : ∃ q, h'.get? p = some q := let ⟨q, _, _, hq, _⟩ := dd'; ⟨q, hq⟩
  exact ⟨_, I.write (x := p) (e := p) (by rw [hp]; exact True.intro) (.inl rfl) (fun b q hb z => (hs.2 b hb).trans z) he (show ObjOk X.prog X.w (upd H p (.dK (putK kvs k v))) h' p (.dK (putK kvs k v)) from ⟨hl, hd, _, rel.put k rv, dd'⟩), q⟩
theorem zip_put {ks : List Key} {k : Key} {v : V} {vs : List V} (h : ks.length = vs.length) : (dPutK ks k).zip (dPutV ks vs k v) = putK (ks.zip vs) k v := by
  unfold dPutK dPutV putK
  rw [zip_any h]
  cases hasK ks k with
  | true =>
    rw [if_pos rfl]
    show ks.zip (List.zipWith _ ks vs) = _
    induction ks generalizing vs with
    | nil => rfl
    | cons j ks ih =>
      cases vs with
      | nil => cases h
      | cons w vs =>
        show (j, if j = k then v else w) :: ks.zip (List.zipWith _ ks vs) = (if j = k then (j, v) else (j, w)) :: (ks.zip vs).map _
        rw [ih (by simpa using h)]
        split <;> rfl
  | false =>
    rw [if_neg Bool.false_ne_true]
    show (ks ++ [k]).zip (vs ++ [v]) = _
    rw [List.zip_append h]; rfl
theorem put_len {α : Type} {ks : List Key} {k : Key} {v : α} {vs : List α} (h : ks.length = vs.length) : (dPutK ks k).length = (dPutV ks vs k v).length := by
  unfold dPutK dPutV
  cases hasK ks k with
  | true => show ks.length = (List.zipWith _ ks vs).length; rw [List.length_zipWith, <- h, Nat.min_self]
  | false => show (ks ++ [k]).length = (vs ++ [v]).length; rw [List.length_append, List.length_append, h]; rfl
theorem put_rep {K : PySem.W.Frag} {P : AP2} {H : Hp} {d : D} {v : V} {k : Key} {ks : List Key} {ds : List D} {vs : List V} (r : Rep K H P d v) (rl : RepL K H P ds vs) (h : ks.length = ds.length) : RepL K H P (dPutV ks ds k d) (dPutV ks vs k v) := by
  unfold dPutV
  cases hasK ks k with
  | true =>
    show RepL K H P (List.zipWith _ ks ds) (List.zipWith _ ks vs)
    induction ks generalizing ds vs with
    | nil => exact RepL.nil
    | cons j ks ih =>
      cases ds with
      | nil => cases h
      | cons x ds =>
        rw [RepL] at rl
        obtain ⟨w, u, rfl, h1, h2⟩ := rl
        refine RepL.cons ?_ (ih h2 (by simpa using h))
        by_cases hj : j = k
        . simp only [if_pos hj]; exact r
        . simp only [if_neg hj]; exact h1
  | false => exact rl.append (RepL.one r)
theorem put_flat {k : Key} {d : D} {ks : List Key} {ds : List D} (f : llessL ds = true) (fd : d.lless = true) : llessL (dPutV ks ds k d) = true := by
  unfold dPutV
  cases hasK ks k with
  | true =>
    show llessL (List.zipWith _ ks ds) = true
    induction ks generalizing ds with
    | nil => rfl
    | cons j ks ih =>
      cases ds with
      | nil => rfl
      | cons x ds =>
        rw [llessL, Bool.and_eq_true] at f
        show llessL ((if j = k then d else x) :: List.zipWith _ ks ds) = true
        rw [llessL, Bool.and_eq_true]
        refine ⟨?_, ih f.2⟩
        split
        . exact fd
        . exact f.1
  | false =>
    show llessL (ds ++ [d]) = true
    induction ds with
    | nil => show llessL [d] = true; rw [llessL, fd]; rfl
    | cons x ds ih =>
      rw [llessL, Bool.and_eq_true] at f
      show llessL (x :: (ds ++ [d])) = true
      rw [llessL, f.1, ih f.2]; rfl
theorem sd_dput {H0 : Hp} {ρ : Rho} {x : Str} {e i : Expr} {p1 p2 pos : Pos} {ks : List Key} {ds : List D} {d di : D} {key : Key} {k k2 : Nat} (hx : ρ x = some (.dct ks ds, true)) (h : ED X ρ e d k) (hi : ED X ρ i di k2) (hk : keyD di = some key) (fd : d.lless = true) (hz : ks.length < many) (hn : okN x = true) (hsl : ∀ a b c p, i ≠ .Slice a b c p) :
    SD X H0 ρ (.Assign [.Subscript (.Name x p1) i p2] e pos) (.nx (putR ρ x (.dct (dPutK ks key) (dPutV ks ds key d), true))) := by
  intro pins s σ H D I ⟨ow, E, hl, B, q⟩
  obtain ⟨ix, v0, g1, g2, g3, g4⟩ := E.get x _ _ hx
  rw [Rep] at g4
  obtain ⟨f, e0, a, vs, rfl, ha, hp, rl⟩ := g4
  have ho : ow a = some (some x) := hp.2
  have pn : PE X (.Name x p1) (tVar ix) := pe_var g1 g2 (okN_of hn).1 (okN_of hn).2
  refine ps_asg (h ow) (pg_sub pn (hi ow) set_dict (fun v => by cases i <;> first | rfl | exact absurd rfl (hsl _ _ _ _))) swaps_sub (by cases e <;> rfl) rfl pins s σ H D I ⟨E, fun v H1 s1 r1 => ?_⟩
  refine ⟨_, g3, E.same s1, fun u H2 s2 r2 => ?_⟩
  have s12 := s1.trans s2
  have el : ks.length = vs.length := e0.trans rl.length
  refine ⟨a, _, key, rfl, keyD_rep hk r2, s12 _ _ ha, ?_, ?_⟩
  . rw [List.length_zip, <- el, Nat.min_self]; exact Nat.lt_of_lt_of_le hz manyLine
  rw [<- zip_put el]
  have ha2 := s12 _ _ ha
  have st : ∀ {P : AP2} {o' : HO}, (P a true -> False) -> Stay P P H2 (upd H2 a o') := fun {P o'} h => ⟨fun b o hb hn => by rw [upd_ne (fun z => by subst z; rw [ha2] at hb; cases hb; exact hn)]; exact hb, fun b ws hb p => by rw [upd_ne (fun z => by subst z; exact h p)]; exact hb, fun _ _ _ p => p, fun _ p => p⟩
  have rr : RepL X.K H2 (fun _ _ => False) (dPutV ks ds key d) (dPutV ks vs key v) := put_rep ((r1.same s2).flat _ fd) ((rl.same s12).flat _ f) e0
  refine q ow σ _ ⟨fun y e o h => ?_, fun b hb => ?_⟩ hl ⟨fun b o h c => ?_, fun _ _ _ z => z⟩
  . rw [lookup_putR] at h
    by_cases hy : y = x
    . subst hy
      rw [if_pos rfl] at h
      cases h
      exact ⟨ix, .ref a, g1, g2, g3, by rw [Rep]; exact ⟨put_flat f fd, put_len e0, a, _, rfl, upd_same, ⟨rfl, ho⟩, (rr.mono (st fun z => z)).flat _ (put_flat f fd)⟩⟩
    . rw [if_neg hy] at h
      obtain ⟨j, w, e1, e2, e3, e4⟩ := (E.same s12).get y e o h
      refine ⟨j, w, e1, e2, e3, e4.mono (st fun p => ?_)⟩
      cases o with
      | true => have := p.2; rw [ho] at this; cases this; exact hy rfl
      | false => have := p rfl; rw [ho] at this; cases this
  . by_cases hz : b = a
    . subst hz; exact ⟨_, upd_same⟩
    . rw [upd_ne hz]; exact (E.same s12).own b hb
  . rw [upd_ne (fun z => by
      subst z
      rw [ha] at h; cases h
      rcases c with c | c
      . exact c
      . rw [ho] at c; cases c)]
    exact s12 b o h
theorem ip_of {op : Operator} {r : R2} (h : OpR X (inplaceOp op) r) : PIp X op r := h
theorem iop_mulS : OpR X (inplaceOp .Mult) (rI (fun i j => mulOk i j) fun i j => .int (i * j)) := opI fun _ _ _ _ _ _ _ hc q => imul_int q (mulOk_ok hc)
theorem iop_fdivS : OpR X (inplaceOp .FloorDiv) (rI (fun _ j => divOk j) fun i j => .int (i.fdiv j)) := opI fun i j _ _ _ _ _ hc q => ifloordiv_int hc.1 q (.inl (PyProof.noPylong_of_log2 (by
  rcases Nat.eq_zero_or_pos j.natAbs with h1 | hp
  . exact absurd (by simpa using h1) hc.1
  . exact (Nat.log2_lt (Nat.ne_of_gt hp)).mpr hc.2)))
theorem sd_aug {Φ : Fx} {sc : Scope} {H0 : Hp} {ρ : Rho} {e : Expr} {x : Str} {p pos : Pos} {op : Operator} {a b : Int} {d : D} {k k2 : Nat} {o : Bool} {l : List Prop} (G : Good Φ X sc) (hx : locK sc x = true) (ha : ρ x = some (.int a, o)) (h : ED X ρ e (.int b) k) (hr : augI op a b = .ok (d, k2) l) (hp : allP l) :
    SD X H0 ρ (.AugAssign (.Name x p) op e pos) (.nx (putR ρ x (d, true))) := by
  obtain ⟨g1, g2, g3, i, g4⟩ := loc_of G hx
  obtain ⟨r, hr1, hr2⟩ : ∃ r : R2, OpR X (inplaceOp op) r /\ d.lless = true /\ ∀ H (Q : VK), (∀ v, Rep X.K H (fun _ _ => False) d v -> Q v H) -> r (.int a) (.int b) H Q := by
    unfold augI at hr
    split at hr
    . cases hr; exact ⟨_, iop_add, rfl, fun H Q q => ⟨a, b, rfl, rfl, q _ (by rw [Rep])⟩⟩
    . cases hr; exact ⟨_, iop_sub, rfl, fun H Q q => ⟨a, b, rfl, rfl, q _ (by rw [Rep])⟩⟩
    . cases hr; exact ⟨_, iop_mulS, rfl, fun H Q q => ⟨a, b, rfl, rfl, hp.1, q _ (by rw [Rep])⟩⟩
    . cases hr; exact ⟨_, iop_fdivS, rfl, fun H Q q => ⟨a, b, rfl, rfl, hp.1, q _ (by rw [Rep])⟩⟩
    . cases hr
  intro pins s σ H D I ⟨ow, E, hl, B, q⟩
  obtain ⟨i2, v, e1, e2, e3, e4⟩ := E.get x _ _ ha
  rw [Rep] at e4; subst e4
  have hi : i2 = i := nodup_ix G.nd e1 g4
  subst hi
  refine ps_aug (i := i2) G.nd g4 g1 (h ow) (ip_of hr1) g3 pins s σ H D I ⟨.int a, e3, E, fun v H1 s1 r1 => ?_⟩
  rw [Rep] at r1; subst r1
  refine hr2.2 H1 _ fun w rw' => ?_
  exact q ow _ H1 (env_put G.nd hl (E.same s1) g4 g2 (rw'.flat _ hr2.1)) (by rw [List.length_set]; exact hl) (Keep.same s1)
theorem mAppend_ok : MutOk "append" mAppend := fun X hc => ⟨"list.append", _, PySem.F.slot_list_append, PySem.F.type_list_append, mt_append, fun ow H0 H l ds l' j o a vs ws h hp => by
  unfold mAppend at h
  split at h
  . rename_i d
    cases h
    have c := hp.1
    refine ⟨by simp, fun P Q hP oi sm ha rl rd q => ?_⟩
    obtain ⟨w, rfl, rw'⟩ := rd.only
    refine ⟨a, vs, w, rfl, rfl, ha, ?_, q _ _ (rl.append (RepL.one ?_))⟩
    . rw [<- rl.length]; exact Nat.lt_trans hp.2.1 manyLine'
    . rcases c with c | c
      . exact rw'.flat _ c
      . subst c; exact rw'.imp hP
  . cases h⟩
theorem mExtend_ok : MutOk "extend" mExtend := fun X hc => ⟨"list.extend", _, PySem.F.slot_list_extend, PySem.F.type_list_extend, mt_extend, fun ow H0 H l ds l' j o a vs ws h hp => by
  unfold mExtend at h
  split at h
  . rename_i d
    cases h
    refine ⟨by simp, fun P Q hP oi sm ha rl rd q => ?_⟩
    obtain ⟨w, rfl, rw'⟩ := rd.only
    rw [Rep] at rw'
    obtain ⟨b, zs, bb, rfl, hb, pb, rz⟩ := rw'
    have hbb : bb = true := pb.1
    subst hbb
    refine ⟨a, b, vs, zs, rfl, rfl, ha, hb, ?_, q _ _ (rl.append (rz.imp hP))⟩
    rw [<- rl.length, <- rz.length]; exact Nat.le_trans hp.1 (Nat.le_of_lt manyLine')
  . cases h⟩
end Sp
set_option Elab.async false
set_option linter.all false
set_option maxRecDepth 100000
namespace Sp
open PySem PySem.Spec PyProof.Rows L2
variable {X : Cx}
theorem env_demX {ow : Ow} {H : Hp} {σ : L2.St} {ρ : Rho} (x : Str) (E : EnvOk X ow H σ ρ) : ∃ ow', EnvOk X ow' H σ (demX x ρ) /\ Keep ow H ow' H := by
  classical
  unfold demX
  let ow' : Ow := fun a => if ow a = some (some x) then none else ow a
  have o1 : ∀ a, ow a = none -> ow' a = none := fun a h => by show (if _ then _ else _) = _; split; rfl; exact h
  refine ⟨ow', ⟨fun y e o h => ?_, fun a ha => ?_⟩, fun a o h _ => h, fun a o h z => o1 a z⟩
  . by_cases hy : y = x
    . subst hy
      simp only [if_true] at h
      cases hd : ρ y with
      | none => rw [hd] at h; cases h
      | some q =>
        obtain ⟨d, o'⟩ := q
        rw [hd] at h
        cases h
        obtain ⟨j, w, e1, e2, e3, e4⟩ := E.get y _ _ hd
        refine ⟨j, w, e1, e2, e3, e4.imp fun a b p z => ?_⟩
        cases o' with
        | true => exact if_pos p.2
        | false => exact o1 a (p z)
    . simp only [if_neg hy] at h
      obtain ⟨j, w, e1, e2, e3, e4⟩ := E.get y e o h
      refine ⟨j, w, e1, e2, e3, e4.imp fun a b p => ?_⟩
      cases o with
      | true => exact ⟨p.1, by show (if _ then _ else _) = _; rw [if_neg (fun z => by rw [p.2] at z; cases z; exact hy rfl)]; exact p.2⟩
      | false => exact fun z => o1 a (p z)
  . refine E.own a fun z => ha (o1 a z)
theorem demA_eq (x : Str) (ρ : Rho) : demA x ρ = ρ \/ demA x ρ = demX x ρ := by
  cases h : ρ x with
  | none => exact .inl (funext fun y => by unfold demA; split; (rename_i e; subst e; rw [h]; rfl); rfl)
  | some p =>
    cases hl : p.1.lless with
    | true => exact .inl (funext fun y => by unfold demA; split; (rename_i e; subst e; rw [h]; show some (p.1, p.2 && p.1.lless) = _; rw [hl, Bool.and_true]); rfl)
    | false => exact .inr (funext fun y => by unfold demA demX; split; (rename_i e; subst e; rw [h]; show some (p.1, p.2 && p.1.lless) = _; rw [hl, Bool.and_false]; rfl); rfl)
theorem env_demL : ∀ {es : List Expr} {ow : Ow} {H : Hp} {σ : L2.St} {ρ : Rho}, EnvOk X ow H σ ρ -> ∃ ow', EnvOk X ow' H σ (demL es ρ) /\ Keep ow H ow' H
  | [], ow, H, σ, ρ, E => ⟨ow, E, Keep.refl _ _⟩
  | e :: es, ow, H, σ, ρ, E => by
    have one : ∀ x, ∃ ow', EnvOk X ow' H σ (demL es (demA x ρ)) /\ Keep ow H ow' H := fun x => by
      rcases demA_eq x ρ with h | h
      . rw [h]; exact env_demL E
      . rw [h]
        obtain ⟨ow1, E1, k1⟩ := env_demX x E
        obtain ⟨ow2, E2, k2⟩ := env_demL (es := es) E1
        exact ⟨ow2, E2, k1.trans k2⟩
    unfold demL
    split
    . rename_i z; cases z
    . rename_i z; cases z; exact one _
    . rename_i z; cases z; exact one _
    . rename_i z; cases z; exact env_demL E
theorem env_demote {ow : Ow} {H : Hp} {σ : L2.St} {ρ : Rho} {e : Expr} (E : EnvOk X ow H σ ρ) : ∃ ow', EnvOk X ow' H σ (demote e ρ) /\ Keep ow H ow' H := by
  unfold demote
  split
  . exact env_demX _ E
  . exact env_demX _ E
  . exact env_demL E
  . exact ⟨ow, E, Keep.refl _ _⟩
def Okr {α : Type} (r : Rs α) (a : α) : Prop := ∃ l, r = .ok a l /\ allP l
theorem okr_bnd {α β : Type} {r : Rs α} {f : α -> Rs β} {b : β} (h : Okr (r.bnd f) b) : ∃ a, Okr r a /\ Okr (f a) b := by
  obtain ⟨l, h, hp⟩ := h
  obtain ⟨a, l1, l2, h1, p1, h2, p2⟩ := bnd_inv h hp
  exact ⟨a, ⟨l1, h1, p1⟩, l2, h2, p2⟩
theorem okr_st {α : Type} {a : α} (h : Okr (.st) a) : False := by obtain ⟨l, h, _⟩ := h; cases h
theorem okr_ok {α : Type} {a b : α} {l : List Prop} (h : Okr (.ok a l) b) : a = b := by obtain ⟨m, h, _⟩ := h; cases h; rfl
theorem sd_for {H0 : Hp} {ρ : Rho} {tg iter : Expr} {body : List Stmt} {pos : Pos} {bind : D -> Rho -> Option Rho} {bodyF : Rho -> Rs Fl} {ds : List D} {k : Nat} {fl : Fl} (hp : PassesOwn (model X.prog X.w) X.A X.env X.xe) (hcalm : X.calm = true)
    (hi : IE X (demote iter ρ) tg iter ds k) (hk : k <= 1) (hg : ∀ d ρ ρ', bind d ρ = some ρ' -> GD X ρ tg d ρ') (hb : ∀ ρ fl, Okr (bodyF ρ) fl -> SsD X H0 ρ body fl) (h : Okr (forD bind bodyF ds (demote iter ρ)) fl)
    (hs : ∀ x, foldedSetIterable iter X.env x = pure x) : SD X H0 ρ (.For tg iter body [] pos) fl := by
  intro pins s σ H D0 I ⟨ow0, E0, hl, B0, q0⟩
  obtain ⟨ow, E, k0⟩ := env_demote (e := iter) E0
  have B := B0.keep k0
  have q := q0.keep k0
  have pb : PSs X body (fun D σ H => ∃ ρ fl, Okr (bodyF ρ) fl /\ tSD X H0 ρ fl D σ H) := fun pins s σ H D I ⟨ρ1, fl1, h1, h2⟩ => hb ρ1 fl1 h1 pins s σ H D I h2
  have pg : PG X tg (fun v σ H Q => ∃ g : TG, PG X tg g /\ g v σ H Q) := fun pins s σ H v u Q I r ⟨g, h1, h2⟩ => h1 pins s σ H v u Q I r h2
  refine ps_for hp hcalm (hi ow) pg pb hs pins s σ H D0 I ⟨E, fun J H1 s1 itd => ?_⟩
  refine ⟨fun i m σ' H' => m = ds.length - i /\ i <= ds.length /\ ∃ ow' ρ', EnvOk X ow' H' σ' ρ' /\ σ'.length = X.N.length /\ BaseOk H0 ow' H' /\ Keep ow H1 ow' H' /\ Okr (forD bind bodyF (ds.drop i) ρ') fl,
    ⟨ds.length, by simp, Nat.zero_le _, ow, _, E.same s1, hl, B.keep (Keep.same s1), Keep.refl _ _, h⟩, ?_⟩
  rintro i m σ' H' ⟨rfl, hile, ow', ρ', E', hl', B', k', hf⟩
  have q' : Post X H0 ow' H' fl D0 := q.keep ((Keep.same s1).trans k')
  have st : Stay (Kd ow H k H1) (Kd ow H k H1) H1 H' := ⟨fun a o ha hn => k'.keep a o ha (.inl hn), fun a vs ha p => k'.keep a _ ha (.inr (kp_shared E.own hk p.1)), fun _ _ _ p => p, fun _ p => p⟩
  have it := itd i H' st
  by_cases hlt : i < ds.length
  . obtain ⟨go, yl⟩ := it.1 ds[i] (List.getElem?_eq_getElem hlt)
    have hdrop : ds.drop i = ds[i] :: ds.drop (i + 1) := List.drop_eq_getElem_cons hlt
    rw [hdrop, forD] at hf
    refine .inr ⟨go, fun σ2 H2 => i + 1 <= ds.length /\ ∃ ow2 ρ2, EnvOk X ow2 H2 σ2 ρ2 /\ σ2.length = X.N.length /\ BaseOk H0 ow2 H2 /\ Keep ow H1 ow2 H2 /\ Okr (forD bind bodyF (ds.drop (i + 1)) ρ2) fl, fun σ2 H2 n => ⟨ds.length - (i + 1), by omega, rfl, n.1, n.2⟩, fun x H3 y3 => ?_⟩
    obtain ⟨sm3, rx⟩ := yl x H3 y3
    cases hbd : bind ds[i] ρ' with
    | none => rw [hbd] at hf; exact (okr_st hf).elim
    | some ρ1 =>
      rw [hbd] at hf
      dsimp only at hf
      obtain ⟨g, g1, g2⟩ := hg _ _ _ hbd
      have rx' : Rep X.K H3 (fun a b => b = true -> ow' a = none) ds[i] x := rx.impH (fun a o ha p _ => by
        obtain ⟨o1, h1⟩ := p.2 rfl
        exact k'.low a o1 h1 (kp_shared E.own hk p.1)) fun a _ z => (by cases z)
      refine ⟨g, g1, g2 ow' x σ' H3 _ hl' (E'.same sm3) rx' fun σ2 hl2 E2 => ?_⟩
      have k3 : Keep ow' H' ow' H3 := Keep.same sm3
      obtain ⟨f1, hbo, hf⟩ := okr_bnd hf
      refine ⟨ρ1, f1, hbo, ow', E2, hl2, B'.keep k3, ?_⟩
      cases f1 with
      | nx ρ2 => exact fun ow2 σ3 H4 a b c => ⟨hlt, ow2, ρ2, a, b, (B'.keep k3).keep c, k'.trans (k3.trans c), hf⟩
      | ct ρ2 => exact fun ow2 σ3 H4 a b c => ⟨hlt, ow2, ρ2, a, b, (B'.keep k3).keep c, k'.trans (k3.trans c), hf⟩
      | bk ρ2 => cases okr_ok hf; exact fun ow2 σ3 H4 a b c => q' ow2 σ3 H4 a b (k3.trans c)
      | rt d => cases okr_ok hf; exact q'
  . have ei : i = ds.length := by omega
    subst ei
    rw [List.drop_length, forD] at hf
    cases okr_ok hf
    exact .inl ⟨it.2 (Nat.le_refl _), q' ow' σ' H' E' hl' (Keep.refl _ _)⟩
theorem sd_while {H0 : Hp} {c : Expr} {body : List Stmt} {pos : Pos} {test : Rho -> Rs Bool} {bodyF : Rho -> Rs Fl} {fl : Fl} (hp : PassesOwn (model X.prog X.w) X.A X.env X.xe)
    (hc : ∀ ρ b, Okr (test ρ) b -> TD X ρ c b) (hb : ∀ ρ fl, Okr (bodyF ρ) fl -> SsD X H0 ρ body fl) {n0 : Nat} {ρ0 : Rho} (h : Okr (whD test bodyF n0 ρ0) fl) : SD X H0 ρ0 (.While c body [] pos) fl := by
  intro pins s σ H D0 I ⟨ow, E, hl, B, q⟩
  have pc : PT X c (fun σ H Q => ∃ ow ρ b, Okr (test ρ) b /\ tTD X ow ρ b σ H Q) := fun pins s σ H Q I ⟨ow, ρ, b, h1, h2⟩ => hc ρ b h1 ow pins s σ H Q I h2
  have pb : PSs X body (fun D σ H => ∃ ρ fl, Okr (bodyF ρ) fl /\ tSD X H0 ρ fl D σ H) := fun pins s σ H D I ⟨ρ1, fl1, h1, h2⟩ => hb ρ1 fl1 h1 pins s σ H D I h2
  refine ps_while hp pc pb pins s σ H D0 I ?_
  refine ⟨fun m σ' H' => ∃ ow' ρ', EnvOk X ow' H' σ' ρ' /\ σ'.length = X.N.length /\ BaseOk H0 ow' H' /\ Keep ow H ow' H' /\ Okr (whD test bodyF m ρ') fl, ⟨n0, ow, ρ0, E, hl, B, Keep.refl _ _, h⟩, ?_⟩
  rintro m σ' H' ⟨ow', ρ', E', hl', B', k', hw⟩
  have q' : Post X H0 ow' H' fl D0 := q.keep k'
  cases m with
  | zero => exact (okr_st hw).elim
  | succ m =>
    rw [whD] at hw
    obtain ⟨b, ht, hw⟩ := okr_bnd hw
    refine ⟨ow', ρ', b, ht, E', fun H1 s1 => ?_⟩
    have k1 : Keep ow' H' ow' H1 := Keep.same s1
    cases b with
    | false =>
      cases okr_ok hw
      exact q' ow' σ' H1 (E'.same s1) hl' k1
    | true =>
      rw [cond_true] at hw
      show if true = true then _ else _
      rw [if_pos rfl]
      refine ⟨fun σ2 H2 => ∃ ow2 ρ2, EnvOk X ow2 H2 σ2 ρ2 /\ σ2.length = X.N.length /\ BaseOk H0 ow2 H2 /\ Keep ow H ow2 H2 /\ Okr (whD test bodyF m ρ2) fl, fun σ2 H2 z => ⟨m, Nat.lt_succ_self _, z⟩, ?_⟩
      obtain ⟨f1, hbo, hw⟩ := okr_bnd hw
      refine ⟨ρ', f1, hbo, ow', E'.same s1, hl', B'.keep k1, ?_⟩
      cases f1 with
      | nx ρ2 => exact fun ow2 σ3 H4 a b c => ⟨ow2, ρ2, a, b, (B'.keep k1).keep c, k'.trans (k1.trans c), hw⟩
      | ct ρ2 => exact fun ow2 σ3 H4 a b c => ⟨ow2, ρ2, a, b, (B'.keep k1).keep c, k'.trans (k1.trans c), hw⟩
      | bk ρ2 => cases okr_ok hw; exact fun ow2 σ3 H4 a b c => q' ow2 σ3 H4 a b (k1.trans c)
      | rt d => cases okr_ok hw; exact q'
theorem ok_ev {Φ : Fx} {e : Expr} {it : Bool} {sc : Scope} {ρ : Rho} {p : D × Nat} {X : Cx} (h : Okr (evE Φ e it sc ρ) p) (G : Good Φ X sc) : Con X ρ e it p.1 p.2 := let ⟨_, h, hp⟩ := h; ev_ok e h hp G
theorem isComp_eq {e : Expr} (h : isComp e = true) : (∃ a b c d, e = .ListComp a b c d) \/ ∀ (Φ : Fx) (sc : Scope) (ρ : Rho), evE Φ e false sc ρ = .st := by
  cases e <;> first | exact .inl ⟨_, _, _, _, rfl⟩ | exact .inr fun _ _ _ => rfl | cases h
theorem sd_assign {Φ : Fx} {sc : Scope} {H0 : Hp} {ρ : Rho} {e : Expr} {x : Str} {p pos : Pos} {r : D × Nat} {o : Bool} (G : Good Φ X sc) (hx : locK sc x = true) (h : Okr (evE Φ e false sc ρ) r) (ho : (r.2 = 0 /\ o = true) \/ (r.2 = 1 /\ o = false)) :
    SD X H0 ρ (.Assign [.Name x p] e pos) (.nx (putR ρ x (r.1, o))) := by
  by_cases hc : isComp e = true
  . rcases isComp_eq hc with ⟨elt, gens, scope, q, rfl⟩ | hno
    rotate_left
    . rw [hno] at h; exact (okr_st h).elim
    . clear hc
      have hsw : ∃ b, swapsWith (.ListComp elt gens scope q) (some (.Name x p)) pos.line X.env = pure b := ⟨_, rfl⟩
      obtain ⟨b, hsw⟩ := hsw
      cases b with
      | false => exact sd_set G hx ((ok_ev h G).ed rfl) ho hsw
      | true =>
        obtain ⟨l, h, hp⟩ := h
        obtain ⟨tg, iter, ifs, rfl⟩ := gens_eq h
        obtain ⟨ds, f, k1, a1, a2, a3, a4, a5, a6, a7, a8, a9⟩ := st_comp (ih_all Φ _) (Nat.lt_succ_self _) h hp G
        obtain ⟨g1, g2, g3, i, g4⟩ := loc_of G hx
        rw [a9]
        intro pins s σ H D0 I ⟨ow, E, hl, B, q⟩
        refine ps_comp (D0 := D0) (i := i) G.calm G.nd a1 a2 a3 a4 a5 a6 a7 a8 I E hsw g4 g1 g3 fun v H1 s1 r1 => ?_
        rcases ho with ⟨ho, rfl⟩ | ⟨ho, rfl⟩ <;> rw [ho] at r1
        . obtain ⟨ow', E', k'⟩ := env_own G.nd hl E s1 g4 g2 r1
          exact q ow' _ H1 E' (by rw [List.length_set]; exact hl) k'
        . exact q ow _ H1 (env_put G.nd hl (E.same s1) g4 g2 r1) (by rw [List.length_set]; exact hl) (Keep.same s1)
  . exact sd_set G hx ((ok_ev h G).ed rfl) ho (swaps_plain (by simpa using hc))
theorem evE_noslice {Φ : Fx} {e : Expr} {it : Bool} {sc : Scope} {ρ : Rho} {r : D × Nat} (h : Okr (evE Φ e it sc ρ) r) : ∀ a b c p, e ≠ .Slice a b c p := by
  intro a b c p z; subst z; exact (okr_st h).elim
theorem ownM_inv {ρ : Rho} {x : Str} {f : List D -> Rs Fl} {fl : Fl} (h : Okr (ownM ρ x f) fl) : ∃ l, ρ x = some (.lst l, true) /\ okN x = true /\ Okr (f l) fl := by
  unfold ownM at h
  split at h
  . rename_i l e
    split at h
    . rename_i c
      exact ⟨l, e, c, h⟩
    . exact (okr_st h).elim
  . exact (okr_st h).elim
theorem okr_inv {α : Type} {a b : α} {l : List Prop} (h : Okr (.ok a l) b) : a = b /\ allP l := by obtain ⟨m, h, hp⟩ := h; cases h; exact ⟨rfl, hp⟩
theorem stoD_inv {ρ : Rho} {x : Str} {i d : D} {fl : Fl} (h : Okr (stoD ρ x i d) fl) : (∃ l j l', ρ x = some (.lst l, true) /\ llessL l = true /\ okN x = true /\ i = .int j /\ setD l j d = some l' /\ d.lless = true /\ fl = .nx (putR ρ x (.lst l', true))) \/ ∃ ks ds k, ρ x = some (.dct ks ds, true) /\ keyD i = some k /\ okN x = true /\ d.lless = true /\ ks.length < many /\ fl = .nx (putR ρ x (.dct (dPutK ks k) (dPutV ks ds k d), true)) := by
  unfold stoD at h
  split at h
  . rename_i l e
    split at h
    . split at h
      . rename_i hn
        split at h
        . rename_i l' hs
          obtain ⟨h9, h1, h2, _⟩ := okr_inv h
          exact .inl ⟨l, _, l', e, h1, hn, rfl, hs, h2, h9.symm⟩
        . exact (okr_st h).elim
      . exact (okr_st h).elim
    . exact (okr_st h).elim
  . rename_i ks ds e
    split at h
    . rename_i k hk
      split at h
      . rename_i hn
        obtain ⟨h9, h1, h2, _⟩ := okr_inv h
        exact .inr ⟨ks, ds, k, e, hk, hn, h1, h2, h9.symm⟩
      . exact (okr_st h).elim
    . exact (okr_st h).elim
  . exact (okr_st h).elim
theorem par_ok {Φ : Fx} {es : List Expr} {e : Expr} {n : Nat} {p pos : Pos} {sc : Scope} {ρ : Rho} {fl : Fl} {X : Cx} {H0 : Hp} (h : Okr (exPar Φ es e sc ρ) fl) (G : Good Φ X sc) : SD X H0 ρ (.Assign [.Tuple es n p] e pos) fl := by
  unfold exPar at h
  split at h
  . split at h
    . rename_i hp
      obtain ⟨q, ⟨lq, h1, hq⟩, h⟩ := okr_bnd h
      split at h
      . rename_i u v hd
        split at h
        . rename_i hf
          cases okr_ok h
          obtain ⟨n1, _⟩ := evEs_nostar h1 hq
          have c := evs_ok _ h1 hq G
          rw [hd] at c
          exact sd_par G c hf hp (n1 _ (by simp)) (n1 _ (by simp))
        . exact (okr_st h).elim
      . exact (okr_st h).elim
    . exact (okr_st h).elim
  . exact (okr_st h).elim
theorem asg_ok {Φ : Fx} {tgs : List Expr} {e : Expr} {sc : Scope} {ρ : Rho} {fl : Fl} {X : Cx} {H0 : Hp} {pos : Pos} (h : Okr (exAsg Φ tgs e sc ρ) fl) (G : Good Φ X sc) : SD X H0 ρ (.Assign tgs e pos) fl := by
  unfold exAsg at h
  split at h
  . obtain ⟨p, h1, h⟩ := okr_bnd h
    unfold putO at h
    split at h
    . rename_i hx
      split at h
      . rename_i ho; cases okr_ok h; exact sd_assign G hx h1 (.inl ⟨ho, rfl⟩)
      . rename_i ho; cases okr_ok h; exact sd_assign G hx h1 (.inr ⟨ho, rfl⟩)
      . exact (okr_st h).elim
    . exact (okr_st h).elim
  . split at h
    . exact par_ok h G
    . rename_i ht
      have ht := Bool.eq_false_iff.mpr ht
      obtain ⟨p, h1, h⟩ := okr_bnd h
      split at h
      . rename_i ho
        cases okr_ok h
        exact sd_own2 G ((ok_ev h1 G).ed rfl) ho ht
      split at h
      . rename_i ds hd
        split at h
        . rename_i hf
          split at h
          . rename_i ρ' hb
            cases okr_ok h
            exact sd_tup G ((ok_ev h1 G).ed rfl) hd hf hb ht
          . exact (okr_st h).elim
        . exact (okr_st h).elim
      . exact (okr_st h).elim
  . split at h
    . rename_i hc
      obtain ⟨p, h1, h⟩ := okr_bnd h
      obtain ⟨q, h2, h⟩ := okr_bnd h
      have c2 := (ok_ev h2 G).ed rfl
      rcases stoD_inv h with ⟨l, j, l', a1, a2, a3, hj, hs, hf, rfl⟩ | ⟨ks, ds, k, a1, hk, a3, hf, hz, rfl⟩
      . rw [hj] at c2
        exact sd_store a1 ((ok_ev h1 G).ed rfl) c2 a2 hf a3 hs (evE_noslice h2)
      . exact sd_dput a1 ((ok_ev h1 G).ed rfl) c2 hk hf hz a3 (evE_noslice h2)
    . exact (okr_st h).elim
  . exact (okr_st h).elim
theorem okr_int {p : D × Nat} {f : Int -> R1} {a : D × Nat} (h : Okr (intR p f) a) : ∃ b, p.1 = .int b /\ Okr (f b) a := by
  obtain ⟨l, h, hp⟩ := h
  obtain ⟨b, h1, h2⟩ := intR_inv h
  exact ⟨b, h1, l, h2, hp⟩
theorem aug_ok {Φ : Fx} {t e : Expr} {op : Operator} {sc : Scope} {ρ : Rho} {fl : Fl} {X : Cx} {H0 : Hp} {pos : Pos} (h : Okr (exAug Φ t op e sc ρ) fl) (G : Good Φ X sc) : SD X H0 ρ (.AugAssign t op e pos) fl := by
  unfold exAug at h
  split at h
  . split at h
    . rename_i hx
      split at h
      . rename_i p hp
        obtain ⟨r, h1, h⟩ := okr_bnd h
        cases okr_ok h
        obtain ⟨a, ha, h3⟩ := okr_int h1
        obtain ⟨q, h2, h4⟩ := okr_bnd h3
        obtain ⟨b, hb, h5⟩ := okr_int h4
        obtain ⟨l, h9, hpl⟩ := h5
        have c := (ok_ev h2 G).ed rfl
        rw [hb] at c
        obtain ⟨p1, p2⟩ := p
        have ha : p1 = .int a := ha
        subst ha
        exact sd_aug G hx hp c h9 hpl
      . exact (okr_st h).elim
    . exact (okr_st h).elim
  . exact (okr_st h).elim
theorem exp_ok {Φ : Fx} {e : Expr} {sc : Scope} {ρ : Rho} {fl : Fl} {X : Cx} {H0 : Hp} {pos : Pos} (h : Okr (exExp Φ e sc ρ) fl) (G : Good Φ X sc) : SD X H0 ρ (.Expr e pos) fl := by
  unfold exExp at h
  split at h
  . split at h
    . rename_i hln
      obtain ⟨p, ⟨lp, h1, hp1⟩, h⟩ := okr_bnd h
      split at h
      . rename_i M hM
        obtain ⟨l, a1, a3, h⟩ := ownM_inv h
        obtain ⟨l', ⟨o, h2, hp2⟩, h⟩ := okr_bnd h
        cases okr_ok h
        obtain ⟨n1, n2⟩ := evEs_nostar h1 hp1
        exact sd_mut G.calm (G.mtt _ M hM) a1 (evs_ok _ h1 hp1 G) n1 n2 a3 hln h2 hp2
      . exact (okr_st h).elim
    . exact (okr_st h).elim
  . obtain ⟨p, h1, h⟩ := okr_bnd h
    cases okr_ok h
    exact sd_expr ((ok_ev h1 G).ed rfl) ⟨_, _, _, _, _, rfl⟩
  . exact (okr_st h).elim
structure Is (Φ : Fx) (n : Nat) : Prop where
  s : ∀ (st : Stmt) {sc : Scope} {ρ : Rho} {fl : Fl} {X : Cx} {H0 : Hp}, sizeOf st < n -> Okr (exS Φ st sc ρ) fl -> Good Φ X sc -> PassesOwn (model X.prog X.w) X.A X.env X.xe -> SD X H0 ρ st fl
  ss : ∀ (st : List Stmt) {sc : Scope} {ρ : Rho} {fl : Fl} {X : Cx} {H0 : Hp}, sizeOf st < n -> Okr (exSs Φ st sc ρ) fl -> Good Φ X sc -> PassesOwn (model X.prog X.w) X.A X.env X.xe -> SsD X H0 ρ st fl
theorem okr_bl {p : D × Nat} {α : Type} {f : Bool -> Rs α} {a : α} (h : Okr (blR p f) a) : ∃ b, p.1 = .bl b /\ Okr (f b) a := by
  obtain ⟨l, h, hp⟩ := h
  obtain ⟨b, h1, h2⟩ := blR_inv h
  exact ⟨b, h1, l, h2, hp⟩
theorem ex_st {Φ : Fx} {n : Nat} (I : Is Φ n) (st : Stmt) {sc : Scope} {ρ : Rho} {fl : Fl} {X : Cx} {H0 : Hp} (hs : sizeOf st < n + 1) (h : Okr (exS Φ st sc ρ) fl) (G : Good Φ X sc) (hp : PassesOwn (model X.prog X.w) X.A X.env X.xe) : SD X H0 ρ st fl := by
  cases st with
  | Return e p =>
    cases e with
    | none => cases okr_ok h; exact sd_retN
    | some e =>
      obtain ⟨p, h1, h⟩ := okr_bnd (show Okr (Rs.bnd _ _) fl from h)
      unfold retK at h
      split at h
      . rename_i hk
        cases okr_ok h
        unfold rtR at h1
        cases hn : nestE e with
        | true => rw [hn] at h1; exact sd_retD ((ok_ev h1 G).ed rfl) hk
        | false => rw [hn] at h1; exact sd_ret ((ok_ev h1 G).ed rfl) hk
      . exact (okr_st h).elim
  | Pass p => cases okr_ok h; exact sd_pass
  | Break p => cases okr_ok h; exact sd_break
  | Continue p => cases okr_ok h; exact sd_cont
  | Assign tgs e p => exact asg_ok h G
  | AugAssign t op e p => exact aug_ok h G
  | Expr e p => exact exp_ok h G
  | If c a b p =>
    obtain ⟨p, h1, h⟩ := okr_bnd (show Okr (Rs.bnd _ _) fl from h)
    obtain ⟨t, ht, h⟩ := okr_bl h
    refine sd_if ((ok_ev h1 G).td rfl t ht) ?_
    cases t with
    | true => rw [if_pos rfl]; exact I.ss _ (szE (by simp <;> omega) hs) h G hp
    | false => rw [if_neg Bool.false_ne_true]; exact I.ss _ (szE (by simp <;> omega) hs) h G hp
  | For tg it body els p =>
    rw [exS_for] at h
    split at h
    . rename_i he
      have he := List.isEmpty_iff.mp he
      subst he
      obtain ⟨p, h1, h⟩ := okr_bnd h
      split at h
      . rename_i ds hd
        split at h
        . rename_i hk
          obtain ⟨lq, h1', _⟩ := id h1
          exact sd_for hp G.calm ((ok_ev h1 G).ie rfl _ ds hd hk.2) hk.1 (fun d ρ ρ' hb => gd_of G hb) (fun ρ1 f1 h2 => I.ss _ (szE (by simp <;> omega) hs) h2 G hp) h (folded_of h1')
        . exact (okr_st h).elim
      . exact (okr_st h).elim
    . exact (okr_st h).elim
  | While c body els p =>
    rw [exS_wh] at h
    split at h
    . rename_i he
      have he := List.isEmpty_iff.mp he
      subst he
      refine sd_while hp (fun ρ b hb => ?_) (fun ρ1 f1 h2 => I.ss _ (szE (by simp <;> omega) hs) h2 G hp) h
      obtain ⟨p, h1, hb⟩ := okr_bnd hb
      obtain ⟨t, ht, hb⟩ := okr_bl hb
      cases okr_ok hb
      exact (ok_ev h1 G).td rfl _ ht
    . exact (okr_st h).elim
  | _ => exact (okr_st h).elim
theorem exs_st {Φ : Fx} {n : Nat} (I : Is Φ n) (ss : List Stmt) {sc : Scope} {ρ : Rho} {fl : Fl} {X : Cx} {H0 : Hp} (hs : sizeOf ss < n + 1) (h : Okr (exSs Φ ss sc ρ) fl) (G : Good Φ X sc) (hp : PassesOwn (model X.prog X.w) X.A X.env X.xe) : SsD X H0 ρ ss fl := by
  cases ss with
  | nil => cases okr_ok h; exact ssd_nil
  | cons s ss =>
    obtain ⟨f1, h1, h⟩ := okr_bnd (show Okr (Rs.bnd _ _) fl from h)
    have c := I.s s (H0 := H0) (szE (by simp <;> omega) hs) h1 G hp
    cases f1 with
    | nx ρ' => exact ssd_cons c (I.ss ss (szE (by simp <;> omega) hs) h G hp)
    | bk ρ' => cases okr_ok h; exact ssd_stop c (fun _ z => (by cases z))
    | ct ρ' => cases okr_ok h; exact ssd_stop c (fun _ z => (by cases z))
    | rt d => cases okr_ok h; exact ssd_stop c (fun _ z => (by cases z))
theorem is_all (Φ : Fx) : ∀ n, Is Φ n
  | 0 => ⟨fun _ _ _ _ _ _ h => absurd h (Nat.not_lt_zero _), fun _ _ _ _ _ _ h => absurd h (Nat.not_lt_zero _)⟩
  | n + 1 => ⟨fun e _ _ _ _ _ hs h G hp => ex_st (is_all Φ n) e hs h G hp, fun e _ _ _ _ _ hs h G hp => exs_st (is_all Φ n) e hs h G hp⟩
theorem exs_ok {Φ : Fx} (ss : List Stmt) {sc : Scope} {ρ : Rho} {fl : Fl} {X : Cx} {H0 : Hp} (h : Okr (exSs Φ ss sc ρ) fl) (G : Good Φ X sc) (hp : PassesOwn (model X.prog X.w) X.A X.env X.xe) : SsD X H0 ρ ss fl := (is_all Φ _).ss ss (Nat.lt_succ_self _) h G hp
end Sp
set_option Elab.async false
set_option linter.all false
set_option maxRecDepth 100000
namespace Sp
open PySem PySem.Spec PyProof.Rows L2
def localsOf (sc : Scope) : List Str := (sc.names.filter fun y => y.2 == .local || y.2 == .cell).map (·.1)
def FnD (P : Program) (w : World) (K : PySem.W.Frag) (mg : Str -> Option Value) (base : Heap) (k : Nat) (g : Str) (F : List D -> Rs D) : Prop :=
  ∃ f fd ps, FnOk P w K mg base CX0 k f fd ps (spD K F) /\ mg g = some (.ref f) /\ PySem.W.keepIn K (.ref f) = true /\ Binds K fd ps [] /\ (g == ("__debug__" : Str)) = false
theorem FnD.mono {P : Program} {w : World} {K : PySem.W.Frag} {mg : Str -> Option Value} {base : Heap} {j k : Nat} {g : Str} {F : List D -> Rs D} (h : FnD P w K mg base j g F) (hjk : j <= k) : FnD P w K mg base k g F :=
  let ⟨f, fd, ps, h1, h2⟩ := h; ⟨f, fd, ps, h1.mono hjk, h2⟩
def MkD (P : Program) (w : World) (K : PySem.W.Frag) (mg : Str -> Option Value) (base : Heap) (k : Nat) (g : Str) (F : List D -> Rs D) : Prop :=
  ∃ j C f fd ps, j + 1 <= k /\ (∀ ds r l, F ds = .ok r l -> r.lless = true) /\ Mk K C f /\ FnOk P w K mg base CX0 j f fd ps (spI K g F) /\ mg g = some (.ref C) /\ PySem.W.nsIn K mainGlobals g = some (some (.ref C)) /\ Cls K C /\ Binds K fd ps [] /\ (g == ("__debug__" : Str)) = false
theorem MkD.mono {P : Program} {w : World} {K : PySem.W.Frag} {mg : Str -> Option Value} {base : Heap} {j k : Nat} {g : Str} {F : List D -> Rs D} (h : MkD P w K mg base j g F) (hjk : j <= k) : MkD P w K mg base k g F :=
  let ⟨i, C, f, fd, ps, h0, h1⟩ := h; ⟨i, C, f, fd, ps, Nat.le_trans h0 hjk, h1⟩
def FnE (P : Program) (w : World) (K : PySem.W.Frag) (mg : Str -> Option Value) (base : Heap) (k : Nat) (g : Str) (F : List D -> Rs D) : Prop := FnD P w K mg base k g F \/ MkD P w K mg base k g F
def MethD (P : Program) (w : World) (K : PySem.W.Frag) (mg : Str -> Option Value) (base : Heap) (k : Nat) (n m : Str) (F : List D -> Rs D) : Prop :=
  ∃ C f fd ps, PySem.W.nsIn K mainGlobals n = some (some (.ref C)) /\ Cls K C /\ Meth K C m f /\ FnOk P w K mg base CX0 k f fd ps (spD K F) /\ Binds K fd ps []
theorem MethD.mono {P : Program} {w : World} {K : PySem.W.Frag} {mg : Str -> Option Value} {base : Heap} {j k : Nat} {n m : Str} {F : List D -> Rs D} (h : MethD P w K mg base j n m F) (hjk : j <= k) : MethD P w K mg base k n m F :=
  let ⟨C, f, fd, ps, h1, h2, h3, h4, h5⟩ := h; ⟨C, f, fd, ps, h1, h2, h3, h4.mono hjk, h5⟩
theorem arg_look : ∀ {ps : List Str} {ds : List D} {x : Str} {d : D} {o : Bool}, argR ps ds x = some (d, o) -> o = false /\ ∃ i : Nat, ps[i]? = some x /\ ds[i]? = some d
  | [], ds, x, d, o, h => by cases ds <;> cases h
  | p :: ps, [], x, d, o, h => by cases h
  | p :: ps, y :: ds, x, d, o, h => by
    replace h : (if x = p then some (y, false) else argR ps ds x) = some (d, o) := h
    by_cases e : x = p
    . rw [if_pos e] at h
      cases h; subst e; exact ⟨rfl, 0, rfl, rfl⟩
    . rw [if_neg e] at h
      obtain ⟨h1, i, h2, h3⟩ := arg_look h
      exact ⟨h1, i + 1, by simpa using h2, by simpa using h3⟩
structure Fxo (P : Program) (w : World) (K : PySem.W.Frag) (mg : Str -> Option Value) (base : Heap) (k : Nat) (Φ : Fx) : Prop where
  fn : ∀ g F, Φ.fn g = some F -> FnE P w K mg base k g F
  con : ∀ x d, Φ.con x = some d -> ∃ v u, mg x = some u /\ RelV v u /\ ∀ H P, Rep K H P d v
  blt : ∀ f B, Φ.blt f = some B -> BltOk f B
  itr : ∀ f B, Φ.itr f = some B -> ItrOk f B
  mth : ∀ m M, Φ.mth m = some M -> MthOk m M
  mtt : ∀ m M, Φ.mtt m = some M -> MutOk m M
  slf : SlfOk Φ.slf
  fld : ∀ n f, Φ.fld n f = true -> ∀ C, PySem.W.nsIn K mainGlobals n = some (some (.ref C)) -> NoAttr K C f
  omt : ∀ n m F, Φ.omt n m = some F -> MethD P w K mg base k n m F
  bl : ∀ n ∈ bnames, mg n = none
def Runs (Φ : Fx) (sc : Scope) (ps : List Str) (body : List Stmt) (F : List D -> Rs D) : Prop := ∀ ds r, Okr (F ds) r -> Okr (runD Φ sc ps body ds) r
theorem Runs.self {Φ : Fx} {sc : Scope} {ps : List Str} {body : List Stmt} : Runs Φ sc ps body (runD Φ sc ps body) := fun _ _ h => h
theorem good_mk {P : Program} {w : World} {K : PySem.W.Frag} {mg : Str -> Option Value} {base : Heap} {k : Nat} {qual : Str} {st : Stmt} {f : Addr} {ps : List Str} {Φ : Fx} {cdv : Value} {A : Around} {outer : List Env} {s : Shared} {H : Hp} {E : XK}
    (S : FnScope (localsOf (defScope st)) ps (defScope st)) (hΦ : Fxo P w K mg base k Φ) (hr : Room k (A.deeper (envOfC qual (defScope st) s.heap.objs.size f cdv))) :
    Good Φ (cxOf CX0 P w K mg base (localsOf (defScope st)) qual (defScope st) f cdv A outer s H E).nox (defScope st) := by
  have hun := hr.un
  refine ⟨rfl, S.nd, fun x hx => hx, fun x hx => hx, fun x hx => hx, fun x hx => hx, fun g' F' hg => ?_, hΦ.con, hΦ.blt, hΦ.itr, hΦ.mth, hΦ.mtt, hΦ.slf, hΦ.fld, fun n m F hF => ?_, hΦ.bl, ?_, fun x hx => ?_, fun x _ => rfl⟩
  . rcases hΦ.fn g' F' hg with z | z
    . obtain ⟨f', fd', ps', a1, a2, a3, a4, a5⟩ := z
      exact .inl ⟨k, f', fd', ps', a1, hr, a2, a3, a4, a5⟩
    . obtain ⟨j, C, f', fd', ps', a0, a1, a2, a3, a4⟩ := z
      exact .inr ⟨j, C, f', fd', ps', a1, a2, a3, hr.mono a0, a4⟩
  . obtain ⟨C, f', fd', ps', a1, a2, a3, a4, a5⟩ := hΦ.omt n m F hF
    exact ⟨k, C, f', fd', ps', a1, a2, a3, a4, hr, a5⟩
  . show (A.deeper _).units + 70 < cLine
    omega
  . show x ∈ localsOf (defScope st)
    unfold localsOf
    unfold locK at hx
    rw [Bool.or_eq_true] at hx
    rcases hx with hx | hx
    . have hx : (defScope st).names.lookup x = some .local := by simpa using hx
      exact List.mem_map.mpr ⟨(x, .local), List.mem_filter.mpr ⟨PySem.mem_of_lookup hx, by simp⟩, rfl⟩
    . have hx : (defScope st).names.lookup x = some .cell := by simpa using hx
      exact List.mem_map.mpr ⟨(x, .cell), List.mem_filter.mpr ⟨PySem.mem_of_lookup hx, by simp⟩, rfl⟩
theorem env_mk {P : Program} {w : World} {K : PySem.W.Frag} {mg : Str -> Option Value} {base : Heap} {qual : Str} {st : Stmt} {f : Addr} {ps : List Str} {cdv : Value} {A : Around} {outer : List Env} {s : Shared} {H : Hp} {E : XK} {ds : List D} {vs : List V}
    (S : FnScope (localsOf (defScope st)) ps (defScope st)) (h1 : RepL K H (fun _ _ => True) ds vs) (hl : ds.length = ps.length) :
    EnvOk (cxOf CX0 P w K mg base (localsOf (defScope st)) qual (defScope st) f cdv A outer s H E).nox (fun _ => none) H (start (localsOf (defScope st)) vs) (argR ps ds) /\ (start (localsOf (defScope st)) vs).length = (localsOf (defScope st)).length := by
  have hpl : ps.length <= (localsOf (defScope st)).length := by have := congrArg List.length S.pre; rw [List.length_take] at this; omega
  have hvl : vs.length = ps.length := by rw [<- h1.length]; exact hl
  refine ⟨⟨fun x d o hx => ?_, fun a ha => absurd rfl ha⟩, by unfold L2.start; rw [List.length_append, List.length_map, List.length_replicate]; omega⟩
  obtain ⟨rfl, i, i1, i2⟩ := arg_look hx
  obtain ⟨v, i3, i4⟩ := h1.get i2
  have hi : i < ps.length := (List.getElem?_eq_some_iff.mp i1).1
  refine ⟨i, v, ?_, ?_, ?_, i4.imp fun a b _ _ => rfl⟩
  . show (localsOf (defScope st))[i]? = some x
    rw [<- S.pre, List.getElem?_take_of_lt hi] at i1
    exact i1
  . rcases S.par x (List.mem_of_getElem? i1) with z | z
    . exact .inl z
    . exact .inr (.inl z)
  . unfold L2.start
    rw [List.getElem?_append_left (by rw [List.length_map]; omega), List.getElem?_map, i3]; rfl
theorem fnOk_of {P : Program} {w : World} {K : PySem.W.Frag} {mg : Str -> Option Value} {base : Heap} {k : Nat} {g qual : Str} {st : Stmt} {f : Addr} {fd : FuncData} {ps : List Str} {F : List D -> Rs D} {Φ : Fx} (Fn : Fun K g qual st f fd)
    (S : FnScope (localsOf (defScope st)) ps (defScope st)) (hΦ : Fxo P w K mg base k Φ)
    (hrun : Runs Φ (defScope st) ps (defBody st) F) : FnOk P w K mg base CX0 (k + 1) f fd ps (spD K F) := by
  refine Fn.ok S (fun vs H Q E h => ?_) (fun cdv A outer s H vs Q E hr h => ?_)
  . obtain ⟨ds, r, l, h1, h2, hp, _⟩ := h
    have := hrun ds r ⟨l, h2, hp⟩
    unfold runD at this
    split at this
    . rename_i hl; rw [<- h1.length]; exact hl
    . exact (okr_st this).elim
  . obtain ⟨ds, r, l, h1, h2, hp, q⟩ := h
    have hr1 := hrun ds r ⟨l, h2, hp⟩
    unfold runD at hr1
    split at hr1
    . rename_i hl
      have G := good_mk (outer := outer) (H := H) (E := E) S hΦ hr
      obtain ⟨E0, hsl⟩ := env_mk (P := P) (w := w) (mg := mg) (base := base) (qual := qual) (f := f) (cdv := cdv) (A := A) (outer := outer) (s := s) (E := E) S h1 hl
      have B0 : BaseOk H (fun _ => none) H := fun a o h => ⟨h, rfl⟩
      obtain ⟨fl, hx, hr1⟩ := okr_bnd hr1
      cases fl with
      | rt d =>
        cases okr_ok hr1
        exact ⟨_, exs_ok _ (H0 := H) hx G PassesOwn.never, fun _ => none, E0, hsl, B0, fun v H' sm rp => q v H' sm rp⟩
      | nx ρ' =>
        cases okr_ok hr1
        exact ⟨_, exs_ok _ (H0 := H) hx G PassesOwn.never, fun _ => none, E0, hsl, B0, fun ow' σ' H' _ _ kp => q .non H' (fun a o h => kp.keep a o h (.inr rfl)) (by rw [Rep])⟩
      | bk ρ' => exact (okr_st hr1).elim
      | ct ρ' => exact (okr_st hr1).elim
    . exact (okr_st hr1).elim
mutual
def D.noObj : D -> Bool
  | .obj _ _ _ => false
  | .tup l => noObjL l
  | .lst l => noObjL l
  | .dct _ l => noObjL l
  | _ => true
def noObjL : List D -> Bool
  | [] => true
  | d :: l => d.noObj && noObjL l
end
mutual
theorem Rep.off {K : PySem.W.Frag} {P : AP2} {H H' : Hp} {x C dx : Addr} {fs : List (Str × V)} (hx : H x = some (.ins C dx fs)) (s : ∀ a o, a ≠ x -> H a = some o -> H' a = some o) : ∀ {d : D} {v : V}, d.noObj = true -> Rep K H P d v -> Rep K H' P d v
  | .non, v, _, h => by rw [Rep] at h ⊢; exact h
  | .bl b, v, _, h => by rw [Rep] at h ⊢; exact h
  | .int i, v, _, h => by rw [Rep] at h ⊢; exact h
  | .str x, v, _, h => by rw [Rep] at h ⊢; exact h
  | .dct ks es, v, f, h => by
    rw [Rep] at h ⊢
    obtain ⟨f0, e0, a, vs, e, h1, p, r⟩ := h
    exact ⟨f0, e0, a, vs, e, s _ _ (ne_of h1 hx (fun z => nomatch z)) h1, p, RepL.off hx s (by rw [D.noObj] at f; exact f) r⟩
  | .typ n, v, _, h => by rw [Rep] at h ⊢; exact h
  | .sn n, v, _, h => by
    rw [Rep] at h ⊢
    obtain ⟨a, S, e, h⟩ := h
    exact ⟨a, S, e, s _ _ (ne_of h hx (fun z => nomatch z)) h⟩
  | .obj n ns ds, v, f, h => by rw [D.noObj] at f; cases f
  | .cls n, v, _, h => by rw [Rep] at h ⊢; exact h
  | .tup l, v, f, h => by
    rw [Rep] at h ⊢
    obtain ⟨a, vs, e, h, r⟩ := h
    refine ⟨a, vs, e, ?_, RepL.off hx s (by rw [D.noObj] at f; exact f) r⟩
    rcases h with (h | ⟨o, h⟩) | h
    . exact .inl (.inl (s _ _ (ne_of h hx (fun z => nomatch z)) h))
    . exact .inl (.inr ⟨o, s _ _ (ne_of h hx (fun z => nomatch z)) h⟩)
    . exact .inr h
  | .lst l, v, f, h => by
    rw [Rep] at h ⊢
    obtain ⟨a, vs, b, e, h, p, r⟩ := h
    refine ⟨a, vs, b, e, ?_, p, RepL.off hx s (by rw [D.noObj] at f; exact f) r⟩
    cases b with
    | true => exact s _ _ (ne_of h hx (fun z => nomatch z)) h
    | false =>
      rcases h with ⟨o, h⟩ | h
      . exact .inl ⟨o, s _ _ (ne_of h hx (fun z => nomatch z)) h⟩
      . exact .inr h
theorem RepL.off {K : PySem.W.Frag} {P : AP2} {H H' : Hp} {x C dx : Addr} {fs : List (Str × V)} (hx : H x = some (.ins C dx fs)) (s : ∀ a o, a ≠ x -> H a = some o -> H' a = some o) : ∀ {l : List D} {vs : List V}, noObjL l = true -> RepL K H P l vs -> RepL K H' P l vs
  | [], vs, _, h => by rw [RepL] at h ⊢; exact h
  | d :: l, vs, f, h => by
    rw [RepL] at h ⊢
    rw [noObjL, Bool.and_eq_true] at f
    obtain ⟨v, r, e, h1, h2⟩ := h
    exact ⟨v, r, e, Rep.off hx s f.1 h1, RepL.off hx s f.2 h2⟩
end
theorem fnD_of {P : Program} {w : World} {K : PySem.W.Frag} {mg : Str -> Option Value} {base : Heap} {k : Nat} {g qual : Str} {st : Stmt} {f : Addr} {fd : FuncData} {ps : List Str} {F : List D -> Rs D} {Φ : Fx} (Fn : Fun K g qual st f fd)
    (S : FnScope (localsOf (defScope st)) ps (defScope st)) (hm : mg g = some (.ref f)) (hb : Binds K fd ps []) (hd : (g == ("__debug__" : Str)) = false)
    (hΦ : Fxo P w K mg base k Φ) (hrun : Runs Φ (defScope st) ps (defBody st) F) : FnD P w K mg base (k + 1) g F :=
  ⟨f, fd, ps, fnOk_of Fn S hΦ hrun, hm, Fn.kp, hb, hd⟩
theorem mem_cons_ok {α : Type} {Pr : α -> Prop} {x : α} {l : List α} (h1 : Pr x) (h2 : ∀ y ∈ l, Pr y) : ∀ y ∈ x :: l, Pr y := fun y hy => (List.mem_cons.mp hy).elim (fun e => e ▸ h1) (h2 y)
theorem nil_ok {α : Type} {Pr : α -> Prop} : ∀ y ∈ ([] : List α), Pr y := fun y hy => by cases hy
theorem hsp_of {K : PySem.W.Frag} {H : Hp} {a : Addr} {ns : List Int} {F : List D -> Rs D} (hO : Only H) (hS : SqL K H a (ns.map V.int)) (h : Okr (F [.lst (ns.map D.int)]) (.bl true)) : spD K F [.ref a] H (fun v _ => v = .bl true) fun _ _ _ => False := by
  obtain ⟨l, h, hp⟩ := h
  refine ⟨[.lst (ns.map D.int)], .bl true, l, RepL.one ?_, h, hp, fun v H' _ r => by rw [Rep] at r; exact r⟩
  rw [Rep]
  rcases hS with (hS | hS) | hS
  . rcases hO a with z | ⟨o, xs, z⟩
    . rw [z] at hS; cases hS
    . rw [z] at hS; cases hS
  . exact ⟨a, _, false, rfl, .inl hS, True.intro, RepL.ofInts⟩
  . exact ⟨a, _, false, rfl, .inr hS, True.intro, RepL.ofInts⟩
abbrev FnP (P : Program) (w : World) (K : PySem.W.Frag) (mg : Str -> Option Value) (base : Heap) (k : Nat) : Str × (List D -> Rs D) -> Prop := fun p => FnE P w K mg base k p.1 p.2
abbrev ConP (mg : Str -> Option Value) (K : PySem.W.Frag) : Str × D -> Prop := fun p => ∃ v u, mg p.1 = some u /\ RelV v u /\ ∀ H P, Rep K H P p.2 v
abbrev BltP : Str × (List D -> R1) -> Prop := fun p => BltOk p.1 p.2
abbrev ItrP : Str × (List D -> Nat -> R1) -> Prop := fun p => ItrOk p.1 p.2
abbrev MthP : Str × (D -> List D -> R1) -> Prop := fun p => MthOk p.1 p.2
abbrev MutP : Str × (List D -> List D -> Nat -> Rs (List D)) -> Prop := fun p => MutOk p.1 p.2
theorem fxo_of {P : Program} {w : World} {K : PySem.W.Frag} {mg : Str -> Option Value} {base : Heap} {k : Nat} {l : List (Str × (List D -> Rs D))} {c : List (Str × D)} {b : List (Str × (List D -> R1))} {i : List (Str × (List D -> Nat -> R1))} {m : List (Str × (D -> List D -> R1))} {t : List (Str × (List D -> List D -> Nat -> Rs (List D)))} {sf : D -> Option Int -> Option Int -> R1}
    (hl : ∀ p ∈ l, FnP P w K mg base k p) (hc : ∀ p ∈ c, ConP mg K p) (hb : ∀ p ∈ b, BltP p) (hi : ∀ p ∈ i, ItrP p) (hm : ∀ p ∈ m, MthP p) (ht : ∀ p ∈ t, MutP p) (hs : SlfOk sf) (hn : ∀ n ∈ bnames, mg n = none) : Fxo P w K mg base k (Tb l c b i m t sf) :=
  ⟨fun g F h => hl (g, F) (PySem.mem_of_lookup h), fun x d h => hc (x, d) (PySem.mem_of_lookup h), fun f B h => hb (f, B) (PySem.mem_of_lookup h), fun f B h => hi (f, B) (PySem.mem_of_lookup h), fun f B h => hm (f, B) (PySem.mem_of_lookup h), fun f B h => ht (f, B) (PySem.mem_of_lookup h), hs, (fun _ _ h => by cases h), (fun _ _ _ h => by cases h), hn⟩
theorem con_ints {mg : Str -> Option Value} {K : PySem.W.Frag} {x : Str} {c : Addr} {ss : Array (Option Value)} {nn : Nat} {its : Array Value} {ns : List Int} (hm : mg x = some (.ref c)) (hl : K.lookup c = some ⟨.type "tuple", none, .seq its nn, ss⟩) (hz : its.size <= sizeLine) (hv : Vals (ns.map V.int) its.toList) :
    ConP mg K (x, .tup (ns.map .int)) := ⟨.ref c, .ref c, hm, rfl, fun H P => by rw [Rep]; exact ⟨c, _, rfl, .inr ⟨_, its, nn, hl, rfl, rfl, rfl, hz, hv⟩, RepL.ofInts⟩⟩
theorem con_int {mg : Str -> Option Value} {K : PySem.W.Frag} {x : Str} {y : Int} {t : Tok} (hm : mg x = some (.int y t)) : ConP mg K (x, .int y) := ⟨.int y, .int y t, hm, ⟨t, rfl⟩, fun H P => by rw [Rep]⟩
end Sp
set_option Elab.async false
set_option linter.all false
set_option maxRecDepth 100000
namespace Sp
open PySem PySem.Spec PyProof.Rows L2
open AutoSeq1 (wpAny_loadPart')
section
variable {prog : Program} {w : World} {A : Around} {E : Value -> Shared -> Prop} {s : Shared}
end
end Sp
set_option Elab.async false
set_option linter.all false
set_option maxRecDepth 100000
namespace Sp
open PySem PySem.Spec PyProof.Rows L2
variable {X : Cx}
end Sp
set_option Elab.async false
set_option linter.all false
set_option maxRecDepth 100000
namespace Sp
open PySem PySem.Spec PyProof.Rows L2
open AutoSeq1 (wpAny_loadPart')
section
variable {prog : Program} {w : World} {A : Around} {E : Value -> Shared -> Prop} {s : Shared}
variable {z TI TO i1 i2 l1 l2 : Addr} {k1 k2 : Nat} {P1 P2 : Nat -> Heap -> Prop} {g1 g2 : Nat -> Option Value} {x y a b : Value}
end
end Sp
set_option Elab.async false
set_option linter.all false
set_option maxRecDepth 100000
namespace Sp
open PySem PySem.Spec PyProof.Rows L2
variable {X : Cx}
end Sp
set_option Elab.async false
set_option linter.all false
set_option maxRecDepth 100000
namespace Sp
open PySem PySem.Spec PyProof.Rows L2
variable {X : Cx}
def SqK (κ : Bool) (K : PySem.W.Frag) (H : Hp) (a : Addr) (xs : List V) : Prop := match κ with | true => SqT K H a xs | false => SqL K H a xs
def seqK (κ : Bool) (l : List D) : D := match κ with | true => .tup l | false => .lst l
theorem sqk_of {κ : Bool} {ow : Ow} {H H1 : Hp} {k : Nat} {l : List D} {v : V} (h : Rep X.K H1 (Kp ow H k) (seqK κ l) v) : ∃ a vs, v = .ref a /\ SqK κ X.K H1 a vs /\ RepL X.K H1 (Kp ow H k) l vs /\ ∀ {P' : AP2} {H2 : Hp}, Stay (Kd ow H k H1) P' H1 H2 -> SqK κ X.K H2 a vs := by
  cases κ
  . rw [show seqK false l = .lst l from rfl, Rep] at h
    obtain ⟨a, vs, b, rfl, hl, hp, rl⟩ := h
    have hp' : Kd ow H k H1 a b := ⟨hp, fun hb => by subst hb; exact ⟨_, hl⟩⟩
    exact ⟨a, vs, rfl, hl.sq, rl, fun st => (st.ls hl hp').sq⟩
  . rw [show seqK true l = .tup l from rfl, Rep] at h
    obtain ⟨a, vs, rfl, hl, rl⟩ := h
    exact ⟨a, vs, rfl, hl, rl, fun st => st.sq hl⟩
end Sp
set_option Elab.async false
set_option linter.all false
set_option maxRecDepth 100000
namespace Sp
open PySem PySem.Spec PyProof.Rows L2
open AutoSeq1 (wpAny_loadPart')
variable {X : Cx}
section
variable {prog : Program} {w : World} {A : Around} {E : Value -> Shared -> Prop} {s : Shared}
end
end Sp
set_option Elab.async false
set_option linter.all false
set_option maxRecDepth 100000
namespace Sp
open PySem PySem.Spec PyProof.Rows L2
open PySem.W (KasT kas_sort kas_ask KatLex KatTups kat_sorted kat_kind kat_lt kat_cons kat_nil kat_go kat_yes kat_no kat_one KasFin)
section
variable {prog : Program} {w : World} {A : Around} {E : Value -> Shared -> Prop} {s : Shared}
end
variable {X : Cx}
end Sp
set_option Elab.async false
set_option linter.all false
set_option maxRecDepth 100000
namespace Sp
open PySem PySem.Spec PyProof.Rows L2
theorem okr_of {α : Type} {r : Rs α} {a : α} {l : List Prop} (h : r = .ok a l) (hp : allP l) : Okr r a := ⟨l, h, hp⟩
theorem Okr.eq {α : Type} {r : Rs α} {a b : α} (h : Okr r a) (e : a = b) : Okr r b := e ▸ h
theorem Okr.bnd {α β : Type} {r : Rs α} {f : α -> Rs β} {a : α} {b : β} (h1 : Okr r a) (h2 : Okr (f a) b) : Okr (r.bnd f) b := by
  obtain ⟨l, rfl, p1⟩ := h1
  obtain ⟨m, h2, p2⟩ := h2
  refine ⟨l ++ m, ?_, allP_append.mpr ⟨p1, p2⟩⟩
  show (match f a with | .st => (.st : Rs β) | .ok b m => Rs.ok b (l ++ m)) = _
  rw [h2]
theorem Okr.inj {α : Type} {r : Rs α} {a b : α} (h : Okr r a) (g : Okr r b) : a = b := by
  obtain ⟨l, h, _⟩ := h; obtain ⟨m, g, _⟩ := g; rw [h] at g; cases g; rfl
section
variable {Φ : Fx} {sc : Scope} {ρ ρ' : Rho} {fl : Fl} {ss : List Stmt}
theorem run_i {ps : List Str} {body : List Stmt} {ds : List D} {d : D} (h : Okr (exSs Φ body sc (argR ps ds)) (.rt d)) (hl : ds.length = ps.length := by rfl) : Okr (runD Φ sc ps body ds) d := by
  unfold runD; rw [if_pos hl]; exact h.bnd ⟨[], rfl, True.intro⟩
theorem ss_nil : Okr (exSs Φ [] sc ρ) (.nx ρ) := ⟨[], rfl, True.intro⟩
theorem ss_nx {s : Stmt} (h : Okr (exS Φ s sc ρ) (.nx ρ')) (h2 : Okr (exSs Φ ss sc ρ') fl) : Okr (exSs Φ (s :: ss) sc ρ) fl := Okr.bnd h h2
theorem ss_end {s : Stmt} (h : Okr (exS Φ s sc ρ) fl) (hf : ∀ ρ, fl ≠ .nx ρ) : Okr (exSs Φ (s :: ss) sc ρ) fl := Okr.bnd h (by
  cases fl with
  | nx ρ => exact absurd rfl (hf ρ)
  | rt d => exact ⟨[], rfl, True.intro⟩
  | bk ρ => exact ⟨[], rfl, True.intro⟩
  | ct ρ => exact ⟨[], rfl, True.intro⟩)
theorem ss_rt {s : Stmt} {d : D} (h : Okr (exS Φ s sc ρ) (.rt d)) : Okr (exSs Φ (s :: ss) sc ρ) (.rt d) := ss_end h fun _ z => by cases z
theorem ss_inv {s : Stmt} (h : Okr (exSs Φ (s :: ss) sc ρ) fl) : (∃ ρ', Okr (exS Φ s sc ρ) (.nx ρ') /\ Okr (exSs Φ ss sc ρ') fl) \/ ((∀ ρ, fl ≠ .nx ρ) /\ Okr (exS Φ s sc ρ) fl) := by
  obtain ⟨f, h1, h2⟩ := okr_bnd (show Okr (Rs.bnd _ _) fl from h)
  cases f with
  | nx ρ' => exact .inl ⟨ρ', h1, h2⟩
  | rt d => cases okr_ok h2; exact .inr ⟨fun _ z => (by cases z), h1⟩
  | bk ρ => cases okr_ok h2; exact .inr ⟨fun _ z => (by cases z), h1⟩
  | ct ρ => cases okr_ok h2; exact .inr ⟨fun _ z => (by cases z), h1⟩
theorem app_nx : ∀ {a : List Stmt} {ρ : Rho}, Okr (exSs Φ a sc ρ) (.nx ρ') -> Okr (exSs Φ ss sc ρ') fl -> Okr (exSs Φ (a ++ ss) sc ρ) fl
  | [], ρ, h, h2 => by cases okr_ok h; exact h2
  | s :: a, ρ, h, h2 => by
    rcases ss_inv h with ⟨ρ1, h3, h4⟩ | ⟨h3, _⟩
    . exact ss_nx h3 (app_nx h4 h2)
    . exact absurd rfl (h3 _)
theorem app_inv : ∀ {a : List Stmt} {ρ : Rho}, Okr (exSs Φ (a ++ ss) sc ρ) fl -> (∃ ρ', Okr (exSs Φ a sc ρ) (.nx ρ') /\ Okr (exSs Φ ss sc ρ') fl) \/ ((∀ ρ, fl ≠ .nx ρ) /\ Okr (exSs Φ a sc ρ) fl)
  | [], ρ, h => .inl ⟨ρ, ss_nil, h⟩
  | s :: a, ρ, h => by
    rcases ss_inv h with ⟨ρ1, h3, h4⟩ | ⟨h3, h4⟩
    . rcases app_inv h4 with ⟨ρ2, h5, h6⟩ | ⟨h5, h6⟩
      . exact .inl ⟨ρ2, ss_nx h3 h5, h6⟩
      . exact .inr ⟨h5, ss_nx h3 h6⟩
    . exact .inr ⟨h3, ss_end h4 h3⟩
theorem ss_cut (n : Nat) (h : Okr (exSs Φ (ss.take n) sc ρ) (.nx ρ')) (h2 : Okr (exSs Φ (ss.drop n) sc ρ') fl) : Okr (exSs Φ ss sc ρ) fl := by
  rw [<- List.take_append_drop n ss]; exact app_nx h h2
theorem ss_if {c : Expr} {a b : List Stmt} {p : Pos} {t : Bool} {k : Nat} (hc : Okr (evE Φ c false sc ρ) (.bl t, k)) (h1 : t = true -> Okr (exSs Φ (a ++ ss) sc ρ) fl) (h2 : t = false -> Okr (exSs Φ (b ++ ss) sc ρ) fl) : Okr (exSs Φ (.If c a b p :: ss) sc ρ) fl := by
  have key : ∀ x, Okr (cond t (exSs Φ a sc ρ) (exSs Φ b sc ρ)) x -> Okr (exS Φ (.If c a b p) sc ρ) x := fun x hx => Okr.bnd hc hx
  cases t with
  | true =>
    rcases app_inv (h1 rfl) with ⟨ρ1, h3, h4⟩ | ⟨h3, h4⟩
    . exact ss_nx (key _ h3) h4
    . exact ss_end (key _ h4) h3
  | false =>
    rcases app_inv (h2 rfl) with ⟨ρ1, h3, h4⟩ | ⟨h3, h4⟩
    . exact ss_nx (key _ h3) h4
    . exact ss_end (key _ h4) h3
theorem ss_ifT {c : Expr} {a b : List Stmt} {p : Pos} {t : Bool} {k : Nat} (hc : Okr (evE Φ c false sc ρ) (.bl t, k)) (ht : t = true) (h1 : Okr (exSs Φ (a ++ ss) sc ρ) fl) : Okr (exSs Φ (.If c a b p :: ss) sc ρ) fl := ss_if hc (fun _ => h1) fun z => by rw [ht] at z; cases z
theorem ss_ifF {c : Expr} {a b : List Stmt} {p : Pos} {t : Bool} {k : Nat} (hc : Okr (evE Φ c false sc ρ) (.bl t, k)) (ht : t = false) (h1 : Okr (exSs Φ (b ++ ss) sc ρ) fl) : Okr (exSs Φ (.If c a b p :: ss) sc ρ) fl := ss_if hc (fun z => by rw [ht] at z; cases z) fun _ => h1
theorem ex_for {tg it : Expr} {body : List Stmt} {p : Pos} {d : D} {ds : List D} {k : Nat} (hi : Okr (evE Φ it true sc (demote it ρ)) (d, k)) (hd : items d = some ds) (hk : k <= 1) (ht : tgOk it tg = true) (h : Okr (forD (bindG sc tg) (exSs Φ body sc) ds (demote it ρ)) fl) : Okr (exS Φ (.For tg it body [] p) sc ρ) fl := by
  rw [exS_for, if_pos (show List.isEmpty ([] : List Stmt) = true from rfl)]
  refine hi.bnd ?_
  dsimp only
  rw [hd]
  dsimp only
  rw [if_pos ⟨hk, ht⟩]
  exact h
theorem ex_while {c : Expr} {body : List Stmt} {p : Pos} (h : Okr (whD (fun ρ => (evE Φ c false sc ρ).bnd fun p => blR p fun b => .ok b []) (exSs Φ body sc) many ρ) fl) : Okr (exS Φ (.While c body [] p) sc ρ) fl := by
  rw [exS_wh, if_pos (show List.isEmpty ([] : List Stmt) = true from rfl)]; exact h
theorem ev_call {f : Str} {p q : Pos} {args : List Expr} {it : Bool} {ds : List D} {k : Nat} {F : List D -> Rs D} {v : D} (ha : Okr (evEs Φ args sc ρ) (ds, k)) (hv : Okr (F ds) v) (hF : Φ.fn f = some F := by rfl) (hg : sc.names.lookup f = some .globalImplicit := by rfl) : Okr (evE Φ (.Call (.Name f p) args [] q) it sc ρ) (v, 0) := by
  rw [evE_calN, if_pos hg]
  refine ha.bnd ?_
  unfold callD
  rw [hF]
  exact hv.bnd ⟨[], rfl, True.intro⟩
theorem ev_blt {f : Str} {p q : Pos} {args : List Expr} {it : Bool} {ds : List D} {k : Nat} {B : List D -> R1} {v : D × Nat} (ha : Okr (evEs Φ args sc ρ) (ds, k)) (hv : Okr (B ds) v) (hF : Φ.fn f = none := by rfl) (hI : (if it = true then Φ.itr f else none) = none := by rfl) (hB : Φ.blt f = some B := by rfl) (hg : sc.names.lookup f = some .globalImplicit := by rfl) : Okr (evE Φ (.Call (.Name f p) args [] q) it sc ρ) v := by
  rw [evE_calN, if_pos hg]
  refine ha.bnd ?_
  unfold callD
  rw [hF]; dsimp only
  rw [hI]; dsimp only
  rw [hB]; exact hv
theorem evs_nil : Okr (evEs Φ [] sc ρ) ([], 0) := ⟨[], rfl, True.intro⟩
theorem evs_cons {e : Expr} {es : List Expr} {d : D} {ds : List D} {k j : Nat} (h : Okr (evE Φ e false sc ρ) (d, k)) (h2 : Okr (evEs Φ es sc ρ) (ds, j)) : Okr (evEs Φ (e :: es) sc ρ) (d :: ds, kj k j) := Okr.bnd h (Okr.bnd h2 ⟨[], rfl, True.intro⟩)
theorem ev_comp {elt tg iter : Expr} {ifs : List Expr} {scope : Scope} {p : Pos} {it : Bool} {d : D} {ds out : List D} {k j : Nat} (hi : Okr (evE Φ iter true sc ρ) (d, k)) (hd : items d = some ds) (hl : ds.length <= many /\ (llessL ds = true \/ k <= 1))
    (h : Okr (compD (fun d => match bindG scope tg d (flt scope ρ) with
            | none => .st
            | some ρ' => (evB Φ .And ifs scope ρ').bnd fun b => cond b ((evE Φ elt false scope ρ').bnd fun r => .ok (some r) []) (.ok none [])) ds) (out, j)) (hj : j <= 1) (hc : cOk sc scope = true := by rfl) (ht : tgOk iter tg = true := by rfl) : Okr (evE Φ (.ListComp elt [⟨tg, iter, ifs, 0⟩] scope p) it sc ρ) (.lst out, j) := by
  rw [evE_cmp, if_pos hc]
  refine hi.bnd ?_
  dsimp only
  rw [hd]
  dsimp only
  rw [if_pos ht]
  refine Okr.bnd (a := ()) ⟨_, rfl, hl.1, hl.2, True.intro⟩ ?_
  refine h.bnd ?_
  rw [if_pos hj]
  exact ⟨[], rfl, True.intro⟩
theorem ev_ix {a i : Expr} {p : Pos} {it : Bool} {x d : D} {l : List D} {j : Int} {k k2 : Nat} (ha : Okr (evE Φ a false sc ρ) (x, k)) (hi : Okr (evE Φ i false sc ρ) (.int j, k2)) (hx : seqOf x = some l) (hd : L2.atI l j = some d) : Okr (evE Φ (.Subscript a i p) it sc ρ) (d, kn d k) := by
  have key : Okr ((evE Φ a false sc ρ).bnd fun p => (evE Φ i false sc ρ).bnd fun q => subD p q) (d, kn d k) := by
    refine ha.bnd (hi.bnd ?_)
    rcases seqOf_eq hx with rfl | rfl
    . show Okr (ixD (.tup l) j k) _
      unfold ixD
      rw [hx]; dsimp only
      rw [hd]; exact ⟨[], rfl, True.intro⟩
    . show Okr (ixD (.lst l) j k) _
      unfold ixD
      rw [hx]; dsimp only
      rw [hd]; exact ⟨[], rfl, True.intro⟩
  cases i with
  | Slice lo hi st p2 => exact (okr_st hi).elim
  | _ => exact key
theorem ex_set {e : Expr} {x : Str} {p q : Pos} {d : D} (h : Okr (evE Φ e false sc ρ) (d, 0)) (hx : locK sc x = true := by rfl) : Okr (exS Φ (.Assign [.Name x p] e q) sc ρ) (.nx (putR ρ x (d, true))) := by
  refine Okr.bnd h ?_
  unfold putO
  rw [if_pos hx]
  exact ⟨[], rfl, True.intro⟩
theorem ex_ret {e : Expr} {q : Pos} {d : D} {k : Nat} (h : Okr (evE Φ e false sc ρ) (d, k)) (hk : k = 0 \/ k = 2 := by exact .inl rfl) (hn : nestE e = false := by rfl) : Okr (exS Φ (.Return (some e) q) sc ρ) (.rt d) := by
  have h : Okr (evE Φ e false sc (rtR e ρ)) (d, k) := by unfold rtR; rw [hn]; exact h
  refine Okr.bnd h ?_
  unfold retK
  rw [if_pos hk]
  exact ⟨[], rfl, True.intro⟩
end
theorem forD_inv {bind : D -> Rho -> Option Rho} {body : Rho -> Rs Fl} (Inv : List D -> Rho -> Prop) (step : ∀ d l ρ, Inv (d :: l) ρ -> ∃ ρ1 ρ2, bind d ρ = some ρ1 /\ (Okr (body ρ1) (.nx ρ2) \/ Okr (body ρ1) (.ct ρ2)) /\ Inv l ρ2) : ∀ {ds : List D} {ρ : Rho}, Inv ds ρ -> ∃ ρ', Okr (forD bind body ds ρ) (.nx ρ') /\ Inv [] ρ'
  | [], ρ, h => ⟨ρ, ⟨[], rfl, True.intro⟩, h⟩
  | d :: l, ρ, h => by
    obtain ⟨ρ1, ρ2, h1, h2, h3⟩ := step d l ρ h
    obtain ⟨ρ', h4, h5⟩ := forD_inv Inv step h3
    refine ⟨ρ', ?_, h5⟩
    show Okr (match bind d ρ with | none => (.st : Rs Fl) | some ρ1 => (body ρ1).bnd (nxt (forD bind body l))) _
    rw [h1]
    rcases h2 with h2 | h2
    . exact h2.bnd h4
    . exact h2.bnd h4
theorem forD_rt {bind : D -> Rho -> Option Rho} {body : Rho -> Rs Fl} (Inv : List D -> Rho -> Prop) (R : D -> Prop) (step : ∀ d l ρ, Inv (d :: l) ρ -> ∃ ρ1, bind d ρ = some ρ1 /\ ((∃ ρ2, (Okr (body ρ1) (.nx ρ2) \/ Okr (body ρ1) (.ct ρ2)) /\ Inv l ρ2) \/ ∃ r, Okr (body ρ1) (.rt r) /\ R r)) : ∀ {ds : List D} {ρ : Rho}, Inv ds ρ -> (∃ ρ', Okr (forD bind body ds ρ) (.nx ρ') /\ Inv [] ρ') \/ ∃ r, Okr (forD bind body ds ρ) (.rt r) /\ R r
  | [], ρ, h => .inl ⟨ρ, ⟨[], rfl, True.intro⟩, h⟩
  | d :: l, ρ, h => by
    obtain ⟨ρ1, h1, h2⟩ := step d l ρ h
    have key : forD bind body (d :: l) ρ = (body ρ1).bnd (nxt (forD bind body l)) := by
      show (match bind d ρ with | none => (.st : Rs Fl) | some ρ1 => (body ρ1).bnd (nxt (forD bind body l))) = _
      rw [h1]
    rw [key]
    rcases h2 with ⟨ρ2, h2, h3⟩ | ⟨r, h2, h3⟩
    . have go : ∀ x, Okr (forD bind body l ρ2) x -> Okr ((body ρ1).bnd (nxt (forD bind body l))) x := fun x hx => by
        rcases h2 with h2 | h2
        . exact h2.bnd hx
        . exact h2.bnd hx
      rcases forD_rt Inv R step h3 with ⟨ρ', h4, h5⟩ | ⟨r, h4, h5⟩
      . exact .inl ⟨ρ', go _ h4, h5⟩
      . exact .inr ⟨r, go _ h4, h5⟩
    . exact .inr ⟨r, h2.bnd ⟨[], rfl, True.intro⟩, h3⟩
theorem compD_map {α : Type} {step : D -> Rs (Option (D × Nat))} {g : α -> D} {f : α -> D} : ∀ {l : List α}, (∀ x ∈ l, Okr (step (g x)) (some (f x, 0))) -> Okr (compD step (l.map g)) (l.map f, 0)
  | [], _ => ⟨[], rfl, True.intro⟩
  | x :: l, h => Okr.bnd (h x List.mem_cons_self) (Okr.bnd (compD_map fun y hy => h y (List.mem_cons_of_mem _ hy)) ⟨[], rfl, True.intro⟩)
theorem compD_filter {α : Type} {step : D -> Rs (Option (D × Nat))} {g : α -> D} {f : α -> D} {c : α -> Bool} : ∀ {l : List α}, (∀ x ∈ l, Okr (step (g x)) (cond (c x) (some (f x, 0)) none)) -> Okr (compD step (l.map g)) ((l.filter c).map f, 0)
  | [], _ => ⟨[], rfl, True.intro⟩
  | x :: l, h => by
    have h1 := h x List.mem_cons_self
    have h2 := compD_filter (c := c) fun y hy => h y (List.mem_cons_of_mem _ hy)
    cases e : c x with
    | true =>
      rw [e] at h1
      rw [List.filter_cons_of_pos e]
      exact Okr.bnd h1 (Okr.bnd h2 ⟨[], rfl, True.intro⟩)
    | false =>
      rw [e] at h1
      rw [List.filter_cons_of_neg (by rw [e]; decide)]
      exact Okr.bnd h1 (Okr.bnd h2 ⟨[], rfl, True.intro⟩)
theorem mulOk_l {a b : Int} (h : a.natAbs < 18446744073709551616) : mulOk a b := .inl h
theorem mulOk_r {a b : Int} (h : b.natAbs < 18446744073709551616) : mulOk a b := .inr (.inl h)
theorem mulOk_b {a b : Int} (h : a.natAbs < big) (g : b.natAbs < big) : mulOk a b := .inr (.inr (.inl ⟨h, g⟩))
theorem big_of {n : Nat} (h : n < 2 ^ 64) : n < big := Nat.lt_of_lt_of_le h (Nat.pow_le_pow_right (by decide) (by decide))
theorem divOk_s {b : Int} (h0 : b ≠ 0) (h : b.natAbs < 18446744073709551616) : divOk b := ⟨h0, big_of h⟩
theorem atI_map {ns : List Int} {i : Int} (h0 : 0 <= i) (h1 : i < ns.length) : L2.atI (ns.map D.int) i = some (.int (ns.getD i.toNat 0)) := by
  obtain ⟨j, rfl⟩ := Int.eq_ofNat_of_zero_le h0
  have hj : j < ns.length := by omega
  have := atI_nat (xs := ns.map D.int) (j := j) (v := .int (ns.getD j 0)) (by simp [hj])
  simpa using this
theorem intsOf_map (ns : List Int) : intsOf (ns.map D.int) = some ns := by
  induction ns with
  | nil => rfl
  | cons n ns ih => rw [List.map_cons, intsOf, ih]; rfl
theorem allP_nil : allP [] := True.intro
theorem allP_app_i {l m : List Prop} (h : allP l) (g : allP m) : allP (l ++ m) := allP_append.mpr ⟨h, g⟩
theorem allP_one {p : Prop} (h : p) : allP [p] := ⟨h, True.intro⟩
theorem allP_cons_i {p : Prop} {l : List Prop} (h : p) (g : allP l) : allP (p :: l) := ⟨h, g⟩
end Sp
set_option Elab.async false
set_option linter.all false
set_option maxRecDepth 100000
namespace Sp
open PySem PySem.Spec PyProof.Rows L2
def Sub (C ρ : Rho) : Prop := ∀ x y, C x = some y -> ρ x = some y
theorem Sub.refl (ρ : Rho) : Sub ρ ρ := fun _ _ h => h
theorem Sub.trans {a b c : Rho} (h : Sub a b) (g : Sub b c) : Sub a c := fun x y e => g x y (h x y e)
theorem Sub.put {C ρ : Rho} (h : Sub C ρ) (x : Str) (y : D × Bool) : Sub (putR C x y) (putR ρ x y) := fun z w e => by
  rw [lookup_putR] at e ⊢
  by_cases hz : z = x
  . rw [if_pos hz] at e ⊢; exact e
  . rw [if_neg hz] at e ⊢; exact h z w e
theorem Sub.flt {C ρ : Rho} (h : Sub C ρ) (scope : Scope) : Sub (flt scope C) (flt scope ρ) := fun z w e => by
  obtain ⟨e1, e2⟩ := flt_look e
  unfold Sp.flt
  rw [if_pos e2]; exact h z w e1
theorem Sub.demX {C ρ : Rho} (h : Sub C ρ) (x : Str) : Sub (demX x C) (demX x ρ) := by
  unfold Sp.demX
  intro z w hz
  by_cases hx : z = x
  . simp only [if_pos hx] at hz ⊢
    cases hc : C z with
    | none => rw [hc] at hz; cases hz
    | some q => rw [hc] at hz; rw [h z q hc]; exact hz
  . simp only [if_neg hx] at hz ⊢; exact h z w hz
theorem Sub.demA {C ρ : Rho} (h : Sub C ρ) (x : Str) : Sub (demA x C) (demA x ρ) := by
  intro z w hz
  unfold Sp.demA at hz ⊢
  by_cases hx : z = x
  . simp only [if_pos hx] at hz ⊢
    cases hc : C z with
    | none => rw [hc] at hz; cases hz
    | some q => rw [hc] at hz; rw [h z q hc]; exact hz
  . simp only [if_neg hx] at hz ⊢; exact h z w hz
theorem Sub.demL : ∀ {es : List Expr} {C ρ : Rho}, Sub C ρ -> Sub (demL es C) (demL es ρ)
  | [], _, _, h => h
  | e :: es, C, ρ, h => by
    cases e with
    | Name x p => exact Sub.demL (es := es) (h.demA x)
    | Subscript a i p =>
      cases a with
      | Name x q => exact Sub.demL (es := es) (h.demA x)
      | _ => exact Sub.demL (es := es) h
    | _ => exact Sub.demL (es := es) h
theorem Sub.demote {C ρ : Rho} (h : Sub C ρ) (e : Expr) : Sub (demote e C) (demote e ρ) := by
  unfold Sp.demote
  split
  . exact h.demX _
  . exact h.demX _
  . exact h.demL
  . exact h
theorem sub_names {sc : Scope} : ∀ {es : List Expr} {ds : List D} {C C' ρ : Rho}, bindNs sc es ds C = some C' -> Sub C ρ -> ∃ ρ', bindNs sc es ds ρ = some ρ' /\ Sub C' ρ' := by
  intro es
  induction es with
  | nil =>
    intro ds C C' ρ h s
    cases ds with
    | nil => cases h; exact ⟨ρ, rfl, s⟩
    | cons d ds => cases h
  | cons e es ih =>
    intro ds C C' ρ h s
    cases ds with
    | nil => cases e <;> cases h
    | cons d ds =>
      cases e with
      | Name z p =>
        rw [bindNs] at h ⊢
        split at h
        . rename_i hz
          rw [if_pos hz]
          exact ih h (s.put _ _)
        . cases h
      | _ => cases h
theorem sub_bind {sc : Scope} {tg : Expr} {d : D} {C C' ρ : Rho} (h : bindG sc tg d C = some C') (s : Sub C ρ) : ∃ ρ', bindG sc tg d ρ = some ρ' /\ Sub C' ρ' := by
  unfold bindG at h ⊢
  split at h
  . split at h
    . rename_i hx; cases h; exact ⟨_, if_pos hx, s.put _ _⟩
    . cases h
  . split at h
    . exact sub_names h s
    . cases h
  . cases h
theorem allP_gd {b : Bool} {m : List Prop} (h : b = true -> allP m) : allP (gd b m) := by
  cases m with
  | nil => exact True.intro
  | cons p l => exact ⟨h, True.intro⟩
theorem andR_i {b c : Bool} {r : Rs Bool} (h : b = true -> Okr r c) (hf : b = false -> c = false) : Okr (andR b r) c := by
  cases b with
  | true =>
    obtain ⟨m, rfl, hm⟩ := h rfl
    exact ⟨_, rfl, allP_gd fun _ => hm⟩
  | false =>
    rw [hf rfl]
    cases r with
    | ok c' m => exact ⟨_, rfl, allP_gd fun z => (by cases z)⟩
    | st => exact ⟨_, rfl, True.intro⟩
theorem orR_i {b c : Bool} {r : Rs Bool} (h : b = false -> Okr r c) (hf : b = true -> c = true) : Okr (orR b r) c := by
  cases b with
  | false =>
    obtain ⟨m, rfl, hm⟩ := h rfl
    exact ⟨_, rfl, allP_gd fun _ => hm⟩
  | true =>
    rw [hf rfl]
    cases r with
    | ok c' m => exact ⟨_, rfl, allP_gd fun z => (by cases z)⟩
    | st => exact ⟨_, rfl, True.intro⟩
theorem ifR_i {t : Bool} {r s : R1} {d : D × Nat} (h : Okr (if t = true then r else s) d) : Okr (ifR t r s) d := by
  cases t with
  | true =>
    rw [if_pos rfl] at h
    obtain ⟨m, rfl, hm⟩ := h
    cases s with
    | ok q n => exact ⟨_, by show Rs.ok _ _ = Rs.ok _ _; rw [mrgD_t, kIf_t], allP_append.mpr ⟨allP_gd fun _ => hm, allP_gd fun z => (by cases z)⟩⟩
    | st => exact ⟨m, rfl, hm⟩
  | false =>
    rw [if_neg Bool.false_ne_true] at h
    obtain ⟨m, rfl, hm⟩ := h
    cases r with
    | ok q n => exact ⟨_, by show Rs.ok _ _ = Rs.ok _ _; rw [mrgD_f, kIf_f], allP_append.mpr ⟨allP_gd fun z => (by cases z), allP_gd fun _ => hm⟩⟩
    | st => exact ⟨m, rfl, hm⟩
theorem bl_i {α : Type} {p : D × Nat} {f : Bool -> Rs α} {a : α} {b : Bool} (h : p.1 = .bl b) (h2 : Okr (f b) a) : Okr (blR p f) a := by
  unfold blR; rw [h]; exact h2
theorem int_i {p : D × Nat} {f : Int -> R1} {a : D × Nat} {b : Int} (h : p.1 = .int b) (h2 : Okr (f b) a) : Okr (intR p f) a := by
  unfold intR; rw [h]; exact h2
structure Mo (Φ : Fx) (n : Nat) : Prop where
  e : ∀ (e : Expr) {it : Bool} {sc : Scope} {C ρ : Rho} {p : D × Nat}, sizeOf e < n -> Okr (evE Φ e it sc C) p -> Sub C ρ -> Okr (evE Φ e it sc ρ) p
  es : ∀ (es : List Expr) {sc : Scope} {C ρ : Rho} {p : List D × Nat}, sizeOf es < n -> Okr (evEs Φ es sc C) p -> Sub C ρ -> Okr (evEs Φ es sc ρ) p
  b : ∀ (op : BoolOp) (es : List Expr) {sc : Scope} {C ρ : Rho} {b : Bool}, sizeOf es < n -> Okr (evB Φ op es sc C) b -> Sub C ρ -> Okr (evB Φ op es sc ρ) b
  o : ∀ (e : Option Expr) {sc : Scope} {C ρ : Rho} {o : Option Int}, sizeOf e < n -> Okr (evO Φ e sc C) o -> Sub C ρ -> Okr (evO Φ e sc ρ) o
theorem mo_comp {step step2 : D -> Rs (Option (D × Nat))} (h : ∀ d r, Okr (step d) r -> Okr (step2 d) r) : ∀ {ds : List D} {q : List D × Nat}, Okr (compD step ds) q -> Okr (compD step2 ds) q
  | [], q, hq => hq
  | d :: ds, q, hq => by
    obtain ⟨r, h1, h2⟩ := okr_bnd (show Okr (Rs.bnd _ _) q from hq)
    obtain ⟨q1, h3, h4⟩ := okr_bnd h2
    exact Okr.bnd (h _ _ h1) (Okr.bnd (mo_comp h h3) h4)
section
variable {Φ : Fx} {n : Nat} {it : Bool} {sc : Scope} {C ρ : Rho} {p : D × Nat}
theorem mo_ix (I : Mo Φ n) {a i : Expr} {pos : Pos} (hs : sizeOf (Expr.Subscript a i pos) < n + 1) (h : Okr ((evE Φ a false sc C).bnd fun p => (evE Φ i false sc C).bnd fun q => subD p q) p) (s : Sub C ρ) : Okr ((evE Φ a false sc ρ).bnd fun p => (evE Φ i false sc ρ).bnd fun q => subD p q) p := by
  obtain ⟨x, h1, h⟩ := okr_bnd h
  obtain ⟨y, h2, h⟩ := okr_bnd h
  exact Okr.bnd (I.e a (szE (by simp <;> omega) hs) h1 s) (Okr.bnd (I.e i (szE (by simp <;> omega) hs) h2 s) h)
theorem mo_e (I : Mo Φ n) (e : Expr) (hs : sizeOf e < n + 1) (h : Okr (evE Φ e it sc C) p) (s : Sub C ρ) : Okr (evE Φ e it sc ρ) p := by
  cases e with
  | Constant c k q => exact h
  | Name x q =>
    replace h : Okr (nameD Φ x sc C) p := h
    show Okr (nameD Φ x sc ρ) p
    unfold nameD at h ⊢
    split at h
    . rename_i hx
      rw [if_pos hx]
      split at h
      . rename_i hg; rw [if_pos hg]; exact h
      . rename_i hg
        rw [if_neg hg]
        split at h
        . rename_i y hy; rw [s x y hy]; exact h
        . exact (okr_st h).elim
    . exact (okr_st h).elim
  | BinOp a op b q =>
    obtain ⟨x, h1, h⟩ := okr_bnd (show Okr (Rs.bnd _ _) p from h)
    obtain ⟨y, h2, h⟩ := okr_bnd h
    exact Okr.bnd (I.e a (szE (by simp <;> omega) hs) h1 s) (Okr.bnd (I.e b (szE (by simp <;> omega) hs) h2 s) h)
  | UnaryOp op a q =>
    obtain ⟨x, h1, h⟩ := okr_bnd (show Okr (Rs.bnd _ _) p from h)
    exact Okr.bnd (I.e a (szE (by simp <;> omega) hs) h1 s) h
  | BoolOp op es q =>
    rw [evE_bop] at h ⊢
    split at h
    . exact (okr_st h).elim
    . rename_i hne
      rw [if_neg hne]
      obtain ⟨b, h1, h⟩ := okr_bnd h
      exact Okr.bnd (I.b op es (szE (by simp <;> omega) hs) h1 s) h
  | Compare a ops bs q =>
    match ops, bs, hs, h with
    | [op], [b], hs, h =>
      obtain ⟨x, h1, h⟩ := okr_bnd (show Okr (Rs.bnd _ _) p from h)
      obtain ⟨y, h2, h⟩ := okr_bnd h
      exact Okr.bnd (I.e a (szE (by simp <;> omega) hs) h1 s) (Okr.bnd (I.e b (szE (by simp <;> omega) hs) h2 s) h)
    | [], bs, _, h => exact (okr_st h).elim
    | [op], [], _, h => exact (okr_st h).elim
    | [op], _ :: _ :: _, _, h => exact (okr_st h).elim
    | [op, op2], [b, c], hs, h =>
      obtain ⟨x, h1, h⟩ := okr_bnd (show Okr (Rs.bnd _ _) p from h)
      obtain ⟨y, h2, h⟩ := okr_bnd h
      obtain ⟨z, h3, h⟩ := okr_bnd h
      exact Okr.bnd (I.e a (szE (by simp <;> omega) hs) h1 s) (Okr.bnd (I.e b (szE (by simp <;> omega) hs) h2 s) (Okr.bnd (I.e c (szE (by simp <;> omega) hs) h3 s) h))
    | [_, _], [], _, h => exact (okr_st h).elim
    | [_, _], [_], _, h => exact (okr_st h).elim
    | [_, _], _ :: _ :: _ :: _, _, h => exact (okr_st h).elim
    | _ :: _ :: _ :: _, bs, _, h => exact (okr_st h).elim
  | IfExp c a b q =>
    obtain ⟨x, h1, h⟩ := okr_bnd (show Okr (Rs.bnd _ _) p from h)
    obtain ⟨t, ht, h⟩ := okr_bl h
    obtain ⟨l, h, hp⟩ := h
    obtain ⟨m, h, hm⟩ := ifR_inv h hp
    refine Okr.bnd (I.e c (szE (by simp <;> omega) hs) h1 s) (bl_i ht (ifR_i ?_))
    cases t with
    | true => exact I.e a (szE (by simp <;> omega) hs) ⟨m, h, hm⟩ s
    | false => exact I.e b (szE (by simp <;> omega) hs) ⟨m, h, hm⟩ s
  | Tuple es k q =>
    obtain ⟨x, h1, h⟩ := okr_bnd (show Okr (Rs.bnd _ _) p from h)
    exact Okr.bnd (I.es es (szE (by simp <;> omega) hs) h1 s) h
  | List es q =>
    obtain ⟨x, h1, h⟩ := okr_bnd (show Okr (Rs.bnd _ _) p from h)
    exact Okr.bnd (I.es es (szE (by simp <;> omega) hs) h1 s) h
  | Attribute a f q =>
    cases a with
    | Name x pn =>
      obtain ⟨y, h1, h⟩ := okr_bnd (show Okr (Rs.bnd _ _) p from h)
      exact Okr.bnd (I.e (.Name x pn) (it := false) (szE (by simp <;> omega) hs) h1 s) h
    | _ => exact (okr_st h).elim
  | Dict ks vs q =>
    match ks, vs, h with
    | [], [], h => exact h
    | _ :: _, _, h => exact (okr_st h).elim
    | [], _ :: _, h => exact (okr_st h).elim
  | Subscript a i q =>
    cases i with
    | Slice lo hi st p2 =>
      cases st with
      | none =>
        obtain ⟨x, h1, h⟩ := okr_bnd (show Okr (Rs.bnd _ _) p from h)
        obtain ⟨y, h2, h⟩ := okr_bnd h
        obtain ⟨z, h3, h⟩ := okr_bnd h
        exact Okr.bnd (I.e a (szE (by simp <;> omega) hs) h1 s) (Okr.bnd (I.o lo (szE (by simp <;> omega) hs) h2 s) (Okr.bnd (I.o hi (szE (by simp <;> omega) hs) h3 s) h))
      | some e => exact mo_ix I hs h s
    | _ => exact mo_ix I hs h s
  | Call f args kws q =>
    cases f with
    | Name f fp =>
      cases kws with
      | nil =>
        rw [evE_calN] at h ⊢
        split at h
        . rename_i hf
          rw [if_pos hf]
          obtain ⟨x, h1, h⟩ := okr_bnd h
          exact Okr.bnd (I.es args (szE (by simp <;> omega) hs) h1 s) h
        . exact (okr_st h).elim
      | cons _ _ => exact (okr_st h).elim
    | Attribute a m ap =>
      cases kws with
      | nil =>
        rw [evE_calA] at h ⊢
        split at h
        . rename_i hf
          rw [if_pos hf]
          obtain ⟨x, h1, h⟩ := okr_bnd h
          obtain ⟨y, h2, h⟩ := okr_bnd h
          exact Okr.bnd (I.e a (szE (by simp <;> omega) hs) h1 s) (Okr.bnd (I.es args (szE (by simp <;> omega) hs) h2 s) h)
        . exact (okr_st h).elim
      | cons _ _ => exact (okr_st h).elim
    | _ => exact (okr_st h).elim
  | ListComp elt gens scope q =>
    obtain ⟨l0, h0, _⟩ := id h
    obtain ⟨tg, iter, ifs, rfl⟩ := gens_eq h0
    rw [evE_cmp] at h ⊢
    split at h
    . rename_i hc
      rw [if_pos hc]
      obtain ⟨x, h1, h⟩ := okr_bnd h
      refine Okr.bnd (I.e iter (by first | omega | (simp at *; omega)) h1 s) ?_
      split at h
      . split at h
        . rename_i hl
          rw [if_pos hl]
          obtain ⟨u0, h0', h⟩ := okr_bnd h
          obtain ⟨y, h2, h⟩ := okr_bnd h
          refine Okr.bnd h0' (Okr.bnd (mo_comp (fun d r hr => ?_) h2) h)
          split at hr
          . exact (okr_st hr).elim
          . rename_i C' hb
            obtain ⟨ρ', hb', s'⟩ := sub_bind hb (s.flt scope)
            rw [hb']
            obtain ⟨b, h3, hr⟩ := okr_bnd hr
            refine Okr.bnd (I.b .And ifs (by first | omega | (simp at *; omega)) h3 s') ?_
            cases b with
            | false => exact hr
            | true =>
              rw [cond_true] at hr ⊢
              obtain ⟨z, h4, hr⟩ := okr_bnd hr
              exact Okr.bnd (I.e elt (by first | omega | (simp at *; omega)) h4 s') hr
        . exact (okr_st h).elim
      . exact (okr_st h).elim
    . exact (okr_st h).elim
  | _ => exact (okr_st h).elim
theorem mo_es (I : Mo Φ n) (es : List Expr) {p : List D × Nat} (hs : sizeOf es < n + 1) (h : Okr (evEs Φ es sc C) p) (s : Sub C ρ) : Okr (evEs Φ es sc ρ) p := by
  cases es with
  | nil => exact h
  | cons e es =>
    obtain ⟨x, h1, h⟩ := okr_bnd (show Okr (Rs.bnd _ _) p from h)
    obtain ⟨y, h2, h⟩ := okr_bnd h
    exact Okr.bnd (I.e e (szE (by simp <;> omega) hs) h1 s) (Okr.bnd (I.es es (szE (by simp <;> omega) hs) h2 s) h)
theorem mo_b (I : Mo Φ n) (op : BoolOp) (es : List Expr) {b : Bool} (hs : sizeOf es < n + 1) (h : Okr (evB Φ op es sc C) b) (s : Sub C ρ) : Okr (evB Φ op es sc ρ) b := by
  cases es with
  | nil => cases op <;> exact h
  | cons e es =>
    cases op with
    | And =>
      obtain ⟨x, h1, h⟩ := okr_bnd (show Okr (Rs.bnd _ _) b from h)
      obtain ⟨t, ht, l, h, hp⟩ := okr_bl h
      refine Okr.bnd (I.e e (szE (by simp <;> omega) hs) h1 s) (bl_i ht ?_)
      rcases andR_inv h hp with ⟨rfl, m, h, pm⟩ | ⟨rfl, rfl⟩
      . exact andR_i (fun _ => I.b .And es (szE (by simp <;> omega) hs) ⟨m, h, pm⟩ s) fun z => (by cases z)
      . exact andR_i (fun z => (by cases z)) fun _ => rfl
    | Or =>
      obtain ⟨x, h1, h⟩ := okr_bnd (show Okr (Rs.bnd _ _) b from h)
      obtain ⟨t, ht, l, h, hp⟩ := okr_bl h
      refine Okr.bnd (I.e e (szE (by simp <;> omega) hs) h1 s) (bl_i ht ?_)
      rcases orR_inv h hp with ⟨rfl, m, h, pm⟩ | ⟨rfl, rfl⟩
      . exact orR_i (fun _ => I.b .Or es (szE (by simp <;> omega) hs) ⟨m, h, pm⟩ s) fun z => (by cases z)
      . exact orR_i (fun z => (by cases z)) fun _ => rfl
theorem mo_o (I : Mo Φ n) (e : Option Expr) {o : Option Int} (hs : sizeOf e < n + 1) (h : Okr (evO Φ e sc C) o) (s : Sub C ρ) : Okr (evO Φ e sc ρ) o := by
  cases e with
  | none => exact h
  | some e =>
    obtain ⟨x, h1, h⟩ := okr_bnd (show Okr (Rs.bnd _ _) o from h)
    exact Okr.bnd (I.e e (szE (by simp <;> omega) hs) h1 s) h
end
theorem mo_all (Φ : Fx) : ∀ n, Mo Φ n
  | 0 => ⟨fun _ _ _ _ _ _ h => absurd h (Nat.not_lt_zero _), fun _ _ _ _ _ h => absurd h (Nat.not_lt_zero _), fun _ _ _ _ _ _ h => absurd h (Nat.not_lt_zero _), fun _ _ _ _ _ h => absurd h (Nat.not_lt_zero _)⟩
  | n + 1 => ⟨fun e _ _ _ _ _ hs h s => mo_e (mo_all Φ n) e hs h s, fun e _ _ _ _ hs h s => mo_es (mo_all Φ n) e hs h s, fun op e _ _ _ _ hs h s => mo_b (mo_all Φ n) op e hs h s, fun e _ _ _ _ hs h s => mo_o (mo_all Φ n) e hs h s⟩
theorem mono_e {Φ : Fx} {e : Expr} {it : Bool} {sc : Scope} {C ρ : Rho} {p : D × Nat} (h : Okr (evE Φ e it sc C) p) (s : Sub C ρ) : Okr (evE Φ e it sc ρ) p := (mo_all Φ _).e e (Nat.lt_succ_self _) h s
theorem mono_es {Φ : Fx} {e : List Expr} {sc : Scope} {C ρ : Rho} {p : List D × Nat} (h : Okr (evEs Φ e sc C) p) (s : Sub C ρ) : Okr (evEs Φ e sc ρ) p := (mo_all Φ _).es e (Nat.lt_succ_self _) h s
def SubF : Fl -> Fl -> Prop
  | .nx a, .nx b => Sub a b
  | .bk a, .bk b => Sub a b
  | .ct a, .ct b => Sub a b
  | .rt a, .rt b => a = b
  | _, _ => False
theorem ok1 {α : Type} {a : α} : Okr (.ok a []) a := ⟨[], rfl, True.intro⟩
def MoS (f : Rho -> Rs Fl) : Prop := ∀ C ρ fl, Okr (f C) fl -> Sub C ρ -> ∃ fl', Okr (f ρ) fl' /\ SubF fl fl'
theorem mo_nxt {f : Rho -> Rs Fl} (h : MoS f) {x y z : Fl} (hx : Okr (nxt f x) z) (s : SubF x y) : ∃ z', Okr (nxt f y) z' /\ SubF z z' := by
  cases x <;> cases y <;> first | exact s.elim | skip
  . exact h _ _ _ hx s
  . cases okr_ok hx; cases s; exact ⟨_, ok1, rfl⟩
  . cases okr_ok hx; exact ⟨_, ok1, s⟩
  . exact h _ _ _ hx s
theorem mo_for {sc : Scope} {tg : Expr} {body : Rho -> Rs Fl} (hb : MoS body) : ∀ ds, MoS (forD (bindG sc tg) body ds)
  | [] => fun C ρ fl h s => by cases okr_ok h; exact ⟨_, ok1, s⟩
  | d :: ds => fun C ρ fl h s => by
    replace h : Okr (match bindG sc tg d C with | none => (.st : Rs Fl) | some ρ1 => (body ρ1).bnd (nxt (forD (bindG sc tg) body ds))) fl := h
    split at h
    . exact (okr_st h).elim
    . rename_i C1 hC
      obtain ⟨ρ1, hρ, s1⟩ := sub_bind hC s
      obtain ⟨x, h1, h2⟩ := okr_bnd h
      obtain ⟨y, h3, s2⟩ := hb _ _ _ h1 s1
      obtain ⟨z, h4, s3⟩ := mo_nxt (mo_for hb ds) h2 s2
      refine ⟨z, ?_, s3⟩
      show Okr (match bindG sc tg d ρ with | none => (.st : Rs Fl) | some ρ1 => (body ρ1).bnd (nxt (forD (bindG sc tg) body ds))) z
      rw [hρ]; exact Okr.bnd h3 h4
theorem mo_wh {test : Rho -> Rs Bool} {body : Rho -> Rs Fl} (ht : ∀ C ρ b, Okr (test C) b -> Sub C ρ -> Okr (test ρ) b) (hb : MoS body) : ∀ n, MoS (whD test body n)
  | 0 => fun C ρ fl h s => (okr_st h).elim
  | n + 1 => fun C ρ fl h s => by
    obtain ⟨b, h1, h2⟩ := okr_bnd (show Okr (Rs.bnd _ _) fl from h)
    have h1' := ht _ _ _ h1 s
    cases b with
    | false => cases okr_ok h2; exact ⟨_, Okr.bnd h1' ok1, s⟩
    | true =>
      obtain ⟨x, h3, h4⟩ := okr_bnd (show Okr (Rs.bnd _ _) fl from h2)
      obtain ⟨y, h5, s2⟩ := hb _ _ _ h3 s
      obtain ⟨z, h6, s3⟩ := mo_nxt (mo_wh ht hb n) h4 s2
      exact ⟨z, Okr.bnd h1' (Okr.bnd h5 h6), s3⟩
theorem mo_asg {Φ : Fx} {tgs : List Expr} {e : Expr} {sc : Scope} : MoS (exAsg Φ tgs e sc) := by
  intro C ρ fl h s
  unfold exAsg at h ⊢
  split at h
  . obtain ⟨p, h1, h⟩ := okr_bnd h
    unfold putO at h
    split at h
    . rename_i hx
      split at h
      . rename_i ho; cases okr_ok h
        exact ⟨.nx _, Okr.bnd (mono_e h1 s) (by unfold putO; rw [if_pos hx, ho]; exact ok1), s.put _ _⟩
      . rename_i ho; cases okr_ok h
        exact ⟨.nx _, Okr.bnd (mono_e h1 s) (by unfold putO; rw [if_pos hx, ho]; exact ok1), s.put _ _⟩
      . exact (okr_st h).elim
    . exact (okr_st h).elim
  . split at h
    . rename_i ht
      rw [if_pos ht]
      unfold exPar at h ⊢
      split at h
      . split at h
        . rename_i hp
          rw [if_pos hp]
          obtain ⟨q, h1, h⟩ := okr_bnd h
          split at h
          . rename_i u v hd
            split at h
            . rename_i hf
              cases okr_ok h
              refine ⟨.nx _, Okr.bnd (mono_es h1 s) ?_, (s.put _ _).put _ _⟩
              rw [hd]; dsimp only; rw [if_pos hf]; exact ok1
            . exact (okr_st h).elim
          . exact (okr_st h).elim
        . exact (okr_st h).elim
      . exact (okr_st h).elim
    . rename_i ht
      rw [if_neg ht]
      obtain ⟨p, h1, h⟩ := okr_bnd h
      split at h
      . rename_i ho
        cases okr_ok h
        refine ⟨.nx _, Okr.bnd (mono_e h1 s) (by rw [if_pos ho]; exact ok1), ?_⟩
        show Sub _ _
        unfold put2
        split
        . exact (s.put _ _).put _ _
        . exact s
      rename_i ho
      split at h
      . rename_i ds hd
        split at h
        . rename_i hf
          split at h
          . rename_i C' hb
            cases okr_ok h
            obtain ⟨ρ', hb', s'⟩ := sub_names hb s
            refine ⟨.nx _, Okr.bnd (mono_e h1 s) ?_, s'⟩
            rw [if_neg ho, hd]; dsimp only; rw [if_pos hf, hb']; exact ok1
          . exact (okr_st h).elim
        . exact (okr_st h).elim
      . exact (okr_st h).elim
  . split at h
    . rename_i hc
      rw [if_pos hc]
      obtain ⟨p, h1, h⟩ := okr_bnd h
      obtain ⟨q, h2, h⟩ := okr_bnd h
      rcases stoD_inv h with ⟨l, j, l', a1, a2, a3, hj, hs, hf, rfl⟩ | ⟨ks, ds, k, a1, hk, a3, hf, hz, rfl⟩
      . refine ⟨.nx _, Okr.bnd (mono_e h1 s) (Okr.bnd (mono_e h2 s) ?_), s.put _ _⟩
        rw [hj]; unfold stoD; rw [s _ _ a1]; dsimp only; rw [if_pos a3, hs]
        exact ⟨_, rfl, a2, hf, True.intro⟩
      . refine ⟨.nx _, Okr.bnd (mono_e h1 s) (Okr.bnd (mono_e h2 s) ?_), s.put _ _⟩
        unfold stoD; rw [s _ _ a1]; dsimp only; rw [hk]; dsimp only; rw [if_pos a3]
        exact ⟨_, rfl, hf, hz, True.intro⟩
    . exact (okr_st h).elim
  . exact (okr_st h).elim
theorem mo_aug {Φ : Fx} {t e : Expr} {op : Operator} {sc : Scope} : MoS (exAug Φ t op e sc) := by
  intro C ρ fl h s
  unfold exAug at h ⊢
  split at h
  . split at h
    . rename_i hx
      rw [if_pos hx]
      split at h
      . rename_i p hp
        rw [s _ _ hp]
        obtain ⟨r, h1, h⟩ := okr_bnd h
        cases okr_ok h
        obtain ⟨a, ha, h3⟩ := okr_int h1
        obtain ⟨q, h2, h4⟩ := okr_bnd h3
        exact ⟨.nx _, Okr.bnd (int_i ha (Okr.bnd (mono_e h2 s) h4)) ok1, s.put _ _⟩
      . exact (okr_st h).elim
    . exact (okr_st h).elim
  . exact (okr_st h).elim
theorem mo_exp {Φ : Fx} {e : Expr} {sc : Scope} : MoS (exExp Φ e sc) := by
  intro C ρ fl h s
  unfold exExp at h ⊢
  split at h
  . split at h
    . rename_i hln
      rw [if_pos hln]
      obtain ⟨p, h1, h⟩ := okr_bnd h
      split at h
      . rename_i M hM
        obtain ⟨l, a1, a3, h⟩ := ownM_inv h
        obtain ⟨l', h2, h⟩ := okr_bnd h
        cases okr_ok h
        refine ⟨.nx _, Okr.bnd (mono_es h1 s) ?_, s.put _ _⟩
        unfold ownM; rw [s _ _ a1]; dsimp only; rw [if_pos a3]; exact Okr.bnd h2 ok1
      . exact (okr_st h).elim
    . exact (okr_st h).elim
  . obtain ⟨p, h1, h⟩ := okr_bnd h
    cases okr_ok h
    exact ⟨.nx _, Okr.bnd (mono_e h1 s) ok1, s⟩
  . exact (okr_st h).elim
structure MoI (Φ : Fx) (n : Nat) : Prop where
  s : ∀ (st : Stmt) (sc : Scope), sizeOf st < n -> MoS (exS Φ st sc)
  ss : ∀ (st : List Stmt) (sc : Scope), sizeOf st < n -> MoS (exSs Φ st sc)
theorem mo_st {Φ : Fx} {n : Nat} (I : MoI Φ n) (st : Stmt) (sc : Scope) (hs : sizeOf st < n + 1) : MoS (exS Φ st sc) := by
  intro C ρ fl h s
  cases st with
  | Return e p =>
    cases e with
    | none => cases okr_ok h; exact ⟨_, ok1, rfl⟩
    | some e =>
      obtain ⟨p, h1, h⟩ := okr_bnd (show Okr (Rs.bnd _ _) fl from h)
      have s' : Sub (rtR e C) (rtR e ρ) := by
        unfold rtR
        cases nestE e with
        | false => exact s
        | true =>
          intro x y hx
          have hx : (C x).map (fun p => (p.1, false)) = some y := hx
          show (ρ x).map (fun p => (p.1, false)) = some y
          cases e : C x with
          | none => rw [e] at hx; cases hx
          | some z => rw [e] at hx; rw [s x z e]; exact hx
      refine ⟨fl, Okr.bnd (mono_e h1 s') h, ?_⟩
      unfold retK at h
      split at h
      . cases okr_ok h; rfl
      . exact (okr_st h).elim
  | Pass p => cases okr_ok h; exact ⟨_, ok1, s⟩
  | Break p => cases okr_ok h; exact ⟨_, ok1, s⟩
  | Continue p => cases okr_ok h; exact ⟨_, ok1, s⟩
  | Assign tgs e p => exact mo_asg C ρ fl h s
  | AugAssign t op e p => exact mo_aug C ρ fl h s
  | Expr e p => exact mo_exp C ρ fl h s
  | If c a b p =>
    obtain ⟨p, h1, h⟩ := okr_bnd (show Okr (Rs.bnd _ _) fl from h)
    obtain ⟨t, ht, h⟩ := okr_bl h
    cases t with
    | true =>
      obtain ⟨z, h2, s2⟩ := I.ss a sc (szE (by simp <;> omega) hs) C ρ fl h s
      exact ⟨z, Okr.bnd (mono_e h1 s) (bl_i ht h2), s2⟩
    | false =>
      obtain ⟨z, h2, s2⟩ := I.ss b sc (szE (by simp <;> omega) hs) C ρ fl h s
      exact ⟨z, Okr.bnd (mono_e h1 s) (bl_i ht h2), s2⟩
  | For tg it body els p =>
    rw [exS_for] at h ⊢
    split at h
    . rename_i he
      rw [if_pos he]
      obtain ⟨p, h1, h⟩ := okr_bnd h
      split at h
      . rename_i ds hd
        split at h
        . rename_i hk
          obtain ⟨z, h2, s2⟩ := mo_for (I.ss body sc (szE (by simp <;> omega) hs)) ds _ _ fl h (s.demote it)
          refine ⟨z, Okr.bnd (mono_e h1 (s.demote it)) ?_, s2⟩
          rw [hd]; dsimp only; rw [if_pos hk]; exact h2
        . exact (okr_st h).elim
      . exact (okr_st h).elim
    . exact (okr_st h).elim
  | While c body els p =>
    rw [exS_wh] at h ⊢
    split at h
    . rename_i he
      rw [if_pos he]
      refine mo_wh (fun C ρ b hb s => ?_) (I.ss body sc (szE (by simp <;> omega) hs)) many C ρ fl h s
      obtain ⟨q, h1, hb⟩ := okr_bnd hb
      exact Okr.bnd (mono_e h1 s) hb
    . exact (okr_st h).elim
  | _ => exact (okr_st h).elim
theorem mo_sts {Φ : Fx} {n : Nat} (I : MoI Φ n) (ss : List Stmt) (sc : Scope) (hs : sizeOf ss < n + 1) : MoS (exSs Φ ss sc) := by
  intro C ρ fl h s
  cases ss with
  | nil => cases okr_ok h; exact ⟨_, ok1, s⟩
  | cons st ss =>
    rcases ss_inv h with ⟨C', h1, h2⟩ | ⟨h1, h2⟩
    . obtain ⟨x, h3, s2⟩ := I.s st sc (szE (by simp <;> omega) hs) C ρ _ h1 s
      cases x with
      | nx ρ' =>
        obtain ⟨z, h4, s3⟩ := I.ss ss sc (szE (by simp <;> omega) hs) C' ρ' fl h2 s2
        exact ⟨z, ss_nx h3 h4, s3⟩
      | rt _ => exact s2.elim
      | bk _ => exact s2.elim
      | ct _ => exact s2.elim
    . obtain ⟨x, h3, s2⟩ := I.s st sc (szE (by simp <;> omega) hs) C ρ _ h2 s
      refine ⟨x, ss_end h3 fun ρ' z => ?_, s2⟩
      subst z
      cases fl <;> first | exact h1 _ rfl | exact s2
theorem moi_all (Φ : Fx) : ∀ n, MoI Φ n
  | 0 => ⟨fun _ _ h => absurd h (Nat.not_lt_zero _), fun _ _ h => absurd h (Nat.not_lt_zero _)⟩
  | n + 1 => ⟨fun e sc hs => mo_st (moi_all Φ n) e sc hs, fun e sc hs => mo_sts (moi_all Φ n) e sc hs⟩
theorem mono_nx {Φ : Fx} {ss : List Stmt} {sc : Scope} {C C' ρ : Rho} (h : Okr (exSs Φ ss sc C) (.nx C')) (s : Sub C ρ) : ∃ ρ', Okr (exSs Φ ss sc ρ) (.nx ρ') /\ Sub C' ρ' := by
  obtain ⟨z, h1, h2⟩ := (moi_all Φ _).ss ss sc (Nat.lt_succ_self _) C ρ _ h s
  cases z with
  | nx ρ' => exact ⟨ρ', h1, h2⟩
  | rt _ => exact h2.elim
  | bk _ => exact h2.elim
  | ct _ => exact h2.elim
theorem mono_rt {Φ : Fx} {ss : List Stmt} {sc : Scope} {C ρ : Rho} {d : D} (h : Okr (exSs Φ ss sc C) (.rt d)) (s : Sub C ρ) : Okr (exSs Φ ss sc ρ) (.rt d) := by
  obtain ⟨z, h1, h2⟩ := (moi_all Φ _).ss ss sc (Nat.lt_succ_self _) C ρ _ h s
  cases z with
  | rt _ => cases h2; exact h1
  | nx _ => exact h2.elim
  | bk _ => exact h2.elim
  | ct _ => exact h2.elim
def envL : List (Str × D × Bool) -> Rho
  | [] => fun _ => none
  | p :: l => fun z => if z = p.1 then some p.2 else envL l z
theorem sub_nil {ρ : Rho} : Sub (envL []) ρ := fun _ _ h => by cases h
theorem sub_cons {ρ : Rho} {x : Str} {y : D × Bool} {l : List (Str × D × Bool)} (h : ρ x = some y) (g : Sub (envL l) ρ) : Sub (envL ((x, y) :: l)) ρ := fun z w e => by
  replace e : (if z = x then some y else envL l z) = some w := e
  by_cases hz : z = x
  . rw [if_pos hz] at e; cases e; rw [hz]; exact h
  . rw [if_neg hz] at e; exact g z w e
theorem Sub.get {C ρ : Rho} {x : Str} {y : D × Bool} (s : Sub C ρ) (h : C x = some y := by rfl) : ρ x = some y := s x y h
end Sp
set_option Elab.async false
set_option linter.all false
set_option maxRecDepth 100000
namespace Sp
open PySem PySem.Spec PyProof.Rows L2
section
variable {Φ : Fx} {sc : Scope} {ρ ρ' : Rho} {fl : Fl} {ss : List Stmt}
theorem nx_sub {C C' : Rho} {P : Rho -> Prop} (s : Sub C ρ) (h : Okr (exSs Φ ss sc C) (.nx C')) (k : ∀ ρ', Sub C' ρ' -> P ρ') : ∃ ρ', Okr (exSs Φ ss sc ρ) (.nx ρ') /\ P ρ' :=
  let ⟨ρ', h1, h2⟩ := mono_nx h s; ⟨ρ', h1, k ρ' h2⟩
theorem rt_sub {C : Rho} {d : D} (s : Sub C ρ) (h : Okr (exSs Φ ss sc C) (.rt d)) : Okr (exSs Φ ss sc ρ) (.rt d) := mono_rt h s
theorem ev_sub {C : Rho} {e : Expr} {it : Bool} {p : D × Nat} (s : Sub C ρ) (h : Okr (evE Φ e it sc C) p) : Okr (evE Φ e it sc ρ) p := mono_e h s
theorem ss_forN {tg it : Expr} {body : List Stmt} {p : Pos} {d : D} {ds : List D} {k : Nat} (Inv : List D -> Rho -> Prop) (hi : Okr (evE Φ it true sc (demote it ρ)) (d, k)) (h0 : Inv ds (demote it ρ))
    (step : ∀ d l ρ, Inv (d :: l) ρ -> ∃ ρ1, bindG sc tg d ρ = some ρ1 /\ ∃ ρ2, Okr (exSs Φ body sc ρ1) (.nx ρ2) /\ Inv l ρ2) (rest : ∀ ρ', Inv [] ρ' -> Okr (exSs Φ ss sc ρ') fl) (hd : items d = some ds := by rfl) (hk : k <= 1 := by first | exact Nat.le_refl 1 | exact Nat.zero_le 1) (ht : tgOk it tg = true := by rfl) : Okr (exSs Φ (.For tg it body [] p :: ss) sc ρ) fl := by
  obtain ⟨ρ', h1, h2⟩ := forD_inv (bind := bindG sc tg) (body := exSs Φ body sc) Inv (fun d l ρ h => let ⟨ρ1, a, ρ2, b, c⟩ := step d l ρ h; ⟨ρ1, ρ2, a, .inl b, c⟩) h0
  exact ss_nx (ex_for hi hd hk ht h1) (rest ρ' h2)
theorem ss_forR {tg it : Expr} {body : List Stmt} {p : Pos} {d : D} {ds : List D} {k : Nat} (Inv : List D -> Rho -> Prop) (R : D -> Prop) (hi : Okr (evE Φ it true sc (demote it ρ)) (d, k)) (h0 : Inv ds (demote it ρ))
    (step : ∀ d l ρ, Inv (d :: l) ρ -> ∃ ρ1, bindG sc tg d ρ = some ρ1 /\ ((∃ ρ2, Okr (exSs Φ body sc ρ1) (.nx ρ2) /\ Inv l ρ2) \/ ∃ r, Okr (exSs Φ body sc ρ1) (.rt r) /\ R r)) (rest : ∀ ρ', Inv [] ρ' -> ∃ r, Okr (exSs Φ ss sc ρ') (.rt r) /\ R r) (hd : items d = some ds := by rfl) (hk : k <= 1 := by first | exact Nat.le_refl 1 | exact Nat.zero_le 1) (ht : tgOk it tg = true := by rfl) : ∃ r, Okr (exSs Φ (.For tg it body [] p :: ss) sc ρ) (.rt r) /\ R r := by
  rcases forD_rt (bind := bindG sc tg) (body := exSs Φ body sc) Inv R (fun d l ρ h => by
    obtain ⟨ρ1, a, b⟩ := step d l ρ h
    rcases b with ⟨ρ2, b, c⟩ | ⟨r, b, c⟩
    . exact ⟨ρ1, a, .inl ⟨ρ2, .inl b, c⟩⟩
    . exact ⟨ρ1, a, .inr ⟨r, b, c⟩⟩) h0 with ⟨ρ', h1, h2⟩ | ⟨r, h1, h2⟩
  . obtain ⟨r, h3, h4⟩ := rest ρ' h2
    exact ⟨r, ss_nx (ex_for hi hd hk ht h1) h3, h4⟩
  . exact ⟨r, ss_rt (ex_for hi hd hk ht h1), h2⟩
theorem ev_cmp {a b : Expr} {op : CmpOp} {p : Pos} {it : Bool} {x y : D} {k j : Nat} {r : Bool} (ha : Okr (evE Φ a false sc ρ) (x, k)) (hb : Okr (evE Φ b false sc ρ) (y, j)) (h : Okr (cmpD op x y) r) : Okr (evE Φ (.Compare a [op] [b] p) it sc ρ) (.bl r, 0) :=
  Okr.bnd ha (Okr.bnd hb (Okr.bnd h ok1))
theorem ev_not {a : Expr} {p : Pos} {it : Bool} {b : Bool} {k : Nat} (ha : Okr (evE Φ a false sc ρ) (.bl b, k)) : Okr (evE Φ (.UnaryOp .Not a p) it sc ρ) (.bl (!b), 0) := Okr.bnd ha ok1
theorem ev_bop {op : BoolOp} {e : Expr} {es : List Expr} {p : Pos} {it : Bool} {b : Bool} (h : Okr (evB Φ op (e :: es) sc ρ) b) : Okr (evE Φ (.BoolOp op (e :: es) p) it sc ρ) (.bl b, 0) := by
  rw [evE_bop, if_neg (show ¬ (List.isEmpty (e :: es) = true) from Bool.false_ne_true)]; exact Okr.bnd h ok1
theorem evb_and {e : Expr} {es : List Expr} {b c : Bool} {k : Nat} (h : Okr (evE Φ e false sc ρ) (.bl b, k)) (h1 : b = true -> Okr (evB Φ .And es sc ρ) c) (h2 : b = false -> c = false) : Okr (evB Φ .And (e :: es) sc ρ) c := Okr.bnd h (bl_i rfl (andR_i h1 h2))
theorem evb_or {e : Expr} {es : List Expr} {b c : Bool} {k : Nat} (h : Okr (evE Φ e false sc ρ) (.bl b, k)) (h1 : b = false -> Okr (evB Φ .Or es sc ρ) c) (h2 : b = true -> c = true) : Okr (evB Φ .Or (e :: es) sc ρ) c := Okr.bnd h (bl_i rfl (orR_i h1 h2))
theorem evb_t {e : Expr} {es : List Expr} {c : Bool} {k : Nat} (h : Okr (evE Φ e false sc ρ) (.bl true, k)) (h1 : Okr (evB Φ .And es sc ρ) c) : Okr (evB Φ .And (e :: es) sc ρ) c := evb_and h (fun _ => h1) fun z => by cases z
theorem evb_f {e : Expr} {es : List Expr} {c : Bool} {k : Nat} (h : Okr (evE Φ e false sc ρ) (.bl false, k)) (h1 : Okr (evB Φ .Or es sc ρ) c) : Okr (evB Φ .Or (e :: es) sc ρ) c := evb_or h (fun _ => h1) fun z => by cases z
theorem evb_at : Okr (evB Φ .And [] sc ρ) true := ok1
theorem evb_of : Okr (evB Φ .Or [] sc ρ) false := ok1
theorem Okr.bl {r : R1} {b c : Bool} {k : Nat} (h : Okr r (.bl b, k)) (e : b = c) : Okr r (.bl c, k) := e ▸ h
theorem ev_compM {α : Type} {elt tg iter : Expr} {scope : Scope} {p : Pos} {it : Bool} {d : D} {g f : α -> D} {l : List α} {k : Nat} (hi : Okr (evE Φ iter true sc ρ) (d, k)) (hd : items d = some (l.map g)) (hl : l.length <= many) (hk : llessL (l.map g) = true \/ k <= 1)
    (h : ∀ x ∈ l, ∃ ρ', bindG scope tg (g x) (flt scope ρ) = some ρ' /\ Okr (evE Φ elt false scope ρ') (f x, 0)) (hc : cOk sc scope = true := by rfl) (ht : tgOk iter tg = true := by rfl) : Okr (evE Φ (.ListComp elt [⟨tg, iter, [], 0⟩] scope p) it sc ρ) (.lst (l.map f), 0) := by
  refine ev_comp hi hd ⟨by rw [List.length_map]; exact hl, hk⟩ (compD_map fun x hx => ?_) (Nat.zero_le _) hc ht
  obtain ⟨ρ', h1, h2⟩ := h x hx
  rw [h1]
  refine Okr.bnd (a := true) ok1 ?_
  rw [cond_true]
  exact Okr.bnd h2 ok1
end
theorem len1 {us : List Value} (h : us.length = 1) : ∃ a, us = [a] := List.length_eq_one_iff.mp h
theorem lenS {us : List Value} {n : Nat} (h : us.length = n + 1) : ∃ a r, us = a :: r /\ r.length = n := by
  cases us with
  | nil => cases h
  | cons a r => exact ⟨a, r, rfl, by simpa using h⟩
theorem len2 {us : List Value} (h : us.length = 2) : ∃ a b, us = [a, b] := by
  obtain ⟨a, r, e1, h1⟩ := lenS h; subst e1; obtain ⟨b, rfl⟩ := len1 h1; exact ⟨a, b, rfl⟩
end Sp
set_option linter.all false
namespace Qm
theorem fd2 (t : Int) : (2 * t).fdiv 2 = t := by rw [Int.fdiv_eq_ediv_of_nonneg _ (by decide)]; omega
theorem halve {p P : Int} (h : p = 2 * P) : p.fdiv 2 = P := by rw [h, fd2]
end Qm
set_option Elab.async false
set_option linter.all false
set_option maxRecDepth 100000
namespace K
open PySem L2 Sp
structure Dc (α : Type) where
  dec : D -> Option α
  enc : α -> D
  ok : ∀ x a, dec x = some a -> x = enc a
def dI : Dc Int := ⟨fun | .int i => some i | _ => none, .int, fun x a h => by cases x <;> cases h; rfl⟩
def dL : Dc (List D) := ⟨fun | .lst i => some i | _ => none, .lst, fun x a h => by cases x <;> cases h; rfl⟩
def sp1 {α : Type} (A : Dc α) (f : α -> Rs D) : List D -> Rs D
  | [x] => (match A.dec x with | some a => f a | none => .st)
  | _ => .st
def sp2 {α β : Type} (A : Dc α) (B : Dc β) (f : α -> β -> Rs D) : List D -> Rs D
  | [x, y] => (match A.dec x with | some a => (match B.dec y with | some b => f a b | none => .st) | none => .st)
  | _ => .st
theorem dc_inv {α β : Type} {A : Dc α} {x : D} {f : α -> Rs β} {r : β} (h : Okr (match A.dec x with | some a => f a | none => .st) r) : ∃ a, x = A.enc a /\ Okr (f a) r := by
  split at h
  . rename_i a e; exact ⟨a, A.ok _ _ e, h⟩
  . exact (okr_st h).elim
theorem sp1_inv {α : Type} {A : Dc α} {f : α -> Rs D} {ds : List D} {r : D} (h : Okr (sp1 A f ds) r) : ∃ a, ds = [A.enc a] /\ Okr (f a) r := by
  unfold sp1 at h
  split at h
  . obtain ⟨a, e1, h1⟩ := dc_inv h; exact ⟨a, by rw [e1], h1⟩
  . exact (okr_st h).elim
theorem sp2_inv {α β : Type} {A : Dc α} {B : Dc β} {f : α -> β -> Rs D} {ds : List D} {r : D} (h : Okr (sp2 A B f ds) r) : ∃ a b, ds = [A.enc a, B.enc b] /\ Okr (f a b) r := by
  unfold sp2 at h
  split at h
  . obtain ⟨a, e1, h1⟩ := dc_inv h
    obtain ⟨b, e2, h2⟩ := dc_inv h1
    exact ⟨a, b, by rw [e1, e2], h2⟩
  . exact (okr_st h).elim
def toI : D -> Int
  | .int i => i
  | _ => 0
def toInts (l : List D) : List Int := l.map toI
theorem toInts_map (ns : List Int) : toInts (ns.map D.int) = ns := by
  induction ns with
  | nil => rfl
  | cons n ns ih => show n :: toInts (ns.map D.int) = _; rw [ih]
def okL (l : List D) : Prop := ∃ ns : List Int, l = ns.map D.int
def cellAt (ns : List Int) (k : Int) : Int := if ns = [] then 0 else ns.getD (k.fmod ns.length).toNat 0
def cellF (ns : List Int) (k : Int) : Int :=
  (cellAt ns k).fdiv 2147483647 * 2147483647 + ((((cellAt ns k).fmod 2147483647 + 7919 * k + 1) * 48271).fmod 2147483647 * 69621 + k).fmod 2147483647
def cel (l : List D) (k : Int) : Int := cellF (toInts l) k
abbrev t4 (a b c d : Int) : D := .tup [.int a, .int b, .int c, .int d]
abbrev Qd := Int × Int × Int × Int
def dq (q : Qd) : D := t4 q.1 q.2.1 q.2.2.1 q.2.2.2
def q4 : D -> Option Qd
  | .tup [.int a, .int b, .int c, .int d] => some (a, b, c, d)
  | _ => none
theorem q4_eq (x : D) (q : Qd) (h : q4 x = some q) : x = dq q := by
  unfold q4 at h
  split at h
  . cases h; rfl
  . cases h
def dQ : Dc Qd := ⟨q4, dq, q4_eq⟩
abbrev bdQ (q : Qd) : Prop := q.1.natAbs < big /\ q.2.1.natAbs < big /\ q.2.2.1.natAbs < big /\ q.2.2.2.natAbs < big
def toQ (x : D) : Qd := (q4 x).getD (0, 0, 0, 0)
theorem toQ_map (qs : List Qd) : (qs.map dq).map toQ = qs := by
  induction qs with
  | nil => rfl
  | cons n ns ih => rw [List.map_cons, List.map_cons, ih]; rfl
@[simp] theorem eqD_i (a b : Int) : eqD (.int a) (.int b) = decide (a = b) := by
  show (a == b) = _
  rw [Bool.eq_iff_iff]; simp
@[simp] theorem eqD_q (p q : Qd) : eqD (dq p) (dq q) = decide (p = q) := by
  show (p.1 == q.1 && (p.2.1 == q.2.1 && (p.2.2.1 == q.2.2.1 && (p.2.2.2 == q.2.2.2 && true)))) = _
  obtain ⟨a, b, c, d⟩ := p; obtain ⟨e, f, g, h⟩ := q
  rw [Bool.eq_iff_iff]; simp
end K
set_option Elab.async false
set_option linter.all false
set_option maxRecDepth 100000
namespace K
open PySem L2 Sp
def plnQ (p q : Qd) : Qd :=
  (p.1 * q.1 - p.2.1 * q.2.1 - p.2.2.1 * q.2.2.1 - p.2.2.2 * q.2.2.2, p.1 * q.2.1 + p.2.1 * q.1 + p.2.2.1 * q.2.2.2 - p.2.2.2 * q.2.2.1,
    p.1 * q.2.2.1 - p.2.1 * q.2.2.2 + p.2.2.1 * q.1 + p.2.2.2 * q.2.1, p.1 * q.2.2.2 + p.2.1 * q.2.2.1 - p.2.2.1 * q.2.1 + p.2.2.2 * q.1)
def sqQ (q : Qd) : Int := q.1 * q.1 + (q.2.1 * q.2.1 + (q.2.2.1 * q.2.2.1 + (q.2.2.2 * q.2.2.2 + 0)))
theorem qd_ext {p q : Qd} (h1 : p.1 = q.1) (h2 : p.2.1 = q.2.1) (h3 : p.2.2.1 = q.2.2.1) (h4 : p.2.2.2 = q.2.2.2) : p = q := by
  obtain ⟨a, b, c, d⟩ := p; obtain ⟨e, f, g, h⟩ := q
  simp only at h1 h2 h3 h4; subst h1 h2 h3 h4; rfl
theorem one_plnQ (p : Qd) : plnQ (1, 0, 0, 0) p = p := by
  obtain ⟨a, b, c, d⟩ := p
  refine qd_ext ?_ ?_ ?_ ?_ <;> simp only [plnQ] <;> omega
theorem sqQ_mul (p q : Qd) : sqQ (plnQ p q) = sqQ p * sqQ q := by
  obtain ⟨a, b, c, d⟩ := p; obtain ⟨e, f, g, h⟩ := q
  simp only [plnQ, sqQ]; grind
def wdQ (n : Nat) (q : Qd) : Prop := q.1.natAbs < 2 ^ n /\ q.2.1.natAbs < 2 ^ n /\ q.2.2.1.natAbs < 2 ^ n /\ q.2.2.2.natAbs < 2 ^ n
theorem mul_lt {a e : Int} {M N : Nat} (h : a.natAbs < M) (g : e.natAbs < N) : (a * e).natAbs < M * N := by
  rw [Int.natAbs_mul]
  exact Nat.mul_lt_mul'' h g
theorem wd4 {x y z w : Int} {K : Nat} (h1 : x.natAbs < K) (h2 : y.natAbs < K) (h3 : z.natAbs < K) (h4 : w.natAbs < K) : (x - y - z - w).natAbs < 4 * K /\ (x + y + z - w).natAbs < 4 * K /\ (x - y + z + w).natAbs < 4 * K /\ (x + y - z + w).natAbs < 4 * K := by
  have k : x.natAbs + y.natAbs + z.natAbs + w.natAbs < 4 * K := by omega
  have up : ∀ {p q : Nat} (r : Nat), p <= q -> p + r <= q + r := fun r h => Nat.add_le_add_right h r
  exact ⟨Nat.lt_of_le_of_lt (Nat.le_trans (Int.natAbs_sub_le _ _) (up _ (Nat.le_trans (Int.natAbs_sub_le _ _) (up _ (Int.natAbs_sub_le _ _))))) k, Nat.lt_of_le_of_lt (Nat.le_trans (Int.natAbs_sub_le _ _) (up _ (Nat.le_trans (Int.natAbs_add_le _ _) (up _ (Int.natAbs_add_le _ _))))) k,
    Nat.lt_of_le_of_lt (Nat.le_trans (Int.natAbs_add_le _ _) (up _ (Nat.le_trans (Int.natAbs_add_le _ _) (up _ (Int.natAbs_sub_le _ _))))) k, Nat.lt_of_le_of_lt (Nat.le_trans (Int.natAbs_add_le _ _) (up _ (Nat.le_trans (Int.natAbs_sub_le _ _) (up _ (Int.natAbs_add_le _ _))))) k⟩
theorem wdQ_mul {p q : Qd} {m n : Nat} (h : wdQ m p) (g : wdQ n q) : wdQ (m + n + 2) (plnQ p q) := by
  have e : 2 ^ (m + n + 2) = 4 * (2 ^ m * 2 ^ n) := by rw [Nat.pow_add, Nat.pow_add]; omega
  obtain ⟨a1, a2, a3, a4⟩ := h
  obtain ⟨b1, b2, b3, b4⟩ := g
  unfold wdQ
  rw [e]
  exact ⟨(wd4 (mul_lt a1 b1) (mul_lt a2 b2) (mul_lt a3 b3) (mul_lt a4 b4)).1, (wd4 (mul_lt a1 b2) (mul_lt a2 b1) (mul_lt a3 b4) (mul_lt a4 b3)).2.1,
    (wd4 (mul_lt a1 b3) (mul_lt a2 b4) (mul_lt a3 b1) (mul_lt a4 b2)).2.2.1, (wd4 (mul_lt a1 b4) (mul_lt a2 b3) (mul_lt a3 b2) (mul_lt a4 b1)).2.2.2⟩
theorem wdQ.mono {p : Qd} {m n : Nat} (h : wdQ m p) (g : m <= n) : wdQ n p := by
  have e : 2 ^ m <= 2 ^ n := Nat.pow_le_pow_right (by decide) g
  obtain ⟨a1, a2, a3, a4⟩ := h
  exact ⟨Nat.lt_of_lt_of_le a1 e, Nat.lt_of_lt_of_le a2 e, Nat.lt_of_lt_of_le a3 e, Nat.lt_of_lt_of_le a4 e⟩
theorem wdQ.bd {p : Qd} {n : Nat} (h : wdQ n p) (g : n <= 9000) : bdQ p := by
  have h := h.mono g
  exact h
theorem wdQ_fold {qs : List Qd} {p : Qd} {m n : Nat} (h : wdQ m p) (g : ∀ q ∈ qs, wdQ n q) : wdQ (m + (n + 2) * qs.length) (qs.foldl plnQ p) := by
  induction qs generalizing p m with
  | nil => exact h
  | cons q qs ih =>
    have := ih (wdQ_mul h (g q (by simp))) fun r hr => g r (by simp [hr])
    refine this.mono ?_
    rw [List.length_cons, Nat.mul_succ]; omega
theorem bd_mul {p q : Qd} (h : bdQ p) (g : bdQ q) : (mulOk p.1 q.1 /\ mulOk p.2.1 q.2.1 /\ mulOk p.2.2.1 q.2.2.1 /\ mulOk p.2.2.2 q.2.2.2) /\ (mulOk p.1 q.2.1 /\ mulOk p.2.1 q.1 /\ mulOk p.2.2.1 q.2.2.2 /\ mulOk p.2.2.2 q.2.2.1) /\ (mulOk p.1 q.2.2.1 /\ mulOk p.2.1 q.2.2.2 /\ mulOk p.2.2.1 q.1 /\ mulOk p.2.2.2 q.2.1) /\ (mulOk p.1 q.2.2.2 /\ mulOk p.2.1 q.2.2.1 /\ mulOk p.2.2.1 q.2.1 /\ mulOk p.2.2.2 q.1) :=
  ⟨⟨mulOk_b h.1 g.1, mulOk_b h.2.1 g.2.1, mulOk_b h.2.2.1 g.2.2.1, mulOk_b h.2.2.2 g.2.2.2⟩, ⟨mulOk_b h.1 g.2.1, mulOk_b h.2.1 g.1, mulOk_b h.2.2.1 g.2.2.2, mulOk_b h.2.2.2 g.2.2.1⟩, ⟨mulOk_b h.1 g.2.2.1, mulOk_b h.2.1 g.2.2.2, mulOk_b h.2.2.1 g.1, mulOk_b h.2.2.2 g.2.1⟩, ⟨mulOk_b h.1 g.2.2.2, mulOk_b h.2.1 g.2.2.1, mulOk_b h.2.2.1 g.2.1, mulOk_b h.2.2.2 g.1⟩⟩
def okJ : Qd -> List Qd -> Prop
  | _, [] => True
  | r, q :: qs => bdQ r /\ bdQ q /\ okJ (plnQ r q) qs
theorem okJ_of {qs : List Qd} {p : Qd} {m n : Nat} (h : wdQ m p) (g : ∀ q ∈ qs, wdQ n q) (hl : m + (n + 2) * qs.length <= 9000) (hn : n <= 9000) : okJ p qs := by
  induction qs generalizing p m with
  | nil => exact True.intro
  | cons q qs ih =>
    rw [List.length_cons, Nat.mul_succ] at hl
    exact ⟨h.bd (by omega), (g q (by simp)).bd hn, ih (wdQ_mul h (g q (by simp))) (fun r hr => g r (by simp [hr])) (by omega)⟩
def jnL (l : List D) : Qd := (l.map toQ).foldl plnQ (1, 0, 0, 0)
theorem jnL_map (qs : List Qd) : jnL (qs.map dq) = qs.foldl plnQ (1, 0, 0, 0) := by unfold jnL; rw [toQ_map]
end K
set_option Elab.async false
set_option linter.all false
set_option maxRecDepth 100000
namespace K
open PySem L2 Sp
theorem lay_l (qs : List Qd) : PyData.canLayAll0 (pyL (qs.map dq)) = true := by
  induction qs with
  | nil => rfl
  | cons q qs ih => rw [List.map_cons, pyL, PyData.canLayAll0, ih]; rfl
theorem dep_q (q : Qd) : PyData.depth (dq q).py = 1 := by
  simp [dq, D.py, pyL, PyData.depth, PyData.depthAll]
theorem dep_l (qs : List Qd) : PyData.depthAll (pyL (qs.map dq)) <= 1 := by
  induction qs with
  | nil => simp [pyL, PyData.depthAll]
  | cons q qs ih => rw [List.map_cons, pyL, PyData.depthAll, dep_q]; omega
end K
set_option Elab.async false
set_option linter.all false
set_option maxRecDepth 100000
namespace Sp
open PySem PySem.Spec PyProof.Rows L2
open AutoSeq1 (wpAny_loadPart')
section
variable {prog : Program} {w : World} {A : Around} {E : Value -> Shared -> Prop} {s : Shared}
variable {n l1 l2 l3 : Nat} {xs ys ws : Array Value} {k : Nat} {x y u : Value} {f0 f1 : Value}
end
end Sp
set_option Elab.async false
set_option linter.all false
set_option maxRecDepth 100000
namespace Sp
open PySem PySem.Spec PyProof.Rows L2
open AutoSeq1 (wpAny_loadPart')
section
variable {prog : Program} {w : World} {A : Around} {E : Value -> Shared -> Prop} {s : Shared}
end
end Sp
set_option Elab.async false
set_option linter.all false
set_option maxRecDepth 100000
namespace Sp
open PySem PySem.Spec PyProof.Rows L2
section
variable {prog : Program} {w : World} {A : Around} {E : Value -> Shared -> Prop} {s : Shared}
end
end Sp
set_option Elab.async false
set_option linter.all false
set_option maxRecDepth 100000
namespace Sp
open PySem PySem.Spec PyProof.Rows L2
variable {X : Cx}
theorem hok_more {P : Program} {w : World} {H : Hp} {h : Heap} {b : Addr} {o : HO} (x : HOk P w H h) (hb : H b = none) (new : ObjOk P w (upd H b o) h b o) : HOk P w (upd H b o) h := fun c u e => by
  by_cases hc : c = b
  . subst hc; rw [upd_same] at e; cases e; exact new
  . rw [upd_ne hc] at e
    exact (x c u e).stay (fun d v _ r => r) (fun d r => by rw [upd_ne (ne_of_none r hb)]; exact r) (fun d xs r => by rw [upd_ne (ne_of_none r hb)]; exact r)
theorem un_more {fs ex : List Addr} {H H' : Hp} {h h' : Heap} (k : ∀ b u, h.get? b = some u -> h'.get? b = some u) (hH : ∀ c, c < h.objs.size -> H' c = H c) (hin : ∀ c o, H c = some o -> c < h.objs.size) : Un fs ex H H' h h' where
  keep := fun b u q _ _ _ => k b u q
  slot := fun b u q _ _ _ => ⟨u.slots, k b u q⟩
  free := fun b u q n _ => (hH b (Heap.lt_size q)).trans n
  there := fun b u q _ => ⟨u, k b u q⟩
  tups := fun b xs r => (hH b (hin b _ r)).trans r
  frzs := fun b o u r => (hH b (hin b _ r)).trans r
  tbls := fun b ps r => ⟨#[], by rw [Array.append_empty]; exact (hH b (hin b _ r)).trans r⟩
theorem ssd_app {Φ : Fx} {sc : Scope} {H0 : Hp} {fl : Fl} {rest : List Stmt} (G : Good Φ X sc) (hp : PassesOwn (model X.prog X.w) X.A X.env X.xe) : ∀ {pre : List Stmt} {ρ ρ1 : Rho}, Okr (exSs Φ pre sc ρ) (.nx ρ1) -> SsD X H0 ρ1 rest fl -> SsD X H0 ρ (pre ++ rest) fl
  | [], ρ, ρ1, h, k => by cases okr_ok h; exact k
  | st :: ss, ρ, ρ1, h, k => by
    obtain ⟨f1, h1, h2⟩ := okr_bnd (show Okr (Rs.bnd _ _) _ from h)
    cases f1 with
    | nx ρ' => exact ssd_cons ((is_all Φ _).s st (Nat.lt_succ_self _) h1 G hp) (ssd_app G hp h2 k)
    | rt d => cases okr_ok h2
    | bk ρ' => cases okr_ok h2
    | ct ρ' => cases okr_ok h2
theorem fnD_lz {P : Program} {w : World} {K : PySem.W.Frag} {mg : Str -> Option Value} {base : Heap} {k : Nat} {g : Str} {f : Addr} {fd : FuncData} {ps : List Str} {F : List D -> Rs D} (h : FnOk P w K mg base CX0 k f fd ps (spD K F)) (hm : mg g = some (.ref f)) (hk : PySem.W.keepIn K (.ref f) = true) (hb : Binds K fd ps []) (hd : (g == ("__debug__" : Str)) = false) : FnD P w K mg base k g F :=
  ⟨f, fd, ps, h, hm, hk, hb, hd⟩
end Sp
set_option Elab.async false
set_option linter.all false
set_option maxRecDepth 100000
namespace Sp
open PySem PySem.Spec PyProof.Rows L2
variable {X : Cx}
end Sp
set_option Elab.async false
set_option linter.all false
set_option maxRecDepth 100000
namespace Sp
open PySem PySem.Spec PyProof.Rows L2
variable {Φ : Fx} {sc : Scope} {ρ ρ' : Rho} {fl : Fl} {ss : List Stmt}
theorem ex_dput {x : Str} {i e : Expr} {p1 p2 q : Pos} {ks : List Key} {ds : List D} {d di : D} {key : Key} {k k2 : Nat} (hx : ρ x = some (.dct ks ds, true)) (h : Okr (evE Φ e false sc ρ) (d, k)) (hi : Okr (evE Φ i false sc ρ) (di, k2)) (hk : keyD di = some key) (hz : ks.length < many) (hd : d.lless = true) (ht : stOk e = true := by rfl) (hn : okN x = true := by rfl) :
    Okr (exS Φ (.Assign [.Subscript (.Name x p1) i p2] e q) sc ρ) (.nx (putR ρ x (.dct (dPutK ks key) (dPutV ks ds key d), true))) := by
  refine Okr.bnd h (Okr.bnd hi ?_)
  show Okr (stoD _ _ _ _) _
  unfold stoD
  rw [hx]; dsimp only; rw [hk]; dsimp only; rw [if_pos hn]
  exact ⟨_, rfl, hd, hz, True.intro⟩
theorem whD_invM {test : Rho -> Rs Bool} {body : Rho -> Rs Fl} (Inv : Nat -> Rho -> Prop) (step : ∀ m ρ, Inv m ρ -> ∃ b, Okr (test ρ) b /\ (b = true -> ∃ m' ρ2, m' < m /\ Okr (body ρ) (.nx ρ2) /\ Inv m' ρ2)) : ∀ {n m : Nat} {ρ : Rho}, Inv m ρ -> m < n -> ∃ m' ρ', Okr (whD test body n ρ) (.nx ρ') /\ Inv m' ρ' /\ Okr (test ρ') false := by
  intro n
  induction n with
  | zero => intro m ρ _ h; omega
  | succ n ih =>
    intro m ρ hi hm
    obtain ⟨b, hb, h⟩ := step m ρ hi
    cases b with
    | false => exact ⟨m, ρ, Okr.bnd hb ok1, hi, hb⟩
    | true =>
      obtain ⟨m', ρ2, h1, h2, h3⟩ := h rfl
      obtain ⟨m2, ρ3, h4, h5, h6⟩ := ih h3 (show m' < n by omega)
      exact ⟨m2, ρ3, Okr.bnd hb (Okr.bnd h2 h4), h5, h6⟩
theorem ss_whileM {c : Expr} {body : List Stmt} {p : Pos} {m : Nat} (Inv : Nat -> Rho -> Prop) (h0 : Inv m ρ) (hm : m < many)
    (step : ∀ m ρ, Inv m ρ -> ∃ b k, Okr (evE Φ c false sc ρ) (.bl b, k) /\ (b = true -> ∃ m' ρ2, m' < m /\ Okr (exSs Φ body sc ρ) (.nx ρ2) /\ Inv m' ρ2)) (rest : ∀ m ρ', Inv m ρ' -> (∃ k, Okr (evE Φ c false sc ρ') (.bl false, k)) -> Okr (exSs Φ ss sc ρ') fl) : Okr (exSs Φ (.While c body [] p :: ss) sc ρ) fl := by
  obtain ⟨m', ρ', h1, h2, h3⟩ := whD_invM (test := fun ρ => (evE Φ c false sc ρ).bnd fun p => blR p fun b => .ok b []) (body := exSs Φ body sc) Inv (fun m ρ h => by
    obtain ⟨b, k, a1, a2⟩ := step m ρ h
    exact ⟨b, a1.bnd (bl_i rfl ok1), a2⟩) h0 hm
  obtain ⟨q, h4, h5⟩ := okr_bnd h3
  obtain ⟨t, ht, h5⟩ := okr_bl h5
  cases okr_ok h5
  obtain ⟨q1, q2⟩ := q
  have ht : q1 = .bl false := ht
  subst ht
  exact ss_nx (ex_while h1) (rest m' ρ' h2 ⟨q2, h4⟩)
theorem wh_step {m m' : Nat} {A : Rho -> Prop} {P : Nat -> Rho -> Prop} (h : m' < m) (k : ∃ ρ2, A ρ2 /\ P m' ρ2) : ∃ m' ρ2, m' < m /\ A ρ2 /\ P m' ρ2 := by
  obtain ⟨ρ2, a, b⟩ := k
  exact ⟨m', ρ2, h, a, b⟩
end Sp
set_option Elab.async false
set_option linter.all false
set_option maxRecDepth 100000
namespace K
open PySem L2 Sp Qm
def mulQ (p q : Qd) : Qd :=
  ((p.1 * q.1 - p.2.1 * q.2.1 - p.2.2.1 * q.2.2.1 - p.2.2.2 * q.2.2.2).fdiv 2, (p.1 * q.2.1 + p.2.1 * q.1 + p.2.2.1 * q.2.2.2 - p.2.2.2 * q.2.2.1).fdiv 2,
    (p.1 * q.2.2.1 - p.2.1 * q.2.2.2 + p.2.2.1 * q.1 + p.2.2.2 * q.2.1).fdiv 2, (p.1 * q.2.2.2 + p.2.1 * q.2.2.1 - p.2.2.1 * q.2.1 + p.2.2.2 * q.1).fdiv 2)
def szQ (q : Qd) : Int := (q.1 * q.1 + (q.2.1 * q.2.1 + (q.2.2.1 * q.2.2.1 + (q.2.2.2 * q.2.2.2 + 0)))).fdiv 4
end K
set_option Elab.async false
set_option linter.all false
set_option maxRecDepth 100000
namespace K
open PySem L2 Sp Qm
end K
set_option Elab.async false
set_option linter.all false
set_option maxRecDepth 100000
namespace K
open PySem L2 Sp Qm
end K
set_option Elab.async false
set_option linter.all false
set_option maxRecDepth 100000
namespace K
open PySem L2 Sp Qm
theorem ne_i {a b : Int} (h : a = b) : (!eqD (.int a) (.int b)) = false := by rw [h]; simp
theorem eq_i {a b : Int} (h : a = b) : eqD (.int a) (.int b) = true := by rw [h]; simp
end K
set_option Elab.async false
set_option linter.all false
set_option maxRecDepth 100000
namespace K
open PySem L2 Sp Qm
theorem ne_it {a b : Int} (h : a ≠ b) : (!eqD (.int a) (.int b)) = true := by simp [h]
end K
set_option Elab.async false
set_option linter.all false
set_option maxRecDepth 100000
namespace K
open PySem L2 Sp Qm
theorem ev_bin {Φ : Fx} {sc : Scope} {ρ : Rho} {a b : Expr} {op : Operator} {p : Pos} {it : Bool} {x y : D} {k j : Nat} {r : D × Nat} (ha : Okr (evE Φ a false sc ρ) (x, k)) (hb : Okr (evE Φ b false sc ρ) (y, j)) (h : Okr (binD op x y k j) r) : Okr (evE Φ (.BinOp a op b p) it sc ρ) r := Okr.bnd ha (Okr.bnd hb h)
theorem at_fm {α : Type} {f : α -> D} {l : List α} {i : Int} (h0 : 0 <= i) (h1 : i < l.length) : ∃ x ∈ l, L2.atI (l.map f) i = some (f x) := by
  obtain ⟨j, rfl⟩ := Int.eq_ofNat_of_zero_le h0
  have hj : j < l.length := by omega
  exact ⟨l[j], List.getElem_mem _, atI_nat (by simp [hj])⟩
end K
set_option Elab.async false
set_option linter.all false
set_option maxRecDepth 100000
namespace K
open PySem L2 Sp Qm
def GoF (Φ : Fx) (sc : Scope) (tg : Expr) (body ss : List Stmt) (r : D) : List D -> Rho -> Prop
  | [], ρ => Okr (exSs Φ ss sc ρ) (.rt r)
  | d :: l, ρ => ∃ ρ1, bindG sc tg d ρ = some ρ1 /\ ((∃ ρ2, Okr (exSs Φ body sc ρ1) (.nx ρ2) /\ GoF Φ sc tg body ss r l ρ2) \/ Okr (exSs Φ body sc ρ1) (.rt r))
theorem ss_forG {Φ : Fx} {sc : Scope} {ρ : Rho} {ss : List Stmt} {tg it : Expr} {body : List Stmt} {p : Pos} {d r : D} (ds : List D) {k : Nat} (hi : Okr (evE Φ it true sc (demote it ρ)) (d, k)) (h : GoF Φ sc tg body ss r ds (demote it ρ)) (hd : items d = some ds := by rfl) (hk : k <= 1 := by first | exact Nat.le_refl 1 | exact Nat.zero_le 1) (ht : tgOk it tg = true := by rfl) : Okr (exSs Φ (.For tg it body [] p :: ss) sc ρ) (.rt r) := by
  obtain ⟨r', h1, rfl⟩ := ss_forR (ds := ds) (fun ds ρ => GoF Φ sc tg body ss r ds ρ) (fun r' => r' = r) hi h (fun d l ρ ⟨ρ1, h1, h2⟩ => ⟨ρ1, h1, by
    rcases h2 with h2 | h2
    . exact .inl h2
    . exact .inr ⟨r, h2, rfl⟩⟩) (fun ρ' h => ⟨r, h, rfl⟩) hd hk ht
  exact h1
end K
set_option Elab.async false
set_option linter.all false
set_option maxRecDepth 100000
namespace K
open PySem L2 Sp Qm
open Builtin.Int (intBits)
theorem goF_sub {P : Rho -> Prop} {ρ C : Rho} (h : Sub C ρ) (k : ∀ ρ, Sub C ρ -> P ρ) : P ρ := k ρ h
end K
set_option Elab.async false
set_option linter.all false
set_option maxRecDepth 100000
namespace K
open PySem L2 Sp Qm
theorem kn1 (d : D) : kn d 1 <= 1 := by rcases kn_le (d := d) (k := 1) with q | q <;> omega
theorem wh_ex {Φ : Fx} {sc : Scope} {ρ : Rho} {c : Expr} {body : List Stmt} {p : Pos} {m : Nat} {P : Rho -> Prop} (Inv : Nat -> Rho -> Prop) (h0 : Inv m ρ) (hm : m < many)
    (step : ∀ m ρ, Inv m ρ -> ∃ b k, Okr (evE Φ c false sc ρ) (.bl b, k) /\ (b = true -> ∃ m' ρ2, m' < m /\ Okr (exSs Φ body sc ρ) (.nx ρ2) /\ Inv m' ρ2)) (rest : ∀ m ρ', Inv m ρ' -> (∃ k, Okr (evE Φ c false sc ρ') (.bl false, k)) -> P ρ') : ∃ ρ', Okr (exSs Φ [.While c body [] p] sc ρ) (.nx ρ') /\ P ρ' := by
  obtain ⟨m', ρ', h1, h2, h3⟩ := whD_invM (test := fun ρ => (evE Φ c false sc ρ).bnd fun p => blR p fun b => .ok b []) (body := exSs Φ body sc) Inv (fun m ρ h => by
    obtain ⟨b, k, a1, a2⟩ := step m ρ h
    exact ⟨b, a1.bnd (bl_i rfl ok1), a2⟩) h0 hm
  obtain ⟨q, h4, h5⟩ := okr_bnd h3
  obtain ⟨t, ht, h5⟩ := okr_bl h5
  cases okr_ok h5
  obtain ⟨q1, q2⟩ := q
  have ht : q1 = .bl false := ht
  subst ht
  exact ⟨ρ', ss_nx (ex_while h1) ss_nil, rest m' ρ' h2 ⟨q2, h4⟩⟩
end K
set_option Elab.async false
set_option linter.all false
set_option maxRecDepth 100000
namespace K
open PySem L2 Sp Qm
def n20 (x : Int) : Prop := x.natAbs <= 10 ^ 20
end K
set_option Elab.async false
set_option linter.all false
set_option maxRecDepth 100000
namespace K
open PySem L2 Sp Qm
end K
set_option Elab.async false
set_option linter.all false
set_option maxRecDepth 100000
namespace K
open PySem PySem.Spec PyProof.Rows L2 Sp Qm
end K
set_option Elab.async false
set_option linter.all false
set_option maxRecDepth 100000
namespace K
open PySem PySem.Spec PyProof.Rows L2 Sp Qm
end K
set_option Elab.async false
set_option linter.all false
set_option maxRecDepth 100000
namespace K
open PySem L2 Sp Qm
section
variable {Φ : Fx} {sc : Scope} {ρ ρ1 : Rho} {ss : List Stmt}
end
end K
set_option Elab.async false
set_option linter.all false
set_option maxRecDepth 100000
namespace Sp
open PySem PySem.Spec PyProof.Rows L2
variable {X : Cx}
end Sp
set_option Elab.async false
set_option linter.all false
set_option maxRecDepth 100000
namespace K
open PySem L2 Sp Qm
section
variable {Φ : Fx} {sc : Scope} {ρ ρ1 : Rho} {ss : List Stmt}
end
end K
set_option Elab.async false
set_option linter.all false
set_option maxRecDepth 100000
namespace K
open PySem L2 Sp Qm
section
variable {Φ : Fx} {sc : Scope} {ρ ρ1 : Rho} {ss : List Stmt} {P Q : Rho -> Prop}
def forTg : Stmt -> Expr
  | .For t _ _ _ _ => t
  | _ => .Name (Str.ofString "") ⟨0, 0, 0, 0⟩
def forIt : Stmt -> Expr
  | .For _ i _ _ _ => i
  | _ => .Name (Str.ofString "") ⟨0, 0, 0, 0⟩
def forBody : Stmt -> List Stmt
  | .For _ _ b _ _ => b
  | _ => []
theorem ev_it {f : Str} {p q : Pos} {args : List Expr} {ds : List D} {k : Nat} {B : List D -> Nat -> R1} {v : D × Nat} (ha : Okr (evEs Φ args sc ρ) (ds, k)) (hv : Okr (B ds k) v) (hF : Φ.fn f = none := by rfl) (hI : Φ.itr f = some B := by rfl) (hg : sc.names.lookup f = some .globalImplicit := by rfl) : Okr (evE Φ (.Call (.Name f p) args [] q) true sc ρ) v := by
  rw [evE_calN, if_pos hg]
  refine Okr.bnd ha ?_
  unfold callD
  dsimp only
  rw [hF]
  dsimp only
  rw [if_pos rfl, hI]
  exact hv
theorem ss_ex {s : Stmt} {fl : Fl} (h : ∃ ρ1, Okr (exS Φ s sc ρ) (.nx ρ1) /\ Q ρ1) (k : ∀ ρ1, Q ρ1 -> Okr (exSs Φ ss sc ρ1) fl) : Okr (exSs Φ (s :: ss) sc ρ) fl := by
  obtain ⟨ρ1, h1, h2⟩ := h
  exact ss_nx h1 (k ρ1 h2)
theorem ev_dget {a i : Expr} {p : Pos} {it : Bool} {ks : List Key} {ds : List D} {di d : D} {key : Key} {k k2 : Nat} (ha : Okr (evE Φ a false sc ρ) (.dct ks ds, k)) (hi : Okr (evE Φ i false sc ρ) (di, k2)) (hk : keyD di = some key) (hd : dGet ks ds key = some d) : Okr (evE Φ (.Subscript a i p) it sc ρ) (d, 0) := by
  have key : Okr ((evE Φ a false sc ρ).bnd fun p => (evE Φ i false sc ρ).bnd fun q => subD p q) (d, 0) := by
    refine ha.bnd (hi.bnd ?_)
    unfold subD; dsimp only
    rw [hk]; dsimp only
    rw [hd]; exact ok1
  cases i with
  | Slice lo hi st p2 => exact (okr_st hi).elim
  | _ => exact key
end
def l21 : List Int := [0, 1, 2, 3, 4, 5, 6, 7, 8, 9, 10, 11, 12, 13, 14, 15, 16, 17, 18, 19, 20]
end K
set_option Elab.async false
set_option linter.all false
set_option maxRecDepth 100000
namespace K
open PySem L2 Sp Qm
def sqs : List Nat -> Nat
  | [] => 0
  | x :: r => x * x + sqs r
def mst (r : List Nat) : Nat := r.getLastD 20
def ext (n : Nat) (r : List Nat) : List (List Nat) := ((List.range (mst r + 1)).filter fun p => decide (p * p + sqs r <= n)).map fun p => r ++ [p]
def lng (n : Nat) (rs : List (List Nat)) : List (List Nat) := rs.flatMap (ext n)
def rws (n : Nat) : Nat -> List (List Nat)
  | 0 => [[]]
  | k + 1 => lng n (rws n k)
theorem filter_sub {α : Type} {p q : α -> Bool} (h : ∀ x, p x = true -> q x = true) : ∀ l : List α, (l.filter p).Sublist (l.filter q)
  | [] => .slnil
  | x :: l => by
    rw [List.filter_cons, List.filter_cons]
    by_cases hp : p x = true
    . rw [if_pos hp, if_pos (h x hp)]; exact (filter_sub h l).cons₂ x
    . rw [if_neg hp]
      split
      . exact (filter_sub h l).cons x
      . exact filter_sub h l
theorem ext_sub {m n : Nat} (h : m <= n) (r : List Nat) : (ext m r).Sublist (ext n r) := (filter_sub (fun p hp => decide_eq_true (Nat.le_trans (of_decide_eq_true hp) h)) _).map _
theorem flat_sub {α β : Type} {f g : α -> List β} (h : ∀ x, (f x).Sublist (g x)) : ∀ {l m : List α}, l.Sublist m -> (l.flatMap f).Sublist (m.flatMap g)
  | _, _, .slnil => .slnil
  | _, _, .cons x s => by rw [List.flatMap_cons]; exact (flat_sub h s).trans (List.sublist_append_right _ _)
  | _, _, .cons₂ x s => by rw [List.flatMap_cons, List.flatMap_cons]; exact (h x).append (flat_sub h s)
theorem rws_sub {m n : Nat} (h : m <= n) : ∀ k, (rws m k).Sublist (rws n k)
  | 0 => List.Sublist.refl _
  | k + 1 => flat_sub (ext_sub h) (rws_sub h k)
theorem rws_400 : (rws 400 1).length <= 4000 /\ (rws 400 2).length <= 4000 /\ (rws 400 3).length <= 4000 /\ (rws 400 4).length <= 4000 := by decide +kernel
theorem rws_len {n k : Nat} (h : n <= 400) (hk : k <= 4) : (rws n k).length <= 4000 := by
  refine Nat.le_trans (rws_sub h k).length_le ?_
  obtain ⟨h1, h2, h3, h4⟩ := rws_400
  match k, hk with
  | 0, _ => decide
  | 1, _ => exact h1
  | 2, _ => exact h2
  | 3, _ => exact h3
  | 4, _ => exact h4
def rok (k : Nat) (r : List Nat) : Prop := r.length = k /\ ∀ x ∈ r, x <= 20
theorem lastD_le : ∀ (r : List Nat) (d : Nat), d <= 20 -> (∀ x ∈ r, x <= 20) -> r.getLastD d <= 20
  | [], d, hd, _ => hd
  | a :: l, d, hd, h => by rw [List.getLastD_cons]; exact lastD_le l a (h a List.mem_cons_self) fun x hx => h x (List.mem_cons_of_mem _ hx)
theorem last_le {r : List Nat} (h : ∀ x ∈ r, x <= 20) : mst r <= 20 := lastD_le r 20 (Nat.le_refl _) h
theorem rws_ok (n : Nat) : ∀ k, ∀ r ∈ rws n k, rok k r
  | 0, r, h => by
    rw [rws, List.mem_singleton] at h
    subst h
    exact ⟨rfl, fun x hx => by cases hx⟩
  | k + 1, r, h => by
    rw [rws, lng, List.mem_flatMap] at h
    obtain ⟨q, hq, hr⟩ := h
    obtain ⟨h1, h2⟩ := rws_ok n k q hq
    unfold ext at hr
    obtain ⟨p, hp, rfl⟩ := List.mem_map.mp hr
    have hp := List.mem_range.mp (List.mem_filter.mp hp).1
    have := last_le h2
    refine ⟨by rw [List.length_append, h1]; rfl, fun x hx => ?_⟩
    rcases List.mem_append.mp hx with hx | hx
    . exact h2 x hx
    . rw [List.mem_singleton] at hx; omega
abbrev dr (r : List Nat) : D := .tup (r.map fun x => .int (x : Nat))
theorem ex_mut {Φ : Fx} {sc : Scope} {ρ : Rho} {x m : Str} {p ap cp q : Pos} {args : List Expr} {M : List D -> List D -> Nat -> Rs (List D)} {l ds l' : List D} {k : Nat} (hp : (ap.endLine == cp.line) = true) (ha : Okr (evEs Φ args sc ρ) (ds, k)) (hm : Φ.mtt m = some M) (hx : ρ x = some (.lst l, true)) (hM : Okr (M l ds k) l') (hn : okN x = true := by rfl) :
    Okr (exS Φ (.Expr (.Call (.Attribute (.Name x p) m ap) args [] cp) q) sc ρ) (.nx (putR ρ x (.lst l', true))) := by
  suffices key : Okr (exExp Φ (.Call (.Attribute (.Name x p) m ap) args [] cp) sc ρ) (.nx (putR ρ x (.lst l', true))) from key
  unfold exExp
  dsimp only
  rw [if_pos hp]
  refine Okr.bnd ha ?_
  rw [hm]
  unfold ownM
  rw [hx]
  dsimp only
  rw [if_pos hn]
  exact hM.bnd ok1
theorem ev_itr {Φ : Fx} {sc : Scope} {ρ : Rho} {f : Str} {p q : Pos} {args : List Expr} {ds : List D} {k : Nat} {B : List D -> Nat -> R1} {v : D × Nat} (ha : Okr (evEs Φ args sc ρ) (ds, k)) (hv : Okr (B ds k) v) (hF : Φ.fn f = none := by rfl) (hI : Φ.itr f = some B := by rfl) (hg : sc.names.lookup f = some .globalImplicit := by rfl) : Okr (evE Φ (.Call (.Name f p) args [] q) true sc ρ) v := by
  rw [evE_calN, if_pos hg]
  refine ha.bnd ?_
  unfold callD
  simp only [hF, if_pos, hI]
  exact hv
end K
namespace K
open PySem L2 Sp Qm
theorem rng_q {m k : Nat} (h : m <= 20) : Okr (iRange [.int ((m : Nat) + 1 : Int)] k) (.lst ((List.range (m + 1)).map fun i => .int (i : Nat)), 0) := ⟨_, rfl, by omega, by show _ <= ((40000 : Nat) : Int); omega, True.intro⟩
theorem sum_q (ms : List Int) : Okr (bSum [.lst (ms.map D.int)]) (.int ms.sum, 0) := by
  unfold bSum
  dsimp only
  rw [intsOf_map]
  exact ⟨_, rfl, True.intro⟩
theorem mulS {a b : Nat} (h : a <= 20) : mulOk (a : Int) b := mulOk_l (by omega)
theorem ll_dr : ∀ l : List (List Nat), llessL (l.map dr) = true
  | [] => rfl
  | r :: l => by
    rw [List.map_cons, llessL, ll_dr l, Bool.and_true]
    show llessL (r.map fun x => D.int (x : Nat)) = true
    induction r with
    | nil => rfl
    | cons a r ih => rw [List.map_cons, llessL, ih]; rfl
end K
set_option Elab.async false
set_option linter.all false
set_option maxRecDepth 100000
namespace K
open PySem L2 Sp Qm
theorem sqs_app (r : List Nat) (p : Nat) : sqs (r ++ [p]) = sqs r + p * p := by
  induction r with
  | nil => show p * p + 0 = 0 + p * p; omega
  | cons x r ih => show x * x + sqs (r ++ [p]) = x * x + sqs r + p * p; rw [ih]; omega
theorem ext_cut {n m : Nat} (h : n <= m) (r : List Nat) : ext n r = (ext m r).filter fun r => decide (sqs r <= n) := by
  unfold ext
  rw [List.filter_map, List.filter_filter]
  congr 1
  apply List.filter_congr
  intro p _
  show decide (p * p + sqs r <= n) = (decide (sqs (r ++ [p]) <= n) && decide (p * p + sqs r <= m))
  rw [sqs_app, Bool.eq_iff_iff, Bool.and_eq_true, decide_eq_true_eq, decide_eq_true_eq, decide_eq_true_eq]
  omega
theorem ext_none {n : Nat} {r : List Nat} (h : n < sqs r) : ext n r = [] := by
  unfold ext
  rw [List.filter_eq_nil_iff.mpr, List.map_nil]
  intro p _
  rw [decide_eq_true_eq]
  have := Nat.zero_le (p * p)
  omega
theorem flat_cut {n m : Nat} (h : n <= m) : ∀ rs : List (List Nat), (rs.filter fun r => decide (sqs r <= n)).flatMap (ext n) = (rs.flatMap (ext m)).filter fun r => decide (sqs r <= n)
  | [] => rfl
  | r :: rs => by
    rw [List.flatMap_cons, List.filter_append, <- flat_cut h rs, List.filter_cons, <- ext_cut h r]
    by_cases hr : sqs r <= n
    . rw [if_pos (decide_eq_true hr), List.flatMap_cons]
    . rw [if_neg (by rw [decide_eq_true_eq]; exact hr), ext_none (by omega), List.nil_append]
theorem rws_cut {n m : Nat} (h : n <= m) : ∀ k, rws n k = (rws m k).filter fun r => decide (sqs r <= n)
  | 0 => by
    show [[]] = List.filter _ [[]]
    rw [List.filter_cons, if_pos (decide_eq_true (show sqs [] <= n from Nat.zero_le n))]; rfl
  | k + 1 => by
    show lng n (rws n k) = (lng m (rws m k)).filter _
    rw [rws_cut h k]
    exact flat_cut h _
theorem ways_cut {n : Nat} (h : n <= 400) : ((rws n 4).filter fun r => decide (sqs r = n)) = (rws 400 4).filter fun r => decide (sqs r = n) := by
  rw [rws_cut h, List.filter_filter]
  apply List.filter_congr
  intro r _
  rw [Bool.eq_iff_iff, Bool.and_eq_true, decide_eq_true_eq, decide_eq_true_eq]
  omega
end K
set_option Elab.async false
set_option linter.all false
set_option maxRecDepth 100000
namespace Sp
open PySem PySem.Spec PyProof.Rows L2
variable {X : Cx}
end Sp
set_option Elab.async false
set_option linter.all false
set_option maxRecDepth 100000
namespace Sp
open PySem PySem.Spec PyProof.Rows L2
variable {X : Cx}
end Sp
set_option Elab.async false
set_option linter.all false
set_option maxRecDepth 100000
namespace Sp
open PySem PySem.Spec PyProof.Rows L2
section
variable {prog : Program} {w : World} {A : Around} {E : Value -> Shared -> Prop} {s : Shared}
end
variable {X : Cx}
end Sp
set_option Elab.async false
set_option linter.all false
set_option maxRecDepth 100000
namespace Sp
open PySem PySem.Spec PyProof.Rows L2
variable {X : Cx}
end Sp
set_option Elab.async false
set_option linter.all false
set_option maxRecDepth 100000
namespace Sp
open PySem PySem.Spec PyProof.Rows L2
end Sp
set_option Elab.async false
set_option linter.all false
set_option maxRecDepth 100000
namespace Sp
open PySem PySem.Spec PyProof.Rows L2
def insN (x : Int) : List Int -> List Int
  | [] => [x]
  | y :: l => if x <= y then x :: y :: l else y :: insN x l
def srtN : List Int -> List Int
  | [] => []
  | x :: l => insN x (srtN l)
theorem insN_perm (x : Int) : ∀ l : List Int, (insN x l).Perm (x :: l)
  | [] => List.Perm.refl _
  | y :: l => by
    rw [insN]
    split
    . exact List.Perm.refl _
    . exact ((insN_perm x l).cons y).trans (List.Perm.swap x y l)
theorem srtN_perm : ∀ l : List Int, (srtN l).Perm l
  | [] => List.Perm.refl _
  | x :: l => (insN_perm x (srtN l)).trans ((srtN_perm l).cons x)
theorem insN_ord (x : Int) : ∀ {l : List Int}, l.Pairwise (· <= ·) -> (insN x l).Pairwise (· <= ·)
  | [], _ => List.pairwise_singleton _ _
  | y :: l, h => by
    rw [insN]
    have hh := List.pairwise_cons.mp h
    split
    . rename_i hxy
      exact List.pairwise_cons.mpr ⟨fun z hz => by
        rcases List.mem_cons.mp hz with rfl | hz
        . exact hxy
        . exact Int.le_trans hxy (hh.1 z hz), h⟩
    . rename_i hxy
      refine List.pairwise_cons.mpr ⟨fun z hz => ?_, insN_ord x hh.2⟩
      rcases List.mem_cons.mp ((insN_perm x l).mem_iff.mp hz) with rfl | hz
      . omega
      . exact hh.1 z hz
theorem srtN_ord : ∀ l : List Int, (srtN l).Pairwise (· <= ·)
  | [] => List.Pairwise.nil
  | x :: l => insN_ord x (srtN_ord l)
theorem ord_uniq : ∀ {a b : List Int}, a.Perm b -> a.Pairwise (· <= ·) -> b.Pairwise (· <= ·) -> a = b
  | [], b, p, _, _ => by rw [List.nil_perm.mp p]
  | x :: a, [], p, _, _ => by have := p.length_eq; cases this
  | x :: a, y :: b, p, ha, hb => by
    have h1 := List.pairwise_cons.mp ha
    have h2 := List.pairwise_cons.mp hb
    have e : x = y := by
      have i1 : x ∈ y :: b := p.mem_iff.mp List.mem_cons_self
      have i2 : y ∈ x :: a := p.mem_iff.mpr List.mem_cons_self
      rcases List.mem_cons.mp i1 with e | i1
      . exact e
      . rcases List.mem_cons.mp i2 with e | i2
        . exact e.symm
        . have := h1.1 y i2; have := h2.1 x i1; omega
    subst e
    rw [ord_uniq ((List.perm_cons x).mp p) h1.2 h2.2]
theorem srtN_uniq {a ns : List Int} (p : a.Perm ns) (h : a.Pairwise (· <= ·)) : a = srtN ns := ord_uniq (p.trans (srtN_perm ns).symm) h (srtN_ord ns)
theorem srtN_len (ns : List Int) : (srtN ns).length = ns.length := (srtN_perm ns).length_eq
theorem ints_are : ∀ {ns : List Int} {us : List Value}, Vals (ns.map V.int) us -> IntsAre us ns
  | [], us, h => by cases h; exact .nil
  | n :: ns, us, h => by
    cases h with
    | cons r1 r2 => obtain ⟨t, rfl⟩ := r1; exact .cons n t (ints_are r2)
theorem are_ints : ∀ {ns : List Int} {us : List Value}, IntsAre us ns -> Vals (ns.map V.int) us
  | _, _, .nil => .nil
  | _, _, .cons n t h => .cons ⟨t, rfl⟩ (are_ints h)
theorem repl_ints {K : PySem.W.Frag} {H : Hp} {P : AP2} : ∀ {ns : List Int} {vs : List V}, RepL K H P (ns.map D.int) vs -> vs = ns.map V.int
  | [], vs, h => by rw [List.map_nil, RepL] at h; exact h
  | n :: ns, vs, h => by
    rw [List.map_cons, RepL] at h
    obtain ⟨v, r, rfl, h1, h2⟩ := h
    rw [Rep] at h1
    rw [repl_ints h2, h1]; rfl
theorem ints_repl {K : PySem.W.Frag} {H : Hp} {P : AP2} : ∀ ns : List Int, RepL K H P (ns.map D.int) (ns.map V.int)
  | [] => RepL.nil
  | n :: ns => RepL.cons (by rw [Rep]) (ints_repl ns)
variable {X : Cx}
def kwOf (b : Bool) (n0 : Nat) (p0 kp : Pos) : List Keyword := cond b [⟨some (Str.ofString "reverse"), .Constant (.bool true) n0 p0, kp⟩] []
def srtB (b : Bool) (ns : List Int) : List Int := cond b (srtN ns).reverse (srtN ns)
theorem ed_srt {ρ : Rho} {e : Expr} {f : Str} {p t p0 kp : Pos} {n0 : Nat} {ns : List Int} {k : Nat} (b : Bool) (hf : f = "sorted") (gf : Gl X f) (mf : X.mg f = none)
    (h : AD X ρ [e] [.lst (ns.map D.int)] k) (hst : ∀ y ∈ [e], ∀ x p, y ≠ .Starred x p) (hn : ns.length < 64) : ED X ρ (.Call (.Name f p) [e] (kwOf b n0 p0 kp) t) (.lst ((srtB b ns).map D.int)) 0 := by
  intro ow pins s σ H Q I ⟨E, qq⟩
  subst hf
  refine wpAny_Call_Name_kw (ld_blt I gf mf (u := .builtin "sorted") (by decide +kernel) ?_ (by decide +kernel) (by decide +kernel))
  have n1 := nostar_one (env := X.env) (es := []) (hst e List.mem_cons_self)
  have n3 : starEach [e] X.env = (false, eval e X.env) :: starEach [] X.env := n1
  have key : ∀ (us : List Value) (s1 : Shared), (∃ vs H1, Inv X pins σ H1 s1 /\ Vals vs us /\ Same H H1 /\ RepL X.K H1 (Kp ow H k) [.lst (ns.map D.int)] vs) -> wpAny (model X.prog X.w) X.A (call (.builtin "sorted") us (cond b [(Str.ofString "reverse", .bool true)] [])) (fun v s2 => ∃ x H2, Inv X pins σ H2 s2 /\ RelV x v /\ Q x H2) X.xe s1 := by
    rintro us s1 ⟨vs, H1, I1, rv, sm, rp⟩
    obtain ⟨v, rfl, rv1⟩ := rp.only
    obtain ⟨a, xs, rfl, hq, rl, hk1⟩ := sqk_of (κ := false) rv1
    replace hq : SqL X.K H1 a xs := hq
    obtain ⟨u, rfl, ru⟩ := vals1 rv
    cases (show u = Value.ref a from ru)
    obtain ⟨its, rvs, pt, hz⟩ := I1.list hq
    have pl := pt.isList
    have ex := repl_ints rl
    subst ex
    have hI := ints_are rvs
    have el := rvs.length
    rw [List.length_map] at el
    obtain ⟨hp, gs, dr, tk, os⟩ := s1
    have fin : ∀ (out : Array Value) (ns' : List Int), IntsAre out.toList ns' -> ns' = srtB b ns -> ∃ x H2, Inv X pins σ H2 ⟨sortedAll hp its out, gs, dr, tk, os⟩ /\ RelV x (.ref (hp.objs.size + 1)) /\ Q x H2 := by
      intro out ns' a1 e1
      subst e1
      obtain ⟨m, S3⟩ := sortedAll_at hp its out
      have kk : ∀ b o, hp.get? b = some o -> (sortedAll hp its out).get? b = some o := fun b o e => sortedAll_old e
      generalize sortedAll hp its out = h3 at *
      have fr : ∀ j : Nat, H1 (hp.objs.size + j) = none := fun j => I1.hok.fresh (Nat.le_add_right _ _)
      generalize hn' : hp.objs.size = n at *
      have hk0 : HOk X.prog X.w H1 h3 := I1.hok.kept kk
      have lb : (srtB b ns).length = ns.length := by cases b <;> simp [srtB, srtN_len]
      have ob : ObjOk X.prog X.w (upd H1 (n + 1) (.lst ((srtB b ns).map V.int))) h3 (n + 1) (.lst ((srtB b ns).map V.int)) := ⟨by rw [List.length_map, lb, <- List.length_map (f := V.int)]; exact hz, out.toList, m, are_ints a1, by rw [Array.toArray_toList]; exact S3⟩
      have hk1 := hok_more hk0 (fr 1) ob
      generalize hH : upd H1 (n + 1) (.lst ((srtB b ns).map V.int)) = H4 at hk1
      have g6 : H4 (n + 1) = some (.lst ((srtB b ns).map V.int)) := by rw [<- hH]; exact upd_same
      have old : ∀ c : Nat, c < n -> H4 c = H1 c := fun c hc => by rw [<- hH, upd_ne (by show (c : Nat) ≠ n + 1; omega)]
      have inn : ∀ (c : Nat) o, H1 c = some o -> c < n := fun c o e => by
        rcases Nat.lt_or_ge c n with z | z
        . exact z
        . have := fr (c - n); rw [Nat.add_sub_cancel' z] at this; rw [this] at e; cases e
      have s4 : Same H1 H4 := fun c o e => (old c (inn c o e)).trans e
      have I4 : Inv X pins σ H4 ⟨h3, gs, dr, tk, os⟩ := I1.un (t' := tk) (un_more kk (fun c hc => old c (by rw [<- hn']; exact hc)) fun c o e => by rw [hn']; exact inn c o e) hk1
      refine ⟨.ref (n + 1), H4, I4, rfl, qq _ H4 (sm.trans s4) ?_⟩
      rw [Rep]
      exact ⟨n + 1, _, true, rfl, g6, ⟨rfl, sm.free (fr 1)⟩, ints_repl _⟩
    cases b with
    | false => exact sorted_ints pl hI (by omega) fun out ns' a1 a2 a3 => fin out ns' a1 (srtN_uniq a2 a3)
    | true =>
      refine sorted_ints_rev (b := true) pl hI (by omega) fun out ns' a1 a2 a3 => fin out ns' a1 ?_
      have a3 : ns'.Pairwise (· >= ·) := a3
      have := srtN_uniq (a := ns'.reverse) ((List.reverse_perm ns').trans a2) (List.pairwise_reverse.mpr a3)
      show ns' = (srtN ns).reverse
      rw [<- this, List.reverse_reverse]
  cases b with
  | false =>
    refine callWith_kw (kws := []) (thn (h ow t pins s σ H _ I ⟨E, fun vs H1 s1 r1 => (show (fun vs H1 => Same H H1 /\ RepL X.K H1 (Kp ow H k) [.lst (ns.map D.int)] vs) vs H1 from ⟨s1, r1⟩)⟩) fun us s1 ⟨vs, H1, I1, rv, sm, rp⟩ => kws_nil (key us s1 ⟨vs, H1, I1, rv, sm, rp⟩)) (by rw [n1]; rfl) (nostar_any fun x hx => hst x hx)
  | true =>
    refine callWith_kw (kws := [⟨some (Str.ofString "reverse"), .Constant (.bool true) n0 p0, kp⟩]) (thn (h ow t pins s σ H _ I ⟨E, fun vs H1 s1 r1 => (show (fun vs H1 => Same H H1 /\ RepL X.K H1 (Kp ow H k) [.lst (ns.map D.int)] vs) vs H1 from ⟨s1, r1⟩)⟩) fun us s1 ⟨vs, H1, I1, rv, sm, rp⟩ => kws_cons (wpAny_pure (kws_nil (key us s1 ⟨vs, H1, I1, rv, sm, rp⟩)))) (by rw [n1]; rfl) (nostar_any fun x hx => hst x hx)
end Sp
set_option Elab.async false
set_option linter.all false
set_option maxRecDepth 100000
namespace Sp
open PySem PySem.Spec PyProof.Rows L2
section
variable {prog : Program} {w : World} {A : Around} {E : Value -> Shared -> Prop} {s : Shared}
end
variable {X : Cx}
end Sp
set_option Elab.async false
set_option linter.all false
set_option maxRecDepth 100000
namespace Sp
open PySem PySem.Spec PyProof.Rows L2
inductive Xd (Φ : Fx) (sc : Scope) (ρ : Rho) : Expr -> D -> Prop where
  | ev {e : Expr} {d : D} (h : Okr (evE Φ e false sc ρ) (d, 0)) : Xd Φ sc ρ e d
  | lrev {e : Expr} {l : List D} {k : Nat} {f g : Str} {p q r t : Pos} (h : Okr (evEs Φ [e] sc ρ) ([.lst l], k)) (fl : llessL l = true) (hf : f = "list" := by rfl) (hg : g = "reversed" := by rfl) (gf : sc.names.lookup f = some .globalImplicit := by rfl) (gg : sc.names.lookup g = some .globalImplicit := by rfl) : Xd Φ sc ρ (.Call (.Name f p) [.Call (.Name g q) [e] [] r] [] t) (.lst l.reverse)
  | srt (b : Bool) {e : Expr} {ns : List Int} {k n0 : Nat} {f : Str} {p t p0 kp : Pos} (h : Okr (evEs Φ [e] sc ρ) ([.lst (ns.map D.int)], k)) (hn : ns.length < 64) (hf : f = "sorted" := by rfl) (gf : sc.names.lookup f = some .globalImplicit := by rfl) : Xd Φ sc ρ (.Call (.Name f p) [e] (kwOf b n0 p0 kp) t) (.lst ((srtB b ns).map D.int))
  | short {e : Expr} {l : List D} {k : Nat} {f : Str} {p t : Pos} (h : Okr (evEs Φ [e] sc ρ) ([.lst l], k)) (hn : l.length < 2) (fl : llessL l = true) (hf : f = "sorted" := by rfl) (gf : sc.names.lookup f = some .globalImplicit := by rfl) : Xd Φ sc ρ (.Call (.Name f p) [e] [] t) (.lst l)
  | pick4 {e1 e2 e3 e4 i : Expr} {d1 d2 d3 d4 d : D} {j : Int} {k : Nat} {lp p : Pos} (h1 : Xd Φ sc ρ e1 d1) (h2 : Xd Φ sc ρ e2 d2) (h3 : Xd Φ sc ρ e3 d3) (h4 : Xd Φ sc ρ e4 d4) (hi : Okr (evE Φ i false sc ρ) (.int j, k)) (ha : atI [d1, d2, d3, d4] j = some d) : Xd Φ sc ρ (.Subscript (.List [e1, e2, e3, e4] lp) i p) d
variable {X : Cx}
inductive Rn (Φ : Fx) (sc : Scope) : List Stmt -> Rho -> D -> Prop where
  | fin {ss : List Stmt} {ρ : Rho} {r : D} (h : Okr (exSs Φ ss sc ρ) (.rt r)) : Rn Φ sc ss ρ r
  | cut (n : Nat) {ss : List Stmt} {ρ ρ1 : Rho} {r : D} (h : Okr (exSs Φ (ss.take n) sc ρ) (.nx ρ1)) (k : Rn Φ sc (ss.drop n) ρ1 r) : Rn Φ sc ss ρ r
  | dem {ss : List Stmt} {ρ : Rho} {r : D} (k : Rn Φ sc ss (demAll ρ) r) : Rn Φ sc ss ρ r
  | set {x : Str} {e : Expr} {px q : Pos} {ss : List Stmt} {ρ : Rho} {d r : D} (h : Xd Φ sc ρ e d) (k : Rn Φ sc ss (putR ρ x (d, true)) r) (hx : locK sc x = true := by rfl) (hc : isComp e = false := by rfl) : Rn Φ sc (.Assign [.Name x px] e q :: ss) ρ r
end Sp
set_option Elab.async false
set_option linter.all false
set_option maxRecDepth 100000
namespace Sp
open PySem PySem.Spec PyProof.Rows L2
variable {X : Cx}
def lsI (l : List Int) : D := .lst (l.map D.int)
def dropR (ρ : Rho) (x : Str) : Rho := fun y => if y = x then none else ρ y
end Sp
set_option Elab.async false
set_option linter.all false
set_option maxRecDepth 100000
namespace Sp
open PySem PySem.Spec PyProof.Rows L2
variable {X : Cx}
def ChS (X : Cx) (H0 : Hp) (tg : Expr) (body : List Stmt) : List D -> Rho -> Fl -> Prop
  | [], ρ, fl => fl = .nx ρ
  | d :: ds, ρ, fl => ∃ ρ1, GD X ρ tg d ρ1 /\ ((∃ ρ2, SsD X H0 ρ1 body (.nx ρ2) /\ ChS X H0 tg body ds ρ2 fl) \/ ∃ r, fl = .rt r /\ SsD X H0 ρ1 body (.rt r))
theorem sd_forC {H0 : Hp} {ρ : Rho} {tg iter : Expr} {body : List Stmt} {pos : Pos} {ds : List D} {k : Nat} {fl : Fl} (hp : PassesOwn (model X.prog X.w) X.A X.env X.xe) (hcalm : X.calm = true)
    (hi : IE X (demote iter ρ) tg iter ds k) (hk : k <= 1) (h : ChS X H0 tg body ds (demote iter ρ) fl)
    (hs : ∀ x, foldedSetIterable iter X.env x = pure x) : SD X H0 ρ (.For tg iter body [] pos) fl := by
  intro pins s σ H D0 I ⟨ow0, E0, hl, B0, q0⟩
  obtain ⟨ow, E, k0⟩ := env_demote (e := iter) E0
  have B := B0.keep k0
  have q := q0.keep k0
  have pb : PSs X body (fun D σ H => ∃ ρ fl, SsD X H0 ρ body fl /\ tSD X H0 ρ fl D σ H) := fun pins s σ H D I ⟨ρ1, fl1, h1, h2⟩ => h1 pins s σ H D I h2
  have pg : PG X tg (fun v σ H Q => ∃ g : TG, PG X tg g /\ g v σ H Q) := fun pins s σ H v u Q I r ⟨g, h1, h2⟩ => h1 pins s σ H v u Q I r h2
  refine ps_for hp hcalm (hi ow) pg pb hs pins s σ H D0 I ⟨E, fun J H1 s1 itd => ?_⟩
  refine ⟨fun i m σ' H' => m = ds.length - i /\ i <= ds.length /\ ∃ ow' ρ', EnvOk X ow' H' σ' ρ' /\ σ'.length = X.N.length /\ BaseOk H0 ow' H' /\ Keep ow H1 ow' H' /\ ChS X H0 tg body (ds.drop i) ρ' fl,
    ⟨ds.length, by simp, Nat.zero_le _, ow, _, E.same s1, hl, B.keep (Keep.same s1), Keep.refl _ _, h⟩, ?_⟩
  rintro i m σ' H' ⟨rfl, hile, ow', ρ', E', hl', B', k', hf⟩
  have q' : Post X H0 ow' H' fl D0 := q.keep ((Keep.same s1).trans k')
  have st : Stay (Kd ow H k H1) (Kd ow H k H1) H1 H' := ⟨fun a o ha hn => k'.keep a o ha (.inl hn), fun a vs ha p => k'.keep a _ ha (.inr (kp_shared E.own hk p.1)), fun _ _ _ p => p, fun _ p => p⟩
  have it := itd i H' st
  by_cases hlt : i < ds.length
  . obtain ⟨go, yl⟩ := it.1 ds[i] (List.getElem?_eq_getElem hlt)
    have hdrop : ds.drop i = ds[i] :: ds.drop (i + 1) := List.drop_eq_getElem_cons hlt
    rw [hdrop] at hf
    refine .inr ⟨go, fun σ2 H2 => i + 1 <= ds.length /\ ∃ ow2 ρ2, EnvOk X ow2 H2 σ2 ρ2 /\ σ2.length = X.N.length /\ BaseOk H0 ow2 H2 /\ Keep ow H1 ow2 H2 /\ ChS X H0 tg body (ds.drop (i + 1)) ρ2 fl, fun σ2 H2 n => ⟨ds.length - (i + 1), by omega, rfl, n.1, n.2⟩, fun x H3 y3 => ?_⟩
    obtain ⟨sm3, rx⟩ := yl x H3 y3
    obtain ⟨ρ1, ⟨g, g1, g2⟩, hf⟩ := hf
    have rx' : Rep X.K H3 (fun a b => b = true -> ow' a = none) ds[i] x := rx.impH (fun a o ha p _ => by
      obtain ⟨o1, h1⟩ := p.2 rfl
      exact k'.low a o1 h1 (kp_shared E.own hk p.1)) fun a _ z => (by cases z)
    refine ⟨g, g1, g2 ow' x σ' H3 _ hl' (E'.same sm3) rx' fun σ2 hl2 E2 => ?_⟩
    have k3 : Keep ow' H' ow' H3 := Keep.same sm3
    rcases hf with ⟨ρ2, hb, hf⟩ | ⟨r, rfl, hb⟩
    . exact ⟨ρ1, .nx ρ2, hb, ow', E2, hl2, B'.keep k3, fun ow2 σ3 H4 a b c => ⟨hlt, ow2, ρ2, a, b, (B'.keep k3).keep c, k'.trans (k3.trans c), hf⟩⟩
    . exact ⟨ρ1, .rt r, hb, ow', E2, hl2, B'.keep k3, q'⟩
  . have ei : i = ds.length := by omega
    subst ei
    rw [List.drop_length] at hf
    cases (show fl = .nx ρ' from hf)
    exact .inl ⟨it.2 (Nat.le_refl _), q' ow' σ' H' E' hl' (Keep.refl _ _)⟩
inductive Rp (Φ : Fx) (sc : Scope) (tg c : Expr) : List D -> Rho -> Rho -> Prop where
  | nil {ρ : Rho} : Rp Φ sc tg c [] ρ ρ
  | cons {d : D} {ds : List D} {ρ ρ1 ρ' : Rho} {k : Nat} (hb : bindG sc tg d ρ = some ρ1) (hc : Okr (evE Φ c false sc ρ1) (.bl false, k)) (h : Rp Φ sc tg c ds ρ1 ρ') : Rp Φ sc tg c (d :: ds) ρ ρ'
inductive Xo (Φ : Fx) (sc : Scope) (ρ : Rho) : Option Expr -> Option Int -> Prop where
  | no : Xo Φ sc ρ none none
  | yes {e : Expr} {i : Int} {k : Nat} (h : Okr (evE Φ e false sc ρ) (.int i, k)) : Xo Φ sc ρ (some e) (some i)
inductive Xsh (Φ : Fx) (sc : Scope) (ρ : Rho) : Expr -> D -> Prop where
  | name {x : Str} {p : Pos} {m : List D} (h : ρ x = some (.lst m, false)) (hx : okN x = true) : Xsh Φ sc ρ (.Name x p) (.lst m)
  | cut {e : Expr} {lo hi : Option Expr} {l h : Option Int} {m : List D} {p2 p : Pos} (he : Xsh Φ sc ρ e (.lst m)) (hl : Xo Φ sc ρ lo l) (hh : Xo Φ sc ρ hi h) : Xsh Φ sc ρ (.Subscript e (.Slice lo hi none p2) p) (.lst (cutD m l h))
  | cat {a b : Expr} {l m : List D} {p : Pos} (ha : Xsh Φ sc ρ a (.lst l)) (hb : Xsh Φ sc ρ b (.lst m)) (hn : l.length + m.length <= many) : Xsh Φ sc ρ (.BinOp a .Add b p) (.lst (l ++ m))
mutual
inductive Rf (Φ : Fx) (sc : Scope) : List Stmt -> Rho -> Fl -> Prop where
  | base {ss : List Stmt} {ρ : Rho} {fl : Fl} (h : Okr (exSs Φ ss sc ρ) fl) : Rf Φ sc ss ρ fl
  | cut (n : Nat) {ss : List Stmt} {ρ ρ1 : Rho} {fl : Fl} (h : Okr (exSs Φ (ss.take n) sc ρ) (.nx ρ1)) (k : Rf Φ sc (ss.drop n) ρ1 fl) : Rf Φ sc ss ρ fl
  | seq {s : Stmt} {ss : List Stmt} {ρ ρ1 : Rho} {fl : Fl} (h : R1s Φ sc s ρ (.nx ρ1)) (k : Rf Φ sc ss ρ1 fl) : Rf Φ sc (s :: ss) ρ fl
  | stop {s : Stmt} {ss : List Stmt} {ρ : Rho} {r : D} (h : R1s Φ sc s ρ (.rt r)) : Rf Φ sc (s :: ss) ρ (.rt r)
  | dem {ss : List Stmt} {ρ : Rho} {fl : Fl} (k : Rf Φ sc ss (demAll ρ) fl) : Rf Φ sc ss ρ fl
inductive R1s (Φ : Fx) (sc : Scope) : Stmt -> Rho -> Fl -> Prop where
  | set {x : Str} {e : Expr} {px q : Pos} {ρ : Rho} {d : D} (h : Xd Φ sc ρ e d) (hx : locK sc x = true) (hc : isComp e = false) : R1s Φ sc (.Assign [.Name x px] e q) ρ (.nx (putR ρ x (d, true)))
  | setS {x : Str} {e : Expr} {px q : Pos} {ρ : Rho} {d : D} (h : Xsh Φ sc ρ e d) (hx : locK sc x = true) : R1s Φ sc (.Assign [.Name x px] e q) ρ (.nx (putR ρ x (d, false)))
  | app1 {x m : Str} {M : List D -> List D -> Nat -> Rs (List D)} {i e : Expr} {p1 p2 ap cp p4 : Pos} {ρ : Rho} {dt l l' : List D} {d : D} {j : Int} {k ki : Nat} (hM : Φ.mtt m = some M) (hx : ρ x = some (.tup dt, true)) (hi : Okr (evE Φ i false sc ρ) (.int j, ki)) (hs : PlainIx i) (hat : L2.atI dt j = some (.lst l)) (h : Okr (evEs Φ [e] sc ρ) ([d], k)) (hn : okN x = true) (hln : (ap.endLine == cp.line) = true) (hm : Okr (M l [d] k) l') :
    R1s Φ sc (.Expr (.Call (.Attribute (.Subscript (.Name x p1) i p2) m ap) [e] [] cp) p4) ρ (.nx (dropR ρ x))
  | sto2 {x : Str} {e i m : Expr} {p1 p2 p3 pos : Pos} {ρ : Rho} {Ls : List (List Int)} {l : List Int} {j jm v : Int} {n nm k k1 k2 : Nat} (hx : ρ x = some (.lst (Ls.map lsI), true)) (h : Okr (evE Φ e false sc ρ) (.int v, k)) (hi : Okr (evE Φ i false sc ρ) (.int j, k1)) (hm : Okr (evE Φ m false sc ρ) (.int jm, k2)) (hn : okN x = true)
    (h1 : ixN Ls.length j = some n) (h2 : Ls[n]? = some l) (h3 : ixN l.length jm = some nm) (hd : ∀ a y, Ls[a]? = some y -> a ≠ n -> y ≠ l) (hs : PlainIx i) (hsl : ∀ a b c p, m ≠ .Slice a b c p) :
    R1s Φ sc (.Assign [.Subscript (.Subscript (.Name x p1) i p2) m p3] e pos) ρ (.nx (putR ρ x (.lst ((Ls.set n (l.set nm v)).map lsI), true)))
  | ret {e : Expr} {q : Pos} {ρ : Rho} {d : D} (h : Xd Φ sc ρ e d) : R1s Φ sc (.Return (some e) q) ρ (.rt d)
  | iff {c : Expr} {a b : List Stmt} {pos : Pos} {ρ : Rho} {t : Bool} {k : Nat} {fl : Fl} (hc : Okr (evE Φ c false sc ρ) (.bl t, k)) (h : Rf Φ sc (cond t a b) ρ fl) : R1s Φ sc (.If c a b pos) ρ fl
  | forC {tg it : Expr} {body : List Stmt} {pos : Pos} {ρ : Rho} {d : D} {ds : List D} {k : Nat} {fl : Fl} (hi : Okr (evE Φ it true sc (demote it ρ)) (d, k)) (hd : items d = some ds) (hk : k <= 1) (ht : tgOk it tg = true) (h : Rc Φ sc tg body ds (demote it ρ) fl) : R1s Φ sc (.For tg it body [] pos) ρ fl
  | forP {tg it c : Expr} {a : List Stmt} {pos q : Pos} {ρ ρ' : Rho} {d : D} {ds : List D} {k : Nat} (hi : Okr (evE Φ it true sc ρ) (d, k)) (hd : items d = some ds) (hl : llessL ds = true) (ht : tgOk it tg = true) (h : Rp Φ sc tg c ds ρ ρ') : R1s Φ sc (.For tg it [.If c a [] q] [] pos) ρ (.nx ρ')
inductive Rc (Φ : Fx) (sc : Scope) : Expr -> List Stmt -> List D -> Rho -> Fl -> Prop where
  | nil {tg : Expr} {body : List Stmt} {ρ : Rho} : Rc Φ sc tg body [] ρ (.nx ρ)
  | cons {tg : Expr} {body : List Stmt} {d : D} {ds : List D} {ρ ρ1 ρ2 : Rho} {fl : Fl} (hb : bindG sc tg d ρ = some ρ1) (h : Rf Φ sc body ρ1 (.nx ρ2)) (k : Rc Φ sc tg body ds ρ2 fl) : Rc Φ sc tg body (d :: ds) ρ fl
  | stop {tg : Expr} {body : List Stmt} {d : D} {ds : List D} {ρ ρ1 : Rho} {r : D} (hb : bindG sc tg d ρ = some ρ1) (h : Rf Φ sc body ρ1 (.rt r)) : Rc Φ sc tg body (d :: ds) ρ (.rt r)
end
end Sp
set_option Elab.async false
set_option linter.all false
set_option maxRecDepth 100000
namespace Sp
open PySem PySem.Spec PyProof.Rows L2
end Sp
set_option Elab.async false
set_option linter.all false
set_option maxRecDepth 100000
namespace K
open PySem L2 Sp Qm
theorem mem_rws {n k p : Nat} {r : List Nat} (h : r ∈ rws n k) (h1 : p <= mst r) (h2 : p * p + sqs r <= n) : r ++ [p] ∈ rws n (k + 1) := by
  rw [rws, lng, List.mem_flatMap]
  refine ⟨r, h, ?_⟩
  unfold ext
  exact List.mem_map.mpr ⟨p, List.mem_filter.mpr ⟨List.mem_range.mpr (by omega), decide_eq_true h2⟩, rfl⟩
theorem mem4 {n a b c d : Nat} (ha : a <= 20) (hb : b <= a) (hc : c <= b) (hd : d <= c) (h : sqs [a, b, c, d] <= n) : [a, b, c, d] ∈ rws n 4 := by
  have h' : a * a + (b * b + (c * c + (d * d + 0))) <= n := h
  have h0 : [] ∈ rws n 0 := List.mem_singleton.mpr rfl
  have h1 := mem_rws (p := a) h0 ha (by show a * a + 0 <= n; omega)
  have h2 := mem_rws (p := b) h1 hb (by show b * b + (a * a + 0) <= n; omega)
  have h3 := mem_rws (p := c) h2 hc (by show c * c + (a * a + (b * b + 0)) <= n; omega)
  exact mem_rws (p := d) h3 hd (by show d * d + (a * a + (b * b + (c * c + 0))) <= n; omega)
def tb4 : List Nat := [0, 9261, 9702, 9723, 18522, 18963, 18984, 18985, 19404, 27783, 28224, 28245, 28246, 28665, 28686, 28687, 37044, 37485, 37506, 37507, 37926, 37947, 37948, 29149, 37968, 46305, 46746, 46767, 46768, 47187, 47208, 47209, 38808, 47229, 47628, 47649, 55566, 56007, 56028, 56029, 56448, 56469, 56470, 48091, 56490, 56889, 56910, 56911, 56492, 64827, 65268, 65289, 65290, 65709, 65730, 65731, 57372, 65751, 66150, 66171, 66172, 65753, 66192, 66193, 74088, 74529, 74550, 74551, 74970, 74991, 74992, 66215, 75012, 75411, 75432, 75433, 75014, 75453, 75454, 67075, 75852, 83349, 83790, 83811, 83812, 84231, 84252, 84253, 75896, 84273, 84672, 84693, 84694, 84275, 84714, 84715, 75936, 85113, 85134, 85135, 92610, 93051, 93072, 93073, 93492, 93513, 93514, 85575, 93534, 93933, 93954, 93955, 93536, 93975, 93976, 85617, 94374, 94395, 94396, 93997, 94416, 101871, 102312, 102333, 102334, 102753, 102774, 102775, 77616, 102795, 103194, 103215, 103216, 102797, 103236, 103237, 95256, 103635, 103656, 103657, 103258, 103677, 103678, 103259, 111132, 111573, 111594, 111595, 112014, 112035, 112036, 104119, 112056, 112455, 112476, 112477, 112058, 112497, 112498, 104539, 112896, 112917, 112918, 112519, 112938, 112939, 112520, 104581, 112940, 120393, 120834, 120855, 120856, 121275, 121296, 121297, 112980, 121317, 121716, 121737, 121738, 121319, 121758, 121759, 113820, 122157, 122178, 122179, 121780, 122199, 122200, 121781, 112984, 122201, 122598, 122619, 129654, 130095, 130116, 130117, 130536, 130557, 130558, 122661, 130578, 130977, 130998, 130999, 130580, 131019, 131020, 122683, 131418, 131439, 131440, 131041, 131460, 131461, 131042, 123501, 131462, 131859, 131880, 131881, 114744, 138915, 139356, 139377, 139378, 139797, 139818, 139819, 132300, 139839, 140238, 140259, 140260, 139841, 140280, 140281, 132344, 140679, 140700, 140701, 140302, 140721, 140722, 140303, 132384, 140723, 141120, 141141, 141142, 132785, 141162, 141163, 148176, 148617, 148638, 148639, 149058, 149079, 149080, 141583, 149100, 149499, 149520, 149521, 149102, 149541, 149542, 141625, 149940, 149961, 149962, 149563, 149982, 149983, 149564, 142045, 149984, 150381, 150402, 150403, 142066, 150423, 150424, 142067, 150024, 157437, 157878, 157899, 157900, 158319, 158340, 158341, 150864, 158361, 158760, 158781, 158782, 158363, 158802, 158803, 150028, 159201, 159222, 159223, 158824, 159243, 159244, 158825, 150908, 159245, 159642, 159663, 159664, 150927, 159684, 159685, 151704, 159285, 159686, 159705, 166698, 167139, 167160, 167161, 167580, 167601, 167602, 159727, 167622, 168021, 168042, 168043, 167624, 168063, 168064, 160545, 168462, 168483, 168484, 168085, 168504, 168505, 168086, 160587, 168506, 168903, 168924, 168925, 151792, 168945, 168946, 160987, 168546, 168947, 168966, 168967, 169344, 175959, 176400, 176421, 176422, 176841, 176862, 176863, 169388, 176883, 177282, 177303, 177304, 176885, 177324, 177325, 169428, 177723, 177744, 177745, 177346, 177765, 177766, 177347, 151872, 177767, 178164, 178185, 178186, 170247, 178206, 178207, 170268, 177807, 178208, 178227, 178228, 178605, 178626, 178627, 185220]
def dec4 (x : Nat) : Nat × Nat × Nat × Nat := (x / 9261, x / 441 % 21, x / 21 % 21, x % 21)
def ok4 (n : Nat) (q : Nat × Nat × Nat × Nat) : Bool := decide (q.1 <= 20) && decide (q.2.1 <= q.1) && decide (q.2.2.1 <= q.2.1) && decide (q.2.2.2 <= q.2.2.1) && decide (q.1 * q.1 + (q.2.1 * q.2.1 + (q.2.2.1 * q.2.2.1 + (q.2.2.2 * q.2.2.2 + 0))) = n)
def all4 : Nat -> List Nat -> Bool
  | _, [] => true
  | n, x :: l => ok4 n (dec4 x) && all4 (n + 1) l
theorem all4_t : all4 0 tb4 = true := by decide +kernel
theorem all4_at : ∀ {l : List Nat} {n i : Nat}, all4 n l = true -> i < l.length -> ∃ q, ok4 (n + i) q = true
  | x :: l, n, 0, h, _ => by rw [all4, Bool.and_eq_true] at h; exact ⟨_, h.1⟩
  | x :: l, n, i + 1, h, hi => by
    rw [all4, Bool.and_eq_true] at h
    obtain ⟨q, hq⟩ := all4_at (i := i) h.2 (by simpa using hi)
    exact ⟨q, by rw [show n + (i + 1) = n + 1 + i by omega]; exact hq⟩
theorem way_mem {n : Nat} (hn : n <= 400) : ∃ a b c d : Nat, [a, b, c, d] ∈ rws n 4 /\ sqs [a, b, c, d] = n := by
  obtain ⟨⟨a, b, c, d⟩, h⟩ := all4_at (i := n) all4_t (show n < 401 by omega)
  unfold ok4 at h
  simp only [Bool.and_eq_true, decide_eq_true_eq, Nat.zero_add] at h
  obtain ⟨⟨⟨⟨h1, h2⟩, h3⟩, h4⟩, h5⟩ := h
  exact ⟨a, b, c, d, mem4 h1 h2 h3 h4 (Nat.le_of_eq h5), h5⟩
theorem way_hd {n : Nat} (hn : n <= 400) : ∃ (r : List Nat) (rs : List (List Nat)), ((rws n 4).filter fun r => decide (sqs r = n)) = r :: rs /\ rok 4 r /\ sqs r = n := by
  obtain ⟨a, b, c, d, h1, h2⟩ := way_mem hn
  have hm : [a, b, c, d] ∈ (rws n 4).filter fun r => decide (sqs r = n) := List.mem_filter.mpr ⟨h1, decide_eq_true h2⟩
  cases e : (rws n 4).filter fun r => decide (sqs r = n) with
  | nil => rw [e] at hm; cases hm
  | cons r rs =>
    have hr : r ∈ (rws n 4).filter fun r => decide (sqs r = n) := by rw [e]; exact List.mem_cons_self
    obtain ⟨h3, h4⟩ := List.mem_filter.mp hr
    exact ⟨r, rs, rfl, rws_ok n 4 r h3, of_decide_eq_true h4⟩
def qN (r : List Nat) : Qd := ((r.getD 0 0 : Nat), (r.getD 1 0 : Nat), (r.getD 2 0 : Nat), (r.getD 3 0 : Nat))
theorem dr_q {r : List Nat} (h : rok 4 r) : dr r = dq (qN r) /\ sqQ (qN r) = sqs r /\ wdQ 5 (qN r) := by
  obtain ⟨h1, h2⟩ := h
  match r, h1 with
  | [a, b, c, d], _ =>
    have ha := h2 a (by simp); have hb := h2 b (by simp); have hc := h2 c (by simp); have hd := h2 d (by simp)
    refine ⟨rfl, ?_, by show (a : Int).natAbs < 32; omega, by show (b : Int).natAbs < 32; omega, by show (c : Int).natAbs < 32; omega, by show (d : Int).natAbs < 32; omega⟩
    show (a : Int) * a + ((b : Int) * b + ((c : Int) * c + ((d : Int) * d + 0))) = ((a * a + (b * b + (c * c + (d * d + 0))) : Nat) : Int)
    simp only [Int.natCast_add, Int.natCast_mul, Int.natCast_zero]
noncomputable def hdW (p : Nat) : Qd := qN (((rws p 4).filter fun r => decide (sqs r = p)).headD [])
theorem hdW_ok {p : Nat} (h : p <= 400) : (∃ rs, ((rws p 4).filter fun r => decide (sqs r = p)).map dr = dq (hdW p) :: rs) /\ sqQ (hdW p) = p /\ wdQ 5 (hdW p) := by
  obtain ⟨r, rs, e, h1, h2⟩ := way_hd h
  obtain ⟨g1, g2, g3⟩ := dr_q h1
  have eh : hdW p = qN r := by unfold hdW; rw [e]; rfl
  rw [eh, e]
  exact ⟨⟨rs.map dr, by rw [List.map_cons, g1]⟩, by rw [g2, h2], g3⟩
def rgh (G : Nat) : Prop := ∀ d, 2 <= d -> d < 400 -> ¬ d ∣ G
theorem rgh_cop {G t : Nat} (h : rgh G) (h1 : 2 <= t) (h2 : t < 400) : Nat.Coprime t G := by
  have g1 := Nat.gcd_dvd_left t G
  have g2 := Nat.gcd_dvd_right t G
  have g3 := Nat.le_of_dvd (by omega) g1
  have g4 : 0 < Nat.gcd t G := Nat.gcd_pos_of_pos_left _ (by omega)
  rcases Nat.lt_or_ge (Nat.gcd t G) 2 with q | q
  . show Nat.gcd t G = 1; omega
  . exact absurd g2 (h _ q (by omega))
def prN : List Nat -> Nat
  | [] => 1
  | x :: l => x * prN l
def sml (l : List Nat) : Prop := ∀ x ∈ l, 2 <= x /\ x < 400
theorem prN_app (l m : List Nat) : prN (l ++ m) = prN l * prN m := by
  induction l with
  | nil => simp [prN]
  | cons x l ih => show x * prN (l ++ m) = x * prN l * prN m; rw [ih, Nat.mul_assoc]
theorem prN_pos {l : List Nat} (h : sml l) : 0 < prN l := by
  induction l with
  | nil => exact Nat.one_pos
  | cons x l ih =>
    have := h x List.mem_cons_self
    exact Nat.mul_pos (by omega) (ih fun y hy => h y (List.mem_cons_of_mem _ hy))
theorem rgh_one {G : Nat} (h : rgh G) : ∀ {l : List Nat}, sml l -> G ∣ prN l -> G = 1
  | [], _, d => Nat.dvd_one.mp d
  | x :: l, s, d => by
    have hx := s x List.mem_cons_self
    exact rgh_one h (fun y hy => s y (List.mem_cons_of_mem _ hy)) ((Nat.coprime_comm.mp (rgh_cop h hx.1 hx.2)).dvd_of_dvd_mul_left d)
def lowF (t : Nat) (left : Int) : Prop := ∀ d : Nat, 2 <= d -> d < t -> ¬ (d : Int) ∣ left
structure SpI (n : Int) (told : List Nat) (left : Int) (m : Nat) : Prop where
  nz : left ≠ 0
  lt : left.natAbs < 2 ^ m
  ln : told.length + m <= 400
  sm : sml told
  pr : (prN told : Int) * left = n
theorem SpI.step {n left : Int} {told : List Nat} {m t : Nat} (h : SpI n told left m) (h1 : 2 <= t) (h2 : t < 400) (hd : left.fmod t = 0) : ∃ m', m = m' + 1 /\ SpI n (told ++ [t]) (left.fdiv t) m' /\ left = t * left.fdiv t := by
  have e : left = t * left.fdiv t := by have := Int.mul_fdiv_add_fmod left t; omega
  generalize left.fdiv t = q at *
  have q0 : q ≠ 0 := fun z => h.nz (by rw [e, z, Int.mul_zero])
  have en : left.natAbs = t * q.natAbs := by rw [e, Int.natAbs_mul]; rfl
  have qp : 0 < q.natAbs := by omega
  have l2 : 2 * q.natAbs <= left.natAbs := by rw [en]; exact Nat.mul_le_mul_right _ h1
  have hlt := h.lt
  match m, hlt with
  | 0, hlt => simp at hlt; omega
  | m + 1, hlt =>
    rw [Nat.pow_succ] at hlt
    refine ⟨m, rfl, ⟨q0, by omega, ?_, ?_, ?_⟩, e⟩
    . have := h.ln; rw [List.length_append]; simp only [List.length_cons, List.length_nil]; omega
    . intro x hx
      rcases List.mem_append.mp hx with z | z
      . exact h.sm x z
      . rw [List.mem_singleton] at z; subst z; exact ⟨h1, h2⟩
    . have := h.pr
      rw [prN_app, show prN [t] = t from Nat.mul_one t, Int.natCast_mul, Int.mul_assoc, <- e]; exact this
theorem lowF.div {t : Nat} {left q : Int} {s : Nat} (h : lowF t left) (e : left = s * q) : lowF t q := fun d h1 h2 hd => h d h1 h2 (by rw [e]; exact Int.dvd_mul_of_dvd_right hd)
theorem lowF.succ {t : Nat} {left : Int} (h : lowF t left) (hn : left.fmod t ≠ 0) : lowF (t + 1) left := fun d h1 h2 hd => by
  rcases Nat.lt_or_ge d t with q | q
  . exact h d h1 q hd
  . have : d = t := by omega
    subst this
    exact hn (Int.fmod_eq_zero_of_dvd hd)
theorem lowF.rgh {left : Int} (h : lowF 400 left) : rgh left.natAbs := fun d h1 h2 hd => h d h1 h2 (Int.ofNat_dvd_left.2 hd)
theorem SpI.fin1 {ps told : List Nat} {left : Int} {m : Nat} (hp : sml ps) (h : SpI (prN ps : Nat) told left m) (hl : lowF 400 left) : left = 1 := by
  have hd : left.natAbs ∣ prN ps := by
    have e := congrArg Int.natAbs h.pr
    rw [Int.natAbs_mul, Int.natAbs_natCast, Int.natAbs_natCast] at e
    rw [<- e]; exact Nat.dvd_mul_left _ _
  have h1 := rgh_one hl.rgh hp hd
  have p1 := prN_pos hp
  have p2 := prN_pos h.sm
  have e := h.pr
  rcases Int.natAbs_eq left with z | z
  . rw [h1] at z; exact z
  . rw [h1] at z; rw [z] at e; omega
theorem sq_fold {W : Nat -> Qd} : ∀ (l : List Nat) (r : Qd), (∀ x ∈ l, sqQ (W x) = x) -> sqQ ((l.map W).foldl plnQ r) = sqQ r * (prN l : Nat)
  | [], r, _ => by show sqQ r = sqQ r * 1; rw [Int.mul_one]
  | x :: l, r, h => by
    rw [List.map_cons, List.foldl_cons, sq_fold l _ fun y hy => h y (List.mem_cons_of_mem _ hy), sqQ_mul, h x List.mem_cons_self]
    show sqQ r * x * (prN l : Nat) = sqQ r * ((x * prN l : Nat) : Int)
    rw [Int.natCast_mul, Int.mul_assoc]
def kyN (l : List Nat) : List Key := l.map fun x : Nat => .inl (x : Int)
theorem has_ky (x : Nat) : ∀ l : List Nat, hasK (kyN l) (.inl (x : Int)) = decide (x ∈ l)
  | [] => rfl
  | y :: l => by
    show (decide ((Sum.inl (y : Int) : Key) = .inl (x : Int)) || hasK (kyN l) (.inl (x : Int))) = _
    rw [has_ky x l]
    by_cases e : y = x
    . subst e; rw [decide_eq_true rfl, Bool.true_or]; exact (decide_eq_true List.mem_cons_self).symm
    . rw [decide_eq_false (fun z => e (by have := Sum.inl.inj z; omega)), Bool.false_or]
      apply decide_eq_decide.mpr
      rw [List.mem_cons]
      exact ⟨.inr, fun z => z.resolve_left fun w => e w.symm⟩
theorem get_ky {f : Nat -> D} {x : Nat} : ∀ {l : List Nat}, x ∈ l -> dGet (kyN l) (l.map f) (.inl (x : Int)) = some (f x)
  | y :: l, h => by
    unfold dGet
    show Option.map _ (List.find? _ ((Sum.inl (y : Int), f y) :: (kyN l).zip (l.map f))) = _
    by_cases e : y = x
    . subst e; rw [List.find?_cons, decide_eq_true rfl]; rfl
    . rw [List.find?_cons, decide_eq_false (fun z => e (by have := Sum.inl.inj z; omega))]
      exact get_ky (List.mem_of_ne_of_mem (fun w => e w.symm) h)
theorem put_ky {f : Nat -> D} {x : Nat} {l : List Nat} (h : x ∉ l) : dPutK (kyN l) (.inl (x : Int)) = kyN (l ++ [x]) /\ dPutV (kyN l) (l.map f) (.inl (x : Int)) (f x) = (l ++ [x]).map f := by
  unfold dPutK dPutV
  rw [has_ky, decide_eq_false h]
  exact ⟨by rw [cond_false]; simp [kyN], by rw [cond_false, List.map_append]; rfl⟩
abbrev nD (l : List Nat) : List D := l.map fun x => .int (x : Nat)
theorem nD_app (l : List Nat) (x : Nat) : nD (l ++ [x]) = nD l ++ [.int (x : Nat)] := by unfold nD; rw [List.map_append]; rfl
section
variable {Φ : Fx} {sc : Scope} {ρ ρ1 : Rho} {ss : List Stmt} {P Q : Rho -> Prop}
theorem for_ax {tg it : Expr} {body : List Stmt} {p : Pos} {a n : Nat} (Inv : Nat -> Rho -> Prop) (hi : Okr (evE Φ it true sc (demote it ρ)) (.lst ((List.range n).map fun i => .int ((a + i : Nat) : Int)), 0)) (h0 : Inv a (demote it ρ))
    (step : ∀ i ρ, a <= i -> i < a + n -> Inv i ρ -> ∃ ρ1, bindG sc tg (.int (i : Nat)) ρ = some ρ1 /\ ∃ ρ2, Okr (exSs Φ body sc ρ1) (.nx ρ2) /\ Inv (i + 1) ρ2) (ht : tgOk it tg = true := by rfl) : ∃ ρ', Okr (exS Φ (.For tg it body [] p) sc ρ) (.nx ρ') /\ Inv (a + n) ρ' := by
  obtain ⟨ρ', h1, i, hi', e, h2⟩ := forD_inv (bind := bindG sc tg) (body := exSs Φ body sc) (fun rem ρ => ∃ i, i <= n /\ rem = (List.range' i (n - i)).map (fun i => D.int ((a + i : Nat) : Int)) /\ Inv (a + i) ρ) (fun d l ρ ⟨i, hi, e, h⟩ => by
    have hlt : i < n := by
      rcases Nat.lt_or_ge i n with h | h
      . exact h
      . rw [show n - i = 0 by omega] at e; cases e
    obtain ⟨m, hm⟩ : ∃ m, n - i = m + 1 := ⟨n - i - 1, by omega⟩
    rw [hm, List.range'_succ, List.map_cons] at e
    cases e
    obtain ⟨ρ1, h1, ρ2, h2, h3⟩ := step (a + i) ρ (by omega) (by omega) h
    exact ⟨ρ1, ρ2, h1, .inl h2, i + 1, hlt, by rw [show n - (i + 1) = m by omega], h3⟩) (ds := (List.range n).map fun i => D.int ((a + i : Nat) : Int)) ⟨0, Nat.zero_le _, by rw [List.range_eq_range']; simp, h0⟩
  refine ⟨ρ', ex_for hi rfl (Nat.zero_le 1) ht h1, ?_⟩
  have : i = n := by
    rcases Nat.lt_or_ge i n with h | h
    . obtain ⟨m, hm⟩ : ∃ m, n - i = m + 1 := ⟨n - i - 1, by omega⟩
      rw [hm, List.range'_succ] at e; cases e
    . omega
  exact this ▸ h2
theorem for_fm {α : Type} {h : α -> D} {tg it : Expr} {body : List Stmt} {p : Pos} {d : D} {k : Nat} (Inv : List α -> Rho -> Prop) (xs : List α) (hi : Okr (evE Φ it true sc (demote it ρ)) (d, k)) (hd : items d = some (xs.map h)) (h0 : Inv xs (demote it ρ))
    (step : ∀ x l ρ, Inv (x :: l) ρ -> ∃ ρ1, bindG sc tg (h x) ρ = some ρ1 /\ ∃ ρ2, Okr (exSs Φ body sc ρ1) (.nx ρ2) /\ Inv l ρ2) (hk : k <= 1 := by first | exact Nat.le_refl 1 | exact Nat.zero_le 1) (ht : tgOk it tg = true := by rfl) : ∃ ρ', Okr (exS Φ (.For tg it body [] p) sc ρ) (.nx ρ') /\ Inv [] ρ' := by
  obtain ⟨ρ', h1, l, e, h2⟩ := forD_inv (bind := bindG sc tg) (body := exSs Φ body sc) (fun rem ρ => ∃ l : List α, rem = l.map h /\ Inv l ρ) (fun d l ρ ⟨q, e, hq⟩ => by
    cases q with
    | nil => cases e
    | cons x q =>
      cases e
      obtain ⟨ρ1, h1, ρ2, h2, h3⟩ := step x q ρ hq
      exact ⟨ρ1, ρ2, h1, .inl h2, q, rfl, h3⟩) (ds := xs.map h) ⟨xs, rfl, h0⟩
  refine ⟨ρ', ex_for hi hd hk ht h1, ?_⟩
  cases l with
  | nil => exact h2
  | cons x l => cases e
theorem rng2 {b k : Nat} (h : b <= 700) : Okr (iRange [.int 2, .int (b : Nat)] k) (.lst ((List.range (b - 2)).map fun m => .int ((2 + m : Nat) : Int)), 0) := by
  have e : ((b : Int) - 2).toNat = b - 2 := by omega
  refine ⟨[(-4611686018427387904 : Int) <= 2, (2 : Int) <= 4611686018427387000, (-4611686018427387904 : Int) <= b, (b : Int) - 2 <= 800], ?_, by decide, by decide, by omega, by omega, True.intro⟩
  show Rs.ok (D.lst ((List.range ((b : Int) - 2).toNat).map fun m => D.int (2 + (m : Nat))), 0) _ = _
  rw [e]; rfl
end
end K
set_option Elab.async false
set_option linter.all false
set_option maxRecDepth 100000
namespace Sp
open PySem PySem.Spec PyProof.Rows L2
variable {X : Cx}
end Sp
set_option Elab.async false
set_option linter.all false
set_option maxRecDepth 100000
namespace Sp
open PySem PySem.Spec PyProof.Rows L2
variable {X : Cx}
end Sp
set_option Elab.async false
set_option linter.all false
set_option maxRecDepth 100000
namespace Sp
open PySem PySem.Spec PyProof.Rows L2
variable {X : Cx}
def cntI (ns : List Int) (i : Int) : Nat := ns.countP fun n => eqV (.int n) (.int i)
theorem cnt_vals {i : Int} : ∀ {ns : List Int} {its : List Value}, Vals (ns.map V.int) its -> its.countP (eqU (.int i)) = cntI ns i
  | [], _, .nil => rfl
  | n :: ns, _, .cons r t => by
    unfold cntI
    rw [List.countP_cons, List.countP_cons, cnt_vals t, eqU_of r rfl]
    rfl
theorem mt_count : MtR X "tuple.count" (fun x xs H Q => ∃ p ns i, x = .ref p /\ xs = [.int i] /\ SqT X.K H p (ns.map V.int) /\ Q (.int (cntI ns i : Nat)) H) := by
  intro pins s σ H x xs v us Q I rx rxs h
  obtain ⟨p, ns, i, rfl, rfl, sq, q⟩ := h
  cases rx
  obtain ⟨u, rfl, hu⟩ := vals1 rxs
  obtain ⟨t, rfl⟩ := hu
  obtain ⟨its, r, pl, hz⟩ := I.tuple sq
  obtain ⟨o, e, c1, n, c2⟩ := pl
  have e' : s.heap.get? p = some { cls := .type "tuple", dict := o.dict, data := .seq its.toArray n, slots := o.slots } := by
    rw [e]
    obtain ⟨a, b, c, d⟩ := o
    simp only at c1 c2
    subst c1; subst c2
    rfl
  have fl : (ns.map V.int).all flatV = true := by
    rw [List.all_map]; exact List.all_eq_true.mpr fun _ _ => rfl
  refine call_meets F.slot_tuple_count ⟨_, e', rfl⟩ F.entry_tuple_count (F.args_tuple_count_2 _ _) (SeqAt.tuple_countAt p its.toArray n o.dict o.slots (.int i t) (eqU (.int i))) ⟨e', fun y hy => mem_eqAt (x := .int i) ⟨t, rfl⟩ rfl r fl y (by simpa using hy), ⟨.int (cntI ns i : Nat), H, I.tok _, ⟨s.toks, ?_⟩, q⟩⟩
  rw [show its.toArray.toList = its from rfl, cnt_vals r]
def mCount (x : D) (ds : List D) : R1 :=
  match x, ds with
  | .tup l, [.int i] => (match intsOf l with | some ns => .ok (.int (cntI ns i : Nat), 0) [] | none => .st)
  | _, _ => .st
theorem mCount_ok : MthOk "count" mCount := by
  intro X ρ a args ap cp x k ds j z l o hc hroom hea hes hst hlen hline hb h hp
  unfold mCount at h
  split at h
  . rename_i l' i
    split at h
    . rename_i ns hn
      cases h
      obtain ⟨e, rfl⟩ : ∃ e, args = [e] := by
        match args, hlen with
        | [e], _ => exact ⟨e, rfl⟩
      intro ow
      refine PEimp (pe_bm PySem.F.plainAttrs_tuple PySem.F.slot_tuple_count PySem.F.type_tuple_count mt_count (hea ow) (hes ow) (base_of hb) (few_of hst (show 1 < 29 by decide)) hline (nostar_one (hst e List.mem_cons_self)) rfl) fun σ H Q ⟨E, q⟩ => ⟨E, fun v H1 s1 r1 => ?_⟩
      rw [Rep] at r1
      obtain ⟨p, vs, rfl, hT, rl⟩ := r1
      have ei := intsOf_eq hn
      subst ei
      have ex := repl_ints rl
      subst ex
      refine ⟨.inr (.inl ⟨rfl, _, hT⟩), E.same s1, fun ws H2 s2 r2 => ?_⟩
      obtain ⟨w, rfl, r3⟩ := r2.only
      rw [Rep] at r3; subst r3
      refine ⟨p, ns, i, rfl, rfl, ?_, q _ _ (s1.trans s2) (by rw [Rep])⟩
      rcases hT with (h | ⟨o, h⟩) | h
      . exact .inl (.inl (s2 _ _ h))
      . exact .inl (.inr ⟨o, s2 _ _ h⟩)
      . exact .inr h
    . cases h
  . cases h
end Sp
set_option Elab.async false
set_option linter.all false
set_option maxRecDepth 100000
namespace Sp
open PySem
def subl : List Nat -> List (List Nat)
  | [] => [[]]
  | x :: l => subl l ++ (subl l).map (x :: ·)
def subs : List (List Nat) := (subl [0, 1, 2, 3, 4, 5, 6, 7]).filter fun p => Nat.ble p.length 4
def tbl (led : Bool) (p : List Nat) : SetTable := ⟨7, p.toArray, #[], 0, led, 0, true⟩
def adv (p : List Nat) (v : Nat) : Option (List Nat × Nat) :=
  match (tbl true p).freeSlot (v : Int) with
  | some (j, false) => some (((tbl true p).put j).1.place.toList, ((tbl true p).put j).2)
  | _ => none
def advOk (p : List Nat) (v : Nat) : Bool :=
  match adv p v with
  | some (p', q) => subs.contains p' && p'.length == p.length + 1 && Nat.ble q p.length && [true, false].all fun led =>
      match (tbl led p).freeSlot (v : Int) with
      | some (j, d) => !d && decide (((tbl led p).put j).1 = tbl led p') && ((tbl led p).put j).2 == q
      | none => false
  | none => false
def nxtP (p : List Nat) (i : Nat) : Nat := match i with | 0 => 0 | i + 1 => p.getD i 0 + 1
def walkOk (p : List Nat) : Bool := (List.range (p.length + 1)).all fun i => SetTable.below p.toArray (nxtP p i) == i
def advC (l : List (List Nat)) : Bool := l.all fun p => decide (3 < p.length) || (List.range 21).all fun v => advOk p v
theorem advC_cut {l : List (List Nat)} {n : Nat} (h1 : advC (l.take n) = true) (h2 : advC (l.drop n) = true) : advC l = true := by
  have := List.all_append (f := fun p => decide (3 < p.length) || (List.range 21).all fun v => advOk p v) (xs := l.take n) (ys := l.drop n)
  rw [List.take_append_drop] at this
  unfold advC at *
  rw [this, h1, h2]; rfl
theorem adv_0 : advC (subs.take 10) = true := by decide +kernel
theorem adv_1 : advC ((subs.drop 10).take 10) = true := by decide +kernel
theorem adv_2 : advC (((subs.drop 10).drop 10).take 10) = true := by decide +kernel
theorem adv_3 : advC ((((subs.drop 10).drop 10).drop 10).take 10) = true := by decide +kernel
theorem adv_4 : advC (((((subs.drop 10).drop 10).drop 10).drop 10).take 10) = true := by decide +kernel
theorem adv_5 : advC ((((((subs.drop 10).drop 10).drop 10).drop 10).drop 10).take 10) = true := by decide +kernel
theorem adv_6 : advC (((((((subs.drop 10).drop 10).drop 10).drop 10).drop 10).drop 10).take 10) = true := by decide +kernel
theorem adv_7 : advC ((((((((subs.drop 10).drop 10).drop 10).drop 10).drop 10).drop 10).drop 10).take 10) = true := by decide +kernel
theorem adv_8 : advC (((((((((subs.drop 10).drop 10).drop 10).drop 10).drop 10).drop 10).drop 10).drop 10).take 10) = true := by decide +kernel
theorem adv_9 : advC ((((((((((subs.drop 10).drop 10).drop 10).drop 10).drop 10).drop 10).drop 10).drop 10).drop 10).take 10) = true := by decide +kernel
theorem adv_10 : advC (((((((((((subs.drop 10).drop 10).drop 10).drop 10).drop 10).drop 10).drop 10).drop 10).drop 10).drop 10).take 10) = true := by decide +kernel
theorem adv_11 : advC ((((((((((((subs.drop 10).drop 10).drop 10).drop 10).drop 10).drop 10).drop 10).drop 10).drop 10).drop 10).drop 10).take 10) = true := by decide +kernel
theorem adv_12 : advC (((((((((((((subs.drop 10).drop 10).drop 10).drop 10).drop 10).drop 10).drop 10).drop 10).drop 10).drop 10).drop 10).drop 10).take 10) = true := by decide +kernel
theorem adv_13 : advC ((((((((((((((subs.drop 10).drop 10).drop 10).drop 10).drop 10).drop 10).drop 10).drop 10).drop 10).drop 10).drop 10).drop 10).drop 10).take 10) = true := by decide +kernel
theorem adv_14 : advC (((((((((((((((subs.drop 10).drop 10).drop 10).drop 10).drop 10).drop 10).drop 10).drop 10).drop 10).drop 10).drop 10).drop 10).drop 10).drop 10).take 10) = true := by decide +kernel
theorem adv_15 : advC ((((((((((((((((subs.drop 10).drop 10).drop 10).drop 10).drop 10).drop 10).drop 10).drop 10).drop 10).drop 10).drop 10).drop 10).drop 10).drop 10).drop 10).take 10) = true := by decide +kernel
theorem adv_16 : advC ((((((((((((((((subs.drop 10).drop 10).drop 10).drop 10).drop 10).drop 10).drop 10).drop 10).drop 10).drop 10).drop 10).drop 10).drop 10).drop 10).drop 10).drop 10) = true := by decide +kernel
theorem adv_all : (subs.all fun p => decide (3 < p.length) || (List.range 21).all fun v => advOk p v) = true := (advC_cut adv_0 (advC_cut adv_1 (advC_cut adv_2 (advC_cut adv_3 (advC_cut adv_4 (advC_cut adv_5 (advC_cut adv_6 (advC_cut adv_7 (advC_cut adv_8 (advC_cut adv_9 (advC_cut adv_10 (advC_cut adv_11 (advC_cut adv_12 (advC_cut adv_13 (advC_cut adv_14 (advC_cut adv_15 adv_16))))))))))))))))
theorem walk_all : (subs.all walkOk) = true := by decide +kernel
end Sp
set_option Elab.async false
set_option linter.all false
set_option maxRecDepth 100000
namespace Sp
open PySem
theorem subs_le {p : List Nat} (h : p ∈ subs) : p.length <= 4 := Nat.le_of_ble_eq_true (List.mem_filter.mp h).2
theorem tbl_fits {led : Bool} {p : List Nat} (h : p ∈ subs) : (tbl led p).fits p.length = true := by
  have := subs_le h
  unfold SetTable.fits SetTable.fill tbl
  simp
  omega
theorem tbl_full {led : Bool} {p : List Nat} (h : p ∈ subs) : (tbl led p).tooFull = false := by
  have := subs_le h
  unfold SetTable.tooFull SetTable.fill tbl
  simp
  omega
theorem lay_ok {p : List Nat} (hp : p ∈ subs) (h3 : p.length <= 3) {es : Array (Int × Value)} (hs : es.size = p.length) {v : Nat} (hv : v <= 20) (led : Bool) (x : Value) :
    ∃ es' p', p' ∈ subs /\ p'.length = es'.size /\ layNew (tbl led p) es (v : Int) x = (es', tbl led p', false, false) := by
  have h := List.all_eq_true.mp adv_all p hp
  rw [Bool.or_eq_true] at h
  rcases h with h | h
  . have := of_decide_eq_true h; omega
  have h := List.all_eq_true.mp h v (List.mem_range.mpr (by omega))
  unfold advOk at h
  split at h
  . rename_i p' q e
    rw [Bool.and_eq_true, Bool.and_eq_true, Bool.and_eq_true] at h
    obtain ⟨⟨⟨h1, h2⟩, h4⟩, h5⟩ := h
    have h6 := List.all_eq_true.mp h5 led (by cases led <;> simp)
    have hm : p' ∈ subs := List.contains_iff_mem.mp h1
    have hl : p'.length = p.length + 1 := beq_iff_eq.mp h2
    have hq : q <= p.length := Nat.le_of_ble_eq_true h4
    split at h6
    . rename_i j d ef
      rw [Bool.and_eq_true, Bool.and_eq_true] at h6
      obtain ⟨⟨d0, e1⟩, e2⟩ := h6
      have d0 : d = false := by cases d <;> simp_all
      subst d0
      have e1 := of_decide_eq_true e1
      have e2 : ((tbl led p).put j).2 = q := beq_iff_eq.mp e2
      have sz : (SetTable.insertAt es q ((v : Int), x)).size = p'.length := by
        have := (SetTable.insertAt_perm es q ((v : Int), x)).length_eq
        rw [Array.length_toList, Array.length_toList, Array.size_push] at this
        omega
      refine ⟨SetTable.insertAt es q ((v : Int), x), p', hm, sz.symm, ?_⟩
      have eput : (tbl led p).put j = (tbl led p', q) := Prod.ext e1 e2
      unfold layNew
      rw [ef]
      dsimp only
      rw [eput]
      dsimp only
      have hf : (tbl led p').fits (SetTable.insertAt es q ((v : Int), x)).size = true := by rw [sz]; exact tbl_fits hm
      unfold SetTable.orStandIn
      rw [if_pos hf, hf]
      rfl
    . cases h6
  . cases h
structure Sm (es : Array (Int × Value)) (p : List Nat) : Prop where
  sub : p ∈ subs
  len : p.length = es.size
  itz : ∀ e ∈ es.toList, ∃ (v : Nat) (u : Tok), v <= 20 /\ e = ((v : Int), .int v u)
abbrev SetO (es : Array (Int × Value)) (ep : Nat) (led : Bool) (p : List Nat) : Obj := { cls := .type "set", dict := none, data := .set es ep (tbl led p), slots := #[] }
theorem hash20 {v : Nat} (h : v <= 20) : hashInt (v : Int) = (v : Int) := by
  have : ∀ v ∈ List.range 21, hashInt (v : Int) = (v : Int) := by decide +kernel
  exact this v (List.mem_range.mpr (by omega))
section
variable {prog : Program} {w : World} {A : Around} {E : Value -> Shared -> Prop} {s : Shared}
theorem Sm.el {es : Array (Int × Value)} {p : List Nat} (h : Sm es p) : ElemsOf (intKind prog w) es.toList := by
  intro e he
  obtain ⟨v, u, hv, rfl⟩ := h.itz e he
  exact ⟨⟨(v : Int), by simp [intKind, Value.isInt], (hash20 hv).symm⟩, rfl⟩
theorem Sm.fits {es : Array (Int × Value)} {p : List Nat} {led : Bool} (h : Sm es p) : (tbl led p).fits es.size = true := by rw [<- h.len]; exact tbl_fits h.sub
theorem set_add {a : Addr} {es : Array (Int × Value)} {ep : Nat} {led : Bool} {p : List Nat} {v : Nat} {u : Tok} {Q : Bool -> Shared -> Prop} (ho : s.heap.get? a = some (SetO es ep led p)) (h : Sm es p) (h3 : es.size <= 3) (hv : v <= 20)
    (q1 : (∃ e ∈ es.toList, e.1 = (v : Int)) -> Q false { s with toks := s.toks + 1 })
    (q2 : (∀ e ∈ es.toList, e.1 ≠ (v : Int)) -> ∀ es' p' ep', Sm es' p' -> es'.toList.Perm (es.toList ++ [((v : Int), .int v u)]) -> (s.heap.update a (Obj.putSet es' (tbl led p'))).get? a = some (SetO es' ep' led p') -> Q true { s with heap := s.heap.update a (Obj.putSet es' (tbl led p')), toks := s.toks + 1 }) :
    wpAny (model prog w) A (setAdd a (.int v u)) Q E s := by
  have hkey : (intKind prog w).is (v : Int) (.int v u) = true := by simp [intKind, Value.isInt]
  unfold setAdd
  refine wpAny_holding ?_
  refine wpAny_bind ((intKind prog w).pyHash hkey ?_)
  have ho' : ({ s with toks := s.toks + 1 } : Shared).heap.get? a = some (SetO es ep led p) := ho
  have hb : es.size < scanBound := Nat.lt_of_le_of_lt h3 (by decide)
  unfold setAddHashed setAddHashedIn
  refine wpAny_holding (wpAny_bind (wpAny_setState_of ho' rfl h.fits ?_))
  dsimp only
  rw [byScan_of (knd := intKind prog w) rfl hb h.el]
  simp only [↓reduceIte]
  unfold setAddByScan
  refine wpAny_bind ?_
  refine wpAny_bind (wpAny_rule ?_)
  refine wpAny_bind (wpAny_setScan_of hkey ho' rfl h.fits h.el ?_)
  cases hr : List.findIdx? (fun e => (intKind prog w).is (v : Int) e.2) es.toList with
  | some j =>
    dsimp only
    obtain ⟨hj, hpj, _⟩ := List.findIdx?_eq_some_iff_getElem.mp hr
    refine wpAny_pure (wpAny_pure (q1 ⟨es.toList[j], List.getElem_mem hj, ?_⟩))
    obtain ⟨v', u', hv', e'⟩ := h.itz _ (List.getElem_mem hj)
    rw [e'] at hpj ⊢
    have := (intKind prog w).inj (.int v' u') (v : Int) (v' : Int) hpj (by simp [intKind, Value.isInt])
    exact this.symm
  | none =>
    dsimp only
    have hno : ∀ e ∈ es.toList, e.1 ≠ (v : Int) := fun e he z => by
      have h1 := List.findIdx?_eq_none_iff.mp hr e he
      obtain ⟨v', u', hv', rfl⟩ := h.itz e he
      have z : (v' : Int) = (v : Int) := z
      have : (intKind prog w).is (v : Int) (.int v' u') = true := by rw [<- z]; simp [intKind, Value.isInt]
      rw [this] at h1
      cases h1
    have hh : (intKind prog w).hash (v : Int) = (v : Int) := hash20 hv
    rw [hh]
    have hperm := layNew_perm (tbl led p) es (v : Int) (.int v u)
    obtain ⟨es', p', hp', hl', eL⟩ := lay_ok h.sub (by rw [h.len]; exact h3) h.len.symm hv led (.int v u)
    rw [eL] at hperm ⊢
    dsimp only at hperm ⊢
    rw [Array.toList_push] at hperm
    have sm' : Sm es' p' := ⟨hp', hl', fun e he => by
      rcases List.mem_append.mp (hperm.mem_iff.mp he) with z | z
      . exact h.itz e z
      . rw [List.mem_singleton] at z; exact ⟨v, u, hv, z⟩⟩
    have gz : (s.heap.update a (Obj.putSet es' (tbl led p'))).get? a = some (SetO es' (ep + 1) led p') := by
      have := Heap.get?_update_self (Obj.putSet es' (tbl led p')) ho (by rw [putSet_of es' (tbl led p') rfl]; rfl)
      rw [putSet_of es' (tbl led p') rfl] at this; exact this
    refine wpAny_bind (wpAny_pure ?_)
    have hpl : (tbl led p').plain = true := rfl
    rw [hpl]
    simp only [↓reduceIte]
    refine wpAny_bind ?_
    rw [hashByValue_scannable 8 rfl]
    refine wpAny_pure ?_
    have hpk : plainKind (.int (v : Int) u) = true := rfl
    rw [hpk]
    simp only [↓reduceIte]
    refine wpAny_bind (wpAny_storeSet_of ho' rfl ?_ (by rw [<- hl']; exact Nat.le_trans (subs_le hp') (by rw [sizeLine_eq]; decide)))
    rw [tbl_full hp']
    simp only [Bool.and_false, Bool.false_eq_true, ↓reduceIte]
    exact wpAny_pure (wpAny_pure (q2 hno es' p' (ep + 1) sm' hperm gz))
end
end Sp
set_option Elab.async false
set_option linter.all false
set_option maxRecDepth 100000
namespace Sp
open PySem
theorem erz {α : Type} : ∀ (l : List α) (i : Nat) (h : i < l.length), (l[i] :: l.eraseIdx i).Perm l
  | a :: l, 0, _ => .refl _
  | a :: l, i + 1, h => (List.Perm.swap a _ _).trans ((erz l i (Nat.lt_of_succ_lt_succ h)).cons a)
theorem pick_go {α : Type} (f : Nat -> Nat) : ∀ (fuel k : Nat) (left : List α) (out : Array α), left.length <= fuel -> (pickOrder.go f fuel k left out).toList.Perm (out.toList ++ left)
  | 0, k, left, out, h => by
    have : left = [] := List.eq_nil_of_length_eq_zero (by omega)
    subst this
    unfold pickOrder.go
    rw [List.append_nil]
  | fuel + 1, k, left, out, h => by
    unfold pickOrder.go
    cases left with
    | nil => simp
    | cons y l =>
      have hi : f k % (y :: l).length < (y :: l).length := Nat.mod_lt _ (by simp)
      rw [List.getElem?_eq_getElem hi]
      dsimp only
      refine (pick_go f fuel (k + 1) _ _ (by rw [List.length_eraseIdx_of_lt hi]; omega)).trans ?_
      rw [Array.toList_push, List.append_assoc]
      exact (erz _ _ hi).append_left _
theorem pick_perm {α : Type} (f : Nat -> Nat) (xs : Array α) : (pickOrder f xs).toList.Perm xs.toList := by
  have := pick_go f xs.size 0 xs.toList #[] (by simp)
  unfold pickOrder
  simpa using this
theorem slot_si_next : Slot "set_iterator" "__next__" "set_iterator.__next__" :=
  .of (owner := "set_iterator") (n := "__next__") (by rw [typeLookup_type, builtinLookup_eq_fast]; kernel_rfl) (by decide +kernel) (by decide +kernel) (by decide +kernel)
    (by first | exact .inl (by decide +kernel) | exact .inr (by decide +kernel)) (by rw [isSubtype_type]; kernel_rfl)
theorem entry_si_next : entryFor table "set_iterator.__next__" = some Builtin.«set_iterator.__next__» := entryFor_of_tree (by kernel_rfl)
theorem args_si_next (a : Value) : argsOk "set_iterator.__next__" ⟨[a], []⟩ := by unfold argsOk; kernel_rfl
theorem slot_si_iter : Slot "set_iterator" "__iter__" "set_iterator.__iter__" :=
  .of (owner := "set_iterator") (n := "__iter__") (by rw [typeLookup_type, builtinLookup_eq_fast]; kernel_rfl) (by decide +kernel) (by decide +kernel) (by decide +kernel)
    (by first | exact .inl (by decide +kernel) | exact .inr (by decide +kernel)) (by rw [isSubtype_type]; kernel_rfl)
theorem entry_si_iter : entryFor table "set_iterator.__iter__" = some Builtin.«dict_keyiterator.__iter__» :=
  entryFor_alias (id' := "dict_keyiterator.__iter__") (by kernel_rfl) rfl (by decide +kernel) (by kernel_rfl)
theorem args_si_iter (a : Value) : argsOk "set_iterator.__iter__" ⟨[a], []⟩ := by unfold argsOk; kernel_rfl
theorem entry_s_iter : entryFor table "set.__iter__" = some Builtin.«frozenset.__iter__» :=
  entryFor_alias (id' := "frozenset.__iter__") (by kernel_rfl) rfl (by decide +kernel) (by kernel_rfl)
end Sp
set_option Elab.async false
set_option linter.all false
set_option maxRecDepth 100000
namespace Sp
open PySem
abbrev byT (w : World) : Bool := w.params.followText "set-order"
def ordE (w : World) (a : Addr) (es : Array (Int × Value)) (ep : Nat) : Array (Int × Value) := if byT w = true then pickOrder (w.params.setOrder a ep) es else es
def slt (w : World) (p : List Nat) (i : Nat) : Nat := if byT w = true then 0 else nxtP p i
def SIter (w : World) (h : Heap) (I a : Addr) (es : Array (Int × Value)) (ep : Nat) (p : List Nat) (i : Nat) : Prop :=
  h.get? I = some { cls := .type "set_iterator", dict := none, data := .fields #[.int ((slt w p i : Nat) : Int) 0, .int (i : Int) 0, .ref a, .int (es.size : Int) 0, .int (ep : Int) 0], slots := #[] } /\ h.get? a = some (SetO es ep (!byT w) p)
theorem ord_perm (w : World) (a : Addr) (es : Array (Int × Value)) (ep : Nat) : (ordE w a es ep).toList.Perm es.toList := by
  unfold ordE
  split
  . exact pick_perm _ _
  . exact .refl _
theorem ord_size (w : World) (a : Addr) (es : Array (Int × Value)) (ep : Nat) : (ordE w a es ep).size = es.size := by
  have := (ord_perm w a es ep).length_eq
  simpa using this
theorem below_nxt {p : List Nat} (hp : p ∈ subs) {i : Nat} (hi : i <= p.length) : SetTable.below p.toArray (nxtP p i) = i := by
  have := List.all_eq_true.mp walk_all p hp
  unfold walkOk at this
  exact beq_iff_eq.mp (List.all_eq_true.mp this i (List.mem_range.mpr (by omega)))
section
variable {prog : Program} {w : World} {A : Around} {E : Value -> Shared -> Prop} {s : Shared}
theorem set_nxt {I a : Addr} {es : Array (Int × Value)} {ep i : Nat} {p : List Nat} {Q : Option (Value × Nat) -> Shared -> Prop} (hi : i <= es.size) (st : SIter w s.heap I a es ep p i) (sm : Sm es p)
    (hQ : Q ((ordE w a es ep)[i]?.map fun e => (e.2, slt w p (i + 1))) s) : wpAny (model prog w) A (setNext a (slt w p i) i ep) Q E s := by
  unfold setNext
  refine wpAny_bind (wpAny_setState_of st.2 rfl sm.fits ?_)
  dsimp only
  unfold setsByText
  refine wpAny_bind (wpAny_bind (wpAny_askSetting (wpAny_pure ?_)))
  dsimp only
  cases hb : byT w with
  | true =>
    have hb' : (model prog w).w.params.followText "set-order" = true := hb
    simp only [hb', bne_self_eq_false, Bool.false_eq_true, ↓reduceIte]
    unfold setWalk
    refine wpAny_bind (wpAny_bind (wpAny_setState_of st.2 rfl sm.fits ?_))
    dsimp only
    unfold setsByText
    refine wpAny_bind (wpAny_bind (wpAny_askSetting (wpAny_pure ?_)))
    simp only [hb', ↓reduceIte]
    refine wpAny_bind (wpAny_askSetting (wpAny_pure (wpAny_pure ?_)))
    unfold ordE slt at hQ
    rw [hb] at hQ
    unfold slt
    rw [hb]
    simp only [↓reduceIte] at hQ ⊢
    exact hQ
  | false =>
    have hb' : (model prog w).w.params.followText "set-order" = false := hb
    have hp : p.length = es.size := sm.len
    simp only [hb', Bool.false_eq_true, ↓reduceIte]
    split
    . rename_i z
      exact absurd z Bool.false_ne_true
    refine wpAny_bind ?_
    show wpAny _ _ (if (false : Bool) = true then unsupported "set:maker-not-led" else pure ()) _ _ _
    rw [if_neg Bool.false_ne_true]
    refine wpAny_pure (wpAny_pure ?_)
    unfold ordE slt at hQ
    rw [hb] at hQ
    simp only [Bool.false_eq_true, ↓reduceIte] at hQ
    have es' : slt w p i = nxtP p i := by unfold slt; rw [hb]; simp
    have eb : SetTable.below (tbl (!false) p).place (slt w p i) = i := by rw [es']; exact below_nxt sm.sub (by omega)
    rw [eb]
    have epl : (tbl (!false) p).place[i]? = p[i]? := by show p.toArray[i]? = _; simp
    rw [epl]
    rcases Nat.lt_or_ge i es.size with hlt | hge
    . rw [Array.getElem?_eq_getElem hlt] at hQ ⊢
      rw [List.getElem?_eq_getElem (by omega)]
      have en : nxtP p (i + 1) = p[i]'(by omega) + 1 := by
        show p.getD i 0 + 1 = _
        rw [List.getD_eq_getElem?_getD, List.getElem?_eq_getElem (by omega)]; rfl
      rw [en] at hQ
      exact hQ
    . rw [Array.getElem?_eq_none hge] at hQ ⊢
      exact hQ
theorem si_item {I a : Addr} {es : Array (Int × Value)} {ep i : Nat} {p : List Nat} {e : Int × Value} {Q : Option Value -> Shared -> Prop} (st : SIter w s.heap I a es ep p i) (sm : Sm es p) (he : (ordE w a es ep)[i]? = some e)
    (hQ : ∀ h', SIter w h' I a es ep p (i + 1) -> Heap.SameBut I s.heap h' -> Q (some e.2) { s with heap := h' }) : wpAny (model prog w) A (pyNext (.ref I)) Q E s := by
  have hT : s.TypeIs (.ref I) "set_iterator" := ⟨_, st.1, rfl⟩
  have hi : i <= es.size := by
    have := (Array.getElem?_eq_some_iff.mp he).1
    rw [ord_size] at this
    omega
  unfold pyNext
  refine wpAny_bind (wpAny_attempt (wpAny_callSpecial?_slot (name := Str.ofString "__next__") hT slot_si_next (wpAny_call_entry slot_si_next hT entry_si_next ?_ (args_si_next _))))
  unfold Builtin.«set_iterator.__next__»
  show wpAny _ _ (fieldsOf (.ref I) >>= _) _ _ s
  refine wpAny_bind (wpAny_fieldsOf st.1 rfl ?_)
  dsimp only
  refine wpAny_bind (wpAny_setEntries_of st.2 rfl sm.fits ?_)
  simp only [bne_self_eq_false, Bool.false_eq_true, ↓reduceIte, Int.toNat_natCast]
  refine wpAny_bind (set_nxt hi st sm ?_)
  rw [he]
  dsimp only [Option.map]
  refine wpAny_bind (wpAny_setField_rec st.1 (by simp) fun h1 g1 s1 => ?_)
  refine wpAny_bind (wpAny_setField_rec g1 (by simp) fun h2 g2 s2 => ?_)
  have sb := s1.trans s2
  refine wpAny_pure ⟨_, rfl, wpAny_pure (hQ h2 ⟨?_, ?_⟩ sb)⟩
  . rw [g2]
    simp [rawInt]
  . have hne : a ≠ I := fun z => by
      have h1 := st.1
      have h2 := st.2
      rw [z, h1] at h2
      have h3 := congrArg Obj.cls (Option.some.inj h2)
      simp at h3
    exact sb.extBut a _ hne st.2
theorem si_done {I a : Addr} {es : Array (Int × Value)} {ep : Nat} {p : List Nat} {Q : Option Value -> Shared -> Prop} (hh : A.handled = none) (st : SIter w s.heap I a es ep p es.size) (sm : Sm es p)
    (hQ : ∀ h', Heap.ExtBut I s.heap h' -> Q none { s with heap := h' }) : wpAny (model prog w) A (pyNext (.ref I)) Q E s := by
  have hT : s.TypeIs (.ref I) "set_iterator" := ⟨_, st.1, rfl⟩
  unfold pyNext
  refine wpAny_bind (wpAny_attempt (wpAny_callSpecial?_slot (name := Str.ofString "__next__") hT slot_si_next (wpAny_call_entry slot_si_next hT entry_si_next ?_ (args_si_next _))))
  unfold Builtin.«set_iterator.__next__»
  show wpAny _ _ (fieldsOf (.ref I) >>= _) _ _ s
  refine wpAny_bind (wpAny_fieldsOf st.1 rfl ?_)
  dsimp only
  refine wpAny_bind (wpAny_setEntries_of st.2 rfl sm.fits ?_)
  simp only [bne_self_eq_false, Bool.false_eq_true, ↓reduceIte, Int.toNat_natCast]
  refine wpAny_bind (set_nxt (Nat.le_refl _) st sm ?_)
  rw [Array.getElem?_eq_none (by rw [ord_size]; exact Nat.le_refl _)]
  dsimp only [Option.map]
  refine wpAny_bind (wpAny_setField_rec st.1 (by simp) fun h1 g1 s1 => ?_)
  refine wpAny_bind ?_
  simp only [newExc, newTuple]
  refine wpAny_bind (wpAny_newObj_type ?_ (by size_fits))
  refine wpAny_bind (m := firstArgMember _ _) (wpAny_of_eq (a := Value.none) (by first | rfl | (simp only [firstArgMember]; rfl)) ?_)
  refine wpAny_newObj_type ?_ (by size_fits)
  simp only [raiseNew]
  refine wpAny_bind (wpAny_handled ?_)
  rw [show A.in1.handled = none from hh]
  refine wpAny_bind (wpAny_pure (wpAny_throw ?_))
  refine wpAny_bind (wpAny_isInstance (T := "StopIteration") (b := true) ⟨_, Heap.get?_push_size _ rfl, rfl⟩ isSubtype_stop ?_)
  exact wpAny_pure (hQ _ ((s1.extBut.push _).push _))
theorem si_self {I a : Addr} {es : Array (Int × Value)} {ep i : Nat} {p : List Nat} {Q : Value -> Shared -> Prop} (st : SIter w s.heap I a es ep p i) (h : Q (.ref I) s) : wpAny (model prog w) A (pyIter (.ref I)) Q E s := by
  have hT : s.TypeIs (.ref I) "set_iterator" := ⟨_, st.1, rfl⟩
  refine wpAny_pyIter_slot hT slot_si_iter (wpAny_call_entry slot_si_iter hT entry_si_iter ?_ (args_si_iter _))
  show wpAny _ _ (ret (.ref I)) _ _ s
  exact wpAny_pure ⟨_, rfl, "set_iterator", _, hT, slot_si_next.lookup, h⟩
theorem si_walks {I a : Addr} {es : Array (Int × Value)} {ep : Nat} {p : List Nat} (hh : A.handled = none) (sm : Sm es p) :
    Walks prog w A I [I, a] [I] es.size (fun i v => ∃ e, (ordE w a es ep)[i]? = some e /\ v = e.2) (fun i h => SIter w h I a es ep p i) where
  sub := fun b hb => by simp at hb; simp [hb]
  frame := fun i h h' st hk => ⟨hk I (by simp) _ st.1, hk a (by simp) _ st.2⟩
  item := fun i s Q E hi st hQ => by
    have hlt : i < (ordE w a es ep).size := by rw [ord_size]; exact hi
    refine si_item st sm (Array.getElem?_eq_getElem hlt) fun h' st' sb => ?_
    exact hQ _ h' s.toks ⟨_, Array.getElem?_eq_getElem hlt, rfl⟩ st' fun b o hb e => sb.extBut b o (fun z => hb (by simp [z])) e
  done := fun s Q E st hQ => si_done hh st sm fun h' he => hQ h' s.toks fun b o hb e => he b o (fun h => hb (by simp [h])) e
  self := fun i s Q E st hQ => si_self st hQ
end
end Sp
set_option Elab.async false
set_option linter.all false
set_option maxRecDepth 100000
namespace Sp
open PySem
section
variable {prog : Program} {w : World} {A : Around} {E : Value -> Shared -> Prop} {s : Shared}
abbrev SIO (es : Array (Int × Value)) (ep : Nat) (a : Addr) : Obj := { cls := .type "set_iterator", dict := none, data := .fields #[.int 0 0, .int 0 0, .ref a, .int (es.size : Int) 0, .int (ep : Int) 0], slots := #[] }
theorem slt0 (w : World) (p : List Nat) : slt w p 0 = 0 := by unfold slt; split <;> rfl
theorem pyIter_set {a : Addr} {es : Array (Int × Value)} {ep : Nat} {p : List Nat} {Q : Value -> Shared -> Prop} (ho : s.heap.get? a = some (SetO es ep (!byT w) p)) (sm : Sm es p)
    (hQ : Q (.ref s.heap.objs.size) { s with heap := s.heap.push (SIO es ep a) }) : wpAny (model prog w) A (pyIter (.ref a)) Q E s := by
  have hT : s.TypeIs (.ref a) "set" := ⟨_, ho, rfl⟩
  refine wpAny_pyIter_slot hT F.slot_set_iter (wpAny_call_entry F.slot_set_iter hT entry_s_iter ?_ (F.args_set_iter_1 _))
  unfold Builtin.«frozenset.__iter__» Builtin.Frozenset.slot0 slotArgs
  simp only [List.isEmpty_nil, Bool.not_true, Bool.false_eq_true, ↓reduceIte, bind_assoc, List.length_nil, bne_self_eq_false]
  unfold Builtin.Frozenset.addrOf Builtin.Frozenset.sizeOf
  refine wpAny_bind (wpAny_pure ?_)
  try dsimp only
  refine wpAny_bind (wpAny_pure ?_)
  refine wpAny_bind (wpAny_bind (wpAny_setEntries_of ho rfl sm.fits (wpAny_pure ?_)))
  refine wpAny_bind ?_
  unfold setDrawn
  refine wpAny_bind (wpAny_setState_of ho rfl sm.fits ?_)
  dsimp only
  unfold setsByText
  refine wpAny_bind (wpAny_bind (wpAny_askSetting (wpAny_pure ?_)))
  refine wpAny_pure ?_
  show wpAny _ _ (if (!(byT w) && false) = true then _ else _) _ _ _
  rw [Bool.and_false, if_neg Bool.false_ne_true]
  refine wpAny_bind (wpAny_pure ?_)
  refine wpAny_bind (wpAny_setEpoch_of ho rfl sm.fits ?_)
  refine wpAny_bind (wpAny_newObj_type (wpAny_pure ⟨_, rfl, "set_iterator", _, ⟨_, Heap.get?_push_size _ rfl, rfl⟩, slot_si_next.lookup, hQ⟩))
theorem len_set : typeLookup (.type "set") "__len__" = pure (some (.builtin "set.__len__")) := by rw [typeLookup_type, builtinLookup_eq_fast]; kernel_rfl
theorem collect_set {a : Addr} {es : Array (Int × Value)} {ep : Nat} {p : List Nat} {Q : List Value -> Shared -> Prop} (hh : A.handled = none) (ho : s.heap.get? a = some (SetO es ep (!byT w) p)) (sm : Sm es p)
    (hQ : ∀ s' (l : List (Int × Value)), (∀ b o, s.heap.get? b = some o -> s'.heap.get? b = some o) -> s'.gens = s.gens -> s'.drawn = s.drawn -> s'.os = s.os -> s.toks <= s'.toks -> l.Perm es.toList -> Q (l.map (·.2)) s') : wpAny (model prog w) A (collect (.ref a)) Q E s := by
  have hlt : a < s.heap.objs.size := Heap.lt_size ho
  have hSI : s.heap.objs.size ≠ a := fun z => Nat.lt_irrefl _ (z ▸ hlt)
  unfold collect
  refine wpAny_bind (wpAny_runValue (codeAny_builtin F.entry_proto_collect ?_))
  rw [Around.under_plainId F.plain_proto_collect _]
  show wpAny _ A.in1 (newList [] >>= fun l => again (.builtin "list.__iadd__" ⟨[l, .ref a], []⟩)) _ _ s
  refine wpAny_bind (wpAny_newObj_type ?_)
  refine wpAny_pure ⟨plainId_quiet F.plain_list_iadd _, codeAny_builtin F.entry_list_iadd ?_⟩
  rw [Around.under_plainId F.plain_list_iadd _]
  have ho1 : (s.heap.push { cls := .type "list", data := .seq ([] : List Value).toArray }).get? a = some (SetO es ep (!byT w) p) := Heap.get?_push_of_some _ ho
  have hT1 : ({ s with heap := s.heap.push { cls := .type "list", data := .seq ([] : List Value).toArray } } : Shared).TypeIs (.ref a) "set" := ⟨_, ho1, rfl⟩
  show wpAny _ A.in1 (Builtin.List.listExtendWith (.ref s.heap.objs.size) (.ref a) (.ref s.heap.objs.size)) _ _ _
  unfold Builtin.List.listExtendWith
  refine wpAny_bind (wpAny_typeOf hT1 ?_)
  have h1 : Builtin.List.listSameRef (.ref s.heap.objs.size) (.ref a) = false := by simp [Builtin.List.listSameRef, hSI]
  have h2 : (Value.type "set" == Value.type "list") = false := by decide
  have h3 : (Value.type "set" == Value.type "tuple") = false := by decide
  simp only [h1, h2, h3, Bool.or_false, Bool.false_eq_true, if_false]
  refine wpAny_bind (pyIter_set (s := { s with heap := s.heap.push { cls := .type "list", data := .seq ([] : List Value).toArray } }) ho1 sm ?_)
  have ez : (s.heap.push { cls := .type "list", data := .seq ([] : List Value).toArray }).objs.size = s.heap.objs.size + 1 := by simp [Heap.push]
  dsimp only
  rw [ez]
  have ho2 : ((s.heap.push { cls := .type "list", data := .seq ([] : List Value).toArray }).push (SIO es ep a)).get? a = some (SetO es ep (!byT w) p) := Heap.get?_push_of_some _ ho1
  have hI2 : ((s.heap.push { cls := .type "list", data := .seq ([] : List Value).toArray }).push (SIO es ep a)).get? (s.heap.objs.size + 1) = some (SIO es ep a) := by rw [<- ez]; exact Heap.get?_push_size _ rfl
  have hS2 : ((s.heap.push { cls := .type "list", data := .seq ([] : List Value).toArray }).push (SIO es ep a)).get? s.heap.objs.size = some { cls := .type "list", data := .seq ([] : List Value).toArray } := Heap.get?_push_of_some _ (Heap.get?_push_size _ rfl)
  generalize hh2 : (s.heap.push { cls := .type "list", data := .seq ([] : List Value).toArray }).push (SIO es ep a) = h2 at *
  have old2 : ∀ b o, s.heap.get? b = some o -> h2.get? b = some o := fun b o e => by rw [<- hh2]; exact Heap.get?_push_of_some _ (Heap.get?_push_of_some _ e)
  have hT2 : ({ s with heap := h2 } : Shared).TypeIs (.ref a) "set" := ⟨_, ho2, rfl⟩
  refine wpAny_bind (wpAny_holding ?_)
  unfold Builtin.List.listLengthHint
  refine wpAny_bind (wpAny_specialOf hT2 len_set ?_)
  (generalize hid : ("set.__len__" : String) = id0; (fail_if_success (clear hid id0)); wp_delta; rw [show splitId id0 = some ("set", "__len__") from by subst hid; decide +kernel]; subst hid)
  refine wpAny_bind (wpAny_isInstance (b := true) hT2 (by rw [isSubtype_type]; kernel_rfl) ?_)
  refine wpAny_bind (wpAny_typeOf hT2 ?_)
  refine wpAny_pure ?_
  show wpAny _ A.in1 (rule "list.extend.makes-room" >>= fun _ => Builtin.List.listTouch (.ref s.heap.objs.size) >>= fun _ =>
    again (.builtin "list.extend.loop" ⟨[.ref s.heap.objs.size, .ref (s.heap.objs.size + 1), .ref s.heap.objs.size], []⟩)) _ _ _
  refine wpAny_bind (wpAny_rule ?_)
  refine wpAny_bind ?_
  show wpAny _ A.in1 (updateSeq s.heap.objs.size (·.push .none) >>= fun _ => updateSeq s.heap.objs.size (·.pop)) _ _ _
  refine wpAny_bind (wpAny_updateSeq hS2 rfl ?_)
  have hS₂ := Heap.get?_update_self (Obj.mapSeq (·.push Value.none)) hS2 rfl
  refine wpAny_updateSeq hS₂ rfl ?_
  have hS₃ := Heap.get?_update_self (Obj.mapSeq (·.pop)) hS₂ rfl
  have oth : ∀ b o, b ≠ s.heap.objs.size -> h2.get? b = some o -> ((h2.update s.heap.objs.size (Obj.mapSeq (·.push Value.none))).update s.heap.objs.size (Obj.mapSeq (·.pop))).get? b = some o :=
    fun b o hb e => (Heap.get?_update_other _ _ (Ne.symm hb)).trans ((Heap.get?_update_other _ _ (Ne.symm hb)).trans e)
  have hIS : s.heap.objs.size + 1 ≠ s.heap.objs.size := Nat.succ_ne_self _
  have W := (si_walks (prog := prog) (w := w) (A := A.in1) (I := s.heap.objs.size + 1) (a := a) (ep := ep) hh sm).toS
  have hSf : s.heap.objs.size ∉ [s.heap.objs.size + 1, a] := by
    intro z
    simp only [List.mem_cons, List.not_mem_nil, or_false] at z
    rcases z with z | z
    . exact hIS z.symm
    . exact hSI z
  have st0 : SIter w ((h2.update s.heap.objs.size (Obj.mapSeq (·.push Value.none))).update s.heap.objs.size (Obj.mapSeq (·.pop))) (s.heap.objs.size + 1) a es ep p 0 := ⟨by rw [slt0]; exact oth _ _ hIS hI2, oth _ _ (Ne.symm hSI) ho2⟩
  have hn : es.size <= sizeLine := by rw [<- sm.len]; exact Nat.le_trans (subs_le sm.sub) (by rw [sizeLine_eq]; decide)
  refine wpAny_pure ⟨plainId_quiet F.plain_extend_loop _, codeAny_extend_loopS W hn _ hSf _ es.size 0 _ _ _ rfl (Nat.zero_le _) st0 hS₃ (ItemsOf.nil _) fun s' acc' c' hm hS' hacc => ?_⟩
  show wpAny _ A (load s.heap.objs.size >>= _) _ _ s'
  refine wpAny_bind (wpAny_load hS' ?_)
  have e : acc'.toList = (ordE w a es ep).toList.map (·.2) := by
    apply List.ext_getElem?
    intro j
    rw [List.getElem?_map, Array.getElem?_toList, Array.getElem?_toList]
    cases hj : acc'[j]? with
    | some v =>
      obtain ⟨q, h1, h2⟩ := hacc.2 j v hj
      rw [h1, h2]; rfl
    | none =>
      have : es.size <= j := by rw [<- hacc.1]; exact Array.getElem?_eq_none_iff.mp hj
      rw [Array.getElem?_eq_none (by rw [ord_size]; exact this)]; rfl
  refine wpAny_pure ?_
  rw [e]
  refine hQ s' _ (fun b o e => ?_) hm.gens hm.drawn hm.os hm.toks (ord_perm w a es ep)
  have hb : b < s.heap.objs.size := Heap.lt_size e
  have hb1 : b ≠ s.heap.objs.size := fun z => Nat.lt_irrefl _ (z ▸ hb)
  have hb2 : b ≠ s.heap.objs.size + 1 := fun z => Nat.lt_irrefl _ (Nat.lt_trans (Nat.lt_succ_self _) (z ▸ hb))
  exact hm.heap b o (by simp [hb1, hb2]) (oth b o hb1 (old2 b o e))
end
end Sp
set_option Elab.async false
set_option linter.all false
set_option maxRecDepth 100000
namespace Sp
open PySem
theorem typeCall_set_1 (a : Value) : checkTypeCall "set" ⟨[a], []⟩ = pure () := by kernel_rfl
theorem newCall_set_1 (a : Value) : checkBuiltinCall "set.__new__" ⟨[.type "set", a], []⟩ = pure () := by kernel_rfl
theorem entry_upd : entryFor table "set.update.loop" = some Builtin.«set.update.loop» := entryFor_of_fast (by kernel_rfl)
theorem plain_upd : plainId "set.update.loop" = true := by decide +kernel
abbrev nsE (es : Array (Int × Value)) : List Int := es.toList.map (·.1)
section
variable {prog : Program} {w : World} {A : Around} {E : Value -> Shared -> Prop} {s : Shared}
theorem upd_loop (hh : A.in1.handled = none) {I ax a : Addr} {led : Bool} (hne : ax ≠ I) (haI : a ≠ I) (hax : a ≠ ax) {items : Array Value} {ws : List Int} (hw : ∀ (j : Nat) v, items[j]? = some v -> ∃ (n : Nat) (u : Tok), ws[j]? = some (n : Int) /\ n <= 20 /\ v = .int n u) (h4 : items.size <= 4) (hlen : ws.length = items.size) {R : Result -> Shared -> Prop} :
    ∀ (k i : Nat) (s : Shared) (es : Array (Int × Value)) (ep : Nat) (p : List Nat), items.size - i = k -> i <= items.size -> (s.heap.IsTupleIter I ax i /\ s.heap.IsTuple ax items) -> s.heap.get? a = some (SetO es ep led p) -> Sm es p -> es.size <= i -> (nsE es).Nodup -> (∀ x, x ∈ nsE es ↔ x ∈ ws.take i) ->
    (∀ s' es' ep' p', (∀ b o, b ≠ a -> b ≠ I -> s.heap.get? b = some o -> s'.heap.get? b = some o) -> s'.gens = s.gens -> s'.drawn = s.drawn -> s'.os = s.os -> s.toks <= s'.toks -> s'.heap.get? a = some (SetO es' ep' led p') -> Sm es' p' -> (nsE es').Nodup -> (∀ x, x ∈ nsE es' ↔ x ∈ ws) -> R (.ok (.ret .none)) s') ->
    codeAny (model prog w) A (.builtin "set.update.loop" ⟨[.ref a, .ref I], []⟩) R s := by
  have W := (Walks.tuple (prog := prog) (w := w) (A := A.in1) hh I ax hne items).toS
  have fpa : a ∉ [I, ax] := by simp [haI, hax]
  intro k
  induction k with
  | zero =>
    intro i s es ep p hk hi st ha sm hs nd hm hR
    have hin : i = items.size := by omega
    subst hin
    refine codeAny_builtin entry_upd ?_
    rw [Around.under_plainId plain_upd _]
    show wpAny _ A.in1 (pyNext (.ref I) >>= _) _ _ s
    refine wpAny_bind (W.done s _ _ st fun s' mv => ?_)
    rw [<- hlen, List.take_length] at hm
    exact wpAny_pure (hR s' es ep p (fun b o hb hb2 e => mv.heap b o (by simp [hb2]) e) mv.gens mv.drawn mv.os mv.toks (mv.heap a _ (by simp [haI]) ha) sm nd hm)
  | succ k ih =>
    intro i s es ep p hk hi st ha sm hs nd hm hR
    have hlt : i < items.size := by omega
    refine codeAny_builtin entry_upd ?_
    rw [Around.under_plainId plain_upd _]
    show wpAny _ A.in1 (pyNext (.ref I) >>= _) _ _ s
    refine wpAny_bind (W.item i s _ _ hlt st fun v s' hP st' mv => ?_)
    obtain ⟨n, u, hn, n20, rfl⟩ := hw i v hP
    have ha' := mv.heap a _ (by simp [haI]) ha
    have tk : ws.take (i + 1) = ws.take i ++ [(n : Int)] := by rw [List.take_add_one, hn]; rfl
    show wpAny _ A.in1 (holding [Value.int n u] (setAdd a (.int n u)) >>= fun _ => again (.builtin "set.update.loop" ⟨[.ref a, .ref I], []⟩)) _ _ s'
    refine wpAny_bind (wpAny_holding (set_add ha' sm (by omega) n20 (fun hex => ?_) (fun hno es' p' ep' sm' pm g => ?_)))
    . refine wpAny_pure ⟨plainId_quiet plain_upd _, ih (i + 1) _ es ep p (by omega) (by omega) (W.frame _ s' _ _ st' (Nat.le_succ _) fun b _ o e => e) ha' sm (by omega) nd (fun x => ?_) fun s2 es2 ep2 p2 q1 q2 q3 q4 q5 q6 q7 q8 q9 => ?_⟩
      . rw [tk, List.mem_append, List.mem_singleton, <- hm x]
        refine ⟨.inl, fun z => z.elim id fun z => ?_⟩
        obtain ⟨e, he, e1⟩ := hex
        rw [z]
        exact List.mem_map.mpr ⟨e, he, e1⟩
      . exact hR s2 es2 ep2 p2 (fun b o hb hb2 e => q1 b o hb hb2 (mv.heap b o (by simp [hb2]) e)) (q2.trans mv.gens) (q3.trans mv.drawn) (q4.trans mv.os) (Nat.le_trans (Nat.le_trans mv.toks (Nat.le_succ _)) q5) q6 q7 q8 q9
    . have oth : ∀ b o, b ≠ a -> s'.heap.get? b = some o -> (s'.heap.update a (Obj.putSet es' (tbl led p'))).get? b = some o := fun b o hb e => (Heap.get?_update_other _ _ (Ne.symm hb)).trans e
      have len' : es'.size = es.size + 1 := by
        have := pm.length_eq
        rw [List.length_append, Array.length_toList, Array.length_toList] at this
        exact this
      have pn : (nsE es').Perm (nsE es ++ [(n : Int)]) := by
        have := pm.map (·.1)
        rwa [List.map_append] at this
      have nn : (n : Int) ∉ nsE es := fun z => by
        obtain ⟨e, he, e1⟩ := List.mem_map.mp z
        exact hno e he e1
      refine wpAny_pure ⟨plainId_quiet plain_upd _, ih (i + 1) _ es' ep' p' (by omega) (by omega) (W.frame _ s' _ _ st' (Nat.le_succ _) fun b hb o e => oth b o (fun z => fpa (z ▸ hb)) e) g sm' (by omega) (pn.nodup_iff.mpr (List.nodup_append.mpr ⟨nd, by simp, fun x hx y hy z => by rw [List.mem_singleton] at hy; exact nn (hy ▸ z ▸ hx)⟩)) (fun x => ?_) fun s2 es2 ep2 p2 q1 q2 q3 q4 q5 q6 q7 q8 q9 => ?_⟩
      . rw [tk, pn.mem_iff, List.mem_append, List.mem_append, hm x]
      . exact hR s2 es2 ep2 p2 (fun b o hb hb2 e => q1 b o hb hb2 (oth b o hb (mv.heap b o (by simp [hb2]) e))) (q2.trans mv.gens) (q3.trans mv.drawn) (q4.trans mv.os) (Nat.le_trans (Nat.le_trans mv.toks (Nat.le_succ _)) q5) q6 q7 q8 q9
end
end Sp
set_option Elab.async false
set_option linter.all false
set_option maxRecDepth 100000
namespace Sp
open PySem
section
variable {prog : Program} {w : World} {A : Around} {E : Value -> Shared -> Prop} {s : Shared}
theorem code_set_new1 (x : Value) {Q₁ : Value -> Shared -> Prop} (h : Q₁ (.ref s.heap.objs.size) { s with heap := s.heap.push (SetO #[] 0 (!byT w) []) }) :
    codeAny (model prog w) A (.call (.builtin "set.__new__") ⟨[.type "set", x], []⟩) (wants Q₁ E) s := by
  refine codeAny_of_tree ?_
  show wpAny _ A.in1 (do checkBuiltinCall "set.__new__" ⟨[.type "set", x], []⟩; again (.builtin "set.__new__" ⟨[.type "set", x], []⟩)) _ _ s
  refine wpAny_bind (wpAny_of_eq (newCall_set_1 x) (wpAny_pure ⟨plainId_quiet F.plain_set_new _, codeAny_builtin F.entry_set_new ?_⟩))
  rw [Around.under_plainId F.plain_set_new _]
  unfold Builtin.«set.__new__» Builtin.Frozenset.newClass
  have hsub := sub_set_self
  obtain ⟨hp, g, d, tk, os⟩ := s
  dsimp only
  wp_walk
  refine wpAny_askSetting (wpAny_pure ?_)
  dsimp only
  simp only [newObj]
  refine wpAny_bind (wpAny_alloc (wpAny_pure ?_))
  exact wpAny_pure h
theorem check_set_init2 {M : Model} {self x : Value} {Q : Unit -> Shared -> Prop} (hT : s.TypeIs self "set") (hQ : Q () s) :
    wpAny M A (checkBuiltinCall "set.__init__" ⟨[self, x], []⟩) Q E s := by
  simp only [checkBuiltinCall, kind_set_init, split_set_init, sig_set_init]
  refine wpAny_bind (wpAny_isInstance hT sub_set_self ?_)
  simp only [Bool.not_true, Bool.false_eq_true, if_false]
  unfold Bind.checkArgs
  dsimp only
  refine wpAny_bind (m := Bind.printed "set" true _ _) (PyProof.Rows.printed_name (by decide) ?_)
  refine wpAny_bind (m := Bind.printed "*" false _ _) (PyProof.Rows.printed_star (self := self) rfl hT fun short => ?_)
  have hrn : (Manifest.Receiver.self == Manifest.Receiver.none) = false := by decide
  have hn : (if (Manifest.Receiver.self == Manifest.Receiver.none) = true then [self, x].length else [self, x].length - 1) = 1 := by simp [hrn]
  rw [hn]
  simp only [List.map_nil]
  have hc : Bind.check ⟨.positional, "set", "*", .self, [⟨"iterable", .posOnly, false⟩]⟩ "set" short 1 [] = pure () := by
    simp [Bind.check, Bind.checkCount, Bind.isPositional]
    intro h
    exact absurd h (by decide)
  rw [hc]
  exact wpAny_pure hQ
theorem upd_from {id : String} (hh : A.handled = none) {ax a : Addr} {led : Bool} {items : Array Value} {ws : List Int} {Q : Unit -> Shared -> Prop} (hax : a ≠ ax) (ha : s.heap.get? a = some (SetO #[] 0 led [])) (ht : s.heap.IsTuple ax items) (hw : ∀ (j : Nat) v, items[j]? = some v -> ∃ (n : Nat) (u : Tok), ws[j]? = some (n : Int) /\ n <= 20 /\ v = .int n u) (h4 : items.size <= 4) (hlen : ws.length = items.size)
    (hQ : ∀ s' es' ep' p', (∀ b o, b ≠ a -> s.heap.get? b = some o -> s'.heap.get? b = some o) -> s'.gens = s.gens -> s'.drawn = s.drawn -> s'.os = s.os -> s.toks <= s'.toks -> s'.heap.get? a = some (SetO es' ep' led p') -> Sm es' p' -> (nsE es').Nodup -> (∀ x, x ∈ nsE es' ↔ x ∈ ws) -> Q () s') :
    wpAny (model prog w) A (Builtin.Frozenset.updateFrom id a (.ref ax)) Q E s := by
  have hT := ht.typeIs
  unfold Builtin.Frozenset.updateFrom
  refine wpAny_bind ?_
  unfold Builtin.Frozenset.isAnySet
  unfold orM
  refine wpAny_bind (wpAny_isInstance (b := false) hT (by rw [isSubtype_type]; kernel_rfl) ?_)
  show wpAny _ _ (isInstance (.ref ax) (.type "frozenset")) _ _ _
  refine wpAny_isInstance (b := false) hT (by rw [isSubtype_type]; kernel_rfl) ?_
  dsimp only
  rw [if_neg Bool.false_ne_true]
  refine wpAny_bind (wpAny_typeOf hT ?_)
  rw [if_neg (by decide)]
  refine wpAny_bind (wpAny_pyIter_tuple ht ?_)
  have hz : s.heap.objs.size ≠ a := fun z => Nat.lt_irrefl _ (z ▸ Heap.lt_size ha)
  have hzx : ax ≠ s.heap.objs.size := fun z => by
    obtain ⟨o, hx, _⟩ := ht
    exact Nat.lt_irrefl _ (z ▸ Heap.lt_size hx)
  refine wpAny_bind (wpAny_runValue (upd_loop (I := s.heap.objs.size) (ax := ax) (a := a) (led := led) hh hzx (Ne.symm hz) hax hw h4 hlen items.size 0 _ #[] 0 [] rfl (Nat.zero_le _) ⟨?_, ?_⟩ (Heap.get?_push_of_some _ ha) ⟨by decide +kernel, rfl, fun e he => absurd he List.not_mem_nil⟩ (Nat.le_refl _) List.nodup_nil (fun x => by simp) fun s' es' ep' p' q1 q2 q3 q4 q5 q6 q7 q8 q9 => ?_))
  . exact ⟨_, Heap.get?_push_size _ rfl, rfl, rfl⟩
  . obtain ⟨o, hx, hr⟩ := ht
    exact ⟨o, Heap.get?_push_of_some _ hx, hr⟩
  . refine wpAny_pure (hQ s' es' ep' p' (fun b o hb e => q1 b o hb (fun z => Nat.lt_irrefl _ (z ▸ Heap.lt_size e)) (Heap.get?_push_of_some _ e)) q2 q3 q4 q5 q6 q7 q8 q9)
end
end Sp
set_option Elab.async false
set_option linter.all false
set_option maxRecDepth 100000
namespace Sp
open PySem
section
variable {prog : Program} {w : World} {A : Around} {E : Value -> Shared -> Prop} {s : Shared}
theorem call_set_1 (hh : A.handled = none) {ax : Addr} {items : Array Value} {ws : List Int} {Q : Value -> Shared -> Prop} (ht : s.heap.IsTuple ax items) (hw : ∀ (j : Nat) v, items[j]? = some v -> ∃ (n : Nat) (u : Tok), ws[j]? = some (n : Int) /\ n <= 20 /\ v = .int n u) (h4 : items.size <= 4) (hlen : ws.length = items.size)
    (hQ : ∀ s' es' ep' p', (∀ b o, s.heap.get? b = some o -> s'.heap.get? b = some o) -> s'.gens = s.gens -> s'.drawn = s.drawn -> s'.os = s.os -> s.toks <= s'.toks -> s'.heap.get? s.heap.objs.size = some (SetO es' ep' (!byT w) p') -> Sm es' p' -> (nsE es').Nodup -> (∀ x, x ∈ nsE es' ↔ x ∈ ws) -> Q (.ref s.heap.objs.size) s') :
    wpAny (model prog w) A (call (.type "set") [.ref ax]) Q E s := by
  obtain ⟨c, tl, hmro⟩ := F.called_set.mro
  have hmade := F.called_set.made
  have hsub := F.called_set.sub
  refine wpAny_call (codeAny_of_tree ?_)
  show wpAny _ _ (callAny (.type "set") _) _ _ _
  refine wpAny_pure ⟨Code.quiet_builtin _ (by decide +kernel), codeAny_builtin F.entry_type_call ?_⟩
  rw [Around.under_plain (weight_type_call_type "set" [.ref ax] []) rfl]
  have h1 := F.called_set.notType
  have h2 := F.called_set.canCreate
  have hct := typeCall_set_1 (.ref ax)
  repeat (any_goals (first | assumption | wp_step))
  refine codeAny_mono (code_set_new1 (E := E) (.ref ax) (Q₁ := fun obj s₁ => obj = .ref s.heap.objs.size /\ s₁ = { s with heap := s.heap.push (SetO #[] 0 (!byT w) []) }) ⟨rfl, rfl⟩) fun r s₁ hr => ?_
  cases r with
  | error e => exact hr
  | ok fl =>
    cases fl with
    | ret obj =>
      obtain ⟨rfl, rfl⟩ := hr
      have hS : (s.heap.push (SetO #[] 0 (!byT w) [])).get? s.heap.objs.size = some (SetO #[] 0 (!byT w) []) := Heap.get?_push_size _ rfl
      have hT : Shared.TypeIs { s with heap := s.heap.push (SetO #[] 0 (!byT w) []) } (.ref s.heap.objs.size) "set" := ⟨_, hS, rfl⟩
      have hli := F.called_set.init.lookup
      have hbi := F.called_set.init.bind (.ref s.heap.objs.size)
      repeat (any_goals (first | assumption | wp_step))
      refine codeAny_mono (codeAny_call_builtin (R := wants (fun r s₂ => r = .none /\ Q (.ref s.heap.objs.size) s₂) E) F.called_set.init.plain F.entry_set_init (check_set_init2 hT ?_)) fun r₂ s₂ hr₂ => ?_
      . unfold Builtin.«set.__init__» noKeywords
        generalize hU : Builtin.Frozenset.updateFrom = U
        wp_walk
        subst hU
        refine upd_from (A := A.in1.in1) (ws := ws) hh ?_ hS (items := items) ?_ hw h4 hlen fun s' es' ep' p' q1 q2 q3 q4 q5 q6 q7 q8 q9 => ?_
        . exact fun z => by
            obtain ⟨o, hx, _⟩ := ht
            exact Nat.lt_irrefl _ (z ▸ Heap.lt_size hx)
        . obtain ⟨o, hx, hr⟩ := ht
          exact ⟨o, Heap.get?_push_of_some _ hx, hr⟩
        . exact wpAny_pure ⟨rfl, hQ s' es' ep' p' (fun b o e => q1 b o (fun z => Nat.lt_irrefl _ (z ▸ Heap.lt_size e)) (Heap.get?_push_of_some _ e)) q2 q3 q4 q5 q6 q7 q8 q9⟩
      . cases r₂ with
        | error e => exact hr₂
        | ok fl₂ =>
          cases fl₂ with
          | ret r =>
            obtain ⟨rfl, hq⟩ := hr₂
            repeat (any_goals (first | assumption | wp_step))
          | _ => exact hr₂.elim
    | _ => exact hr.elim
end
end Sp
set_option Elab.async false
set_option linter.all false
set_option maxRecDepth 100000
namespace Sp
open PySem PyProof.Rows
section
variable {prog : Program} {w : World} {A : Around} {E : Value -> Shared -> Prop} {s : Shared}
theorem sm_ints : ∀ {l : List (Int × Value)}, (∀ e ∈ l, ∃ (v : Nat) (u : Tok), v <= 20 /\ e = ((v : Int), .int v u)) -> IntsAre (l.map (·.2)) (l.map (·.1))
  | [], _ => .nil
  | e :: l, h => by
    obtain ⟨v, u, _, rfl⟩ := h e List.mem_cons_self
    exact .cons _ _ (sm_ints fun e he => h e (List.mem_cons_of_mem _ he))
theorem sorted_set (hh : A.handled = none) {a : Addr} {es : Array (Int × Value)} {ep : Nat} {p : List Nat} {Q : Value -> Shared -> Prop} (ho : s.heap.get? a = some (SetO es ep (!byT w) p)) (sm : Sm es p)
    (hQ : ∀ s' (r : Addr) (out : Array Value) (m : Nat) (ns' : List Int), (∀ b o, s.heap.get? b = some o -> s'.heap.get? b = some o) -> s'.gens = s.gens -> s'.drawn = s.drawn -> s'.os = s.os -> s.toks <= s'.toks -> a < r -> s'.heap.get? r = some (seqObj "list" out m) -> IntsAre out.toList ns' -> ns'.Perm (nsE es) -> ns'.Pairwise (· <= ·) -> Q (.ref r) s') :
    wpAny (model prog w) A (call (.builtin "sorted") [.ref a]) Q E s := by
  refine Calls.call_function_entry kind_sorted plain_sorted entry_sorted (args_sorted1 _) ?_
  unfold Builtin.«sorted»
  refine wpAny_bind (m := checkCount "sorted" 1 1 _) (wpAny_pure ?_)
  refine wpAny_bind (collect_set (A := A.in1) hh ho sm fun s1 l k1 k2 k3 k4 k5 pm => ?_)
  have l64 : (l.map (·.2)).length < 64 := by
    rw [List.length_map, pm.length_eq, Array.length_toList, <- sm.len]
    exact Nat.lt_of_le_of_lt (subs_le sm.sub) (by decide)
  refine wpAny_bind (wpAny_newList ?_ (Nat.le_trans (Nat.le_of_lt l64) (by rw [sizeLine_eq]; decide)))
  have hI : IntsAre (l.map (·.2)) (l.map (·.1)) := sm_ints fun e he => sm.itz e (pm.mem_iff.mp he)
  have hoL : (s1.heap.push (seqObj "list" (l.map (·.2)).toArray 0)).get? s1.heap.objs.size = some (seqObj "list" (l.map (·.2)).toArray 0) := Heap.get?_push_size _ rfl
  show wpAny _ _ _ _ _ { s1 with heap := s1.heap.push (seqObj "list" (l.map (·.2)).toArray 0) }
  refine wpAny_bind (wpAny_holding (wpAny_call_entry slot_list_sort ⟨_, hoL, rfl⟩ entry_list_sort (list_sort_tree hoL hI l64 fun out ns' a1 a2 a3 => ⟨_, rfl, ?_⟩) (args_list_sort _)))
  obtain ⟨m, hm⟩ := sortedHeap_at (out := out) hoL
  refine wpAny_pure ⟨_, rfl, hQ _ s1.heap.objs.size out m ns' (fun b o e => ?_) k2 k3 k4 k5 (Heap.lt_size (k1 a _ ho)) hm a1 (a2.trans (pm.map _)) a3⟩
  . have hb := Heap.lt_size (k1 b o e)
    have hne : b ≠ s1.heap.objs.size := fun z => Nat.lt_irrefl _ (z ▸ hb)
    rw [sortedHeap_old hne (by rw [size_push']; exact Nat.lt_succ_of_lt hb)]
    exact Heap.get?_push_of_some _ (k1 b o e)
end
end Sp
set_option Elab.async false
set_option linter.all false
set_option maxRecDepth 100000
namespace Sp
open PySem PySem.Spec PyProof.Rows L2
variable {X : Cx}
def dd : List Int -> List Int
  | [] => []
  | x :: l => if x ∈ l then dd l else x :: dd l
theorem dd_mem : ∀ {l : List Int} {x : Int}, x ∈ dd l ↔ x ∈ l
  | [], x => Iff.rfl
  | y :: l, x => by
    unfold dd
    split
    . rename_i h
      rw [dd_mem, List.mem_cons]
      exact ⟨.inr, fun z => z.elim (fun z => z ▸ h) id⟩
    . rw [List.mem_cons, List.mem_cons, dd_mem]
theorem dd_nodup : ∀ l : List Int, (dd l).Nodup
  | [] => List.nodup_nil
  | y :: l => by
    unfold dd
    split
    . exact dd_nodup l
    . rename_i h
      exact List.nodup_cons.mpr ⟨fun z => h (dd_mem.mp z), dd_nodup l⟩
theorem perm_nd {a b : List Int} (ha : a.Nodup) (hb : b.Nodup) (h : ∀ x, x ∈ a ↔ x ∈ b) : a.Perm b := (List.perm_ext_iff_of_nodup ha hb).mpr h
theorem ints_at : ∀ {us : List Value} {ns : List Int}, IntsAre us ns -> (∀ n ∈ ns, 0 <= n /\ n <= 20) -> ∀ (j : Nat) v, us[j]? = some v -> ∃ (n : Nat) (u : Tok), ns[j]? = some (n : Int) /\ n <= 20 /\ v = .int n u
  | _, _, .nil, _, j, v, h => by simp at h
  | _, _, .cons n t hI, hb, 0, v, h => by
    have h : Value.int n t = v := Option.some.inj h
    obtain ⟨h0, h1⟩ := hb n List.mem_cons_self
    obtain ⟨m, rfl⟩ := Int.eq_ofNat_of_zero_le h0
    exact ⟨m, t, rfl, by omega, h.symm⟩
  | _, _, .cons n t hI, hb, j + 1, v, h => ints_at hI (fun n hn => hb n (List.mem_cons_of_mem _ hn)) j v h
theorem ed_srs {ρ : Rho} {e : Expr} {f g : Str} {p q r t : Pos} {ns : List Int} {k : Nat} (hc : X.calm = true) (hf : f = "sorted") (hg : g = "set") (gf : Gl X f) (gg : Gl X g) (mf : X.mg f = none) (mg : X.mg g = none)
    (h : AD X ρ [e] [.tup (ns.map D.int)] k) (hst : ∀ y ∈ [e], ∀ x p, y ≠ .Starred x p) (h4 : ns.length <= 4) (hb : ∀ n ∈ ns, 0 <= n /\ n <= 20) : ED X ρ (.Call (.Name f p) [.Call (.Name g q) [e] [] r] [] t) (.lst ((srtN (dd ns)).map D.int)) 0 := by
  intro ow pins s σ H Q I ⟨E, qq⟩
  subst hf hg
  refine wpAny_Call_Name_kw (ld_blt I gf mf (u := .builtin "sorted") (by decide +kernel) ?_ (by decide +kernel) (by decide +kernel))
  refine callWith_kw (kws := []) (Calls.spliced_cons (wpAny_Call_Name_kw (ld_blt I gg mg (u := .type "set") (by decide +kernel) ?_ (by decide +kernel) (by decide +kernel)))) rfl rfl
  have n1 := nostar_one (env := X.env) (es := []) (hst e List.mem_cons_self)
  have n2 : (backTo r (starEach [] X.env)).any (·.1) = false := nostar_any fun x hx => by cases hx
  refine PyProof.Rows.callWith_type1 (thn (h ow r pins s σ H _ I ⟨E, fun vs H1 s1 r1 => (show (fun vs H1 => Same H H1 /\ RepL X.K H1 (Kp ow H k) [.tup (ns.map D.int)] vs) vs H1 from ⟨s1, r1⟩)⟩) fun us s1 ⟨vs, H1, I1, rv, sm, rp⟩ => ?_) n1 n2
  obtain ⟨v, rfl, rv1⟩ := rp.only
  rw [Rep] at rv1
  obtain ⟨a, xs, rfl, hq, rl⟩ := rv1
  obtain ⟨u, rfl, ru⟩ := vals1 rv
  cases (show u = Value.ref a from ru)
  obtain ⟨its, rvs, pt, hz⟩ := I1.tuple hq
  have hh : X.A.handled = none := I.ok.hd hc
  have ex := repl_ints rl
  subst ex
  have hI := ints_are rvs
  have el := rvs.length
  rw [List.length_map] at el
  have pt' : s1.heap.IsTuple a its.toArray := pt
  refine call_set_1 hh pt' (ws := ns) (fun j v hj => ints_at hI hb j v (by simpa using hj)) (by rw [List.size_toArray, <- el]; exact h4) (by rw [List.size_toArray]; exact el) fun s2 es ep pp k1 k2 k3 k4 k5 ho sm2 nd hm => ?_
  refine Calls.spliced_nil (kws_nil ?_)
  refine sorted_set hh ho sm2 fun s3 r0 out m ns' q1 q2 q3 q4 q5 rn ro a1 a2 a3 => ?_
  have en : ns' = srtN (dd ns) := srtN_uniq (a2.trans (perm_nd nd (dd_nodup ns) fun x => (hm x).trans dd_mem.symm)) a3
  subst en
  have kk : ∀ b o, s1.heap.get? b = some o -> s3.heap.get? b = some o := fun b o e => q1 b o (k1 b o e)
  have g2 := q2.trans k2
  have g3 := q3.trans k3
  have g4 := q4.trans k4
  obtain ⟨h3, gs, dr, tk, os⟩ := s3
  obtain ⟨hp, gs1, dr1, tk1, os1⟩ := s1
  dsimp only at g2 g3 g4 kk rn ro
  subst g2 g3 g4
  have fr : ∀ c : Nat, hp.objs.size <= c -> H1 c = none := fun c hc => I1.hok.fresh hc
  have rn : hp.objs.size < r0 := rn
  have hk0 : HOk X.prog X.w H1 h3 := I1.hok.kept kk
  have ld : (srtN (dd ns)).length <= sizeLine := by
    have e1 := a2.length_eq
    have e2 : (nsE es).length = pp.length := by show (es.toList.map (·.1)).length = _; rw [List.length_map, Array.length_toList]; exact sm2.len.symm
    rw [e1, e2]
    exact Nat.le_trans (subs_le sm2.sub) (by rw [sizeLine_eq]; decide)
  have ob : ObjOk X.prog X.w (upd H1 r0 (.lst ((srtN (dd ns)).map V.int))) h3 r0 (.lst ((srtN (dd ns)).map V.int)) := ⟨by rw [List.length_map]; exact ld, out.toList, m, are_ints a1, by rw [Array.toArray_toList]; exact ro⟩
  have hk1 := hok_more hk0 (fr r0 (Nat.le_of_lt rn)) ob
  generalize hH : upd H1 r0 (.lst ((srtN (dd ns)).map V.int)) = H4 at hk1
  have g6 : H4 r0 = some (.lst ((srtN (dd ns)).map V.int)) := by rw [<- hH]; exact upd_same
  have old : ∀ c : Nat, c < hp.objs.size -> H4 c = H1 c := fun c hc => by rw [<- hH, upd_ne (by show (c : Nat) ≠ r0; have rn' : hp.objs.size < (r0 : Nat) := rn; omega)]
  have inn : ∀ (c : Nat) o, H1 c = some o -> c < hp.objs.size := fun c o e => by
    rcases Nat.lt_or_ge c hp.objs.size with z | z
    . exact z
    . rw [fr c z] at e; cases e
  have s4 : Same H1 H4 := fun c o e => (old c (inn c o e)).trans e
  have I4 : Inv X pins σ H4 ⟨h3, gs, dr, tk, os⟩ := I1.un (t' := tk) (un_more kk (fun c hc => old c hc) fun c o e => inn c o e) hk1
  refine ⟨.ref r0, H4, I4, rfl, qq _ H4 (sm.trans s4) ?_⟩
  rw [Rep]
  exact ⟨r0, _, true, rfl, g6, ⟨rfl, sm.free (fr r0 (Nat.le_of_lt rn))⟩, ints_repl _⟩
end Sp
set_option Elab.async false
set_option linter.all false
set_option maxRecDepth 100000
namespace Sp
open PySem PySem.Spec PyProof.Rows L2
variable {X : Cx}
inductive Fck (Φ : Fx) (sc : Scope) (tg : Expr) (body : List Stmt) : List D -> Rho -> Rho -> Prop where
  | nil {ρ : Rho} : Fck Φ sc tg body [] ρ ρ
  | cons {d : D} {ds : List D} {ρ ρ1 ρ2 ρ3 : Rho} (hb : bindG sc tg d ρ = some ρ1) (h : Okr (exSs Φ body sc ρ1) (.nx ρ2)) (k : Fck Φ sc tg body ds ρ2 ρ3) : Fck Φ sc tg body (d :: ds) ρ ρ3
inductive Rk (Φ : Fx) (sc : Scope) : List Stmt -> Rho -> D -> Prop where
  | base {ss : List Stmt} {ρ : Rho} {r : D} (h : Okr (exSs Φ ss sc ρ) (.rt r)) : Rk Φ sc ss ρ r
  | cut (n : Nat) {ss : List Stmt} {ρ ρ1 : Rho} {r : D} (h : Okr (exSs Φ (ss.take n) sc ρ) (.nx ρ1)) (k : Rk Φ sc (ss.drop n) ρ1 r) : Rk Φ sc ss ρ r
  | forS {tg e : Expr} {f g : Str} {p q r t pos : Pos} {body ss : List Stmt} {ns : List Int} {j : Nat} {ρ ρ1 : Rho} {z : D} (h : Okr (evEs Φ [e] sc (demote (.Call (.Name f p) [.Call (.Name g q) [e] [] r] [] t) ρ)) ([.tup (ns.map D.int)], j)) (h4 : ns.length <= 4) (hb : ∀ n ∈ ns, 0 <= n /\ n <= 20)
    (hr : Fck Φ sc tg body ((srtN (dd ns)).map D.int) (demote (.Call (.Name f p) [.Call (.Name g q) [e] [] r] [] t) ρ) ρ1) (k : Rk Φ sc ss ρ1 z) (hf : f = "sorted" := by rfl) (hg : g = "set" := by rfl) (gf : sc.names.lookup f = some .globalImplicit := by rfl) (gg : sc.names.lookup g = some .globalImplicit := by rfl) :
    Rk Φ sc (.For tg (.Call (.Name f p) [.Call (.Name g q) [e] [] r] [] t) body [] pos :: ss) ρ z
  | tupS (b : Bool) {e : Expr} {ns : List Int} {k n0 : Nat} {f g : Str} {p q r t p0 kp pos : Pos} {ss : List Stmt} {ρ : Rho} (h : Okr (evEs Φ [e] sc ρ) ([.lst (ns.map D.int)], k)) (hn : ns.length < 64) (hf : f = "sorted" := by rfl) (hg : g = "tuple" := by rfl) (gf : sc.names.lookup f = some .globalImplicit := by rfl) (gg : sc.names.lookup g = some .globalImplicit := by rfl) :
    Rk Φ sc (.Return (some (.Call (.Name g q) [.Call (.Name f p) [e] (kwOf b n0 p0 kp) t] [] r)) pos :: ss) ρ (.tup ((srtB b ns).map D.int))
theorem fck_ok {Φ : Fx} {sc : Scope} {H0 : Hp} {tg : Expr} {body : List Stmt} {ds : List D} {ρ ρ' : Rho} (G : Good Φ X sc) (hp : PassesOwn (model X.prog X.w) X.A X.env X.xe) (h : Fck Φ sc tg body ds ρ ρ') : ChS X H0 tg body ds ρ (.nx ρ') := by
  induction h with
  | nil => exact rfl
  | cons hb h k ih => exact ⟨_, gd_of G hb, .inl ⟨_, exs_ok _ h G hp, ih⟩⟩
theorem lless_ints : ∀ ns : List Int, llessL (ns.map D.int) = true
  | [] => rfl
  | n :: ns => by rw [List.map_cons, llessL, lless_ints ns]; rfl
theorem rk_ok {Φ : Fx} {sc : Scope} {H0 : Hp} {ss : List Stmt} {ρ : Rho} {r : D} (G : Good Φ X sc) (hp : PassesOwn (model X.prog X.w) X.A X.env X.xe) (h : Rk Φ sc ss ρ r) : SsD X H0 ρ ss (.rt r) := by
  induction h with
  | base h => exact exs_ok _ h G hp
  | cut n h k ih =>
    rename_i ss ρ ρ1 r
    rw [<- List.take_append_drop n ss]; exact ssd_app G hp h ih
  | forS h h4 hb hr k hf hg gf gg ih =>
    obtain ⟨l7, h7, p7⟩ := h
    obtain ⟨hst, _⟩ := evEs_nostar h7 p7
    subst hf hg
    exact ssd_cons (sd_forC hp G.calm (ie_list (ed_srs G.calm rfl rfl (G.gl _ gf) (G.gl _ gg) (G.bl _ (by decide)) (G.bl _ (by decide)) (evs_ok _ h7 p7 G) hst h4 hb)) (Nat.zero_le _) (fck_ok G hp hr) (fun x => rfl)) ih
  | tupS b h hn hf hg gf gg =>
    obtain ⟨l7, h7, p7⟩ := h
    obtain ⟨hst, _⟩ := evEs_nostar h7 p7
    subst hg
    refine ssd_stop (sd_ret (k := 0) (ed_blt G bTuple_ok gg (ad_cons (ed_srt b hf (G.gl _ gf) (by subst hf; exact G.bl _ (by decide +kernel)) (evs_ok [_] h7 p7 G) hst hn) ad_nil (nostar_one fun y p z => nomatch z)) (fun x hx y p z => by rw [List.mem_singleton] at hx; subst hx; cases z) rfl ⟨lless_ints _, True.intro⟩) (.inl rfl)) fun _ z => nomatch z
def RkRun (Φ : Fx) (sc : Scope) (ps : List Str) (ss : List Stmt) (ds : List D) (r : D) : Prop := ds.length = ps.length /\ Rk Φ sc ss (argR ps ds) r
theorem fnOk_Rk {P : Program} {w : World} {K : PySem.W.Frag} {mg : Str -> Option Value} {base : Heap} {k : Nat} {g qual : Str} {st : Stmt} {f : Addr} {fd : FuncData} {ps : List Str} {Φ : Fx} {F : List D -> Rs D} (Fn : Fun K g qual st f fd)
    (S : FnScope (localsOf (defScope st)) ps (defScope st)) (hΦ : Fxo P w K mg base k Φ) (hrun : ∀ ds r, Okr (F ds) r -> RkRun Φ (defScope st) ps (defBody st) ds r) : FnOk P w K mg base CX0 (k + 1) f fd ps (spD K F) := by
  refine Fn.ok S (fun vs H Q E h => ?_) (fun cdv A outer s H vs Q E hr h => ?_)
  . obtain ⟨ds, r, l, h1, h2, hp, _⟩ := h
    rw [<- h1.length]
    exact (hrun ds r ⟨l, h2, hp⟩).1
  . obtain ⟨ds, r, l, h1, h2, hp, qq⟩ := h
    obtain ⟨hl, hr'⟩ := hrun ds r ⟨l, h2, hp⟩
    have G := good_mk (outer := outer) (H := H) (E := E) S hΦ hr
    obtain ⟨E0, hsl⟩ := env_mk (P := P) (w := w) (mg := mg) (base := base) (qual := qual) (f := f) (cdv := cdv) (A := A) (outer := outer) (s := s) (E := E) S h1 hl
    have B0 : BaseOk H (fun _ => none) H := fun a o h => ⟨h, rfl⟩
    exact ⟨_, rk_ok (H0 := H) G PassesOwn.never hr', fun _ => none, E0, hsl, B0, fun v H' sm rp => qq v H' sm rp⟩
end Sp
set_option Elab.async false
set_option linter.all false
set_option maxRecDepth 100000
namespace K
open PySem L2 Sp Qm
end K
set_option Elab.async false
set_option linter.all false
set_option maxRecDepth 1000000
namespace K
open PySem L2 Sp Qm
def dvs (n : Nat) : List Nat := (List.range (n + 1)).filter fun d => decide (d ∣ n)
theorem mem_dvs {n d : Nat} (hn : 0 < n) : d ∈ dvs n ↔ d ∣ n := by
  unfold dvs
  rw [List.mem_filter, List.mem_range, decide_eq_true_eq]
  exact ⟨fun h => h.2, fun h => ⟨Nat.lt_succ_of_le (Nat.le_of_dvd hn h), h⟩⟩
theorem nd_dvs (n : Nat) : (dvs n).Nodup := List.Pairwise.filter _ List.nodup_range
def fs (n : Nat) : Nat := ((dvs n).filter fun d => !decide (d % 4 = 0)).sum
def tls (n : Nat) : Nat -> List Nat
  | 0 => []
  | t + 1 => tls n t ++ (if n % (t + 1) = 0 then (if (t + 1) * (t + 1) = n then [t + 1] else [t + 1, n / (t + 1)]) else [])
theorem mem_tls {n d : Nat} (hn : 0 < n) : ∀ t, d ∈ tls n t ↔ ∃ k, 1 <= k /\ k <= t /\ k ∣ n /\ (d = k \/ d = n / k)
  | 0 => ⟨fun h => by simp [tls] at h, fun ⟨k, h1, h2, _⟩ => by omega⟩
  | t + 1 => by
    have new : d ∈ (if n % (t + 1) = 0 then (if (t + 1) * (t + 1) = n then [t + 1] else [t + 1, n / (t + 1)]) else []) ↔ (t + 1 ∣ n /\ (d = t + 1 \/ d = n / (t + 1))) := by
      by_cases h : n % (t + 1) = 0
      . have hd := Nat.dvd_of_mod_eq_zero h
        rw [if_pos h]
        by_cases h2 : (t + 1) * (t + 1) = n
        . rw [if_pos h2]
          have e : n / (t + 1) = t + 1 := by rw [<- h2]; exact Nat.mul_div_cancel _ (by omega)
          rw [e]
          simp [hd]
        . rw [if_neg h2]
          simp [hd]
      . rw [if_neg h]
        have hd : ¬ t + 1 ∣ n := fun q => h (Nat.mod_eq_zero_of_dvd q)
        simp [hd]
    rw [tls, List.mem_append, mem_tls hn t, new]
    constructor
    . rintro (⟨k, h1, h2, h3⟩ | ⟨h1, h2⟩)
      . exact ⟨k, h1, by omega, h3⟩
      . exact ⟨t + 1, by omega, Nat.le_refl _, h1, h2⟩
    . rintro ⟨k, h1, h2, h3, h4⟩
      rcases Nat.lt_or_ge t k with q | q
      . have : k = t + 1 := by omega
        subst this
        exact .inr ⟨h3, h4⟩
      . exact .inl ⟨k, h1, q, h3, h4⟩
theorem nd_tls {n : Nat} (hn : 0 < n) : ∀ t, t * t <= n -> (tls n t).Nodup
  | 0, _ => List.nodup_nil
  | t + 1, h => by
    have ht : t * t <= n := Nat.le_trans (Nat.mul_le_mul (Nat.le_succ t) (Nat.le_succ t)) h
    rw [tls, List.nodup_append]
    by_cases h1 : n % (t + 1) = 0
    . have hd := Nat.dvd_of_mod_eq_zero h1
      obtain ⟨c, hc⟩ := hd
      have e1 : n / (t + 1) = c := by rw [hc]; exact Nat.mul_div_cancel_left _ (by omega)
      have c1 : t + 1 <= c := Nat.le_of_mul_le_mul_left (by rw [<- hc]; exact h) (Nat.succ_pos t)
      have far : ∀ a ∈ tls n t, ∀ b, (b = t + 1 \/ b = c) -> a ≠ b := by
        intro a ha b hb e
        obtain ⟨k, k1, k2, ⟨x, hx⟩, k4⟩ := (mem_tls hn t).mp ha
        have e2 : n / k = x := by rw [hx]; exact Nat.mul_div_cancel_left _ (by omega)
        have x1 : c < x := by
          rcases Nat.lt_or_ge c x with q | q
          . exact q
          . exfalso
            have a1 : k * x <= k * c := Nat.mul_le_mul_left k q
            have a2 : k * c < (t + 1) * c := Nat.mul_lt_mul_of_pos_right (by omega) (by omega)
            omega
        rw [e2] at k4
        omega
      rw [if_pos h1]
      by_cases h2 : (t + 1) * (t + 1) = n
      . rw [if_pos h2]
        exact ⟨nd_tls hn t ht, by simp, fun a ha b hb => far a ha b (.inl (by simpa using hb))⟩
      . rw [if_neg h2, e1]
        have ne : t + 1 ≠ c := fun q => h2 (by rw [hc, <- q])
        exact ⟨nd_tls hn t ht, by simp [ne], fun a ha b hb => far a ha b (by simpa using hb)⟩
    . rw [if_neg h1]
      exact ⟨nd_tls hn t ht, List.nodup_nil, fun a _ b hb => by simp at hb⟩
theorem tls_perm {n t : Nat} (hn : 0 < n) (h1 : t * t <= n) (h2 : n < (t + 1) * (t + 1)) : (tls n t).Perm (dvs n) := by
  rw [List.perm_ext_iff_of_nodup (nd_tls hn t h1) (nd_dvs n)]
  intro d
  rw [mem_tls hn, mem_dvs hn]
  constructor
  . rintro ⟨k, k1, k2, k3, rfl | rfl⟩
    . exact k3
    . exact ⟨k, (Nat.div_mul_cancel k3).symm⟩
  . rintro ⟨x, hx⟩
    rcases Nat.lt_or_ge t d with q | q
    . have x0 : 0 < x := by
        rcases Nat.eq_zero_or_pos x with z | z
        . subst z; omega
        . exact z
      refine ⟨x, x0, ?_, ⟨d, by rw [hx, Nat.mul_comm]⟩, .inr (by rw [hx]; exact (Nat.mul_div_cancel _ x0).symm)⟩
      rcases Nat.lt_or_ge t x with q2 | q2
      . exfalso
        have := Nat.mul_le_mul (show t + 1 <= d from q) (show t + 1 <= x from q2)
        omega
      . exact q2
    . have d0 : 0 < d := by
        rcases Nat.eq_zero_or_pos d with z | z
        . subst z; omega
        . exact z
      exact ⟨d, d0, q, ⟨x, hx⟩, .inl rfl⟩
theorem cast_sum : ∀ l : List Nat, ((l.map fun x : Nat => (x : Int)).filter fun d => !decide (d.fmod 4 = 0)).sum = (((l.filter fun d => !decide (d % 4 = 0)).sum : Nat) : Int)
  | [] => rfl
  | a :: l => by
    have e : (!decide ((a : Int).fmod 4 = 0)) = !decide (a % 4 = 0) := by
      rw [Int.fmod_eq_emod_of_nonneg (a : Int) (by decide)]
      congr 1
      exact decide_eq_decide.mpr (by omega)
    rw [List.map_cons, List.filter_cons, List.filter_cons, e]
    by_cases h : a % 4 = 0
    . simp [h, cast_sum l]
    . simp [h, cast_sum l]
theorem len_tls (n : Nat) : ∀ t, (tls n t).length <= 2 * t
  | 0 => Nat.le_refl 0
  | t + 1 => by
    rw [tls, List.length_append]
    have := len_tls n t
    split
    . split <;> simp <;> omega
    . simp; omega
theorem ex_root (n : Nat) : ∃ t, t * t <= n /\ n < (t + 1) * (t + 1) := by
  induction n with
  | zero => exact ⟨0, by decide, by decide⟩
  | succ n ih =>
    obtain ⟨t, h1, h2⟩ := ih
    rcases Nat.lt_or_ge (n + 1) ((t + 1) * (t + 1)) with q | q
    . exact ⟨t, by omega, q⟩
    . refine ⟨t + 1, q, ?_⟩
      have : (t + 1 + 1) * (t + 1 + 1) = (t + 1) * (t + 1) + (t + 1) + (t + 1) + 1 := by rw [Nat.add_mul (t + 1) 1, Nat.mul_add (t + 1)]; omega
      omega
theorem root_eq {n s t : Nat} (h1 : s * s <= n) (h2 : n < (s + 1) * (s + 1)) (h3 : t * t <= n) (h4 : n < (t + 1) * (t + 1)) : s = t := by
  rcases Nat.lt_trichotomy s t with q | q | q
  . have := Nat.mul_le_mul (show s + 1 <= t from q) (show s + 1 <= t from q); omega
  . exact q
  . have := Nat.mul_le_mul (show t + 1 <= s from q) (show t + 1 <= s from q); omega
theorem root_b {n t : Nat} (h : t * t <= n) (hn : n <= 1000000) : t <= 1000 := by
  rcases Nat.lt_or_ge 1000 t with q | q
  . have := Nat.mul_le_mul q q; omega
  . exact q
def due (n : Nat) : Int := if n = 0 then 1 else 8 * ((fs n : Nat) : Int)
def natJ (r : List Nat) : List Int := r.map fun x : Nat => (x : Int)
def dvF (m : Int) (c : Nat) : Int := (List.range (c - 1)).foldl (fun m k => m.fdiv ((2 + k : Nat) : Int)) m
def ordI (ns : List Int) : Int := ns.foldl (fun m p => if 0 < p then m * 2 else m) ((srtN (dd ns)).foldl (fun m p => dvF m (cntI ns p)) 24)
def orR : Nat -> Nat -> List (List Nat) -> Bool
  | 0, a, W => decide (400 < a) || decide ((W.map fun r => ordI (natJ r)).sum = due a)
  | k + 1, a, W => orR k a (W.filter fun r => decide (sqs r < a + 2 ^ k)) && orR k (a + 2 ^ k) (W.filter fun r => decide (a + 2 ^ k <= sqs r))
def blkO (a : Nat) (L : List (List Nat)) : List (List Nat) := L.filter fun r => decide (a <= sqs r) && decide (sqs r < a + 2 ^ 5)
theorem oc_0 : orR 5 0 (blkO 0 (rws 400 4)) = true := by decide +kernel
theorem oc_1 : orR 5 32 (blkO 32 (rws 400 4)) = true := by decide +kernel
theorem oc_2 : orR 5 64 (blkO 64 (rws 400 4)) = true := by decide +kernel
theorem oc_3 : orR 5 96 (blkO 96 (rws 400 4)) = true := by decide +kernel
theorem oc_4 : orR 5 128 (blkO 128 (rws 400 4)) = true := by decide +kernel
theorem oc_5 : orR 5 160 (blkO 160 (rws 400 4)) = true := by decide +kernel
theorem oc_6 : orR 5 192 (blkO 192 (rws 400 4)) = true := by decide +kernel
theorem oc_7 : orR 5 224 (blkO 224 (rws 400 4)) = true := by decide +kernel
theorem oc_8 : orR 5 256 (blkO 256 (rws 400 4)) = true := by decide +kernel
theorem oc_9 : orR 5 288 (blkO 288 (rws 400 4)) = true := by decide +kernel
theorem oc_10 : orR 5 320 (blkO 320 (rws 400 4)) = true := by decide +kernel
theorem oc_11 : orR 5 352 (blkO 352 (rws 400 4)) = true := by decide +kernel
theorem oc_12 : orR 5 384 (blkO 384 (rws 400 4)) = true := by decide +kernel
theorem oc_all : ∀ k, k < 13 -> orR 5 (32 * k) (blkO (32 * k) (rws 400 4)) = true
  | 0, _ => oc_0
  | 1, _ => oc_1
  | 2, _ => oc_2
  | 3, _ => oc_3
  | 4, _ => oc_4
  | 5, _ => oc_5
  | 6, _ => oc_6
  | 7, _ => oc_7
  | 8, _ => oc_8
  | 9, _ => oc_9
  | 10, _ => oc_10
  | 11, _ => oc_11
  | 12, _ => oc_12
  | k + 13, h => absurd h (by omega)
theorem or_ok : ∀ (k a : Nat) (W : List (List Nat)), orR k a W = true -> (∀ r ∈ W, a <= sqs r /\ sqs r < a + 2 ^ k) -> ∀ n, a <= n -> n < a + 2 ^ k -> n <= 400 -> ((W.filter fun r => decide (sqs r = n)).map fun r => ordI (natJ r)).sum = due n
  | 0, a, W, h, hW, n, h1, h2, h3 => by
    have e1 : 2 ^ 0 = 1 := rfl
    have en : n = a := by omega
    subst en
    rw [orR, Bool.or_eq_true, decide_eq_true_eq, decide_eq_true_eq] at h
    rw [List.filter_eq_self.mpr fun r hr => by
      have := hW r hr
      rw [decide_eq_true_eq]; omega]
    exact h.resolve_left (by omega)
  | k + 1, a, W, h, hW, n, h1, h2, h3 => by
    rw [orR, Bool.and_eq_true] at h
    have e2 : 2 ^ (k + 1) = 2 ^ k + 2 ^ k := by rw [Nat.pow_succ]; omega
    by_cases hn : n < a + 2 ^ k
    . rw [<- or_ok k a _ h.1 (fun r hr => by
        obtain ⟨h3, h4⟩ := List.mem_filter.mp hr
        exact ⟨(hW r h3).1, of_decide_eq_true h4⟩) n h1 hn h3, List.filter_filter]
      congr 2
      apply List.filter_congr
      intro r _
      rw [Bool.eq_iff_iff, Bool.and_eq_true, decide_eq_true_eq, decide_eq_true_eq]
      omega
    . rw [<- or_ok k (a + 2 ^ k) _ h.2 (fun r hr => by
        obtain ⟨h3, h4⟩ := List.mem_filter.mp hr
        have := (hW r h3).2
        exact ⟨of_decide_eq_true h4, by omega⟩) n (by omega) (by omega) h3, List.filter_filter]
      congr 2
      apply List.filter_congr
      intro r _
      rw [Bool.eq_iff_iff, Bool.and_eq_true, decide_eq_true_eq, decide_eq_true_eq]
      omega
theorem blko_in {a : Nat} {L : List (List Nat)} : ∀ r ∈ blkO a L, a <= sqs r /\ sqs r < a + 2 ^ 5 := fun r hr => by
  have := (List.mem_filter.mp hr).2
  rw [Bool.and_eq_true, decide_eq_true_eq, decide_eq_true_eq] at this
  exact this
theorem blko_fil {a n : Nat} {L : List (List Nat)} (h1 : a <= n) (h2 : n < a + 2 ^ 5) : (blkO a L).filter (fun r => decide (sqs r = n)) = L.filter fun r => decide (sqs r = n) := by
  unfold blkO
  rw [List.filter_filter]
  apply List.filter_congr
  intro r _
  rw [Bool.eq_iff_iff, Bool.and_eq_true, Bool.and_eq_true, decide_eq_true_eq, decide_eq_true_eq, decide_eq_true_eq]
  omega
theorem ord_sum {n : Nat} (h : n <= 400) : (((rws n 4).filter fun r => decide (sqs r = n)).map fun r => ordI (natJ r)).sum = due n := by
  rw [ways_cut h]
  have e : 2 ^ 5 = 32 := rfl
  have h1 : 32 * (n / 32) <= n := by omega
  have h2 : n < 32 * (n / 32) + 2 ^ 5 := by omega
  have := or_ok 5 (32 * (n / 32)) _ (oc_all (n / 32) (by omega)) blko_in n h1 h2 h
  rw [blko_fil h1 h2] at this
  exact this
def ab (i : Int) : Int := if i < 0 then -i else i
def abL (q : Qd) : List Int := [ab q.1, ab q.2.1, ab q.2.2.1, ab q.2.2.2]
theorem ab_nat (i : Int) : ab i = (i.natAbs : Int) := by unfold ab; split <;> omega
theorem sqs_sum : ∀ r : List Nat, sqs r = (r.map fun x => x * x).sum
  | [] => rfl
  | x :: r => by rw [sqs, sqs_sum r]; rfl
theorem fall_mem {q : Qd} {m : Nat} (h : sqQ q = (m : Int)) (hm : m <= 400) : ∃ r ∈ (rws m 4).filter (fun r => decide (sqs r = m)), srtB true (abL q) = natJ r := by
  have pm := srtN_perm (abL q)
  have od := srtN_ord (abL q)
  have ln := pm.length_eq
  show ∃ r ∈ _, (srtN (abL q)).reverse = natJ r
  generalize srtN (abL q) = s at *
  match s, ln with
  | [d, c, b, a], _ =>
    have ge : ∀ x ∈ [d, c, b, a], 0 <= x := fun x hx => by
      have hx := pm.mem_iff.mp hx
      unfold abL at hx
      simp only [ab_nat, List.mem_cons, List.not_mem_nil, or_false] at hx
      omega
    have p2 : ([d, c, b, a].map Int.toNat).Perm ((abL q).map Int.toNat) := pm.map _
    have p3 := (p2.map fun x => x * x).sum_nat
    rw [<- sqs_sum, <- sqs_sum] at p3
    have e4 : sqs ((abL q).map Int.toNat) = m := by
      have : ((sqs ((abL q).map Int.toNat) : Nat) : Int) = (m : Int) := by
        rw [<- h]
        unfold abL sqQ
        simp only [ab_nat, List.map_cons, List.map_nil, Int.toNat_natCast, sqs, Int.natCast_add, Int.natAbs_mul_self', Int.natCast_mul, Int.natCast_zero]
      omega
    rw [e4] at p3
    simp only [List.pairwise_cons, List.mem_cons, List.not_mem_nil, or_false, forall_eq_or_imp, forall_eq] at od ge
    obtain ⟨a', rfl⟩ := Int.eq_ofNat_of_zero_le ge.2.2.2
    obtain ⟨b', rfl⟩ := Int.eq_ofNat_of_zero_le ge.2.2.1
    obtain ⟨c', rfl⟩ := Int.eq_ofNat_of_zero_le ge.2.1
    obtain ⟨d', rfl⟩ := Int.eq_ofNat_of_zero_le ge.1
    have p3 : d' * d' + (c' * c' + (b' * b' + (a' * a' + 0))) = m := p3
    have ha : a' <= 20 := by
      rcases Nat.lt_or_ge 20 a' with z | z
      . have := Nat.mul_le_mul z z; omega
      . exact z
    refine ⟨[a', b', c', d'], List.mem_filter.mpr ⟨mem4 ha (by omega) (by omega) (by omega) (by show a' * a' + (b' * b' + (c' * c' + (d' * d' + 0))) <= m; omega), decide_eq_true (by show a' * a' + (b' * b' + (c' * c' + (d' * d' + 0))) = m; omega)⟩, rfl⟩
def dbQ (q : Qd) : Qd := (2 * q.1, 2 * q.2.1, 2 * q.2.2.1, 2 * q.2.2.2)
theorem db_mul (p q : Qd) : mulQ (dbQ p) (dbQ q) = dbQ (plnQ p q) := by
  obtain ⟨a, b, c, d⟩ := p; obtain ⟨e, f, g, h⟩ := q
  unfold mulQ dbQ plnQ
  dsimp only
  rw [halve (P := 2 * (a * e - b * f - c * g - d * h)) (by grind), halve (P := 2 * (a * f + b * e + c * h - d * g)) (by grind), halve (P := 2 * (a * g - b * h + c * e + d * f)) (by grind), halve (P := 2 * (a * h + b * g - c * f + d * e)) (by grind)]
theorem db_sz (p : Qd) : szQ (dbQ p) = sqQ p := by
  obtain ⟨a, b, c, d⟩ := p
  unfold szQ dbQ sqQ
  dsimp only
  rw [show 2 * a * (2 * a) + (2 * b * (2 * b) + (2 * c * (2 * c) + (2 * d * (2 * d) + 0))) = 4 * (a * a + (b * b + (c * c + (d * d + 0)))) by grind]
  exact Int.mul_fdiv_cancel_left _ (by decide)
theorem db_wd {p : Qd} {n : Nat} (h : wdQ n p) : wdQ (n + 1) (dbQ p) := by
  obtain ⟨a, b, c, d⟩ := h
  have e : 2 ^ (n + 1) = 2 * 2 ^ n := by rw [Nat.pow_succ]; omega
  unfold wdQ dbQ
  rw [e]
  generalize 2 ^ n = N at *
  dsimp only
  omega
theorem ex_sml {m : Nat} (h0 : m ≠ 0) (h : m <= 400) : ∃ ps, sml ps /\ prN ps = m /\ prN ps < 2 ^ 399 := by
  have b : ∀ x : Nat, x <= 400 -> x < 2 ^ 399 := fun x hx => Nat.lt_of_lt_of_le (show x < 2 ^ 9 by omega) (Nat.pow_le_pow_right (by decide) (by decide))
  by_cases h1 : m = 1
  . exact ⟨[], fun _ z => (by cases z), h1.symm, b 1 (by decide)⟩
  . by_cases h4 : m = 400
    . exact ⟨[20, 20], fun x hx => by simp only [List.mem_cons, List.not_mem_nil, or_false] at hx; omega, h4.symm, b 400 (by decide)⟩
    . refine ⟨[m], fun x hx => by rw [List.mem_singleton] at hx; omega, Nat.mul_one m, ?_⟩
      show m * 1 < _
      rw [Nat.mul_one]; exact b m h
theorem shp_w (qs : List Qd) : SeqAt.shaped (D.tup (qs.map dq)).py = true := by
  unfold SeqAt.shaped
  rw [Bool.and_eq_true_iff]
  constructor
  . rw [D.py, PyData.canLay0]; exact lay_l qs
  . rw [D.py, PyData.depth]; have := dep_l qs; exact decide_eq_true (by omega)
theorem shp_1 (p : Qd) : SeqAt.shaped (dq p).py = true := rfl
theorem nin_q {p : Qd} {qs : List Qd} (h : p ∈ qs) : Okr (cmpD .NotIn (dq p) (.lst (qs.map dq))) false := by
  refine Okr.eq (a := !((qs.map dq).any fun y => eqD y (dq p))) ⟨[eqOk (.tup (qs.map dq)) (dq p) = true], rfl, ?_, True.intro⟩ ?_
  . unfold eqOk; rw [shp_w, shp_1]; rfl
  . rw [show ((qs.map dq).any fun y => eqD y (dq p)) = true from List.any_eq_true.mpr ⟨dq p, List.mem_map.mpr ⟨p, h, rfl⟩, by simp⟩]; rfl
abbrev way (n : Nat) : List (List Nat) := (rws n 4).filter fun r => decide (sqs r = n)
theorem way_ok {n : Nat} {r : List Nat} (h : r ∈ way n) : rok 4 r /\ sqs r = n := ⟨rws_ok n 4 r (List.mem_filter.mp h).1, of_decide_eq_true (List.mem_filter.mp h).2⟩
theorem way_q (n : Nat) : (way n).map dr = ((way n).map qN).map dq := by
  rw [List.map_map]
  exact List.map_congr_left fun r hr => (dr_q (way_ok hr).1).1
theorem way_len {n : Nat} (h : n <= 400) : (way n).length <= 4000 := Nat.le_trans (List.length_filter_le _ _) (rws_len h (by decide))
theorem dr_j (r : List Nat) : dr r = .tup ((natJ r).map D.int) := by unfold natJ; rw [List.map_map]; rfl
theorem fall_in {q : Qd} {m : Nat} (h : sqQ q = (m : Int)) (hm : m <= 400) : Okr (cmpD .NotIn (.tup ((srtB true (abL q)).map D.int)) (.lst ((way m).map dr))) false := by
  obtain ⟨r, hr, e⟩ := fall_mem h hm
  rw [e, <- dr_j, way_q, (dr_q (way_ok hr).1).1]
  exact nin_q (List.mem_map.mpr ⟨r, hr, rfl⟩)
end K
set_option Elab.async false
set_option linter.all false
set_option maxRecDepth 100000
namespace K
open PySem L2 Sp
def top (i : Nat) : Stmt := PySem.Challenge.pw_spaceturns_k57_whole_squares_and_sizes.main.body.getD i (.Pass ⟨0, 0, 0, 0⟩)
local macro_rules | `(tactic| walk_at "leaf") => `(tactic| first | ((with_reducible apply mulOk_r); decide) | ((with_reducible apply mulOk_l); decide) | ((with_reducible apply divOk_s) <;> decide) | ((with_reducible apply mulOk_b) <;> (with_reducible assumption)) | ((with_reducible apply powOk_s) <;> decide) | ((with_reducible refine Eq.trans ?_ rfl); exact rfl) | ((with_reducible apply cel_bits); (with_reducible assumption)) | ((with_reducible apply okT_id); assumption) | exact Nat.le_of_ble_eq_true rfl | exact Or.inl rfl | exact Or.inr rfl | exact Or.inr (Nat.le_refl 1) | exact Or.inr (Nat.zero_le 1) | decide | decide +kernel)
local macro_rules | `(tactic| walk_at "ob") => `(tactic| (repeat' (first | with_reducible exact True.intro | with_reducible exact allP_nil | with_reducible apply allP_app_i | with_reducible apply allP_one | with_reducible apply allP_cons_i | with_reducible assumption | ((with_reducible apply allP_gd); intro hgd) | walk_at "leaf")))
local macro_rules | `(decl_name%) => `(okr_of rfl (by walk_at "ob"))
def BL : List (Str × (List D -> R1)) := [("len", bLen), ("tuple", bTuple), ("abs", bAbs), ("all", bAll), ("sum", bSum), ("isinstance", bIsi)]
def IL : List (Str × (List D -> Nat -> R1)) := [("range", iRange)]
def ML : List (Str × (D -> List D -> R1)) := [("count", mCount)]
def TL : List (Str × (List D -> List D -> Nat -> Rs (List D))) := [("append", mAppend), ("extend", mExtend)]
def X_plain_product : Fx := Tb [] [] BL IL ML TL noSl
def R_plain_product : List D -> Rs D := runD X_plain_product (defScope (top 14)) ["one", "other"] (defBody (top 14))
def S_plain_product : List D -> Rs D := sp2 dQ dQ fun p q => .ok (dq (plnQ p q)) [bdQ p, bdQ q]
theorem S_plain_product_ok : ∀ ds r, Okr (S_plain_product ds) r -> Okr (R_plain_product ds) r := by
  intro ds r h
  obtain ⟨p, q, rfl, h⟩ := sp2_inv h
  obtain ⟨rfl, hp, hq, _⟩ := okr_inv h
  obtain ⟨⟨a1, a2, a3, a4⟩, ⟨b1, b2, b3, b4⟩, ⟨c1, c2, c3, c4⟩, d1, d2, d3, d4⟩ := bd_mul hp hq
  exact okr_of rfl (by walk_at "ob")
def X_joined_ways : Fx := Tb [("plain_product", S_plain_product)] [] BL IL ML TL noSl
def R_joined_ways : List D -> Rs D := runD X_joined_ways (defScope (top 19)) ["ways"] (defBody (top 19))
def S_joined_ways : List D -> Rs D := sp1 dL fun l => .ok (dq (jnL l)) [∃ qs : List Qd, l = qs.map dq /\ okJ (1, 0, 0, 0) qs]
theorem S_joined_ways_ok : ∀ ds r, Okr (S_joined_ways ds) r -> Okr (R_joined_ways ds) r := by
  intro ds r h
  obtain ⟨l, rfl, h⟩ := sp1_inv h
  obtain ⟨rfl, ⟨qs, rfl, ok⟩, _⟩ := okr_inv h
  rw [jnL_map]
  refine run_i (ss_cut 1 decl_name% (ss_forN (fun rem ρ => ∃ r rs, rem = rs.map dq /\ okJ r rs /\ rs.foldl plnQ r = qs.foldl plnQ (1, 0, 0, 0) /\ Sub (envL [("reached", dq r, true)]) ρ) decl_name% ⟨(1, 0, 0, 0), qs, rfl, ok, rfl, sub_cons rfl sub_nil⟩ ?_ ?_))
  . rintro d l ρ ⟨r, rs, e, o, f, s⟩
    cases rs with
    | nil => cases e
    | cons q rs =>
      cases e
      exact ⟨_, rfl, nx_sub (s.put _ _) (okr_of rfl (by exact ⟨o.1, o.2.1, True.intro⟩)) fun ρ' s' => ⟨plnQ r q, rs, rfl, o.2.2, f, sub_cons s'.get sub_nil⟩⟩
  . rintro ρ ⟨r, rs, e, o, f, s⟩
    cases rs with
    | nil =>
      rw [<- f]
      exact rt_sub s decl_name%
    | cons q rs => cases e
def X_squares_of : Fx := Tb [] [] BL IL ML TL noSl
def R_squares_of : List D -> Rs D := runD X_squares_of (defScope (top 9)) ["row"] (defBody (top 9))
def X_longer_rows : Fx := Tb [("squares_of", R_squares_of)] [("MOST_ROOT", .int 20)] BL IL ML TL noSl
def R_longer_rows : List D -> Rs D := runD X_longer_rows (defScope (top 8)) ["rows", "n"] (defBody (top 8))
theorem lr_step {n : Nat} {r : List Nat} {out : List (List Nat)} {P : Rho -> Prop} {ρ : Rho} (hk : r.length <= 3) (h20 : ∀ x ∈ r, x <= 20) (hl : out.length + (ext n r).length <= many) (s : Sub (envL [("n", .int n, false), ("longer", .lst (out.map dr), true)]) ρ) (fin : ∀ ρ', Sub (envL [("n", .int n, false), ("longer", .lst (out.map dr ++ (ext n r).map dr), true)]) ρ' -> P ρ') : ∃ ρ2, Okr (exSs X_longer_rows (forBody ((defBody (top 8)).getD 1 (.Pass ⟨0, 0, 0, 0⟩))) (defScope (top 8)) (putR ρ "row" (dr r, false))) (.nx ρ2) /\ P ρ2 := by
  match r, hk with
  | [], _ =>
    have hm := last_le (r := []) h20
    have mm : mst [] = 20 := rfl
    rw [mm] at hm
    refine nx_sub (s.put _ _) (ss_cut 2 decl_name% (ss_nx (ex_mut (l' := out.map dr ++ (ext n []).map dr) rfl (evs_cons (ev_comp (out := (((List.range (20 + 1)).filter fun p => decide (p * p + sqs [] <= n)).map fun p => dr ([] ++ [p]))) (j := 0) (ev_itr (B := iRange) decl_name% (rng_q hm)) rfl ⟨by rw [List.length_map, List.length_range]; exact Nat.le_trans (Nat.succ_le_succ hm) (by decide), .inr (Nat.zero_le 1)⟩ (compD_filter (g := fun i : Nat => .int (i : Nat)) (f := fun p => dr ([] ++ [p])) (c := fun p => decide (p * p + sqs [] <= n)) fun p hp => ?_) (Nat.zero_le 1)) evs_nil) rfl rfl ?_) ss_nil)) fun ρ' s' => fin ρ' (sub_cons s'.get (sub_cons s'.get sub_nil))
    . have p20 : p <= 20 := Nat.le_trans (Nat.le_of_lt_succ (List.mem_range.mp hp)) hm
      have pm := mulS (b := p) p20
      refine Okr.bnd (a := decide (p * p + sqs [] <= n)) (evb_and (b := decide (p * p + sqs [] <= n)) (c := decide (p * p + sqs [] <= n)) (decl_name%.bl ?_) (fun h => by rw [h]; exact evb_at) id) ?_
      . show decide ((p : Int) * (p : Int) <= (n : Int) - (0)) = _
        apply decide_eq_decide.mpr
        simp only [sqs]
        constructor <;> intro h <;> grind
      . cases decide (p * p + sqs [] <= n)
        . exact ok1
        . exact Okr.bnd decl_name% ok1
    . have e : (ext n []).map dr = ((List.range (20 + 1)).filter fun p => decide (p * p + sqs [] <= n)).map fun p => dr ([] ++ [p]) := by unfold ext; rw [List.map_map]; rfl
      have hl' : (out.map dr).length + ((ext n []).map dr).length <= many := by rw [List.length_map, List.length_map]; exact hl
      rw [e] at hl' ⊢
      exact ⟨_, rfl, hl', True.intro⟩
  | [a], _ =>
    have hm := last_le (r := [a]) h20
    have mm : mst [a] = a := rfl
    rw [mm] at hm
    have am := mulS (b := a) (h20 a (by simp))
    refine nx_sub (s.put _ _) (ss_cut 2 decl_name% (ss_nx (ex_mut (l' := out.map dr ++ (ext n [a]).map dr) rfl (evs_cons (ev_comp (out := (((List.range (a + 1)).filter fun p => decide (p * p + sqs [a] <= n)).map fun p => dr ([a] ++ [p]))) (j := 0) (ev_itr (B := iRange) decl_name% (rng_q hm)) rfl ⟨by rw [List.length_map, List.length_range]; exact Nat.le_trans (Nat.succ_le_succ hm) (by decide), .inr (Nat.zero_le 1)⟩ (compD_filter (g := fun i : Nat => .int (i : Nat)) (f := fun p => dr ([a] ++ [p])) (c := fun p => decide (p * p + sqs [a] <= n)) fun p hp => ?_) (Nat.zero_le 1)) evs_nil) rfl rfl ?_) ss_nil)) fun ρ' s' => fin ρ' (sub_cons s'.get (sub_cons s'.get sub_nil))
    . have p20 : p <= 20 := Nat.le_trans (Nat.le_of_lt_succ (List.mem_range.mp hp)) hm
      have pm := mulS (b := p) p20
      refine Okr.bnd (a := decide (p * p + sqs [a] <= n)) (evb_and (b := decide (p * p + sqs [a] <= n)) (c := decide (p * p + sqs [a] <= n)) (decl_name%.bl ?_) (fun h => by rw [h]; exact evb_at) id) ?_
      . show decide ((p : Int) * (p : Int) <= (n : Int) - ((a : Int) * (a : Int) + (0))) = _
        apply decide_eq_decide.mpr
        simp only [sqs]
        constructor <;> intro h <;> grind
      . cases decide (p * p + sqs [a] <= n)
        . exact ok1
        . exact Okr.bnd decl_name% ok1
    . have e : (ext n [a]).map dr = ((List.range (a + 1)).filter fun p => decide (p * p + sqs [a] <= n)).map fun p => dr ([a] ++ [p]) := by unfold ext; rw [List.map_map]; rfl
      have hl' : (out.map dr).length + ((ext n [a]).map dr).length <= many := by rw [List.length_map, List.length_map]; exact hl
      rw [e] at hl' ⊢
      exact ⟨_, rfl, hl', True.intro⟩
  | [a, b], _ =>
    have hm := last_le (r := [a, b]) h20
    have mm : mst [a, b] = b := rfl
    rw [mm] at hm
    have am := mulS (b := a) (h20 a (by simp))
    have bm := mulS (b := b) (h20 b (by simp))
    refine nx_sub (s.put _ _) (ss_cut 2 decl_name% (ss_nx (ex_mut (l' := out.map dr ++ (ext n [a, b]).map dr) rfl (evs_cons (ev_comp (out := (((List.range (b + 1)).filter fun p => decide (p * p + sqs [a, b] <= n)).map fun p => dr ([a, b] ++ [p]))) (j := 0) (ev_itr (B := iRange) decl_name% (rng_q hm)) rfl ⟨by rw [List.length_map, List.length_range]; exact Nat.le_trans (Nat.succ_le_succ hm) (by decide), .inr (Nat.zero_le 1)⟩ (compD_filter (g := fun i : Nat => .int (i : Nat)) (f := fun p => dr ([a, b] ++ [p])) (c := fun p => decide (p * p + sqs [a, b] <= n)) fun p hp => ?_) (Nat.zero_le 1)) evs_nil) rfl rfl ?_) ss_nil)) fun ρ' s' => fin ρ' (sub_cons s'.get (sub_cons s'.get sub_nil))
    . have p20 : p <= 20 := Nat.le_trans (Nat.le_of_lt_succ (List.mem_range.mp hp)) hm
      have pm := mulS (b := p) p20
      refine Okr.bnd (a := decide (p * p + sqs [a, b] <= n)) (evb_and (b := decide (p * p + sqs [a, b] <= n)) (c := decide (p * p + sqs [a, b] <= n)) (decl_name%.bl ?_) (fun h => by rw [h]; exact evb_at) id) ?_
      . show decide ((p : Int) * (p : Int) <= (n : Int) - ((a : Int) * (a : Int) + ((b : Int) * (b : Int) + (0)))) = _
        apply decide_eq_decide.mpr
        simp only [sqs]
        constructor <;> intro h <;> grind
      . cases decide (p * p + sqs [a, b] <= n)
        . exact ok1
        . exact Okr.bnd decl_name% ok1
    . have e : (ext n [a, b]).map dr = ((List.range (b + 1)).filter fun p => decide (p * p + sqs [a, b] <= n)).map fun p => dr ([a, b] ++ [p]) := by unfold ext; rw [List.map_map]; rfl
      have hl' : (out.map dr).length + ((ext n [a, b]).map dr).length <= many := by rw [List.length_map, List.length_map]; exact hl
      rw [e] at hl' ⊢
      exact ⟨_, rfl, hl', True.intro⟩
  | [a, b, c], _ =>
    have hm := last_le (r := [a, b, c]) h20
    have mm : mst [a, b, c] = c := rfl
    rw [mm] at hm
    have am := mulS (b := a) (h20 a (by simp))
    have bm := mulS (b := b) (h20 b (by simp))
    have cm := mulS (b := c) (h20 c (by simp))
    refine nx_sub (s.put _ _) (ss_cut 2 decl_name% (ss_nx (ex_mut (l' := out.map dr ++ (ext n [a, b, c]).map dr) rfl (evs_cons (ev_comp (out := (((List.range (c + 1)).filter fun p => decide (p * p + sqs [a, b, c] <= n)).map fun p => dr ([a, b, c] ++ [p]))) (j := 0) (ev_itr (B := iRange) decl_name% (rng_q hm)) rfl ⟨by rw [List.length_map, List.length_range]; exact Nat.le_trans (Nat.succ_le_succ hm) (by decide), .inr (Nat.zero_le 1)⟩ (compD_filter (g := fun i : Nat => .int (i : Nat)) (f := fun p => dr ([a, b, c] ++ [p])) (c := fun p => decide (p * p + sqs [a, b, c] <= n)) fun p hp => ?_) (Nat.zero_le 1)) evs_nil) rfl rfl ?_) ss_nil)) fun ρ' s' => fin ρ' (sub_cons s'.get (sub_cons s'.get sub_nil))
    . have p20 : p <= 20 := Nat.le_trans (Nat.le_of_lt_succ (List.mem_range.mp hp)) hm
      have pm := mulS (b := p) p20
      refine Okr.bnd (a := decide (p * p + sqs [a, b, c] <= n)) (evb_and (b := decide (p * p + sqs [a, b, c] <= n)) (c := decide (p * p + sqs [a, b, c] <= n)) (decl_name%.bl ?_) (fun h => by rw [h]; exact evb_at) id) ?_
      . show decide ((p : Int) * (p : Int) <= (n : Int) - ((a : Int) * (a : Int) + ((b : Int) * (b : Int) + ((c : Int) * (c : Int) + (0))))) = _
        apply decide_eq_decide.mpr
        simp only [sqs]
        constructor <;> intro h <;> grind
      . cases decide (p * p + sqs [a, b, c] <= n)
        . exact ok1
        . exact Okr.bnd decl_name% ok1
    . have e : (ext n [a, b, c]).map dr = ((List.range (c + 1)).filter fun p => decide (p * p + sqs [a, b, c] <= n)).map fun p => dr ([a, b, c] ++ [p]) := by unfold ext; rw [List.map_map]; rfl
      have hl' : (out.map dr).length + ((ext n [a, b, c]).map dr).length <= many := by rw [List.length_map, List.length_map]; exact hl
      rw [e] at hl' ⊢
      exact ⟨_, rfl, hl', True.intro⟩
theorem lr_q {n k : Nat} (hk : k <= 3) (hn : n <= 400) : Okr (R_longer_rows [.lst ((rws n k).map dr), .int n]) (.lst ((rws n (k + 1)).map dr)) := by
  have hL := rws_len (n := n) (k := k + 1) hn (by omega)
  have hR := rws_ok n k
  have e : rws n (k + 1) = lng n (rws n k) := rfl
  rw [e] at hL ⊢
  generalize rws n k = rs at *
  refine run_i (ss_cut 1 decl_name% (ss_forN (ds := rs.map dr) (fun rem ρ => ∃ (q out : List (List Nat)), rem = q.map dr /\ (∀ r ∈ q, rok k r) /\ out ++ lng n q = lng n rs /\ Sub (envL [("n", .int n, false), ("longer", .lst (out.map dr), true)]) ρ) decl_name% ⟨rs, [], rfl, hR, rfl, sub_cons rfl (sub_cons rfl sub_nil)⟩ ?_ ?_ rfl (kn1 (.lst (rs.map dr)))))
  . rintro d l ρ ⟨q, out, hq, hr, hc, s⟩
    cases q with
    | nil => cases hq
    | cons r q =>
      cases hq
      have h1 := hr r List.mem_cons_self
      have hc' : out ++ (ext n r ++ lng n q) = lng n rs := hc
      have hl : out.length + (ext n r).length <= many := by
        have := congrArg List.length hc'
        rw [List.length_append, List.length_append] at this
        show _ <= 40000
        omega
      refine ⟨_, rfl, lr_step (by rw [h1.1]; exact hk) h1.2 hl s fun ρ' s' => ⟨q, out ++ ext n r, rfl, fun x hx => hr x (List.mem_cons_of_mem _ hx), by rw [List.append_assoc]; exact hc', by rw [List.map_append]; exact s'⟩⟩
  . rintro ρ ⟨q, out, hq, hr, hc, s⟩
    cases q with
    | cons r q => cases hq
    | nil =>
      have : out = lng n rs := by rw [<- hc]; simp [lng]
      subst this
      exact rt_sub (show Sub (envL [("longer", .lst ((lng n rs).map dr), true)]) ρ from sub_cons s.get sub_nil) decl_name%
def X_falling_ways : Fx := Tb [("longer_rows", R_longer_rows), ("squares_of", R_squares_of)] [("MOST_TOLD", .int 400)] BL IL ML TL noSl
def R_falling_ways : List D -> Rs D := runD X_falling_ways (defScope (top 7)) ["n"] (defBody (top 7))
theorem fw_q {n : Nat} (hn : n <= 400) : Okr (R_falling_ways [.int n]) (.lst (((rws n 4).filter fun r => decide (sqs r = n)).map dr)) := by
  have h0 := lr_q (n := n) (k := 0) (by decide) hn
  have h1 := lr_q (n := n) (k := 1) (by decide) hn
  have h2 := lr_q (n := n) (k := 2) (by decide) hn
  have h3 := lr_q (n := n) (k := 3) (by decide) hn
  have hok := rws_ok n 4
  have hl := rws_len (n := n) (k := 4) hn (by decide)
  generalize hr1 : rws n (0 + 1) = r1 at *
  generalize hr2 : rws n (1 + 1) = r2 at *
  generalize hr3 : rws n (2 + 1) = r3 at *
  refine run_i (ss_ifF (ev_bop (evb_f (decl_name%.bl (decide_eq_false (by omega))) (evb_f (decl_name%.bl (decide_eq_false (by omega))) evb_of))) rfl (ss_nx (ex_set (d := .lst ((rws n 0).map dr)) decl_name%) (ss_forG [.int 0, .int 1, .int 2, .int 3] decl_name% ?_)))
  refine goF_sub (C := envL [("n", .int n, false), ("rows", .lst ((rws n 0).map dr), true)]) (P := fun ρ => GoF _ _ _ _ _ _ _ ρ) (sub_cons rfl (sub_cons rfl sub_nil)) fun ρ s => ?_
  refine ⟨_, rfl, .inl (nx_sub (s.put _ _) (ss_nx (ex_set (ev_call decl_name% h0)) ss_nil) fun ρ s' => ?_)⟩
  replace s := (show Sub (envL [("n", .int n, false), ("rows", .lst (r1.map dr), true)]) ρ from sub_cons s'.get (sub_cons s'.get sub_nil))
  clear s'
  refine ⟨_, rfl, .inl (nx_sub (s.put _ _) (ss_nx (ex_set (ev_call decl_name% (by rw [<- hr1] at *; exact h1))) ss_nil) fun ρ s' => ?_)⟩
  replace s := (show Sub (envL [("n", .int n, false), ("rows", .lst (r2.map dr), true)]) ρ from sub_cons s'.get (sub_cons s'.get sub_nil))
  clear s'
  refine ⟨_, rfl, .inl (nx_sub (s.put _ _) (ss_nx (ex_set (ev_call decl_name% (by rw [<- hr2] at *; exact h2))) ss_nil) fun ρ s' => ?_)⟩
  replace s := (show Sub (envL [("n", .int n, false), ("rows", .lst (r3.map dr), true)]) ρ from sub_cons s'.get (sub_cons s'.get sub_nil))
  clear s'
  refine ⟨_, rfl, .inl (nx_sub (s.put _ _) (ss_nx (ex_set (ev_call decl_name% (by rw [<- hr3] at *; exact h3))) ss_nil) fun ρ s' => ?_)⟩
  replace s := (show Sub (envL [("n", .int n, false), ("rows", .lst ((rws n 4).map dr), true)]) ρ from sub_cons s'.get (sub_cons s'.get sub_nil))
  clear s' h0 h1 h2 h3 hr1 hr2 hr3
  generalize rws n 4 = rs at *
  refine rt_sub s (ss_rt (ex_ret (ev_comp (out := (rs.filter fun r => decide (sqs r = n)).map dr) (j := 0) decl_name% (ds := rs.map dr) rfl ⟨by rw [List.length_map]; exact Nat.le_trans hl (by decide), .inl (ll_dr rs)⟩ (compD_filter (g := dr) (f := dr) (c := fun r => decide (sqs r = n)) fun r hr => ?_) (Nat.zero_le 1))))
  obtain ⟨h1, h2⟩ := hok r hr
  match r, h1 with
  | [a, b, c, d], _ =>
    have am := mulS (b := a) (h2 a (by simp)); have bm := mulS (b := b) (h2 b (by simp)); have cm := mulS (b := c) (h2 c (by simp)); have dm := mulS (b := d) (h2 d (by simp))
    refine Okr.bnd (a := decide (sqs [a, b, c, d] = n)) (evb_and (b := decide (sqs [a, b, c, d] = n)) (c := decide (sqs [a, b, c, d] = n)) (decl_name%.bl ?_) (fun h => by rw [h]; exact evb_at) id) ?_
    . show eqD (.int ((a : Int) * (a : Int) + ((b : Int) * (b : Int) + ((c : Int) * (c : Int) + ((d : Int) * (d : Int) + 0))))) (.int n) = _
      rw [eqD_i]
      apply decide_eq_decide.mpr
      simp only [sqs]
      constructor <;> intro h <;> grind
    . cases decide (sqs [a, b, c, d] = n)
      . exact ok1
      . exact Okr.bnd decl_name% ok1
def X_product : Fx := Tb [("plain_product", S_plain_product)] [] BL IL ML TL noSl
def R_product : List D -> Rs D := runD X_product (defScope (top 15)) ["one", "other"] (defBody (top 15))
def S_product : List D -> Rs D := sp2 dQ dQ fun p q => .ok (dq (mulQ p q)) [bdQ p, bdQ q]
theorem S_product_ok : ∀ ds r, Okr (S_product ds) r -> Okr (R_product ds) r := by
  intro ds r h
  obtain ⟨p, q, rfl, h'⟩ := sp2_inv h
  obtain ⟨rfl, hp, hq, _⟩ := okr_inv h'
  exact okr_of rfl (by walk_at "ob")
def X_l_cell : Fx := Tb [] [] BL IL ML TL noSl
def R_l_cell : List D -> Rs D := runD X_l_cell (defScope (top 23)) ["_law_script", "_law_k"] (defBody (top 23))
def S_l_cell : List D -> Rs D := sp2 dL dI fun l k => .ok (.int (cel l k)) [okL l]
theorem S_l_cell_ok : ∀ ds r, Okr (S_l_cell ds) r -> Okr (R_l_cell ds) r := by
  intro ds r h
  obtain ⟨l, k, rfl, h⟩ := sp2_inv h
  obtain ⟨rfl, ⟨ns, rfl⟩, _⟩ := okr_inv h
  refine run_i (ss_cut 1 (okr_of rfl True.intro) (ss_if (okr_of rfl True.intro) (fun ht => ?_) (fun hf => ?_)))
  . have hl : (ns.map D.int).length = ns.length := by simp
    have hp : (0 : Int) < ((ns.map D.int).length : Nat) := by simpa using ht
    have hi : L2.atI (ns.map D.int) (k.fmod (((ns.map D.int).length : Nat) : Int)) = some (.int (cellAt ns k)) := by
      rw [hl] at hp ⊢
      have hne : ns ≠ [] := by intro z; subst z; simp at hp
      unfold cellAt
      rw [if_neg hne]
      exact atI_map (Int.fmod_nonneg_of_pos _ hp) (Int.fmod_lt_of_pos _ hp)
    refine ss_nx (ex_set (d := .int (cellAt ns k)) (ev_ix (okr_of rfl True.intro) (okr_of rfl ⟨Int.ne_of_gt hp, True.intro⟩) rfl hi)) ?_
    refine decl_name%.eq ?_
    unfold cel cellF; rw [toInts_map]
  . have hp : ns = [] := by
      cases ns with
      | nil => rfl
      | cons n ns => simp at hf
    subst hp
    refine decl_name%.eq ?_
    rfl
def X_divisors : Fx := Tb [] [] BL IL ML TL noSl
def R_divisors : List D -> Rs D := runD X_divisors (defScope (top 11)) ["n"] (defBody (top 11))
theorem dv_e {n T : Nat} (hn : n <= 1000000) (h1 : T * T <= n) (h2 : n < (T + 1) * (T + 1)) : Okr (R_divisors [.int n]) (.lst (((tls n T).map fun x : Nat => (x : Int)).map D.int)) := by
  refine run_i (ss_cut 2 decl_name% (ss_whileM (m := 1002) (fun m ρ => ∃ (t : Nat) (f : Bool), t + m = 1002 /\ t * t <= n /\ Sub (envL [("n", .int n, false), ("told", .lst (((tls n t).map fun x : Nat => (x : Int)).map D.int), true), ("tried", .int ((t + 1 : Nat) : Int), f)]) ρ) ⟨0, true, rfl, Nat.zero_le _, (sub_cons rfl (sub_cons rfl (sub_cons rfl sub_nil)))⟩ (by decide) ?_ ?_))
  . rintro m ρ ⟨t, f, hm, htt, s⟩
    have tb := root_b htt hn
    have tm : mulOk ((t + 1 : Nat) : Int) ((t + 1 : Nat) : Int) := mulOk_l (by omega)
    refine ⟨decide (((t + 1 : Nat) : Int) * ((t + 1 : Nat) : Int) <= n), 0, ev_sub s decl_name%, fun ht => ?_⟩
    have ht := of_decide_eq_true ht
    have ecast : (((t + 1) * (t + 1) : Nat) : Int) = ((t + 1 : Nat) : Int) * ((t + 1 : Nat) : Int) := Int.natCast_mul _ _
    have htn : (t + 1) * (t + 1) <= n := by omega
    have t0 : ((t + 1 : Nat) : Int) ≠ 0 := by omega
    have td : divOk ((t + 1 : Nat) : Int) := ⟨t0, big_of (by omega)⟩
    have ll := len_tls n t
    have l1 : (((tls n t).map fun x : Nat => (x : Int)).map D.int).length < many := by rw [List.length_map, List.length_map]; show _ < 40000; omega
    have l2 : (((tls n t).map fun x : Nat => (x : Int)).map D.int ++ [D.int ((t + 1 : Nat) : Int)]).length < many := by rw [List.length_append, List.length_map, List.length_map]; show _ < 40000; simp only [List.length_cons, List.length_nil]; omega
    have em : (n : Int).fmod ((t + 1 : Nat) : Int) = ((n % (t + 1) : Nat) : Int) := by rw [Int.fmod_eq_emod_of_nonneg _ (by omega)]; rfl
    have ed : (n : Int).fdiv ((t + 1 : Nat) : Int) = ((n / (t + 1) : Nat) : Int) := by rw [Int.fdiv_eq_ediv_of_nonneg _ (by omega)]; rfl
    by_cases c1 : n % (t + 1) = 0
    . have c1' : (n : Int).fmod ((t + 1 : Nat) : Int) = 0 := by rw [em, c1]; rfl
      by_cases c2 : (t + 1) * (t + 1) = n
      . have c2' : ((t + 1 : Nat) : Int) * ((t + 1 : Nat) : Int) = n := by rw [<- ecast, c2]
        have et : tls n (t + 1) = tls n t ++ [t + 1] := by rw [tls, if_pos c1, if_pos c2]
        refine wh_step (m' := m - 1) (by omega) (nx_sub s (ss_ifT decl_name% (eq_i c1') (ss_nx decl_name% (ss_ifF decl_name% (ne_i c2') decl_name%))) fun ρ' s' => ⟨t + 1, true, by omega, htn, sub_cons s'.get (sub_cons ?_ (sub_cons s'.get sub_nil))⟩)
        rw [et, List.map_append, List.map_append]; exact s'.get
      . have c2' : ((t + 1 : Nat) : Int) * ((t + 1 : Nat) : Int) ≠ n := by rw [<- ecast]; omega
        have et : tls n (t + 1) = tls n t ++ [t + 1] ++ [n / (t + 1)] := by rw [tls, if_pos c1, if_neg c2, List.append_assoc]; rfl
        refine wh_step (m' := m - 1) (by omega) (nx_sub s (ss_ifT decl_name% (eq_i c1') (ss_nx decl_name% (ss_ifT decl_name% (ne_it c2') decl_name%))) fun ρ' s' => ⟨t + 1, true, by omega, htn, sub_cons s'.get (sub_cons ?_ (sub_cons s'.get sub_nil))⟩)
        rw [et, List.map_append, List.map_append, List.map_append, List.map_append]
        show _ = some (D.lst (_ ++ [D.int ((n / (t + 1) : Nat) : Int)]), true)
        rw [<- ed]; exact s'.get
    . have c1' : ¬ (n : Int).fmod ((t + 1 : Nat) : Int) = 0 := by rw [em]; omega
      have et : tls n (t + 1) = tls n t := by rw [tls, if_neg c1, List.append_nil]
      exact wh_step (m' := m - 1) (by omega) (nx_sub s (ss_ifF decl_name% ((eqD_i _ _).trans (decide_eq_false c1')) decl_name%) fun ρ' s' => ⟨t + 1, true, by omega, htn, sub_cons s'.get (sub_cons (by rw [et]; exact s'.get) (sub_cons s'.get sub_nil))⟩)
  . rintro m ρ ⟨t, f, hm, htt, s⟩ ⟨k, hk⟩
    have tb := root_b htt hn
    have tm : mulOk ((t + 1 : Nat) : Int) ((t + 1 : Nat) : Int) := mulOk_l (by omega)
    have e := hk.inj (ev_sub s (p := (.bl (decide (((t + 1 : Nat) : Int) * ((t + 1 : Nat) : Int) <= n)), 0)) decl_name%)
    have e : decide (((t + 1 : Nat) : Int) * ((t + 1 : Nat) : Int) <= n) = false := by injection e with e _; injection e with e; exact e.symm
    have e := of_decide_eq_false e
    have ecast : (((t + 1) * (t + 1) : Nat) : Int) = ((t + 1 : Nat) : Int) * ((t + 1 : Nat) : Int) := Int.natCast_mul _ _
    have := root_eq htt (by omega) h1 h2
    subst this
    exact rt_sub s decl_name%
def X_count_ways : Fx := Tb [("divisors", R_divisors)] [("MOST_COUNTED", .int 1000000)] BL IL ML TL noSl
def R_count_ways : List D -> Rs D := runD X_count_ways (defScope (top 10)) ["n"] (defBody (top 10))
theorem cw_0 : Okr (R_count_ways [.int 0]) (.int 1) := run_i (ss_ifF decl_name% rfl (ss_ifT decl_name% rfl decl_name%))
theorem cw_e {n : Nat} (hn : n <= 1000000) : Okr (R_count_ways [.int n]) (.int (due n)) := by
  by_cases h0 : n = 0
  . subst h0; exact cw_0
  . obtain ⟨T, r1, r2⟩ := ex_root n
    have hd := dv_e hn r1 r2
    have es : (((tls n T).map fun x : Nat => (x : Int)).filter fun d => !decide (d.fmod 4 = 0)).sum = ((fs n : Nat) : Int) := by
      rw [cast_sum]
      exact congrArg _ ((tls_perm (by omega) r1 r2).filter _).sum_nat
    have hl : ((tls n T).map fun x : Nat => (x : Int)).length <= 2100 := by rw [List.length_map]; have := len_tls n T; have := root_b r1 hn; omega
    unfold due
    rw [if_neg h0, <- es]
    generalize (tls n T).map (fun x : Nat => (x : Int)) = ns at *
    refine run_i (ss_ifF (ev_bop (evb_f (decl_name%.bl (decide_eq_false (by omega))) (evb_f (decl_name%.bl (decide_eq_false (by omega))) evb_of))) rfl (ss_ifF (decl_name%.bl ((eqD_i _ _).trans (decide_eq_false (by omega)))) rfl (ss_rt (ex_ret (ev_bin decl_name% (ev_blt (B := bSum) (evs_cons (ev_comp (out := (ns.filter fun d => !decide (d.fmod 4 = 0)).map D.int) (j := 0) (ev_call decl_name% hd) (ds := ns.map D.int) rfl ⟨by rw [List.length_map]; exact Nat.le_trans hl (by decide), .inr (Nat.zero_le 1)⟩ (compD_filter (g := D.int) (f := D.int) (c := fun d => !decide (d.fmod 4 = 0)) fun x _ => ?_) (Nat.zero_le 1)) evs_nil) (sum_q _)) decl_name%)))))
    refine Okr.bnd (a := !decide (x.fmod 4 = 0)) (evb_and (b := !decide (x.fmod 4 = 0)) (c := !decide (x.fmod 4 = 0)) (decl_name%.bl (by show (!eqD (.int (x.fmod 4)) (.int 0)) = _; rw [eqD_i])) (fun h => by rw [h]; exact evb_at) id) ?_
    cases decide (x.fmod 4 = 0)
    . exact Okr.bnd decl_name% ok1
    . exact ok1
def X_l_doubled : Fx := Tb [] [] BL IL ML TL noSl
def R_l_doubled : List D -> Rs D := runD X_l_doubled (defScope (top 28)) ["_law_way"] (defBody (top 28))
theorem dbl_q (q : Qd) : Okr (R_l_doubled [dq q]) (dq (dbQ q)) := okr_of rfl (by walk_at "ob")
def X_l_falling : Fx := Tb [] [] BL IL ML TL noSl
def S_l_falling : List D -> Rs D := sp1 dQ fun q => .ok (.tup ((srtB true (abL q)).map D.int)) []
theorem S_l_falling_ok : ∀ ds r, Okr (S_l_falling ds) r -> RkRun X_l_falling (defScope (top 27)) ["_law_way"] (defBody (top 27)) ds r := by
  intro ds r h
  obtain ⟨q, rfl, h⟩ := sp1_inv h
  obtain ⟨rfl, _⟩ := okr_inv h
  exact ⟨rfl, Rk.tupS true (ns := abL q) (k := 0) decl_name% (by show 4 < 64; decide)⟩
def X_l_whole : Fx := Tb [] [] BL IL ML TL noSl
def R_l_whole : List D -> Rs D := runD X_l_whole (defScope (top 24)) ["_law_found"] (defBody (top 24))
def X_l_is : Fx := Tb [("_law_whole", R_l_whole)] [] BL IL ML TL noSl
def R_l_is : List D -> Rs D := runD X_l_is (defScope (top 25)) ["_law_found", "_law_due"] (defBody (top 25))
theorem l_is_t (p : Qd) : Okr (R_l_is [dq p, dq p]) (.bl true) := by
  refine decl_name%.eq ?_
  show D.bl (true && (eqD (dq p) (dq p) && true)) = _
  simp
def X_size : Fx := Tb [] [] BL IL ML TL noSl
def R_size : List D -> Rs D := runD X_size (defScope (top 16)) ["four"] (defBody (top 16))
def S_size : List D -> Rs D := sp1 dQ fun p => .ok (.int (szQ p)) [bdQ p]
theorem S_size_ok : ∀ ds r, Okr (S_size ds) r -> Okr (R_size ds) r := by
  intro ds r h
  obtain ⟨p, rfl, h'⟩ := sp1_inv h
  obtain ⟨rfl, hp, _⟩ := okr_inv h'
  obtain ⟨⟨a1, a2, a3, a4⟩, _⟩ := bd_mul hp hp
  exact okr_of rfl (by walk_at "ob")
def X_l_orders : Fx := Tb [] [] BL IL ML TL noSl
def S_l_orders : List D -> Rs D := fun ds => match ds with
  | [.tup [.int a, .int b, .int c, .int d]] => .ok (.int (ordI [a, b, c, d])) [∀ n ∈ [a, b, c, d], 0 <= n /\ n <= 20]
  | _ => .st
def dvP (m : Int) (j : Nat) : Int := (List.range j).foldl (fun m k => m.fdiv ((2 + k : Nat) : Int)) m
theorem dvP_s (m : Int) (j : Nat) : dvP m (j + 1) = (dvP m j).fdiv ((2 + j : Nat) : Int) := by unfold dvP; rw [List.range_succ, List.foldl_append]; rfl
theorem or_turn {a b c d m p : Int} {f : Bool} {ρ : Rho} (s : Sub (envL [("_law_way", t4 a b c d, false), ("_law_many", .int m, f)]) ρ) : ∃ ρ2, Okr (exSs X_l_orders (forBody ((defBody (top 26)).getD 1 (.Pass ⟨0, 0, 0, 0⟩))) (defScope (top 26)) (putR ρ "_law_part" (.int p, false))) (.nx ρ2) /\ ∃ f, Sub (envL [("_law_way", t4 a b c d, false), ("_law_many", .int (dvF m (cntI [a, b, c, d] p)), f)]) ρ2 := by
  have s0 := s.put (Str.ofString "_law_part") (.int p, false)
  have sd := s0.demote (forIt ((forBody ((defBody (top 26)).getD 1 (.Pass ⟨0, 0, 0, 0⟩))).getD 0 (.Pass ⟨0, 0, 0, 0⟩)))
  have hc : cntI [a, b, c, d] p <= 4 := List.countP_le_length
  generalize hC : cntI [a, b, c, d] p = C at *
  obtain ⟨ρ2, h2, f2, s2⟩ := for_ax (Φ := X_l_orders) (sc := defScope (top 26)) (ρ := putR ρ "_law_part" (.int p, false)) (tg := forTg ((forBody ((defBody (top 26)).getD 1 (.Pass ⟨0, 0, 0, 0⟩))).getD 0 (.Pass ⟨0, 0, 0, 0⟩))) (it := forIt ((forBody ((defBody (top 26)).getD 1 (.Pass ⟨0, 0, 0, 0⟩))).getD 0 (.Pass ⟨0, 0, 0, 0⟩))) (body := forBody ((forBody ((defBody (top 26)).getD 1 (.Pass ⟨0, 0, 0, 0⟩))).getD 0 (.Pass ⟨0, 0, 0, 0⟩))) (p := ⟨0, 0, 0, 0⟩) (a := 2) (n := C + 1 - 2) (fun t ρ => ∃ f, Sub (envL [("_law_way", t4 a b c d, false), ("_law_many", .int (dvP m (t - 2)), f)]) ρ)
    (ev_sub sd (ev_it (B := iRange) (k := 0) (ds := [.int 2, .int ((C + 1 : Nat) : Int)]) (decl_name%.eq (by rw [<- hC]; rfl)) (rng2 (b := C + 1) (by omega)))) ⟨f, sub_cons sd.get (sub_cons sd.get sub_nil)⟩ (fun t ρ q1 q2 ⟨f, s⟩ => by
      have td : divOk (t : Int) := ⟨by omega, big_of (by omega)⟩
      refine ⟨_, rfl, nx_sub (s.put _ _) decl_name% fun ρ' s' => ⟨true, sub_cons s'.get (sub_cons ?_ sub_nil)⟩⟩
      obtain ⟨j, rfl⟩ : ∃ j, t = 2 + j := ⟨t - 2, by omega⟩
      rw [show 2 + j + 1 - 2 = j + 1 by omega, dvP_s]
      have := s'.get (x := Str.ofString "_law_many")
      rw [show 2 + j - 2 = j by omega] at this
      exact this)
  refine ⟨ρ2, ss_nx h2 ss_nil, f2, sub_cons s2.get (sub_cons ?_ sub_nil)⟩
  have := s2.get (x := Str.ofString "_law_many")
  rw [show 2 + (C + 1 - 2) - 2 = C - 1 by omega] at this
  exact this
theorem or_chain {a b c d : Int} : ∀ (ps : List Int) (m : Int) (f : Bool) (ρ : Rho), Sub (envL [("_law_way", t4 a b c d, false), ("_law_many", .int m, f)]) ρ -> ∃ ρ', Fck X_l_orders (defScope (top 26)) (forTg ((defBody (top 26)).getD 1 (.Pass ⟨0, 0, 0, 0⟩))) (forBody ((defBody (top 26)).getD 1 (.Pass ⟨0, 0, 0, 0⟩))) (ps.map D.int) ρ ρ' /\ ∃ f, Sub (envL [("_law_way", t4 a b c d, false), ("_law_many", .int (ps.foldl (fun m p => dvF m (cntI [a, b, c, d] p)) m), f)]) ρ'
  | [], m, f, ρ, s => ⟨ρ, .nil, f, s⟩
  | p :: ps, m, f, ρ, s => by
    obtain ⟨ρ2, h2, f2, s2⟩ := or_turn (p := p) s
    obtain ⟨ρ3, h3, s3⟩ := or_chain ps _ f2 ρ2 s2
    exact ⟨ρ3, .cons rfl h2 h3, s3⟩
theorem or_fin {a b c d m : Int} {f : Bool} {ρ : Rho} (s : Sub (envL [("_law_way", t4 a b c d, false), ("_law_many", .int m, f)]) ρ) : Okr (exSs X_l_orders ((defBody (top 26)).drop 2) (defScope (top 26)) ρ) (.rt (.int ([a, b, c, d].foldl (fun m p => if 0 < p then m * 2 else m) m))) := by
  have sd := s.demote (forIt ((defBody (top 26)).getD 2 (.Pass ⟨0, 0, 0, 0⟩)))
  obtain ⟨ρ2, h2, m2, f2, e, s2⟩ := for_fm (Φ := X_l_orders) (sc := defScope (top 26)) (ρ := ρ) (tg := forTg ((defBody (top 26)).getD 2 (.Pass ⟨0, 0, 0, 0⟩))) (it := forIt ((defBody (top 26)).getD 2 (.Pass ⟨0, 0, 0, 0⟩))) (body := forBody ((defBody (top 26)).getD 2 (.Pass ⟨0, 0, 0, 0⟩))) (p := ⟨0, 0, 0, 0⟩) (h := D.int) (k := 0) (d := t4 a b c d) (fun l ρ => ∃ (m' : Int) (f : Bool), l.foldl (fun m p => if 0 < p then m * 2 else m) m' = [a, b, c, d].foldl (fun m p => if 0 < p then m * 2 else m) m /\ Sub (envL [("_law_many", .int m', f)]) ρ) [a, b, c, d]
    (ev_sub sd decl_name%) rfl ⟨m, f, rfl, sub_cons sd.get sub_nil⟩ (fun x l ρ ⟨m', f, e, s⟩ => by
      refine ⟨_, rfl, ?_⟩
      by_cases hx : 0 < x
      . refine nx_sub (s.put _ _) (ss_ifT decl_name% (decide_eq_true hx) decl_name%) fun ρ' s' => ⟨m' * 2, true, ?_, sub_cons s'.get sub_nil⟩
        rw [<- e, List.foldl_cons, if_pos hx]
      . refine nx_sub (s.put _ _) (ss_ifF decl_name% (decide_eq_false hx) ss_nil) fun ρ' s' => ⟨m', f, ?_, sub_cons s'.get sub_nil⟩
        rw [<- e, List.foldl_cons, if_neg hx])
  rw [<- e]
  exact ss_nx h2 (rt_sub s2 decl_name%)
theorem S_l_orders_ok : ∀ ds r, Okr (S_l_orders ds) r -> RkRun X_l_orders (defScope (top 26)) ["_law_way"] (defBody (top 26)) ds r := by
  rintro ds r ⟨l, h, hp⟩
  unfold S_l_orders at h
  split at h
  . rename_i a b c d
    cases h
    obtain ⟨ρ1, c1, f1, s1⟩ := or_chain (a := a) (b := b) (c := c) (d := d) (srtN (dd [a, b, c, d])) 24 true (demote (forIt ((defBody (top 26)).getD 1 (.Pass ⟨0, 0, 0, 0⟩))) (putR (argR ["_law_way"] [t4 a b c d]) "_law_many" (.int 24, true))) (sub_cons rfl (sub_cons rfl sub_nil))
    exact ⟨rfl, Rk.cut 1 decl_name% (Rk.forS (ns := [a, b, c, d]) (j := 0) decl_name% (Nat.le_refl 4) hp.1 c1 (Rk.base (or_fin s1)))⟩
  . cases h
theorem ord_q {r : List Nat} (h : rok 4 r) : Okr (S_l_orders [dr r]) (.int (ordI (natJ r))) := by
  obtain ⟨h1, h2⟩ := h
  match r, h1 with
  | [a, b, c, d], _ => exact ⟨[∀ n ∈ [(a : Int), (b : Int), (c : Int), (d : Int)], 0 <= n /\ n <= 20], rfl, fun n hn => by
      have ha := h2 a (by simp); have hb := h2 b (by simp); have hc := h2 c (by simp); have hd := h2 d (by simp)
      simp only [List.mem_cons, List.not_mem_nil, or_false] at hn
      omega, True.intro⟩
def X_small_primes : Fx := Tb [] [("FIRST_TOO_GREAT", .int 400)] BL IL ML TL noSl
def R_small_primes : List D -> Rs D := runD X_small_primes (defScope (top 21)) ["n"] (defBody (top 21))
theorem sp_turn {n : Int} {t m : Nat} {told : List Nat} {left : Int} {f : Bool} {P : Rho -> Prop} {ρ : Rho} (h1 : 2 <= t) (h2 : t < 400) (h : SpI n told left m) (hl : lowF t left) (s : Sub (envL [("told", .lst (nD told), true), ("left", .int left, f)]) ρ)
    (fin : ∀ ρ' told left m f, SpI n told left m -> lowF (t + 1) left -> Sub (envL [("told", .lst (nD told), true), ("left", .int left, f)]) ρ' -> P ρ') : ∃ ρ2, Okr (exSs X_small_primes (forBody ((defBody (top 21)).getD 2 (.Pass ⟨0, 0, 0, 0⟩))) (defScope (top 21)) (putR ρ "tried" (.int (t : Nat), false))) (.nx ρ2) /\ P ρ2 := by
  have t0 : (t : Int) ≠ 0 := by omega
  have td : divOk (t : Int) := ⟨t0, big_of (by omega)⟩
  have hm := h.ln
  refine wh_ex (m := m) (fun m ρ => ∃ told left f, SpI n told left m /\ lowF t left /\ Sub (envL [("told", .lst (nD told), true), ("left", .int left, f), ("tried", .int (t : Nat), false)]) ρ) ⟨told, left, f, h, hl, sub_cons (s.put _ _).get (sub_cons (s.put _ _).get (sub_cons rfl sub_nil))⟩ (by show m < 40000; omega) ?_ ?_
  . rintro m ρ ⟨told, left, f, h, hl, s⟩
    refine ⟨decide (left.fmod t = 0), 0, (ev_sub s decl_name%).bl (eqD_i _ _), fun ht => ?_⟩
    obtain ⟨m', rfl, h', e⟩ := h.step h1 h2 (of_decide_eq_true ht)
    have l1 : (nD told).length < many := by have := h.ln; rw [List.length_map]; show _ < 40000; omega
    exact wh_step (m' := m') (by omega) (nx_sub s decl_name% fun ρ' s' => ⟨told ++ [t], left.fdiv t, true, h', hl.div e, sub_cons (by rw [nD_app]; exact s'.get) (sub_cons s'.get (sub_cons s'.get sub_nil))⟩)
  . rintro m ρ ⟨told, left, f, h, hl, s⟩ ⟨k, hk⟩
    have h3 := hk.inj ((ev_sub s decl_name%).bl (eqD_i _ _))
    have h4 : false = decide (left.fmod t = 0) := by injection h3 with a b; injection a
    exact fin ρ told left m f h (hl.succ (of_decide_eq_false h4.symm)) (sub_cons s.get (sub_cons s.get sub_nil))
theorem sp_loop {n : Int} (hn : n ≠ 0) (hb : n.natAbs < 2 ^ 399) : ∃ ρ', Okr (exSs X_small_primes ((defBody (top 21)).take 3) (defScope (top 21)) (argR ["n"] [.int n])) (.nx ρ') /\ ∃ told left m f, SpI n told left m /\ lowF 400 left /\ Sub (envL [("told", .lst (nD told), true), ("left", .int left, f)]) ρ' := by
  obtain ⟨ρ1, h1, s1⟩ : ∃ ρ1, Okr (exSs X_small_primes (((defBody (top 21)).take 3).take 2) (defScope (top 21)) (argR ["n"] [.int n])) (.nx ρ1) /\ Sub (envL [("told", .lst (nD []), true), ("left", .int n, true)]) ρ1 := ⟨_, okr_of rfl (by walk_at "ob"), sub_cons rfl (sub_cons rfl sub_nil)⟩
  obtain ⟨ρ2, h2, told, left, m, f, h3, h4, s2⟩ := for_ax (Φ := X_small_primes) (sc := defScope (top 21)) (ρ := ρ1) (tg := forTg ((defBody (top 21)).getD 2 (.Pass ⟨0, 0, 0, 0⟩))) (it := forIt ((defBody (top 21)).getD 2 (.Pass ⟨0, 0, 0, 0⟩))) (body := forBody ((defBody (top 21)).getD 2 (.Pass ⟨0, 0, 0, 0⟩))) (p := ⟨0, 0, 0, 0⟩) (a := 2) (n := 398) (fun t ρ => ∃ told left m f, SpI n told left m /\ lowF t left /\ Sub (envL [("told", .lst (nD told), true), ("left", .int left, f)]) ρ) (ev_it (B := iRange) decl_name% (rng2 (b := 400) (by decide)))
    ⟨[], n, 399, true, ⟨hn, hb, by decide, fun _ h => (by cases h), by show ((1 : Nat) : Int) * n = n; rw [Int.natCast_one, Int.one_mul]⟩, fun d q1 q2 => absurd q1 (by omega), sub_cons (s1.demote _).get (sub_cons (s1.demote _).get sub_nil)⟩ (fun t ρ q1 q2 ⟨told, left, m, f, a1, a2, a3⟩ => ⟨_, rfl, sp_turn q1 (by omega) a1 a2 a3 fun ρ' told left m f b1 b2 b3 => ⟨told, left, m, f, b1, b2, b3⟩⟩)
  exact ⟨ρ2, ss_cut 2 h1 (ss_nx h2 ss_nil), told, left, m, f, h3, h4, s2⟩
theorem sp_q {ps : List Nat} (hp : sml ps) (hb : prN ps < 2 ^ 399) : ∃ told : List Nat, sml told /\ prN told = prN ps /\ told.length <= 400 /\ Okr (R_small_primes [.int (prN ps : Nat)]) (.lst (nD told)) := by
  have h0 := prN_pos hp
  obtain ⟨ρ', h1, told, left, m, f, h2, h3, s⟩ := sp_loop (n := (prN ps : Nat)) (by omega) (by rw [Int.natAbs_natCast]; exact hb)
  have e := h2.fin1 hp h3
  subst e
  have pr := h2.pr
  rw [Int.mul_one] at pr
  have ln := h2.ln
  exact ⟨told, h2.sm, by omega, by omega, run_i (ss_cut 3 h1 (rt_sub s (ss_ifF decl_name% (ne_i rfl) decl_name%)))⟩
def X_one_way : Fx := Tb [("small_primes", R_small_primes), ("joined_ways", S_joined_ways), ("falling_ways", R_falling_ways)] [("NOUGHT", .tup [.int 0, .int 0, .int 0, .int 0])] BL IL ML TL noSl
def R_one_way : List D -> Rs D := runD X_one_way (defScope (top 20)) ["n"] (defBody (top 20))
theorem ow_0 : Okr (R_one_way [.int 0]) (dq (0, 0, 0, 0)) := run_i (ss_ifT decl_name% rfl decl_name%)
theorem ow_turn {x : Nat} {ks told : List Nat} {P : Rho -> Prop} {ρ : Rho} (hx : 2 <= x /\ x < 400) (hl : ks.length < 400) (s : Sub (envL [("by_prime", .dct (kyN ks) (ks.map fun y => dq (hdW y)), true), ("primes", .lst (nD told), false)]) ρ)
    (fin : ∀ ρ' ks', x ∈ ks' -> (∀ y ∈ ks, y ∈ ks') -> ks'.length <= ks.length + 1 -> Sub (envL [("by_prime", .dct (kyN ks') (ks'.map fun y => dq (hdW y)), true), ("primes", .lst (nD told), false)]) ρ' -> P ρ') : ∃ ρ2, Okr (exSs X_one_way (forBody ((defBody (top 20)).getD 3 (.Pass ⟨0, 0, 0, 0⟩))) (defScope (top 20)) (putR ρ "prime" (.int (x : Nat), false))) (.nx ρ2) /\ P ρ2 := by
  have hh := has_ky x ks
  by_cases hm : x ∈ ks
  . rw [decide_eq_true hm] at hh
    exact nx_sub (s.put _ _) (ss_ifF decl_name% (by show (!hasK (kyN ks) (.inl (x : Int))) = false; rw [hh]; rfl) ss_nil) fun ρ' s' => fin ρ' ks hm (fun _ h => h) (by omega) (sub_cons s'.get (sub_cons s'.get sub_nil))
  . rw [decide_eq_false hm] at hh
    obtain ⟨⟨rs, e⟩, _, _⟩ := hdW_ok (p := x) (by omega)
    have hf := fw_q (n := x) (by omega)
    rw [e] at hf
    obtain ⟨p1, p2⟩ := put_ky (f := fun y => dq (hdW y)) hm
    refine nx_sub (s.put _ _) (ss_ifT decl_name% (by show (!hasK (kyN ks) (.inl (x : Int))) = true; rw [hh]; rfl) (ss_nx (ex_dput (ks := kyN ks) (ds := ks.map fun y => dq (hdW y)) (d := dq (hdW x)) (key := .inl (x : Int)) rfl (ev_ix (ev_call decl_name% hf) decl_name% rfl (atI_nat (j := 0) rfl)) decl_name% rfl (by unfold kyN; rw [List.length_map]; show _ < 40000; omega) rfl) ss_nil)) fun ρ' s' => fin ρ' (ks ++ [x]) (List.mem_append_right _ (List.mem_singleton.mpr rfl)) (fun y hy => List.mem_append_left _ hy) (by rw [List.length_append]; exact Nat.le_refl _) ?_
    rw [<- p1, <- p2]
    exact sub_cons s'.get (sub_cons s'.get sub_nil)
theorem ow_q {n : Nat} {told : List Nat} (hn : n ≠ 0) (ht : sml told) (hl : told.length <= 400) (h : Okr (R_small_primes [.int (n : Nat)]) (.lst (nD told))) : Okr (R_one_way [.int (n : Nat)]) (dq ((told.map hdW).foldl plnQ (1, 0, 0, 0))) := by
  have hw : ∀ q ∈ told.map hdW, wdQ 5 q := fun q hq => by
    obtain ⟨x, hx, rfl⟩ := List.mem_map.mp hq
    exact (hdW_ok (by have := ht x hx; omega)).2.2
  have hj : Okr (S_joined_ways [.lst (told.map fun x => dq (hdW x))]) (dq ((told.map hdW).foldl plnQ (1, 0, 0, 0))) := by
    rw [show (told.map fun x => dq (hdW x)) = (told.map hdW).map dq by rw [List.map_map]; rfl, <- jnL_map]
    exact ⟨_, rfl, ⟨told.map hdW, rfl, okJ_of (m := 1) (n := 5) ⟨by decide, by decide, by decide, by decide⟩ hw (by rw [List.length_map]; omega) (by decide)⟩, True.intro⟩
  refine run_i (ss_ifF decl_name% ((eqD_i _ _).trans (decide_eq_false (by omega))) (ss_nx (ex_set (ev_call decl_name% h)) (ss_cut 1 decl_name% (ss_ex (for_fm (h := fun x : Nat => D.int (x : Nat)) (fun q ρ => ∃ ks : List Nat, (∀ x ∈ told, x ∈ ks \/ x ∈ q) /\ (∀ x ∈ q, 2 <= x /\ x < 400) /\ ks.length + q.length <= 400 /\ Sub (envL [("by_prime", .dct (kyN ks) (ks.map fun y => dq (hdW y)), true), ("primes", .lst (nD told), false)]) ρ) told decl_name% rfl ⟨[], fun x hx => .inr hx, ht, by simpa using hl, sub_cons rfl (sub_cons rfl sub_nil)⟩ ?_) ?_))))
  . rintro x q ρ ⟨ks, h1, h2, h3, s⟩
    rw [List.length_cons] at h3
    exact ⟨_, rfl, ow_turn (h2 x List.mem_cons_self) (by omega) s fun ρ' ks' g1 g2 g3 s' => ⟨ks', fun y hy => (h1 y hy).elim (fun z => .inl (g2 y z)) fun z => (List.mem_cons.mp z).elim (fun w => .inl (w ▸ g1)) .inr, fun y hy => h2 y (List.mem_cons_of_mem _ hy), by omega, s'⟩⟩
  . rintro ρ ⟨ks, h1, h2, h3, s⟩
    refine rt_sub s (ss_rt (ex_ret (ev_call (evs_cons (ev_compM (l := told) (g := fun x : Nat => D.int (x : Nat)) (f := fun x => dq (hdW x)) decl_name% rfl (by show _ <= 40000; omega) (.inr (kn1 _)) fun x hx => ⟨_, rfl, ev_dget decl_name% decl_name% rfl (get_ky (f := fun y => dq (hdW y)) ((h1 x hx).resolve_right (fun z => nomatch z)))⟩) evs_nil) hj)))
theorem ow_p {ps : List Nat} (hp : sml ps) (hb : prN ps < 2 ^ 399) : ∃ q : Qd, Okr (R_one_way [.int (prN ps : Nat)]) (dq q) /\ bdQ q /\ sqQ q = (prN ps : Nat) := by
  obtain ⟨told, h1, h2, h3, h4⟩ := sp_q hp hb
  have h0 := prN_pos hp
  refine ⟨_, ow_q (by omega) h1 h3 h4, ?_, ?_⟩
  . exact (wdQ_fold (m := 1) (n := 5) ⟨by decide, by decide, by decide, by decide⟩ fun q hq => by
      obtain ⟨x, hx, rfl⟩ := List.mem_map.mp hq
      exact (hdW_ok (by have := h1 x hx; omega)).2.2).bd (by rw [List.length_map]; omega)
  . rw [sq_fold told _ fun x hx => (hdW_ok (by have := h1 x hx; omega)).2.1, h2]
    show (1 * 1 + (0 * 0 + (0 * 0 + (0 * 0 + 0)) : Int)) * _ = _
    omega
def X_law : Fx := Tb [("joined_ways", S_joined_ways), ("falling_ways", R_falling_ways), ("product", S_product), ("_law_cell", S_l_cell), ("count_ways", R_count_ways), ("_law_doubled", R_l_doubled), ("_law_falling", S_l_falling), ("_law_is", R_l_is), ("_law_whole", R_l_whole), ("size", S_size), ("_law_orders", S_l_orders), ("one_way", R_one_way)] [] BL IL ML TL noSl
def R_law : List D -> Rs D := runD X_law (defScope (top 29)) ["_law_script"] (defBody (top 29))
theorem joined_2 {p q : Qd} (hp : wdQ 5 p) (hq : wdQ 5 q) : Okr (S_joined_ways [.lst [dq p, dq q]]) (dq (plnQ p q)) := by
  have ok : okJ (1, 0, 0, 0) [p, q] := okJ_of (m := 1) (n := 5) ⟨by decide, by decide, by decide, by decide⟩ (fun r hr => by
    simp only [List.mem_cons, List.not_mem_nil, or_false] at hr
    rcases hr with rfl | rfl
    . exact hp
    . exact hq) (Nat.le_of_ble_eq_true rfl) (by decide)
  have : Okr (S_joined_ways [.lst ([p, q].map dq)]) (dq (([p, q] : List Qd).foldl plnQ (1, 0, 0, 0))) := by
    rw [<- jnL_map]
    exact ⟨_, rfl, ⟨[p, q], rfl, ok⟩, True.intro⟩
  rw [show ([p, q] : List Qd).foldl plnQ (1, 0, 0, 0) = plnQ p q by show plnQ (plnQ (1, 0, 0, 0) p) q = _; rw [one_plnQ]] at this
  exact this
theorem fall_q (q : Qd) : Okr (S_l_falling [dq q]) (.tup ((srtB true (abL q)).map D.int)) := ⟨[], rfl, True.intro⟩
theorem one_q {m : Nat} (hm : m <= 400) : ∃ q : Qd, Okr (R_one_way [.int (m : Nat)]) (dq q) /\ sqQ q = (m : Int) := by
  by_cases h0 : m = 0
  . subst h0; exact ⟨(0, 0, 0, 0), ow_0, rfl⟩
  . obtain ⟨ps, h1, h2, h3⟩ := ex_sml h0 hm
    obtain ⟨q, o1, _, o3⟩ := ow_p h1 h3
    rw [h2] at o1 o3
    exact ⟨q, o1, o3⟩
theorem drawn_q {n : Nat} (hn : n <= 400) (c : Int) : ∃ q : Qd, wdQ 5 q /\ sqQ q = (n : Int) /\ ((way n).length : Int) ≠ 0 /\ ((way n).length : Int) <= 4000 /\ L2.atI ((way n).map dr) (c.fmod ((way n).length : Int)) = some (dq q) := by
  obtain ⟨r, rs, e, _⟩ := way_hd hn
  have l0 : 0 < (way n).length := by show 0 < ((rws n 4).filter _).length; rw [e]; exact Nat.succ_pos _
  have l1 := way_len hn
  obtain ⟨x, hx, hat⟩ := at_fm (f := dr) (l := way n) (i := c.fmod ((way n).length : Int)) (Int.fmod_nonneg_of_pos _ (by omega)) (Int.fmod_lt_of_pos _ (by omega))
  obtain ⟨h1, h2⟩ := way_ok hx
  obtain ⟨g1, g2, g3⟩ := dr_q h1
  rw [g1] at hat
  exact ⟨qN x, g3, by rw [g2, h2], by omega, by omega, hat⟩
theorem len_q (l : List D) : Okr (bLen [.lst l]) (.int (l.length : Nat), 0) := ⟨_, rfl, True.intro⟩
theorem law_true (ns : List Int) (_ : ns.length <= 63) : Okr (R_law [.lst (ns.map D.int)]) (.bl true) := by
  have hl : okL (ns.map D.int) := ⟨ns, rfl⟩
  generalize ns.map D.int = L at *
  obtain ⟨n, en, hn⟩ : ∃ n : Nat, (cel L 0).fmod 401 = (n : Int) /\ n <= 400 := ⟨((cel L 0).fmod 401).toNat, by have := Int.fmod_nonneg_of_pos (cel L 0) (show (0 : Int) < 401 by decide); omega, by have := Int.fmod_lt_of_pos (cel L 0) (show (0 : Int) < 401 by decide); omega⟩
  obtain ⟨o, eo, ho1, ho2⟩ : ∃ o : Nat, 1 + (cel L 1).fmod 40 = (o : Int) /\ 1 <= o /\ o <= 40 := ⟨(1 + (cel L 1).fmod 40).toNat, by have := Int.fmod_nonneg_of_pos (cel L 1) (show (0 : Int) < 40 by decide); omega, by have := Int.fmod_nonneg_of_pos (cel L 1) (show (0 : Int) < 40 by decide); omega, by have := Int.fmod_lt_of_pos (cel L 1) (show (0 : Int) < 40 by decide); omega⟩
  obtain ⟨z, eq, z1, z2⟩ : ∃ z : Nat, (400 : Int).fdiv (o : Int) = (z : Int) /\ z <= 400 /\ o * z <= 400 := ⟨400 / o, by rw [Int.fdiv_eq_ediv_of_nonneg _ (by omega)]; rfl, Nat.div_le_self _ _, Nat.mul_div_le 400 o⟩
  have q0 : (400 : Int).fdiv (o : Int) + 1 ≠ 0 := by omega
  have q1 : divOk ((400 : Int).fdiv (o : Int) + 1) := ⟨q0, big_of (by rw [eq]; omega)⟩
  have qo : divOk (o : Int) := ⟨by omega, big_of (by omega)⟩
  obtain ⟨t, et, ht⟩ : ∃ t : Nat, (cel L 2).fmod ((400 : Int).fdiv (o : Int) + 1) = (t : Int) /\ o * t <= 400 := by
    rw [eq]
    have h1 := Int.fmod_nonneg_of_pos (cel L 2) (show (0 : Int) < (z : Int) + 1 by omega)
    have h2 := Int.fmod_lt_of_pos (cel L 2) (show (0 : Int) < (z : Int) + 1 by omega)
    generalize (cel L 2).fmod ((z : Int) + 1) = y at *
    exact ⟨y.toNat, by omega, Nat.le_trans (Nat.mul_le_mul_left o (show y.toNat <= z by omega)) z2⟩
  have ht4 : t <= 400 := Nat.le_trans (Nat.le_mul_of_pos_left t (by omega)) ht
  obtain ⟨p, wp, sp, p0, p4, ap⟩ := drawn_q (n := o) (by omega) (cel L 3)
  obtain ⟨q, wq, sq, r0, r4, aq⟩ := drawn_q (n := t) ht4 (cel L 4)
  obtain ⟨w, ow, sw⟩ := one_q ht
  have fo := fw_q (n := o) (by omega)
  have ft := fw_q (n := t) ht4
  have fm := fw_q ht
  have fN := fw_q hn
  have sums := ord_sum hn
  have cw := cw_e (n := n) (by omega)
  have hb := joined_2 wp wq
  have sb : sqQ (plnQ p q) = ((o * t : Nat) : Int) := by rw [sqQ_mul, sp, sq, Int.natCast_mul]
  have i1 := fall_in sb ht
  have i2 := fall_in sw ht
  have wb : wdQ (1 + (5 + 2) * 2) (plnQ p q) := by
    have := wdQ_fold (qs := [p, q]) (p := (1, 0, 0, 0)) (m := 1) (n := 5) ⟨by decide, by decide, by decide, by decide⟩ (fun r hr => by
      simp only [List.mem_cons, List.not_mem_nil, or_false] at hr
      rcases hr with rfl | rfl
      . exact wp
      . exact wq)
    rw [show ([p, q] : List Qd).foldl plnQ (1, 0, 0, 0) = plnQ p q by show plnQ (plnQ (1, 0, 0, 0) p) q = _; rw [one_plnQ]] at this
    exact this
  have bp := (db_wd wp).bd (by decide)
  have bq := (db_wd wq).bd (by decide)
  have bb := (db_wd wb).bd (by decide)
  have hm : Okr (S_product [dq (dbQ p), dq (dbQ q)]) (dq (dbQ (plnQ p q))) := by
    rw [<- db_mul]; exact ⟨_, rfl, bp, bq, True.intro⟩
  have z1 : Okr (S_size [dq (dbQ p)]) (.int (o : Nat)) := by rw [<- sp, <- db_sz]; exact ⟨_, rfl, bp, True.intro⟩
  have z2 : Okr (S_size [dq (dbQ q)]) (.int (t : Nat)) := by rw [<- sq, <- db_sz]; exact ⟨_, rfl, bq, True.intro⟩
  have z3 : Okr (S_size [dq (dbQ (plnQ p q))]) (.int ((o * t : Nat) : Int)) := by rw [<- sb, <- db_sz]; exact ⟨_, rfl, bb, True.intro⟩
  have mo : mulOk (o : Int) (t : Int) := mulOk_l (by omega)
  have d1 := dbl_q p
  have d2 := dbl_q q
  have d3 := dbl_q (plnQ p q)
  have hi := l_is_t (dbQ (plnQ p q))
  generalize hV : dbQ (plnQ p q) = V at *
  generalize hP : dbQ p = P2 at *
  generalize hQ : dbQ q = Q2 at *
  have ll := way_len hn
  have dp : divOk ((way o).length : Int) := ⟨p0, big_of (by omega)⟩
  have dt : divOk ((way t).length : Int) := ⟨r0, big_of (by omega)⟩
  refine run_i (ss_nx (ex_set (d := .int ((cel L 0).fmod 401)) decl_name%) ?_)
  rw [en]
  refine ss_ifF (t := false) (k := 0) (ev_cmp (x := .int (due n)) (y := .int (due n)) (r := false) (ev_blt (v := (.int (due n), 0)) (B := bSum) (evs_cons (ev_compM (l := way n) (g := dr) (f := fun r => .int (ordI (natJ r))) (ev_call decl_name% fN) rfl (by show _ <= 40000; omega) (.inr (Nat.zero_le 1)) fun r hr => ⟨_, rfl, ev_call decl_name% (ord_q (way_ok hr).1)⟩) evs_nil) ?_) (ev_call decl_name% cw) (decl_name%.eq (ne_i rfl))) rfl ?_
  . have := sum_q ((way n).map fun r => ordI (natJ r))
    rw [List.map_map, sums] at this
    exact this
  refine ss_nx (ex_set (d := .int (1 + (cel L 1).fmod 40)) decl_name%) ?_
  rw [eo]
  refine ss_nx (ex_set (d := .int ((cel L 2).fmod ((400 : Int).fdiv (o : Int) + 1))) decl_name%) ?_
  rw [et]
  refine ss_nx (ex_set (d := dq p) (ev_ix (ev_call decl_name% fo) (ev_bin (y := .int ((way o).length : Nat)) decl_name% (ev_blt (B := bLen) (evs_cons (ev_call decl_name% fo) evs_nil) ((len_q _).eq (by rw [List.length_map]))) decl_name%) rfl ap)) ?_
  refine ss_nx (ex_set (d := dq q) (ev_ix (ev_call decl_name% ft) (ev_bin (y := .int ((way t).length : Nat)) decl_name% (ev_blt (B := bLen) (evs_cons (ev_call decl_name% ft) evs_nil) ((len_q _).eq (by rw [List.length_map]))) decl_name%) rfl aq)) ?_
  refine ss_nx (ex_set (d := dq (plnQ p q)) (ev_call decl_name% hb)) ?_
  generalize hB : plnQ p q = B at *
  refine ss_nx (ex_set (d := .lst ((way (o * t)).map dr)) (ev_call (ds := [.int ((o * t : Nat) : Int)]) (k := 0) (decl_name%.eq (by rw [Int.natCast_mul]; rfl)) fm)) ?_
  generalize (way (o * t)).map dr = W at *
  refine ss_ifF (t := false) (k := 0) (ev_bop (evb_f (ev_cmp (ev_call decl_name% (fall_q B)) decl_name% i1) (evb_f (ev_cmp (ev_call (evs_cons (ev_call (ds := [.int ((o * t : Nat) : Int)]) (k := 0) (decl_name%.eq (by rw [Int.natCast_mul]; rfl)) ow) evs_nil) (fall_q w)) decl_name% i2) evb_of))) rfl ?_
  refine ss_nx (ex_set (d := dq V) (ev_call (evs_cons (ev_call decl_name% d1) (evs_cons (ev_call decl_name% d2) evs_nil)) hm)) ?_
  refine ss_ifF (t := false) (k := 0) (ev_bop (evb_f (ev_not (ev_call (evs_cons decl_name% (evs_cons (ev_call decl_name% d3) evs_nil)) hi)) (evb_f (ev_not (ev_call (evs_cons (ev_call decl_name% z3) evs_nil) (v := .bl true) decl_name%)) evb_of))) rfl ?_
  refine ss_rt (ex_ret (ev_bop (evb_t (ev_cmp (ev_call decl_name% z3) (y := .int ((o * t : Nat) : Int)) (j := 0) (decl_name%.eq (by rw [Int.natCast_mul])) (decl_name%.eq (eq_i rfl))) (evb_t (ev_cmp (ev_call decl_name% z3) (y := .int ((o * t : Nat) : Int)) (j := 0) (ev_bin (ev_call (evs_cons (ev_call decl_name% d1) evs_nil) z1) (ev_call (evs_cons (ev_call decl_name% d2) evs_nil) z2) (decl_name%.eq (by rw [Int.natCast_mul]))) (decl_name%.eq (eq_i rfl))) evb_at))))
theorem sc14 : FnScope (localsOf (defScope (top 14))) ["one", "other"] (defScope (top 14)) := ⟨rfl, rfl, rfl, by decide +kernel, by decide +kernel, by decide +kernel, by decide +kernel⟩
theorem sc19 : FnScope (localsOf (defScope (top 19))) ["ways"] (defScope (top 19)) := ⟨rfl, rfl, rfl, by decide +kernel, by decide +kernel, by decide +kernel, by decide +kernel⟩
theorem sc9 : FnScope (localsOf (defScope (top 9))) ["row"] (defScope (top 9)) := ⟨rfl, rfl, rfl, by decide +kernel, by decide +kernel, by decide +kernel, by decide +kernel⟩
theorem sc8 : FnScope (localsOf (defScope (top 8))) ["rows", "n"] (defScope (top 8)) := ⟨rfl, rfl, rfl, by decide +kernel, by decide +kernel, by decide +kernel, by decide +kernel⟩
theorem sc7 : FnScope (localsOf (defScope (top 7))) ["n"] (defScope (top 7)) := ⟨rfl, rfl, rfl, by decide +kernel, by decide +kernel, by decide +kernel, by decide +kernel⟩
theorem sc15 : FnScope (localsOf (defScope (top 15))) ["one", "other"] (defScope (top 15)) := ⟨rfl, rfl, rfl, by decide +kernel, by decide +kernel, by decide +kernel, by decide +kernel⟩
theorem sc23 : FnScope (localsOf (defScope (top 23))) ["_law_script", "_law_k"] (defScope (top 23)) := ⟨rfl, rfl, rfl, by decide +kernel, by decide +kernel, by decide +kernel, by decide +kernel⟩
theorem sc11 : FnScope (localsOf (defScope (top 11))) ["n"] (defScope (top 11)) := ⟨rfl, rfl, rfl, by decide +kernel, by decide +kernel, by decide +kernel, by decide +kernel⟩
theorem sc10 : FnScope (localsOf (defScope (top 10))) ["n"] (defScope (top 10)) := ⟨rfl, rfl, rfl, by decide +kernel, by decide +kernel, by decide +kernel, by decide +kernel⟩
theorem sc28 : FnScope (localsOf (defScope (top 28))) ["_law_way"] (defScope (top 28)) := ⟨rfl, rfl, rfl, by decide +kernel, by decide +kernel, by decide +kernel, by decide +kernel⟩
theorem sc27 : FnScope (localsOf (defScope (top 27))) ["_law_way"] (defScope (top 27)) := ⟨rfl, rfl, rfl, by decide +kernel, by decide +kernel, by decide +kernel, by decide +kernel⟩
theorem sc24 : FnScope (localsOf (defScope (top 24))) ["_law_found"] (defScope (top 24)) := ⟨rfl, rfl, rfl, by decide +kernel, by decide +kernel, by decide +kernel, by decide +kernel⟩
theorem sc25 : FnScope (localsOf (defScope (top 25))) ["_law_found", "_law_due"] (defScope (top 25)) := ⟨rfl, rfl, rfl, by decide +kernel, by decide +kernel, by decide +kernel, by decide +kernel⟩
theorem sc16 : FnScope (localsOf (defScope (top 16))) ["four"] (defScope (top 16)) := ⟨rfl, rfl, rfl, by decide +kernel, by decide +kernel, by decide +kernel, by decide +kernel⟩
theorem sc26 : FnScope (localsOf (defScope (top 26))) ["_law_way"] (defScope (top 26)) := ⟨rfl, rfl, rfl, by decide +kernel, by decide +kernel, by decide +kernel, by decide +kernel⟩
theorem sc21 : FnScope (localsOf (defScope (top 21))) ["n"] (defScope (top 21)) := ⟨rfl, rfl, rfl, by decide +kernel, by decide +kernel, by decide +kernel, by decide +kernel⟩
theorem sc20 : FnScope (localsOf (defScope (top 20))) ["n"] (defScope (top 20)) := ⟨rfl, rfl, rfl, by decide +kernel, by decide +kernel, by decide +kernel, by decide +kernel⟩
theorem sc29 : FnScope (localsOf (defScope (top 29))) ["_law_script"] (defScope (top 29)) := ⟨rfl, rfl, rfl, by decide +kernel, by decide +kernel, by decide +kernel, by decide +kernel⟩
theorem BL_ok : ∀ p ∈ BL, BltP p := mem_cons_ok (Pr := BltP) (bLen_ok) (mem_cons_ok (Pr := BltP) (bTuple_ok) (mem_cons_ok (Pr := BltP) (bAbs_ok) (mem_cons_ok (Pr := BltP) (bAll_ok) (mem_cons_ok (Pr := BltP) (bSum_ok) (mem_cons_ok (Pr := BltP) (bIsi_ok) (nil_ok))))))
theorem IL_ok : ∀ p ∈ IL, ItrP p := mem_cons_ok (Pr := ItrP) (iRange_ok) (nil_ok)
theorem ML_ok : ∀ p ∈ ML, MthP p := mem_cons_ok (Pr := MthP) (mCount_ok) (nil_ok)
theorem TL_ok : ∀ p ∈ TL, MutP p := mem_cons_ok (Pr := MutP) (mAppend_ok) (mem_cons_ok (Pr := MutP) (mExtend_ok) (nil_ok))
theorem cL {P : Program} {w : World} {k0 : PySem.W.Frag} {mg : Str -> Option Value} {base : Heap} {j k : Nat} {g : Str} {F : List D -> Rs D} {l : List (Str × (List D -> Rs D))} (h : FnD P w k0 mg base j g F) (t : ∀ p ∈ l, FnP P w k0 mg base k p) (hj : j <= k := by decide) : ∀ p ∈ (g, F) :: l, FnP P w k0 mg base k p := mem_cons_ok (Pr := FnP P w k0 mg base k) (Or.inl (h.mono hj)) t
theorem cN {mg : Str -> Option Value} {n : Str} {l : List Str} (h : mg n = none) (t : ∀ m ∈ l, mg m = none) : ∀ m ∈ n :: l, mg m = none := mem_cons_ok (Pr := fun n => mg n = none) h t
local macro_rules | `(tactic| walk_at "bn") => `(tactic| (intro _ _ _ _ _ _ us hl; first | (obtain ⟨x0, e⟩ := len1 hl; subst e; rfl) | (obtain ⟨x0, x1, e⟩ := len2 hl; subst e; rfl)))
theorem all_mk {l : PySem.W.OpenLaw} {w : World} {K : PySem.W.Frag} {h : Heap} {mg : Str -> Option Value} {fa f14 f19 f9 f8 f7 f15 f23 f11 f10 f28 f27 f24 f25 f16 f26 f21 f20 f29 : Addr} (X : K.In h) (G : h.Ns mainGlobals mg) (hfa : mg "law" = some (.ref fa))
    {od14 an14 od19 an19 od9 an9 od8 an8 od7 an7 od15 an15 od23 an23 od11 an11 od10 an10 od28 an28 od27 an27 od24 an24 od25 an25 od16 an16 od26 an26 od21 an21 od20 an20 od29 an29 : Option Addr} {sl14 sl19 sl9 sl8 sl7 sl15 sl23 sl11 sl10 sl28 sl27 sl24 sl25 sl16 sl26 sl21 sl20 sl29 : Array (Option Value)} {oc14 kV14 dc14 pm14 cd14 ct14 oc19 kV19 dc19 pm19 cd19 ct19 oc9 kV9 dc9 pm9 cd9 ct9 oc8 kV8 dc8 pm8 cd8 ct8 oc7 kV7 dc7 pm7 cd7 ct7 oc15 kV15 dc15 pm15 cd15 ct15 oc23 kV23 dc23 pm23 cd23 ct23 oc11 kV11 dc11 pm11 cd11 ct11 oc10 kV10 dc10 pm10 cd10 ct10 oc28 kV28 dc28 pm28 cd28 ct28 oc27 kV27 dc27 pm27 cd27 ct27 oc24 kV24 dc24 pm24 cd24 ct24 oc25 kV25 dc25 pm25 cd25 ct25 oc16 kV16 dc16 pm16 cd16 ct16 oc26 kV26 dc26 pm26 cd26 ct26 oc21 kV21 dc21 pm21 cd21 ct21 oc20 kV20 dc20 pm20 cd20 ct20 oc29 kV29 dc29 pm29 cd29 ct29 : Value}
    (a14 : PySem.W.nsIn K mainGlobals "plain_product" = some (some (.ref f14)))    (l14 : K.lookup f14 = some ⟨oc14, od14, .func (PySem.W.fnOf "plain_product" "plain_product" (defArgs (top 14)) (defBody (top 14)) (defScope (top 14)) .none kV14 dc14 pm14 an14 cd14 ct14), sl14⟩) (c14 : PySem.W.codeIn K cd14 "plain_product" = true) (k14 : PySem.W.keepIn K (.ref f14) = true)
    (a19 : PySem.W.nsIn K mainGlobals "joined_ways" = some (some (.ref f19)))    (l19 : K.lookup f19 = some ⟨oc19, od19, .func (PySem.W.fnOf "joined_ways" "joined_ways" (defArgs (top 19)) (defBody (top 19)) (defScope (top 19)) .none kV19 dc19 pm19 an19 cd19 ct19), sl19⟩) (c19 : PySem.W.codeIn K cd19 "joined_ways" = true) (k19 : PySem.W.keepIn K (.ref f19) = true)
    (a9 : PySem.W.nsIn K mainGlobals "squares_of" = some (some (.ref f9)))    (l9 : K.lookup f9 = some ⟨oc9, od9, .func (PySem.W.fnOf "squares_of" "squares_of" (defArgs (top 9)) (defBody (top 9)) (defScope (top 9)) .none kV9 dc9 pm9 an9 cd9 ct9), sl9⟩) (c9 : PySem.W.codeIn K cd9 "squares_of" = true) (k9 : PySem.W.keepIn K (.ref f9) = true)
    (a8 : PySem.W.nsIn K mainGlobals "longer_rows" = some (some (.ref f8)))    (l8 : K.lookup f8 = some ⟨oc8, od8, .func (PySem.W.fnOf "longer_rows" "longer_rows" (defArgs (top 8)) (defBody (top 8)) (defScope (top 8)) .none kV8 dc8 pm8 an8 cd8 ct8), sl8⟩) (c8 : PySem.W.codeIn K cd8 "longer_rows" = true) (k8 : PySem.W.keepIn K (.ref f8) = true)
    (a7 : PySem.W.nsIn K mainGlobals "falling_ways" = some (some (.ref f7)))    (l7 : K.lookup f7 = some ⟨oc7, od7, .func (PySem.W.fnOf "falling_ways" "falling_ways" (defArgs (top 7)) (defBody (top 7)) (defScope (top 7)) .none kV7 dc7 pm7 an7 cd7 ct7), sl7⟩) (c7 : PySem.W.codeIn K cd7 "falling_ways" = true) (k7 : PySem.W.keepIn K (.ref f7) = true)
    (a15 : PySem.W.nsIn K mainGlobals "product" = some (some (.ref f15)))    (l15 : K.lookup f15 = some ⟨oc15, od15, .func (PySem.W.fnOf "product" "product" (defArgs (top 15)) (defBody (top 15)) (defScope (top 15)) .none kV15 dc15 pm15 an15 cd15 ct15), sl15⟩) (c15 : PySem.W.codeIn K cd15 "product" = true) (k15 : PySem.W.keepIn K (.ref f15) = true)
    (a23 : PySem.W.nsIn K mainGlobals "_law_cell" = some (some (.ref f23)))    (l23 : K.lookup f23 = some ⟨oc23, od23, .func (PySem.W.fnOf "_law_cell" "_law_cell" (defArgs (top 23)) (defBody (top 23)) (defScope (top 23)) .none kV23 dc23 pm23 an23 cd23 ct23), sl23⟩) (c23 : PySem.W.codeIn K cd23 "_law_cell" = true) (k23 : PySem.W.keepIn K (.ref f23) = true)
    (a11 : PySem.W.nsIn K mainGlobals "divisors" = some (some (.ref f11)))    (l11 : K.lookup f11 = some ⟨oc11, od11, .func (PySem.W.fnOf "divisors" "divisors" (defArgs (top 11)) (defBody (top 11)) (defScope (top 11)) .none kV11 dc11 pm11 an11 cd11 ct11), sl11⟩) (c11 : PySem.W.codeIn K cd11 "divisors" = true) (k11 : PySem.W.keepIn K (.ref f11) = true)
    (a10 : PySem.W.nsIn K mainGlobals "count_ways" = some (some (.ref f10)))    (l10 : K.lookup f10 = some ⟨oc10, od10, .func (PySem.W.fnOf "count_ways" "count_ways" (defArgs (top 10)) (defBody (top 10)) (defScope (top 10)) .none kV10 dc10 pm10 an10 cd10 ct10), sl10⟩) (c10 : PySem.W.codeIn K cd10 "count_ways" = true) (k10 : PySem.W.keepIn K (.ref f10) = true)
    (a28 : PySem.W.nsIn K mainGlobals "_law_doubled" = some (some (.ref f28)))    (l28 : K.lookup f28 = some ⟨oc28, od28, .func (PySem.W.fnOf "_law_doubled" "_law_doubled" (defArgs (top 28)) (defBody (top 28)) (defScope (top 28)) .none kV28 dc28 pm28 an28 cd28 ct28), sl28⟩) (c28 : PySem.W.codeIn K cd28 "_law_doubled" = true) (k28 : PySem.W.keepIn K (.ref f28) = true)
    (a27 : PySem.W.nsIn K mainGlobals "_law_falling" = some (some (.ref f27)))    (l27 : K.lookup f27 = some ⟨oc27, od27, .func (PySem.W.fnOf "_law_falling" "_law_falling" (defArgs (top 27)) (defBody (top 27)) (defScope (top 27)) .none kV27 dc27 pm27 an27 cd27 ct27), sl27⟩) (c27 : PySem.W.codeIn K cd27 "_law_falling" = true) (k27 : PySem.W.keepIn K (.ref f27) = true)
    (a24 : PySem.W.nsIn K mainGlobals "_law_whole" = some (some (.ref f24)))    (l24 : K.lookup f24 = some ⟨oc24, od24, .func (PySem.W.fnOf "_law_whole" "_law_whole" (defArgs (top 24)) (defBody (top 24)) (defScope (top 24)) .none kV24 dc24 pm24 an24 cd24 ct24), sl24⟩) (c24 : PySem.W.codeIn K cd24 "_law_whole" = true) (k24 : PySem.W.keepIn K (.ref f24) = true)
    (a25 : PySem.W.nsIn K mainGlobals "_law_is" = some (some (.ref f25)))    (l25 : K.lookup f25 = some ⟨oc25, od25, .func (PySem.W.fnOf "_law_is" "_law_is" (defArgs (top 25)) (defBody (top 25)) (defScope (top 25)) .none kV25 dc25 pm25 an25 cd25 ct25), sl25⟩) (c25 : PySem.W.codeIn K cd25 "_law_is" = true) (k25 : PySem.W.keepIn K (.ref f25) = true)
    (a16 : PySem.W.nsIn K mainGlobals "size" = some (some (.ref f16)))    (l16 : K.lookup f16 = some ⟨oc16, od16, .func (PySem.W.fnOf "size" "size" (defArgs (top 16)) (defBody (top 16)) (defScope (top 16)) .none kV16 dc16 pm16 an16 cd16 ct16), sl16⟩) (c16 : PySem.W.codeIn K cd16 "size" = true) (k16 : PySem.W.keepIn K (.ref f16) = true)
    (a26 : PySem.W.nsIn K mainGlobals "_law_orders" = some (some (.ref f26)))    (l26 : K.lookup f26 = some ⟨oc26, od26, .func (PySem.W.fnOf "_law_orders" "_law_orders" (defArgs (top 26)) (defBody (top 26)) (defScope (top 26)) .none kV26 dc26 pm26 an26 cd26 ct26), sl26⟩) (c26 : PySem.W.codeIn K cd26 "_law_orders" = true) (k26 : PySem.W.keepIn K (.ref f26) = true)
    (a21 : PySem.W.nsIn K mainGlobals "small_primes" = some (some (.ref f21)))    (l21 : K.lookup f21 = some ⟨oc21, od21, .func (PySem.W.fnOf "small_primes" "small_primes" (defArgs (top 21)) (defBody (top 21)) (defScope (top 21)) .none kV21 dc21 pm21 an21 cd21 ct21), sl21⟩) (c21 : PySem.W.codeIn K cd21 "small_primes" = true) (k21 : PySem.W.keepIn K (.ref f21) = true)
    (a20 : PySem.W.nsIn K mainGlobals "one_way" = some (some (.ref f20)))    (l20 : K.lookup f20 = some ⟨oc20, od20, .func (PySem.W.fnOf "one_way" "one_way" (defArgs (top 20)) (defBody (top 20)) (defScope (top 20)) .none kV20 dc20 pm20 an20 cd20 ct20), sl20⟩) (c20 : PySem.W.codeIn K cd20 "one_way" = true) (k20 : PySem.W.keepIn K (.ref f20) = true)
    (a29 : PySem.W.nsIn K mainGlobals "law" = some (some (.ref f29)))    (l29 : K.lookup f29 = some ⟨oc29, od29, .func (PySem.W.fnOf "law" "law" (defArgs (top 29)) (defBody (top 29)) (defScope (top 29)) .none kV29 dc29 pm29 an29 cd29 ct29), sl29⟩) (c29 : PySem.W.codeIn K cd29 "law" = true) (k29 : PySem.W.keepIn K (.ref f29) = true)
    {tk0 : Tok} (g0 : PySem.W.nsIn K mainGlobals "FIRST_TOO_GREAT" = some (some (.int (400) tk0)))
    {tk1 : Tok} (g1 : PySem.W.nsIn K mainGlobals "MOST_COUNTED" = some (some (.int (1000000) tk1)))
    {tk2 : Tok} (g2 : PySem.W.nsIn K mainGlobals "MOST_ROOT" = some (some (.int (20) tk2)))
    {tk3 : Tok} (g3 : PySem.W.nsIn K mainGlobals "MOST_TOLD" = some (some (.int (400) tk3)))
    {ca4 : Addr} {ss4 : Array (Option Value)} {nn4 : Nat} {tk4_0 tk4_1 tk4_2 tk4_3 : Tok} (g4 : PySem.W.nsIn K mainGlobals "NOUGHT" = some (some (.ref ca4))) (m4 : K.lookup ca4 = some ⟨.type "tuple", none, .seq #[.int (0) tk4_0, .int (0) tk4_1, .int (0) tk4_2, .int (0) tk4_3] nn4, ss4⟩)
    (z0 : PySem.W.nsIn K mainGlobals "len" = some none)    (z1 : PySem.W.nsIn K mainGlobals "tuple" = some none)    (z2 : PySem.W.nsIn K mainGlobals "list" = some none)    (z3 : PySem.W.nsIn K mainGlobals "abs" = some none)    (z4 : PySem.W.nsIn K mainGlobals "all" = some none)    (z5 : PySem.W.nsIn K mainGlobals "sum" = some none)    (z6 : PySem.W.nsIn K mainGlobals "isinstance" = some none)    (z7 : PySem.W.nsIn K mainGlobals "set" = some none)    (z8 : PySem.W.nsIn K mainGlobals "int" = some none)    (z9 : PySem.W.nsIn K mainGlobals "bool" = some none)    (z10 : PySem.W.nsIn K mainGlobals "str" = some none)    (z11 : PySem.W.nsIn K mainGlobals "range" = some none)    (z12 : PySem.W.nsIn K mainGlobals "zip" = some none)    (z13 : PySem.W.nsIn K mainGlobals "enumerate" = some none)    (z14 : PySem.W.nsIn K mainGlobals "any" = some none)    (z15 : PySem.W.nsIn K mainGlobals "sorted" = some none)    (z16 : PySem.W.nsIn K mainGlobals "min" = some none)    (z17 : PySem.W.nsIn K mainGlobals "max" = some none)    (z18 : PySem.W.nsIn K mainGlobals "reversed" = some none) :
    ∃ fd : FuncData, (∀ (s : Shared) (v : Value), BindsTo s fd ⟨[v], []⟩ [("_law_script", v)]) /\ ∀ base : Heap, K.In base -> base.Ns mainGlobals mg -> FnOk l.prog w K mg base CX0 5 fa fd ["_law_script"] (spD K R_law) := by
  have e := hfa.symm.trans (PySem.W.mg_of X G a29)
  cases e
  have hbl : ∀ n ∈ bnames, mg n = none := cN (PySem.W.mg_none_of X G z0) (cN (PySem.W.mg_none_of X G z1) (cN (PySem.W.mg_none_of X G z2) (cN (PySem.W.mg_none_of X G z3) (cN (PySem.W.mg_none_of X G z4) (cN (PySem.W.mg_none_of X G z5) (cN (PySem.W.mg_none_of X G z6) (cN (PySem.W.mg_none_of X G z7) (cN (PySem.W.mg_none_of X G z8) (cN (PySem.W.mg_none_of X G z9) (cN (PySem.W.mg_none_of X G z10) (cN (PySem.W.mg_none_of X G z11) (cN (PySem.W.mg_none_of X G z12) (cN (PySem.W.mg_none_of X G z13) (cN (PySem.W.mg_none_of X G z14) (cN (PySem.W.mg_none_of X G z15) (cN (PySem.W.mg_none_of X G z16) (cN (PySem.W.mg_none_of X G z17) (cN (PySem.W.mg_none_of X G z18) (nil_ok)))))))))))))))))))
  have F14 := fun_mk (st := (top 14)) l14 c14 k14
  have b14 := F14.binds (ps := ["one", "other"]) (by walk_at "bn")
  have F19 := fun_mk (st := (top 19)) l19 c19 k19
  have b19 := F19.binds (ps := ["ways"]) (by walk_at "bn")
  have F9 := fun_mk (st := (top 9)) l9 c9 k9
  have b9 := F9.binds (ps := ["row"]) (by walk_at "bn")
  have F8 := fun_mk (st := (top 8)) l8 c8 k8
  have b8 := F8.binds (ps := ["rows", "n"]) (by walk_at "bn")
  have F7 := fun_mk (st := (top 7)) l7 c7 k7
  have b7 := F7.binds (ps := ["n"]) (by walk_at "bn")
  have F15 := fun_mk (st := (top 15)) l15 c15 k15
  have b15 := F15.binds (ps := ["one", "other"]) (by walk_at "bn")
  have F23 := fun_mk (st := (top 23)) l23 c23 k23
  have b23 := F23.binds (ps := ["_law_script", "_law_k"]) (by walk_at "bn")
  have F11 := fun_mk (st := (top 11)) l11 c11 k11
  have b11 := F11.binds (ps := ["n"]) (by walk_at "bn")
  have F10 := fun_mk (st := (top 10)) l10 c10 k10
  have b10 := F10.binds (ps := ["n"]) (by walk_at "bn")
  have F28 := fun_mk (st := (top 28)) l28 c28 k28
  have b28 := F28.binds (ps := ["_law_way"]) (by walk_at "bn")
  have F27 := fun_mk (st := (top 27)) l27 c27 k27
  have b27 := F27.binds (ps := ["_law_way"]) (by walk_at "bn")
  have F24 := fun_mk (st := (top 24)) l24 c24 k24
  have b24 := F24.binds (ps := ["_law_found"]) (by walk_at "bn")
  have F25 := fun_mk (st := (top 25)) l25 c25 k25
  have b25 := F25.binds (ps := ["_law_found", "_law_due"]) (by walk_at "bn")
  have F16 := fun_mk (st := (top 16)) l16 c16 k16
  have b16 := F16.binds (ps := ["four"]) (by walk_at "bn")
  have F26 := fun_mk (st := (top 26)) l26 c26 k26
  have b26 := F26.binds (ps := ["_law_way"]) (by walk_at "bn")
  have F21 := fun_mk (st := (top 21)) l21 c21 k21
  have b21 := F21.binds (ps := ["n"]) (by walk_at "bn")
  have F20 := fun_mk (st := (top 20)) l20 c20 k20
  have b20 := F20.binds (ps := ["n"]) (by walk_at "bn")
  have F29 := fun_mk (st := (top 29)) l29 c29 k29
  refine ⟨PySem.W.fnOf "law" "law" (defArgs (top 29)) (defBody (top 29)) (defScope (top 29)) .none kV29 dc29 pm29 an29 cd29 ct29, fun s v => .of_eq rfl, fun base _ _ => ?_⟩
  have D14 : FnD l.prog w K mg base 1 "plain_product" S_plain_product := fnD_of F14 sc14 (PySem.W.mg_of X G a14) b14 (by decide +kernel) (fxo_of (nil_ok) (nil_ok) BL_ok IL_ok ML_ok TL_ok noSl_ok hbl) S_plain_product_ok
  have D19 : FnD l.prog w K mg base 2 "joined_ways" S_joined_ways := fnD_of F19 sc19 (PySem.W.mg_of X G a19) b19 (by decide +kernel) (fxo_of (cL D14 (nil_ok)) (nil_ok) BL_ok IL_ok ML_ok TL_ok noSl_ok hbl) S_joined_ways_ok
  have D9 : FnD l.prog w K mg base 1 "squares_of" R_squares_of := fnD_of F9 sc9 (PySem.W.mg_of X G a9) b9 (by decide +kernel) (fxo_of (nil_ok) (nil_ok) BL_ok IL_ok ML_ok TL_ok noSl_ok hbl) Runs.self
  have D8 : FnD l.prog w K mg base 2 "longer_rows" R_longer_rows := fnD_of F8 sc8 (PySem.W.mg_of X G a8) b8 (by decide +kernel) (fxo_of (cL D9 (nil_ok)) (mem_cons_ok (Pr := ConP mg K) (con_int (PySem.W.mg_of X G g2)) (nil_ok)) BL_ok IL_ok ML_ok TL_ok noSl_ok hbl) Runs.self
  have D7 : FnD l.prog w K mg base 3 "falling_ways" R_falling_ways := fnD_of F7 sc7 (PySem.W.mg_of X G a7) b7 (by decide +kernel) (fxo_of (cL D8 (cL D9 (nil_ok))) (mem_cons_ok (Pr := ConP mg K) (con_int (PySem.W.mg_of X G g3)) (nil_ok)) BL_ok IL_ok ML_ok TL_ok noSl_ok hbl) Runs.self
  have D15 : FnD l.prog w K mg base 2 "product" S_product := fnD_of F15 sc15 (PySem.W.mg_of X G a15) b15 (by decide +kernel) (fxo_of (cL D14 (nil_ok)) (nil_ok) BL_ok IL_ok ML_ok TL_ok noSl_ok hbl) S_product_ok
  have D23 : FnD l.prog w K mg base 1 "_law_cell" S_l_cell := fnD_of F23 sc23 (PySem.W.mg_of X G a23) b23 (by decide +kernel) (fxo_of (nil_ok) (nil_ok) BL_ok IL_ok ML_ok TL_ok noSl_ok hbl) S_l_cell_ok
  have D11 : FnD l.prog w K mg base 1 "divisors" R_divisors := fnD_of F11 sc11 (PySem.W.mg_of X G a11) b11 (by decide +kernel) (fxo_of (nil_ok) (nil_ok) BL_ok IL_ok ML_ok TL_ok noSl_ok hbl) Runs.self
  have D10 : FnD l.prog w K mg base 2 "count_ways" R_count_ways := fnD_of F10 sc10 (PySem.W.mg_of X G a10) b10 (by decide +kernel) (fxo_of (cL D11 (nil_ok)) (mem_cons_ok (Pr := ConP mg K) (con_int (PySem.W.mg_of X G g1)) (nil_ok)) BL_ok IL_ok ML_ok TL_ok noSl_ok hbl) Runs.self
  have D28 : FnD l.prog w K mg base 1 "_law_doubled" R_l_doubled := fnD_of F28 sc28 (PySem.W.mg_of X G a28) b28 (by decide +kernel) (fxo_of (nil_ok) (nil_ok) BL_ok IL_ok ML_ok TL_ok noSl_ok hbl) Runs.self
  have D27 : FnD l.prog w K mg base 1 "_law_falling" S_l_falling := fnD_lz (fnOk_Rk F27 sc27 (fxo_of (nil_ok) (nil_ok) BL_ok IL_ok ML_ok TL_ok noSl_ok hbl) S_l_falling_ok) (PySem.W.mg_of X G a27) k27 b27 (by decide +kernel)
  have D24 : FnD l.prog w K mg base 1 "_law_whole" R_l_whole := fnD_of F24 sc24 (PySem.W.mg_of X G a24) b24 (by decide +kernel) (fxo_of (nil_ok) (nil_ok) BL_ok IL_ok ML_ok TL_ok noSl_ok hbl) Runs.self
  have D25 : FnD l.prog w K mg base 2 "_law_is" R_l_is := fnD_of F25 sc25 (PySem.W.mg_of X G a25) b25 (by decide +kernel) (fxo_of (cL D24 (nil_ok)) (nil_ok) BL_ok IL_ok ML_ok TL_ok noSl_ok hbl) Runs.self
  have D16 : FnD l.prog w K mg base 1 "size" S_size := fnD_of F16 sc16 (PySem.W.mg_of X G a16) b16 (by decide +kernel) (fxo_of (nil_ok) (nil_ok) BL_ok IL_ok ML_ok TL_ok noSl_ok hbl) S_size_ok
  have D26 : FnD l.prog w K mg base 1 "_law_orders" S_l_orders := fnD_lz (fnOk_Rk F26 sc26 (fxo_of (nil_ok) (nil_ok) BL_ok IL_ok ML_ok TL_ok noSl_ok hbl) S_l_orders_ok) (PySem.W.mg_of X G a26) k26 b26 (by decide +kernel)
  have D21 : FnD l.prog w K mg base 1 "small_primes" R_small_primes := fnD_of F21 sc21 (PySem.W.mg_of X G a21) b21 (by decide +kernel) (fxo_of (nil_ok) (mem_cons_ok (Pr := ConP mg K) (con_int (PySem.W.mg_of X G g0)) (nil_ok)) BL_ok IL_ok ML_ok TL_ok noSl_ok hbl) Runs.self
  have D20 : FnD l.prog w K mg base 4 "one_way" R_one_way := fnD_of F20 sc20 (PySem.W.mg_of X G a20) b20 (by decide +kernel) (fxo_of (cL D21 (cL D19 (cL D7 (nil_ok)))) (mem_cons_ok (Pr := ConP mg K) (con_ints (ns := [0, 0, 0, 0]) (PySem.W.mg_of X G g4) m4 (show 4 <= sizeLine by decide) (.cons ⟨_, rfl⟩ (.cons ⟨_, rfl⟩ (.cons ⟨_, rfl⟩ (.cons ⟨_, rfl⟩ (.nil)))))) (nil_ok)) BL_ok IL_ok ML_ok TL_ok noSl_ok hbl) Runs.self
  exact fnOk_of F29 sc29 (fxo_of (cL D19 (cL D7 (cL D15 (cL D23 (cL D10 (cL D28 (cL D27 (cL D25 (cL D24 (cL D16 (cL D26 (cL D20 (nil_ok))))))))))))) (nil_ok) BL_ok IL_ok ML_ok TL_ok noSl_ok hbl) Runs.self
theorem walkX {q : Program} {loose : List Str} {XP : (Str -> Option Value) -> Heap -> Prop} {r : PySem.W.RowW} {d : DefRec} {kwd : List (Str × Expr)} {run : Value -> List Value -> Sem Value} {K : Params -> PySem.W.Frag} {as : List Addr} {n t : Nat}
    (e : ∀ P, as = (K P).map (·.1)) (h : PySem.W.WalkO q loose XP (PySem.W.InK K) r d kwd run) : PySem.W.WalkX q loose XP (PySem.W.X.obsZ as) (PySem.W.X.valZ K n t) r d kwd run :=
  fun w _ _ mg mb G y a o pm cd doc dV kV h1 h2 h3 h4 h5 h6 args vals as' L =>
    h w _ _ mg mb G (PySem.W.InK.keeps w _ _ (PySem.W.X.z_facts e y).2.1 L.keeps) a o pm cd doc dV kV h1 h2 h3 h4 h5 h6 args vals as'
theorem walk {l : PySem.W.OpenLaw} {q : Program} {loose : List Str} {XP : (Str -> Option Value) -> Heap -> Prop} {YP : World -> Heap -> Prop} {d : DefRec} {K : Params -> PySem.W.Frag} (hn : l.most = some 63) (hdf : d.params.defaults = [])
    (hY : ∀ (w : World) (h : Heap), YP w h -> (K w.params).In h)
    (F : ∀ (w : World) (mg : Str -> Option Value) (fa : Addr) (h : Heap), (K w.params).In h -> h.Ns mainGlobals mg -> mg d.name = some (.ref fa) ->
      ∃ fd : FuncData, (∀ (s : Shared) (u : Value), BindsTo s fd ⟨[u], []⟩ [("_law_script", u)]) /\ ∀ base : Heap, (K w.params).In base -> base.Ns mainGlobals mg -> FnOk l.prog w (K w.params) mg base CX0 5 fa fd ["_law_script"] (spD (K w.params) R_law)) :
    PySem.W.WalkO q loose XP YP l.row.toRowW d [] (fun f vs => PySem.call f vs) :=
  L2.walk_of (n := 63) (k := 5) (x := "_law_script") (CX := fun _ => CX0) (sp := fun w => spD (K w.params) R_law) hn (by decide) hdf ⟨rfl, by decide, by decide⟩ hY F (fun _ _ a ns hl hO hS => hsp_of hO hS (law_true ns hl)) fun _ _ _ _ _ z => z
end K
namespace PySem.W.Fast
theorem tw3877400835490662132:True:=.intro
theorem tw13760496840454858988:True:=.intro
theorem tw6477518724376868196:True:=.intro
theorem tw11565510741467348895:True:=.intro
theorem tw13463619944296421226:True:=.intro
theorem tw2167108041840483516:True:=.intro
theorem tw1225790339803648730:True:=.intro
theorem tw16933448969532084998:True:=.intro
theorem tw5636406167556054956:True:=.intro
theorem tw5944159636968400980:True:=.intro
theorem tw5139012617648281839:True:=.intro
theorem tw3898285888663632029:True:=.intro
theorem tw5930492014725558287:True:=.intro
theorem tw2501302061868419987:True:=.intro
theorem tw17830625838068750301:True:=.intro
theorem tw5985620029798491885:True:=.intro
theorem tw1682500662479286582:True:=.intro
theorem tw3505240878470751749:True:=.intro
theorem tw8829819904232200121:True:=.intro
theorem tw17117428500655107043:True:=.intro
theorem tw17841776071335095868:True:=.intro
theorem tw3788822715616512137:True:=.intro
theorem tw8828286754237694860:True:=.intro
theorem tw12378274993701776668:True:=.intro
theorem tw9300670230008106907:True:=.intro
theorem tw3295209068292442604:True:=.intro
theorem tw17575622413104455259:True:=.intro
theorem tw8256297326481508515:True:=.intro
theorem tw15031843350668739433:True:=.intro
theorem tw5235050875126202831:True:=.intro
theorem tw10196789107188383156:True:=.intro
theorem tw9660325043904009131:True:=.intro
theorem tw12410454928316750566:True:=.intro
theorem tw4503275527082421960:True:=.intro
theorem tw11437441997941538872:True:=.intro
theorem tw16114417503180233512:True:=.intro
theorem tw495872674101415330:True:=.intro
theorem tw581255657121931397:True:=.intro
theorem tw11669292702254049454:True:=.intro
theorem tw3166266014322100277:True:=.intro
theorem tw5958333268570436367:True:=.intro
theorem tw5058583821855348175:True:=.intro
theorem tw8339171489763236752:True:=.intro
theorem tw13506382146797058721:True:=.intro
theorem tw11527823506205670336:True:=.intro
theorem tw8945939512443762117:True:=.intro
theorem tw12415738670150766892:True:=.intro
theorem tw16807695359452916174:True:=.intro
theorem tw1198906370919349561:True:=.intro
theorem tw4838183324549715798:True:=.intro
theorem tw14659148383872842731:True:=.intro
theorem tw13963658243184541165:True:=.intro
theorem tw16631776533331000476:True:=.intro
theorem tw4357001601601021896:True:=.intro
theorem tw13079603737093915096:True:=.intro
theorem tw5478113322221986909:True:=.intro
theorem tw6166057334129444005:True:=.intro
theorem tw15883808772011851532:True:=.intro
theorem tw8074096919098670754:True:=.intro
theorem tw7335599583089932123:True:=.intro
theorem tw5765248448404241390:True:=.intro
theorem tw16161168760415596042:True:=.intro
theorem tw15921536525579673776:True:=.intro
theorem tw9105776174699326621:True:=.intro
theorem tw16973047844641118757:True:=.intro
theorem tw5220219057616481937:True:=.intro
theorem tw10680841762945158853:True:=.intro
theorem tw4695737319879849322:True:=.intro
theorem tw10312965161259497437:True:=.intro
theorem tw9832637642423333225:True:=.intro
theorem tw4135209848511658466:True:=.intro
theorem tw13788991428164576917:True:=.intro
theorem tw18079900557081814300:True:=.intro
theorem tw6808909765536403897:True:=.intro
theorem tw1867039894563484449:True:=.intro
theorem tw10183193384528635232:True:=.intro
theorem tw1909034232361981544:True:=.intro
theorem tw17586422722761866079:True:=.intro
theorem tw10174573449909499789:True:=.intro
theorem tw4538495153602445483:True:=.intro
theorem tw12017675387462717392:True:=.intro
theorem tw4708685238399282282:True:=.intro
theorem tw3284370476666114049:True:=.intro
theorem tw16706535480631098510:True:=.intro
theorem tw3100880222802966493:True:=.intro
theorem tw11947541622176424998:True:=.intro
theorem tw12426275396243671301:True:=.intro
theorem tw15621651694041663327:True:=.intro
theorem tw2828236604717489606:True:=.intro
theorem tw15939319372825787970:True:=.intro
end PySem.W.Fast
open PySem PySem.W PyProof.Rows
set_option maxRecDepth 100000 in
set_option maxHeartbeats 0 in
theorem PySem.Challenge.cw_spaceturns_k57_whole_squares_and_sizes_holds : PySem.Challenge.rw_spaceturns_k57_whole_squares_and_sizes.Holds := by
  w_on; o_law; z_head; (case hw => w_witness2)
  k_fill
  refine K.walkX (fun _ => rfl) (K.walk (l := PySem.Challenge.rw_spaceturns_k57_whole_squares_and_sizes) rfl rfl (fun w h Y => Y) ?F)
  case F =>
    intro w mg fa h KX G hmg
    refine' K.all_mk KX G hmg ?_ ?_ ?_ ?_ ?_ ?_ ?_ ?_ ?_ ?_ ?_ ?_ ?_ ?_ ?_ ?_ ?_ ?_ ?_ ?_ ?_ ?_ ?_ ?_ ?_ ?_ ?_ ?_ ?_ ?_ ?_ ?_ ?_ ?_ ?_ ?_ ?_ ?_ ?_ ?_ ?_ ?_ ?_ ?_ ?_ ?_ ?_ ?_ ?_ ?_ ?_ ?_ ?_ ?_ ?_ ?_ ?_ ?_ ?_ ?_ ?_ ?_ ?_ ?_ ?_ ?_ ?_ ?_ ?_ ?_ ?_ ?_ ?_ ?_ ?_ ?_ ?_ ?_ ?_ ?_ ?_ ?_ ?_ ?_ ?_ ?_ ?_ ?_ ?_ ?_ ?_ ?_ ?_ ?_ ?_ ?_ ?_
    all_goals try first | k_is | kernel_rfl
