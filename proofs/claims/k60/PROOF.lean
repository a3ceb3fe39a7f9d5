import PyProof.Rows.All
import Wide.All
import OpenK.AllK
import Wide.FinOn
import Lean
import PyProof.EqAt
import PyProof.EqKinds
import PyProof.TupleCall
import PySem.Challenge.RW_spaceturns_k60_whole_chains_of_turns
set_option Elab.async false
set_option linter.all false
set_option maxRecDepth 100000
namespace L2
open PySem PySem.Spec PyProof.Rows
abbrev Key := Sum Int Str
def keyIs : Key -> Value -> Bool
  | .inl k, v => Value.isInt k v
  | .inr x, v => Value.isStrOf x v
def keyH (w : World) : Key -> Int
  | .inl k => hashInt k
  | .inr x => hashStr w x
theorem keyIs_shape : ∀ {k : Key} {v : Value}, keyIs k v = true -> (∃ i t, k = Sum.inl i /\ v = Value.int i t) \/ (∃ x t, k = Sum.inr x /\ v = Value.str x t)
  | .inl i, v, h => by
    obtain ⟨t, e⟩ := Value.isInt_shape (k := i) (v := v) h
    exact .inl ⟨i, t, rfl, e⟩
  | .inr x, v, h => by
    obtain ⟨t, e⟩ := Value.isStrOf_shape (x := x) (v := v) h
    exact .inr ⟨x, t, rfl, e⟩
theorem key_ll (a b : Int) : decide ((Sum.inl a : Key) = Sum.inl b) = (a == b) := by
  by_cases e : a = b
  . subst e; simp
  . have h : ¬ (Sum.inl a : Key) = Sum.inl b := fun q => e (Sum.inl.inj q)
    rw [decide_eq_false h]
    exact (beq_eq_false_iff_ne.mpr e).symm
theorem key_rr (a b : Str) : decide ((Sum.inr a : Key) = Sum.inr b) = decide (a = b) := by
  by_cases e : a = b
  . subst e; simp
  . have h : ¬ (Sum.inr a : Key) = Sum.inr b := fun q => e (Sum.inr.inj q)
    rw [decide_eq_false h, decide_eq_false e]
theorem key_lr (a : Int) (b : Str) : decide ((Sum.inl a : Key) = Sum.inr b) = false := decide_eq_false (fun q => nomatch q)
theorem key_rl (a : Str) (b : Int) : decide ((Sum.inr a : Key) = Sum.inl b) = false := decide_eq_false (fun q => nomatch q)
def mixKind (prog : Program) (w : World) : PySem.KeyKind prog w Key where
  is := keyIs
  hash := keyH w
  inj := fun v a b ha hb => by
    rcases keyIs_shape ha with ⟨i, t, rfl, rfl⟩ | ⟨x, t, rfl, rfl⟩
    . rcases keyIs_shape hb with ⟨j, u, rfl, e⟩ | ⟨y, u, rfl, e⟩
      . injection e with e1 _; rw [e1]
      . exact nomatch e
    . rcases keyIs_shape hb with ⟨j, u, rfl, e⟩ | ⟨y, u, rfl, e⟩
      . exact nomatch e
      . injection e with e1 _; rw [e1]
  byValue := fun k v h => by
    rcases keyIs_shape h with ⟨i, t, rfl, rfl⟩ | ⟨x, t, rfl, rfl⟩ <;> rfl
  pyHash := fun hv h => by
    rcases keyIs_shape hv with ⟨i, t, rfl, rfl⟩ | ⟨x, t, rfl, rfl⟩
    . exact wpAny_pyHash_int h
    . exact wpAny_pyHash_str h
  eqBool := fun hu hv h => by
    rcases keyIs_shape hu with ⟨i, t, rfl, rfl⟩ | ⟨x, t, rfl, rfl⟩
    . rcases keyIs_shape hv with ⟨j, u, rfl, rfl⟩ | ⟨y, u, rfl, rfl⟩
      . rw [key_ll] at h; exact wpAny_eqBool_int h
      . rw [key_lr] at h; exact SeqAt.EqAt.int_str i t y u _ _ _ _ h
    . rcases keyIs_shape hv with ⟨j, u, rfl, rfl⟩ | ⟨y, u, rfl, rfl⟩
      . rw [key_rl] at h; exact SeqAt.EqAt.str_int x t j u _ _ _ _ h
      . rw [key_rr] at h; exact wpAny_eqBool_str h
  «strs» := fun k x t v h => by
    rcases keyIs_shape h with ⟨i, u, rfl, e⟩ | ⟨y, u, rfl, e⟩
    . exact nomatch e
    . injection e with e1 _
      subst e1
      cases v <;> rfl
end L2
namespace L2
open PySem PySem.Spec PyProof.Rows
inductive V where
  | non | bl (b : Bool) | int (i : Int) | str (x : Str) | byt (b : Array UInt8) | flt (b : UInt64) | ref (a : Addr) | ty (n : String)
  deriving DecidableEq
def RelV : V -> Value -> Prop
  | .non, u => u = Value.none
  | .bl b, u => u = Value.bool b
  | .int i, u => ∃ t, u = Value.int i t
  | .str x, u => ∃ t, u = Value.str x t
  | .byt b, u => ∃ t, u = Value.bytes b t
  | .flt b, u => ∃ t, u = Value.float b t
  | .ref a, u => u = Value.ref a
  | .ty n, u => u = Value.type n
abbrev Vals : List V -> List Value -> Prop := Paired RelV
theorem Vals.length {xs : List V} {us : List Value} (r : Vals xs us) : xs.length = us.length := Paired.length r
theorem Vals.get : ∀ {xs : List V} {us : List Value} {i : Nat} {x : V}, Vals xs us -> xs[i]? = some x -> ∃ u, us[i]? = some u /\ RelV x u
  | _, _, _, _, .nil, e => by simp at e
  | _, _, 0, _, .cons r _, e => by simp at e; subst e; exact ⟨_, rfl, r⟩
  | _, _, i + 1, x, .cons _ t, e => by
    obtain ⟨u, h1, h2⟩ := Vals.get (i := i) (x := x) t (by simpa using e)
    exact ⟨u, by simpa using h1, h2⟩
theorem Vals.set {x : V} {u : Value} (r : RelV x u) : ∀ {xs : List V} {us : List Value} (i : Nat), Vals xs us -> Vals (xs.set i x) (us.set i u)
  | _, _, _, .nil => .nil
  | _, _, 0, .cons _ t => .cons r t
  | _, _, i + 1, .cons q t => .cons q (Vals.set r i t)
theorem Vals.append : ∀ {xs ys : List V} {us ws : List Value}, Vals xs us -> Vals ys ws -> Vals (xs ++ ys) (us ++ ws)
  | _, _, _, _, .nil, s => s
  | _, _, _, _, .cons r t, s => .cons r (Vals.append t s)
theorem Vals.take : ∀ {xs : List V} {us : List Value} (n : Nat), Vals xs us -> Vals (xs.take n) (us.take n)
  | _, _, 0, _ => .nil
  | _, _, _ + 1, .nil => .nil
  | _, _, n + 1, .cons r t => .cons r (Vals.take n t)
theorem Vals.drop : ∀ {xs : List V} {us : List Value} (n : Nat), Vals xs us -> Vals (xs.drop n) (us.drop n)
  | _, _, 0, r => r
  | _, _, _ + 1, .nil => .nil
  | _, _, n + 1, .cons _ t => Vals.drop n t
theorem Vals.none_of : ∀ {xs : List V} {us : List Value} {i : Nat}, Vals xs us -> xs[i]? = none -> us[i]? = none := fun {xs us i} r e => by
  have h1 := r.length
  have h2 : xs.length <= i := List.getElem?_eq_none_iff.mp e
  exact List.getElem?_eq_none_iff.mpr (by omega)
def RelO : Option V -> Option Value -> Prop
  | some v, some u => RelV v u
  | none, none => True
  | _, _ => False
def KV {κ : Type} : List (κ × V) -> List (κ × Value) -> Prop := Paired fun (p : κ × V) (q : κ × Value) => p.1 = q.1 /\ RelV p.2 q.2
def kV : Key -> V
  | .inl i => .int i
  | .inr x => .str x
inductive HO where
    | lst (xs : List V)
    | tup (xs : List V)
    | dK (kvs : List (Key × V)) | dT (kvs : List (List Key × V))
    | set (S : Int -> Bool) (n : Nat)
    | ins (C dx : Addr) (fs : List (Str × V))
    | own (x : Addr)
    | xd (fs : List (Str × V))
    | met (f x : Addr)
    | rng (lo hi : Int)
    | frz (o : Obj) (u : HO)
    | tbl (ps : Array Value)
    | ext (φ : Heap -> Prop)
abbrev Hp := Addr -> Option HO
def upd (H : Hp) (a : Addr) (o : HO) : Hp := fun b => if b = a then some o else H b
theorem upd_same {H : Hp} {a : Addr} {o : HO} : upd H a o a = some o := by unfold upd; rw [if_pos rfl]
theorem upd_ne {H : Hp} {a b : Addr} {o : HO} (h : b ≠ a) : upd H a o b = H b := by unfold upd; rw [if_neg h]
theorem upd_upd {H : Hp} {a : Addr} {o u : HO} : upd (upd H a o) a u = upd H a u := by
  funext b; unfold upd; split <;> rfl
theorem ne_of {H : Hp} {a b : Addr} {o u : HO} (h : H a = some o) (h' : H b = some u) (d : o ≠ u) : a ≠ b := by
  intro e; subst e; rw [h] at h'; exact d (Option.some.inj h')
theorem ne_of_none {H : Hp} {a b : Addr} {o : HO} (h : H a = some o) (h' : H b = none) : a ≠ b := by
  intro e; subst e; rw [h] at h'; cases h'
section
variable (P : Program) (w : World)
def ObjOk (H : Hp) (h : Heap) (a : Addr) : HO -> Prop
  | .lst xs => xs.length <= sizeLine /\ ∃ (its : List Value) (n : Nat), Vals xs its /\ h.get? a = some { cls := .type "list", data := .seq its.toArray n }
  | .tup xs => xs.length <= sizeLine /\ ∃ its : List Value, Vals xs its /\ IsTup h a its.toArray
  | .dK kvs => kvs.length <= sizeLine /\ (a == sysModules) = false /\ ∃ vs, KV kvs vs /\ h.DictOf (mixKind P w) a vs
  | .dT kvs => kvs.length <= sizeLine /\ (a == sysModules) = false /\ ∃ xs : List (List Key × Addr × Value),
      Paired (fun (p : List Key × V) (q : List Key × Addr × Value) => p.1 = q.1 /\ H q.2.1 = some (.tup (p.1.map kV)) /\ RelV p.2 q.2.2) kvs xs /\
      ∃ o es ep, h.get? a = some o /\ o.ExactDict /\ o.data = .dict es ep /\ es.toList = xs.map (entryOfKey (tupleKind (mixKind P w))) /\ (xs.map (·.1)).Nodup
  | .set S n => h.SetOf (intKind P w) a S n
  | .ins C dx fs => H dx = some (.own a) /\ fs.length <= 1000 /\ dx ≠ a /\ h.get? a = some (PySem.W.instObj C dx) /\
      ∃ mA, h.Ns1 dx mA /\ (∀ f, RelO (fs.lookup f) (mA f)) /\ PySem.Within mA (fs.map (·.1))
  | .own _ => ∃ o, h.get? a = some o
  | .xd fs => ∃ mA, h.Ns1 a mA /\ ∀ f, RelO (fs.lookup f) (mA f)
  | .rng lo hi => ∃ t u v, h.get? a = some { cls := .type "range", data := .fields #[.int lo t, .int hi u, .int 1 v] }
  | .frz o u => h.get? a = some o /\ ObjOk H h a u
  | .tbl ps => h.get? a = some { cls := .none, data := .fields ps }
  | .met f x => h.get? a = some (PySem.W.methodObj (.ref f) (.ref x))
  | .ext φ => φ h /\ (∃ o, h.get? a = some o) /\ ∀ h1 h2 : Heap, φ h1 -> (∀ o, h1.get? a = some o -> h2.get? a = some o) -> φ h2
def HOk (H : Hp) (h : Heap) : Prop := ∀ a o, H a = some o -> ObjOk P w H h a o
end
section
variable {P : Program} {w : World} {H H' : Hp} {h h' : Heap} {a : Addr} {o : HO}
theorem ObjOk.lt (x : ObjOk P w H h a o) : a < h.objs.size := by
  cases o with
  | lst xs => obtain ⟨_, _, _, _, e⟩ := x; exact Heap.lt_size e
  | tup xs => obtain ⟨_, _, _, p⟩ := x; exact p.lt
  | dK kvs => obtain ⟨_, _, _, _, o, _, _, e, _⟩ := x; exact Heap.lt_size e
  | dT kvs => obtain ⟨_, _, _, _, o, _, _, e, _⟩ := x; exact Heap.lt_size e
  | set S n => obtain ⟨o, _, _, _, e, _⟩ := x; exact Heap.lt_size e
  | ins C dx fs => obtain ⟨_, _, _, e, _⟩ := x; exact Heap.lt_size e
  | own y => obtain ⟨_, e⟩ := x; exact Heap.lt_size e
  | xd fs => obtain ⟨_, ⟨_, _, _, e, _⟩, _⟩ := x; exact Heap.lt_size e
  | rng lo hi => obtain ⟨_, _, _, e⟩ := x; exact Heap.lt_size e
  | frz ob u => obtain ⟨e, _⟩ := x; exact Heap.lt_size e
  | tbl ps => exact Heap.lt_size (show h.get? a = some _ from x)
  | met f y => exact Heap.lt_size (show h.get? a = some _ from x)
  | ext φ => obtain ⟨_, ⟨_, e⟩, _⟩ := x; exact Heap.lt_size e
theorem Paired.mapP {α β : Type} {F G : α -> β -> Prop} : ∀ {l₁ : List α} {l₂ : List β}, Paired F l₁ l₂ -> (∀ a b, F a b -> G a b) -> Paired G l₁ l₂
  | _, _, .nil, _ => .nil
  | _, _, .cons r t, f => .cons (f _ _ r) (Paired.mapP t f)
theorem ObjOk.stay (x : ObjOk P w H h a o) (k : ∀ b u, (b = a \/ H b = some (.own a)) -> h.get? b = some u -> h'.get? b = some u)
    (ho : ∀ b, H b = some (.own a) -> H' b = some (.own a)) (ht : ∀ b xs, H b = some (.tup xs) -> H' b = some (.tup xs)) : ObjOk P w H' h' a o := by
  induction o with
  | lst xs => obtain ⟨z, its, n, r, e⟩ := x; exact ⟨z, its, n, r, k _ _ (.inl rfl) e⟩
  | tup xs => obtain ⟨z, its, r, ob, e, c⟩ := x; exact ⟨z, its, r, ob, k _ _ (.inl rfl) e, c⟩
  | dK kvs => obtain ⟨z, y, vs, r, ob, es, ep, e, c⟩ := x; exact ⟨z, y, vs, r, ob, es, ep, k _ _ (.inl rfl) e, c⟩
  | dT kvs =>
    obtain ⟨z, y, xs, r, ob, es, ep, e, c⟩ := x
    exact ⟨z, y, xs, Paired.mapP r fun p q z => ⟨z.1, ht _ _ z.2.1, z.2.2⟩, ob, es, ep, k _ _ (.inl rfl) e, c⟩
  | set S n => obtain ⟨ob, es, ep, t, e, c⟩ := x; exact ⟨ob, es, ep, t, k _ _ (.inl rfl) e, c⟩
  | ins C dx fs =>
    obtain ⟨d, z, ne, e, mA, ⟨od, es, ep, e2, c⟩, r⟩ := x
    exact ⟨ho _ d, z, ne, k _ _ (.inl rfl) e, mA, ⟨od, es, ep, k _ _ (.inr d) e2, c⟩, r⟩
  | own y => obtain ⟨ob, e⟩ := x; exact ⟨ob, k _ _ (.inl rfl) e⟩
  | xd fs => obtain ⟨mA, ⟨od, es, ep, e, c⟩, r⟩ := x; exact ⟨mA, ⟨od, es, ep, k _ _ (.inl rfl) e, c⟩, r⟩
  | rng lo hi => obtain ⟨t, u, v, e⟩ := x; exact ⟨t, u, v, k _ _ (.inl rfl) e⟩
  | frz ob u ih => obtain ⟨e, q⟩ := x; exact ⟨k _ _ (.inl rfl) e, ih q⟩
  | tbl ps =>
    have e : h.get? a = some { cls := .none, data := .fields ps } := x
    show h'.get? a = some { cls := .none, data := .fields ps }
    exact k a _ (.inl rfl) e
  | met f y =>
    have e : h.get? a = some (PySem.W.methodObj (.ref f) (.ref y)) := x
    show h'.get? a = some (PySem.W.methodObj (.ref f) (.ref y))
    exact k a _ (.inl rfl) e
  | ext φ => obtain ⟨p, ⟨o, e⟩, st⟩ := x; exact ⟨st _ _ p fun o q => k _ _ (.inl rfl) q, ⟨o, k _ _ (.inl rfl) e⟩, st⟩
theorem HOk.lt (x : HOk P w H h) (e : H a = some o) : a < h.objs.size := (x a o e).lt
theorem HOk.fresh (x : HOk P w H h) (e : h.objs.size <= a) : H a = none := by
  cases q : H a with
  | none => rfl
  | some u => exact absurd (Nat.lt_of_lt_of_le (x.lt q) e) (Nat.lt_irrefl _)
theorem HOk.kept (x : HOk P w H h) (k : ∀ b u, h.get? b = some u -> h'.get? b = some u) : HOk P w H h' := fun a o e =>
  (x a o e).stay (fun b u _ q => k b u q) (fun _ q => q) fun _ _ q => q
theorem HOk.laid (x : HOk P w H h) (k : ∀ b u, h.get? b = some u -> h'.get? b = some u) (hp : h.objs.size <= a) (new : ObjOk P w (upd H a o) h' a o) : HOk P w (upd H a o) h' := fun b u e => by
  have hn := x.fresh hp
  by_cases hb : b = a
  . subst hb; rw [upd_same] at e; cases e; exact new
  . rw [upd_ne hb] at e
    exact (x b u e).stay (fun c v _ q => k c v q) (fun c q => by rw [upd_ne (ne_of_none q hn)]; exact q) fun c xs q => by rw [upd_ne (ne_of_none q hn)]; exact q
end
def Rd (H : Hp) (a : Addr) (u : HO) : Prop := H a = some u \/ ∃ o, H a = some (.frz o u)
theorem Rd.ok {P : Program} {w : World} {H : Hp} {h : Heap} {a : Addr} {u : HO} (r : Rd H a u) (x : HOk P w H h) : ObjOk P w H h a u := by
  rcases r with r | ⟨o, r⟩
  . exact x a u r
  . obtain ⟨_, q⟩ := x a _ r
    exact q
def Mut : Option HO -> Prop
  | some (.lst _) => True
  | some (.dK _) => True
  | some (.dT _) => True
  | some (.set _ _) => True
  | some (.ins _ _ _) => True
  | some (.ext _) => True
  | _ => False
section
variable {P : Program} {w : World} {H : Hp} {h h' : Heap} {x e : Addr} {o' : HO}
theorem HOk.write (ok : HOk P w H h) (mu : Mut (H x)) (he : e = x \/ H e = some (.own x)) (k : ∀ b u, b ≠ e -> h.get? b = some u -> h'.get? b = some u) (heo : ∃ u, h'.get? e = some u)
    (new : ObjOk P w (upd H x o') h' x o') : HOk P w (upd H x o') h' := fun b u q => by
  have nown : ∀ c y, H c = some (.own y) -> c ≠ x := fun c y r z => by subst z; rw [r] at mu; exact mu
  have ntup : ∀ c xs, H c = some (.tup xs) -> c ≠ x := fun c xs r z => by subst z; rw [r] at mu; exact mu
  by_cases hb : b = x
  . subst hb; rw [upd_same] at q; cases q; exact new
  . rw [upd_ne hb] at q
    by_cases hbe : b = e
    . have q' : H b = some (.own x) := by
        rcases he with z | z
        . exact absurd (hbe.trans z) hb
        . rw [hbe]; exact z
      rw [q] at q'; cases q'
      obtain ⟨v, hv⟩ := heo
      exact ⟨v, by rw [hbe]; exact hv⟩
    . refine (ok b u q).stay (fun c v hc r => k c v ?_ r) (fun c r => by rw [upd_ne (nown c b r)]; exact r) fun c xs r => by rw [upd_ne (ntup c xs r)]; exact r
      rcases hc with rfl | hc
      . exact hbe
      . rintro rfl
        rcases he with z | z
        . exact nown c b hc z
        . rw [hc] at z; cases z; exact hb rfl
end
structure Un (fs ex : List Addr) (H H' : Hp) (h h' : Heap) : Prop where
  keep : ∀ b o, h.get? b = some o -> H b = none -> b ∉ fs -> b ∉ ex -> h'.get? b = some o
  slot : ∀ b o, h.get? b = some o -> H b = none -> b ∈ fs -> b ∉ ex -> ∃ sl, h'.get? b = some { o with slots := sl }
  free : ∀ b o, h.get? b = some o -> H b = none -> b ∉ ex -> H' b = none
  there : ∀ b o, h.get? b = some o -> b ∉ ex -> ∃ o', h'.get? b = some o'
  tups : ∀ b xs, H b = some (.tup xs) -> H' b = some (.tup xs)
  frzs : ∀ b o u, H b = some (.frz o u) -> H' b = some (.frz o u)
  tbls : ∀ b ps, H b = some (.tbl ps) -> ∃ more, H' b = some (.tbl (ps ++ more))
section
variable {fs fs' ex ex' : List Addr} {H H1 H2 : Hp} {h h1 h2 h' : Heap} {a x e : Addr} {o : HO}
theorem Un.any (u : Un fs ex H H1 h h1) {b : Addr} {ob : Obj} (q : h.get? b = some ob) (n : H b = none) (hx : b ∉ ex) : ∃ sl, h1.get? b = some { ob with slots := sl } := by
  by_cases hb : b ∈ fs
  . exact u.slot b ob q n hb hx
  . exact ⟨ob.slots, u.keep b ob q n hb hx⟩
theorem Un.kept (k : ∀ b u, h.get? b = some u -> h'.get? b = some u) : Un fs ex H H h h' :=
  ⟨fun b ob q _ _ _ => k b ob q, fun b ob q _ _ _ => ⟨ob.slots, k b ob q⟩, fun _ _ _ n _ => n, fun b ob q _ => ⟨ob, k b ob q⟩, fun _ _ q => q, fun _ _ _ q => q, fun _ ps q => ⟨#[], by rw [q]; simp⟩⟩
theorem Un.refl : Un fs ex H H h h := Un.kept fun _ _ q => q
theorem Un.laid (k : ∀ b u, h.get? b = some u -> h'.get? b = some u) (hp : h.objs.size <= a) (hn : H a = none) : Un fs ex H (upd H a o) h h' where
  keep := fun b u q _ _ _ => k b u q
  slot := fun b u q _ _ _ => ⟨u.slots, k b u q⟩
  free := fun b u q n _ => by rw [upd_ne (Nat.ne_of_lt (Nat.lt_of_lt_of_le (Heap.lt_size q) hp))]; exact n
  there := fun b u q _ => ⟨u, k b u q⟩
  tups := fun b xs q => by rw [upd_ne (ne_of_none q hn)]; exact q
  frzs := fun b u xs q => by rw [upd_ne (ne_of_none q hn)]; exact q
  tbls := fun b ps q => ⟨#[], by rw [upd_ne (ne_of_none q hn), q]; simp⟩
theorem Un.write (mu : Mut (H x)) (he : e = x \/ H e = some (.own x)) (k : ∀ b u, b ≠ e -> h.get? b = some u -> h'.get? b = some u) (heo : ∃ u, h'.get? e = some u) : Un fs ex H (upd H x o) h h' := by
  have hx : ∀ b, H b = none -> b ≠ x := fun b n z => by subst z; rw [n] at mu; exact mu
  have hb : ∀ b, H b = none -> b ≠ e := fun b n z => by
    subst z
    rcases he with r | r
    . exact hx b n r
    . rw [n] at r; cases r
  have hm : ∀ b u, H b = some u -> ¬ Mut (some u) -> b ≠ x := fun b u q nm z => by subst z; rw [q] at mu; exact nm mu
  refine ⟨fun b u q n _ _ => k b u (hb b n) q, fun b u q n _ _ => ⟨u.slots, k b u (hb b n) q⟩, fun b u q n _ => by rw [upd_ne (hx b n)]; exact n, fun b u q _ => ?_,
    fun b xs q => by rw [upd_ne (hm b _ q fun z => z)]; exact q, fun b u xs q => by rw [upd_ne (hm b _ q fun z => z)]; exact q, fun b ps q => ⟨#[], by rw [upd_ne (hm b _ q fun z => z), q]; simp⟩⟩
  by_cases hbe : b = e
  . subst hbe; exact heo
  . exact ⟨u, k b u hbe q⟩
end
def trk (h : Heap) (H : Hp) : List Addr := (List.range h.objs.size).filter fun a => (H a).isSome
def hidT (h : Heap) (H : Hp) : Heap := PySem.W.hideAll h (trk h H)
theorem hidT_size (h : Heap) (H : Hp) : (hidT h H).objs.size = h.objs.size := PySem.W.hideAll_size _ _
theorem hidT_get {h : Heap} {H : Hp} {b : Addr} {o : Obj} (e : h.get? b = some o) (n : H b = none) : (hidT h H).get? b = some o :=
  PySem.W.hideAll_get _ e fun hm => by
    have q : (H b).isSome = true := (List.mem_filter.mp hm).2
    rw [n] at q; simp at q
theorem of_hidT {h : Heap} {H : Hp} {b : Addr} {o : Obj} (e : (hidT h H).get? b = some o) : h.get? b = some o /\ H b = none := by
  have e' : h.get? b = some o := PySem.W.of_hideAll (trk h H) e
  refine ⟨e', ?_⟩
  cases q : H b with
  | none => rfl
  | some x =>
    have hm : b ∈ trk h H := List.mem_filter.mpr ⟨List.mem_range.mpr (Heap.lt_size e'), by simp [q]⟩
    have z : (hidT h H).get? b = none := PySem.W.hideAll_none (trk h H) hm
    rw [z] at e; cases e
def allNews (g h : Heap) (L : Addr) : List (Addr × Obj) := (List.range h.objs.size).filterMap fun a => if a = L \/ (g.get? a).isSome = true then none else (h.get? a).map fun o => (a, o)
def rest (g h : Heap) (L d : Addr) : List (Addr × Obj) := (allNews g h L).filter fun p => decide (p.1 ≠ d)
end L2
namespace L2
open PySem PySem.Spec PyProof.Rows
structure Mod (K : PySem.W.Frag) (mg : Str -> Option Value) (base : Heap) : Prop where
  kin : K.In base
  glob : base.Ns mainGlobals mg
  blt : ∃ mb, base.Ns builtinsNs mb /\ ∀ x : Str, x ≠ "__name__" -> mb x = bootBuiltins x
  nolimit : base.NoLimit
structure Cx where
  prog : Program
  w : World
  K : PySem.W.Frag
  mg : Str -> Option Value
  base : Heap
  A : Around
  N : List Str
  s₀ : Shared
  H₀ : Hp
  env : Env
  outer : List Env
  stack : List Env
  ex : List Addr
  fn : Str -> Bool
  calm : Bool
  pn : List (Addr × Obj)
  xe : Value -> Shared -> Prop
def frs (l : List Env) : List Addr := l.filterMap (·.frame)
abbrev Cx.fs (X : Cx) : List Addr := frs X.outer
def Vis (sc : Scope) (x : Str) : Prop := sc.names.lookup x = some .local \/ sc.names.lookup x = some .cell \/ sc.names.lookup x = some .free
def Loc (sc : Scope) (x : Str) : Prop := sc.names.lookup x = some .local \/ sc.names.lookup x = some .cell
def Look (env : Env) (h : Heap) (m : Str -> Option Value) (x : Str) (u : Value) : Prop :=
  (env.kindOf x = some .local /\ m x = some u) \/ ((env.kindOf x = some .cell \/ env.kindOf x = some .free) /\ ∃ c, env.cells.lookup x = some c /\ h.IsCell c (some u))
structure Cx.Ok (X : Cx) : Prop where
  mod : Mod X.K X.mg X.base
  kind : X.env.scope.kind = .function
  glob : X.env.globals = mainGlobals
  blt : X.env.builtins = builtinsNs
  above : X.s₀.heap.objs.size <= X.env.locals
  inj : ∀ x y c, X.env.cells.lookup x = some c -> X.env.cells.lookup y = some c -> x = y
  has : ∀ x, (X.env.kindOf x = some .cell \/ X.env.kindOf x = some .free) -> ∃ c, X.env.cells.lookup x = some c
  cab : ∀ x c, X.fn x = true -> X.env.cells.lookup x = some c -> X.s₀.heap.objs.size <= c
  hd : X.calm = true -> X.A.handled = none
  frames : X.A.frames = some X.stack
  stk : X.stack = X.outer \/ (X.stack = X.env :: X.outer /\ X.env.frame = some X.env.locals)
  exf : ∀ b ∈ X.ex, b ≠ X.env.locals /\ ∀ x c, X.env.cells.lookup x = some c -> c ≠ b
  bs : ∀ b o, X.base.get? b = some o -> X.s₀.heap.get? b = some o /\ X.H₀ b = none
  bsz : X.base.objs.size <= X.s₀.heap.objs.size
  noex : ∀ b o, X.base.get? b = some o -> b ∉ X.ex
  exfs : ∀ b ∈ X.ex, b ∉ X.fs
  funs : X.s₀.heap.FunFrames X.base X.outer
  frf : ∀ b ∈ X.fs, X.H₀ b = none
structure Inv (X : Cx) (pins : List (Addr × Obj)) (σ : List (Option V)) (H : Hp) (s : Shared) : Prop where
  ok : X.Ok
  os : s.os = X.s₀.os
  bare : AllBare s.gens
  base : Un X.fs X.ex X.H₀ H X.s₀.heap s.heap
  loc : ∃ m, s.heap.Ns X.env.locals m /\ ∀ (i : Nat) (x : Str) (v : V), X.N[i]? = some x -> σ[i]? = some (some v) -> Vis X.env.scope x -> ∃ u, RelV v u /\ Look X.env s.heap m x u
  cell : ∀ x c, X.env.cells.lookup x = some c -> ∃ v, s.heap.IsCell c v
  free : H X.env.locals = none
  freeC : ∀ x c, X.env.cells.lookup x = some c -> H c = none
  pin : ∀ p ∈ X.pn ++ pins, s.heap.get? p.1 = some p.2 /\ H p.1 = none /\ p.1 ≠ X.env.locals /\ p.1 ∉ X.fs /\ ∀ v, p.2.data ≠ .cell v
  hok : HOk X.prog X.w H s.heap
  len : σ.length = X.N.length
section
variable {X : Cx} {pins : List (Addr × Obj)} {σ : List (Option V)} {H H' : Hp} {s : Shared} {h' : Heap}
theorem Cx.Ok.nofr (ok : X.Ok) {b : Addr} {o : Obj} (e : X.base.get? b = some o) : b ∉ X.fs := fun hb => by
  have := (ok.funs.mem hb).1
  rw [e] at this; cases this
theorem Inv.bs (I : Inv X pins σ H s) : ∀ b o, X.base.get? b = some o -> s.heap.get? b = some o /\ H b = none := fun b o e =>
  ⟨I.base.keep b o (I.ok.bs b o e).1 (I.ok.bs b o e).2 (I.ok.nofr e) (I.ok.noex b o e), I.base.free b o (I.ok.bs b o e).1 (I.ok.bs b o e).2 (I.ok.noex b o e)⟩
theorem Inv.bk (I : Inv X pins σ H s) : ∀ b o, X.base.get? b = some o -> s.heap.get? b = some o := fun b o e => (I.bs b o e).1
theorem Inv.mod (I : Inv X pins σ H s) : Mod X.K X.mg X.base := I.ok.mod
theorem Inv.kIn (I : Inv X pins σ H s) : X.K.In s.heap := I.ok.mod.kin.keeps I.bk
theorem Inv.nolimit (I : Inv X pins σ H s) : s.heap.NoLimit := I.ok.mod.nolimit.keeps I.bk
theorem Inv.fr (I : Inv X pins σ H s) : ∃ m, Fr X.base X.env.locals s.heap m :=
  let ⟨m, hn, _⟩ := I.loc
  ⟨m, hn, I.bk, Nat.le_trans I.ok.bsz I.ok.above⟩
theorem Inv.lt (I : Inv X pins σ H s) : X.env.locals < s.heap.objs.size := let ⟨_, hn, _⟩ := I.loc; hn.lt
theorem Inv.sz (I : Inv X pins σ H s) : X.s₀.heap.objs.size <= s.heap.objs.size := Nat.le_trans I.ok.above (Nat.le_of_lt I.lt)
theorem Inv.nofs (I : Inv X pins σ H s) {a : Addr} (h : s.heap.objs.size <= a) : a ∉ X.fs := fun hb => by
  obtain ⟨_, o, ho, _⟩ := I.ok.funs.mem hb
  exact absurd (Nat.lt_of_lt_of_le (Heap.lt_size ho) (Nat.le_trans I.sz h)) (Nat.lt_irrefl _)
theorem Inv.cne (I : Inv X pins σ H s) : ∀ x c, X.env.cells.lookup x = some c -> c ≠ X.env.locals := fun x c e z => by
  obtain ⟨v, o, ho, hd⟩ := I.cell x c e
  obtain ⟨m, ⟨o', es, ep, ho', hd', _⟩, _⟩ := I.loc
  rw [z, ho'] at ho; cases ho; rw [hd'] at hd; cases hd
theorem Inv.funs (I : Inv X pins σ H s) : s.heap.FunFrames X.base X.outer := by
  have all : ∀ (l : List Env), (∀ b ∈ frs l, b ∈ X.fs) -> X.s₀.heap.FunFrames X.base l -> s.heap.FunFrames X.base l := by
    intro l
    induction l with
    | nil => intro _ _; trivial
    | cons env r ih =>
      intro hs hl
      obtain ⟨hk, ⟨L, o, hf, hn, ho, hd⟩, hr⟩ := hl
      have hL : L ∈ X.fs := hs L (by unfold frs; rw [List.filterMap_cons, hf]; exact List.mem_cons_self)
      obtain ⟨sl, e⟩ := I.base.slot L o ho (I.ok.frf L hL) hL fun z => I.ok.exfs L z hL
      exact ⟨hk, ⟨L, _, hf, hn, e, hd⟩, ih (fun b hb => hs b (by unfold frs; rw [List.filterMap_cons, hf]; exact List.mem_cons_of_mem _ hb)) hr⟩
  exact all X.outer (fun _ hb => hb) I.ok.funs
theorem Inv.stack (I : Inv X pins σ H s) : s.heap.FunFrames X.base X.stack := by
  rcases I.ok.stk with e | ⟨e, hf⟩
  . rw [e]; exact I.funs
  . rw [e]
    obtain ⟨m, hn, _⟩ := I.loc
    refine .cons (by rw [I.ok.kind]; decide) hf hn ?_ I.funs
    exact Heap.get?_none_of_le (Nat.le_trans I.ok.bsz I.ok.above)
theorem Inv.stkSub (I : Inv X pins σ H s) : ∀ b ∈ frs X.stack, b ∈ X.env.locals :: X.fs := fun b hb => by
  rcases I.ok.stk with e | ⟨e, hf⟩
  . rw [e] at hb; exact List.mem_cons_of_mem _ hb
  . rw [e] at hb
    unfold frs at hb
    rw [List.filterMap_cons, hf] at hb
    exact hb
theorem Inv.stkFree (I : Inv X pins σ H s) : ∀ b ∈ frs X.stack, H b = none := fun b hb => by
  rcases List.mem_cons.mp (I.stkSub b hb) with e | hb
  . rw [e]; exact I.free
  . obtain ⟨_, o, ho, _⟩ := I.ok.funs.mem hb
    exact I.base.free b o ho (I.ok.frf b hb) fun z => I.ok.exfs b z hb
theorem Inv.step {g' : Array GenState} {t' : Nat} {d' : Drawn} {ch : List Addr} (I : Inv X pins σ H s)
    (hch : ∀ b ∈ ch, (b ∈ X.ex \/ X.s₀.heap.objs.size <= b) /\ b ≠ X.env.locals /\ (∀ x c, X.env.cells.lookup x = some c -> c ≠ b) /\ ∀ p ∈ X.pn ++ pins, p.1 ≠ b)
    (keep : ∀ b o, b ≠ X.env.locals -> b ∉ X.fs -> b ∉ ch -> s.heap.get? b = some o -> H b = none -> h'.get? b = some o)
    (slot : ∀ b o, b ≠ X.env.locals -> b ∈ X.fs -> b ∉ ch -> s.heap.get? b = some o -> H b = none -> ∃ sl, h'.get? b = some { o with slots := sl }) (free : ∀ b o, b ∉ ch -> s.heap.get? b = some o -> H b = none -> H' b = none)
    (there : ∀ b o, b ∉ ch -> s.heap.get? b = some o -> ∃ o', h'.get? b = some o')
    (tups : ∀ b xs, H b = some (.tup xs) -> H' b = some (.tup xs)) (frzs : ∀ b o u, H b = some (.frz o u) -> H' b = some (.frz o u)) (tbls : ∀ b ps, H b = some (.tbl ps) -> ∃ more, H' b = some (.tbl (ps ++ more)))
    (ns : ∀ m, s.heap.Ns X.env.locals m -> h'.Ns X.env.locals m) (hok : HOk X.prog X.w H' h') (hg : AllBare g') :
    Inv X pins σ H' { s with heap := h', gens := g', drawn := d', toks := t' } := by
  have neL : ∀ b o, X.s₀.heap.get? b = some o -> b ≠ X.env.locals := fun b o e => Nat.ne_of_lt (Nat.lt_of_lt_of_le (Heap.lt_size e) I.ok.above)
  have neC : ∀ b o, X.s₀.heap.get? b = some o -> b ∉ X.ex -> b ∉ ch := fun b o e hx hb => by
    rcases (hch b hb).1 with z | z
    . exact hx z
    . exact absurd (Nat.lt_of_lt_of_le (Heap.lt_size e) z) (Nat.lt_irrefl _)
  have cellK : ∀ x c, X.env.cells.lookup x = some c -> ∀ v, s.heap.IsCell c v -> h'.IsCell c v := fun x c e v ⟨o, ho, hd⟩ => by
    have nch : c ∉ ch := fun z => (hch c z).2.2.1 x c e rfl
    by_cases hc : c ∈ X.fs
    . obtain ⟨sl, q⟩ := slot c o (I.cne x c e) hc nch ho (I.freeC x c e)
      exact ⟨_, q, hd⟩
    . exact ⟨o, keep c o (I.cne x c e) hc nch ho (I.freeC x c e), hd⟩
  refine ⟨I.ok, I.os, hg, ⟨fun b o e n hb hx => ?_, fun b o e n hb hx => ?_, fun b o e n hx => ?_, fun b o e hx => ?_, fun b xs e => tups b xs (I.base.tups b xs e), fun b o xs e => frzs b o xs (I.base.frzs b o xs e), fun b ps e => ?_⟩, ?_, fun x c e => ?_, ?_, fun x c e => ?_, fun p hp => ?_, hok, I.len⟩
  . exact keep b o (neL b o e) hb (neC b o e hx) (I.base.keep b o e n hb hx) (I.base.free b o e n hx)
  . obtain ⟨sl, e1⟩ := I.base.slot b o e n hb hx
    obtain ⟨sl', e2⟩ := slot b _ (neL b o e) hb (neC b o e hx) e1 (I.base.free b o e n hx)
    exact ⟨sl', e2⟩
  . obtain ⟨o', e1⟩ := I.base.there b o e hx
    exact free b o' (neC b o e hx) e1 (I.base.free b o e n hx)
  . obtain ⟨o', e1⟩ := I.base.there b o e hx
    exact there b o' (neC b o e hx) e1
  . obtain ⟨m1, e1⟩ := I.base.tbls b ps e
    obtain ⟨m2, e2⟩ := tbls b _ e1
    exact ⟨m1 ++ m2, by rw [e2, Array.append_assoc]⟩
  . obtain ⟨m, hn, hl⟩ := I.loc
    refine ⟨m, ns m hn, fun i x v e1 e2 e3 => ?_⟩
    obtain ⟨u, r, l⟩ := hl i x v e1 e2 e3
    refine ⟨u, r, ?_⟩
    rcases l with l | ⟨k, c, e, z⟩
    . exact .inl l
    . exact .inr ⟨k, c, e, cellK x c e _ z⟩
  . obtain ⟨v, z⟩ := I.cell x c e
    exact ⟨v, cellK x c e v z⟩
  . obtain ⟨m, ⟨o, _, _, ho, _⟩, _⟩ := I.loc
    exact free _ o (fun z => (hch _ z).2.1 rfl) ho I.free
  . obtain ⟨v, o, ho, hd⟩ := I.cell x c e
    exact free c o (fun z => (hch c z).2.2.1 x c e rfl) ho (I.freeC x c e)
  . obtain ⟨e, n, ne, nf, d⟩ := I.pin p hp
    have nch : p.1 ∉ ch := fun z => (hch p.1 z).2.2.2 p hp rfl
    exact ⟨keep p.1 p.2 ne nf nch e n, free p.1 p.2 nch e n, ne, nf, d⟩
theorem Inv.un {t' : Nat} (I : Inv X pins σ H s) (u : Un X.fs [] H H' s.heap h') (hok : HOk X.prog X.w H' h') : Inv X pins σ H' { s with heap := h', toks := t' } := by
  obtain ⟨m, ⟨o, es, ep, ho, r⟩, _⟩ := id I.loc
  obtain ⟨sl, hL⟩ := u.any ho I.free (by simp)
  exact I.step (g' := s.gens) (d' := s.drawn) (ch := []) (fun _ z => nomatch z) (fun b o _ hb _ e n => u.keep b o e n hb (by simp)) (fun b o _ hb _ e n => u.slot b o e n hb (by simp)) (fun b o _ e n => u.free b o e n (by simp)) (fun b o _ e => u.there b o e (by simp)) u.tups u.frzs u.tbls (fun m' hm => by
    obtain ⟨o', es', ep', ho', r'⟩ := hm
    rw [ho] at ho'; cases ho'
    exact ⟨_, es', ep', hL, r'⟩) hok I.bare
theorem Inv.call {g' : Array GenState} {t' : Nat} {d' : Drawn} {ch : List Addr} (I : Inv X pins σ H s) (u : Un (frs X.stack) ch H H' s.heap h') (hok : HOk X.prog X.w H' h') (hg : AllBare g')
    (hch : ∀ b ∈ ch, (b ∈ X.ex \/ X.s₀.heap.objs.size <= b) /\ b ≠ X.env.locals /\ (∀ x c, X.env.cells.lookup x = some c -> c ≠ b) /\ ∀ p ∈ X.pn ++ pins, p.1 ≠ b) :
    Inv X pins σ H' { s with heap := h', gens := g', drawn := d', toks := t' } := by
  obtain ⟨m, ⟨o, es, ep, ho, r⟩, _⟩ := id I.loc
  obtain ⟨sl, hL⟩ := u.any ho I.free fun z => (hch _ z).2.1 rfl
  exact I.step (ch := ch) hch (fun b o hL hb hc e n => u.keep b o e n (fun z => (List.mem_cons.mp (I.stkSub b z)).elim hL hb) hc) (fun b o _ _ hc e n => u.any e n hc) (fun b o hc e n => u.free b o e n hc) (fun b o hc e => u.there b o e hc) u.tups u.frzs u.tbls (fun m' hm => by
    obtain ⟨o', es', ep', ho', r'⟩ := hm
    rw [ho] at ho'; cases ho'
    exact ⟨_, es', ep', hL, r'⟩) hok hg
theorem Inv.turned {t' : Nat} {it : Addr} (I : Inv X pins σ H s) (k : ∀ b o, b ≠ it -> s.heap.get? b = some o -> h'.get? b = some o) (hn : H it = none) (hL : it ≠ X.env.locals)
    (h1 : it ∈ X.ex \/ X.s₀.heap.objs.size <= it) (h2 : ∀ x c, X.env.cells.lookup x = some c -> c ≠ it) (h3 : ∀ p ∈ X.pn ++ pins, p.1 ≠ it) : Inv X pins σ H { s with heap := h', toks := t' } := by
  have nit : ∀ b u, H b = some u -> b ≠ it := fun b u e z => by rw [z, hn] at e; cases e
  refine I.step (g' := s.gens) (d' := s.drawn) (ch := [it]) (fun b hb => ?_) (fun b o _ _ hc e _ => k b o (fun z => hc (by simp [z])) e) (fun b o _ _ hc e _ => ⟨o.slots, k b o (fun z => hc (by simp [z])) e⟩) (fun _ _ _ _ n => n)
    (fun b o hc e => ⟨o, k b o (fun z => hc (by simp [z])) e⟩) (fun _ _ e => e) (fun _ _ _ e => e) (fun b ps e => ⟨#[], by rw [e]; simp⟩) (fun m hm => ?_) (fun b u e => ?_) I.bare
  . have e : b = it := by simpa using hb
    subst e
    exact ⟨h1, hL, h2, h3⟩
  . obtain ⟨o, es, ep, ho, r⟩ := hm
    exact ⟨o, es, ep, k _ o (Ne.symm hL) ho, r⟩
  . refine (I.hok b u e).stay (fun c v hc q => k c v ?_ q) (fun _ q => q) fun _ _ q => q
    rcases hc with z | z
    . rw [z]; exact nit b u e
    . exact nit c _ z
theorem Inv.tok (I : Inv X pins σ H s) (t : Nat) : Inv X pins σ H { s with toks := t } := I.un (h' := s.heap) (t' := t) Un.refl I.hok
theorem Inv.kept {t' : Nat} (I : Inv X pins σ H s) (k : ∀ b u, s.heap.get? b = some u -> h'.get? b = some u) : Inv X pins σ H { s with heap := h', toks := t' } := I.un (Un.kept k) (I.hok.kept k)
theorem Inv.laid {a : Addr} {o : HO} {t' : Nat} (I : Inv X pins σ H s) (k : ∀ b u, s.heap.get? b = some u -> h'.get? b = some u) (hp : s.heap.objs.size <= a) (new : ObjOk X.prog X.w (upd H a o) h' a o) :
    Inv X pins σ (upd H a o) { s with heap := h', toks := t' } := I.un (Un.laid k hp (I.hok.fresh hp)) (I.hok.laid k hp new)
theorem Inv.write {x e : Addr} {o : HO} {t' : Nat} (I : Inv X pins σ H s) (mu : Mut (H x)) (he : e = x \/ H e = some (.own x)) (k : ∀ b u, b ≠ e -> s.heap.get? b = some u -> h'.get? b = some u) (heo : ∃ u, h'.get? e = some u)
    (new : ObjOk X.prog X.w (upd H x o) h' x o) : Inv X pins σ (upd H x o) { s with heap := h', toks := t' } := I.un (Un.write mu he k heo) (I.hok.write mu he k heo new)
theorem Inv.pins_of {pins' : List (Addr × Obj)} (I : Inv X pins σ H s) (h : ∀ p ∈ pins', s.heap.get? p.1 = some p.2 /\ H p.1 = none /\ p.1 ≠ X.env.locals /\ p.1 ∉ X.fs /\ ∀ v, p.2.data ≠ .cell v) : Inv X pins' σ H s :=
  ⟨I.ok, I.os, I.bare, I.base, I.loc, I.cell, I.free, I.freeC, fun p hp => (List.mem_append.mp hp).elim (fun z => I.pin p (List.mem_append_left _ z)) (h p), I.hok, I.len⟩
theorem nodup_ix {N : List Str} (hN : N.Nodup) {i j : Nat} {x : Str} (a : N[i]? = some x) (b : N[j]? = some x) : i = j := by
  obtain ⟨h1, e1⟩ := List.getElem?_eq_some_iff.mp a
  obtain ⟨h2, e2⟩ := List.getElem?_eq_some_iff.mp b
  exact (List.getElem_inj hN).mp (e1.trans e2.symm)
theorem store_ok2 {M : Model} {A : Around} {E : Value -> Shared -> Prop} {i : Nat} {x : Str} {v : V} {u : Value} {Q : Unit -> Shared -> Prop} (I : Inv X pins σ H s) (hN : X.N.Nodup) (hi : X.N[i]? = some x) (hx : Loc X.env.scope x) (r : RelV v u)
    (h : ∀ s', Inv X pins (σ.set i (some v)) H s' -> (∃ a, Heap.SameBut a s.heap s'.heap /\ (a = X.env.locals \/ X.env.cells.lookup x = some a)) -> Q () s') (hf : X.fn x = true \/ X.env.scope.names.lookup x = some .local := by first | exact .inl rfl | exact .inr rfl | assumption) : wpAny M A (storeName X.env x u) Q E s := by
  obtain ⟨m, hn, hl⟩ := id I.loc
  have hcls : (X.env.scope.kind == .class || (X.env.scope.kind == .module && X.env.locals != X.env.globals)) = false := by rw [I.ok.kind]; rfl
  have hiσ : i < σ.length := by rw [I.len]; exact (List.getElem?_eq_some_iff.mp hi).1
  have cne := I.cne
  have tracked : ∀ {a : Addr} {h' : Heap}, (∃ o, s.heap.get? a = some o /\ H a = none) -> Heap.SameBut a s.heap h' -> HOk X.prog X.w H h' := fun {a h'} ha hs b ob e => by
    obtain ⟨_, _, hfree⟩ := ha
    refine (I.hok b ob e).stay (fun c w' hc q => (hs.2 c ?_).trans q) (fun _ q => q) fun _ _ q => q
    rintro rfl
    rcases hc with rfl | hc
    . rw [hfree] at e; cases e
    . rw [hfree] at hc; cases hc
  rcases hx with hk | hk
  . refine wpAny_storeName_local hk hn (fun h' hn' hs => ?_) hcls
    obtain ⟨oL, _, _, hoL, _⟩ := id hn
    refine h _ ⟨I.ok, I.os, I.bare, ⟨fun b o e n hb hx => ?_, fun b o e n hb hx => ?_, I.base.free, fun b o e hx => ?_, I.base.tups, I.base.frzs, I.base.tbls⟩, ⟨_, hn', fun j y v' e1 e2 e3 => ?_⟩, fun y c e => ?_, I.free, I.freeC, fun p hp => ?_, tracked ⟨oL, hoL, I.free⟩ hs, by simpa using I.len⟩ ⟨_, hs, .inl rfl⟩
    . exact (hs.2 b (Nat.ne_of_lt (Nat.lt_of_lt_of_le (Heap.lt_size e) I.ok.above))).trans (I.base.keep b o e n hb hx)
    . obtain ⟨sl, e1⟩ := I.base.slot b o e n hb hx
      exact ⟨sl, (hs.2 b (Nat.ne_of_lt (Nat.lt_of_lt_of_le (Heap.lt_size e) I.ok.above))).trans e1⟩
    . obtain ⟨o', e1⟩ := I.base.there b o e hx
      exact ⟨o', (hs.2 b (Nat.ne_of_lt (Nat.lt_of_lt_of_le (Heap.lt_size e) I.ok.above))).trans e1⟩
    . by_cases hj : j = i
      . subst hj
        rw [hi] at e1; cases e1
        rw [List.getElem?_set_self hiσ] at e2
        cases e2
        exact ⟨u, r, .inl ⟨hk, by simp⟩⟩
      . rw [List.getElem?_set_ne (Ne.symm hj)] at e2
        obtain ⟨u', r', q⟩ := hl j y v' e1 e2 e3
        refine ⟨u', r', ?_⟩
        rcases q with ⟨k, e⟩ | ⟨k, c, e, z⟩
        . refine .inl ⟨k, ?_⟩
          have : y ≠ x := fun e => hj (nodup_ix hN e1 (e ▸ hi))
          simp [this, e]
        . exact .inr ⟨k, c, e, z.sameBut hs (cne y c e)⟩
    . obtain ⟨w', z⟩ := I.cell y c e
      exact ⟨w', z.sameBut hs (cne y c e)⟩
    . obtain ⟨e, n, ne, nf, d⟩ := I.pin p hp
      exact ⟨(hs.2 p.1 ne).trans e, n, ne, nf, d⟩
  . have hfn : X.fn x = true := by
      rcases hf with z | z
      . exact z
      . rw [z] at hk; cases hk
    obtain ⟨c, hc⟩ := I.ok.has x (.inl hk)
    obtain ⟨w', z⟩ := I.cell x c hc
    refine wpAny_storeName_cell I.ok.kind hk hc z (fun h' hc' hs => ?_)
    obtain ⟨oc, hoc, hocd⟩ := id z
    refine h { s with heap := h' } ⟨I.ok, I.os, I.bare, ⟨fun b o e n hb hx => ?_, fun b o e n hb hx => ?_, I.base.free, fun b o e hx => ?_, I.base.tups, I.base.frzs, I.base.tbls⟩, ⟨m, hn.sameBut hs (Ne.symm (cne x c hc)), fun j y v' e1 e2 e3 => ?_⟩, fun y c' e => ?_, I.free, I.freeC, fun p hp => ?_, tracked ⟨oc, hoc, I.freeC x c hc⟩ hs, by simpa using I.len⟩ ⟨c, hs, .inr hc⟩
    . exact (hs.2 b (Nat.ne_of_lt (Nat.lt_of_lt_of_le (Heap.lt_size e) (I.ok.cab x c hfn hc)))).trans (I.base.keep b o e n hb hx)
    . obtain ⟨sl, e1⟩ := I.base.slot b o e n hb hx
      exact ⟨sl, (hs.2 b (Nat.ne_of_lt (Nat.lt_of_lt_of_le (Heap.lt_size e) (I.ok.cab x c hfn hc)))).trans e1⟩
    . obtain ⟨o', e1⟩ := I.base.there b o e hx
      exact ⟨o', (hs.2 b (Nat.ne_of_lt (Nat.lt_of_lt_of_le (Heap.lt_size e) (I.ok.cab x c hfn hc)))).trans e1⟩
    . by_cases hj : j = i
      . subst hj
        rw [hi] at e1; cases e1
        rw [List.getElem?_set_self hiσ] at e2
        cases e2
        exact ⟨u, r, .inr ⟨.inl hk, c, hc, hc'⟩⟩
      . rw [List.getElem?_set_ne (Ne.symm hj)] at e2
        obtain ⟨u', r', q⟩ := hl j y v' e1 e2 e3
        refine ⟨u', r', ?_⟩
        rcases q with q | ⟨k, c', e, z'⟩
        . exact .inl q
        . refine .inr ⟨k, c', e, z'.sameBut hs ?_⟩
          rintro rfl
          exact hj (nodup_ix hN e1 (I.ok.inj _ _ _ e hc ▸ hi))
    . by_cases hcc : c' = c
      . subst hcc; exact ⟨_, hc'⟩
      . obtain ⟨w2, z2⟩ := I.cell y c' e
        exact ⟨w2, z2.sameBut hs hcc⟩
    . obtain ⟨e, n, ne, nf, d⟩ := I.pin p hp
      refine ⟨(hs.2 p.1 ?_).trans e, n, ne, nf, d⟩
      intro q
      rw [q, hoc] at e
      have q' : oc = p.2 := Option.some.inj e
      exact d w' (by rw [<- q']; exact hocd)
theorem store_ok {M : Model} {A : Around} {E : Value -> Shared -> Prop} {i : Nat} {x : Str} {v : V} {u : Value} {Q : Unit -> Shared -> Prop} (I : Inv X pins σ H s) (hN : X.N.Nodup) (hi : X.N[i]? = some x) (hx : Loc X.env.scope x) (r : RelV v u)
    (h : ∀ s', Inv X pins (σ.set i (some v)) H s' -> Q () s') (hf : X.fn x = true \/ X.env.scope.names.lookup x = some .local := by first | exact .inl rfl | exact .inr rfl | assumption) : wpAny M A (storeName X.env x u) Q E s :=
  store_ok2 I hN hi hx r (fun s' I' _ => h s' I') hf
theorem Inv.call' {s' : Shared} {ch : List Addr} (I : Inv X pins σ H s) (ho : s'.os = s.os) (u : Un (frs X.stack) ch H H' s.heap s'.heap) (hok : HOk X.prog X.w H' s'.heap) (hg : AllBare s'.gens)
    (hch : ∀ b ∈ ch, (b ∈ X.ex \/ X.s₀.heap.objs.size <= b) /\ b ≠ X.env.locals /\ (∀ x c, X.env.cells.lookup x = some c -> c ≠ b) /\ ∀ p ∈ X.pn ++ pins, p.1 ≠ b) : Inv X pins σ H' s' := by
  obtain ⟨h', g', d', t', o'⟩ := s'
  have e : o' = s.os := ho
  subst e
  exact I.call (g' := g') (t' := t') (d' := d') u hok hg hch
end
abbrev XK := Value -> Option Addr -> Hp -> Prop
abbrev St := List (Option V)
abbrev VK := V -> Hp -> Prop
abbrev TE := St -> Hp -> VK -> Prop
abbrev TT := St -> Hp -> (Bool -> Hp -> Prop) -> Prop
abbrev TA := St -> Hp -> (List V -> Hp -> Prop) -> Prop
structure Ends where
  nx : St -> Hp -> Prop
  rt : VK
  bk : St -> Hp -> Prop := fun _ _ => False
  ct : St -> Hp -> Prop := fun _ _ => False
abbrev TS := Ends -> St -> Hp -> Prop
def EP (X : Cx) (pins : List (Addr × Obj)) (σ : St) (Q : VK) (u : Value) (s' : Shared) : Prop := ∃ v H', Inv X pins σ H' s' /\ RelV v u /\ Q v H'
def TP (X : Cx) (pins : List (Addr × Obj)) (σ : St) (Q : Bool -> Hp -> Prop) (b : Bool) (s' : Shared) : Prop := ∃ H', Inv X pins σ H' s' /\ Q b H'
def AP (X : Cx) (pins : List (Addr × Obj)) (σ : St) (Q : List V -> Hp -> Prop) (us : List Value) (s' : Shared) : Prop := ∃ vs H', Inv X pins σ H' s' /\ Vals vs us /\ Q vs H'
def SP (X : Cx) (pins : List (Addr × Obj)) (D : Ends) (f : Flow) (s' : Shared) : Prop :=
  match f with
  | .next => ∃ σ' H', Inv X pins σ' H' s' /\ D.nx σ' H'
  | .brk => ∃ σ' H', Inv X pins σ' H' s' /\ D.bk σ' H'
  | .cont => ∃ σ' H', Inv X pins σ' H' s' /\ D.ct σ' H'
  | .ret u => ∃ v σ' H', Inv X pins σ' H' s' /\ RelV v u /\ D.rt v H'
def PE (X : Cx) (e : Expr) (t : TE) : Prop :=
  ∀ (pins : List (Addr × Obj)) (s : Shared) (σ : St) (H : Hp) (Q : VK), Inv X pins σ H s -> t σ H Q -> wpAny (model X.prog X.w) X.A (eval e X.env) (EP X pins σ Q) X.xe s
def PT (X : Cx) (e : Expr) (t : TT) : Prop :=
  ∀ (pins : List (Addr × Obj)) (s : Shared) (σ : St) (H : Hp) (Q : Bool -> Hp -> Prop), Inv X pins σ H s -> t σ H Q -> wpAny (model X.prog X.w) X.A (isTrue e X.env (eval e X.env)) (TP X pins σ Q) X.xe s
def PW (X : Cx) (e : Expr) (t : TT) : Prop :=
  ∀ (whole : Sem Value) (pins : List (Addr × Obj)) (s : Shared) (σ : St) (H : Hp) (Q : Bool -> Hp -> Prop), Inv X pins σ H s -> t σ H Q -> wpAny (model X.prog X.w) X.A (isTrue e X.env whole) (TP X pins σ Q) X.xe s
theorem PW.pt {X : Cx} {e : Expr} {t : TT} (h : PW X e t) : PT X e t := h _
def PA (X : Cx) (es : List Expr) (t : TA) : Prop :=
  ∀ (pos : Pos) (pins : List (Addr × Obj)) (s : Shared) (σ : St) (H : Hp) (Q : List V -> Hp -> Prop), Inv X pins σ H s -> t σ H Q -> wpAny (model X.prog X.w) X.A (spliced (backTo pos (starEach es X.env))) (AP X pins σ Q) X.xe s
def PS (X : Cx) (st : Stmt) (t : TS) : Prop :=
  ∀ (pins : List (Addr × Obj)) (s : Shared) (σ : St) (H : Hp) (D : Ends), Inv X pins σ H s -> t D σ H -> wpAny (model X.prog X.w) X.A (exec st X.env) (SP X pins D) X.xe s
def PSs (X : Cx) (st : List Stmt) (t : TS) : Prop :=
  ∀ (pins : List (Addr × Obj)) (s : Shared) (σ : St) (H : Hp) (D : Ends), Inv X pins σ H s -> t D σ H -> wpAny (model X.prog X.w) X.A (execs st X.env) (SP X pins D) X.xe s
theorem thn {α : Type} {t : Sem α} {Q Q' : α -> Shared -> Prop} {M : Model} {A : Around} {E : Value -> Shared -> Prop} {s : Shared} (h : wpAny M A t Q E s) (hQ : ∀ a s, Q a s -> Q' a s) : wpAny M A t Q' E s := wpAny_mono h hQ fun _ _ x => x
end L2
namespace L2
open PySem PySem.Spec PyProof.Rows
section
variable {X : Cx}
theorem bin {a b : Expr} {ta tb : TE} (ha : PE X a ta) (hb : PE X b tb) {pins : List (Addr × Obj)} {s : Shared} {σ : St} {H : Hp} {R : V -> V -> Hp -> Prop} (I : Inv X pins σ H s) (h : ta σ H fun x H1 => tb σ H1 fun y H2 => R x y H2)
    {α : Type} {Q : α -> Shared -> Prop} {f : Value -> Value -> Sem α}
    (hf : ∀ v u s2 x y H2, Inv X pins σ H2 s2 -> RelV x v -> RelV y u -> R x y H2 -> wpAny (model X.prog X.w) X.A (f v u) Q X.xe s2) :
    wpAny (model X.prog X.w) X.A (eval a X.env) (fun v s₁ => wpAny (model X.prog X.w) X.A (eval b X.env) (fun u s₂ => wpAny (model X.prog X.w) X.A (f v u) Q X.xe s₂) X.xe s₁) X.xe s := by
  refine thn (ha pins s σ H _ I h) fun v s1 ⟨x, H1, I1, r1, q1⟩ => ?_
  refine thn (hb pins s1 σ H1 _ I1 q1) fun u s2 ⟨y, H2, I2, r2, q2⟩ => ?_
  exact hf v u s2 x y H2 I2 r1 r2 q2
def tVar (i : Nat) : TE := fun σ H Q => ∃ v, σ[i]? = some (some v) /\ Q v H
def tC (v : V) : TE := fun _ H Q => Q v H
theorem pe_var {i : Nat} {x : Str} {pos : Pos} (hN : X.N[i]? = some x) (hv : Vis X.env.scope x) (hd : (x == ("__debug__" : Str)) = false := by decide) (hcd : (x == ("__classdict__" : Str)) = false := by decide) : PE X (.Name x pos) (tVar i) := by
  intro pins s σ H Q I h
  obtain ⟨v, e, h⟩ := h
  obtain ⟨m, hn, hl⟩ := I.loc
  obtain ⟨u, r, l⟩ := hl i x v hN e hv
  have fin : EP X pins σ Q u s := ⟨v, H, I, r, h⟩
  rcases l with ⟨hk, hm⟩ | ⟨hk, c, hc, hcell⟩
  . exact wpAny_Name (wpAny_loadName_local I.ok.kind hk hn hm fin) hd
  . rcases hk with hk | hk
    . exact wpAny_Name (wpAny_loadName_cell I.ok.kind hk hc hcell fin) hd
    . exact wpAny_Name (wpAny_loadName_free I.ok.kind hk hc hcell fin hcd) hd
theorem pe_int {i j pos} : PE X (.Constant (.int i) j pos) (tC (.int i)) := fun _ _ _ H _ I h => wpAny_Constant_int ⟨.int i, H, I.tok _, ⟨_, rfl⟩, h⟩
theorem pe_bl {b j pos} : PE X (.Constant (.bool b) j pos) (tC (.bl b)) := fun _ _ _ H _ I h => Constant_bool ⟨.bl b, H, I, rfl, h⟩
theorem pe_non {j pos} : PE X (.Constant .none j pos) (tC .non) := fun _ _ _ H _ I h => Constant_none ⟨.non, H, I, rfl, h⟩
theorem pe_str {x j pos} : PE X (.Constant (.str x) j pos) (tC (.str x)) := fun _ _ _ H _ I h => Calls.Constant_str ⟨.str x, H, I.tok _, ⟨_, rfl⟩, h⟩
def Gl (X : Cx) (x : Str) : Prop := X.env.kindOf x = some .globalImplicit
theorem ld_glob {E : Value -> Shared -> Prop} {pins : List (Addr × Obj)} {s : Shared} {σ : St} {H : Hp} {x : Str} {u : Value} {pos : Pos} {Q : Value -> Shared -> Prop} (I : Inv X pins σ H s) (hg : Gl X x) (hm : X.mg x = some u) (h : Q u s)
    (hd : (x == ("__debug__" : Str)) = false := by decide) : wpAny (model X.prog X.w) X.A (eval (.Name x pos) X.env) Q E s :=
  Calls.Name_function_global I.ok.kind hg (Calls.loadGlobal_global (by rw [I.ok.glob]; exact I.mod.glob.keeps I.bk) hm h) hd
theorem ld_blt {E : Value -> Shared -> Prop} {pins : List (Addr × Obj)} {s : Shared} {σ : St} {H : Hp} {x : Str} {u : Value} {pos : Pos} {Q : Value -> Shared -> Prop} (I : Inv X pins σ H s) (hg : Gl X x) (hm : X.mg x = none) (hv : bootBuiltins x = some u) (h : Q u s)
    (hn : x ≠ "__name__" := by decide) (hd : (x == ("__debug__" : Str)) = false := by decide) : wpAny (model X.prog X.w) X.A (eval (.Name x pos) X.env) Q E s := by
  obtain ⟨mb, h1, h2⟩ := I.mod.blt
  exact Calls.Name_function_global I.ok.kind hg (Calls.loadGlobal_builtin (by rw [I.ok.glob]; exact I.mod.glob.keeps I.bk) hm (by rw [I.ok.blt]; exact h1.keeps I.bk) ((h2 x hn).trans hv) h) hd
theorem pe_glob {x : Str} {v : V} {u : Value} {pos : Pos} (hg : Gl X x) (hm : X.mg x = some u) (r : RelV v u) (hd : (x == ("__debug__" : Str)) = false := by decide) : PE X (.Name x pos) (tC v) :=
  fun _ _ _ H _ I h => ld_glob I hg hm ⟨v, H, I, r, h⟩ hd
theorem pe_bltn {x : Str} {v : V} {u : Value} {pos : Pos} (hg : Gl X x) (hm : X.mg x = none) (hv : bootBuiltins x = some u) (r : RelV v u) (hn : x ≠ "__name__" := by decide) (hd : (x == ("__debug__" : Str)) = false := by decide) : PE X (.Name x pos) (tC v) :=
  fun _ _ _ H _ I h => ld_blt I hg hm hv ⟨v, H, I, r, h⟩ hn hd
variable {a b : Expr} {ta tb : TE} {pos : Pos}
def tB (t : TE) : TT := fun σ H Q => t σ H fun x H1 => ∃ c, x = .bl c /\ Q c H1
theorem pt_val {e : Expr} {t : TE} (h : PE X e t) (he : ∀ whole, isTrue e X.env whole = (do let v <- whole; standAt e.pos; holding [v] (truthy v)) := by intro _; rfl) : PT X e (tB t) := by
  intro pins s σ H Q I hw
  refine isTrue_plain (thn (h pins s σ H _ I hw) fun v s1 ⟨x, H1, I1, r1, q1⟩ => ?_) (he _)
  obtain ⟨d, rfl, q⟩ := q1
  cases r1
  exact wpAny_truthy_bool ⟨H1, I1, q⟩
variable {tA tB' : TT} {rest : List Expr}
def tAnd (t u : TT) : TT := fun σ H Q => t σ H fun c H1 => if c = true then u σ H1 Q else Q false H1
def tOr (t u : TT) : TT := fun σ H Q => t σ H fun c H1 => if c = true then Q true H1 else u σ H1 Q
def tNot (t : TT) : TT := fun σ H Q => t σ H fun c H1 => Q (!c) H1
theorem pw_and1 (ha : PT X a tA) : PW X (.BoolOp .And [a] pos) tA := by
  intro wh pins s σ H Q I h
  refine isTrue_and (thn (ha pins s σ H Q I h) fun c s1 e => ?_)
  cases c with
  | true => exact isTrue_and_nil e
  | false => exact e
theorem pw_or1 (ha : PT X a tA) : PW X (.BoolOp .Or [a] pos) tA := by
  intro wh pins s σ H Q I h
  refine isTrue_or (thn (ha pins s σ H Q I h) fun c s1 e => ?_)
  cases c with
  | false => exact isTrue_or_nil e
  | true => exact e
theorem pw_and (ha : PT X a tA) (hb : PW X (.BoolOp .And (b :: rest) pos) tB') : PW X (.BoolOp .And (a :: b :: rest) pos) (tAnd tA tB') := by
  intro wh pins s σ H Q I h
  refine isTrue_and (thn (ha pins s σ H _ I h) fun c s1 ⟨H1, I1, q1⟩ => ?_)
  cases c with
  | true => exact hb wh pins s1 σ H1 Q I1 q1
  | false => exact ⟨H1, I1, q1⟩
theorem pw_or (ha : PT X a tA) (hb : PW X (.BoolOp .Or (b :: rest) pos) tB') : PW X (.BoolOp .Or (a :: b :: rest) pos) (tOr tA tB') := by
  intro wh pins s σ H Q I h
  refine isTrue_or (thn (ha pins s σ H _ I h) fun c s1 ⟨H1, I1, q1⟩ => ?_)
  cases c with
  | true => exact ⟨H1, I1, q1⟩
  | false => exact hb wh pins s1 σ H1 Q I1 q1
theorem pt_not (ha : PT X a tA) : PT X (.UnaryOp .Not a pos) (tNot tA) := by
  intro pins s σ H Q I h
  exact isTrue_not (ha pins s σ H (fun c H1 => Q (!c) H1) I h)
def tAndV (ta tb : TE) : TE := fun σ H Q => ta σ H fun x H1 => ∃ c, x = .bl c /\ if c = true then tb σ H1 Q else Q (.bl false) H1
def tOrV (ta tb : TE) : TE := fun σ H Q => ta σ H fun x H1 => ∃ c, x = .bl c /\ if c = true then Q (.bl true) H1 else tb σ H1 Q
def tNotV (ta : TE) : TE := fun σ H Q => ta σ H fun x H1 => ∃ c, x = .bl c /\ Q (.bl (!c)) H1
theorem pe_one {op} {t : TE} (h : PE X a t) : PE X (.BoolOp op [a] pos) t := fun pins s σ H Q I hw => BoolOp_one (h pins s σ H Q I hw)
theorem pe_and (ha : PE X a ta) (hb : PE X (.BoolOp .And (b :: rest) pos) tb) : PE X (.BoolOp .And (a :: b :: rest) pos) (tAndV ta tb) := by
  intro pins s σ H Q I h
  refine BoolOp_and (thn (ha pins s σ H _ I h) fun v s1 ⟨x, H1, I1, r1, q1⟩ => ?_)
  obtain ⟨c, rfl, q1⟩ := q1
  cases r1
  refine wpAny_truthy_bool ?_
  cases c with
  | true => exact hb pins s1 σ H1 Q I1 q1
  | false => exact ⟨.bl false, H1, I1, rfl, q1⟩
theorem pe_or (ha : PE X a ta) (hb : PE X (.BoolOp .Or (b :: rest) pos) tb) : PE X (.BoolOp .Or (a :: b :: rest) pos) (tOrV ta tb) := by
  intro pins s σ H Q I h
  refine BoolOp_or (thn (ha pins s σ H _ I h) fun v s1 ⟨x, H1, I1, r1, q1⟩ => ?_)
  obtain ⟨c, rfl, q1⟩ := q1
  cases r1
  refine wpAny_truthy_bool ?_
  cases c with
  | false => exact hb pins s1 σ H1 Q I1 q1
  | true => exact ⟨.bl true, H1, I1, rfl, q1⟩
theorem pe_not (ha : PE X a ta) : PE X (.UnaryOp .Not a pos) (tNotV ta) := by
  intro pins s σ H Q I h
  refine UnaryOp_ (thn (ha pins s σ H _ I h) fun v s1 ⟨x, H1, I1, r1, q1⟩ => ?_)
  obtain ⟨c, rfl, q1⟩ := q1
  cases r1
  exact not_of (wpAny_truthy_bool ⟨.bl (!c), H1, I1, rfl, q1⟩)
end
end L2
namespace L2
open PySem PySem.Spec PyProof.Rows
def SqL (K : PySem.W.Frag) (H : Hp) (a : Addr) (xs : List V) : Prop :=
  Rd H a (.lst xs) \/
    ∃ (o : Obj) (its : Array Value) (n : Nat), K.lookup a = some o /\ o.cls = .type "list" /\ o.dict = none /\ o.data = .seq its n /\ its.size <= sizeLine /\ Vals xs its.toList
def SqT (K : PySem.W.Frag) (H : Hp) (a : Addr) (xs : List V) : Prop :=
  Rd H a (.tup xs) \/
    ∃ (o : Obj) (its : Array Value) (n : Nat), K.lookup a = some o /\ o.cls = .type "tuple" /\ o.data = .seq its n /\ its.size <= sizeLine /\ Vals xs its.toList
def absV : Value -> Option V
  | .none => some .non
  | .bool b => some (.bl b)
  | .int i _ => some (.int i)
  | .str x _ => some (.str x)
  | .bytes b _ => some (.byt b)
  | .float b _ => some (.flt b)
  | .ref a => some (.ref a)
  | .type n => some (.ty n)
  | _ => none
theorem RelV.abs {x : V} {u : Value} (r : RelV x u) : absV u = some x := by
  cases x with
  | non => cases r; rfl
  | bl _ => cases r; rfl
  | int _ => obtain ⟨t, rfl⟩ := r; rfl
  | str _ => obtain ⟨t, rfl⟩ := r; rfl
  | byt _ => obtain ⟨t, rfl⟩ := r; rfl
  | flt _ => obtain ⟨t, rfl⟩ := r; rfl
  | ref _ => cases r; rfl
  | ty _ => cases r; rfl
theorem RelV.inj {x y : V} {u : Value} (r : RelV x u) (q : RelV y u) : x = y := Option.some.inj (r.abs.symm.trans q.abs)
theorem Vals.inj : ∀ {xs ys : List V} {us : List Value}, Vals xs us -> Vals ys us -> xs = ys
  | _, _, _, .nil, .nil => rfl
  | _, _, _, .cons r t, .cons r' t' => by rw [r.inj r', Vals.inj t t']
section
variable {X : Cx} {pins : List (Addr × Obj)} {σ : St} {H : Hp} {s : Shared} {a : Addr} {xs ys : List V}
theorem SqL.of {K : PySem.W.Frag} (h : H a = some (.lst xs)) : SqL K H a xs := .inl (.inl h)
theorem SqT.of {K : PySem.W.Frag} (h : H a = some (.tup xs)) : SqT K H a xs := .inl (.inl h)
theorem Inv.list (I : Inv X pins σ H s) (h : SqL X.K H a xs) : ∃ its : List Value, Vals xs its /\ PlainL s.heap a its.toArray /\ xs.length <= sizeLine := by
  rcases h with h | ⟨o, its, n, hk, hc, hd, hs, hz, r⟩
  . obtain ⟨z, its, n, r, e⟩ := h.ok I.hok
    exact ⟨its, r, ⟨_, n, e, rfl, rfl, rfl⟩, z⟩
  . refine ⟨its.toList, r, ⟨o, n, I.kIn a o hk, hc, hd, by simpa using hs⟩, ?_⟩
    have e := r.length
    simp only [Array.length_toList] at e
    omega
theorem Inv.tuple (I : Inv X pins σ H s) (h : SqT X.K H a xs) : ∃ its : List Value, Vals xs its /\ IsTup s.heap a its.toArray /\ xs.length <= sizeLine := by
  rcases h with h | ⟨o, its, n, hk, hc, hs, hz, r⟩
  . obtain ⟨z, its, r, p⟩ := h.ok I.hok
    exact ⟨its, r, p, z⟩
  . refine ⟨its.toList, r, ⟨o, I.kIn a o hk, hc, n, by simpa using hs⟩, ?_⟩
    have e := r.length
    simp only [Array.length_toList] at e
    omega
theorem Inv.list_inj (I : Inv X pins σ H s) (h : SqL X.K H a xs) (h' : SqL X.K H a ys) : xs = ys := by
  obtain ⟨its, r, ⟨o, n, e, _, _, d⟩, _⟩ := I.list h
  obtain ⟨its', r', ⟨o', n', e', _, _, d'⟩, _⟩ := I.list h'
  rw [e] at e'; cases e'
  rw [d] at d'
  injection d' with d1 _
  have : its = its' := by simpa using congrArg Array.toList d1
  subst this
  exact r.inj r'
theorem Inv.tuple_inj (I : Inv X pins σ H s) (h : SqT X.K H a xs) (h' : SqT X.K H a ys) : xs = ys := by
  obtain ⟨its, r, ⟨o, e, _, n, d⟩, _⟩ := I.tuple h
  obtain ⟨its', r', ⟨o', e', _, n', d'⟩, _⟩ := I.tuple h'
  rw [e] at e'; cases e'
  rw [d] at d'
  injection d' with d1 _
  have : its = its' := by simpa using congrArg Array.toList d1
  subst this
  exact r.inj r'
end
abbrev Cx.wish (X : Cx) (E : Value -> Shared -> Prop) : Cx := { X with xe := E }
abbrev Cx.nox (X : Cx) : Cx := X.wish fun _ _ => False
theorem Cx.Ok.wish {X : Cx} (ok : X.Ok) (E : Value -> Shared -> Prop) : (X.wish E).Ok :=
  ⟨ok.mod, ok.kind, ok.glob, ok.blt, ok.above, ok.inj, ok.has, ok.cab, ok.hd, ok.frames, ok.stk, ok.exf, ok.bs, ok.bsz, ok.noex, ok.exfs, ok.funs, ok.frf⟩
theorem Cx.Ok.unwish {X : Cx} {E : Value -> Shared -> Prop} (ok : (X.wish E).Ok) : X.Ok :=
  ⟨ok.mod, ok.kind, ok.glob, ok.blt, ok.above, ok.inj, ok.has, ok.cab, ok.hd, ok.frames, ok.stk, ok.exf, ok.bs, ok.bsz, ok.noex, ok.exfs, ok.funs, ok.frf⟩
section
variable {X : Cx} {pins : List (Addr × Obj)} {σ : St} {H : Hp} {s : Shared} {E : Value -> Shared -> Prop}
theorem Inv.wish (I : Inv X pins σ H s) (E : Value -> Shared -> Prop) : Inv (X.wish E) pins σ H s := ⟨I.ok.wish E, I.os, I.bare, I.base, I.loc, I.cell, I.free, I.freeC, I.pin, I.hok, I.len⟩
theorem Inv.unwish (I : Inv (X.wish E) pins σ H s) : Inv X pins σ H s := ⟨I.ok.unwish, I.os, I.bare, I.base, I.loc, I.cell, I.free, I.freeC, I.pin, I.hok, I.len⟩
theorem SP.unwish {D : Ends} {f : Flow} {s' : Shared} (h : SP (X.wish E) pins D f s') : SP X pins D f s' := by
  cases f with
  | next => obtain ⟨σ', H', I, q⟩ := h; exact ⟨σ', H', I.unwish, q⟩
  | brk => obtain ⟨σ', H', I, q⟩ := h; exact ⟨σ', H', I.unwish, q⟩
  | cont => obtain ⟨σ', H', I, q⟩ := h; exact ⟨σ', H', I.unwish, q⟩
  | ret u => obtain ⟨v, σ', H', I, r, q⟩ := h; exact ⟨v, σ', H', I.unwish, r, q⟩
theorem PE.nox {e : Expr} {t : TE} (h : PE X.nox e t) : PE X e t := fun pins s σ H Q I hw =>
  wpAny_mono (h pins s σ H Q (I.wish _) hw) (fun _ _ ⟨v, H', I', r, q⟩ => ⟨v, H', I'.unwish, r, q⟩) fun _ _ z => False.elim z
theorem PT.nox {e : Expr} {t : TT} (h : PT X.nox e t) : PT X e t := fun pins s σ H Q I hw =>
  wpAny_mono (h pins s σ H Q (I.wish _) hw) (fun _ _ ⟨H', I', q⟩ => ⟨H', I'.unwish, q⟩) fun _ _ z => False.elim z
theorem PSs.nox {st : List Stmt} {t : TS} (h : PSs X.nox st t) : PSs X st t := fun pins s σ H D I hw =>
  wpAny_mono (h pins s σ H D (I.wish _) hw) (fun _ _ q => q.unwish) fun _ _ z => False.elim z
end
section
variable {X : Cx} {st : Stmt} {rest : List Stmt} {t u : TS} {e : Expr} {te : TE} {pos : Pos}
def tNext : TS := fun D σ H => D.nx σ H
def tSeq (t u : TS) : TS := fun D σ H => t { D with nx := u D } σ H
theorem pss_nil : PSs X [] tNext := fun _ _ σ H _ I h => wpAny_execs_nil ⟨σ, H, I, h⟩
theorem pss_cons (h1 : PS X st t) (h2 : PSs X rest u) : PSs X (st :: rest) (tSeq t u) := by
  intro pins s σ H D I h
  refine wpAny_execs_cons (thn (h1 pins s σ H { D with nx := u D } I h) fun f s1 q => ?_)
  cases f with
  | next =>
    obtain ⟨σ', H', I', q⟩ := q
    exact h2 pins s1 σ' H' D I' q
  | ret v => exact q
  | brk => exact q
  | cont => exact q
theorem pss_one (h1 : PS X st t) : PSs X [st] t := by
  intro pins s σ H D I h
  refine wpAny_execs_cons (thn (h1 pins s σ H D I h) fun f s1 q => ?_)
  cases f with
  | next => exact wpAny_execs_nil q
  | ret v => exact q
  | brk => exact q
  | cont => exact q
def tBreak : TS := fun D σ H => D.bk σ H
def tCont : TS := fun D σ H => D.ct σ H
theorem ps_pass : PS X (.Pass pos) tNext := fun _ _ σ H _ I h => wpAny_Pass ⟨σ, H, I, h⟩
theorem ps_break : PS X (.Break pos) tBreak := fun _ _ σ H _ I h => wpAny_Break ⟨σ, H, I, h⟩
theorem ps_continue : PS X (.Continue pos) tCont := fun _ _ σ H _ I h => wpAny_Continue ⟨σ, H, I, h⟩
theorem Inv.quiet {pins : List (Addr × Obj)} {σ : St} {H : Hp} {s : Shared} (I : Inv X pins σ H s) : interactive X.env = false := by simp [interactive, I.ok.kind]
def tDrop (te : TE) : TS := fun D σ H => te σ H fun _ H1 => D.nx σ H1
theorem ps_expr (he : PE X e te) (hs : swapsWith e none pos.line X.env = pure false := by rfl) : PS X (.Expr e pos) (tDrop te) := by
  intro pins s σ H D I h
  exact wpAny_Expr_any (thn (he pins s σ H _ I h) fun v s1 ⟨x, H1, I1, r1, q1⟩ => ⟨σ, H1, I1, q1⟩) I.quiet hs
def tRet (te : TE) : TS := fun D σ H => te σ H D.rt
theorem ps_ret (he : PE X e te) : PS X (.Return (some e) pos) (tRet te) := by
  intro pins s σ H D I h
  exact wpAny_Return_some (thn (he pins s σ H _ I h) fun v s1 ⟨x, H1, I1, r1, q1⟩ => ⟨x, σ, H1, I1, r1, q1⟩)
def tRetN : TS := fun D _ H => D.rt .non H
theorem ps_retN : PS X (.Return none pos) tRetN := fun _ _ σ H _ I h => wpAny_Return_none ⟨.non, σ, H, I, rfl, h⟩
def tIfS (c : TT) (t u : TS) : TS := fun D σ H => c σ H fun b H1 => if b = true then t D σ H1 else u D σ H1
theorem ps_if {c : Expr} {a b : List Stmt} {tc : TT} (hc : PT X c tc) (ha : PSs X a t) (hb : PSs X b u) : PS X (.If c a b pos) (tIfS tc t u) := by
  intro pins s σ H D I h
  refine wpAny_If (thn (hc pins s σ H _ I h) fun d s1 ⟨H1, I1, q1⟩ => ?_)
  cases d with
  | true => exact ha pins s1 σ H1 D I1 q1
  | false => exact hb pins s1 σ H1 D I1 q1
def tNever : TS := fun _ _ _ => False
theorem pss_never {sts : List Stmt} : PSs X sts tNever := fun _ _ _ _ _ _ h => h.elim
end
abbrev TG := V -> St -> Hp -> (St -> Hp -> Prop) -> Prop
abbrev TGs := List V -> St -> Hp -> (St -> Hp -> Prop) -> Prop
def PG (X : Cx) (target : Expr) (t : TG) : Prop :=
  ∀ (pins : List (Addr × Obj)) (s : Shared) (σ : St) (H : Hp) (v : V) (u : Value) (Q : St -> Hp -> Prop), Inv X pins σ H s -> RelV v u -> t v σ H Q ->
    wpAny (model X.prog X.w) X.A (assign target X.env u) (fun _ s' => ∃ σ' H', Inv X pins σ' H' s' /\ Q σ' H') X.xe s
def PGs (X : Cx) (ts : List Expr) (t : TGs) : Prop :=
  ∀ (pins : List (Addr × Obj)) (s : Shared) (σ : St) (H : Hp) (vs : List V) (us : List Value) (Q : St -> Hp -> Prop), Inv X pins σ H s -> Vals vs us -> t vs σ H Q ->
    wpAny (model X.prog X.w) X.A (assignInOrder ((assignEach ts X.env).map (·.2)) us) (fun _ s' => ∃ σ' H', Inv X pins σ' H' s' /\ Q σ' H') X.xe s
abbrev TSet := V -> V -> V -> Hp -> (Hp -> Prop) -> Prop
def PSet (X : Cx) (t : TSet) : Prop :=
  ∀ (pins : List (Addr × Obj)) (s : Shared) (σ : St) (H : Hp) (o i v : V) (ov iv u : Value) (Q : Hp -> Prop), Inv X pins σ H s -> RelV o ov -> RelV i iv -> RelV v u -> t o i v H Q ->
    wpAny (model X.prog X.w) X.A (setItem ov iv u) (fun _ s' => ∃ H', Inv X pins σ H' s' /\ Q H') X.xe s
abbrev TIp := V -> V -> Hp -> VK -> Prop
def PIp (X : Cx) (op : Operator) (t : TIp) : Prop :=
  ∀ (pins : List (Addr × Obj)) (s : Shared) (σ : St) (H : Hp) (x y : V) (v u : Value) (Q : VK), Inv X pins σ H s -> RelV x v -> RelV y u -> t x y H Q ->
    wpAny (model X.prog X.w) X.A (inplaceOp op v u) (EP X pins σ Q) X.xe s
section
variable {X : Cx} {pos : Pos}
def gName (i : Nat) : TG := fun v σ H Q => Q (σ.set i (some v)) H
theorem pg_name {i : Nat} {x : Str} (hN : X.N.Nodup) (hi : X.N[i]? = some x) (hx : Loc X.env.scope x) (hf : X.fn x = true \/ X.env.scope.names.lookup x = some .local := by first | exact .inl rfl | exact .inr rfl | assumption) : PG X (.Name x pos) (gName i) := by
  intro pins s σ H v u Q I r h
  exact wpAny_assign_Name (store_ok I hN hi hx r (fun s' I' => ⟨_, H, I', h⟩) hf)
def gNil : TGs := fun vs σ H Q => vs = [] /\ Q σ H
def gCons (t : TG) (u : TGs) : TGs := fun vs σ H Q => ∃ v r, vs = v :: r /\ t v σ H fun σ' H' => u r σ' H' Q
theorem pgs_nil : PGs X [] gNil := by
  intro pins s σ H vs us Q I r h
  obtain ⟨e, h⟩ := h
  subst e
  cases r
  exact assignInOrder_nil ⟨σ, H, I, h⟩
theorem pgs_cons {e : Expr} {es : List Expr} {t : TG} {u : TGs} (h1 : PG X e t) (h2 : PGs X es u)
    (hs : (assignEach (e :: es) X.env).map (·.2) = assign e X.env :: (assignEach es X.env).map (·.2) := by rfl) : PGs X (e :: es) (gCons t u) := by
  intro pins s σ H vs us Q I r h
  obtain ⟨v, vr, e1, h⟩ := h
  subst e1
  cases r with
  | cons r rr =>
    rw [hs]
    refine assignInOrder_cons (thn (h1 pins s σ H _ _ _ I r h) fun _ s1 ⟨σ1, H1, I1, q1⟩ => ?_)
    exact h2 pins s1 σ1 H1 _ _ Q I1 rr q1
def gTup (K : PySem.W.Frag) (n : Nat) (t : TGs) : TG := fun v σ H Q => ∃ a xs, v = .ref a /\ SqT K H a xs /\ xs.length = n /\ t xs σ H Q
theorem pg_tup {es : List Expr} {k : Nat} {t : TGs} {n : Nat} (hc : X.calm = true) (h : PGs X es t)
    (hn : (assignEach es X.env).length = n := by rfl) (hst : (assignEach es X.env).findIdx? (·.1) = none := by rfl) : PG X (.Tuple es k pos) (gTup X.K n t) := by
  intro pins s σ H v u Q I r hw
  obtain ⟨a, xs, e1, hq, hl, hw⟩ := hw
  subst e1
  cases r
  obtain ⟨its, rv, ht, hz⟩ := I.tuple hq
  refine assign_Tuple_tuple (I.ok.hd hc) ht (by simp [hn, <- hl, rv.length]) hst fun h' hx => ?_
  have I1 : Inv X pins σ H { s with heap := h' } := I.kept (t' := s.toks) fun b o e => hx b o (Nat.ne_of_lt (Heap.lt_size e)) e
  exact h pins _ σ H xs _ Q I1 (by simpa using rv) hw
def gSub (to ti : TE) (t : TSet) : TG := fun v σ H Q => to σ H fun o H1 => ti σ H1 fun i H2 => t o i v H2 fun H3 => Q σ H3
theorem pg_sub {o i : Expr} {to ti : TE} {t : TSet} (ho : PE X o to) (hi : PE X i ti) (hs : PSet X t)
    (ha : ∀ v, assign (.Subscript o i pos) X.env v = (do
      let ov <- holding [v] (eval o X.env)
      let iv <- holding [v, ov] (eval i X.env)
      standAt pos
      holding [v, ov, iv] (setItem ov iv v)
      release [v, ov, iv] []) := by intro _; rfl) : PG X (.Subscript o i pos) (gSub to ti t) := by
  intro pins s σ H v u Q I r h
  rw [ha]
  refine wpAny_bind (wpAny_holding (thn (ho pins s σ H _ I h) fun ov s1 ⟨x, H1, I1, r1, q1⟩ => ?_))
  refine wpAny_bind (wpAny_holding (thn (hi pins s1 σ H1 _ I1 q1) fun iv s2 ⟨y, H2, I2, r2, q2⟩ => ?_))
  refine wpAny_bind (wpAny_standAt (wpAny_bind (wpAny_holding (thn (hs pins s2 σ H2 x y v ov iv u _ I2 r1 r2 r q2) fun _ s3 ⟨H3, I3, q3⟩ => ?_))))
  exact wpAny_release ⟨σ, H3, I3, q3⟩
def tAsg (te : TE) (g : TG) : TS := fun D σ H => te σ H fun x H1 => g x σ H1 D.nx
theorem ps_asg {tg e : Expr} {te : TE} {g : TG} (he : PE X e te) (hg : PG X tg g) (hs : swapsWithSole [tg] e pos.line X.env = pure false := by rfl) (hw : swappedStores [tg] e X.env = pure none := by rfl)
    (h1 : (assignEach [tg] X.env).map (·.2) = [assign tg X.env] := by rfl) : PS X (.Assign [tg] e pos) (tAsg te g) := by
  intro pins s σ H D I h
  refine wpAny_Assign_stores (thn (he pins s σ H _ I h) fun v s1 ⟨x, H1, I1, r1, q1⟩ => ?_) hs hw
  rw [h1]
  exact thn (hg pins s1 σ H1 x v _ I1 r1 q1) fun _ s2 q => q
theorem ps_set {i : Nat} {x : Str} {e : Expr} {te : TE} {pos' : Pos} (hN : X.N.Nodup) (hi : X.N[i]? = some x) (hx : Loc X.env.scope x) (he : PE X e te) (hs : swapsWith e (some (.Name x pos')) pos.line X.env = pure false := by rfl) (hf : X.fn x = true \/ X.env.scope.names.lookup x = some .local := by first | exact .inl rfl | exact .inr rfl | assumption) :
    PS X (.Assign [.Name x pos'] e pos) (tAsg te (gName i)) := by
  intro pins s σ H D I h
  refine wpAny_Assign_Name (thn (he pins s σ H _ I h) fun v s1 ⟨y, H1, I1, r1, q1⟩ => ?_) hs
  exact store_ok I1 hN hi hx r1 (fun s2 I2 => ⟨_, H1, I2, q1⟩) hf
def tPar (i j : Nat) (ta : TA) : TS := fun D σ H => ta σ H fun vs H1 => ∃ v w, vs = [v, w] /\ D.nx ((σ.set i (some v)).set j (some w)) H1
theorem ps_par {i j : Nat} {x y : Str} {a b : Expr} {ta : TA} {px py pt : Pos} {kt k2 pt2} (hc : X.calm = true) (hN : X.N.Nodup) (hi : X.N[i]? = some x) (hj : X.N[j]? = some y) (hij : i ≠ j)
    (hx : X.env.scope.names.lookup x = some .local) (hy : X.env.scope.names.lookup y = some .local) (ha : PA X [a, b] ta)
    (hw : swappedStores [.Tuple [.Name x px, .Name y py] kt pt] (.Tuple [a, b] k2 pt2) X.env = pure (some [x, y]))
    (hs : swapsWithSole [.Tuple [.Name x px, .Name y py] kt pt] (.Tuple [a, b] k2 pt2) pos.line X.env = pure false := by rfl) :
    PS X (.Assign [.Tuple [.Name x px, .Name y py] kt pt] (.Tuple [a, b] k2 pt2) pos) (tPar i j ta) := by
  intro pins s σ H D I h
  rw [exec_Assign_arm]
  refine wpAny_bind (wpAny_standAt ?_)
  rw [hs]
  refine wpAny_bind (wpAny_pure ?_)
  rw [if_neg (by decide)]
  refine wpAny_bind (Tuple_ (thn (ha _ pins s σ H _ I h) fun us s1 ⟨vs, H1, I1, r1, q1⟩ => ?_))
  obtain ⟨v, w, e1, q1⟩ := q1
  subst e1
  obtain ⟨u1, u2, rfl, rv, rw'⟩ : ∃ u1 u2, us = [u1, u2] /\ RelV v u1 /\ RelV w u2 := by
    cases r1 with
    | cons p q =>
      cases q with
      | cons p' q' =>
        cases q'
        exact ⟨_, _, rfl, p, p'⟩
  refine wpAny_newObj_type ?_ (by show 2 <= sizeLine; decide)
  have I2 : Inv X pins σ H1 { s1 with heap := s1.heap.push { cls := .type "tuple", data := .seq [u1, u2].toArray } } := I1.kept (t' := s1.toks) fun b o e => Heap.get?_push_of_some _ e
  rw [hw]
  refine wpAny_bind (wpAny_pure ?_)
  show wpAny (model X.prog X.w) X.A (do rule "assign.swapped-stores"; let items <- unpackItems (.ref s1.heap.objs.size) 2 none; assignInOrder [fun v => bindName X.env y v, fun v => bindName X.env x v] items.reverse; pure Flow.next) _ _ _
  refine wpAny_bind (wpAny_rule (wpAny_bind (unpackItems_tuple (items := #[u1, u2]) (I.ok.hd hc) (IsTup.new s1.heap _) fun h' hx' => ?_)))
  have I3 := I2.kept (h' := h') (t' := s1.toks) fun b o e => hx' b o (Nat.ne_of_lt (Heap.lt_size e)) e
  show wpAny _ _ (assignInOrder [fun v => bindName X.env y v, fun v => bindName X.env x v] [u2, u1] >>= fun _ => pure Flow.next) _ _ _
  refine wpAny_bind (assignInOrder_cons (wpAny_bindName (store_ok I3 hN hj (.inl hy) rw' (fun s2 I4 => ?_) (.inr hy))))
  refine assignInOrder_cons (wpAny_bindName (store_ok I4 hN hi (.inl hx) rv (fun s3 I5 => assignInOrder_nil (wpAny_pure ?_)) (.inr hx)))
  rw [List.set_comm _ _ (Ne.symm hij)] at I5
  exact ⟨_, H1, I5, q1⟩
def tAug (i : Nat) (te : TE) (ti : TIp) : TS := fun D σ H => ∃ x, σ[i]? = some (some x) /\ te σ H fun y H1 => ti x y H1 fun z H2 => D.nx (σ.set i (some z)) H2
theorem ps_aug {i : Nat} {x : Str} {e : Expr} {te : TE} {op : Operator} {ti : TIp} {pos' : Pos} (hN : X.N.Nodup) (hi : X.N[i]? = some x) (hx : Loc X.env.scope x) (he : PE X e te) (ho : PIp X op ti) (hf : X.fn x = true \/ X.env.scope.names.lookup x = some .local := by first | exact .inl rfl | exact .inr rfl | assumption) :
    PS X (.AugAssign (.Name x pos') op e pos) (tAug i te ti) := by
  intro pins s σ H D I h
  obtain ⟨v, e1, h⟩ := h
  obtain ⟨m, hn, hl⟩ := I.loc
  have vis : Vis X.env.scope x := by rcases hx with k | k; exact .inl k; exact .inr (.inl k)
  obtain ⟨u, r, l⟩ := hl i x v hi e1 vis
  refine wpAny_AugAssign_Name ?_
  have go : wpAny (model X.prog X.w) X.A (eval e X.env) (fun w s₂ => wpAny (model X.prog X.w) X.A (inplaceOp op u w) (fun r s₃ => wpAny (model X.prog X.w) X.A (storeName X.env x r) (fun _ => SP X pins D .next) X.xe s₃) X.xe s₂) X.xe s := by
    refine thn (he pins s σ H _ I h) fun w s1 ⟨y, H1, I1, r1, q1⟩ => ?_
    refine thn (ho pins s1 σ H1 v y u w _ I1 r r1 q1) fun z s2 ⟨zv, H2, I2, r2, q2⟩ => ?_
    exact store_ok I2 hN hi hx r2 (fun s3 I3 => ⟨_, H2, I3, q2⟩) hf
  rcases l with ⟨hk, hm⟩ | ⟨hk, c, hc, hcell⟩
  . exact wpAny_loadName_local I.ok.kind hk hn hm go
  . rcases hk with hk | hk
    . exact wpAny_loadName_cell I.ok.kind hk hc hcell go
    . rcases hx with k | k
      . have : X.env.scope.names.lookup x = some .free := hk
        rw [k] at this; cases this
      . have : X.env.scope.names.lookup x = some .free := hk
        rw [k] at this; cases this
end
section
variable {X : Cx} {pos : Pos}
def tWhile (c : TT) (tb : TS) : TS := fun D σ H => ∃ W : Nat -> St -> Hp -> Prop, (∃ m, W m σ H) /\ ∀ m σ H, W m σ H ->
  c σ H fun b H1 => if b = true then ∃ N : St -> Hp -> Prop, (∀ σ' H', N σ' H' -> ∃ m', m' < m /\ W m' σ' H') /\ tb { D with nx := N, ct := N, bk := D.nx } σ H1 else D.nx σ H1
theorem ps_while {c : Expr} {body : List Stmt} {tc : TT} {tb : TS} (hp : PassesOwn (model X.prog X.w) X.A X.env X.xe) (hc : PT X c tc) (hb : PSs X body tb) : PS X (.While c body [] pos) (tWhile tc tb) := by
  intro pins s σ H D I h
  obtain ⟨W, ⟨m0, w0⟩, turn⟩ := h
  refine wpAny_While (codeAny_whileLoop (fun n s' => ∃ σ' H', Inv X pins σ' H' s' /\ W n σ' H') ?_ m0 ⟨σ, H, I, w0⟩)
  rintro n s1 ⟨σ1, H1, I1, w1⟩
  refine wpAny_passesOwn hp (thn (hc pins s1 σ1 H1 _ I1 (turn n σ1 H1 w1)) fun b s2 ⟨H2, I2, q2⟩ => ?_)
  cases b with
  | true =>
    obtain ⟨N, hN, q2⟩ := q2
    rw [if_pos rfl]
    refine wpAny_passesOwn hp (thn (hb pins s2 σ1 H2 _ I2 q2) fun f s3 q3 => ?_)
    cases f with
    | next =>
      obtain ⟨σ3, H3, I3, n3⟩ := q3
      obtain ⟨m', hm, w3⟩ := hN σ3 H3 n3
      exact ⟨m', hm, σ3, H3, I3, w3⟩
    | cont =>
      obtain ⟨σ3, H3, I3, n3⟩ := q3
      obtain ⟨m', hm, w3⟩ := hN σ3 H3 n3
      exact ⟨m', hm, σ3, H3, I3, w3⟩
    | brk => exact q3
    | ret v => exact q3
  | false =>
    rw [if_neg Bool.false_ne_true]
    exact wpAny_execs_nil ⟨σ1, H2, I2, q2⟩
end
structure It where
  go : Nat -> Hp -> Prop
  yld : Nat -> Hp -> V -> Hp -> Prop
  stop : Nat -> Hp -> Prop
def FpOk (X : Cx) (pins : List (Addr × Obj)) (H : Hp) (b : Addr) : Prop :=
  H b = none /\ b ≠ X.env.locals /\ b ∉ X.fs /\ (b ∈ X.ex \/ X.s₀.heap.objs.size <= b) /\ (∀ x c, X.env.cells.lookup x = some c -> c ≠ b) /\ ∀ p ∈ X.pn ++ pins, p.1 ≠ b
theorem Inv.fpOk {X : Cx} {pins : List (Addr × Obj)} {σ : St} {H H' : Hp} {s : Shared} {b : Addr} (I : Inv X pins σ H s) (hb : s.heap.objs.size <= b) (hn : H' b = none) : FpOk X pins H' b := by
  refine ⟨hn, Nat.ne_of_gt (Nat.lt_of_lt_of_le I.lt hb), I.nofs hb, .inr (Nat.le_trans I.sz hb), fun x c e z => ?_, fun p hp z => ?_⟩
  . obtain ⟨v, q⟩ := I.cell x c e
    exact absurd (Nat.lt_of_lt_of_le q.lt (by rw [z]; exact hb)) (Nat.lt_irrefl _)
  . exact absurd (Nat.lt_of_lt_of_le (Heap.lt_size (I.pin p hp).1) (by rw [z]; exact hb)) (Nat.lt_irrefl _)
structure Turn (P : Program) (w : World) (K : PySem.W.Frag) (tg : Expr) (J : It) (fp : List Addr) (it : Addr) (tn : Nat -> Heap -> Prop) : Prop where
  mem : it ∈ fp
  obj : ∀ i h, tn i h -> ∀ b ∈ fp, ∃ o, h.get? b = some o /\ ∀ v, o.data ≠ .cell v
  keep : ∀ i h h', tn i h -> (∀ b ∈ fp, ∀ o, h.get? b = some o -> h'.get? b = some o) -> tn i h'
  item : ∀ (X : Cx), X.prog = P -> X.w = w -> X.K = K -> X.calm = true -> ∀ (i : Nat) (pins : List (Addr × Obj)) (s : Shared) (σ : St) (H : Hp) (E : Value -> Shared -> Prop), Inv X pins σ H s -> (∀ b ∈ fp, FpOk X pins H b) -> tn i s.heap -> J.go i H ->
    wpAny (model P w) X.A (pyNext (.ref it)) (fun r s1 => ∃ u, r = some u /\
      wpAny (model P w) X.A (letOwnedTupleGo tg (.ref it) u) (fun _ s2 => ∃ x H', Inv X pins σ H' s2 /\ RelV x u /\ J.yld i H x H' /\ tn (i + 1) s2.heap /\ ∀ b ∈ fp, H' b = none) E s1) E s
  done : ∀ (X : Cx), X.prog = P -> X.w = w -> X.K = K -> X.calm = true -> ∀ (i : Nat) (pins : List (Addr × Obj)) (s : Shared) (σ : St) (H : Hp) (E : Value -> Shared -> Prop), Inv X pins σ H s -> (∀ b ∈ fp, FpOk X pins H b) -> tn i s.heap -> J.stop i H ->
    wpAny (model P w) X.A (pyNext (.ref it)) (fun r s1 => r = none /\ Inv X pins σ H s1) E s
  self : ∀ (A : Around) (i : Nat) (s : Shared) (Q : Value -> Shared -> Prop) (E : Value -> Shared -> Prop), tn i s.heap -> Q (.ref it) s -> wpAny (model P w) A (pyIter (.ref it)) Q E s
abbrev TI := St -> Hp -> (It -> Hp -> Prop) -> Prop
def PIE (X : Cx) (pins : List (Addr × Obj)) (σ : St) (tg : Expr) (R : It -> Hp -> Prop) (itv : Value) (s2 : Shared) : Prop :=
  ∃ (it : Addr) (fp : List Addr) (tn : Nat -> Heap -> Prop) (J : It) (H' : Hp), itv = .ref it /\ Inv X pins σ H' s2 /\ Turn X.prog X.w X.K tg J fp it tn /\ tn 0 s2.heap /\ (∀ b ∈ fp, FpOk X pins H' b) /\ R J H'
def PI (X : Cx) (tg iter : Expr) (wi : TI) : Prop :=
  ∀ (pins : List (Addr × Obj)) (s : Shared) (σ : St) (H : Hp) (R : It -> Hp -> Prop), Inv X pins σ H s -> wi σ H R ->
    wpAny (model X.prog X.w) X.A (eval iter X.env) (fun v s1 => wpAny (model X.prog X.w) X.A (pyIter v) (PIE X pins σ tg R) X.xe s1) X.xe s
theorem go_of {M : Model} {A : Around} {E : Value -> Shared -> Prop} {s : Shared} {tg : Expr} {it : Addr} {u : Value} {o : Obj} {n : String} {vs : Array Value} {Q : Unit -> Shared -> Prop} (ho : s.heap.get? it = some o) (hc : o.cls = .type n) (hd : o.data = .fields vs)
    (hn : ["enumerate", "zip", "dict_itemiterator", "dict_reverseitemiterator", "odict_iterator", "itertools.zip_longest", "itertools.pairwise"].contains n = false) (hQ : Q () s) : wpAny M A (letOwnedTupleGo tg (.ref it) u) Q E s := by
  unfold letOwnedTupleGo
  cases tg <;> first
    | exact wpAny_pure hQ
    | (cases u <;> first
        | exact wpAny_pure hQ
        | (refine wpAny_bind (wpAny_load ho ?_)
           rw [hc, hd]
           show wpAny M A (if (["enumerate", "zip", "dict_itemiterator", "dict_reverseitemiterator", "odict_iterator", "itertools.zip_longest", "itertools.pairwise"].contains n && vs[0]? == some (rawInt _)) = true then _ else _) Q E s
           rw [if_neg (by intro h; rw [hn, Bool.false_and] at h; cases h)]
           exact wpAny_pure hQ))
def Itl (K : PySem.W.Frag) (a : Addr) : It :=
  ⟨fun i H => ∃ xs x, SqL K H a xs /\ xs[i]? = some x, fun i H x H' => H' = H /\ ∀ xs, SqL K H a xs -> xs[i]? = some x, fun i H => ∃ xs, SqL K H a xs /\ xs.length <= i⟩
def Itt (K : PySem.W.Frag) (a : Addr) : It :=
  ⟨fun i H => ∃ xs x, SqT K H a xs /\ xs[i]? = some x, fun i H x H' => H' = H /\ ∀ xs, SqT K H a xs -> xs[i]? = some x, fun i H => ∃ xs, SqT K H a xs /\ xs.length <= i⟩
def Itr (lo : Int) (n : Nat) : It := ⟨fun i _ => i < n, fun i H x H' => H' = H /\ x = .int (lo + i), fun i _ => n <= i⟩
theorem turn_list {P : Program} {w : World} {K : PySem.W.Frag} {tg : Expr} (a it : Addr) : Turn P w K tg (Itl K a) [it] it (fun i h => h.IsListIter it a i) where
  mem := by simp
  obj := fun i h st b hb => by
    have e : b = it := by simpa using hb
    subst e
    obtain ⟨o, e, c, d⟩ := st
    exact ⟨o, e, fun v z => by rw [d] at z; cases z⟩
  keep := fun i h h' st k => st.at fun o e => k it (by simp) o e
  item := by
    intro X hP hw hK hc i pins s σ H E I hf st hg
    subst hP hw hK
    obtain ⟨xs, x, hq, hx⟩ := hg
    obtain ⟨its, rv, p, hz⟩ := I.list hq
    obtain ⟨u, hu, ru⟩ := rv.get hx
    obtain ⟨f0, f1, f2, f3, f4, f5⟩ := hf it (by simp)
    refine wpAny_pyNext_list_item st p.isList (x := u) (by simpa using hu) fun h' st' sb => ?_
    have I1 : Inv X pins σ H { s with heap := h' } := I.turned (t' := s.toks) (fun b o hb e => (sb.2 b hb).trans e) f0 f1 f3 f4 f5
    obtain ⟨o, e, c, d⟩ := id st'
    exact ⟨u, rfl, go_of (s := { s with heap := h' }) e c d (by decide) ⟨x, H, I1, ru, ⟨rfl, fun ys hy => by rw [I.list_inj hy hq]; exact hx⟩, st', fun b hb => (hf b hb).1⟩⟩
  done := by
    intro X hP hw hK hc i pins s σ H E I hf st hg
    subst hP hw hK
    obtain ⟨xs, hq, hx⟩ := hg
    obtain ⟨its, rv, p, hz⟩ := I.list hq
    obtain ⟨f0, f1, f2, f3, f4, f5⟩ := hf it (by simp)
    have hl := rv.length
    exact wpAny_pyNext_list_end (I.ok.hd hc) st p.isList (by simp; omega) fun h' eb => ⟨rfl, I.turned (t' := s.toks) (fun b o hb e => eb b o hb e) f0 f1 f3 f4 f5⟩
  self := fun _ _ _ _ _ st h => wpAny_pyIter_listiter st h
theorem turn_tuple {P : Program} {w : World} {K : PySem.W.Frag} {tg : Expr} (a it : Addr) : Turn P w K tg (Itt K a) [it] it (fun i h => h.IsTupleIter it a i) where
  mem := by simp
  obj := fun i h st b hb => by
    have e : b = it := by simpa using hb
    subst e
    obtain ⟨o, e, c, d⟩ := st
    exact ⟨o, e, fun v z => by rw [d] at z; cases z⟩
  keep := fun i h h' st k => st.at fun o e => k it (by simp) o e
  item := by
    intro X hP hw hK hc i pins s σ H E I hf st hg
    subst hP hw hK
    obtain ⟨xs, x, hq, hx⟩ := hg
    obtain ⟨its, rv, p, hz⟩ := I.tuple hq
    obtain ⟨u, hu, ru⟩ := rv.get hx
    obtain ⟨f0, f1, f2, f3, f4, f5⟩ := hf it (by simp)
    refine wpAny_pyNext_tuple_item st (show s.heap.IsTuple a its.toArray from p) (x := u) (by simpa using hu) fun h' st' sb => ?_
    have I1 : Inv X pins σ H { s with heap := h' } := I.turned (t' := s.toks) (fun b o hb e => (sb.2 b hb).trans e) f0 f1 f3 f4 f5
    obtain ⟨o, e, c, d⟩ := id st'
    exact ⟨u, rfl, go_of (s := { s with heap := h' }) e c d (by decide) ⟨x, H, I1, ru, ⟨rfl, fun ys hy => by rw [I.tuple_inj hy hq]; exact hx⟩, st', fun b hb => (hf b hb).1⟩⟩
  done := by
    intro X hP hw hK hc i pins s σ H E I hf st hg
    subst hP hw hK
    obtain ⟨xs, hq, hx⟩ := hg
    obtain ⟨its, rv, p, hz⟩ := I.tuple hq
    obtain ⟨f0, f1, f2, f3, f4, f5⟩ := hf it (by simp)
    have hl := rv.length
    exact wpAny_pyNext_tuple_end (I.ok.hd hc) st (show s.heap.IsTuple a its.toArray from p) (by simp; omega) fun h' eb => ⟨rfl, I.turned (t' := s.toks) (fun b o hb e => eb b o hb e) f0 f1 f3 f4 f5⟩
  self := fun _ _ _ _ _ st h => wpAny_pyIter_tupleiter st h
theorem turn_range {P : Program} {w : World} {K : PySem.W.Frag} {tg : Expr} (it : Addr) (lo : Int) (n : Nat) : Turn P w K tg (Itr lo n) [it] it (fun i h => IsRangeIter h it (lo + (i : Nat) * 1) ((n : Int) - (i : Nat)) 1) where
  mem := by simp
  obj := fun i h st b hb => by
    have e : b = it := by simpa using hb
    subst e
    exact ⟨_, st, fun v z => by
      have z' : Data.fields _ = Data.cell v := z
      cases z'⟩
  keep := fun i h h' st k => k it (by simp) _ st
  item := by
    intro X hP hw hK hc i pins s σ H E I hf st hg
    subst hP hw hK
    obtain ⟨f0, f1, f2, f3, f4, f5⟩ := hf it (by simp)
    have W := Walks.range (prog := X.prog) (w := X.w) (I.ok.hd hc) it lo 1 n
    refine W.item i s _ _ hg st fun v h' tk hv st' kk => ?_
    obtain ⟨t, rfl⟩ := hv
    have I1 : Inv X pins σ H { s with heap := h', toks := tk } := I.turned (fun b o hb e => kk b o (by simpa using hb) e) f0 f1 f3 f4 f5
    refine ⟨_, rfl, go_of (s := { s with heap := h', toks := tk }) (n := "range_iterator") st' rfl rfl (by decide) ⟨.int (lo + i), H, I1, ⟨t, ?_⟩, ⟨rfl, rfl⟩, st', fun b hb => (hf b hb).1⟩⟩
    rw [Int.mul_one]
  done := by
    intro X hP hw hK hc i pins s σ H E I hf st hg
    subst hP hw hK
    obtain ⟨f0, f1, f2, f3, f4, f5⟩ := hf it (by simp)
    exact wpAny_pyNext_range_end (I.ok.hd hc) st (by have : n <= i := hg; omega) fun h' eb => ⟨rfl, I.turned (t' := s.toks) (fun b o hb e => eb b o hb e) f0 f1 f3 f4 f5⟩
  self := fun _ _ _ _ _ st h => wpAny_pyIter_rangeiter st h
end L2
namespace L2
open PySem PySem.Spec PyProof.Rows
section
variable {X : Cx} {tg : Expr}
def iList (K : PySem.W.Frag) (tl : TE) : TI := fun σ H R => tl σ H fun x H1 => ∃ a, x = .ref a /\ (∃ xs, SqL K H1 a xs) /\ R (Itl K a) H1
def iTup (K : PySem.W.Frag) (tl : TE) : TI := fun σ H R => tl σ H fun x H1 => ∃ a, x = .ref a /\ (∃ xs, SqT K H1 a xs) /\ R (Itt K a) H1
theorem pi_list {l : Expr} {tl : TE} (hl : PE X l tl) : PI X tg l (iList X.K tl) := by
  intro pins s σ H R I h
  refine thn (hl pins s σ H _ I h) fun v s1 ⟨x, H1, I1, r1, q1⟩ => ?_
  obtain ⟨a, e, ⟨xs, hq⟩, q⟩ := q1
  subst e
  cases r1
  obtain ⟨its, rv, p, hz⟩ := I1.list hq
  refine wpAny_pyIter_list p.isList ?_
  refine ⟨s1.heap.objs.size, [s1.heap.objs.size], _, _, H1, rfl, I1.kept (t' := s1.toks) fun b o e => Heap.get?_push_of_some _ e, turn_list a _, ⟨_, Heap.get?_push_size _ rfl, rfl, rfl⟩, fun b hb => ?_, q⟩
  have e : b = s1.heap.objs.size := by simpa using hb
  subst e
  exact I1.fpOk (Nat.le_refl _) (I1.hok.fresh (Nat.le_refl _))
theorem pi_tup {l : Expr} {tl : TE} (hl : PE X l tl) : PI X tg l (iTup X.K tl) := by
  intro pins s σ H R I h
  refine thn (hl pins s σ H _ I h) fun v s1 ⟨x, H1, I1, r1, q1⟩ => ?_
  obtain ⟨a, e, ⟨xs, hq⟩, q⟩ := q1
  subst e
  cases r1
  obtain ⟨its, rv, p, hz⟩ := I1.tuple hq
  refine wpAny_pyIter_tuple (show s1.heap.IsTuple a its.toArray from p) ?_
  refine ⟨s1.heap.objs.size, [s1.heap.objs.size], _, _, H1, rfl, I1.kept (t' := s1.toks) fun b o e => Heap.get?_push_of_some _ e, turn_tuple a _, ⟨_, Heap.get?_push_size _ rfl, rfl, rfl⟩, fun b hb => ?_, q⟩
  have e : b = s1.heap.objs.size := by simpa using hb
  subst e
  exact I1.fpOk (Nat.le_refl _) (I1.hok.fresh (Nat.le_refl _))
theorem range_it {pins : List (Addr × Obj)} {σ : St} {H : Hp} {s : Shared} {R : It -> Hp -> Prop} {E : Value -> Shared -> Prop} {lo hi : Int} {t u v : Tok} {tk : Nat} (I : Inv X pins σ H s) (h1 : -(2 ^ 62) <= lo) (h2 : lo < 2 ^ 62) (h3 : -(2 ^ 62) <= hi) (h4 : hi < 2 ^ 62)
    (q : R (Itr lo (hi - lo).toNat) H) : wpAny (model X.prog X.w) X.A (pyIter (.ref s.heap.objs.size)) (PIE X pins σ tg R) E { s with heap := s.heap.push { cls := .type "range", data := .fields #[.int lo t, .int hi u, .int 1 v] }, toks := tk } := by
  refine wpAny_pyIter_range (IsRange.new ..) (small_one h1 h2 h3 h4) ?_
  have I1 : Inv X pins σ H { s with heap := s.heap.push { cls := .type "range", data := .fields #[.int lo t, .int hi u, .int 1 v] }, toks := tk } := I.kept fun b o e => Heap.get?_push_of_some _ e
  refine ⟨(s.heap.push { cls := .type "range", data := .fields #[.int lo t, .int hi u, .int 1 v] }).objs.size, [(s.heap.push { cls := .type "range", data := .fields #[.int lo t, .int hi u, .int 1 v] }).objs.size], _, _, H, rfl,
    I1.kept (t' := tk) fun b o e => Heap.get?_push_of_some _ e, turn_range _ lo (hi - lo).toNat, ?_, fun b hb => ?_, q⟩
  . have e1 : lo + ((0 : Nat) : Int) * 1 = lo := by simp
    have e2 : (((hi - lo).toNat : Nat) : Int) - ((0 : Nat) : Int) = Builtin.Range.rangeSize lo hi 1 := by rw [rangeSize_one]; split <;> omega
    show IsRangeIter _ _ (lo + ((0 : Nat) : Int) * 1) ((((hi - lo).toNat : Nat) : Int) - ((0 : Nat) : Int)) 1
    rw [e1, e2]
    exact Heap.get?_push_size _ rfl
  . have e : b = (s.heap.push { cls := .type "range", data := .fields #[.int lo t, .int hi u, .int 1 v] }).objs.size := by simpa using hb
    subst e
    exact I1.fpOk (Nat.le_refl _) (I1.hok.fresh (Nat.le_refl _))
def iRng1 (ta : TA) : TI := fun σ H R => ta σ H fun vs H1 => ∃ j : Int, vs = [.int j] /\ -(2 ^ 62) <= j /\ j < 2 ^ 62 /\ R (Itr 0 j.toNat) H1
def iRng2 (ta : TA) : TI := fun σ H R => ta σ H fun vs H1 => ∃ i j : Int, vs = [.int i, .int j] /\ (-(2 ^ 62) <= i /\ i < 2 ^ 62 /\ -(2 ^ 62) <= j /\ j < 2 ^ 62) /\ R (Itr i (j - i).toNat) H1
theorem pi_range1 {a : Expr} {ta : TA} {p pos : Pos} (hg : Gl X "range") (hm : X.mg "range" = none) (ha : PA X [a] ta) (hs : starEach [a] X.env = [(false, eval a X.env)] := by rfl) : PI X tg (.Call (.Name "range" p) [a] [] pos) (iRng1 ta) := by
  intro pins s σ H R I h
  refine Call_ (ld_blt I hg hm boot_range (PyProof.Rows.callWith_type1 (thn (ha pos pins s σ H _ I h) fun us s1 ⟨vs, H1, I1, r1, q1⟩ => ?_) hs rfl))
  obtain ⟨j, e, q1, q2, q⟩ := q1
  subst e
  cases r1 with
  | cons r rr =>
    cases rr
    obtain ⟨t, rfl⟩ := r
    exact call_range_1 (range_it I1 (by omega) (by omega) q1 q2 (by simpa using q))
theorem pi_range2 {a b : Expr} {ta : TA} {p pos : Pos} (hg : Gl X "range") (hm : X.mg "range" = none) (ha : PA X [a, b] ta) (hs : starEach [a, b] X.env = [(false, eval a X.env), (false, eval b X.env)] := by rfl) (hs2 : starEach [b] X.env = [(false, eval b X.env)] := by rfl) :
    PI X tg (.Call (.Name "range" p) [a, b] [] pos) (iRng2 ta) := by
  intro pins s σ H R I h
  refine Call_ (ld_blt I hg hm boot_range (PyProof.Rows.callWith_type1 (thn (ha pos pins s σ H _ I h) fun us s1 ⟨vs, H1, I1, r1, q1⟩ => ?_) (by rw [hs, hs2]) (by rw [hs2]; rfl)))
  obtain ⟨i, j, e, ⟨q1, q2, q3, q4⟩, q⟩ := q1
  subst e
  cases r1 with
  | cons r rr =>
    cases rr with
    | cons r' rr =>
      cases rr
      obtain ⟨t, rfl⟩ := r
      obtain ⟨t', rfl⟩ := r'
      exact call_range_2 (range_it I1 q1 q2 q3 q4 q)
def tFor (wi : TI) (g : TG) (tb : TS) : TS := fun D σ H => wi σ H fun J H1 => ∃ W : Nat -> Nat -> St -> Hp -> Prop, (∃ m, W 0 m σ H1) /\ ∀ i m σ H, W i m σ H ->
  (J.stop i H /\ D.nx σ H) \/ (J.go i H /\ ∃ N : St -> Hp -> Prop, (∀ σ' H', N σ' H' -> ∃ m', m' < m /\ W (i + 1) m' σ' H') /\ ∀ x H', J.yld i H x H' -> g x σ H' fun σ2 H2 => tb { D with nx := N, ct := N, bk := D.nx } σ2 H2)
def pinsAt (fp : List Addr) (h : Heap) : List (Addr × Obj) := fp.filterMap fun b => (h.get? b).map fun o => (b, o)
theorem mem_pinsAt {fp : List Addr} {h : Heap} {b : Addr} {o : Obj} (hb : b ∈ fp) (e : h.get? b = some o) : (b, o) ∈ pinsAt fp h := List.mem_filterMap.mpr ⟨b, hb, by rw [e]; rfl⟩
theorem of_pinsAt {fp : List Addr} {h : Heap} {p : Addr × Obj} (hp : p ∈ pinsAt fp h) : p.1 ∈ fp /\ h.get? p.1 = some p.2 := by
  obtain ⟨b, hb, e⟩ := List.mem_filterMap.mp hp
  cases q : h.get? b with
  | none => rw [q] at e; cases e
  | some o =>
    rw [q] at e
    have e' : (b, o) = p := Option.some.inj e
    subst e'
    exact ⟨hb, q⟩
theorem Inv.pinned {pins : List (Addr × Obj)} {σ : St} {H : Hp} {s : Shared} {fp : List Addr} (I : Inv X pins σ H s) (hf : ∀ b ∈ fp, FpOk X pins H b) (ho : ∀ b ∈ fp, ∃ o, s.heap.get? b = some o /\ ∀ v, o.data ≠ .cell v) : Inv X (pins ++ pinsAt fp s.heap) σ H s :=
  I.pins_of fun p hp => (List.mem_append.mp hp).elim (fun z => I.pin p (List.mem_append_right _ z)) fun z => by
    obtain ⟨hb, e⟩ := of_pinsAt z
    obtain ⟨f0, f1, f2, _⟩ := hf p.1 hb
    obtain ⟨o, e', d⟩ := ho p.1 hb
    rw [e] at e'; cases e'
    exact ⟨e, f0, f1, f2, d⟩
theorem Inv.unpinned {pins pl : List (Addr × Obj)} {σ : St} {H : Hp} {s : Shared} (I : Inv X (pins ++ pl) σ H s) : Inv X pins σ H s := I.pins_of fun p hp => I.pin p (List.mem_append_right _ (List.mem_append_left _ hp))
theorem ps_for {iter : Expr} {body : List Stmt} {wi : TI} {g : TG} {tb : TS} {pos : Pos} (hp : PassesOwn (model X.prog X.w) X.A X.env X.xe) (hc : X.calm = true) (hi : PI X tg iter wi) (hg : PG X tg g) (hb : PSs X body tb)
    (hs : ∀ x, foldedSetIterable iter X.env x = pure x := by intro _; rfl) : PS X (.For tg iter body [] pos) (tFor wi g tb) := by
  intro pins s σ H D I h
  refine wpAny_For (thn (hi pins s σ H _ I h) fun v s1 h1 => thn h1 fun itv s2 h2 => ?_) hs
  obtain ⟨it, fp, tn, J, H2, e, I2, T, st2, f2, W, ⟨m0, w0⟩, turn⟩ := h2
  subst e
  have stat : ∀ {H' : Hp}, (∀ b ∈ fp, H' b = none) -> ∀ b ∈ fp, FpOk X pins H' b := fun hn b hb => ⟨hn b hb, (f2 b hb).2⟩
  refine codeAny_forLoop_any (fun n s' => ∃ i σ' H', Inv X pins σ' H' s' /\ tn i s'.heap /\ (∀ b ∈ fp, H' b = none) /\ W i n σ' H') ?_ m0 ⟨0, σ, H2, I2, st2, fun b hb => (f2 b hb).1, w0⟩
  rintro n s3 ⟨i, σ3, H3, I3, st3, fr3, w3⟩
  rcases turn i n σ3 H3 w3 with ⟨stop, qn⟩ | ⟨go, N, hN, step⟩
  . refine wpAny_passesOwn hp (thn (T.done X rfl rfl rfl hc i pins s3 σ3 H3 X.xe I3 (stat fr3) st3 stop) fun r s4 ⟨hr, I4⟩ => ?_)
    subst hr
    exact wpAny_execs_nil ⟨σ3, H3, I4, qn⟩
  . refine wpAny_passesOwn hp (thn (T.item X rfl rfl rfl hc i pins s3 σ3 H3 X.xe I3 (stat fr3) st3 go) fun r s4 ⟨u, hr, h4⟩ => ?_)
    subst hr
    refine wpAny_passesOwn hp (thn h4 fun _ s5 ⟨x, H5, I5, r5, y5, st5, fr5⟩ => ?_)
    have I5' := I5.pinned (stat fr5) (T.obj _ _ st5)
    refine wpAny_passesOwn hp (thn (hg _ s5 σ3 H5 x u _ I5' r5 (step x H5 y5)) fun _ s6 ⟨σ6, H6, I6, q6⟩ => ?_)
    refine wpAny_passesOwn hp (thn (hb _ s6 σ6 H6 _ I6 q6) fun f s7 q7 => ?_)
    have again : ∀ {σ7 : St} {H7 : Hp}, Inv X (pins ++ pinsAt fp s5.heap) σ7 H7 s7 -> N σ7 H7 -> ∃ m, m < n /\ ∃ i σ' H', Inv X pins σ' H' s7 /\ tn i s7.heap /\ (∀ b ∈ fp, H' b = none) /\ W i m σ' H' := fun {σ7 H7} I7 n7 => by
      obtain ⟨m', hm, w7⟩ := hN σ7 H7 n7
      refine ⟨m', hm, i + 1, σ7, H7, I7.unpinned, T.keep _ _ _ st5 fun b hb o e => (I7.pin (b, o) (List.mem_append_right _ (List.mem_append_right _ (mem_pinsAt hb e)))).1, fun b hb => ?_, w7⟩
      obtain ⟨o, e, d⟩ := T.obj _ _ st5 b hb
      exact (I7.pin (b, o) (List.mem_append_right _ (List.mem_append_right _ (mem_pinsAt hb e)))).2.1
    cases f with
    | next => obtain ⟨σ7, H7, I7, n7⟩ := q7; exact again I7 n7
    | cont => obtain ⟨σ7, H7, I7, n7⟩ := q7; exact again I7 n7
    | brk => obtain ⟨σ7, H7, I7, q7⟩ := q7; exact ⟨σ7, H7, I7.unpinned, q7⟩
    | ret v => obtain ⟨x7, σ7, H7, I7, r7, q7⟩ := q7; exact ⟨x7, σ7, H7, I7.unpinned, r7, q7⟩
end
end L2
namespace L2
open PySem PySem.Spec PyProof.Rows
abbrev R2 := V -> V -> Hp -> VK -> Prop
def OpR (X : Cx) (f : Value -> Value -> Sem Value) (r : R2) : Prop :=
  ∀ (pins : List (Addr × Obj)) (s : Shared) (σ : St) (H : Hp) (x y : V) (v u : Value) (Q : VK), Inv X pins σ H s -> RelV x v -> RelV y u -> r x y H Q ->
    wpAny (model X.prog X.w) X.A (f v u) (EP X pins σ Q) X.xe s
def UnR (X : Cx) (f : Value -> Sem Value) (r : V -> Hp -> VK -> Prop) : Prop :=
  ∀ (pins : List (Addr × Obj)) (s : Shared) (σ : St) (H : Hp) (x : V) (v : Value) (Q : VK), Inv X pins σ H s -> RelV x v -> r x H Q ->
    wpAny (model X.prog X.w) X.A (f v) (EP X pins σ Q) X.xe s
def CallR (X : Cx) (f : Value) (r : List V -> Hp -> VK -> Prop) : Prop :=
  ∀ (pins : List (Addr × Obj)) (s : Shared) (σ : St) (H : Hp) (xs : List V) (us : List Value) (Q : VK), Inv X pins σ H s -> Vals xs us -> r xs H Q ->
    wpAny (model X.prog X.w) X.A (call f us) (EP X pins σ Q) X.xe s
def tOp (r : R2) (ta tb : TE) : TE := fun σ H Q => ta σ H fun x H1 => tb σ H1 fun y H2 => r x y H2 Q
def tUn (r : V -> Hp -> VK -> Prop) (ta : TE) : TE := fun σ H Q => ta σ H fun x H1 => r x H1 Q
def rI (C : Int -> Int -> Prop) (g : Int -> Int -> V) : R2 := fun x y H Q => ∃ i j, x = .int i /\ y = .int j /\ C i j /\ Q (g i j) H
def rI0 (g : Int -> Int -> V) : R2 := fun x y H Q => ∃ i j, x = .int i /\ y = .int j /\ Q (g i j) H
def rU (g : Int -> V) : V -> Hp -> VK -> Prop := fun x H Q => ∃ i, x = .int i /\ Q (g i) H
section
variable {X : Cx} {a b c : Expr} {ta tb tc : TE} {pos : Pos}
theorem binT (ha : PE X a ta) (hb : PE X b tb) {pins : List (Addr × Obj)} {s : Shared} {σ : St} {H : Hp} {R : V -> V -> Hp -> Prop} (I : Inv X pins σ H s)
    (h : ta σ H fun x H1 => tb σ H1 fun y H2 => R x y H2) {Q : Value -> Shared -> Prop} {f : Value -> Value -> Sem Value}
    (hf : ∀ v u s2 x y H2, Inv X pins σ H2 s2 -> RelV x v -> RelV y u -> R x y H2 -> wpAny (model X.prog X.w) X.A (f v u) Q X.xe s2) :
    wpAny (model X.prog X.w) X.A (eval a X.env) (fun v s₁ => wpAny (model X.prog X.w) X.A (eval b X.env) (fun u s₂ => wpAny (model X.prog X.w) X.A (f v u) Q X.xe s₂) X.xe s₁) X.xe s := by
  refine thn (ha pins s σ H _ I h) fun v s1 ⟨x, H1, I1, r1, q1⟩ => ?_
  refine thn (hb pins s1 σ H1 _ I1 q1) fun u s2 ⟨y, H2, I2, r2, q2⟩ => ?_
  exact hf v u s2 x y H2 I2 r1 r2 q2
theorem pe_op {op : Operator} {r : R2} (ho : OpR X (binaryOp op) r) (ha : PE X a ta) (hb : PE X b tb) : PE X (.BinOp a op b pos) (tOp r ta tb) := by
  intro pins s σ H Q I h
  exact wpAny_BinOp (binT ha hb I h fun v u s2 x y H2 I2 rx ry q => ho pins s2 σ H2 x y v u Q I2 rx ry q)
theorem pe_un {op : UnaryOp} {r : V -> Hp -> VK -> Prop} (ho : UnR X (unaryOp op) r) (ha : PE X a ta) : PE X (.UnaryOp op a pos) (tUn r ta) := by
  intro pins s σ H Q I h
  exact UnaryOp_ (thn (ha pins s σ H _ I h) fun v s1 ⟨x, H1, I1, r1, q1⟩ => ho pins s1 σ H1 x v Q I1 r1 q1)
theorem opI {f : Value -> Value -> Sem Value} {C : Int -> Int -> Prop} {g : Int -> Int -> Int}
    (rule : ∀ (i j : Int) (t u : Tok) (s : Shared) (Q : Value -> Shared -> Prop) (E : Value -> Shared -> Prop), C i j -> Q (.int (g i j) s.toks) { s with toks := s.toks + 1 } -> wpAny (model X.prog X.w) X.A (f (.int i t) (.int j u)) Q E s) :
    OpR X f (rI C fun i j => .int (g i j)) := by
  intro pins s σ H x y v u Q I rx ry h
  obtain ⟨i, j, rfl, rfl, hc, q⟩ := h
  obtain ⟨t, rfl⟩ := rx
  obtain ⟨t', rfl⟩ := ry
  exact rule i j t t' s _ _ hc ⟨.int (g i j), H, I.tok _, ⟨_, rfl⟩, q⟩
theorem opI0 {f : Value -> Value -> Sem Value} {g : Int -> Int -> Int}
    (rule : ∀ (i j : Int) (t u : Tok) (s : Shared) (Q : Value -> Shared -> Prop) (E : Value -> Shared -> Prop), Q (.int (g i j) s.toks) { s with toks := s.toks + 1 } -> wpAny (model X.prog X.w) X.A (f (.int i t) (.int j u)) Q E s) :
    OpR X f (rI0 fun i j => .int (g i j)) := by
  intro pins s σ H x y v u Q I rx ry h
  obtain ⟨i, j, rfl, rfl, q⟩ := h
  obtain ⟨t, rfl⟩ := rx
  obtain ⟨t', rfl⟩ := ry
  exact rule i j t t' s _ _ ⟨.int (g i j), H, I.tok _, ⟨_, rfl⟩, q⟩
theorem opB0 {f : Value -> Value -> Sem Value} {g : Int -> Int -> Bool}
    (rule : ∀ (i j : Int) (t u : Tok) (s : Shared) (Q : Value -> Shared -> Prop) (E : Value -> Shared -> Prop), Q (.bool (g i j)) s -> wpAny (model X.prog X.w) X.A (f (.int i t) (.int j u)) Q E s) :
    OpR X f (rI0 fun i j => .bl (g i j)) := by
  intro pins s σ H x y v u Q I rx ry h
  obtain ⟨i, j, rfl, rfl, q⟩ := h
  obtain ⟨t, rfl⟩ := rx
  obtain ⟨t', rfl⟩ := ry
  exact rule i j t t' s _ _ ⟨.bl (g i j), H, I, rfl, q⟩
def CPow (i j : Int) : Prop := 0 <= j /\ j <= 1000000 /\ i.natAbs < 2 ^ 64
theorem two_pow_nn (k : Nat) : (0 : Int) <= 2 ^ k := by
  rw [two_pow_cast]
  exact Int.natCast_nonneg _
theorem op_add : OpR X (binaryOp .Add) (rI0 fun i j => .int (i + j)) := opI0 fun _ _ _ _ _ _ _ q => add_int q
theorem op_sub : OpR X (binaryOp .Sub) (rI0 fun i j => .int (i - j)) := opI0 fun _ _ _ _ _ _ _ q => sub_int q
theorem op_modN : OpR X (binaryOp .Mod) (rI (fun _ j => j ≠ 0) fun i j => .int (i.fmod j)) := opI fun _ _ _ _ _ _ _ hc q => mod_int' hc q
theorem op_pow : OpR X (binaryOp .Pow) (rI CPow fun i j => .int (i ^ j.toNat)) := opI fun _ _ _ _ _ _ _ hc q => pow_int_small hc.1 hc.2.1 hc.2.2 q
theorem op_shr : OpR X (binaryOp .RShift) (rI (fun _ j => 0 <= j) fun i j => .int (i / 2 ^ j.toNat)) := opI fun i j _ _ _ _ _ hc q =>
  rshift_int hc (by rw [Int.fdiv_eq_ediv_of_nonneg i (two_pow_nn _)]; exact q)
theorem op_and : OpR X (binaryOp .BitAnd) (rI0 fun i j => .int (Builtin.bitAnd i j)) := opI0 fun _ _ _ _ _ _ _ q => and_int q
theorem op_xor : OpR X (binaryOp .BitXor) (rI0 fun i j => .int (Builtin.bitXor i j)) := opI0 fun _ _ _ _ _ _ _ q => xor_int q
theorem iop_add : OpR X (inplaceOp .Add) (rI0 fun i j => .int (i + j)) := opI0 fun _ _ _ _ _ _ _ q => iadd_int q
theorem iop_sub : OpR X (inplaceOp .Sub) (rI0 fun i j => .int (i - j)) := opI0 fun _ _ _ _ _ _ _ q => isub_int q
theorem unI {f : Value -> Sem Value} {g : Int -> Int}
    (rule : ∀ (i : Int) (t : Tok) (s : Shared) (Q : Value -> Shared -> Prop) (E : Value -> Shared -> Prop), Q (.int (g i) s.toks) { s with toks := s.toks + 1 } -> wpAny (model X.prog X.w) X.A (f (.int i t)) Q E s) :
    UnR X f (rU fun i => .int (g i)) := by
  intro pins s σ H x v Q I rx h
  obtain ⟨i, rfl, q⟩ := h
  obtain ⟨t, rfl⟩ := rx
  exact rule i t s _ _ ⟨.int (g i), H, I.tok _, ⟨_, rfl⟩, q⟩
theorem un_neg : UnR X (unaryOp .USub) (rU fun i => .int (-i)) := unI fun _ _ _ _ _ q => neg_int q
end
section
variable {X : Cx} {a b c : Expr} {ta tb tc : TE} {pos : Pos}
theorem fin_bl {pins : List (Addr × Obj)} {σ : St} {H : Hp} {s : Shared} {Q : VK} {k k' : Bool} (I : Inv X pins σ H s) (q : Q (.bl k) H) (e : k = k') : EP X pins σ Q (.bool k') s := by
  subst e
  exact ⟨.bl k, H, I, rfl, q⟩
theorem op_lt : OpR X (compareOp .Lt) (rI0 fun i j => .bl (decide (i < j))) := opB0 fun _ _ _ _ _ _ _ q => lt_int q
theorem op_le : OpR X (compareOp .LtE) (rI0 fun i j => .bl (decide (i <= j))) := opB0 fun _ _ _ _ _ _ _ q => le_int q
theorem op_gt : OpR X (compareOp .Gt) (rI0 fun i j => .bl (decide (j < i))) := opB0 fun _ _ _ _ _ _ _ q => gt_int q
theorem op_ge : OpR X (compareOp .GtE) (rI0 fun i j => .bl (decide (j <= i))) := opB0 fun _ _ _ _ _ _ _ q => ge_int q
theorem op_isN : OpR X (compareOp .Is) (fun x y H Q => y = .non /\ Q (.bl (decide (x = .non))) H) := by
  intro pins s σ H x y v u Q I rx ry h
  obtain ⟨rfl, q⟩ := h
  cases ry
  refine is_none_gen (fin_bl I q ?_)
  cases x <;> first
    | (cases rx; rfl)
    | (obtain ⟨t, rfl⟩ := rx; rfl)
theorem op_notN : OpR X (compareOp .IsNot) (fun x y H Q => y = .non /\ Q (.bl (!decide (x = .non))) H) := by
  intro pins s σ H x y v u Q I rx ry h
  obtain ⟨rfl, q⟩ := h
  cases ry
  refine isnot_none_gen (fin_bl I q ?_)
  cases x <;> first
    | (cases rx; rfl)
    | (obtain ⟨t, rfl⟩ := rx; rfl)
def tTest (t : TE) : TT := fun σ H Q => t σ H fun x H' => ∃ k, x = .bl k /\ Q k H'
def tChain (r r' : R2) (ta tb tc : TE) : TE := fun σ H Q => ta σ H fun x H1 => tb σ H1 fun y H2 => r x y H2 fun z H3 => ∃ k, z = .bl k /\
  (if k = true then tc σ H3 fun w' H4 => r' y w' H4 Q else Q (.bl false) H3)
theorem pe_chain {op op' : CmpOp} {r r' : R2} (ho : OpR X (compareOp op) r) (ho' : OpR X (compareOp op') r') (ha : PE X a ta) (hb : PE X b tb) (hc : PE X c tc)
    (hm : lastMarks [op, op'] [b, c] = false := by with_unfolding_all rfl) : PE X (.Compare a [op, op'] [b, c] pos) (tChain r r' ta tb tc) := by
  intro pins s σ H Q I h
  refine Compare_chain (thn (ha pins s σ H _ I h) fun v s1 ⟨x, H1, I1, r1, q1⟩ => chain_link (thn (hb pins s1 σ H1 _ I1 q1) fun u s2 ⟨y, H2, I2, r2, q2⟩ =>
    thn (ho pins s2 σ H2 x y v u _ I2 r1 r2 q2) fun d s3 ⟨z, H3, I3, r3, k, e, q3⟩ => ?_)) hm
  subst e
  cases r3
  refine wpAny_truthy_bool ?_
  cases k with
  | false => exact ite_ff ⟨.bl false, H3, I3, rfl, q3⟩
  | true => exact ite_tt (chain_last (thn (hc pins s3 σ H3 _ I3 q3) fun w' s4 ⟨z', H4, I4, r4, q4⟩ => ho' pins s4 σ H4 y z' u w' Q I4 r2 r4 q4))
theorem pt_chain {op op' : CmpOp} {r r' : R2} (ho : OpR X (compareOp op) r) (ho' : OpR X (compareOp op') r') (ha : PE X a ta) (hb : PE X b tb) (hc : PE X c tc)
    (hm : lastMarks [op, op'] [b, c] = false := by with_unfolding_all rfl) : PT X (.Compare a [op, op'] [b, c] pos) (tTest (tChain r r' ta tb tc)) := by
  intro pins s σ H Q I h
  refine isTrue_chain (thn (ha pins s σ H _ I h) fun v s1 ⟨x, H1, I1, r1, q1⟩ => test_link (thn (hb pins s1 σ H1 _ I1 q1) fun u s2 ⟨y, H2, I2, r2, q2⟩ =>
    thn (ho pins s2 σ H2 x y v u _ I2 r1 r2 q2) fun d s3 ⟨z, H3, I3, r3, k, e, q3⟩ => ?_)) hm
  subst e
  cases r3
  refine wpAny_truthy_bool ?_
  cases k with
  | false =>
    obtain ⟨k', e', q'⟩ := q3
    cases e'
    exact ite_ff ⟨H3, I3, q'⟩
  | true =>
    refine ite_tt (test_last (thn (hc pins s3 σ H3 _ I3 q3) fun w' s4 ⟨z', H4, I4, r4, q4⟩ => thn (ho' pins s4 σ H4 y z' u w' _ I4 r2 r4 q4) fun d' s5 ⟨z2, H5, I5, r5, k2, e2, q5⟩ => ?_))
    subst e2
    cases r5
    exact wpAny_truthy_bool ⟨H5, I5, q5⟩
theorem line63 : (sizeLine : Nat) < 2 ^ 63 := by rw [sizeLine_eq]; decide
theorem op_add_str : OpR X (binaryOp .Add) (fun x y H Q => ∃ i j, x = .str i /\ y = .str j /\ i.length + j.length <= sizeLine /\ Q (.str (i ++ j)) H) := by
  intro pins s σ H x y v u Q I rx ry h
  obtain ⟨i, j, rfl, rfl, hz, q⟩ := h
  obtain ⟨t, rfl⟩ := rx
  obtain ⟨t', rfl⟩ := ry
  exact add_str (fun t' tk => ⟨.str (i ++ j), H, I.tok _, ⟨_, rfl⟩, q⟩) hz
theorem vals1 {x : V} {us : List Value} (r : Vals [x] us) : ∃ u, us = [u] /\ RelV x u := by
  cases r with
  | cons r1 r2 => cases r2; exact ⟨_, rfl, r1⟩
theorem vals2 {x y : V} {us : List Value} (r : Vals [x, y] us) : ∃ u w', us = [u, w'] /\ RelV x u /\ RelV y w' := by
  cases r with
  | cons r1 r2 =>
    cases r2 with
    | cons r3 r4 => cases r4; exact ⟨_, _, rfl, r1, r3⟩
theorem call_abs : CallR X (.builtin "abs") (fun xs H Q => ∃ i, xs = [.int i] /\ Q (.int (if i < 0 then -i else i)) H) := by
  intro pins s σ H xs us Q I r h
  obtain ⟨i, rfl, q⟩ := h
  obtain ⟨u, rfl, t, rfl⟩ := vals1 r
  exact call_abs_int fun u tk => ⟨.int (if i < 0 then -i else i), H, I.tok _, ⟨_, rfl⟩, q⟩
end
end L2
namespace L2
open PySem PySem.Spec PyProof.Rows
structure ObjM (h : Heap) (x dx C : Addr) (mA : Str -> Option Value) : Prop where
  obj : h.get? x = some (PySem.W.instObj C dx)
  ns : h.Ns1 dx mA
  ne : dx ≠ x
theorem lookIn_ns {h : Heap} {dx : Addr} {mA : Str -> Option Value} (n : h.Ns1 dx mA) : ∃ od, h.get? dx = some od /\ ∀ name, PySem.W.lookIn name od = some (mA name) := by
  obtain ⟨o, es, ep, ho, hd, hk, _, hm⟩ := n
  refine ⟨o, ho, fun name => ?_⟩
  have e := hm name
  unfold nsFind findBy at e
  rw [<- Array.find?_toList] at e
  unfold PySem.W.lookIn
  rw [hd]
  dsimp only
  split
  . rename_i y q
    rw [q] at e
    exact congrArg some e
  . rename_i q
    rw [q] at e
    have a : es.toList.any (·.refKey) = false := by
      rw [List.any_eq_false]
      intro y hy
      obtain ⟨z, t, hkey⟩ := hk y (Array.mem_toList_iff.mp hy)
      simp [DictEntry.refKey, hkey]
    have a' : ¬ es.toList.any (·.refKey) = true := by rw [a]; exact Bool.false_ne_true
    rw [if_neg a']
    exact congrArg some e
theorem ObjM.look {h : Heap} {x dx C : Addr} {mA : Str -> Option Value} (I : ObjM h x dx C mA) : ∃ od, PySem.W.InstAt h x (PySem.W.instObj C dx) C (some od) /\ ∀ name, PySem.W.lookIn name od = some (mA name) :=
  let ⟨od, ho, hl⟩ := lookIn_ns I.ns
  ⟨od, ⟨I.obj, rfl, rfl, ho⟩, hl⟩
section
variable {prog : Program} {w : World} {A : Around} {E : Value -> Shared -> Prop} {s : Shared} {K : PySem.W.Frag} {x dx C f : Addr} {mA : Str -> Option Value} {name : Str} {v : Value}
theorem get_map {expr : Bool} {Q : Value -> Shared -> Prop} (X : K.In s.heap) (I : ObjM s.heap x dx C mA) (hg : PySem.W.plainGet K C name = true) (hh : PySem.W.hasDictIn K C = true)
    (ha : PySem.W.findIn K (.ref C) name = some none) (hv : mA name = some v) (hv' : PySem.W.handedIn v = true) (h : Q v { s with toks := s.toks + 1 }) :
    wpAny (model prog w) A (getAttr (.ref x) name expr) Q E s := by
  obtain ⟨od, J, hl⟩ := I.look
  exact PySem.W.get_value X J (PySem.W.plainGet_of hg).1 (PySem.W.findObj_own hh ha rfl (by rw [hl, hv])) hv' h
theorem get_meth {pl : Sem Bool} {Q : Value × List Value -> Shared -> Prop} (X : K.In s.heap) (I : ObjM s.heap x dx C mA) (hg : PySem.W.plainGet K C name = true)
    (hf : PySem.W.findIn K (.ref C) name = some (some (.ref f))) (ht : PySem.W.isFn K (.ref f) = true) (hv : mA name = none) (h : Q (.ref f, [.ref x]) s) :
    wpAny (model prog w) A (getMethod (.ref x) name pl) Q E s := by
  obtain ⟨od, J, hl⟩ := I.look
  exact PySem.W.method_fn X J (PySem.W.plainGet_of hg).1 (PySem.W.plainGet_of hg).2 hf (beq_iff_eq.mp ht) (by show (PySem.W.lookIn name od).map (·.isSome) = some false; rw [hl, hv]; rfl) h
theorem set_map {ns : List Str} {Q : Unit -> Shared -> Prop} (X : K.In s.heap) (I : ObjM s.heap x dx C mA)
    (hs : PySem.W.findIn K (.ref C) "__setattr__" = some (some (.builtin "object.__setattr__"))) (hp : PySem.W.plainOver K C = true) (ht : PySem.W.takerIn K C name = some none) (hh : PySem.W.hasDictIn K C = true)
    (hw : PySem.Within mA ns) (hsz : ns.length <= sizeLine)
    (h : ∀ h', ObjM h' x dx C (fun y => if y = name then some v else mA y) -> Heap.SameBut dx s.heap h' -> Q () { s with heap := h', toks := s.toks + 2 }) :
    wpAny (model prog w) A (setAttr (.ref x) name v) Q E s := by
  obtain ⟨od, J, hl⟩ := I.look
  refine PySem.W.set_plain X J hs (PySem.W.osa_open (s := { s with toks := s.toks + 1 }) (r := none) X J hp ht fun b => ?_)
  obtain ⟨cd, hc, hd'⟩ := PySem.W.any_some hh
  have hx : s.heap.get? x = some ⟨.ref C, some dx, .plain, #[]⟩ := I.obj
  refine wpAny_bind (wpAny_pure (wpAny_bind (wpAny_bind (wpAny_loadPart hx (wpAny_bind (PySem.W.Looks.here (s := { s with toks := s.toks + 1 }) (PySem.W.looks_clsIn X hc) ?_))))))
  rw [hd']
  refine wpAny_pure (a := some dx) (wpAny_bind (wpAny_pure (wpAny_bind ?_)))
  refine wpAny_nsSet1 (s := { s with toks := s.toks + 1 }) I.ns fun h' hn2 hs2 => ?_
  obtain ⟨oD, esD, epD, hoD, hdD, hcD⟩ := hn2.count (PySem.Within.cons name v hw)
  refine wpAny_bind (wpAny_lookBehind hoD (by rw [hdD]; exact pastItsLine_dict (Nat.le_trans hcD (by rw [List.length_cons]; omega))) ?_)
  exact wpAny_pure (h _ ⟨(hs2.2 _ (Ne.symm I.ne)).trans I.obj, hn2, I.ne⟩ hs2)
theorem make_map {R : Result -> Shared -> Prop} {vs : List Value} {kw : List (Str × Value)} (X : K.In s.heap) (hm : PySem.W.makesIn K C = true)
    (hi : PySem.W.findIn K (.ref C) "__init__" = some (some (.ref f))) (hf : PySem.W.typeIn K (.ref f) = some (.type "function"))
    (h : codeAny (model prog w) (A.under (.builtin "type.__call__" ⟨.ref C :: vs, kw⟩)) (.call (.ref f) ⟨.ref (s.heap.objs.size + 1) :: vs, kw⟩) (PySem.W.InitBack (s.heap.objs.size + 1) R)
      { s with heap := (s.heap.push PySem.W.emptyDict).push (PySem.W.instObj C s.heap.objs.size) }) :
    codeAny (model prog w) A (.call (.ref C) ⟨vs, kw⟩) R s := by
  obtain ⟨hh, g, d, t, os⟩ := s
  exact PySem.W.make_core (PySem.W.makes_of X hm) (PySem.W.looks_findIn X hi) (fun self => PySem.W.bind_fn X self hf) (.inl rfl) h
end
def putF (f : Str) (v : V) : List (Str × V) -> List (Str × V)
  | [] => [(f, v)]
  | (g, x) :: r => if g = f then (g, v) :: r else (g, x) :: putF f v r
theorem lookup_putF (f g : Str) (v : V) : ∀ fs : List (Str × V), (putF f v fs).lookup g = if g = f then some v else fs.lookup g
  | [] => by
    show List.lookup g [(f, v)] = _
    by_cases h : g = f
    . have hb : (g == f) = true := beq_iff_eq.mpr h
      simp only [List.lookup, hb, if_pos h]
    . have hb : (g == f) = false := beq_eq_false_iff_ne.mpr h
      simp only [List.lookup, hb, if_neg h]
  | (k, x) :: r => by
    have ih := lookup_putF f g v r
    rw [show putF f v ((k, x) :: r) = (if k = f then (k, v) :: r else (k, x) :: putF f v r) from rfl]
    by_cases hk : k = f
    . rw [if_pos hk]
      by_cases h : g = k
      . have hb : (g == k) = true := beq_iff_eq.mpr h
        simp only [List.lookup, hb, if_pos (h.trans hk)]
      . have hb : (g == k) = false := beq_eq_false_iff_ne.mpr h
        simp only [List.lookup, hb, if_neg (fun e : g = f => h (e.trans hk.symm))]
    . rw [if_neg hk]
      by_cases h : g = k
      . have hb : (g == k) = true := beq_iff_eq.mpr h
        simp only [List.lookup, hb, if_neg (fun e : g = f => hk (h.symm.trans e))]
      . have hb : (g == k) = false := beq_eq_false_iff_ne.mpr h
        simp only [List.lookup, hb]
        exact ih
theorem keys_putF (f : Str) (v : V) : ∀ fs : List (Str × V), f ∈ (putF f v fs).map (·.1) /\ ∀ g, g ∈ fs.map (·.1) -> g ∈ (putF f v fs).map (·.1)
  | [] => ⟨by simp [putF], fun g h => by simp at h⟩
  | (k, x) :: r => by
    obtain ⟨i1, i2⟩ := keys_putF f v r
    rw [show putF f v ((k, x) :: r) = (if k = f then (k, v) :: r else (k, x) :: putF f v r) from rfl]
    by_cases hk : k = f
    . rw [if_pos hk]
      subst hk
      exact ⟨by simp, fun g h => by simpa using h⟩
    . rw [if_neg hk]
      refine ⟨?_, fun g h => ?_⟩
      . rw [List.map_cons]
        exact List.mem_cons_of_mem _ i1
      . rw [List.map_cons] at h ⊢
        rcases List.mem_cons.mp h with e | e
        . exact List.mem_cons.mpr (.inl e)
        . exact List.mem_cons_of_mem _ (i2 g e)
theorem length_putF (f : Str) (v : V) : ∀ fs : List (Str × V), (putF f v fs).length <= fs.length + 1
  | [] => by simp [putF]
  | (k, x) :: r => by
    have ih := length_putF f v r
    rw [show putF f v ((k, x) :: r) = (if k = f then (k, v) :: r else (k, x) :: putF f v r) from rfl]
    by_cases hk : k = f
    . rw [if_pos hk, List.length_cons, List.length_cons]; omega
    . rw [if_neg hk, List.length_cons, List.length_cons]; omega
theorem RelO.some_of {v : V} {o : Option Value} (r : RelO (some v) o) : ∃ u, o = some u /\ RelV v u := by
  cases o with
  | none => exact (show False from r).elim
  | some u => exact ⟨u, rfl, r⟩
theorem RelO.none_of {o : Option Value} (r : RelO none o) : o = none := by
  cases o with
  | none => rfl
  | some u => exact (show False from r).elim
theorem handed_of {v : V} {u : Value} (r : RelV v u) : PySem.W.handedIn u = true := by
  cases v with
  | non => cases (show u = Value.none from r); rfl
  | bl b => cases (show u = Value.bool b from r); rfl
  | int i => obtain ⟨t, e⟩ := (show ∃ t, u = Value.int i t from r); cases e; rfl
  | str x => obtain ⟨t, e⟩ := (show ∃ t, u = Value.str x t from r); cases e; rfl
  | byt b => obtain ⟨t, e⟩ := (show ∃ t, u = Value.bytes b t from r); cases e; rfl
  | flt b => obtain ⟨t, e⟩ := (show ∃ t, u = Value.float b t from r); cases e; rfl
  | ref a => cases (show u = Value.ref a from r); rfl
  | ty n => cases (show u = Value.type n from r); rfl
section
variable {P : Program} {w : World} {H H' : Hp} {h h' : Heap} {a C dx : Addr} {fs fs' : List (Str × V)}
theorem ins_get (hok : HOk P w H h) (e : H a = some (.ins C dx fs)) : ∃ mA, ObjM h a dx C mA /\ (∀ f, RelO (fs.lookup f) (mA f)) /\ PySem.Within mA (fs.map (·.1)) /\ fs.length <= 1000 /\ H dx = some (.own a) := by
  obtain ⟨d, z, ne, ob, mA, n, r, q⟩ := (show ObjOk P w H h a (.ins C dx fs) from hok a _ e)
  exact ⟨mA, ⟨ob, n, ne⟩, r, q, z, d⟩
end
structure Cls (K : PySem.W.Frag) (C : Addr) : Prop where
  pg : PySem.W.plainGet K C Str.empty = true
  hd : PySem.W.hasDictIn K C = true
  po : PySem.W.plainOver K C = true
  sa : PySem.W.findIn K (.ref C) "__setattr__" = some (some (.builtin "object.__setattr__"))
theorem Cls.get {K : PySem.W.Frag} {C : Addr} (c : Cls K C) (f : Str) : PySem.W.plainGet K C f = true := c.pg
def NoAttr (K : PySem.W.Frag) (C : Addr) (f : Str) : Prop := PySem.W.findIn K (.ref C) f = some none
theorem NoAttr.taker {K : PySem.W.Frag} {C : Addr} {f : Str} (n : NoAttr K C f) : PySem.W.takerIn K C f = some none := by
  unfold PySem.W.takerIn
  rw [show PySem.W.findIn K (.ref C) f = some none from n]
  rfl
structure Meth (K : PySem.W.Frag) (C : Addr) (m : Str) (f : Addr) : Prop where
  at_ : PySem.W.findIn K (.ref C) m = some (some (.ref f))
  fn : PySem.W.isFn K (.ref f) = true
  kp : PySem.W.keepIn K (.ref f) = true
section
variable {X : Cx} {pins : List (Addr × Obj)} {σ : St} {H : Hp} {s : Shared} {a C dx : Addr} {fs : List (Str × V)} {f : Str} {v : V} {A : Around} {E : Value -> Shared -> Prop}
theorem getattr_ok {b : Bool} {Q : Value -> Shared -> Prop} (I : Inv X pins σ H s) (e : H a = some (.ins C dx fs)) (c : Cls X.K C) (n : NoAttr X.K C f) (l : fs.lookup f = some v)
    (h : ∀ u s', Inv X pins σ H s' -> RelV v u -> Q u s') : wpAny (model X.prog X.w) A (getAttr (.ref a) f b) Q E s := by
  obtain ⟨mA, O, r, _, _, _⟩ := ins_get I.hok e
  obtain ⟨u, hu, ru⟩ := RelO.some_of (v := v) (o := mA f) (by rw [<- l]; exact r f)
  exact get_map I.kIn O (c.get f) c.hd n hu (handed_of ru) (h u _ (I.tok _) ru)
theorem getmeth_ok {m : Str} {g : Addr} {pl : Sem Bool} {Q : Value × List Value -> Shared -> Prop} (I : Inv X pins σ H s) (e : H a = some (.ins C dx fs)) (c : Cls X.K C) (k : Meth X.K C m g) (l : fs.lookup m = none)
    (h : Q (.ref g, [.ref a]) s) : wpAny (model X.prog X.w) A (getMethod (.ref a) m pl) Q E s := by
  obtain ⟨mA, O, r, _, _, _⟩ := ins_get I.hok e
  have hn : mA m = none := RelO.none_of (by rw [<- l]; exact r m)
  exact get_meth I.kIn O (c.get m) k.at_ k.fn hn h
theorem setattr_ok {y : V} {u : Value} {Q : Unit -> Shared -> Prop} (I : Inv X pins σ H s) (e : H a = some (.ins C dx fs)) (c : Cls X.K C) (n : NoAttr X.K C f) (hl : fs.length < 1000) (ry : RelV y u)
    (h : ∀ s', Inv X pins σ (upd H a (.ins C dx (putF f y fs))) s' -> Q () s') : wpAny (model X.prog X.w) A (setAttr (.ref a) f u) Q E s := by
  obtain ⟨mA, O, r, wi, _, ho⟩ := ins_get I.hok e
  have hz : (fs.map (·.1)).length <= sizeLine := by rw [List.length_map, sizeLine_eq]; omega
  refine set_map I.kIn O c.sa c.po n.taker c.hd wi hz fun h' O' sb => h _ ?_
  have hd : ∃ o, h'.get? dx = some o := let ⟨o, _, _, e', _⟩ := O'.ns; ⟨o, e'⟩
  refine I.write (x := a) (e := dx) (by rw [e]; exact True.intro) (.inr ho) (fun b q hb z => (sb.2 b hb).trans z) hd ?_
  refine ⟨by rw [upd_ne O.ne]; exact ho, ?_, O.ne, O'.obj, _, O'.ns, fun g => ?_, fun g hg => ?_⟩
  . have := length_putF f y fs; omega
  . show RelO ((putF f y fs).lookup g) (if g = f then some u else mA g)
    rw [lookup_putF]
    by_cases q : g = f
    . rw [if_pos q, if_pos q]; exact ry
    . rw [if_neg q, if_neg q]; exact r g
  . by_cases q : g = f
    . rw [q]; exact (keys_putF f y fs).1
    . refine (keys_putF f y fs).2 g (wi g fun z => hg ?_)
      show (if g = f then some u else mA g) = none
      rw [if_neg q]; exact z
theorem Inv.made (I : Inv X pins σ H s) : Inv X pins σ (upd (upd H s.heap.objs.size (.own (s.heap.objs.size + 1))) (s.heap.objs.size + 1) (.ins C s.heap.objs.size []))
    { s with heap := (s.heap.push PySem.W.emptyDict).push (PySem.W.instObj C s.heap.objs.size) } := by
  have e1 : (s.heap.push PySem.W.emptyDict).get? s.heap.objs.size = some PySem.W.emptyDict := Heap.get?_push_size s.heap rfl
  have e2 : ((s.heap.push PySem.W.emptyDict).push (PySem.W.instObj C s.heap.objs.size)).get? (s.heap.objs.size + 1) = some (PySem.W.instObj C s.heap.objs.size) := by
    have := Heap.get?_push_size (s.heap.push PySem.W.emptyDict) (o := PySem.W.instObj C s.heap.objs.size) rfl
    rwa [Heap.size_push] at this
  have e3 : (s.heap.push PySem.W.emptyDict).Ns s.heap.objs.size (fun _ => none) := ⟨PySem.W.emptyDict, #[], _, e1, rfl, (fun e he => absurd he (by simp)), fun _ => rfl⟩
  have I1 := I.laid (a := s.heap.objs.size) (o := .own (s.heap.objs.size + 1)) (h' := s.heap.push PySem.W.emptyDict) (t' := s.toks) (fun b u q => Heap.get?_push_of_some _ q) (Nat.le_refl _) ⟨_, e1⟩
  refine I1.laid (a := s.heap.objs.size + 1) (o := .ins C s.heap.objs.size []) (t' := s.toks) (fun b u q => Heap.get?_push_of_some _ q) (Nat.le_of_eq (Heap.size_push _ _)) ?_
  have ne : s.heap.objs.size ≠ s.heap.objs.size + 1 := Nat.ne_of_lt (Nat.lt_succ_self _)
  refine ⟨by rw [upd_ne ne, upd_same], Nat.zero_le _, ne, e2, fun _ => none, (Heap.Ns1.of_empty e3).at fun o q => Heap.get?_push_of_some _ q, fun _ => True.intro, fun y hy => absurd rfl hy⟩
theorem attr_of {prog : Program} {w : World} {env : Env} {e : Expr} {f : Str} {pos : Pos} {s : Shared} {Q : Value -> Shared -> Prop} (hb : attributeBase e f env (eval e env) = eval e env)
    (h : wpAny (model prog w) A (eval e env) (fun o s₁ => wpAny (model prog w) A (getAttr o f true) Q E s₁) E s) : wpAny (model prog w) A (eval (.Attribute e f pos) env) Q E s :=
  Attribute_any_ h (by rw [arm_eval_Attribute, hb])
end
def tFld (K : PySem.W.Frag) (ta : TE) (f : Str) : TE := fun σ H Q => ta σ H fun x H1 => ∃ a C dx fs v, x = .ref a /\ H1 a = some (.ins C dx fs) /\ Cls K C /\ NoAttr K C f /\ fs.lookup f = some v /\ Q v H1
def sFld (K : PySem.W.Frag) (ta tv : TE) (f : Str) : TS := fun D σ H => tv σ H fun y H1 => ta σ H1 fun x H2 => ∃ a C dx fs, x = .ref a /\ H2 a = some (.ins C dx fs) /\ Cls K C /\ NoAttr K C f /\ fs.length < 1000 /\
  D.nx σ (upd H2 a (.ins C dx (putF f y fs)))
section
variable {X : Cx} {o e value : Expr} {f : Str} {pos pos' tpos : Pos} {ta tv : TE}
theorem pe_fld (he : PE X e ta) (hb : attributeBase e f X.env (eval e X.env) = eval e X.env) : PE X (.Attribute e f pos) (tFld X.K ta f) := by
  intro pins s σ H Q I h
  refine attr_of hb (thn (he pins s σ H _ I h) fun u s1 ⟨x, H1, I1, rx, a, C, dx, fs, v, ex, ea, c, n, l, q⟩ => ?_)
  subst ex
  obtain rfl : u = Value.ref a := rx
  exact getattr_ok I1 ea c n l fun u' s2 I2 ru => ⟨v, H1, I2, ru, q⟩
theorem ps_fld (ha : PE X o ta) (hv : PE X value tv) (hs : swapsWith value (some (.Attribute o f pos')) pos.line X.env = pure false) : PS X (.Assign [.Attribute o f pos'] value pos) (sFld X.K ta tv f) := by
  intro pins s σ H D I h
  refine plainObj_wpAny_Assign_Attribute (thn (hv pins s σ H _ I h) fun u s1 ⟨y, H1, I1, ry, q⟩ => thn (ha pins s1 σ H1 _ I1 q) fun ov s2 ⟨x, H2, I2, rx, a, C, dx, fs, ex, ea, c, n, l, q2⟩ => ?_) hs
  subst ex
  obtain rfl : ov = Value.ref a := rx
  exact setattr_ok I2 ea c n l ry fun s3 I3 => ⟨σ, _, I3, q2⟩
end
section
variable {X : Cx} {pins : List (Addr × Obj)} {σ : St} {H : Hp} {s : Shared} {A : Around} {E : Value -> Shared -> Prop} {Q : Value -> Shared -> Prop} {c : Value} {b : Bool}
inductive TyOf (K : PySem.W.Frag) (H : Hp) : V -> Value -> Prop where
  | non : TyOf K H .non (.type "NoneType")
  | bl (x : Bool) : TyOf K H (.bl x) (.type "bool")
  | int (i : Int) : TyOf K H (.int i) (.type "int")
  | str (x : Str) : TyOf K H (.str x) (.type "str")
  | flt (x : UInt64) : TyOf K H (.flt x) (.type "float")
  | lst {a : Addr} {xs : List V} (e : H a = some (.lst xs)) : TyOf K H (.ref a) (.type "list")
  | frz {a : Addr} {o : Obj} {xs : List V} (e : H a = some (.frz o (.lst xs))) : TyOf K H (.ref a) (.type "list")
  | tup {a : Addr} {xs : List V} (e : H a = some (.tup xs)) : TyOf K H (.ref a) (.type "tuple")
  | dK {a : Addr} {kvs : List (Key × V)} (e : H a = some (.dK kvs)) : TyOf K H (.ref a) (.type "dict")
  | dT {a : Addr} {kvs : List (List Key × V)} (e : H a = some (.dT kvs)) : TyOf K H (.ref a) (.type "dict")
  | ins {a C dx : Addr} {fs : List (Str × V)} (e : H a = some (.ins C dx fs)) (cl : Cls K C) (ha : PySem.W.findIn K (.ref C) "__class__" = some (some (.builtin "object.__class__")))
      (hn : PySem.W.specialIn K (.builtin "object.__class__") "__get__" = some (some (.builtin "getset_descriptor.__get__"))) (htk : PySem.W.takesIn K (.builtin "object.__class__") = some true)
      (hm : PySem.W.mroIn K C (.type "object") = some true) : TyOf K H (.ref a) (.ref C)
theorem isinst_ok {x : V} {u t : Value} (I : Inv X pins σ H s) (rx : RelV x u) (ty : TyOf X.K H x t) (e : PySem.W.kitOne X.K t c = some b) (h : ∀ tk, Q (.bool b) { s with toks := tk }) :
    wpAny (model X.prog X.w) A (call (.builtin "isinstance") [u, c]) Q E s := by
  cases ty with
  | non => cases (show u = Value.none from rx); exact PySem.W.kia_one PySem.W.kitx_none I.kIn True.intro e (fun z => nomatch z) h
  | bl y => cases (show u = Value.bool y from rx); exact PySem.W.kia_one PySem.W.kitx_bool I.kIn True.intro e (fun z => nomatch z) h
  | int i => obtain ⟨t, q⟩ := (show ∃ t, u = Value.int i t from rx); cases q; exact PySem.W.kia_one PySem.W.kitx_int I.kIn True.intro e (fun z => nomatch z) h
  | str y => obtain ⟨t, q⟩ := (show ∃ t, u = Value.str y t from rx); cases q; exact PySem.W.kia_one PySem.W.kitx_str I.kIn True.intro e (fun z => nomatch z) h
  | flt y => obtain ⟨t, q⟩ := (show ∃ t, u = Value.float y t from rx); cases q; exact PySem.W.kia_one PySem.W.kitx_float I.kIn True.intro e (fun z => nomatch z) h
  | @lst a xs ea =>
    cases (show u = Value.ref a from rx)
    obtain ⟨_, _, n, _, h1⟩ := (show ObjOk X.prog X.w H s.heap a (.lst xs) from I.hok a _ ea)
    exact PySem.W.kia_one PySem.W.kitx_list I.kIn ⟨_, h1, rfl⟩ e (fun z => nomatch z) h
  | @frz a ob xs ea =>
    cases (show u = Value.ref a from rx)
    obtain ⟨_, _, _, n, _, h1⟩ := (show ObjOk X.prog X.w H s.heap a (.frz ob (.lst xs)) from I.hok a _ ea)
    exact PySem.W.kia_one PySem.W.kitx_list I.kIn ⟨_, h1, rfl⟩ e (fun z => nomatch z) h
  | @tup a xs ea =>
    cases (show u = Value.ref a from rx)
    obtain ⟨_, _, _, p⟩ := (show ObjOk X.prog X.w H s.heap a (.tup xs) from I.hok a _ ea)
    obtain ⟨o, h1, h2, _⟩ := p
    exact PySem.W.kia_one PySem.W.kitx_tuple I.kIn ⟨o, h1, h2⟩ e (fun z => nomatch z) h
  | @dK a kvs ea =>
    cases (show u = Value.ref a from rx)
    obtain ⟨_, _, vs, _, p⟩ := (show ObjOk X.prog X.w H s.heap a (.dK kvs) from I.hok a _ ea)
    obtain ⟨o, es, ep, h1, h2, _⟩ := p
    exact PySem.W.kia_one PySem.W.kitx_dict I.kIn ⟨o, h1, h2.1⟩ e (fun z => nomatch z) h
  | @dT a kvs ea =>
    cases (show u = Value.ref a from rx)
    obtain ⟨_, _, xs, _, o, es, ep, h1, h2, _⟩ := (show ObjOk X.prog X.w H s.heap a (.dT kvs) from I.hok a _ ea)
    exact PySem.W.kia_one PySem.W.kitx_dict I.kIn ⟨o, h1, h2.1⟩ e (fun z => nomatch z) h
  | @ins a C dx fs ea cl ha hn htk hm =>
    cases (show u = Value.ref a from rx)
    obtain ⟨mA, O, _⟩ := ins_get I.hok ea
    obtain ⟨od, J, _⟩ := O.look
    exact PySem.W.kia_one (PySem.W.kitx_own (cl.get _) cl.hd ha hn htk hm) I.kIn J e (fun z => nomatch z) h
end
end L2
namespace L2
open PySem PySem.Spec PyProof.Rows
structure Room (k : Nat) (A : Around) : Prop where
  hd : A.handled = none
  dp : A.depth + 3 * k + 5 < recursionLimit
  un : A.units + 16 * k + 200 < cLine
theorem Room.mono {j k : Nat} {A : Around} (r : Room k A) (h : j <= k) : Room j A := ⟨r.hd, by have := r.dp; omega, by have := r.un; omega⟩
theorem Room.deeper {k : Nat} {A : Around} (r : Room (k + 1) A) (env : Env) : Room k (A.deeper env) :=
  ⟨r.hd, by have := r.dp; show A.depth + 1 + 3 * k + 5 < _; omega, by have := r.un; show A.units + 3 + 16 * k + 200 < _; omega⟩
theorem Room.in1 {k : Nat} {A : Around} (r : Room (k + 1) A) : Room k A.in1 :=
  ⟨r.hd, by have := r.dp; show A.depth + 3 * k + 5 < _; omega, by have := r.un; show A.units + 1 + 16 * k + 200 < _; omega⟩
theorem make_depth {A : Around} {C : Addr} {us : List Value} {kw : List (Str × Value)} : (A.under (.builtin "type.__call__" ⟨.ref C :: us, kw⟩)).depth = A.depth + 1 := by
  first | rfl | simp [Around.under, Code.weight, Code.isCreation, Code.isGuard, Code.isCaller, Code.frames, Code.isFrame, guardIds]
theorem make_units {A : Around} {C : Addr} {us : List Value} {kw : List (Str × Value)} : (A.under (.builtin "type.__call__" ⟨.ref C :: us, kw⟩)).units = A.units + 1 := by
  first | rfl | simp [Around.under, Code.cUnits, Code.frames, Code.isFrame]
theorem Room.make {k : Nat} {A : Around} (r : Room (k + 1) A) (C : Addr) (us : List Value) (kw : List (Str × Value)) : Room k (A.under (.builtin "type.__call__" ⟨.ref C :: us, kw⟩)) :=
  ⟨r.hd, by have := r.dp; rw [make_depth]; omega, by have := r.un; rw [make_units]; omega⟩
theorem Room.depth {k : Nat} {A : Around} (r : Room k A) : A.depth < recursionLimit := by have := r.dp; omega
theorem Room.units {k : Nat} {A : Around} (r : Room k A) : A.units + 64 < cLine := by have := r.un; omega
def tNil : TA := fun _ H Q => Q [] H
def tCons (ta : TE) (tr : TA) : TA := fun σ H Q => ta σ H fun x H1 => tr σ H1 fun xs H2 => Q (x :: xs) H2
section
variable {X : Cx} {e : Expr} {es : List Expr} {te : TE} {t : TA} {pos : Pos}
theorem pa_nil : PA X [] tNil := fun _ _ _ _ H Q I h => Calls.spliced_nil ⟨[], H, I, .nil, h⟩
theorem pa_cons (ha : PE X e te) (hr : PA X es t) (hs : starEach (e :: es) X.env = (false, eval e X.env) :: starEach es X.env := by rfl) : PA X (e :: es) (tCons te t) := by
  intro pos pins s σ H Q I h
  rw [hs]
  show wpAny _ _ (spliced ((false, eval e X.env) :: backTo pos (starEach es X.env))) _ _ s
  refine Calls.spliced_cons (thn (ha pins s σ H _ I h) fun u s1 ⟨x, H1, I1, r1, q1⟩ => ?_)
  exact thn (hr pos pins s1 σ H1 _ I1 q1) fun us s2 ⟨xs, H2, I2, r2, q2⟩ => ⟨x :: xs, H2, I2, .cons r1 r2, q2⟩
def tTup (t : TA) : TE := fun σ H Q => t σ H fun xs H1 => xs.length <= sizeLine /\ ∀ p, H1 p = none -> Q (.ref p) (upd H1 p (.tup xs))
def tLst (t : TA) : TE := fun σ H Q => t σ H fun xs H1 => xs.length <= sizeLine /\ ∀ p, H1 p = none -> Q (.ref p) (upd H1 p (.lst xs))
theorem pe_tup {x1} (h : PA X es t) : PE X (.Tuple es x1 pos) (tTup t) := by
  intro pins s σ H Q I hq
  refine wpAny_Tuple_spliced (thn (h pos pins s σ H _ I hq) fun us s1 ⟨xs, H1, I1, r, z, q⟩ => ⟨by rw [<- r.length]; exact z, ?_⟩)
  have hf : H1 s1.heap.objs.size = none := I1.hok.fresh (Nat.le_refl _)
  refine ⟨.ref s1.heap.objs.size, upd H1 s1.heap.objs.size (.tup xs), I1.laid (t' := s1.toks) (fun b u e => Heap.get?_push_of_some _ e) (Nat.le_refl _) ?_, rfl, q _ hf⟩
  exact ⟨z, us, r, ⟨_, Heap.get?_push_size _ rfl, rfl, _, rfl⟩⟩
theorem pe_lst (h : PA X es t) : PE X (.List es pos) (tLst t) := by
  intro pins s σ H Q I hq
  refine wpAny_List_spliced (thn (h pos pins s σ H _ I hq) fun us s1 ⟨xs, H1, I1, r, z, q⟩ => ⟨by rw [<- r.length]; exact z, ?_⟩)
  have hf : H1 s1.heap.objs.size = none := I1.hok.fresh (Nat.le_refl _)
  refine ⟨.ref s1.heap.objs.size, upd H1 s1.heap.objs.size (.lst xs), I1.laid (t' := s1.toks) (fun b u e => Heap.get?_push_of_some _ e) (Nat.le_refl _) ?_, rfl, q _ hf⟩
  exact ⟨z, us, 0, r, Heap.get?_push_size _ rfl⟩
end
abbrev Sp := List V -> Hp -> VK -> XK -> Prop
abbrev CXT := List Env -> Hp -> Shared -> XK -> Value -> Shared -> Prop
structure Env0 (P : Program) (w : World) (K : PySem.W.Frag) (mg : Str -> Option Value) (base : Heap) (A : Around) (outer : List Env) (s : Shared) (H : Hp) : Prop where
  frames : A.frames = some outer
  mod : Mod K mg base
  bs : ∀ b o, base.get? b = some o -> s.heap.get? b = some o /\ H b = none
  bsz : base.objs.size <= s.heap.objs.size
  funs : s.heap.FunFrames base outer
  frf : ∀ b ∈ frs outer, H b = none
  hok : HOk P w H s.heap
  bare : AllBare s.gens
def CE (outer : List Env) (P : Program) (w : World) (H : Hp) (s : Shared) (Q : VK) (u : Value) (s' : Shared) : Prop :=
  ∃ v H', s'.os = s.os /\ AllBare s'.gens /\ Un (frs outer) [] H H' s.heap s'.heap /\ HOk P w H' s'.heap /\ RelV v u /\ Q v H'
def CR (CX : CXT) (outer : List Env) (P : Program) (w : World) (H : Hp) (s : Shared) (Q : VK) (E : XK) (r : Result) (s' : Shared) : Prop :=
  match r with
  | .ok (.ret u) => CE outer P w H s Q u s'
  | .ok _ => False
  | .error e => CX outer H s E e s'
structure FnOk (P : Program) (w : World) (K : PySem.W.Frag) (mg : Str -> Option Value) (base : Heap) (CX : CXT) (k : Nat) (f : Addr) (fd : FuncData) (ps : List Str) (sp : Sp) : Prop where
  len : ∀ vs H Q E, sp vs H Q E -> vs.length = ps.length
  run : ∀ (A : Around) (outer : List Env) (s : Shared) (H : Hp) (args : Args) (us : List Value) (vs : List V) (Q : VK) (E : XK), Room k A -> Env0 P w K mg base A outer s H -> BindsTo s fd args (ps.zip us) -> Vals vs us -> sp vs H Q E ->
    codeAny (model P w) A (.call (.ref f) args) (CR CX outer P w H s Q E) s
theorem FnOk.mono {P : Program} {w : World} {K : PySem.W.Frag} {mg : Str -> Option Value} {base : Heap} {CX : CXT} {j k : Nat} {f : Addr} {fd : FuncData} {ps : List Str} {sp : Sp} (F : FnOk P w K mg base CX j f fd ps sp) (h : j <= k) :
    FnOk P w K mg base CX k f fd ps sp := ⟨F.len, fun A outer s H args us vs Q E hr => F.run A outer s H args us vs Q E (hr.mono h)⟩
theorem Env0.make {P : Program} {w : World} {K : PySem.W.Frag} {mg : Str -> Option Value} {base : Heap} {A : Around} {outer : List Env} {s : Shared} {H : Hp} (e : Env0 P w K mg base A outer s H) (C : Addr) (us : List Value) (kw : List (Str × Value)) :
    Env0 P w K mg base (A.under (.builtin "type.__call__" ⟨.ref C :: us, kw⟩)) outer s H := ⟨by first | exact e.frames | (simpa [Around.under, Code.envs, Code.isFrame, pushEnvs] using e.frames), e.mod, e.bs, e.bsz, e.funs, e.frf, e.hok, e.bare⟩
theorem Env0.in1 {P : Program} {w : World} {K : PySem.W.Frag} {mg : Str -> Option Value} {base : Heap} {A : Around} {outer : List Env} {s : Shared} {H : Hp} (e : Env0 P w K mg base A outer s H) :
    Env0 P w K mg base A.in1 outer s H := ⟨e.frames, e.mod, e.bs, e.bsz, e.funs, e.frf, e.hok, e.bare⟩
section
variable {X : Cx} {pins : List (Addr × Obj)} {σ : St} {H : Hp} {s s' : Shared}
theorem Inv.env0 (I : Inv X pins σ H s) : Env0 X.prog X.w X.K X.mg X.base X.A X.stack s H :=
  ⟨I.ok.frames, I.ok.mod, I.bs, Nat.le_trans I.ok.bsz I.sz, I.stack, I.stkFree, I.hok, I.bare⟩
theorem Inv.after {Q : VK} {u : Value} (I : Inv X pins σ H s) (h : CE X.stack X.prog X.w H s Q u s') : EP X pins σ Q u s' := by
  obtain ⟨v, H', os, bare, un, hok, r, q⟩ := h
  obtain ⟨hh, g, d, t, os'⟩ := s'
  obtain rfl : os' = s.os := os
  exact ⟨v, H', I.call (h' := hh) (g' := g) (d' := d) (t' := t) (ch := []) un hok bare (fun b z => absurd z (by simp)), r, q⟩
end
def tCall (sp : Sp) (dvs : List V) (E : XK) (t : TA) : TE := fun σ H Q => t σ H fun vs H1 => sp (vs ++ dvs) H1 Q E
def tMeth (C : Addr) (m : Str) (sp : Sp) (dvs : List V) (E : XK) (ta : TE) (t : TA) : TE := fun σ H Q => ta σ H fun x H1 => ∃ a dx fs, x = .ref a /\ H1 a = some (.ins C dx fs) /\ fs.lookup m = none /\
  t σ H1 fun vs H2 => sp (x :: (vs ++ dvs)) H2 Q E
def tMake (C : Addr) (sp : Sp) (dvs : List V) (E : XK) (t : TA) : TE := fun σ H Q => t σ H fun vs H1 => ∀ x dx, H1 x = none -> H1 dx = none -> dx ≠ x ->
  sp (.ref x :: (vs ++ dvs)) (upd (upd H1 dx (.own x)) x (.ins C dx [])) (fun v H2 => v = .non /\ Q (.ref x) H2) E
def Binds (K : PySem.W.Frag) (fd : FuncData) (ps : List Str) (ds : List Value) : Prop :=
  ∀ (s : Shared) (us : List Value), K.In s.heap -> (us ++ ds).length = ps.length -> BindsTo s fd ⟨us, []⟩ (ps.zip (us ++ ds))
theorem Binds.all {K : PySem.W.Frag} {fd : FuncData} {ps : List Str} (h : ∀ us : List Value, us.length = ps.length -> bindArgs fd ⟨us, []⟩ = pure (ps.zip us)) : Binds K fd ps [] := fun s us _ hl => by
  rw [List.append_nil] at hl ⊢
  exact .of_eq (h us hl)
def Passes (CX : CXT) (X : Cx) (E : XK) : Prop := ∀ (pins : List (Addr × Obj)) (σ : St) (H : Hp) (s : Shared) (e : Value) (s' : Shared), Inv X pins σ H s -> CX X.stack H s E e s' -> X.xe e s'
section
variable {X : Cx} {CX : CXT} {k : Nat} {f C : Addr} {fd : FuncData} {ps : List Str} {sp : Sp} {dvs : List V} {ds : List Value} {E : XK} {x m : Str} {p pos apos : Pos} {e o : Expr} {es : List Expr} {ta : TE} {t : TA}
theorem run_fn {pins : List (Addr × Obj)} {σ : St} {H : Hp} {s : Shared} {Q : VK} {us : List Value} {vs : List V} (F : FnOk X.prog X.w X.K X.mg X.base CX k f fd ps sp) (hr : Room k X.A) (hb : Binds X.K fd ps ds) (hd : Vals dvs ds) (hx : Passes CX X E)
    (I : Inv X pins σ H s) (r : Vals vs us) (h : sp (vs ++ dvs) H Q E) : wpAny (model X.prog X.w) X.A (call (.ref f) us) (EP X pins σ Q) X.xe s := by
  have r2 : Vals (vs ++ dvs) (us ++ ds) := r.append hd
  have hl : (us ++ ds).length = ps.length := by rw [<- r2.length]; exact F.len _ _ _ _ h
  refine wpAny_call (codeAny_mono (F.run X.A X.stack s H ⟨us, []⟩ (us ++ ds) (vs ++ dvs) Q E hr I.env0 (hb s us I.kIn hl) r2 h) fun r s' hq => ?_)
  cases r with
  | error e => exact hx pins σ H s e s' I hq
  | ok fl =>
    cases fl with
    | ret u => exact I.after hq
    | next => exact False.elim hq
    | brk => exact False.elim hq
    | cont => exact False.elim hq
theorem pe_call (F : FnOk X.prog X.w X.K X.mg X.base CX k f fd ps sp) (hr : Room k X.A) (hg : Gl X x) (hm : X.mg x = some (.ref f)) (hk : PySem.W.keepIn X.K (.ref f) = true) (hb : Binds X.K fd ps ds) (hd : Vals dvs ds) (hx : Passes CX X E)
    (ha : PA X (e :: es) t) (hdb : (x == ("__debug__" : Str)) = false := by decide) (he : starEach (e :: es) X.env = (false, eval e X.env) :: starEach es X.env := by rfl) (hpl : (backTo pos (starEach es X.env)).any (·.1) = false := by rfl) :
    PE X (.Call (.Name x p) (e :: es) [] pos) (tCall sp dvs E t) := by
  intro pins s σ H Q I h
  refine wpAny_Call_Name_kw (ld_glob I hg hm ?_ hdb)
  refine PySem.W.callWith_K (h₀ := X.base) I.ok.mod.kin hk (thn (ha pos pins s σ H _ I h) fun us s1 ⟨vs, H1, I1, r, q⟩ => ⟨I1.kIn, ?_⟩) he hpl
  exact run_fn F hr hb hd hx I1 r q
theorem pe_call0 (F : FnOk X.prog X.w X.K X.mg X.base CX k f fd ps sp) (hr : Room k X.A) (hg : Gl X x) (hm : X.mg x = some (.ref f)) (hk : PySem.W.keepIn X.K (.ref f) = true) (hb : Binds X.K fd ps ds) (hd : Vals dvs ds) (hx : Passes CX X E)
    (hdb : (x == ("__debug__" : Str)) = false := by decide) : PE X (.Call (.Name x p) [] [] pos) (tCall sp dvs E tNil) := by
  intro pins s σ H Q I h
  refine wpAny_Call_Name_kw (ld_glob I hg hm ?_ hdb)
  exact PySem.W.callWith_K0 I.kIn hk (run_fn (us := []) F hr hb hd hx I .nil h)
theorem pe_meth {pl : Sem Bool} (he : PE X o ta) (c : Cls X.K C) (hm : Meth X.K C m f) (F : FnOk X.prog X.w X.K X.mg X.base CX k f fd ps sp) (hr : Room k X.A) (hb : Binds X.K fd ps ds) (hd : Vals dvs ds) (hx : Passes CX X E) (ha : PA X (e :: es) t)
    (hst : starEach (e :: es) X.env = (false, eval e X.env) :: starEach es X.env := by rfl) (hpl : (backTo pos (starEach es X.env)).any (·.1) = false := by rfl)
    (ht : eval (.Call (.Attribute o m apos) (e :: es) [] pos) X.env = (do
      let ov <- eval o X.env
      standAt apos.atName
      let (f, first) <- holding [ov] (getMethod ov m pl)
      callWith pos f first (backTo pos (starEach (e :: es) X.env)) (backToKw pos (keywordEach [] X.env))) := by rfl) :
    PE X (.Call (.Attribute o m apos) (e :: es) [] pos) (tMeth C m sp dvs E ta t) := by
  intro pins s σ H Q I h
  refine PySem.W.methodCall_KW (pl := pl) (thn (he pins s σ H _ I h) fun u s1 ⟨x, H1, I1, rx, a, dx, fs, ex, ea, l, q⟩ => ?_) ht
  subst ex
  obtain rfl : u = Value.ref a := rx
  refine getmeth_ok I1 ea c hm l ?_
  refine PySem.W.callWith_K (first := [.ref a]) (h₀ := X.base) I.ok.mod.kin hm.kp (thn (ha pos pins s1 σ H1 _ I1 q) fun us s2 ⟨vs, H2, I2, r, q2⟩ => ⟨I2.kIn, ?_⟩) hst hpl
  exact run_fn (us := .ref a :: us) (vs := .ref a :: vs) F hr hb hd hx I2 (.cons rfl r) q2
theorem pe_meth0 {pl : Sem Bool} (he : PE X o ta) (c : Cls X.K C) (hm : Meth X.K C m f) (F : FnOk X.prog X.w X.K X.mg X.base CX k f fd ps sp) (hr : Room k X.A) (hb : Binds X.K fd ps ds) (hd : Vals dvs ds) (hx : Passes CX X E)
    (ht : eval (.Call (.Attribute o m apos) [] [] pos) X.env = (do
      let ov <- eval o X.env
      standAt apos.atName
      let (f, first) <- holding [ov] (getMethod ov m pl)
      callWith pos f first (backTo pos (starEach [] X.env)) (backToKw pos (keywordEach [] X.env))) := by rfl) :
    PE X (.Call (.Attribute o m apos) [] [] pos) (tMeth C m sp dvs E ta tNil) := by
  intro pins s σ H Q I h
  refine PySem.W.methodCall_KW (pl := pl) (thn (he pins s σ H _ I h) fun u s1 ⟨x, H1, I1, rx, a, dx, fs, ex, ea, l, q⟩ => ?_) ht
  subst ex
  obtain rfl : u = Value.ref a := rx
  refine getmeth_ok I1 ea c hm l ?_
  exact PySem.W.callWith_K0 (first := [.ref a]) I1.kIn hm.kp (run_fn (us := [.ref a]) (vs := [.ref a]) F hr hb hd hx I1 (.cons rfl .nil) q)
structure Mk (K : PySem.W.Frag) (C f : Addr) : Prop where
  makes : PySem.W.makesIn K C = true
  init : PySem.W.findIn K (.ref C) "__init__" = some (some (.ref f))
  fn : PySem.W.isFn K (.ref f) = true
  kp : PySem.W.keepIn K (.ref C) = true
theorem run_make {pins : List (Addr × Obj)} {σ : St} {H : Hp} {s : Shared} {Q : VK} {us : List Value} {vs : List V} (M : Mk X.K C f) (F : FnOk X.prog X.w X.K X.mg X.base CX k f fd ps sp) (hr : Room (k + 1) X.A) (hb : Binds X.K fd ps ds) (hd : Vals dvs ds)
    (hx : Passes CX X E) (I : Inv X pins σ H s) (r : Vals vs us)
    (h : ∀ x dx, H x = none -> H dx = none -> dx ≠ x -> sp (.ref x :: (vs ++ dvs)) (upd (upd H dx (.own x)) x (.ins C dx [])) (fun v H2 => v = .non /\ Q (.ref x) H2) E) :
    wpAny (model X.prog X.w) X.A (call (.ref C) us) (EP X pins σ Q) X.xe s := by
  have hq := h (s.heap.objs.size + 1) s.heap.objs.size (I.hok.fresh (Nat.le_succ _)) (I.hok.fresh (Nat.le_refl _)) (Nat.ne_of_lt (Nat.lt_succ_self _))
  have I2 := Inv.made (C := C) I
  have r2 : Vals (V.ref (s.heap.objs.size + 1) :: (vs ++ dvs)) (Value.ref (s.heap.objs.size + 1) :: (us ++ ds)) := .cons rfl (r.append hd)
  have hl : (Value.ref (s.heap.objs.size + 1) :: us ++ ds).length = ps.length := by
    have e := r2.length
    rw [F.len _ _ _ _ hq] at e
    exact e.symm
  refine wpAny_call (make_map (f := f) I.kIn M.makes M.init (beq_iff_eq.mp M.fn) (codeAny_mono (F.run _ X.stack _ _ ⟨Value.ref (s.heap.objs.size + 1) :: us, []⟩ (Value.ref (s.heap.objs.size + 1) :: (us ++ ds)) _ _ E (hr.make C us [])
    (I2.env0.make C us []) (hb _ (Value.ref (s.heap.objs.size + 1) :: us) I2.kIn hl) r2 hq) fun r s' hq' => ?_))
  cases r with
  | error e => exact hx pins σ _ _ e s' I2 hq'
  | ok fl =>
    cases fl with
    | ret u =>
      obtain ⟨v, H', I3, rv, ev, q3⟩ := I2.after hq'
      subst ev
      exact ⟨rv, ⟨V.ref (s.heap.objs.size + 1), H', I3, rfl, q3⟩⟩
    | next => exact False.elim hq'
    | brk => exact False.elim hq'
    | cont => exact False.elim hq'
theorem pe_make (M : Mk X.K C f) (F : FnOk X.prog X.w X.K X.mg X.base CX k f fd ps sp) (hr : Room (k + 1) X.A) (hg : Gl X x) (hm : X.mg x = some (.ref C)) (hb : Binds X.K fd ps ds) (hd : Vals dvs ds) (hx : Passes CX X E)
    (ha : PA X (e :: es) t) (hdb : (x == ("__debug__" : Str)) = false := by decide) (he : starEach (e :: es) X.env = (false, eval e X.env) :: starEach es X.env := by rfl) (hpl : (backTo pos (starEach es X.env)).any (·.1) = false := by rfl) :
    PE X (.Call (.Name x p) (e :: es) [] pos) (tMake C sp dvs E t) := by
  intro pins s σ H Q I h
  refine wpAny_Call_Name_kw (ld_glob I hg hm ?_ hdb)
  refine PySem.W.callWith_K (h₀ := X.base) I.ok.mod.kin M.kp (thn (ha pos pins s σ H _ I h) fun us s1 ⟨vs, H1, I1, r, q⟩ => ⟨I1.kIn, ?_⟩) he hpl
  exact run_make M F hr hb hd hx I1 r q
theorem pe_make0 (M : Mk X.K C f) (F : FnOk X.prog X.w X.K X.mg X.base CX k f fd ps sp) (hr : Room (k + 1) X.A) (hg : Gl X x) (hm : X.mg x = some (.ref C)) (hb : Binds X.K fd ps ds) (hd : Vals dvs ds) (hx : Passes CX X E)
    (hdb : (x == ("__debug__" : Str)) = false := by decide) : PE X (.Call (.Name x p) [] [] pos) (tMake C sp dvs E tNil) := by
  intro pins s σ H Q I h
  refine wpAny_Call_Name_kw (ld_glob I hg hm ?_ hdb)
  exact PySem.W.callWith_K0 I.kIn M.kp (run_make (us := []) M F hr hb hd hx I .nil h)
end
section
variable {X : Cx} {CX : CXT} {k : Nat} {f C : Addr} {fd : FuncData} {ps ks : List Str} {sp : Sp} {E : XK} {x m : Str} {p pos apos kpos : Pos} {e o : Expr} {es : List Expr} {kws : List Keyword} {te ta : TE} {t tk : TA} {nm : Option Str}
variable {g : List Value -> List Value -> List Value} {gV : List V -> List V -> List V}
end
structure FnScope (N P : List Str) (sc : Scope) : Prop where
  kind : sc.kind = .function
  co : sc.isCoroutine = false
  gen : sc.isGenerator = false
  nd : N.Nodup
  pre : N.take P.length = P
  par : ∀ x ∈ P, sc.names.lookup x = some .local \/ sc.names.lookup x = some .cell
  nofree : ∀ y ∈ sc.names, y.2 ≠ .free
theorem bindL_out {kindOf : Str -> Option NameKind} {x : Str} : ∀ {binds : List (Str × Value)} {m : Str -> Option Value}, (∀ v, (x, v) ∉ binds) -> bindL kindOf binds m x = m x
  | [], _, _ => rfl
  | (n, v) :: r, m, h => by
    unfold bindL
    rw [bindL_out fun w hw => h w (List.mem_cons_of_mem _ hw)]
    split
    . have : x ≠ n := by rintro rfl; exact h v List.mem_cons_self
      simp [this]
    . rfl
theorem bindC_out {kindOf : Str -> Option NameKind} {x : Str} : ∀ {binds : List (Str × Value)} {m : Str -> Option Value}, (∀ v, (x, v) ∉ binds) -> bindC kindOf binds m x = m x
  | [], _, _ => rfl
  | (n, v) :: r, m, h => by
    unfold bindC
    rw [bindC_out fun w hw => h w (List.mem_cons_of_mem _ hw)]
    split
    . rfl
    . have : x ≠ n := by rintro rfl; exact h v List.mem_cons_self
      simp [this]
theorem bindL_get {kindOf : Str -> Option NameKind} {x : Str} {v : Value} : ∀ {P : List Str} {vs : List Value} {i : Nat} {m : Str -> Option Value}, P.Nodup -> P[i]? = some x -> vs[i]? = some v -> kindOf x = some .local ->
    bindL kindOf (P.zip vs) m x = some v
  | [], _, _, _, _, h, _, _ => by simp at h
  | _ :: _, [], _, _, _, _, h, _ => by simp at h
  | p :: P, w :: vs, 0, m, nd, h1, h2, hk => by
    simp at h1 h2; subst h1; subst h2
    show bindL kindOf ((p, w) :: P.zip vs) m p = _
    unfold bindL
    rw [bindL_out fun v hv => (List.nodup_cons.mp nd).1 (List.of_mem_zip hv).1, if_pos hk]
    simp
  | p :: P, w :: vs, i + 1, m, nd, h1, h2, hk => by
    show bindL kindOf ((p, w) :: P.zip vs) m x = _
    unfold bindL
    exact bindL_get (i := i) (List.nodup_cons.mp nd).2 (by simpa using h1) (by simpa using h2) hk
theorem bindC_get {kindOf : Str -> Option NameKind} {x : Str} {v : Value} : ∀ {P : List Str} {vs : List Value} {i : Nat} {m : Str -> Option Value}, P.Nodup -> P[i]? = some x -> vs[i]? = some v -> kindOf x ≠ some .local ->
    bindC kindOf (P.zip vs) m x = some v
  | [], _, _, _, _, h, _, _ => by simp at h
  | _ :: _, [], _, _, _, _, h, _ => by simp at h
  | p :: P, w :: vs, 0, m, nd, h1, h2, hk => by
    simp at h1 h2; subst h1; subst h2
    show bindC kindOf ((p, w) :: P.zip vs) m p = _
    unfold bindC
    rw [bindC_out fun v hv => (List.nodup_cons.mp nd).1 (List.of_mem_zip hv).1, if_neg hk]
    simp
  | p :: P, w :: vs, i + 1, m, nd, h1, h2, hk => by
    show bindC kindOf ((p, w) :: P.zip vs) m x = _
    unfold bindC
    exact bindC_get (i := i) (List.nodup_cons.mp nd).2 (by simpa using h1) (by simpa using h2) hk
def start (N : List Str) (vs : List V) : St := vs.map some ++ List.replicate (N.length - vs.length) none
def cxOf (CX : CXT) (P : Program) (w : World) (K : PySem.W.Frag) (mg : Str -> Option Value) (base : Heap) (N : List Str) (qual : Str) (scope : Scope) (f : Addr) (cd : Value) (A : Around) (outer : List Env) (s : Shared) (H : Hp) (E : XK) : Cx where
  prog := P
  w := w
  K := K
  mg := mg
  base := base
  A := A.deeper (envOfC qual scope s.heap.objs.size f cd)
  N := N
  s₀ := s
  H₀ := H
  env := envOfC qual scope s.heap.objs.size f cd
  outer := outer
  stack := envOfC qual scope s.heap.objs.size f cd :: outer
  ex := []
  calm := true
  fn := fun _ => true
  pn := []
  xe := fun e s' => wpAny (model P w) (A.deeper (envOfC qual scope s.heap.objs.size f cd)) (leaving (envOfC qual scope s.heap.objs.size f cd) e) (fun _ s'' => CX outer H s E e s'') (fun e' s'' => CX outer H s E e' s'') s'
theorem cell_has {sc : Scope} {n : Nat} {x : Str} (h : sc.names.lookup x = some .cell) : ∃ c, (cellsFrom n sc.names []).lookup x = some c := by
  have q := PySem.W.cellsFrom_some sc.names n [] (.inl h)
  exact Option.isSome_iff_exists.mp q
theorem inv_start {CX : CXT} {P : Program} {w : World} {K : PySem.W.Frag} {mg : Str -> Option Value} {base : Heap} {N ps : List Str} {qual : Str} {scope : Scope} {f : Addr} {cd : Value} {A : Around} {outer : List Env} {s s1 : Shared} {H : Hp} {E : XK} {us : List Value} {vs : List V}
    (S : FnScope N ps scope) (hd : A.handled = none) (e0 : Env0 P w K mg base A outer s H) (hl : vs.length = ps.length) (r : Vals vs us)
    (x : InCallC s s.heap.objs.size (bindL (envOfC qual scope s.heap.objs.size f cd).kindOf (ps.zip us) fun _ => none) (cellsFrom (s.heap.objs.size + 1) scope.names []) (bindC (envOfC qual scope s.heap.objs.size f cd).kindOf (ps.zip us) fun _ => none) s1) :
    Inv (cxOf CX P w K mg base N qual scope f cd A outer s H E) [] (start N vs) H s1 := by
  have hpl : ps.length <= N.length := by have := congrArg List.length S.pre; rw [List.length_take] at this; omega
  obtain ⟨h1, tk, rfl, hk⟩ := x.done
  have noA : ∀ b : Addr, b ∉ (cxOf CX P w K mg base N qual scope f cd A outer s H E).ex := fun b z => absurd (show b ∈ ([] : List Addr) from z) (by simp)
  refine ⟨⟨e0.mod, S.kind, rfl, rfl, Nat.le_refl _, fun y z c h1 h2 => ?_, fun y hy => ?_, fun y c _ h => ?_, fun _ => hd, Around.frames_deeper e0.frames, .inr ⟨rfl, rfl⟩, fun b z => absurd z (noA b), e0.bs, e0.bsz, fun b _ _ => noA b, fun b z => absurd z (noA b), e0.funs, e0.frf⟩,
    rfl, e0.bare, Un.kept hk, ⟨_, x.toInCall.ns, fun i y v h1 h2 h3 => ?_⟩, fun y c h => ⟨_, x.cell y c h⟩, e0.hok.fresh (Nat.le_refl _), fun y c h => ?_, fun p hp => absurd (show p ∈ ([] : List (Addr × Obj)) from hp) (by simp), e0.hok.kept hk, ?_⟩
  . exact name_of_addr x.apart (PySem.mem_of_lookup h1) (PySem.mem_of_lookup h2)
  . have hy : scope.names.lookup y = some .cell \/ scope.names.lookup y = some .free := hy
    rcases hy with hy | hy
    . exact cell_has hy
    . exact absurd rfl (S.nofree _ (PySem.mem_of_lookup hy))
  . exact Nat.le_of_lt (x.above y c (PySem.mem_of_lookup h))
  . have hi : i < vs.length := by
      unfold start at h2
      by_cases hi : i < vs.length
      . exact hi
      . rw [List.getElem?_append_right (by simpa using hi)] at h2
        rw [List.getElem?_replicate] at h2
        split at h2 <;> cases h2
    have ha : vs[i]? = some v := by
      unfold start at h2
      rw [List.getElem?_append_left (by simpa using hi), List.getElem?_map] at h2
      cases e : vs[i]? with
      | none => rw [e] at h2; cases h2
      | some a => rw [e] at h2; cases h2; rfl
    obtain ⟨u, hu, rv⟩ := r.get ha
    have hp : ps[i]? = some y := by
      rw [<- S.pre, List.getElem?_take_of_lt (by omega)]; exact h1
    have ndP : ps.Nodup := by rw [<- S.pre]; exact S.nd.sublist (List.take_sublist _ _)
    refine ⟨u, rv, ?_⟩
    rcases S.par y (List.mem_of_getElem? hp) with k | k
    . exact .inl ⟨k, bindL_get ndP hp hu k⟩
    . obtain ⟨c, e⟩ := cell_has (n := s.heap.objs.size + 1) k
      refine .inr ⟨.inl k, c, e, ?_⟩
      have q := x.cell y c e
      rw [bindC_get ndP hp hu (by show scope.names.lookup y ≠ _; rw [k]; decide)] at q
      exact q
  . exact e0.hok.fresh (Nat.le_of_lt (x.above y c (PySem.mem_of_lookup h)))
  . unfold start
    show _ = N.length
    rw [List.length_append, List.length_map, List.length_replicate]
    omega
theorem fn_of {CX : CXT} {P : Program} {w : World} {K : PySem.W.Frag} {mg : Str -> Option Value} {base : Heap} {k : Nat} {f : Addr} {name qual : Str} {params : Arguments} {body : List Stmt} {scope : Scope} {dV kV doc pm cdv ct oc : Value} {an od : Option Addr}
    {osl : Array (Option Value)} {N ps : List Str} {sp : Sp} (lk : K.lookup f = some ⟨oc, od, .func (PySem.W.fnOf name qual params body scope dV kV doc pm an cdv ct), osl⟩) (hcd : PySem.W.codeIn K cdv qual = true) (S : FnScope N ps scope)
    (len : ∀ vs H Q E, sp vs H Q E -> vs.length = ps.length)
    (hbody : ∀ (A : Around) (outer : List Env) (s : Shared) (H : Hp) (vs : List V) (Q : VK) (E : XK), Room k (A.deeper (envOfC qual scope s.heap.objs.size f cdv)) -> sp vs H Q E ->
      ∃ t, PSs (cxOf CX P w K mg base N qual scope f cdv A outer s H E) body t /\ t { nx := fun _ H' => Q .non H', rt := Q } (start N vs) H) :
    FnOk P w K mg base CX (k + 1) f (PySem.W.fnOf name qual params body scope dV kV doc pm an cdv ct) ps sp := by
  refine ⟨len, fun A outer s H args us vs Q E hr e0 hb r hsp => ?_⟩
  have hl := len _ _ _ _ hsp
  have KX : K.In s.heap := e0.mod.kin.keeps fun b o e => (e0.bs b o e).1
  have lim : s.heap.NoLimit := e0.mod.nolimit.keeps fun b o e => (e0.bs b o e).1
  have hkind : ∀ y ∈ ps.zip us, scope.names.lookup y.1 = some .local \/ (scope.names.lookup y.1 = some .cell /\ ((cellsFrom (s.heap.objs.size + 1) scope.names []).lookup y.1).isSome = true) := fun ⟨n, v⟩ hy => by
    rcases S.par n (List.of_mem_zip hy).1 with q | q
    . exact .inl q
    . exact .inr ⟨q, PySem.W.cellsFrom_some _ _ _ (.inl q)⟩
  refine codeAny_call_function hr.depth (KX _ _ lk) rfl S.co S.gen rfl (PySem.W.codeRec_of KX hcd) (hb _ _ _ _ ?_)
  refine wpAny_newFunctionEnv_cells S.kind hkind fun env he s1 x => ?_
  subst he
  refine ⟨lim.keeps x.toInCall.keep, codeAny_func ?_⟩
  obtain ⟨t, ht, hq⟩ := hbody A outer s H vs Q E (hr.deeper _) hsp
  have I : Inv (cxOf CX P w K mg base N qual scope f cdv A outer s H E) [] (start N vs) H s1 := inv_start S hr.hd e0 hl r x
  refine wpAny_mono (ht [] s1 (start N vs) H _ I hq) (fun fl s' hs => ?_) fun e s' hs => hs
  have fin : ∀ {σ' : St} {H' : Hp} {v : V} {u : Value}, Inv (cxOf CX P w K mg base N qual scope f cdv A outer s H E) [] σ' H' s' -> RelV v u -> Q v H' -> CE outer P w H s Q u s' :=
    fun {σ' H' v u} J rv q => ⟨v, H', J.os, J.bare, J.base, J.hok, rv, q⟩
  cases fl with
  | ret u =>
    obtain ⟨v, σ', H', J, rv, q⟩ := hs
    exact fin J rv q
  | next =>
    obtain ⟨σ', H', J, q⟩ := hs
    exact fin (v := V.non) (u := Value.none) J rfl q
  | brk =>
    obtain ⟨_, _, _, q⟩ := hs
    exact False.elim q
  | cont =>
    obtain ⟨_, _, _, q⟩ := hs
    exact False.elim q
end L2
namespace L2
open PySem PySem.Spec PyProof.Rows
section
variable {X : Cx} {x : Str} {p pos : Pos} {e : Expr} {es : List Expr} {t : TA} {id T : String} {r : List V -> Hp -> VK -> Prop}
def tCB (r : List V -> Hp -> VK -> Prop) (t : TA) : TE := fun σ H Q => t σ H fun vs H1 => r vs H1 Q
theorem pe_callB (hc : CallR X (.builtin id) r) (hg : Gl X x) (hm : X.mg x = none) (hv : bootBuiltins x = some (.builtin id)) (ha : PA X (e :: es) t) (hn : x ≠ "__name__" := by decide) (hdb : (x == ("__debug__" : Str)) = false := by decide)
    (he : starEach (e :: es) X.env = (false, eval e X.env) :: starEach es X.env := by rfl) (hpl : (backTo pos (starEach es X.env)).any (·.1) = false := by rfl) : PE X (.Call (.Name x p) (e :: es) [] pos) (tCB r t) := by
  intro pins s σ H Q I h
  refine wpAny_Call_Name_kw (ld_blt I hg hm hv ?_ hn hdb)
  exact PyProof.Rows.callWith_builtin1 (thn (ha pos pins s σ H _ I h) fun us s1 ⟨vs, H1, I1, r1, q1⟩ => hc pins s1 σ H1 vs us Q I1 r1 q1) he hpl
theorem pe_callTy (hc : CallR X (.type T) r) (hg : Gl X x) (hm : X.mg x = none) (hv : bootBuiltins x = some (.type T)) (ha : PA X (e :: es) t) (hn : x ≠ "__name__" := by decide) (hdb : (x == ("__debug__" : Str)) = false := by decide)
    (he : starEach (e :: es) X.env = (false, eval e X.env) :: starEach es X.env := by rfl) (hpl : (backTo pos (starEach es X.env)).any (·.1) = false := by rfl) : PE X (.Call (.Name x p) (e :: es) [] pos) (tCB r t) := by
  intro pins s σ H Q I h
  refine wpAny_Call_Name_kw (ld_blt I hg hm hv ?_ hn hdb)
  exact PyProof.Rows.callWith_type1 (thn (ha pos pins s σ H _ I h) fun us s1 ⟨vs, H1, I1, r1, q1⟩ => hc pins s1 σ H1 vs us Q I1 r1 q1) he hpl
end
end L2
namespace HT
open PySem PyProof.Rows
def lexLt : List Int -> List Int -> Bool
  | [], [] => false
  | [], _ :: _ => true
  | _ :: _, [] => false
  | x :: xs, y :: ys => if x = y then lexLt xs ys else decide (x < y)
theorem lexLt_cons (x y : Int) (xs ys : List Int) : lexLt (x :: xs) (y :: ys) = if x = y then lexLt xs ys else decide (x < y) := rfl
theorem lexLt_nil_nil : lexLt [] [] = false := rfl
theorem lexLt_nil_cons (y : Int) (ys : List Int) : lexLt [] (y :: ys) = true := rfl
theorem lexLt_cons_nil (x : Int) (xs : List Int) : lexLt (x :: xs) [] = false := rfl
theorem eqAt_int (A : Around) (s : Shared) (a : Int) (t : Tok) (c : Int) (u : Tok) : ∃ e, SeqAt.EqAt A s (.int a t) (.int c u) e /\ (e = true ↔ a = c) :=
  ⟨(a == c), SeqAt.EqAt.int_int a t c u, by simp⟩
theorem rcLt_int (A : Around) (s : Shared) (a : Int) (t : Tok) (c : Int) (u : Tok) (prog : Program) (w : World) (E : Value -> Shared -> Prop) (Q : Value -> Shared -> Prop) (h : Q (.bool (decide (a < c))) s) :
    wpAny (model prog w) A (richCompare .Lt (.int a t) (.int c u)) Q E s :=
  (PyProof.Rows.lt_int h : wpAny (model prog w) A (compareOp .Lt (.int a t) (.int c u)) Q E s)
section
open PySem.SeqAt
open PySem.AutoSeq1 (wpAny_loadPart')
open PySem.MeetsSeq PySem.MeetsSeq2 PySem.MeetsSeq3
theorem tuple_lt_ints (l b : Addr) (items items2 : Array Value) (n n2 : Nat) (dd dd2 : Option Addr) (sl sl2 : Array (Option Value)) (ns ms : List Int) (hi : IntsAre items.toList ns) (hj : IntsAre items2.toList ms) :
    Meets (Builtin.«tuple.__lt__» ⟨[.ref l, .ref b], []⟩)
      (fun _ R s => s.heap.get? l = some { cls := .type "tuple", dict := dd, data := .seq items n, slots := sl } /\ s.heap.get? b = some { cls := .type "tuple", dict := dd2, data := .seq items2 n2, slots := sl2 } /\
        R (.ok (.ret (.bool (lexLt ns ms)))) s) :=
  .of_wp fun prog w A R s h => by
    obtain ⟨hp, g, d, tk, os⟩ := s; obtain ⟨hl, hb, h⟩ := h
    have f2 := AutoSeq1.sub_tuple_tuple
    have z1 : items.size = ns.length := by rw [<- hi.length]; simp
    have z2 : items2.size = ms.length := by rw [<- hj.length]; simp
    wp_walk using wpAny_loadPart' hl, wpAny_loadPart' hb, wpAny_forIn_list _ (fun rest b s' => b.1 = none /\ s' = ⟨hp, g, d, tk, os⟩ /\ ∃ (vs ws : List Value) (ns' ms' : List Int), rest = vs.zip ws /\
      IntsAre vs ns' /\ IntsAre ws ms' /\ ns'.length + items2.size = ms'.length + items.size /\ R (.ok (.ret (.bool (lexLt ns' ms')))) ⟨hp, g, d, tk, os⟩) _
    case turn =>
      rintro ⟨y, x⟩ rest b s' ⟨hb', rfl, vs, ws, ns', ms', hz, hvi, hwi, hlen, hR⟩
      cases hvi with
      | nil => rw [List.zip_nil_left] at hz; cases hz
      | cons a t hvi' =>
        cases hwi with
        | nil => rw [List.zip_nil_right] at hz; cases hz
        | cons c u hwi' =>
          rw [List.zip_cons_cons] at hz
          injection hz with hyx hrest
          injection hyx with hy hx
          subst hy hx
          rw [lexLt_cons] at hR
          simp only [List.length_cons] at hlen
          obtain ⟨e, he, hiff⟩ := eqAt_int A.in1 ⟨hp, g, d, tk, os⟩ a t c u
          refine wpAny_bind (he prog w _ _ ?_)
          cases e with
          | true =>
            rw [if_pos (hiff.mp rfl)] at hR
            wp_walk
            exact ⟨rfl, rfl, _, _, _, _, hrest, hvi', hwi', by omega, hR⟩
          | false =>
            rw [if_neg (fun q => absurd (hiff.mpr q) Bool.false_ne_true)] at hR
            have hri := rcLt_int A.in1 ⟨hp, g, d, tk, os⟩ a t c u prog w
            wp_walk using hri
            exact ⟨_, rfl, by simpa using hR⟩
    case fin =>
      rintro ⟨b1, b2⟩ s' ⟨hb', rfl, vs, ws, ns', ms', hz, hvi, hwi, hlen, hR⟩
      simp only at hb'
      subst hb'
      have hv : lexLt ns' ms' = decide (items.size < items2.size) := by
        cases hvi with
        | nil =>
          cases hwi with
          | nil =>
            simp only [List.length_nil] at hlen
            rw [lexLt_nil_nil]
            exact (decide_eq_false (by omega)).symm
          | cons c u hw =>
            simp only [List.length_nil, List.length_cons] at hlen
            rw [lexLt_nil_cons]
            exact (decide_eq_true (by omega)).symm
        | cons a t hv =>
          cases hwi with
          | nil =>
            simp only [List.length_nil, List.length_cons] at hlen
            rw [lexLt_cons_nil]
            exact (decide_eq_false (by omega)).symm
          | cons c u hw =>
            rw [List.zip_cons_cons] at hz
            cases hz
      rw [hv] at hR
      wp_walk
      exact ⟨_, rfl, by simpa [Builtin.Tuple.tupleCompareSizes] using hR⟩
    case h =>
      exact ⟨rfl, rfl, items.toList, items2.toList, ns, ms, rfl, hi, hj, by omega, h⟩
end
section
variable {prog : Program} {w : World} {A : Around} {E : Value -> Shared -> Prop} {s : Shared}
theorem lt_tupInts {l b : Addr} {items items2 : Array Value} {ns ms : List Int} {Q : Value -> Shared -> Prop} (hl : IsTup s.heap l items) (hb : IsTup s.heap b items2) (hi : IntsAre items.toList ns) (hj : IntsAre items2.toList ms)
    (hu : A.units < cLine) (h : Q (.bool (lexLt ns ms)) s) : wpAny (model prog w) A (compareOp .Lt (.ref l) (.ref b)) Q E s := by
  obtain ⟨⟨cls, dd, data, sl⟩, ho, hc, n, hd⟩ := id hl
  obtain ⟨⟨cls2, dd2, data2, sl2⟩, ho2, hc2, n2, hd2⟩ := id hb
  simp only at hc hd hc2 hd2
  subst hc hd hc2 hd2
  exact richCompare_meets_room (op := .Lt) ⟨_, ho, rfl⟩ ⟨_, ho2, rfl⟩ PySem.F.slot_tuple_lt PySem.F.entry_tuple_lt (PySem.F.args_tuple_lt_2 _ _) (tuple_lt_ints l b items items2 n n2 dd dd2 sl sl2 ns ms hi hj)
    ⟨ho, ho2, show Value.bool (lexLt ns ms) ≠ Value.notImplemented /\ Q (.bool (lexLt ns ms)) s from ⟨(fun x => nomatch x), h⟩⟩ hu
theorem cat_tup {t b : Addr} {vs ws : List Value} {Q : Value -> Shared -> Prop} (ht : IsTup s.heap t vs.toArray) (hb : IsTup s.heap b ws.toArray) (hv : vs ≠ [])
    (h1 : ws = [] -> Q (.ref t) s) (h2 : ws ≠ [] -> Q (.ref s.heap.objs.size) { s with heap := s.heap.push { cls := .type "tuple", data := .seq (vs ++ ws).toArray } })
    (hsz : vs.length + ws.length <= sizeLine) : wpAny (model prog w) A (binaryOp .Add (.ref t) (.ref b)) Q E s := by
  obtain ⟨⟨cls, dd, data, sl⟩, ho, hc, n, hd⟩ := id ht
  obtain ⟨⟨cls2, dd2, data2, sl2⟩, ho2, hc2, n2, hd2⟩ := id hb
  simp only at hc hd hc2 hd2
  subst hc hd hc2 hd2
  have e : vs.toArray ++ ws.toArray = (vs ++ ws).toArray := by simp
  by_cases hw : ws = []
  . exact concat_meets ⟨_, ho, rfl⟩ ⟨_, ho2, rfl⟩ noFill_tuple_add seq_tuple_add PySem.F.slot_tuple_add PySem.F.entry_tuple_add (PySem.F.args_tuple_add_2 _ _)
      (tuple_addW1 t b vs.toArray ws.toArray n n2 dd dd2 sl sl2 (by simpa using hv) (by simp [hw])) ⟨ho, ho2, h1 hw⟩
  . refine concat_meets ⟨_, ho, rfl⟩ ⟨_, ho2, rfl⟩ noFill_tuple_add seq_tuple_add PySem.F.slot_tuple_add PySem.F.entry_tuple_add (PySem.F.args_tuple_add_2 _ _)
      (tuple_addW2 t b vs.toArray ws.toArray n n2 dd dd2 sl sl2 (by simpa using hv) (by simpa using hw) (by rw [List.size_toArray, List.size_toArray]; exact hsz)) ⟨ho, ho2, ?_⟩
    rw [e]
    exact h2 hw
def sIx (n d : Nat) : Option Int -> Nat
  | none => d
  | some v => if v < 0 then (v + (n : Int)).toNat else min v.toNat n
end
end HT
namespace L2
open PySem PySem.Spec PyProof.Rows
abbrev TO := St -> Hp -> (Option Int -> Hp -> Prop) -> Prop
def PO (X : Cx) (e : Option Expr) (t : TO) : Prop :=
  ∀ (pins : List (Addr × Obj)) (s : Shared) (σ : St) (H : Hp) (Q : Option Int -> Hp -> Prop), Inv X pins σ H s -> t σ H Q ->
    wpAny (model X.prog X.w) X.A (evalPart e X.env) (fun u s' => ∃ o H', Inv X pins σ H' s' /\ IsPart u o /\ Q o H') X.xe s
def tNoPart : TO := fun _ H Q => Q none H
def tPart (t : TE) : TO := fun σ H Q => t σ H fun x H1 => ∃ i, x = .int i /\ Q (some i) H1
theorem intsAre_of {ns : List Int} : ∀ {us : List Value}, Vals (ns.map V.int) us -> IntsAre us ns := by
  induction ns with
  | nil => intro us r; rw [List.map_nil] at r; cases r; exact .nil
  | cons n ns ih =>
    intro us r
    rw [List.map_cons] at r
    cases r with
    | cons r1 r2 =>
      obtain ⟨t, e⟩ := r1
      subst e
      exact .cons n t (ih r2)
section
variable {X : Cx} {e : Expr} {te : TE} {lo hi : Option Expr} {tl th : TO} {pos p2 : Pos}
theorem po_none : PO X none tNoPart := by
  intro pins s σ H Q I h
  rw [evalPart_none]
  exact wpAny_pure ⟨none, H, I, .none, h⟩
theorem po_some (h : PE X e te) : PO X (some e) (tPart te) := by
  intro pins s σ H Q I hw
  rw [evalPart_some]
  refine thn (h pins s σ H _ I hw) fun u s1 ⟨x, H1, I1, r1, q1⟩ => ?_
  obtain ⟨i, rfl, q⟩ := q1
  obtain ⟨t, rfl⟩ := r1
  exact ⟨some i, H1, I1, .int i t, q⟩
def cutV (xs : List V) (lo hi : Option Int) : List V := (xs.drop (HT.sIx xs.length 0 lo)).take (HT.sIx xs.length xs.length hi - HT.sIx xs.length 0 lo)
def rLtT (K : PySem.W.Frag) : R2 := fun x y H Q => ∃ a b ns ms, x = .ref a /\ y = .ref b /\ SqT K H a (ns.map V.int) /\ SqT K H b (ms.map V.int) /\ Q (.bl (HT.lexLt ns ms)) H
theorem op_ltT (hu : X.A.units < cLine) : OpR X (compareOp .Lt) (rLtT X.K) := by
  intro pins s σ H x y v u Q I rx ry h
  obtain ⟨a, b, ns, ms, rfl, rfl, ha, hb, q⟩ := h
  cases rx
  cases ry
  obtain ⟨its, r1, p1, _⟩ := I.tuple ha
  obtain ⟨its2, r2, p2, _⟩ := I.tuple hb
  have i1 : IntsAre its.toArray.toList ns := intsAre_of r1
  have i2 : IntsAre its2.toArray.toList ms := intsAre_of r2
  exact HT.lt_tupInts p1 p2 i1 i2 hu ⟨.bl (HT.lexLt ns ms), H, I, rfl, q⟩
def rCatT (K : PySem.W.Frag) : R2 := fun x y H Q => ∃ a b xs ys, x = .ref a /\ y = .ref b /\ SqT K H a xs /\ SqT K H b ys /\ xs ≠ [] /\ xs.length + ys.length <= sizeLine /\
  (ys = [] -> Q (.ref a) H) /\ (ys ≠ [] -> ∀ p, H p = none -> Q (.ref p) (upd H p (.tup (xs ++ ys))))
theorem Vals.nil_iff {xs : List V} {us : List Value} (r : Vals xs us) : us = [] ↔ xs = [] := by
  cases r with
  | nil => simp
  | cons _ _ => simp
theorem op_catT : OpR X (binaryOp .Add) (rCatT X.K) := by
  intro pins s σ H x y v u Q I rx ry h
  obtain ⟨a, b, xs, ys, rfl, rfl, ha, hb, hx, hz, q1, q2⟩ := h
  cases rx
  cases ry
  obtain ⟨its, r1, p1, _⟩ := I.tuple ha
  obtain ⟨its2, r2, p2, _⟩ := I.tuple hb
  refine HT.cat_tup p1 p2 (fun z => hx (r1.nil_iff.mp z)) (fun z => ⟨.ref a, H, I, rfl, q1 (r2.nil_iff.mp z)⟩) (fun z => ?_) (by rw [<- r1.length, <- r2.length]; exact hz)
  refine ⟨.ref s.heap.objs.size, _, I.laid (t' := s.toks) (o := .tup (xs ++ ys)) (fun b ob q => Heap.get?_push_of_some _ q) (Nat.le_refl _) ?_, rfl, q2 (fun w => z (r2.nil_iff.mpr w)) _ (I.hok.fresh (Nat.le_refl _))⟩
  exact ⟨by rw [List.length_append]; exact hz, _, r1.append r2, IsTup.new _ _⟩
end
end L2
namespace L2
open PySem PySem.Spec PyProof.Rows
def ixN (n : Nat) (i : Int) : Option Nat := if 0 <= i then (if i < n then some i.toNat else none) else if -(n : Int) <= i then some (i + n).toNat else none
def atI {α : Type} (xs : List α) (i : Int) : Option α := (ixN xs.length i).bind fun j => xs[j]?
theorem ixN_seq {n : Nat} {i : Int} {j : Nat} (h : ixN n i = some j) : seqIndex? i n = some j /\ j < n /\ -(n : Int) <= i /\ i < n := by
  unfold ixN at h
  by_cases h0 : 0 <= i
  . rw [if_pos h0] at h
    by_cases h1 : i < n
    . rw [if_pos h1] at h
      have e : i.toNat = j := Option.some.inj h
      exact ⟨by rw [seqIndex_of h0 h1, e], by omega, by omega, h1⟩
    . rw [if_neg h1] at h; cases h
  . rw [if_neg h0] at h
    by_cases h1 : -(n : Int) <= i
    . rw [if_pos h1] at h
      have e : (i + n).toNat = j := Option.some.inj h
      exact ⟨by rw [seqIndex_neg (by omega) h1, e], by omega, h1, by omega⟩
    . rw [if_neg h1] at h; cases h
theorem atI_get {α : Type} {xs : List α} {i : Int} {v : α} (h : atI xs i = some v) : ∃ j, seqIndex? i xs.length = some j /\ xs[j]? = some v /\ j < xs.length /\ -(xs.length : Int) <= i /\ i < xs.length := by
  unfold atI at h
  cases e : ixN xs.length i with
  | none => rw [e] at h; cases h
  | some j =>
    rw [e] at h
    obtain ⟨h1, h2, h3, h4⟩ := ixN_seq e
    exact ⟨j, h1, h, h2, h3, h4⟩
theorem atI_nat {α : Type} {xs : List α} {j : Nat} {v : α} (h : xs[j]? = some v) : atI xs (j : Int) = some v := by
  have hj : j < xs.length := (List.getElem?_eq_some_iff.mp h).1
  have e : ixN xs.length (j : Int) = some j := by
    unfold ixN
    rw [if_pos (by omega), if_pos (by omega)]; simp
  unfold atI; rw [e]; exact h
def PlainIx (b : Expr) : Prop := ∀ o i, subscripted b false o i = operate [o, i] (getItem o i)
def IxR (X : Cx) (r : R2) : Prop :=
  ∀ (value slice : Expr) (pins : List (Addr × Obj)) (s : Shared) (σ : St) (H : Hp) (x y : V) (v u : Value) (Q : VK), Inv X pins σ H s -> RelV x v -> RelV y u -> r x y H Q ->
    subscripted slice false v u = operate [v, u] (getItem v u) -> wpAny (model X.prog X.w) X.A (subscriptTail value slice v u) (EP X pins σ Q) X.xe s
def MtR (X : Cx) (id : String) (r : V -> List V -> Hp -> VK -> Prop) : Prop :=
  ∀ (pins : List (Addr × Obj)) (s : Shared) (σ : St) (H : Hp) (x : V) (xs : List V) (v : Value) (us : List Value) (Q : VK), Inv X pins σ H s -> RelV x v -> Vals xs us -> r x xs H Q ->
    wpAny (model X.prog X.w) X.A (call (.builtin id) (v :: us)) (EP X pins σ Q) X.xe s
section
variable {X : Cx} {a b : Expr} {ta tb : TE} {pos : Pos}
theorem pe_ix {r : R2} (hr : IxR X r) (ha : PE X a ta) (hb : PE X b tb) (hs : PlainIx b) : PE X (.Subscript a b pos) (tOp r ta tb) := by
  intro pins s σ H Q I h
  exact Subscript_ (binT ha hb I h fun v u s2 x y H2 I2 rx ry q => hr a b pins s2 σ H2 x y v u Q I2 rx ry q (hs _ _))
def rIxL (K : PySem.W.Frag) : R2 := fun x y H Q => ∃ p xs i v, x = .ref p /\ y = .int i /\ SqL K H p xs /\ atI xs i = some v /\ Q v H
def rIxT (K : PySem.W.Frag) : R2 := fun x y H Q => ∃ p xs i v, x = .ref p /\ y = .int i /\ SqT K H p xs /\ atI xs i = some v /\ Q v H
theorem ix_list : IxR X (rIxL X.K) := by
  intro value slice pins s σ H x y v u Q I rx ry h hs
  obtain ⟨p, xs, i, z, rfl, rfl, hq, he, q⟩ := h
  cases rx
  obtain ⟨t, rfl⟩ := ry
  obtain ⟨its, r, pl, hz⟩ := I.list hq
  obtain ⟨j, h1, h2, h3, h4, h5⟩ := atI_get he
  obtain ⟨w, ew, rw'⟩ := r.get h2
  have hl := r.length
  have hn := line63
  have fin : EP X pins σ Q w s := ⟨z, H, I, rw', q⟩
  by_cases h0 : 0 <= i
  . have hj : i.toNat = j := by
      rw [seqIndex_of h0 h5] at h1
      exact Option.some.inj h1
    exact item_listR pl.isList h0 (by omega) (by rw [hj]; simpa using ew) fin hs
  . have hj : (i + (its.toArray.size : Int)).toNat = j := by
      rw [seqIndex_neg (by omega) h4] at h1
      rw [List.size_toArray, <- hl]
      exact Option.some.inj h1
    exact subscriptTail_builtinR (x := w) pl.isList.typeIs slot_list_getitem.lookup
      (wpAny_getItem_list_neg (Q := fun r s' => r = w /\ EP X pins σ Q r s') pl.isList (by omega) (by rw [List.size_toArray] <;> omega) (by omega) (by rw [hj]; simpa using ew) ⟨rfl, fin⟩) hs
theorem ix_tup : IxR X (rIxT X.K) := by
  intro value slice pins s σ H x y v u Q I rx ry h hs
  obtain ⟨p, xs, i, z, rfl, rfl, hq, he, q⟩ := h
  cases rx
  obtain ⟨t, rfl⟩ := ry
  obtain ⟨its, r, pl, hz⟩ := I.tuple hq
  obtain ⟨j, h1, h2, h3, h4, h5⟩ := atI_get he
  obtain ⟨w, ew, rw'⟩ := r.get h2
  have hl := r.length
  have hn := line63
  have fin : EP X pins σ Q w s := ⟨z, H, I, rw', q⟩
  exact subscriptTail_builtinR (x := w) pl.typeIs slot_tuple_getitem.lookup
    (getItem_tuple (j := j) (Q := fun r s' => r = w /\ EP X pins σ Q r s') pl (by omega) (by omega) (by rw [List.size_toArray, <- hl]; exact h1) (by simpa using ew) ⟨rfl, fin⟩) hs
theorem mapSeq_set (its : List Value) (n j : Nat) (u : Value) : Obj.mapSeq (·.setIfInBounds j u) { cls := .type "list", data := .seq its.toArray n } = { cls := .type "list", data := .seq (its.set j u).toArray n } := by
  simp [Obj.mapSeq]
theorem Inv.lst {pins : List (Addr × Obj)} {σ : St} {H : Hp} {s : Shared} {p : Addr} {xs : List V} (I : Inv X pins σ H s) (h : H p = some (.lst xs)) :
    ∃ (its : List Value) (n : Nat), Vals xs its /\ s.heap.get? p = some { cls := .type "list", data := .seq its.toArray n } /\ xs.length <= sizeLine := by
  obtain ⟨z, its, n, r, e⟩ := I.hok p _ h
  exact ⟨its, n, r, e, z⟩
theorem Inv.lstUpd {pins : List (Addr × Obj)} {σ : St} {H : Hp} {s : Shared} {p : Addr} {xs ys : List V} {its its' : List Value} {n n' : Nat} {f : Obj -> Obj} (I : Inv X pins σ H s) (h : H p = some (.lst xs))
    (ho : s.heap.get? p = some { cls := .type "list", data := .seq its.toArray n }) (hf : f { cls := .type "list", data := .seq its.toArray n } = { cls := .type "list", data := .seq its'.toArray n' }) (r : Vals ys its') (hz : ys.length <= sizeLine) (t : Nat) :
    Inv X pins σ (upd H p (.lst ys)) { s with heap := s.heap.update p f, toks := t } := by
  have e : (s.heap.update p f).get? p = some { cls := .type "list", data := .seq its'.toArray n' } := by
    rw [Heap.get?_update_self f ho (by rw [hf] <;> rfl), hf]
  refine I.write (x := p) (e := p) (by rw [h]; trivial) (.inl rfl) (fun b u hb q => (Heap.get?_update_other _ _ (Ne.symm hb)).trans q) ⟨_, e⟩ ?_
  exact ⟨hz, its', n', r, e⟩
def rSetL : V -> V -> V -> Hp -> (Hp -> Prop) -> Prop := fun o i v H Q => ∃ p xs k j, o = .ref p /\ i = .int k /\ H p = some (.lst xs) /\ ixN xs.length k = some j /\ Q (upd H p (.lst (xs.set j v)))
theorem set_list : PSet X rSetL := by
  intro pins s σ H o i v ov iv u Q I ro ri rv h
  obtain ⟨p, xs, k, j, rfl, rfl, hp, hj, q⟩ := h
  cases ro
  obtain ⟨t, rfl⟩ := ri
  obtain ⟨its, n, r, ho, hz⟩ := I.lst hp
  obtain ⟨h1, h2, h3, h4⟩ := ixN_seq hj
  have hl := r.length
  have hn := line63
  have I' : Inv X pins σ (upd H p (.lst (xs.set j v))) { s with heap := s.heap.update p (Obj.mapSeq (·.setIfInBounds j u)) } :=
    I.lstUpd hp ho (mapSeq_set its n j u) (r.set rv j) (by rw [List.length_set]; exact hz) s.toks
  by_cases h0 : 0 <= k
  . have hk : k.toNat = j := by
      rw [seqIndex_of h0 h4] at h1
      exact Option.some.inj h1
    exact PySem.W.ki_setAt ho h0 (by omega) (by rw [List.size_toArray, <- hl]; exact h4) (by rw [hk]; exact ⟨_, I', q⟩)
  . have hk : (k + (its.toArray.size : Int)).toNat = j := by
      rw [seqIndex_neg (by omega) h3] at h1
      rw [List.size_toArray, <- hl]
      exact Option.some.inj h1
    exact PySem.W.ki_setBack ho (by omega) (by rw [List.size_toArray, <- hl]; exact h3) (by omega) (by rw [hk]; exact ⟨_, I', q⟩)
theorem call_len_seq : CallR X (.builtin "len") (fun xs H Q => ∃ p ys, xs = [.ref p] /\ (SqL X.K H p ys \/ SqT X.K H p ys) /\ Q (.int ys.length) H) := by
  intro pins s σ H xs us Q I r h
  obtain ⟨p, ys, rfl, hq, q⟩ := h
  obtain ⟨u, rfl, rx⟩ := vals1 r
  cases rx
  have hn := line63
  rcases hq with hq | hq
  . obtain ⟨its, r', pl, hz⟩ := I.list hq
    have hlen := r'.length
    exact Calls.call_len_list pl.isList (by simp only [List.size_toArray] <;> omega) ⟨.int ys.length, H, I.tok _, ⟨s.toks + 1, by rw [List.size_toArray, hlen]⟩, q⟩
  . obtain ⟨its, r', pl, hz⟩ := I.tuple hq
    have hlen := r'.length
    exact len_tuple pl (by simp only [List.size_toArray] <;> omega) ⟨.int ys.length, H, I.tok _, ⟨s.toks + 1, by rw [List.size_toArray, hlen]⟩, q⟩
theorem call_list_of : CallR X (.type "list") (fun xs H Q => ∃ p ys, xs = [.ref p] /\ (SqL X.K H p ys \/ SqT X.K H p ys) /\ ∀ l, H l = none -> Q (.ref l) (upd H l (.lst ys))) := by
  intro pins s σ H xs us Q I r h
  obtain ⟨p, ys, rfl, hq, q⟩ := h
  obtain ⟨u, rfl, rx⟩ := vals1 r
  cases rx
  have fin : ∀ (its : List Value), Vals ys its -> ys.length <= sizeLine -> ∀ (h' : Heap) (c' : Nat), (∀ b o', s.heap.get? b = some o' -> h'.get? b = some o') ->
      h'.get? s.heap.objs.size = some { cls := .type "list", dict := none, data := .seq its.toArray c', slots := #[] } -> EP X pins σ Q (.ref s.heap.objs.size) { s with heap := h' } := fun its r' hz h' c' kp e =>
    ⟨.ref s.heap.objs.size, _, I.laid (t' := s.toks) kp (Nat.le_refl _) (show ObjOk X.prog X.w _ h' _ (.lst ys) from ⟨hz, its, c', r', e⟩), rfl, q _ (I.hok.fresh (Nat.le_refl _))⟩
  rcases hq with hq | hq
  . obtain ⟨its, r', pl, hz⟩ := I.list hq
    have hlen := r'.length
    obtain ⟨o, ho, hc, n, hd⟩ := pl.isList
    exact call_list_seq p (.inl rfl) ho hc hd (fun h' c' kp e => fin its r' hz h' c' kp e) (by simp only [List.size_toArray] <;> omega)
  . obtain ⟨its, r', pl, hz⟩ := I.tuple hq
    have hlen := r'.length
    obtain ⟨o, ho, hc, n, hd⟩ := pl
    exact call_list_seq p (.inr rfl) ho hc hd (fun h' c' kp e => fin its r' hz h' c' kp e) (by simp only [List.size_toArray] <;> omega)
theorem call_tuple_of : CallR X (.type "tuple") (fun xs H Q => ∃ p ys, xs = [.ref p] /\ ((SqL X.K H p ys /\ ∀ l, H l = none -> Q (.ref l) (upd H l (.tup ys))) \/ (SqT X.K H p ys /\ Q (.ref p) H))) := by
  intro pins s σ H xs us Q I r h
  obtain ⟨p, ys, rfl, h⟩ := h
  obtain ⟨u, rfl, rx⟩ := vals1 r
  cases rx
  rcases h with ⟨hq, q⟩ | ⟨hq, q⟩
  . obtain ⟨its, r', pl, hz⟩ := I.list hq
    have hlen := r'.length
    refine call_tuple_list pl.isList (fun h' kp => ?_) (by simp only [List.size_toArray] <;> omega)
    have I1 : Inv X pins σ H { s with heap := h' } := I.kept (t' := s.toks) kp
    have I2 : Inv X pins σ (upd H h'.objs.size (.tup ys)) { s with heap := h'.push { cls := .type "tuple", data := .seq its.toArray } } :=
      I1.laid (t' := s.toks) (fun b o e => Heap.get?_push_of_some _ e) (Nat.le_refl _) (show ObjOk X.prog X.w _ _ _ (.tup ys) from ⟨hz, its, r', IsTup.new _ _⟩)
    exact ⟨.ref h'.objs.size, _, I2, rfl, q _ (I1.hok.fresh (Nat.le_refl _))⟩
  . obtain ⟨its, r', pl, hz⟩ := I.tuple hq
    exact call_tuple_same pl ⟨.ref p, H, I, rfl, q⟩
def tyV (K : PySem.W.Frag) (T : String) (x : V) (H : Hp) : Prop := match x with
  | .str _ => T = "str"
  | .int _ => T = "int"
  | .ref p => (T = "list" /\ ∃ xs, SqL K H p xs) \/ (T = "tuple" /\ ∃ o, K.lookup p = some o /\ o.cls = .type "tuple" /\ o.dict = none) \/
      (T = "dict" /\ ((∃ kvs, H p = some (.dK kvs)) \/ ∃ kvs, H p = some (.dT kvs))) \/ (T = "set" /\ ∃ S n, H p = some (.set S n))
  | _ => False
theorem tyV_is {pins : List (Addr × Obj)} {σ : St} {H : Hp} {s : Shared} {T : String} {x : V} {v : Value} (I : Inv X pins σ H s) (r : RelV x v) (ty : tyV X.K T x H) :
    s.TypeIs v T /\ ∀ a, v = .ref a -> ∃ ob, s.heap.get? a = some ob /\ ob.dict = none := by
  cases x with
  | str z =>
    obtain ⟨t, rfl⟩ := r
    cases (show T = "str" from ty)
    exact ⟨typeIs_str s z t, fun _ e => nomatch e⟩
  | int i =>
    obtain ⟨t, rfl⟩ := r
    cases (show T = "int" from ty)
    exact ⟨typeIs_int s i t, fun _ e => nomatch e⟩
  | ref p =>
    cases r
    rcases ty with ⟨rfl, xs, hq⟩ | ⟨rfl, o, hk, hc, hd⟩ | ⟨rfl, hk⟩ | ⟨rfl, S, n, hk⟩
    . obtain ⟨its, _, pl, _⟩ := I.list hq
      refine ⟨pl.isList.typeIs, fun a e => ?_⟩
      cases e
      obtain ⟨o, n, e, c, hd, _⟩ := pl
      exact ⟨o, e, hd⟩
    . refine ⟨⟨o, I.kIn p o hk, hc⟩, fun a e => ?_⟩
      cases e
      exact ⟨o, I.kIn _ o hk, hd⟩
    . have z : ∃ o, s.heap.get? p = some o /\ o.ExactDict := by
        rcases hk with ⟨kvs, hk⟩ | ⟨kvs, hk⟩
        . obtain ⟨_, _, _, _, o, _, _, e, ex, _⟩ := I.hok p _ hk
          exact ⟨o, e, ex⟩
        . obtain ⟨_, _, _, _, o, _, _, e, ex, _⟩ := I.hok p _ hk
          exact ⟨o, e, ex⟩
      obtain ⟨o, e, ex⟩ := z
      refine ⟨⟨o, e, ex.1⟩, fun a e2 => ?_⟩
      cases e2
      exact ⟨o, e, ex.2.1⟩
    . obtain ⟨o, _, _, _, e, ex, _⟩ := I.hok p _ hk
      refine ⟨⟨o, e, ex.1⟩, fun a e2 => ?_⟩
      cases e2
      exact ⟨o, e, ex.2.1⟩
  | _ => exact False.elim ty
def tBM0 (K : PySem.W.Frag) (T : String) (r : V -> List V -> Hp -> VK -> Prop) (to : TE) : TE := fun σ H Q => to σ H fun x H1 => tyV K T x H1 /\ r x [] H1 Q
def tBM (K : PySem.W.Frag) (T : String) (r : V -> List V -> Hp -> VK -> Prop) (to : TE) (t : TA) : TE := fun σ H Q => to σ H fun x H1 => tyV K T x H1 /\ t σ H1 fun xs H2 => r x xs H2 Q
variable {o e : Expr} {es : List Expr} {to : TE} {t : TA} {name : Str} {apos cpos : Pos} {T id : String} {r : V -> List V -> Hp -> VK -> Prop}
theorem pe_bm0 (pa : PlainAttrs T) (slot : Slot T name id) (hty : typeOf (.builtin id) = pure (.type "method_descriptor")) (hm : MtR X id r) (ho : PE X o to)
    (hbase : attributeBase o name X.env (eval o X.env) = eval o X.env := by rfl) (hline : (apos.endLine == cpos.line) = true := by rfl) : PE X (.Call (.Attribute o name apos) [] [] cpos) (tBM0 X.K T r to) := by
  intro pins s σ H Q I h
  refine wpAny_Call_method0_late hbase hline (thn (ho pins s σ H _ I h) fun v s1 ⟨x, H1, I1, r1, ty, q1⟩ => ?_)
  obtain ⟨h1, h2⟩ := tyV_is I1 r1 ty
  exact ⟨T, id, pa, slot, hty, h1, h2, Calls.callWith_builtin rfl (PySem.evalArgs_none (hm pins s1 σ H1 x [] v [] Q I1 r1 .nil q1))⟩
theorem pe_bm (pa : PlainAttrs T) (slot : Slot T name id) (hty : typeOf (.builtin id) = pure (.type "method_descriptor")) (hm : MtR X id r) (ho : PE X o to) (ha : PA X (e :: es) t)
    (hbase : attributeBase o name X.env (eval o X.env) = eval o X.env := by rfl)
    (hfew : ((backTo cpos (starEach (e :: es) X.env)).all (fun x => !x.1) && (backToKw cpos (keywordEach [] X.env)).all (fun x => x.1.isSome)
      && decide ((e :: es).length + ([] : List Keyword).length + (if ([] : List Keyword).isEmpty then 0 else 1) < 30)) = true := by rfl)
    (hline : (apos.endLine == cpos.line) = true := by rfl) (hs : starEach (e :: es) X.env = (false, eval e X.env) :: starEach es X.env := by rfl) (hplain : (backTo cpos (starEach es X.env)).any (·.1) = false := by rfl) :
    PE X (.Call (.Attribute o name apos) (e :: es) [] cpos) (tBM X.K T r to t) := by
  intro pins s σ H Q I h
  refine wpAny_Call_method_late hbase hfew hline rfl (thn (ho pins s σ H _ I h) fun v s1 ⟨x, H1, I1, r1, ty, q1⟩ => ?_)
  obtain ⟨h1, h2⟩ := tyV_is I1 r1 ty
  refine ⟨T, id, pa, slot, hty, h1, h2, ?_⟩
  have hA := ha cpos pins s1 σ H1 _ I1 q1
  rw [hs] at hA ⊢
  refine Calls.callWith_builtin (by show (false || (backTo cpos (starEach es X.env)).any (·.1)) = false; rw [hplain] <;> rfl) (Calls.evalArgs_plain ?_)
  exact thn hA fun us s2 ⟨vs, H2, I2, r2, q2⟩ => hm pins s2 σ H2 x vs v us Q I2 r1 r2 q2
/- xs.append(e), list.index on a module's tuple .. are MtR facts of 06m -/
end
end L2
namespace L2
open PySem PySem.Spec PyProof.Rows
def MtM (X : Cx) (id : String) (r : V -> List V -> Hp -> VK -> Prop) : Prop :=
  ∀ (pins : List (Addr × Obj)) (s : Shared) (σ : St) (H : Hp) (x : V) (xs : List V) (v : Value) (us : List Value) (Q : VK), Inv X pins σ H s -> RelV x v -> Vals xs us -> r x xs H Q ->
    wpAny (model X.prog X.w) X.A (call (.builtin id) (v :: us)) (EP X pins σ Q) X.xe s
theorem Vals.one : ∀ {x : V} {us : List Value}, Vals [x] us -> ∃ u, us = [u] /\ RelV x u
  | _, _, .cons r .nil => ⟨_, rfl, r⟩
theorem Vals.zero : ∀ {us : List Value}, Vals [] us -> us = []
  | _, .nil => rfl
theorem Vals.reverse {xs : List V} {us : List Value} (h : Vals xs us) : Vals xs.reverse us.reverse := by
  induction h with
  | nil => exact .nil
  | cons r t ih => rw [List.reverse_cons, List.reverse_cons]; exact Vals.append ih (.cons r .nil)
section
variable {X : Cx} {pins : List (Addr × Obj)} {σ : St} {H : Hp} {s : Shared} {l b : Addr} {xs ys zs : List V}
theorem Inv.lset {its its' : List Value} {n : Nat} {f : Array Value -> Array Value} {t' : Nat} (I : Inv X pins σ H s) (hH : H l = some (.lst xs))
    (e : s.heap.get? l = some { cls := .type "list", data := .seq its.toArray n }) (hf : f its.toArray = its'.toArray) (hv : Vals ys its') (hz : ys.length <= sizeLine) :
    Inv X pins σ (upd H l (.lst ys)) { s with heap := s.heap.update l (Obj.mapSeq f), toks := t' } := by
  have q := PySem.IsL.update e f
  rw [hf] at q
  refine I.write (x := l) (e := l) (by rw [hH]; exact trivial) (.inl rfl) (fun b' u hb hu => (Heap.get?_update_other s.heap (Obj.mapSeq f) (Ne.symm hb)).trans hu) ⟨_, q⟩ ?_
  exact ⟨hz, its', _, hv, q⟩
theorem Inv.lnew {its : List Value} {t' : Nat} (I : Inv X pins σ H s) (hv : Vals ys its) (hz : ys.length <= sizeLine) :
    Inv X pins σ (upd H s.heap.objs.size (.lst ys)) { s with heap := s.heap.push { cls := .type "list", data := .seq its.toArray }, toks := t' } :=
  I.laid (fun _ _ q => Heap.get?_push_of_some _ q) (Nat.le_refl _) ⟨hz, its, 0, hv, Heap.get?_push_size _ rfl⟩
theorem Inv.fresh (I : Inv X pins σ H s) : H s.heap.objs.size = none := I.hok.fresh (Nat.le_refl _)
theorem Inv.lstM (I : Inv X pins σ H s) (hH : H l = some (.lst xs)) : xs.length <= sizeLine /\ ∃ (its : List Value) (n : Nat), Vals xs its /\ xs.length = its.length /\ s.heap.get? l = some { cls := .type "list", data := .seq its.toArray n } := by
  obtain ⟨z, its, n, r, e⟩ := I.hok l _ hH
  exact ⟨z, its, n, r, r.length, e⟩
end
section
variable {X : Cx}
def rAppend : V -> List V -> Hp -> VK -> Prop := fun x vs H Q => ∃ l xs y, x = .ref l /\ vs = [y] /\ H l = some (.lst xs) /\ xs.length < sizeLine /\ Q .non (upd H l (.lst (xs ++ [y])))
theorem mt_append : MtM X "list.append" rAppend := by
  intro pins s σ H x vs v us Q I rx rv h
  obtain ⟨l, xs, y, rfl, rfl, hH, hz, q⟩ := h
  cases rx
  obtain ⟨u, rfl, ru⟩ := rv.one
  obtain ⟨z, its, n, r, hl, e⟩ := I.lstM hH
  refine call_meets F.slot_list_append ⟨_, e, rfl⟩ F.entry_list_append (F.args_list_append_2 _ _) (PySem.list_append l its.toArray n u (by rw [List.size_toArray]; omega)) ⟨e, ?_⟩
  refine ⟨.non, _, I.lset (its' := its ++ [u]) hH e (by simp) (r.append (.cons ru .nil)) ?_, rfl, q⟩
  rw [List.length_append, List.length_singleton]
  omega
end
section
variable {prog : Program} {w : World} {A : Around} {E : Value -> Shared -> Prop} {s : Shared}
set_option maxRecDepth 100000 in
end
section
variable {X : Cx}
end
end L2
namespace Att
open PySem PySem.W PySem.Calls PyProof.Rows
theorem ints_of_wellAll {P : Params} {h : Heap} : ∀ (ns : List Int) (vs : List Value), WellAll P h vs (ns.map WData.int) -> IntsAre vs ns := by
  intro ns
  induction ns with
  | nil =>
    intro vs w
    rw [List.map_nil] at w
    cases w
    exact .nil
  | cons n ns ih =>
    intro vs w
    rw [List.map_cons] at w
    cases w with
    | cons a b =>
      cases a
      exact .cons _ _ (ih _ b)
theorem script_of {l : OpenLaw} {n : Nat} (hn : l.most = some n) {P : Params} {h : Heap} {args : List WData} {vals : List Value}
    (hpre : l.row.toRowW.claim.pre args = true) (hwl : WellAll P h vals args) :
    ∃ a vs ns, vals = [Value.ref a] /\ args = [WData.list (ns.map WData.int)] /\ h.get? a = some { cls := .type "list", data := .seq vs.toArray } /\ IntsAre vs ns /\ ns.length <= n := by
  have hsh : WShape.hasAll [] args [.list .int] = true := (pre_splitW hpre).1
  have hc : l.pre.holds [] { args := args } = true := (pre_splitW hpre).2
  obtain ⟨d, r, rfl, h1, h2⟩ := hasAllW_cons hsh
  obtain rfl := hasAllW_nil h2
  obtain ⟨xs, rfl, h3⟩ := hasW_list h1
  obtain ⟨ns, rfl⟩ := items_int h3
  have hlen : ns.length <= n := by
    unfold OpenLaw.pre at hc
    have h4 : (WTm.not (.lt (.lit (.int (n : Int))) (.len (.arg 0)))).holds [] { args := [.list (ns.map .int)] } = true := by
      have h4 := (holds_andW hc).1
      rw [hn] at h4
      exact h4
    have h5 := condW_of h4 (w_not (w_lt w_lit (w_len_list (w_arg rfl))))
    rw [List.length_map] at h5
    refine Nat.le_of_not_lt fun q => ?_
    have q' : (n : Int) < ((ns.length : Nat) : Int) := by omega
    first
      | (rw [decide_eq_true q'] at h5; exact absurd h5 (by decide))
      | (simp at h5; omega)
  cases hwl with
  | cons w1 w2 =>
    cases w2
    cases w1 with
    | list ho hall => exact ⟨_, _, ns, rfl, rfl, ho, ints_of_wellAll ns _ hall, hlen⟩
theorem post_true (l : OpenLaw) (args : List WData) : l.row.toRowW.claim.post args (.bool true) args = true :=
  postW_of (r := l.row.toRowW) (X := (true == true))
    (show WShape.has [] (.bool true) .bool = true by first | rfl | decide | simp [WShape.has, WShape.arms, WShape.armsAll])
    (show (WTm.eq .res (.lit (.bool true))).value [] { args := args, res := some (.bool true), after := args } = some (.bool (true == true)) from w_eq_bool (w_res rfl) w_lit) rfl
theorem attach_call {l : OpenLaw} {n : Nat} {q : Program} {loose : List Str} {XP : (Str -> Option Value) -> Heap -> Prop} {YP : World -> Heap -> Prop} {d : DefRec}
    (hn : l.most = some n) (hdf : d.params.defaults = [])
    (call : ∀ (w : World) (s₀ s₁ : Shared) (mg mb : Str -> Option Value) (fa : Addr) (o : Obj) (pm cd doc : Value) (a : Addr) (vs : List Value) (ns : List Int),
      Ground q loose [] XP w s₀ mg mb s₁.heap -> YP w s₁.heap ->
      s₁.heap.get? fa = some o -> o.data = .func (docDef d.name d.params d.body d.scope pm cd doc) -> s₁.heap.CodeRec cd d.name -> mg d.name = some (.ref fa) ->
      s₁.heap.get? a = some { cls := .type "list", data := .seq vs.toArray } -> IntsAre vs ns -> ns.length <= n -> s₁.gens = #[] ->
      codeAny (model l.prog w) callerA (.call (.ref fa) ⟨[.ref a], []⟩) (fun r s' => r = .ok (.ret (.bool true)) /\ OldK s₁.heap s'.heap /\ s'.os = s₁.os /\ AllBare s'.gens) s₁) :
    WalkO q loose XP YP l.row.toRowW d [] (fun f vs => PySem.call f vs) := by
  intro w s₀ s₁ mg mb G Y fa o pm cd doc dV kV ho hd hcd hD hmg hg args vals as hpre hlay hrd hwl hlo
  obtain rfl : dV = .none := Dflts.none hD hdf
  obtain rfl : kV = .none := Dflts.noKw hD
  obtain ⟨a, vs, ns, rfl, rfl, hobj, hints, hlen⟩ := script_of hn hpre hwl
  refine enter_call (codeAny_mono (call w s₀ s₁ mg mb fa o pm cd doc a vs ns G Y ho (fd_plain hd) hcd hmg hobj hints hlen hg) fun r s' hq => ?_)
  obtain ⟨rfl, h2, h3, h4⟩ := hq
  exact ⟨.inl ⟨.bool true, .bool true, [], rfl, fun _ => rfl, .bool true, post_true l _, fun _ => ⟨List.Pairwise.nil, fun _ hm => (nomatch hm)⟩⟩, h2, h3, h4⟩
section
variable {prog : Program} {w : World} {A : Around} {E : Value -> Shared -> Prop} {s : Shared} {K : Frag}
end
end Att
namespace L2
open PySem PySem.Spec PyProof.Rows
theorem vals_ints : ∀ {vs : List Value} {ns : List Int}, IntsAre vs ns -> Vals (ns.map V.int) vs
  | _, _, .nil => .nil
  | _, _, .cons n t h => .cons ⟨t, rfl⟩ (vals_ints h)
def Only (H : Hp) : Prop := ∀ b, H b = none \/ ∃ o xs, H b = some (.frz o (.lst xs))
theorem law_call {P : Program} {w : World} {K : PySem.W.Frag} {mg mb : Str -> Option Value} {CX : CXT} {k : Nat} {fa a : Addr} {fd : FuncData} {x : Str} {sp : Sp} {s₁ : Shared} {vs : List Value} {ns : List Int}
    (KX : K.In s₁.heap) (hns : s₁.heap.Ns mainGlobals mg) (hb : s₁.heap.Ns builtinsNs mb) (hbb : ∀ x : Str, x ≠ "__name__" -> mb x = bootBuiltins x) (hlim : s₁.heap.NoLimit) (hg : s₁.gens = #[])
    (ha : s₁.heap.get? a = some { cls := .type "list", data := .seq vs.toArray }) (hi : IntsAre vs ns) (hl : ns.length <= sizeLine) (hr : Room k callerA)
    (F : ∀ base : Heap, K.In base -> base.Ns mainGlobals mg -> FnOk P w K mg base CX k fa fd [x] sp) (hbind : ∀ (s : Shared) (u : Value), BindsTo s fd ⟨[u], []⟩ [(x, u)])
    (hsp : ∀ H : Hp, Only H -> SqL K H a (ns.map V.int) -> sp [.ref a] H (fun v _ => v = .bl true) fun _ _ _ => False)
    (hCX : ∀ H e s', CX [] H s₁ (fun _ _ _ => False) e s' -> False) :
    codeAny (model P w) callerA (.call (.ref fa) ⟨[.ref a], []⟩) (fun r s' => r = .ok (.ret (.bool true)) /\ OldK s₁.heap s'.heap /\ s'.os = s₁.os /\ AllBare s'.gens) s₁ := by
  have rv := vals_ints hi
  have lenV := hi.length
  have core : ∀ H : Hp, Only H -> SqL K H a (ns.map V.int) -> HOk P w H s₁.heap -> (∀ b, H b ≠ none -> b = a) -> (H a ≠ none -> K.lookup a = none) ->
      codeAny (model P w) callerA (.call (.ref fa) ⟨[.ref a], []⟩) (fun r s' => r = .ok (.ret (.bool true)) /\ OldK s₁.heap s'.heap /\ s'.os = s₁.os /\ AllBare s'.gens) s₁ := by
    intro H hO hS hok hA hK
    have base_of : ∀ {b : Addr} {o : Obj}, s₁.heap.get? b = some o -> H b = none -> (hidT s₁.heap H).get? b = some o := fun e n => hidT_get e n
    have noA : ∀ {b : Addr} {o : Obj} {es : Array DictEntry} {ep : Nat}, s₁.heap.get? b = some o -> o.data = .dict es ep -> H b = none := fun {b o es ep} e d => by
      cases q : H b with
      | none => rfl
      | some u =>
        have e' : b = a := hA b (by rw [q]; simp)
        subst e'
        rw [ha] at e; cases e
        have d' : Data.seq vs.toArray _ = Data.dict es ep := d
        cases d'
    have nsK : ∀ {b : Addr} {m : Str -> Option Value}, s₁.heap.Ns b m -> (hidT s₁.heap H).Ns b m := fun {b m} ⟨o, es, ep, e, d, r⟩ => ⟨o, es, ep, base_of e (noA e d), d, r⟩
    have hKb : K.In (hidT s₁.heap H) := fun b o e => base_of (KX b o e) (by
      cases q : H b with
      | none => rfl
      | some u =>
        have e' : b = a := hA b (by rw [q]; simp)
        subst e'
        rw [hK (by rw [q]; simp)] at e; cases e)
    have hM : Mod K mg (hidT s₁.heap H) := ⟨hKb, nsK hns, ⟨mb, nsK hb, hbb⟩, let ⟨mc, h1, h2⟩ := hlim; ⟨mc, nsK h1, h2⟩⟩
    have e0 : Env0 P w K mg (hidT s₁.heap H) callerA [] s₁ H := ⟨rfl, hM, fun b o e => of_hidT e, Nat.le_of_eq (hidT_size _ _), trivial, fun b hb => absurd (show b ∈ ([] : List Addr) from hb) (by simp), hok, .of_eq hg⟩
    refine codeAny_mono ((F _ hKb (nsK hns)).run callerA [] s₁ H ⟨[.ref a], []⟩ [.ref a] [.ref a] _ _ hr e0 (hbind s₁ (.ref a)) (.cons rfl .nil) (hsp H hO hS)) fun r s' h => ?_
    cases r with
    | error e => exact (hCX H e s' h).elim
    | ok fl =>
      cases fl with
      | next => exact False.elim h
      | brk => exact False.elim h
      | cont => exact False.elim h
      | ret u =>
        obtain ⟨v, H', os, bare, un, hok', r', q⟩ := h
        have q' : v = .bl true := q
        subst q'
        obtain rfl : u = Value.bool true := r'
        refine ⟨rfl, OldK.of_keep fun b o e => ?_, os, bare⟩
        cases q : H b with
        | none => exact un.keep b o e q (by intro z; exact absurd (show b ∈ ([] : List Addr) from z) (by simp)) (by simp)
        | some u =>
          rcases hO b with z | ⟨ob, xs, z⟩
          . rw [q] at z; cases z
          . have z2 := un.frzs b ob _ z
            obtain ⟨e1, _⟩ := hok b _ z
            obtain ⟨e2, _⟩ := hok' b _ z2
            rw [e] at e1; cases e1
            exact e2
  cases hk : K.lookup a with
  | some o =>
    have e := KX a o hk
    rw [ha] at e
    cases e
    refine core (fun _ => none) (fun _ => .inl rfl) (.inr ⟨_, vs.toArray, _, hk, rfl, rfl, rfl, by rw [List.size_toArray, lenV]; exact hl, by simpa using rv⟩) (fun b u z => by have z' : (none : Option HO) = some u := z; cases z') (fun b z => absurd rfl z) fun z => absurd rfl z
  | none =>
    refine core (fun b => if b = a then some (.frz { cls := .type "list", data := .seq vs.toArray } (.lst (ns.map V.int))) else none) (fun b => ?_) (.inl (.inr ⟨{ cls := .type "list", data := .seq vs.toArray }, if_pos rfl⟩)) (fun b u z => ?_) (fun b z => ?_) fun _ => hk
    . by_cases hb : b = a
      . exact .inr ⟨_, _, if_pos hb⟩
      . exact .inl (if_neg hb)
    . by_cases hb : b = a
      . have z' := (if_pos hb).symm.trans z
        cases z'
        subst hb
        exact ⟨ha, by rw [List.length_map]; exact hl, vs, _, rv, ha⟩
      . have z' := (if_neg hb).symm.trans z
        cases z'
    . by_cases hb : b = a
      . exact hb
      . exact absurd (if_neg hb) z
end L2
namespace L2
open PySem PySem.Spec PyProof.Rows
abbrev KOf {K : PySem.W.Frag} {h : Heap} (_ : K.In h) : PySem.W.Frag := K
theorem walk_of {l : PySem.W.OpenLaw} {n k : Nat} {q : Program} {loose : List Str} {XP : (Str -> Option Value) -> Heap -> Prop} {YP : World -> Heap -> Prop} {d : DefRec} {K : Params -> PySem.W.Frag} {CX : World -> CXT} {sp : World -> Sp} {x : Str}
    (hn : l.most = some n) (hn2 : n <= sizeLine) (hdf : d.params.defaults = []) (hr : Room k callerA)
    (hY : ∀ (w : World) (h : Heap), YP w h -> (K w.params).In h)
    (F : ∀ (w : World) (mg : Str -> Option Value) (fa : Addr) (h : Heap), (K w.params).In h -> h.Ns mainGlobals mg -> mg d.name = some (.ref fa) ->
      ∃ fd : FuncData, (∀ (s : Shared) (u : Value), BindsTo s fd ⟨[u], []⟩ [(x, u)]) /\
        ∀ base : Heap, (K w.params).In base -> base.Ns mainGlobals mg -> FnOk l.prog w (K w.params) mg base (CX w) k fa fd [x] (sp w))
    (hsp : ∀ (w : World) (H : Hp) (a : Addr) (ns : List Int), ns.length <= n -> Only H -> SqL (K w.params) H a (ns.map V.int) -> sp w [.ref a] H (fun v _ => v = .bl true) fun _ _ _ => False)
    (hCX : ∀ (w : World) (H : Hp) (s : Shared) (e : Value) (s' : Shared), CX w [] H s (fun _ _ _ => False) e s' -> False) :
    PySem.W.WalkO q loose XP YP l.row.toRowW d [] (fun f vs => PySem.call f vs) := by
  refine Att.attach_call hn hdf fun w s₀ s₁ mg mb fa o pm cd doc a vs ns G Y ho hd hcd hmg hobj hints hlen hg => ?_
  have KX := hY w _ Y
  obtain ⟨fd, hb, hF⟩ := F w mg fa _ KX G.T.g hmg
  exact law_call KX G.T.g G.T.b G.T.builtins G.T.nolimit hg hobj hints (Nat.le_trans hlen hn2) hr hF hb (fun H hO hS => hsp w H a ns hlen hO hS) fun H e s' => hCX w H s₁ e s'
end L2
/- THE LAST THEOREM (shape; LID, My.* are yours):
   My.Adr: a structure of the addresses that your layer names (classes, functions); My.Txt K t: a structure (Prop) of the equations over K;
   My.txt_mk : {K} {implicit addresses ..} (e1 : nsIn K mainGlobals "law" = some (some (.ref f))) (e2 : K.lookup f = some ⟨oc, od, .func (fnOf "law" "law" params body scope dV kV doc pm an cdv ct), sl⟩) (e3 : codeIn K cdv "law" = true) .. : ∃ t, My.Txt K t
set_option maxRecDepth 100000 in
set_option maxHeartbeats 0 in
theorem PySem.Challenge.cw_LID_holds : PySem.Challenge.rw_LID.Holds := by
  w_on; o_law; k_head; (case hw => w_witness2)
  k_fill
  refine L2.walk_of (l := PySem.Challenge.rw_LID) (n := 63) (k := 40) (x := "script") (CX := fun w => ..) (sp := fun _ => My.sp_law) rfl (by decide) rfl ⟨rfl, by decide, by decide⟩ (fun w h Y => PySem.W.kIn_of Y) ?F ?S ?C
  case F =>
    intro w mg fa h KX G hmg
    have T : ∃ t, My.Txt (L2.KOf KX) t := by
      dsimp only [L2.KOf]                          -- K must stand as «<heap const> w.params» for k_is
      refine' My.txt_mk ?e1 ?e2 ?e3 ..
      (case e1 => PySem.W.k_is)                    -- in the order: a name -> its address -> its object -> its parts
      (case e2 => PySem.W.k_is)
      ..
    obtain ⟨t, T⟩ := T
    have e0 := hmg.symm.trans (PySem.W.mg_of KX G T.law)
    cases e0                                       -- fa is the law's own address
    exact ⟨_, fun s u => .of_eq rfl, fun base kb nb => My.law_fn T kb nb⟩     -- if «.of_eq rfl» comes too early: refine' ⟨_, ?b, fun base kb nb => My.law_fn T kb nb⟩; exact fun s u => .of_eq rfl
  case S => exact fun w H a ns hl hO hS => ..
  case C => exact ..
(the tactic k_is has no namespace: write k_is) -/
namespace L2
open PySem PySem.Spec PyProof.Rows
def defArgs (s : Stmt) : Arguments := match s with
  | .FunctionDef _ a _ _ _ _ _ _ _ _ => a
  | _ => { posonlyargs := [], args := [], vararg := none, kwonlyargs := [], kw_defaults := [], kwarg := none, defaults := [] }
def defBody (s : Stmt) : List Stmt := match s with
  | .FunctionDef _ _ b _ _ _ _ _ _ _ => b
  | _ => []
def defScope (s : Stmt) : Scope := match s with
  | .FunctionDef _ _ _ _ _ _ sc _ _ _ => sc
  | _ => { kind := .function, names := [], isGenerator := false, isCoroutine := false }
abbrev CX0 : CXT := fun _ _ _ _ _ _ => False
abbrev E0 : XK := fun _ _ _ => False
theorem pass0 {X : Cx} : Passes CX0 X E0 := fun _ _ _ _ _ _ _ h => h.elim
structure Fun (K : PySem.W.Frag) (x qual : Str) (st : Stmt) (f : Addr) (fd : FuncData) : Prop where
  ex : ∃ (oc : Value) (od : Option Addr) (kV doc pm : Value) (an : Option Addr) (cdv ct : Value) (osl : Array (Option Value)),
    fd = PySem.W.fnOf x qual (defArgs st) (defBody st) (defScope st) .none kV doc pm an cdv ct /\ K.lookup f = some ⟨oc, od, .func fd, osl⟩ /\ PySem.W.codeIn K cdv qual = true
  kp : PySem.W.keepIn K (.ref f) = true
section
variable {P : Program} {w : World} {K : PySem.W.Frag} {mg : Str -> Option Value} {base : Heap}
theorem Fun.ok {x qual : Str} {st : Stmt} {f : Addr} {fd : FuncData} {N ps : List Str} {k : Nat} {sp : Sp} (F : Fun K x qual st f fd) (S : FnScope N ps (defScope st)) (len : ∀ vs H Q E, sp vs H Q E -> vs.length = ps.length)
    (hbody : ∀ (cdv : Value) (A : Around) (outer : List Env) (s : Shared) (H : Hp) (vs : List V) (Q : VK) (E : XK), Room k (A.deeper (envOfC qual (defScope st) s.heap.objs.size f cdv)) -> sp vs H Q E ->
      ∃ t, PSs (cxOf CX0 P w K mg base N qual (defScope st) f cdv A outer s H E).nox (defBody st) t /\ t { nx := fun _ H' => Q .non H', rt := Q } (start N vs) H) : FnOk P w K mg base CX0 (k + 1) f fd ps sp := by
  obtain ⟨oc, od, kV, doc, pm, an, cdv, ct, osl, rfl, lk, hcd⟩ := F.ex
  refine fn_of lk hcd S len fun A outer s H vs Q E hr hsp => ?_
  obtain ⟨t, h, q⟩ := hbody cdv A outer s H vs Q E hr hsp
  exact ⟨t, h.nox, q⟩
theorem Fun.binds {x qual : Str} {st : Stmt} {f : Addr} {fd : FuncData} {ps : List Str} (F : Fun K x qual st f fd)
    (h : ∀ (kV doc pm : Value) (an : Option Addr) (cdv ct : Value) (us : List Value), us.length = ps.length -> bindArgs (PySem.W.fnOf x qual (defArgs st) (defBody st) (defScope st) .none kV doc pm an cdv ct) ⟨us, []⟩ = pure (ps.zip us)) : Binds K fd ps [] := by
  obtain ⟨oc, od, kV, doc, pm, an, cdv, ct, osl, rfl, lk, hcd⟩ := F.ex
  exact .all (h kV doc pm an cdv ct)
theorem fun_mk {x qual : Str} {st : Stmt} {f : Addr} {oc : Value} {od an : Option Addr} {osl : Array (Option Value)} {kV doc pm cdv ct : Value} (l : K.lookup f = some ⟨oc, od, .func (PySem.W.fnOf x qual (defArgs st) (defBody st) (defScope st) .none kV doc pm an cdv ct), osl⟩)
    (c : PySem.W.codeIn K cdv qual = true) (k : PySem.W.keepIn K (.ref f) = true) : Fun K x qual st f (PySem.W.fnOf x qual (defArgs st) (defBody st) (defScope st) .none kV doc pm an cdv ct) := ⟨⟨oc, od, kV, doc, pm, an, cdv, ct, osl, rfl, l, c⟩, k⟩
end
section
variable {X : Cx}
end
def Same (H H' : Hp) : Prop := ∀ b o, H b = some o -> H' b = some o
theorem Same.refl (H : Hp) : Same H H := fun _ _ h => h
theorem Same.trans {H H1 H2 : Hp} (a : Same H H1) (b : Same H1 H2) : Same H H2 := fun c o h => b c o (a c o h)
theorem Same.free {H H' : Hp} (e : Same H H') {l : Addr} (h : H' l = Option.none) : H l = Option.none := by
  cases q : H l with
  | none => rfl
  | some o =>
    rw [e l o q] at h
    cases h
theorem Same.seq {K : PySem.W.Frag} {H H' : Hp} {a : Addr} {xs : List V} (e : Same H H') (h : SqL K H a xs) : SqL K H' a xs := by
  rcases h with (h | ⟨o, h⟩) | h
  . exact .inl (.inl (e _ _ h))
  . exact .inl (.inr ⟨o, e _ _ h⟩)
  . exact .inr h
end L2
set_option maxHeartbeats 4000000
namespace Sp
open PySem PySem.Spec PyProof.Rows L2
inductive D where
  | non | bl (b : Bool) | int (i : Int) | str (x : Str) | emp | tup (l : List D) | lst (l : List D) | typ (n : String) | sn (n : Nat) | obj (n : Str) (ns : List Str) (ds : List D) | cls (n : Str)
mutual
def D.lless : D -> Bool
  | .lst _ => false
  | .tup l => llessL l
  | _ => true
def llessL : List D -> Bool
  | [] => true
  | d :: l => d.lless && llessL l
end
def LsB (K : PySem.W.Frag) (H : Hp) (a : Addr) (vs : List V) : Bool -> Prop
  | true => H a = some (.lst vs)
  | false => (∃ o, H a = some (.frz o (.lst vs))) \/ ∃ (o : Obj) (its : Array Value) (n : Nat), K.lookup a = some o /\ o.cls = .type "list" /\ o.dict = none /\ o.data = .seq its n /\ its.size <= sizeLine /\ Vals vs its.toList
theorem LsB.sq {K : PySem.W.Frag} {H : Hp} {a : Addr} {vs : List V} : ∀ {b : Bool}, LsB K H a vs b -> SqL K H a vs
  | true, h => SqL.of h
  | false, .inl ⟨o, h⟩ => .inl (.inr ⟨o, h⟩)
  | false, .inr h => .inr h
structure IsiOk (K : PySem.W.Frag) (C : Addr) : Prop where
  ha : PySem.W.findIn K (.ref C) "__class__" = some (some (.builtin "object.__class__"))
  hn : PySem.W.specialIn K (.builtin "object.__class__") "__get__" = some (some (.builtin "getset_descriptor.__get__"))
  ht : PySem.W.takesIn K (.builtin "object.__class__") = some true
  hm : PySem.W.mroIn K C (.type "object") = some true
abbrev AP2 := Addr -> Bool -> Prop
mutual
def Rep (K : PySem.W.Frag) (H : Hp) (P : AP2) : D -> V -> Prop
  | .non, v => v = .non
  | .bl b, v => v = .bl b
  | .int i, v => v = .int i
  | .str x, v => v = .str x
  | .emp, v => ∃ a, v = .ref a /\ H a = some (.dK [])
  | .typ n, v => v = .ty n
  | .sn n, v => ∃ a S, v = .ref a /\ H a = some (.set S n)
  | .cls n, v => ∃ C o, v = .ref C /\ PySem.W.nsIn K mainGlobals n = some (some (.ref C)) /\ K.lookup C = some o /\ o.cls = .type "type" /\ IsiOk K C
  | .obj n ns ds, v => llessL ds = true /\ ns.length = ds.length /\ ∃ a C dx vs, v = .ref a /\ PySem.W.nsIn K mainGlobals n = some (some (.ref C)) /\ Cls K C /\ H a = some (.ins C dx (ns.zip vs)) /\ RepL K H P ds vs
  | .tup l, v => ∃ a vs, v = .ref a /\ SqT K H a vs /\ RepL K H P l vs
  | .lst l, v => ∃ a vs b, v = .ref a /\ LsB K H a vs b /\ P a b /\ RepL K H P l vs
def RepL (K : PySem.W.Frag) (H : Hp) (P : AP2) : List D -> List V -> Prop
  | [], vs => vs = []
  | d :: l, vs => ∃ v r, vs = v :: r /\ Rep K H P d v /\ RepL K H P l r
end
structure Stay (P P' : AP2) (H H' : Hp) : Prop where
  oth : ∀ a o, H a = some o -> (∀ vs, o ≠ .lst vs) -> H' a = some o
  lst : ∀ a vs, H a = some (.lst vs) -> P a true -> H' a = some (.lst vs)
  impT : ∀ a o, H a = some o -> P a true -> P' a true
  impF : ∀ a, P a false -> P' a false
theorem Stay.sq {P P' : AP2} {H H' : Hp} {K : PySem.W.Frag} (s : Stay P P' H H') {a : Addr} {vs : List V} (h : SqT K H a vs) : SqT K H' a vs := by
  rcases h with (h | ⟨o, h⟩) | h
  . exact .inl (.inl (s.oth _ _ h (fun _ z => nomatch z)))
  . exact .inl (.inr ⟨o, s.oth _ _ h (fun _ z => nomatch z)⟩)
  . exact .inr h
theorem Stay.ls {P P' : AP2} {H H' : Hp} {K : PySem.W.Frag} (s : Stay P P' H H') {a : Addr} {vs : List V} : ∀ {b : Bool}, LsB K H a vs b -> P a b -> LsB K H' a vs b
  | true, h, p => s.lst a vs h p
  | false, .inl ⟨o, h⟩, _ => .inl ⟨o, s.oth _ _ h (fun _ z => nomatch z)⟩
  | false, .inr h, _ => .inr h
theorem Stay.imp {P P' : AP2} {H H' : Hp} {K : PySem.W.Frag} (s : Stay P P' H H') {a : Addr} {vs : List V} : ∀ {b : Bool}, LsB K H a vs b -> P a b -> P' a b
  | true, h, p => s.impT a _ h p
  | false, _, p => s.impF a p
mutual
theorem Rep.mono {K : PySem.W.Frag} {P P' : AP2} {H H' : Hp} (s : Stay P P' H H') : ∀ {d : D} {v : V}, Rep K H P d v -> Rep K H' P' d v
  | .non, v, h => by rw [Rep] at h ⊢; exact h
  | .bl b, v, h => by rw [Rep] at h ⊢; exact h
  | .int i, v, h => by rw [Rep] at h ⊢; exact h
  | .str x, v, h => by rw [Rep] at h ⊢; exact h
  | .emp, v, h => by
    rw [Rep] at h ⊢
    obtain ⟨a, e, h⟩ := h
    exact ⟨a, e, s.oth _ _ h (fun _ z => nomatch z)⟩
  | .typ n, v, h => by rw [Rep] at h ⊢; exact h
  | .sn n, v, h => by
    rw [Rep] at h ⊢
    obtain ⟨a, S, e, h⟩ := h
    exact ⟨a, S, e, s.oth _ _ h (fun _ z => nomatch z)⟩
  | .cls n, v, h => by rw [Rep] at h ⊢; exact h
  | .obj n ns ds, v, h => by
    rw [Rep] at h ⊢
    obtain ⟨f, e0, a, C, dx, vs, e, h1, h2, h3, r⟩ := h
    exact ⟨f, e0, a, C, dx, vs, e, h1, h2, s.oth _ _ h3 (fun _ z => nomatch z), RepL.mono s r⟩
  | .tup l, v, h => by
    rw [Rep] at h ⊢
    obtain ⟨a, vs, e, h, r⟩ := h
    exact ⟨a, vs, e, s.sq h, RepL.mono s r⟩
  | .lst l, v, h => by
    rw [Rep] at h ⊢
    obtain ⟨a, vs, b, e, h, p, r⟩ := h
    exact ⟨a, vs, b, e, s.ls h p, s.imp h p, RepL.mono s r⟩
theorem RepL.mono {K : PySem.W.Frag} {P P' : AP2} {H H' : Hp} (s : Stay P P' H H') : ∀ {l : List D} {vs : List V}, RepL K H P l vs -> RepL K H' P' l vs
  | [], vs, h => by rw [RepL] at h ⊢; exact h
  | d :: l, vs, h => by
    rw [RepL] at h ⊢
    obtain ⟨v, r, e, h1, h2⟩ := h
    exact ⟨v, r, e, Rep.mono s h1, RepL.mono s h2⟩
end
theorem Stay.same {P P' : AP2} {H H' : Hp} (s : Same H H') (i : ∀ a b, P a b -> P' a b) : Stay P P' H H' := ⟨fun a o h _ => s a o h, fun a vs h _ => s a _ h, fun a _ _ p => i a true p, fun a p => i a false p⟩
theorem Rep.same {K : PySem.W.Frag} {P : AP2} {H H' : Hp} (s : Same H H') {d : D} {v : V} (h : Rep K H P d v) : Rep K H' P d v := h.mono (.same s fun _ _ p => p)
theorem RepL.same {K : PySem.W.Frag} {P : AP2} {H H' : Hp} (s : Same H H') {d : List D} {v : List V} (h : RepL K H P d v) : RepL K H' P d v := h.mono (.same s fun _ _ p => p)
theorem Rep.imp {K : PySem.W.Frag} {P P' : AP2} {H : Hp} (i : ∀ a b, P a b -> P' a b) {d : D} {v : V} (h : Rep K H P d v) : Rep K H P' d v := h.mono (.same (Same.refl _) i)
theorem RepL.imp {K : PySem.W.Frag} {P P' : AP2} {H : Hp} (i : ∀ a b, P a b -> P' a b) {d : List D} {v : List V} (h : RepL K H P d v) : RepL K H P' d v := h.mono (.same (Same.refl _) i)
theorem Rep.impH {K : PySem.W.Frag} {P P' : AP2} {H : Hp} (i : ∀ a o, H a = some o -> P a true -> P' a true) (j : ∀ a, P a false -> P' a false) {d : D} {v : V} (h : Rep K H P d v) : Rep K H P' d v := h.mono ⟨fun _ _ h _ => h, fun _ _ h _ => h, i, j⟩
theorem RepL.impH {K : PySem.W.Frag} {P P' : AP2} {H : Hp} (i : ∀ a o, H a = some o -> P a true -> P' a true) (j : ∀ a, P a false -> P' a false) {d : List D} {v : List V} (h : RepL K H P d v) : RepL K H P' d v := h.mono ⟨fun _ _ h _ => h, fun _ _ h _ => h, i, j⟩
mutual
theorem Rep.flat {K : PySem.W.Frag} {P : AP2} (P' : AP2) {H : Hp} : ∀ {d : D} {v : V}, d.lless = true -> Rep K H P d v -> Rep K H P' d v
  | .non, v, _, h => by rw [Rep] at h ⊢; exact h
  | .bl b, v, _, h => by rw [Rep] at h ⊢; exact h
  | .int i, v, _, h => by rw [Rep] at h ⊢; exact h
  | .str x, v, _, h => by rw [Rep] at h ⊢; exact h
  | .emp, v, _, h => by rw [Rep] at h ⊢; exact h
  | .typ n, v, _, h => by rw [Rep] at h ⊢; exact h
  | .sn n, v, _, h => by rw [Rep] at h ⊢; exact h
  | .cls n, v, _, h => by rw [Rep] at h ⊢; exact h
  | .obj n ns ds, v, _, h => by
    rw [Rep] at h ⊢
    obtain ⟨f, e0, a, C, dx, vs, e, h1, h2, h3, r⟩ := h
    exact ⟨f, e0, a, C, dx, vs, e, h1, h2, h3, RepL.flat P' f r⟩
  | .tup l, v, f, h => by
    rw [Rep] at h ⊢
    obtain ⟨a, vs, e, h, r⟩ := h
    exact ⟨a, vs, e, h, RepL.flat P' (by rw [D.lless] at f; exact f) r⟩
  | .lst l, v, f, h => by rw [D.lless] at f; cases f
theorem RepL.flat {K : PySem.W.Frag} {P : AP2} (P' : AP2) {H : Hp} : ∀ {l : List D} {vs : List V}, llessL l = true -> RepL K H P l vs -> RepL K H P' l vs
  | [], vs, _, h => by rw [RepL] at h ⊢; exact h
  | d :: l, vs, f, h => by
    rw [RepL] at h ⊢
    rw [llessL, Bool.and_eq_true] at f
    obtain ⟨v, r, e, h1, h2⟩ := h
    exact ⟨v, r, e, Rep.flat P' f.1 h1, RepL.flat P' f.2 h2⟩
end
theorem RepL.length {K : PySem.W.Frag} {P : AP2} {H : Hp} : ∀ {l : List D} {vs : List V}, RepL K H P l vs -> l.length = vs.length
  | [], vs, h => by rw [RepL] at h; subst h; rfl
  | d :: l, vs, h => by
    rw [RepL] at h
    obtain ⟨v, r, e, h1, h2⟩ := h
    subst e
    rw [List.length_cons, List.length_cons, h2.length]
theorem RepL.get {K : PySem.W.Frag} {P : AP2} {H : Hp} : ∀ {l : List D} {vs : List V} {i : Nat} {d : D}, RepL K H P l vs -> l[i]? = some d -> ∃ v, vs[i]? = some v /\ Rep K H P d v
  | [], vs, i, d, h, e => by simp at e
  | x :: l, vs, 0, d, h, e => by
    rw [RepL] at h
    obtain ⟨v, r, rfl, h1, h2⟩ := h
    simp at e; subst e
    exact ⟨v, by simp, h1⟩
  | x :: l, vs, i + 1, d, h, e => by
    rw [RepL] at h
    obtain ⟨v, r, rfl, h1, h2⟩ := h
    obtain ⟨u, h3, h4⟩ := RepL.get (i := i) h2 (by simpa using e)
    exact ⟨u, by simpa using h3, h4⟩
theorem RepL.append {K : PySem.W.Frag} {P : AP2} {H : Hp} : ∀ {l m : List D} {vs ws : List V}, RepL K H P l vs -> RepL K H P m ws -> RepL K H P (l ++ m) (vs ++ ws)
  | [], m, vs, ws, h, g => by rw [RepL] at h; subst h; exact g
  | d :: l, m, vs, ws, h, g => by
    rw [RepL] at h
    obtain ⟨v, r, rfl, h1, h2⟩ := h
    show RepL K H P (d :: (l ++ m)) (v :: (r ++ ws))
    rw [RepL]
    exact ⟨v, _, rfl, h1, RepL.append h2 g⟩
theorem RepL.one {K : PySem.W.Frag} {P : AP2} {H : Hp} {d : D} {v : V} (h : Rep K H P d v) : RepL K H P [d] [v] := by
  rw [RepL]; exact ⟨v, [], rfl, h, by rw [RepL]⟩
theorem RepL.nil {K : PySem.W.Frag} {P : AP2} {H : Hp} : RepL K H P [] [] := by rw [RepL]
theorem RepL.cons {K : PySem.W.Frag} {P : AP2} {H : Hp} {d : D} {v : V} {l : List D} {vs : List V} (h : Rep K H P d v) (g : RepL K H P l vs) : RepL K H P (d :: l) (v :: vs) := by
  rw [RepL]; exact ⟨v, vs, rfl, h, g⟩
theorem RepL.take {K : PySem.W.Frag} {P : AP2} {H : Hp} : ∀ {l : List D} {vs : List V} (n : Nat), RepL K H P l vs -> RepL K H P (l.take n) (vs.take n)
  | [], vs, n, h => by rw [RepL] at h; subst h; simp; exact RepL.nil
  | d :: l, vs, 0, h => by simp; exact RepL.nil
  | d :: l, vs, n + 1, h => by
    rw [RepL] at h
    obtain ⟨v, r, rfl, h1, h2⟩ := h
    exact RepL.cons h1 (RepL.take n h2)
theorem RepL.drop {K : PySem.W.Frag} {P : AP2} {H : Hp} : ∀ {l : List D} {vs : List V} (n : Nat), RepL K H P l vs -> RepL K H P (l.drop n) (vs.drop n)
  | [], vs, n, h => by rw [RepL] at h; subst h; simp; exact RepL.nil
  | d :: l, vs, 0, h => h
  | d :: l, vs, n + 1, h => by
    rw [RepL] at h
    obtain ⟨v, r, rfl, h1, h2⟩ := h
    exact RepL.drop n h2
theorem RepL.mapInt {K : PySem.W.Frag} {P : AP2} {H : Hp} : ∀ {ns : List Int} {vs : List V}, RepL K H P (ns.map D.int) vs -> vs = ns.map V.int
  | [], vs, h => by rw [List.map_nil, RepL] at h; exact h
  | n :: ns, vs, h => by
    rw [List.map_cons, RepL] at h
    obtain ⟨v, r, rfl, h1, h2⟩ := h
    rw [Rep] at h1
    rw [h1, RepL.mapInt h2]; rfl
theorem RepL.ofInts {K : PySem.W.Frag} {P : AP2} {H : Hp} : ∀ {ns : List Int}, RepL K H P (ns.map D.int) (ns.map V.int)
  | [] => RepL.nil
  | n :: ns => RepL.cons (by rw [Rep]) RepL.ofInts
abbrev Ow := Addr -> Option (Option Str)
def Kp (ow : Ow) (H : Hp) : Nat -> AP2
  | 0 => fun a b => b = true /\ H a = none
  | 1 => fun a b => b = true -> ow a = none
  | 2 => fun a b => b = true /\ (ow a ≠ none \/ H a = none)
  | _ => fun _ _ => True
def kj : Nat -> Nat -> Nat
  | 0, k => k
  | k, 0 => k
  | 1, 1 => 1
  | 2, 2 => 2
  | _, _ => 3
def ownP (ow : Ow) (x : Str) : Bool -> AP2
  | true => fun a b => b = true /\ ow a = some (some x)
  | false => fun a b => b = true -> ow a = none
def OwIn (ow : Ow) (H : Hp) : Prop := ∀ a, ow a ≠ none -> ∃ o, H a = some o
theorem OwIn.same {ow : Ow} {H H' : Hp} (o : OwIn ow H) (s : Same H H') : OwIn ow H' := fun a h => let ⟨x, e⟩ := o a h; ⟨x, s a x e⟩
theorem OwIn.free {ow : Ow} {H : Hp} (o : OwIn ow H) {a : Addr} (h : H a = none) : ow a = none := by
  cases e : ow a with
  | none => rfl
  | some x => obtain ⟨y, q⟩ := o a (by rw [e]; exact (fun z => nomatch z)); rw [h] at q; cases q
theorem Kp.back {ow : Ow} {H H' : Hp} (s : Same H H') : ∀ (k : Nat) (a : Addr) (b : Bool), Kp ow H' k a b -> Kp ow H k a b
  | 0, a, b, h => ⟨h.1, s.free h.2⟩
  | 1, a, b, h => h
  | 2, a, b, h => ⟨h.1, h.2.imp id fun z => s.free z⟩
  | _ + 3, a, b, h => True.intro
theorem Kp.joinL {ow : Ow} {H : Hp} (o : OwIn ow H) : ∀ (k j : Nat) (a : Addr) (b : Bool), Kp ow H k a b -> Kp ow H (kj k j) a b
  | 0, 0, a, b, h => h
  | 0, 1, a, b, h => fun _ => o.free h.2
  | 0, 2, a, b, h => ⟨h.1, .inr h.2⟩
  | 0, _ + 3, a, b, h => True.intro
  | 1, 0, a, b, h => h
  | 1, 1, a, b, h => h
  | 1, 2, a, b, h => True.intro
  | 1, _ + 3, a, b, h => True.intro
  | 2, 0, a, b, h => h
  | 2, 1, a, b, h => True.intro
  | 2, 2, a, b, h => h
  | 2, _ + 3, a, b, h => True.intro
  | _ + 3, 0, a, b, h => True.intro
  | _ + 3, 1, a, b, h => True.intro
  | _ + 3, 2, a, b, h => True.intro
  | _ + 3, _ + 3, a, b, h => True.intro
theorem kj_comm : ∀ k j, kj k j = kj j k
  | 0, 0 | 0, 1 | 0, 2 | 0, _ + 3 | 1, 0 | 1, 1 | 1, 2 | 1, _ + 3 | 2, 0 | 2, 1 | 2, 2 | 2, _ + 3 | _ + 3, 0 | _ + 3, 1 | _ + 3, 2 | _ + 3, _ + 3 => rfl
theorem Kp.joinR {ow : Ow} {H : Hp} (o : OwIn ow H) (k j : Nat) (a : Addr) (b : Bool) (h : Kp ow H j a b) : Kp ow H (kj k j) a b := by
  rw [kj_comm]; exact Kp.joinL o j k a b h
abbrev Rho := Str -> Option (D × Bool)
structure EnvOk (X : Cx) (ow : Ow) (H : Hp) (σ : L2.St) (ρ : Rho) : Prop where
  get : ∀ x d o, ρ x = some (d, o) -> ∃ (i : Nat) (v : V), X.N[i]? = some x /\ Vis X.env.scope x /\ σ[i]? = some (some v) /\ Rep X.K H (ownP ow x o) d v
  own : OwIn ow H
theorem EnvOk.same {X : Cx} {ow : Ow} {H H' : Hp} {σ : L2.St} {ρ : Rho} (e : EnvOk X ow H σ ρ) (s : Same H H') : EnvOk X ow H' σ ρ :=
  ⟨fun x d o h => let ⟨i, v, h1, h2, h3, h4⟩ := e.get x d o h; ⟨i, v, h1, h2, h3, h4.same s⟩, e.own.same s⟩
def tD (X : Cx) (ow : Ow) (ρ : Rho) (d : D) (k : Nat) : TE := fun σ H Q => EnvOk X ow H σ ρ /\ ∀ v H', Same H H' -> Rep X.K H' (Kp ow H k) d v -> Q v H'
def ED (X : Cx) (ρ : Rho) (e : Expr) (d : D) (k : Nat) : Prop := ∀ ow, PE X e (tD X ow ρ d k)
def tTD (X : Cx) (ow : Ow) (ρ : Rho) (b : Bool) : TT := fun σ H Q => EnvOk X ow H σ ρ /\ ∀ H', Same H H' -> Q b H'
def TD (X : Cx) (ρ : Rho) (e : Expr) (b : Bool) : Prop := ∀ ow, PT X e (tTD X ow ρ b)
def tAD (X : Cx) (ow : Ow) (ρ : Rho) (ds : List D) (k : Nat) : TA := fun σ H Q => EnvOk X ow H σ ρ /\ ∀ vs H', Same H H' -> RepL X.K H' (Kp ow H k) ds vs -> Q vs H'
def AD (X : Cx) (ρ : Rho) (es : List Expr) (ds : List D) (k : Nat) : Prop := ∀ ow, PA X es (tAD X ow ρ ds k)
theorem PEimp {X : Cx} {e : Expr} {t t' : TE} (h : PE X e t) (i : ∀ σ H Q, t' σ H Q -> t σ H Q) : PE X e t' := fun pins s σ H Q I q => h pins s σ H Q I (i σ H Q q)
theorem PTimp {X : Cx} {e : Expr} {t t' : TT} (h : PT X e t) (i : ∀ σ H Q, t' σ H Q -> t σ H Q) : PT X e t' := fun pins s σ H Q I q => h pins s σ H Q I (i σ H Q q)
theorem PAimp {X : Cx} {e : List Expr} {t t' : TA} (h : PA X e t) (i : ∀ σ H Q, t' σ H Q -> t σ H Q) : PA X e t' := fun pos pins s σ H Q I q => h pos pins s σ H Q I (i σ H Q q)
def kn (d : D) (k : Nat) : Nat := if d.lless = true then 0 else k
theorem ED.kn {X : Cx} {ρ : Rho} {e : Expr} {d : D} {k : Nat} (h : ED X ρ e d k) : ED X ρ e d (Sp.kn d k) := by
  unfold Sp.kn
  by_cases f : d.lless = true
  . rw [if_pos f]
    exact fun ow => PEimp (h ow) fun σ H Q ⟨E, q⟩ => ⟨E, fun v H' s r => q v H' s (r.flat _ f)⟩
  . rw [if_neg f]; exact h
end Sp
set_option Elab.async false
set_option linter.all false
set_option maxRecDepth 100000
namespace Sp
open PySem PySem.Spec PyProof.Rows L2
def ItD (K : PySem.W.Frag) (J : It) (ds : List D) (P : AP2) (H1 : Hp) : Prop :=
  ∀ (i : Nat) (H2 : Hp), Stay P P H1 H2 -> (∀ d, ds[i]? = some d -> J.go i H2 /\ ∀ x H3, J.yld i H2 x H3 -> Same H2 H3 /\ Rep K H3 P d x) /\ (ds.length <= i -> J.stop i H2)
def Kd (ow : Ow) (H : Hp) (k : Nat) (H1 : Hp) : AP2 := fun a b => Kp ow H k a b /\ (b = true -> ∃ o, H1 a = some o)
def tI (X : Cx) (ow : Ow) (ρ : Rho) (ds : List D) (k : Nat) : TI := fun σ H R => EnvOk X ow H σ ρ /\ ∀ J H1, Same H H1 -> ItD X.K J ds (Kd ow H k H1) H1 -> R J H1
def IE (X : Cx) (ρ : Rho) (tg iter : Expr) (ds : List D) (k : Nat) : Prop := ∀ ow, PI X tg iter (tI X ow ρ ds k)
def forTests (ifs : List Expr) (env : Env) : Sem Bool := forIn ifs true fun c r => if r = true then do let ok <- isTrue c env (eval c env); pure (ForInStep.yield ok) else pure (ForInStep.yield r)
def TsD (X : Cx) (ρ : Rho) (ifs : List Expr) (b : Bool) : Prop := ∀ ow (pins : List (Addr × Obj)) (s : Shared) (σ : L2.St) (H : Hp) (Q : Bool -> Hp -> Prop), Inv X pins σ H s -> tTD X ow ρ b σ H Q -> wpAny (model X.prog X.w) X.A (forTests ifs X.env) (TP X pins σ Q) X.xe s
def GD (X : Cx) (ρ : Rho) (tg : Expr) (d : D) (ρ' : Rho) : Prop := ∃ g : TG, PG X tg g /\ ∀ (ow : Ow) (v : V) (σ : L2.St) (H : Hp) (Q : L2.St -> Hp -> Prop), σ.length = X.N.length -> EnvOk X ow H σ ρ -> Rep X.K H (fun a b => b = true -> ow a = none) d v -> (∀ σ', σ'.length = X.N.length -> EnvOk X ow H σ' ρ' -> Q σ' H) -> g v σ H Q
abbrev inX (X : Cx) (scope : Scope) (cl : List (Str × Addr)) (C : Addr) (N' : List Str) (s : Shared) (H : Hp) (fp : List Addr) : Cx :=
  { X with N := N', s₀ := s, H₀ := H, env := compEnvC scope cl C X.env, outer := X.stack, stack := X.stack, ex := fp, fn := fun x => decide (scope.names.lookup x = some .cell), pn := [], xe := fun _ _ => False }
theorem closure_loop {env : Env} : ∀ (names : List (Str × NameKind)) (cs : List (Str × Addr)), (∀ n, (n, NameKind.free) ∈ names -> ∃ c, env.cells.lookup n = some c) ->
    ∃ cl, (forIn names cs (fun (x : Str × NameKind) (r : List (Str × Addr)) => (if (x.2 == NameKind.free) = true then do let a <- cellOf env x.1; pure (ForInStep.yield ((x.1, a) :: r)) else pure (ForInStep.yield r) : Sem (ForInStep (List (Str × Addr)))))) = (pure cl : Sem (List (Str × Addr))) /\
      (∀ x c, cl.lookup x = some c -> (env.cells.lookup x = some c /\ (x, NameKind.free) ∈ names) \/ cs.lookup x = some c) /\ (∀ x, (x, NameKind.free) ∈ names -> ∃ c, cl.lookup x = some c) /\ (∀ x c, cs.lookup x = some c -> ∃ c', cl.lookup x = some c')
  | [], cs, _ => ⟨cs, rfl, fun x c h => .inr h, fun x h => (by cases h), fun x c h => ⟨c, h⟩⟩
  | (n, k) :: r, cs, h => by
    have hr : ∀ n, (n, NameKind.free) ∈ r -> ∃ c, env.cells.lookup n = some c := fun m hm => h m (List.mem_cons_of_mem _ hm)
    by_cases hk : k = .free
    . subst hk
      obtain ⟨c, hc⟩ := h n List.mem_cons_self
      obtain ⟨cl, e, h1, h2, h3⟩ := closure_loop r ((n, c) :: cs) hr
      refine ⟨cl, ?_, fun x c' hx => ?_, fun x hx => ?_, fun x c' hx => ?_⟩
      . rw [List.forIn_cons]
        simp only [beq_self_eq_true, if_true, cellOf, hc]
        rw [pure_bind, pure_bind]
        exact e
      . rcases h1 x c' hx with q | q
        . exact .inl ⟨q.1, List.mem_cons_of_mem _ q.2⟩
        . rw [List.lookup_cons] at q
          split at q
          . rename_i hb
            have : x = n := by simpa using hb
            subst this; cases q; exact .inl ⟨hc, List.mem_cons_self⟩
          . exact .inr q
      . rcases List.mem_cons.mp hx with q | q
        . cases q
          exact h3 n c (by simp)
        . exact h2 x q
      . by_cases hb : x == n
        . exact h3 x c (by rw [List.lookup_cons, hb])
        . exact h3 x c' (by rw [List.lookup_cons]; simp only [hb]; exact hx)
    . obtain ⟨cl, e, h1, h2, h3⟩ := closure_loop r cs hr
      refine ⟨cl, ?_, fun x c hx => (h1 x c hx).imp (fun q => ⟨q.1, List.mem_cons_of_mem _ q.2⟩) id, fun x hx => ?_, h3⟩
      . rw [List.forIn_cons]
        have : (k == NameKind.free) = false := by simpa using hk
        simp only [this, Bool.false_eq_true, if_false]
        rw [pure_bind]
        exact e
      . rcases List.mem_cons.mp hx with q | q
        . cases q; exact absurd rfl hk
        . exact h2 x q
theorem closure_for {env : Env} {scope : Scope} (h : ∀ n, (n, NameKind.free) ∈ scope.names -> ∃ c, env.cells.lookup n = some c) :
    ∃ cl, closureFor scope env = pure cl /\ (∀ x c, cl.lookup x = some c -> env.cells.lookup x = some c /\ (x, NameKind.free) ∈ scope.names) /\ (∀ x, (x, NameKind.free) ∈ scope.names -> ∃ c, cl.lookup x = some c) := by
  obtain ⟨cl, e, h1, h2, _⟩ := closure_loop scope.names [] h
  refine ⟨cl, ?_, fun x c hx => (h1 x c hx).resolve_right (by simp), h2⟩
  unfold closureFor
  rw [<- e, <- bind_pure (forIn scope.names _ _)]
theorem lookup_relabel_free {env : Env} : ∀ {names : List (Str × NameKind)} {x : Str}, names.lookup x = some .free ->
    (names.map fun (n, k) => if (k == NameKind.free && env.scope.kind == .function && env.kindOf n == some .cell) then (n, NameKind.cell) else (n, k)).lookup x = some .cell \/
    (names.map fun (n, k) => if (k == NameKind.free && env.scope.kind == .function && env.kindOf n == some .cell) then (n, NameKind.cell) else (n, k)).lookup x = some .free
  | [], _, h => by simp at h
  | (n, k) :: r, x, h => by
    have ih := @lookup_relabel_free env r x
    show List.lookup x ((if (k == NameKind.free && env.scope.kind == .function && env.kindOf n == some .cell) = true then (n, NameKind.cell) else (n, k)) :: _) = _ \/ List.lookup x ((if (k == NameKind.free && env.scope.kind == .function && env.kindOf n == some .cell) = true then (n, NameKind.cell) else (n, k)) :: _) = _
    cases hx : x == n with
    | true =>
      simp only [List.lookup_cons, hx] at h
      cases h
      by_cases hc : (NameKind.free == NameKind.free && env.scope.kind == .function && env.kindOf n == some .cell) = true
      . rw [if_pos hc]; simp [List.lookup_cons, hx]
      . rw [if_neg hc]; simp [List.lookup_cons, hx]
    | false =>
      simp only [List.lookup_cons, hx] at h
      by_cases hc : (k == NameKind.free && env.scope.kind == .function && env.kindOf n == some .cell) = true
      . rw [if_pos hc]; simp only [List.lookup_cons, hx]; exact ih h
      . rw [if_neg hc]; simp only [List.lookup_cons, hx]; exact ih h
theorem mem_of_relabel {env : Env} : ∀ {names : List (Str × NameKind)} {x : Str} {k : NameKind}, (names.map fun (n, k) => if (k == NameKind.free && env.scope.kind == .function && env.kindOf n == some .cell) then (n, NameKind.cell) else (n, k)).lookup x = some k ->
    names.lookup x = some k \/ (k = .cell /\ names.lookup x = some .free)
  | [], _, _, h => by simp at h
  | (n, j) :: r, x, k, h => by
    have ih := @mem_of_relabel env r x k
    replace h : List.lookup x ((if (j == NameKind.free && env.scope.kind == .function && env.kindOf n == some .cell) = true then (n, NameKind.cell) else (n, j)) :: _) = some k := h
    cases hx : x == n with
    | true =>
      simp only [List.lookup_cons, hx]
      by_cases hc : (j == NameKind.free && env.scope.kind == .function && env.kindOf n == some .cell) = true
      . rw [if_pos hc] at h
        simp only [List.lookup_cons, hx] at h
        cases h
        have : j = .free := by
          have := (Bool.and_eq_true _ _).mp ((Bool.and_eq_true _ _).mp hc).1
          simpa using this.1
        exact .inr ⟨rfl, by rw [this]⟩
      . rw [if_neg hc] at h
        simp only [List.lookup_cons, hx] at h
        exact .inl h
    | false =>
      simp only [List.lookup_cons, hx]
      by_cases hc : (j == NameKind.free && env.scope.kind == .function && env.kindOf n == some .cell) = true
      . rw [if_pos hc] at h; simp only [List.lookup_cons, hx] at h; exact ih h
      . rw [if_neg hc] at h; simp only [List.lookup_cons, hx] at h; exact ih h
structure CScope (env : Env) (scope : Scope) (N' : List Str) : Prop where
  kind : scope.kind = .function
  nn : (scope.names.map (·.1)).Nodup
  names : ∀ y ∈ scope.names, y.2 = .local -> scope.names.lookup y.1 = some .local
  nd : N'.Nodup
  fr : ∀ n, (n, NameKind.free) ∈ scope.names -> env.kindOf n = some .cell \/ env.kindOf n = some .free
theorem lk_mem : ∀ {names : List (Str × NameKind)} {x : Str} {k : NameKind}, (names.map (·.1)).Nodup -> (x, k) ∈ names -> names.lookup x = some k
  | [], _, _, _, h => by cases h
  | (n, j) :: r, x, k, nd, h => by
    rw [List.map_cons, List.nodup_cons] at nd
    rcases List.mem_cons.mp h with e | h'
    . cases e; simp
    . have hx : (x == n) = false := by
        cases q : x == n with
        | false => rfl
        | true =>
          have : x = n := by simpa using q
          subst this
          have hm : x ∈ r.map (·.1) := List.mem_map.mpr ⟨(x, k), h', rfl⟩
          exact absurd hm nd.1
      rw [List.lookup_cons, hx]
      exact lk_mem nd.2 h'
theorem cf_inv : ∀ (names : List (Str × NameKind)) (n : Nat) (acc : List (Str × Addr)) {x : Str} {c : Addr}, (cellsFrom n names acc).lookup x = some c -> acc.lookup x = some c \/ (n <= c /\ (x, NameKind.cell) ∈ names)
  | [], _, _, _, _, h => .inl h
  | (y, k) :: r, n, acc, x, c, h => by
    unfold cellsFrom at h
    split at h
    . rename_i hk
      have hk : k = .cell := by simpa using hk
      subst hk
      rcases cf_inv r (n + 1) ((y, n) :: acc) h with q | ⟨q1, q2⟩
      . rw [List.lookup_cons] at q
        split at q
        . rename_i hb
          have : x = y := by simpa using hb
          subst this
          cases q
          exact .inr ⟨Nat.le_refl _, List.mem_cons_self⟩
        . exact .inl q
      . exact .inr ⟨by omega, List.mem_cons_of_mem _ q2⟩
    . rcases cf_inv r n acc h with q | ⟨q1, q2⟩
      . exact .inl q
      . exact .inr ⟨q1, List.mem_cons_of_mem _ q2⟩
theorem cf_inj : ∀ (names : List (Str × NameKind)) (n : Nat) (acc : List (Str × Addr)), (∀ x y c, acc.lookup x = some c -> acc.lookup y = some c -> x = y) -> (∀ x c, acc.lookup x = some c -> c < n) ->
    ∀ x y c, (cellsFrom n names acc).lookup x = some c -> (cellsFrom n names acc).lookup y = some c -> x = y
  | [], _, _, h, _, x, y, c, a, b => h x y c a b
  | (z, k) :: r, n, acc, h, hb, x, y, c, a, b => by
    unfold cellsFrom at a b
    split at a
    . rename_i hk
      rw [if_pos hk] at b
      refine cf_inj r (n + 1) ((z, n) :: acc) (fun u v d p q => ?_) (fun u d p => ?_) x y c a b
      . rw [List.lookup_cons] at p q
        split at p
        . rename_i e1
          split at q
          . rename_i e2
            rw [show u = z by simpa using e1, show v = z by simpa using e2]
          . cases p; exact absurd (hb v _ q) (Nat.lt_irrefl _)
        . split at q
          . cases q; exact absurd (hb u _ p) (Nat.lt_irrefl _)
          . exact h u v d p q
      . rw [List.lookup_cons] at p
        split at p
        . cases p; exact Nat.lt_succ_self _
        . exact Nat.lt_succ_of_lt (hb u d p)
    . rename_i hk
      rw [if_neg hk] at b
      exact cf_inj r n acc h hb x y c a b
theorem cf_cell : ∀ (names : List (Str × NameKind)) (h : Heap) (acc : List (Str × Addr)), (∀ x c, acc.lookup x = some c -> ∃ v, h.IsCell c v) -> ∀ x c, (cellsFrom h.objs.size names acc).lookup x = some c -> ∃ v, (pushCells h names).IsCell c v
  | [], _, _, h, x, c, a => h x c a
  | (z, k) :: r, h, acc, hc, x, c, a => by
    unfold cellsFrom at a
    unfold pushCells
    split at a
    . rename_i hk
      rw [if_pos hk]
      have := cf_cell r (h.push { cls := .type "cell", data := .cell none }) ((z, h.objs.size) :: acc) (fun u d p => ?_) x c
      . rw [Heap.size_push] at this
        exact this a
      . rw [List.lookup_cons] at p
        split at p
        . cases p; exact ⟨none, _, Heap.get?_push_size _ rfl, rfl⟩
        . obtain ⟨v, q⟩ := hc u d p
          exact ⟨v, q.keeps fun b o e => Heap.get?_push_of_some _ e⟩
    . rename_i hk
      rw [if_neg hk]
      exact cf_cell r h acc hc x c a
theorem wp_newEnv {M : Model} {A : Around} {E : Value -> Shared -> Prop} {s : Shared} {scope : Scope} {globals : Addr} {cl : List (Str × Addr)} {qual : Str} {env : Env} {Q : Env -> Shared -> Prop} (hcl : ∀ x c, cl.lookup x = some c -> ∃ v, s.heap.IsCell c v)
    (h : ∀ h', h'.Ns s.heap.objs.size (fun _ => none) -> (∀ b o, s.heap.get? b = some o -> h'.get? b = some o) -> (∀ x c, (cellsFrom (s.heap.objs.size + 1) scope.names cl).lookup x = some c -> ∃ v, h'.IsCell c v) ->
      Q (newEnv scope s.heap.objs.size globals (cellsFrom (s.heap.objs.size + 1) scope.names cl) qual none .none (some env) builtinsNs) { s with heap := h', toks := s.toks + 0 }) :
    wpAny M A (newFunctionEnv scope globals cl [] qual none .none (some env)) Q E s := by
  simp only [newFunctionEnv, Option.isSome_some, if_true]
  refine wpAny_bind (wpAny_alloc ?_)
  refine wpAny_bind (wpAny_layCells _ (fun name kind cells => by cases hkc : kind == NameKind.cell <;> simp [hkc]) _ _ _ _ ?_)
  rw [show ({ s with heap := s.heap.push { cls := .type "dict", data := .dict #[] } } : Shared).heap.objs.size = s.heap.objs.size + 1 from Heap.size_push ..]
  rw [List.forIn_nil]
  refine wpAny_bind (wpAny_pure (wpAny_pure ?_))
  refine h _ ((Heap.Ns.new s.heap (.type "dict")).keeps (pushCells_keeps _ _)) (fun b o e => pushCells_keeps _ _ b o (Heap.get?_push_of_some _ e)) fun x c hc => ?_
  have := cf_cell scope.names (s.heap.push { cls := .type "dict", data := .dict #[] }) cl (fun u d p => by
    obtain ⟨v, q⟩ := hcl u d p
    exact ⟨v, q.keeps fun b o e => Heap.get?_push_of_some _ e⟩) x c
  rw [Heap.size_push] at this
  exact this hc
structure CellsIn (X : Cx) (scope : Scope) (cl : List (Str × Addr)) (n : Nat) : Prop where
  k1 : ∀ x c, cl.lookup x = some c -> X.env.cells.lookup x = some c \/ (n < c /\ scope.names.lookup x = some .cell)
  k2 : ∀ x, scope.names.lookup x = some .free \/ scope.names.lookup x = some .cell -> ∃ c, cl.lookup x = some c
  k4 : ∀ x y c, cl.lookup x = some c -> cl.lookup y = some c -> x = y
  k5 : ∀ x c, scope.names.lookup x = some .cell -> cl.lookup x = some c -> n <= c
variable {X : Cx}
theorem cells_in {pins : List (Addr × Obj)} {σ : L2.St} {H : Hp} {s : Shared} {scope : Scope} {cl : List (Str × Addr)} {N' : List Str} (I : Inv X pins σ H s) (S : CScope X.env scope N')
    (h1 : ∀ x c, cl.lookup x = some c -> X.env.cells.lookup x = some c /\ (x, NameKind.free) ∈ scope.names) (h2 : ∀ x, (x, NameKind.free) ∈ scope.names -> ∃ c, cl.lookup x = some c) :
    CellsIn X scope (cellsFrom (s.heap.objs.size + 1) scope.names cl) s.heap.objs.size where
  k1 := fun x c h => by
    rcases cf_inv _ _ _ h with q | ⟨q1, q2⟩
    . exact .inl (h1 x c q).1
    . exact .inr ⟨q1, lk_mem S.nn q2⟩
  k2 := fun x h => by
    refine Option.isSome_iff_exists.mp (PySem.W.cellsFrom_some scope.names _ cl ?_)
    rcases h with h | h
    . obtain ⟨c, hc⟩ := h2 x (PySem.mem_of_lookup h)
      exact .inr (by rw [hc]; rfl)
    . exact .inl h
  k4 := cf_inj scope.names _ cl (fun x y c a b => I.ok.inj x y c (h1 x c a).1 (h1 y c b).1) fun x c a => by
    obtain ⟨v, hv⟩ := I.cell x c (h1 x c a).1
    exact Nat.lt_succ_of_lt hv.lt
  k5 := fun x c hx h => by
    rcases cf_inv _ _ _ h with q | ⟨q1, q2⟩
    . rw [lk_mem S.nn (h1 x c q).2] at hx; cases hx
    . omega
theorem ok_in {pins : List (Addr × Obj)} {σ : L2.St} {H : Hp} {s : Shared} {scope : Scope} {cl : List (Str × Addr)} {C : Addr} {N' : List Str} {fp : List Addr} (I : Inv X pins σ H s) (S : CScope X.env scope N')
    (hC : s.heap.objs.size <= C) (k : CellsIn X scope cl s.heap.objs.size)
    (hf : ∀ b ∈ fp, FpOk X pins H b) (hfC : ∀ b ∈ fp, b < s.heap.objs.size) : (inX X scope cl C N' s H fp).Ok where
  mod := I.ok.mod
  kind := by show (relabel scope X.env).kind = _; exact S.kind
  glob := I.ok.glob
  blt := I.ok.blt
  above := hC
  inj := k.k4
  has := fun x hx => by
    have hx : (relabel scope X.env).names.lookup x = some .cell \/ (relabel scope X.env).names.lookup x = some .free := hx
    rcases hx with hx | hx
    . rcases mem_of_relabel hx with q | ⟨_, q⟩
      . exact k.k2 x (.inr q)
      . exact k.k2 x (.inl q)
    . rcases mem_of_relabel hx with q | ⟨q, _⟩
      . exact k.k2 x (.inl q)
      . cases q
  cab := fun x c h hc => k.k5 x c (of_decide_eq_true h) hc
  hd := I.ok.hd
  frames := I.ok.frames
  stk := .inl rfl
  exf := fun b hb => ⟨by have := hfC b hb; intro z; subst z; show False; exact absurd (Nat.lt_of_lt_of_le this hC) (Nat.lt_irrefl _), fun x c h => by
    rcases k.k1 x c h with q | ⟨q, _⟩
    . exact (hf b hb).2.2.2.2.1 x c q
    . have := hfC b hb
      intro z; subst z; exact absurd (Nat.lt_trans q this) (Nat.lt_irrefl _)⟩
  bs := I.bs
  bsz := Nat.le_trans I.ok.bsz I.sz
  noex := fun b o e hb => by
    rcases (hf b hb).2.2.2.1 with q | q
    . exact I.ok.noex b o e q
    . exact absurd (Nat.lt_of_lt_of_le (Heap.lt_size e) (Nat.le_trans I.ok.bsz q)) (Nat.lt_irrefl _)
  exfs := fun b hb z => by
    rcases List.mem_cons.mp (I.stkSub b z) with q | q
    . exact (hf b hb).2.1 q
    . exact (hf b hb).2.2.1 q
  funs := I.stack
  frf := I.stkFree
def sigF (X : Cx) (scope : Scope) (N' : List Str) (σ : L2.St) : L2.St := N'.map fun x => if scope.names.lookup x = some .free then (σ[X.N.idxOf x]?).join else none
theorem inv_in {pins : List (Addr × Obj)} {σ : L2.St} {H : Hp} {s s1 : Shared} {scope : Scope} {cl : List (Str × Addr)} {N' : List Str} {fp : List Addr} {m : Str -> Option Value} (I : Inv X pins σ H s) (S : CScope X.env scope N')
    (k : CellsIn X scope cl s.heap.objs.size) (k6 : ∀ x c, cl.lookup x = some c -> ∃ v, s1.heap.IsCell c v)
    (hf : ∀ b ∈ fp, FpOk X pins H b) (hfC : ∀ b ∈ fp, b < s.heap.objs.size)
    (es : ∃ h t, s1 = { s with heap := h, toks := t }) (hns : s1.heap.Ns s.heap.objs.size m) (hk : ∀ b o, s.heap.get? b = some o -> s1.heap.get? b = some o) :
    Inv (inX X scope cl s.heap.objs.size N' s H fp) [] (sigF X scope N' σ) H s1 := by
  obtain ⟨h', t, rfl⟩ := es
  have I1 : Inv X pins σ H { s with heap := h', toks := t } := I.kept hk
  refine ⟨ok_in I S (Nat.le_refl _) k hf hfC, rfl, I.bare, Un.kept hk, ⟨m, hns, fun i x v e1 e2 e3 => ?_⟩, k6, I.hok.fresh (Nat.le_refl _), fun x c h => (k.k1 x c h).elim (fun q => I.freeC x c q) fun q => I.hok.fresh (Nat.le_of_lt q.1), fun p hp => absurd (show p ∈ ([] : List (Addr × Obj)) from hp) (by simp), I1.hok, ?_⟩
  . have hN : N'[i]? = some x := e1
    unfold sigF at e2
    rw [List.getElem?_map, hN] at e2
    simp only [Option.map_some, Option.some.injEq] at e2
    split at e2
    . rename_i hfr
      have hj : σ[X.N.idxOf x]? = some (some v) := by
        cases q : σ[X.N.idxOf x]? with
        | none => rw [q] at e2; cases e2
        | some y => rw [q] at e2; rw [show y = some v from e2]
      have hlt : X.N.idxOf x < X.N.length := by rw [<- I.len]; exact (List.getElem?_eq_some_iff.mp hj).1
      have hx : X.N[X.N.idxOf x]? = some x := by
        rw [List.getElem?_eq_getElem hlt, List.getElem_idxOf hlt]
      have kf := S.fr x (PySem.mem_of_lookup hfr)
      have vis : Vis X.env.scope x := .inr (kf.imp id id)
      obtain ⟨m1, hn1, hl1⟩ := I1.loc
      obtain ⟨u, r, l⟩ := hl1 _ x v hx hj vis
      refine ⟨u, r, .inr ⟨?_, ?_⟩⟩
      . exact lookup_relabel_free hfr
      . rcases l with ⟨hk', _⟩ | ⟨_, c, hc, hcell⟩
        . rcases kf with q | q <;> rw [q] at hk' <;> cases hk'
        . obtain ⟨c', hc'⟩ := k.k2 x (.inl hfr)
          have : c' = c := by
            rcases k.k1 x c' hc' with this | ⟨_, this⟩
            . rw [hc] at this; exact (Option.some.inj this).symm
            . rw [hfr] at this; cases this
          subst this
          exact ⟨c', hc', hcell⟩
    . cases e2
  . unfold sigF; simp
def flt (scope : Scope) (ρ : Rho) : Rho := fun x => if scope.names.lookup x = some .free then ρ x else none
theorem flt_look {scope : Scope} {ρ : Rho} {x : Str} {y : D × Bool} (h : flt scope ρ x = some y) : ρ x = some y /\ scope.names.lookup x = some .free := by
  unfold flt at h
  split at h
  . rename_i e; exact ⟨h, e⟩
  . cases h
theorem env_in {ow : Ow} {H : Hp} {σ : L2.St} {ρ : Rho} {scope : Scope} {cl : List (Str × Addr)} {C : Addr} {N' : List Str} {s : Shared} {fp : List Addr} {H0 : Hp} (E : EnvOk X ow H σ ρ) (hN : X.N.Nodup)
    (hsub : ∀ x d o, flt scope ρ x = some (d, o) -> x ∈ N') :
    EnvOk (inX X scope cl C N' s H0 fp) ow H (sigF X scope N' σ) (flt scope ρ) := by
  refine ⟨fun x d o h => ?_, E.own⟩
  obtain ⟨h1, h2⟩ := flt_look h
  obtain ⟨i, v, e1, e2, e3, e4⟩ := E.get x d o h1
  have hx : x ∈ N' := hsub x d o h
  have hi : X.N.idxOf x = i := by
    have hm : x ∈ X.N := List.mem_of_getElem? e1
    have hlt := List.idxOf_lt_length_iff.mpr hm
    exact nodup_ix hN (by rw [List.getElem?_eq_getElem hlt, List.getElem_idxOf hlt]) e1
  refine ⟨N'.idxOf x, v, ?_, ?_, ?_, e4⟩
  . have hlt := List.idxOf_lt_length_iff.mpr hx
    show N'[N'.idxOf x]? = some x
    rw [List.getElem?_eq_getElem hlt, List.getElem_idxOf hlt]
  . exact .inr (lookup_relabel_free h2)
  . have hlt := List.idxOf_lt_length_iff.mpr hx
    unfold sigF
    rw [List.getElem?_map, List.getElem?_eq_getElem hlt, List.getElem_idxOf hlt]
    simp only [Option.map_some]
    rw [if_pos h2, hi, e3]; rfl
end Sp
set_option Elab.async false
set_option linter.all false
set_option maxRecDepth 100000
namespace Sp
open PySem PySem.Spec PyProof.Rows L2
variable {X : Cx}
theorem comp_loop {prog : Program} {w : World} {A : Around} {R : Result -> Shared -> Prop} {s : Shared} {elt target iter : Expr} {ifs : List Expr} {scope : Scope} {pos : Pos} {it acc : Value} {env : Env} (J : Nat -> Shared -> Prop)
    (turn : ∀ n s, J n s -> wpAny (model prog w) A (pyNext it) (fun r s₁ => match r with
      | none => R (.ok .next) s₁
      | some v => wpAny (model prog w) A (letOwnedTupleGo target it v) (fun _ s₁ => wpAny (model prog w) A (assign target env v) (fun _ s₂ =>
          wpAny (model prog w) A (forTests ifs env) (fun ok s₃ =>
            if ok = true then wpAny (model prog w) A (eval elt env) (fun x s₄ =>
              wpAny (model prog w) A (call (.builtin "list.append") [acc, x]) (fun _ s₅ => ∃ m, m < n /\ J m s₅) (fun _ _ => False) s₄) (fun _ _ => False) s₃
            else ∃ m, m < n /\ J m s₃) (fun _ _ => False) s₂) (fun _ _ => False) s₁) (fun _ _ => False) s₁) (fun _ _ => False) s)
    (n : Nat) (h : J n s) : codeAny (model prog w) A (.compLoop (.ListComp elt [⟨target, iter, ifs, 0⟩] scope pos) 0 it acc env) R s := by
  refine codeAny_loop rfl J (fun n s hI => ?_) n h
  show wpAny _ A ((compTurn (.ListComp elt [⟨target, iter, ifs, 0⟩] scope pos) 0 it acc env).onRaise (fun x => do noteFrame x env; theTreesLotGoes x)) _ _ s
  refine wpAny_noted ?_
  rw [compTurn_list]
  refine wpAny_bind (wpAny_standAt (wpAny_bind (wpAny_mono (turn n s hI) (fun r s₁ h₁ => ?_) fun _ _ h' => h'.elim)))
  cases r with
  | none => exact wpAny_pure h₁
  | some v =>
    refine wpAny_bind (wpAny_mono h₁ (fun _ s₁' h₁' => ?_) fun _ _ h' => h'.elim)
    refine wpAny_bind (wpAny_mono h₁' (fun _ s₂ h₂ => wpAny_bind (wpAny_mono h₂ (fun ok s₃ h₃ => ?_) fun _ _ h' => h'.elim)) fun _ _ h' => h'.elim)
    cases ok with
    | false => exact wpAny_pure ⟨rfl, h₃⟩
    | true =>
      exact wpAny_bind (wpAny_bind (wpAny_mono h₃ (fun x s₄ h₄ => wpAny_bind (wpAny_mono h₄ (fun _ s₅ h₅ => wpAny_pure (wpAny_pure ⟨rfl, h₅⟩)) fun _ _ h' => h'.elim)) fun _ _ h' => h'.elim))
def TurnD (X : Cx) (ρ : Rho) (tg : Expr) (ifs : List Expr) (elt : Expr) (k : Nat) (d : D) (r : Option D) : Prop :=
  ∃ ρ' b, GD X ρ tg d ρ' /\ (∀ x y, ρ x = some y -> ρ' x = some y) /\ TsD X ρ' ifs b /\ match r with | some d' => b = true /\ ED X ρ' elt d' k | none => b = false
theorem kp_shared {ow : Ow} {H : Hp} (o : OwIn ow H) {a : Addr} : ∀ {k : Nat}, k <= 1 -> Kp ow H k a true -> ow a = none
  | 0, _, p => o.free p.2
  | 1, _, p => p rfl
  | _ + 2, h, _ => absurd h (by omega)
theorem kp_elem {ow : Ow} {H H9 : Hp} {D : Addr} {x : HO} (sm : Same H H9) (hD : H9 D = some x) {a : Addr} {b : Bool} : ∀ {k : Nat}, k <= 1 -> Kp (fun a => if a = D then some none else ow a) H9 k a b -> Kp ow H k a b /\ (b = true -> a ≠ D)
  | 0, _, p => ⟨⟨p.1, sm.free p.2⟩, fun _ z => by subst z; have := p.2; rw [hD] at this; cases this⟩
  | 1, _, p => by
    have p : b = true -> (if a = D then some none else ow a) = none := p
    refine ⟨fun hb => ?_, fun hb hz => ?_⟩
    . have p := p hb
      by_cases hz : a = D
      . rw [if_pos hz] at p; cases p
      . rw [if_neg hz] at p; exact p
    . have p := p hb
      rw [if_pos hz] at p; cases p
  | _ + 2, h, _ => absurd h (by omega)
theorem kp_new {ow : Ow} {H : Hp} {D : Addr} (o : OwIn ow H) (hD : H D = none) : ∀ {k : Nat}, k <= 1 -> Kp ow H k D true
  | 0, _ => ⟨rfl, hD⟩
  | 1, _ => fun _ => o.free hD
  | _ + 2, h => absurd h (by omega)
theorem llessL_get : ∀ {l : List D} {i : Nat} {d : D}, llessL l = true -> l[i]? = some d -> d.lless = true
  | [], _, _, _, h => by simp at h
  | x :: l, 0, d, f, h => by
    rw [llessL, Bool.and_eq_true] at f
    simp at h; subst h; exact f.1
  | x :: l, i + 1, d, f, h => by
    rw [llessL, Bool.and_eq_true] at f
    exact llessL_get (i := i) f.2 (by simpa using h)
structure CompEnd (X : Cx) (pins : List (Addr × Obj)) (σ : L2.St) (H5 : Hp) (s6 : Shared) (C : Addr) (m6 : Str -> Option Value) : Prop where
  inv : Inv X pins σ H5 s6
  ns : s6.heap.Ns C m6
  free : H5 C = none
  loc : C ≠ X.env.locals
  old : X.s₀.heap.objs.size <= C
  cell : ∀ x c, X.env.cells.lookup x = some c -> c ≠ C
  pin : ∀ p ∈ X.pn ++ pins, p.1 ≠ C
  fs : C ∉ X.fs
theorem comp_core {ow : Ow} {use : Option (Value -> Sem Unit)} {Q' : Value -> Shared -> Prop} {pins : List (Addr × Obj)} {s : Shared} {σ : L2.St} {H : Hp} {ρ : Rho} {tg elt iter : Expr} {ifs : List Expr} {scope : Scope} {pos pos2 : Pos} {ds : List D} {f : D -> Option D} {k ko : Nat} {N' : List Str}
    (hcalm : X.calm = true) (hN : X.N.Nodup) (hk : llessL ds = true \/ k <= 1) (hko : ko <= 1) (hlen : ds.length < sizeLine) (S : CScope X.env scope N') (hsub : ∀ x d o, flt scope ρ x = some (d, o) -> x ∈ N')
    (hi : IE X ρ tg iter ds k)
    (turn : ∀ cl C s H fp, ∀ d ∈ ds, TurnD (inX X scope cl C N' s H fp) (flt scope ρ) tg ifs elt ko d (f d))
    (hs : ∀ x, foldedSetIterable iter X.env x = pure x) (I : Inv X pins σ H s) (E : EnvOk X ow H σ ρ)
    (fin : ∀ D C s6 H5 m6, CompEnd X pins σ H5 s6 C m6 -> Same H H5 -> Rep X.K H5 (Kp ow H ko) (.lst (ds.filterMap f)) (.ref D) -> compPost (model X.prog X.w) X.A X.xe use Q' (.ref D) C (.ok .next) s6) :
    wpAny (model X.prog X.w) X.A (comprehension (.ListComp elt [⟨tg, iter, ifs, 0⟩] scope pos) scope X.env pos2 (newList []) false (eval iter X.env) use) Q' X.xe s := by
  obtain ⟨cl, hclos, h1, h2⟩ := closure_for (env := X.env) (scope := scope) fun n hn => I.ok.has n (S.fr n hn)
  refine wpAny_comprehension_free rfl hs hclos S.kind S.names ?_
  refine thn (hi ow pins s σ H (fun J H1 => Same H H1 /\ ItD X.K J ds (Kd ow H k H1) H1) I ⟨E, fun J H1 a b => ⟨a, b⟩⟩) fun v s1 h1' => thn h1' fun itv s2 h2' => ?_
  obtain ⟨it, fp, tn, J, H2, rfl, I2, T, st2, f2, s12, itd⟩ := h2'
  have hD2 : H2 s2.heap.objs.size = none := I2.hok.fresh (Nat.le_refl _)
  refine wpAny_newObj_type (wp_newEnv (fun x c hc => (I2.cell x c (h1 x c hc).1).imp fun v q => q.keeps fun b o e => Heap.get?_push_of_some _ e) fun h₁ hns₁ kp0 k60 => ?_)
  have I3 : Inv X pins σ (upd H2 s2.heap.objs.size (.lst [])) { s2 with heap := s2.heap.push { cls := .type "list", dict := none, data := .seq ([] : List Value).toArray } } :=
    I2.laid (t' := s2.toks) (fun b u e => Heap.get?_push_of_some _ e) (Nat.le_refl _) ⟨Nat.zero_le _, [], 0, .nil, Heap.get?_push_size _ rfl⟩
  generalize hD : s2.heap.objs.size = D at *
  generalize hs3 : ({ s2 with heap := s2.heap.push { cls := .type "list", dict := none, data := .seq ([] : List Value).toArray } } : Shared) = s3 at *
  have hsz3 : s3.heap.objs.size = D + 1 := by rw [<- hs3]; show (s2.heap.push _).objs.size = _; rw [Heap.size_push, hD]
  have f3 : ∀ b ∈ fp, FpOk X pins (upd H2 D (.lst [])) b := fun b hb => by
    obtain ⟨g0, g⟩ := f2 b hb
    obtain ⟨o, e, _⟩ := T.obj _ _ st2 b hb
    have hlt := Heap.lt_size e
    rw [hD] at hlt
    exact ⟨by rw [upd_ne (Nat.ne_of_lt hlt)]; exact g0, g⟩
  have fl3 : ∀ b ∈ fp, b < s3.heap.objs.size := fun b hb => by
    obtain ⟨o, e, _⟩ := T.obj _ _ st2 b hb
    have hlt := Heap.lt_size e
    rw [hD] at hlt
    rw [hsz3]; exact Nat.lt_succ_of_lt hlt
  have kp : ∀ b o, s3.heap.get? b = some o -> h₁.get? b = some o := kp0
  have kc : CellsIn X scope (cellsFrom (s3.heap.objs.size + 1) scope.names cl) s3.heap.objs.size := cells_in I3 S h1 h2
  generalize hcl' : cellsFrom (s3.heap.objs.size + 1) scope.names cl = cl' at *
  have I4 := inv_in (s1 := { s3 with heap := h₁, toks := s3.toks + 0 }) (N' := N') I3 S kc k60 f3 fl3 ⟨_, _, rfl⟩ hns₁ kp
  have sH2 : ∀ vs, Same H2 (upd H2 D (.lst vs)) := fun vs b o e => by rw [upd_ne (ne_of_none e hD2)]; exact e
  let ow' : Ow := fun a => if a = D then some none else ow a
  have ow'D : ow' D = some none := if_pos rfl
  have ow'n : ∀ a, a ≠ D -> ow' a = ow a := fun a h => if_neg h
  have own' : ∀ {H' : Hp} (vs : List V), H' D = some (.lst vs) -> Same H2 H' -> OwIn ow' H' := fun {H'} vs hd sm a ha => by
    by_cases hz : a = D
    . subst hz; exact ⟨_, hd⟩
    . rw [ow'n a hz] at ha
      obtain ⟨o, e⟩ := (E.same s12).own a ha
      exact ⟨o, sm a o e⟩
  have E4 : EnvOk (inX X scope cl' s3.heap.objs.size N' s3 (upd H2 D (.lst [])) fp) ow' (upd H2 D (.lst [])) (sigF X scope N' σ) (flt scope ρ) := by
    have E3 := env_in (scope := scope) (cl := cl') (C := s3.heap.objs.size) (N' := N') (s := s3) (fp := fp) (H0 := upd H2 D (.lst [])) (E.same s12) hN hsub
    refine ⟨fun x d o h => ?_, own' [] upd_same (sH2 [])⟩
    obtain ⟨i, v, e1, e2, e3, e4⟩ := E3.get x d o h
    refine ⟨i, v, e1, e2, e3, Rep.same (sH2 []) (e4.impH (fun a ob ha p => ?_) fun a p => ?_)⟩
    . have hz : a ≠ D := ne_of_none ha hD2
      cases o with
      | true => exact ⟨p.1, (ow'n a hz).trans p.2⟩
      | false => exact fun _ => (ow'n a hz).trans (p rfl)
    . cases o with
      | true => cases p.1
      | false => exact fun z => (by cases z)
  generalize hX' : inX X scope cl' s3.heap.objs.size N' s3 (upd H2 D (.lst [])) fp = X' at *
  have turn' : ∀ d ∈ ds, TurnD X' (flt scope ρ) tg ifs elt ko d (f d) := fun d hd => by rw [<- hX']; exact turn _ _ _ _ _ d hd
  have eK : X'.K = X.K := by rw [<- hX']
  have eP : X'.prog = X.prog := by rw [<- hX']
  have eW : X'.w = X.w := by rw [<- hX']
  have eA : X'.A = X.A := by rw [<- hX']
  have eE : X'.env = compEnvC scope cl' s3.heap.objs.size X.env := by rw [<- hX']
  have eX : X'.xe = fun _ _ => False := by rw [<- hX']
  have eC : X'.calm = true := by rw [<- hX']; exact hcalm
  have stat : ∀ {H' : Hp}, (∀ b ∈ fp, H' b = none) -> ∀ b ∈ fp, FpOk X' [] H' b := fun hn b hb => by
    rw [<- hX']
    refine ⟨hn b hb, ?_, ?_, .inl hb, fun x c h => (kc.k1 x c h).elim (fun q => (f3 b hb).2.2.2.2.1 x c q) (fun q z => by subst z; exact absurd (Nat.lt_trans q.1 (fl3 _ hb)) (Nat.lt_irrefl _)), fun p hp => absurd (show p ∈ ([] : List (Addr × Obj)) from hp) (by simp)⟩
    . show b ≠ s3.heap.objs.size
      exact Nat.ne_of_lt (fl3 b hb)
    . intro z
      rcases List.mem_cons.mp (I3.stkSub b z) with q | q
      . exact (f3 b hb).2.1 q
      . exact (f3 b hb).2.2.1 q
  let Pe : AP2 := fun a b => Kp ow H ko a b /\ (b = true -> a ≠ D)
  have loop : codeAny (model X.prog X.w) X.A (.compLoop (.ListComp elt [⟨tg, iter, ifs, 0⟩] scope pos) 0 (.ref it) (.ref D) (compEnvC scope cl' s3.heap.objs.size X.env)) (compPost (model X.prog X.w) X.A X.xe use Q' (.ref D) s3.heap.objs.size) { s3 with heap := h₁, toks := s3.toks + 0 } := by
    refine comp_loop (fun n s' => ∃ (i : Nat) (σ' : L2.St) (H' : Hp) (vs : List V), Inv X' [] σ' H' s' /\ tn i s'.heap /\ (∀ b ∈ fp, H' b = none) /\ EnvOk X' ow' H' σ' (flt scope ρ) /\ H' D = some (.lst vs) /\ Same H2 H' /\
      RepL X.K H' Pe ((ds.take i).filterMap f) vs /\ i <= ds.length /\ n = ds.length - i) ?_ ds.length
      ⟨0, sigF X scope N' σ, upd H2 D (.lst []), [], I4, ?_, fun b hb => (f3 b hb).1, E4, upd_same, sH2 [], ?_, Nat.zero_le _, rfl⟩
    . rintro n s5 ⟨i, σ5, H5, vs, I5, st5, fr5, E5, hD5, sm5, rp5, hi5, rfl⟩
      have stay : Stay (Kd ow H k H2) (Kd ow H k H2) H2 H5 := .same sm5 fun _ _ p => p
      have itd5 := itd i H5 stay
      by_cases hlt : i < ds.length
      . obtain ⟨go, yl⟩ := itd5.1 ds[i] (by simp [hlt])
        have Ti := T.item X' eP eW eK eC i [] s5 σ5 H5 (fun _ _ => False) I5 (stat fr5) st5 go
        rw [eA] at Ti
        refine thn Ti fun r s6 ⟨u, hr, h6⟩ => ?_
        subst hr
        refine thn h6 fun _ s7 ⟨x, H7, I7, r7, y7, st7, fr7⟩ => ?_
        obtain ⟨sm7, rx7⟩ := yl x H7 y7
        obtain ⟨ρ', b, ⟨g, hg, hgd⟩, hext, hts, hel⟩ := turn' ds[i] (List.getElem_mem hlt)
        have rx7' : Rep X'.K H7 (fun a b => b = true -> ow' a = none) ds[i] x := by
          rw [eK]
          rcases hk with hk | hk
          . exact rx7.flat _ (llessL_get hk (List.getElem?_eq_getElem hlt))
          refine rx7.impH (fun a o ha p _ => ?_) fun a _ z => (by cases z)
          obtain ⟨p, p2⟩ := p
          obtain ⟨o2, ho2⟩ := p2 rfl
          show ow' a = none
          rw [ow'n a (ne_of_none ho2 hD2)]
          exact kp_shared E.own hk p
        have E7 := E5.same sm7
        have I7' := I7.pinned (stat fr7) (T.obj _ _ st7)
        have hg' := hg _ s7 σ5 H7 x u (fun σ' H' => EnvOk X' ow' H' σ' ρ' /\ H7 = H') I7' r7 (hgd ow' x σ5 H7 _ I7.len E7 rx7' fun σ' _ e => ⟨e, rfl⟩)
        rw [eP, eW, eA, eE, eX] at hg'
        refine thn hg' fun _ s8 ⟨σ8, H8, I8, E8, eH8⟩ => ?_
        subst eH8
        have ht' := hts ow' _ s8 σ8 H7 (fun c H' => c = b /\ Same H7 H') I8 ⟨E8, fun H' sm => ⟨rfl, sm⟩⟩
        rw [eP, eW, eA, eE, eX] at ht'
        refine thn ht' fun c s9 ⟨H9, I9, ec, sm9⟩ => ?_
        subst ec
        have back : ∀ {H' : Hp} {σ' : L2.St} {s' : Shared}, Inv X' ([] ++ pinsAt fp s7.heap) σ' H' s' -> Inv X' [] σ' H' s' /\ tn (i + 1) s'.heap /\ ∀ b ∈ fp, H' b = none := fun {H' σ' s'} J7 => by
          refine ⟨J7.unpinned, T.keep _ _ _ st7 fun b hb o e => (J7.pin (b, o) (List.mem_append_right _ (List.mem_append_right _ (mem_pinsAt hb e)))).1, fun b hb => ?_⟩
          obtain ⟨o, e, d⟩ := T.obj _ _ st7 b hb
          exact (J7.pin (b, o) (List.mem_append_right _ (List.mem_append_right _ (mem_pinsAt hb e)))).2.1
        have envf : ∀ {H' : Hp} {σ' : L2.St}, EnvOk X' ow' H' σ' ρ' -> EnvOk X' ow' H' σ' (flt scope ρ) := fun {H' σ'} e => ⟨fun x d o h => e.get x d o (hext x _ h), e.own⟩
        have tk : (ds.take (i + 1)).filterMap f = (ds.take i).filterMap f ++ (f ds[i]).toList := by
          rw [List.take_add_one]
          simp only [List.getElem?_eq_getElem hlt, Option.toList_some, List.filterMap_append]
          congr 1
        have sm59 : Same H5 H9 := sm7.trans sm9
        cases hc : c with
        | false =>
          rw [if_neg Bool.false_ne_true]
          subst hc
          obtain ⟨I9', st9, fr9⟩ := back I9
          have fn : f ds[i] = none := by
            cases hf : f ds[i] with
            | none => rfl
            | some d' => rw [hf] at hel; cases hel.1
          refine ⟨ds.length - (i + 1), by omega, i + 1, σ8, H9, vs, I9', st9, fr9, envf (E8.same sm9), sm59 _ _ hD5, sm5.trans sm59, ?_, hlt, rfl⟩
          rw [tk, fn, Option.toList_none, List.append_nil]
          exact rp5.same sm59
        | true =>
          rw [if_pos rfl]
          subst hc
          obtain ⟨d', fs, hed⟩ : ∃ d', f ds[i] = some d' /\ ED X' ρ' elt d' ko := by
            cases hf : f ds[i] with
            | none => rw [hf] at hel; cases hel
            | some d' => rw [hf] at hel; exact ⟨d', rfl, hel.2⟩
          have he' := hed ow' _ s9 σ8 H9 (fun v H' => Same H9 H' /\ Rep X'.K H' (Kp ow' H9 ko) d' v) I9 ⟨E8.same sm9, fun v H' a r => ⟨a, r⟩⟩
          rw [eP, eW, eA, eE, eX] at he'
          refine thn he' fun y s10 ⟨v10, H10, I10, r10, sm10, rp10⟩ => ?_
          have sm510 := sm59.trans sm10
          have hD10 := sm510 _ _ hD5
          have hlv : vs.length < sizeLine := by
            rw [<- rp5.length]
            refine Nat.lt_of_le_of_lt (List.length_filterMap_le _ _) ?_
            rw [List.length_take]; omega
          have ha' := mt_append (X := X') _ s10 σ8 H10 (.ref D) [v10] (.ref D) [y] (fun w H' => upd H10 D (.lst (vs ++ [v10])) = H') I10 rfl (.cons r10 .nil) ⟨D, vs, v10, rfl, rfl, hD10, hlv, rfl⟩
          rw [eP, eW, eA, eX] at ha'
          refine thn ha' fun _ s11 ⟨w11, H11, I11, _, eH11⟩ => ?_
          subst eH11
          obtain ⟨I11', st11, fr11⟩ := back I11
          have s2D : ∀ a o, H2 a = some o -> a ≠ D := fun a o e => ne_of_none e hD2
          have stD : Stay Pe Pe H10 (upd H10 D (.lst (vs ++ [v10]))) := ⟨fun a o h hn => by rw [upd_ne (fun z => by subst z; rw [hD10] at h; cases h; exact hn _ rfl)]; exact h, fun a ws h p => by rw [upd_ne (p.2 rfl)]; exact h, fun _ _ _ p => p, fun _ p => p⟩
          refine ⟨ds.length - (i + 1), by omega, i + 1, σ8, _, vs ++ [v10], I11', st11, fr11, ?_, upd_same, ?_, ?_, hlt, rfl⟩
          . have E10 := envf ((E8.same sm9).same sm10)
            refine ⟨fun x d o h => ?_, own' _ upd_same (fun a o e => by rw [upd_ne (s2D a o e)]; exact (sm5.trans sm510) a o e)⟩
            obtain ⟨i', v', e1, e2, e3, e4⟩ := E10.get x d o h
            refine ⟨i', v', e1, e2, e3, e4.mono ⟨fun a o h hn => by rw [upd_ne (fun z => by subst z; rw [hD10] at h; cases h; exact hn _ rfl)]; exact h, fun a ws h p => ?_, fun _ _ _ p => p, fun _ p => p⟩⟩
            have hz : a ≠ D := by
              intro z; subst z
              cases o with
              | true => have := p.2; rw [ow'D] at this; cases this
              | false => have : ow' a = none := p rfl; rw [ow'D] at this; cases this
            rw [upd_ne hz]; exact h
          . intro a o e
            rw [upd_ne (s2D a o e)]
            exact (sm5.trans sm510) a o e
          . rw [tk, fs, Option.toList_some]
            refine ((rp5.same sm510).mono stD).append (RepL.one (Rep.mono stD ?_))
            rw [eK] at rp10
            have sH9 : Same H H9 := s12.trans (sm5.trans sm59)
            exact rp10.imp fun a b p => kp_elem sH9 (sm59 _ _ hD5) hko p
      . have hstop := itd5.2 (by omega)
        have Td := T.done X' eP eW eK eC i [] s5 σ5 H5 (fun _ _ => False) I5 (stat fr5) st5 hstop
        rw [eA] at Td
        refine thn Td fun r s6 ⟨hr, I6⟩ => ?_
        subst hr
        have ei : i = ds.length := by omega
        subst ei
        rw [List.take_length] at rp5
        have hC : X'.env.locals = s3.heap.objs.size := by rw [eE]; rfl
        obtain ⟨m6, hn6, _⟩ := I6.loc
        rw [hC] at hn6
        have hfree : H5 s3.heap.objs.size = none := by have := I6.free; rw [hC] at this; exact this
        have IX : Inv X pins σ H5 s6 := by
          have b6 := I6.base
          have o6 := I6.os
          have k6 := I6.hok
          have g6 := I6.bare
          rw [<- hX'] at b6 o6 k6
          exact I3.call' o6 b6 k6 g6 fun b hb => ⟨(f3 b hb).2.2.2.1, (f3 b hb).2.1, (f3 b hb).2.2.2.2.1, (f3 b hb).2.2.2.2.2⟩
        have hHD : H D = none := s12.free hD2
        refine fin D _ s6 H5 m6 ⟨IX, hn6, hfree, Nat.ne_of_gt I3.lt, I3.sz, fun x c hc z => ?_, fun p hp z => ?_, I3.nofs (Nat.le_refl _)⟩ (s12.trans sm5) ?_
        . obtain ⟨v, hv⟩ := I3.cell x c hc
          have := hv.lt
          rw [z] at this; exact absurd this (Nat.lt_irrefl _)
        . have := Heap.lt_size (I3.pin p hp).1
          rw [z] at this; exact absurd this (Nat.lt_irrefl _)
        . rw [Rep]
          exact ⟨D, vs, true, rfl, hD5, kp_new E.own hHD hko, rp5.imp fun _ _ p => p.1⟩
    . exact T.keep 0 s2.heap h₁ st2 fun b hb o e => kp b o (by rw [<- hs3]; exact Heap.get?_push_of_some _ e)
    . exact RepL.nil
  exact codeAny_compStart_list loop (T.self _ 0 _ _ _ (T.keep 0 s2.heap h₁ st2 fun b hb o e => kp b o (by rw [<- hs3]; exact Heap.get?_push_of_some _ e)) loop)
theorem CompEnd.done {pins : List (Addr × Obj)} {σ : L2.St} {H5 : Hp} {s6 : Shared} {C : Addr} {m6 : Str -> Option Value} (e : CompEnd X pins σ H5 s6 C m6) {h' : Heap} (sb : Heap.SameBut C s6.heap h') : Inv X pins σ H5 { s6 with heap := h' } :=
  e.inv.turned (t' := s6.toks) (it := C) (fun b o hb e => sb.extBut b o hb e) e.free e.loc (.inr e.old) e.cell e.pin
theorem ed_comp {ρ : Rho} {tg elt iter : Expr} {ifs : List Expr} {scope : Scope} {pos : Pos} {ds : List D} {f : D -> Option D} {k ko : Nat} {N' : List Str}
    (hcalm : X.calm = true) (hN : X.N.Nodup) (hk : llessL ds = true \/ k <= 1) (hko : ko <= 1) (hlen : ds.length < sizeLine) (S : CScope X.env scope N') (hsub : ∀ x d o, flt scope ρ x = some (d, o) -> x ∈ N')
    (hi : IE X ρ tg iter ds k)
    (turn : ∀ cl C s H fp, ∀ d ∈ ds, TurnD (inX X scope cl C N' s H fp) (flt scope ρ) tg ifs elt ko d (f d))
    (hs : ∀ x, foldedSetIterable iter X.env x = pure x := by intro _; rfl) :
    ED X ρ (.ListComp elt [⟨tg, iter, ifs, 0⟩] scope pos) (.lst (ds.filterMap f)) ko := by
  intro ow pins s σ H Q I ⟨E, q⟩
  rw [eval_ListComp]
  refine comp_core hcalm hN hk hko hlen S hsub hi turn hs I E fun D C s6 H5 m6 ce sm rp => ?_
  exact ⟨m6, ce.ns, fun h' sb => ⟨.ref D, H5, ce.done sb, rfl, q (.ref D) H5 sm rp⟩⟩
theorem ps_comp {D0 : Ends} {ow : Ow} {x : Str} {px spos : Pos} {pins : List (Addr × Obj)} {s : Shared} {σ : L2.St} {H : Hp} {ρ : Rho} {tg elt iter : Expr} {ifs : List Expr} {scope : Scope} {pos : Pos} {ds : List D} {f : D -> Option D} {k ko : Nat} {N' : List Str} {i : Nat}
    (hcalm : X.calm = true) (hN : X.N.Nodup) (hk : llessL ds = true \/ k <= 1) (hko : ko <= 1) (hlen : ds.length < sizeLine) (S : CScope X.env scope N') (hsub : ∀ x d o, flt scope ρ x = some (d, o) -> x ∈ N')
    (hi : IE X ρ tg iter ds k)
    (turn : ∀ cl C s H fp, ∀ d ∈ ds, TurnD (inX X scope cl C N' s H fp) (flt scope ρ) tg ifs elt ko d (f d))
    (hs : ∀ x, foldedSetIterable iter X.env x = pure x) (I : Inv X pins σ H s) (E : EnvOk X ow H σ ρ)
    (hsw : swapsWith (.ListComp elt [⟨tg, iter, ifs, 0⟩] scope pos) (some (.Name x px)) spos.line X.env = pure true)
    (hx : X.N[i]? = some x) (hl : Loc X.env.scope x) (hf : X.fn x = true \/ X.env.scope.names.lookup x = some .local)
    (q : ∀ v H', Same H H' -> Rep X.K H' (Kp ow H ko) (.lst (ds.filterMap f)) v -> D0.nx (σ.set i (some v)) H') :
    wpAny (model X.prog X.w) X.A (exec (.Assign [.Name x px] (.ListComp elt [⟨tg, iter, ifs, 0⟩] scope pos) spos) X.env) (SP X pins D0) X.xe s := by
  rw [exec_Assign_Name_used _ _ _ _ hsw]
  refine wpAny_bind (wpAny_standAt (wpAny_bind ?_))
  show wpAny _ X.A (do let _ <- comprehension (.ListComp elt [⟨tg, iter, ifs, 0⟩] scope pos) scope X.env _ (newList []) false (eval iter X.env) (some (assign (.Name x px) X.env))) _ _ s
  refine wpAny_bind (wpAny_mono (comp_core (use := some (assign (.Name x px) X.env)) (Q' := fun _ s' => SP X pins D0 .next s') hcalm hN hk hko hlen S hsub hi turn hs I E fun D C s6 H5 m6 ce sm rp => ?_) (fun _ s' hq => wpAny_pure (wpAny_pure hq)) fun _ _ e => e)
  obtain ⟨o, es, ep, ho, hd, hrest⟩ := id ce.ns
  have Ip : Inv X (pins ++ [(C, o)]) σ H5 s6 := ce.inv.pins_of fun p hp => by
    rcases List.mem_append.mp hp with z | z
    . exact ce.inv.pin p (List.mem_append_right _ z)
    . have e : p = (C, o) := by simpa using z
      subst e
      exact ⟨ho, ce.free, ce.loc, ce.fs, fun v z => by rw [hd] at z; cases z⟩
  show wpAny _ X.A (assign (.Name x px) X.env (.ref D)) _ _ _
  refine thn (pg_name (i := i) hN hx hl hf (pins ++ [(C, o)]) s6 σ H5 (.ref D) (.ref D) (fun σ' H' => σ.set i (some (.ref D)) = σ' /\ H5 = H') Ip rfl ⟨rfl, rfl⟩) fun _ s7 ⟨σ7, H7, I7, e1, e2⟩ => ?_
  subst e1 e2
  have pC := (I7.pin (C, o) (List.mem_append_right _ (List.mem_append_right _ (by simp)))).1
  refine ⟨m6, ⟨o, es, ep, pC, hd, hrest⟩, fun h' sb => ?_⟩
  have ce' : CompEnd X pins (σ.set i (some (.ref D))) H5 s7 C m6 := ⟨I7.unpinned, ⟨o, es, ep, pC, hd, hrest⟩, ce.free, ce.loc, ce.old, ce.cell, ce.pin, ce.fs⟩
  exact ⟨_, H5, ce'.done sb, q (.ref D) H5 sm rp⟩
end Sp
set_option Elab.async false
set_option linter.all false
set_option maxRecDepth 100000
namespace Sp
open PySem PySem.Spec PyProof.Rows L2
mutual
def D.py : D -> PyData
  | .non => .none
  | .bl b => .bool b
  | .int i => .int i
  | .str x => .str x
  | .emp => .dict []
  | .typ _ => .dict []
  | .sn _ => .dict []
  | .obj _ _ _ => .dict []
  | .cls _ => .dict []
  | .tup l => .tuple (pyL l)
  | .lst l => .list (pyL l)
def pyL : List D -> List PyData
  | [] => []
  | d :: l => d.py :: pyL l
end
inductive Rs (α : Type) where
  | ok (a : α) (l : List Prop)
  | st
def allP : List Prop -> Prop
  | [] => True
  | p :: l => p /\ allP l
def Rs.bnd {α β : Type} (r : Rs α) (f : α -> Rs β) : Rs β :=
  match r with
  | .st => .st
  | .ok a l => match f a with
    | .st => .st
    | .ok b m => .ok b (l ++ m)
def ofO {α : Type} : Option α -> Rs α
  | some a => .ok a []
  | none => .st
def gd (b : Bool) : List Prop -> List Prop
  | [] => []
  | m => [b = true -> allP m]
abbrev R1 := Rs (D × Nat)
def mk (d : D) (k : Nat) : R1 := .ok (d, kn d k) []
structure Fx where
  fn : Str -> Option (List D -> Rs D)
  con : Str -> Option D
  blt : Str -> Option (List D -> R1)
  itr : Str -> Option (List D -> Nat -> R1)
  mth : Str -> Option (D -> List D -> R1)
  mtt : Str -> Option (List D -> List D -> Nat -> Rs (List D))
  slf : D -> Option Int -> Option Int -> R1 := fun _ _ _ => .st
  fld : Str -> Str -> Bool := fun _ _ => false
  omt : Str -> Str -> Option (List D -> Rs D) := fun _ _ => none
def cst : Const -> Option D
  | .none => some .non
  | .bool b => some (.bl b)
  | .int i => some (.int i)
  | .str x => some (.str x)
  | _ => none
def big : Nat := 2 ^ 9000
def mulOk (a b : Int) : Prop := a.natAbs < 2 ^ 64 \/ b.natAbs < 2 ^ 64 \/ (a.natAbs < big /\ b.natAbs < big) \/ (Builtin.Int.intBits a <= 2 ^ 22 /\ Builtin.Int.intBits b <= 2 ^ 22)
def divOk (b : Int) : Prop := b ≠ 0 /\ b.natAbs < big
def powOk (a b : Int) : Prop := 0 <= b /\ b <= 1000 /\ a.natAbs < 2 ^ 64
def many : Nat := 4000
def binI (op : Operator) (a b : Int) : R1 :=
  match op with
  | .Add => .ok (.int (a + b), 0) []
  | .Sub => .ok (.int (a - b), 0) []
  | .Mult => .ok (.int (a * b), 0) [mulOk a b]
  | .FloorDiv => .ok (.int (a.fdiv b), 0) [divOk b]
  | .Mod => .ok (.int (a.fmod b), 0) [b ≠ 0]
  | .Pow => .ok (.int (a ^ b.toNat), 0) [powOk a b]
  | _ => .st
def isAdd : Operator -> Bool
  | .Add => true
  | _ => false
def binD (op : Operator) (x y : D) (k j : Nat) : R1 :=
  match x, y with
  | .int a, .int b => binI op a b
  | .tup a, .tup b => if isAdd op = true then .ok (.tup (a ++ b), kn (.tup (a ++ b)) (kj k j)) [a.length + b.length <= many] else .st
  | .lst a, .lst b => if isAdd op = true then .ok (.lst (a ++ b), 0) [llessL (a ++ b) = true, a.length + b.length <= many] else .st
  | _, _ => .st
def unD (op : UnaryOp) (x : D) : Option D :=
  match op, x with
  | .USub, .int a => some (.int (-a))
  | .Not, .bl b => some (.bl (!b))
  | _, _ => none
def eqOk (x y : D) : Bool := SeqAt.shaped x.py && SeqAt.shaped y.py
def eqD (x y : D) : Bool := PyData.eqv x.py y.py
def intsOf : List D -> Option (List Int)
  | [] => some []
  | .int i :: l => (intsOf l).map (i :: ·)
  | _ :: _ => none
def memD (x : D) (l : List D) : Rs Bool := .ok (l.any fun y => eqD y x) [eqOk (.tup l) x = true]
def D.isNon : D -> Bool
  | .non => true
  | _ => false
def seqOf : D -> Option (List D)
  | .tup l => some l
  | .lst l => some l
  | _ => none
def cmpI (op : CmpOp) (a b : Int) : Option Bool :=
  match op with
  | .Lt => some (decide (a < b))
  | .LtE => some (decide (a <= b))
  | .Gt => some (decide (b < a))
  | .GtE => some (decide (b <= a))
  | _ => none
def ordD (op : CmpOp) (x y : D) : Option Bool :=
  match x, y with
  | .int a, .int b => cmpI op a b
  | _, _ => none
def Rs.nt : Rs Bool -> Rs Bool
  | .ok b l => .ok (!b) l
  | .st => .st
def cmpD (op : CmpOp) (x y : D) : Rs Bool :=
  match op with
  | .Eq => .ok (eqD x y) [eqOk x y = true]
  | .NotEq => .ok (!eqD x y) [eqOk x y = true]
  | .Is => (match y with | .non => .ok x.isNon [] | .bl c => (match x with | .bl b => .ok (b == c) [] | _ => .st) | _ => .st)
  | .IsNot => (match y with | .non => .ok (!x.isNon) [] | .bl c => (match x with | .bl b => .ok (!(b == c)) [] | _ => .st) | _ => .st)
  | op => ofO (ordD op x y)
def D.ty0 : D -> Option String
  | .non => some "NoneType"
  | .bl _ => some "bool"
  | .int _ => some "int"
  | .str _ => some "str"
  | .emp => some "dict"
  | .tup _ => some "tuple"
  | .lst _ => some "list"
  | _ => none
def isD (x : D) (T : String) : Option Bool := x.ty0.map fun a => decide (a = T) || decide (a = "bool" /\ T = "int")
def tyOf (x : Str) : Option String :=
  if x = "int" then some "int" else if x = "bool" then some "bool" else if x = "str" then some "str" else if x = "tuple" then some "tuple" else if x = "list" then some "list" else none
def boolsOf : List D -> Option (List Bool)
  | [] => some []
  | .bl i :: l => (boolsOf l).map (i :: ·)
  | _ :: _ => none
def bnames : List Str := ["len", "tuple", "list", "abs", "all", "sum", "isinstance", "set", "int", "bool", "str", "range", "zip", "enumerate", "any", "sorted", "min", "max", "reversed"]
def isTupE : Expr -> Bool
  | .Tuple .. => true
  | _ => false
def tgOk (e tg : Expr) : Bool :=
  match e with
  | .Call (.Name f _) _ _ _ => if f = "enumerate" \/ f = "zip" then isTupE tg else true
  | _ => true
def items : D -> Option (List D)
  | .lst l => some l
  | .tup l => some l
  | _ => none
def putR (ρ : Rho) (x : Str) (y : D × Bool) : Rho := fun z => if z = x then some y else ρ z
def locK (sc : Scope) (x : Str) : Bool := sc.names.lookup x == some .local || sc.names.lookup x == some .cell
def bindNs (sc : Scope) : List Expr -> List D -> Rho -> Option Rho
  | [], [], ρ => some ρ
  | .Name x _ :: es, d :: ds, ρ => if locK sc x = true then bindNs sc es ds (putR ρ x (d, false)) else none
  | _, _, _ => none
def bindG (sc : Scope) (tg : Expr) (d : D) (ρ : Rho) : Option Rho :=
  match tg with
  | .Name x _ => if locK sc x = true then some (putR ρ x (d, false)) else none
  | .Tuple es _ _ => (match d with | .tup ds => bindNs sc es ds ρ | _ => none)
  | _ => none
def cOk (sc scope : Scope) : Bool :=
  decide (scope.kind = .function) && scope.names.all (fun y => decide (y.2 ≠ .local) || decide (scope.names.lookup y.1 = some .local)) &&
  scope.names.all (fun y => decide (y.2 ≠ .free) || locK sc y.1 && decide (sc.names.lookup y.1 = some .cell) || decide (sc.names.lookup y.1 = some .free)) && decide ((scope.names.map (·.1)).Nodup)
def compD (step : D -> Rs (Option (D × Nat))) : List D -> Rs (List D × Nat)
  | [] => .ok ([], 0) []
  | d :: l => (step d).bnd fun r => (compD step l).bnd fun q => match r with
    | none => .ok q []
    | some p => .ok (p.1 :: q.1, kj p.2 q.2) []
def ixD (x : D) (i : Int) (k : Nat) : R1 :=
  match seqOf x with
  | some l => (match atI l i with | some d => mk d k | none => .st)
  | none => .st
def cutD (l : List D) (lo hi : Option Int) : List D := (l.drop (HT.sIx l.length 0 lo)).take (HT.sIx l.length l.length hi - HT.sIx l.length 0 lo)
def okN (x : Str) : Bool := decide ((x == ("__debug__" : Str)) = false) && decide ((x == ("__classdict__" : Str)) = false)
def andR (b : Bool) (r : Rs Bool) : Rs Bool :=
  match r with
  | .ok c m => .ok (b && c) (gd b m)
  | .st => match b with | false => .ok false [] | true => .st
def orR (b : Bool) (r : Rs Bool) : Rs Bool :=
  match r with
  | .ok c m => .ok (b || c) (gd (!b) m)
  | .st => match b with | true => .ok true [] | false => .st
mutual
def mrgD (b : Bool) : D -> D -> D
  | .int x, .int y => .int (cond b x y)
  | .bl x, .bl y => .bl (cond b x y)
  | .tup x, .tup y => if x.length = y.length then .tup (mrgL b x y) else cond b (.tup x) (.tup y)
  | x, y => cond b x y
def mrgL (b : Bool) : List D -> List D -> List D
  | x :: l, y :: m => mrgD b x y :: mrgL b l m
  | l, m => cond b l m
end
def kIf (t : Bool) (k j : Nat) : Nat := if k = j then k else cond t k j
def ifR (b : Bool) (r s : R1) : R1 :=
  match r with
  | .st => (match b with | true => .st | false => s)
  | .ok p m => match s with
    | .st => (match b with | true => .ok p m | false => .st)
    | .ok q n => .ok (mrgD b p.1 q.1, kIf b p.2 q.2) (gd b m ++ gd (!b) n)
def nameD (Φ : Fx) (x : Str) (sc : Scope) (ρ : Rho) : R1 :=
  if okN x = true then
    (if sc.names.lookup x = some .globalImplicit then (match Φ.con x with | some d => .ok (d, 0) [] | none => match tyOf x with | some T => .ok (.typ T, 0) [] | none => .st)
    else match ρ x with
      | some p => mk p.1 (cond p.2 2 1)
      | none => .st)
  else .st
def callD (Φ : Fx) (f : Str) (it : Bool) (ds : List D) (k : Nat) : R1 :=
  match Φ.fn f with
  | some F => (F ds).bnd fun d => .ok (d, 0) []
  | none => match (if it = true then Φ.itr f else none) with
    | some B => B ds k
    | none => match Φ.blt f with
      | some B => B ds
      | none => .st
def intR (p : D × Nat) (f : Int -> R1) : R1 :=
  match p.1 with
  | .int j => f j
  | _ => .st
def blR {α : Type} (p : D × Nat) (f : Bool -> Rs α) : Rs α :=
  match p.1 with
  | .bl j => f j
  | _ => .st
def fldD (Φ : Fx) (x : D) (f : Str) : R1 :=
  match x with
  | .obj n ns ds => if Φ.fld n f = true then (match (ns.zip ds).lookup f with | some d => .ok (d, 0) [] | none => .st) else .st
  | _ => .st
def baseOk : Expr -> Bool
  | .Call (.Name _ _) [] [] _ => false
  | _ => true
def mthD (Φ : Fx) (a : Expr) (m : Str) (x : D) (ds : List D) : R1 :=
  match x with
  | .obj n ns es => if ns.contains m = false /\ baseOk a = true /\ ds.length < 29 then (match Φ.omt n m with | some F => (F (.obj n ns es :: ds)).bnd fun d => .ok (d, 0) [] | none => .st) else .st
  | x => if baseOk a = true then (match Φ.mth m with | some M => M x ds | none => .st) else .st
def chD (op op2 : CmpOp) (x y z : D) : R1 :=
  match x, y, z with
  | .int a, .int b, .int c => (match cmpI op a b, cmpI op2 b c with | some r, some r2 => .ok (.bl (r && r2), 0) [] | _, _ => .st)
  | _, _, _ => .st
mutual
def evE (Φ : Fx) : Expr -> Bool -> Scope -> Rho -> R1
  | .Constant c _ _, _, _, _ => (match cst c with | some d => .ok (d, 0) [] | none => .st)
  | .Name x _, _, sc, ρ => nameD Φ x sc ρ
  | .BinOp a op b _, _, sc, ρ => (evE Φ a false sc ρ).bnd fun p => (evE Φ b false sc ρ).bnd fun q => binD op p.1 q.1 p.2 q.2
  | .UnaryOp op a _, _, sc, ρ => (evE Φ a false sc ρ).bnd fun p => (match unD op p.1 with | some d => .ok (d, 0) [] | none => .st)
  | .BoolOp op es _, _, sc, ρ => if es.isEmpty = true then .st else (evB Φ op es sc ρ).bnd fun b => .ok (.bl b, 0) []
  | .Compare a [op] [b] _, _, sc, ρ => (evE Φ a false sc ρ).bnd fun p => (evE Φ b false sc ρ).bnd fun q => (cmpD op p.1 q.1).bnd fun r => .ok (.bl r, 0) []
  | .Compare a [op, op2] [b, c] _, _, sc, ρ => (evE Φ a false sc ρ).bnd fun p => (evE Φ b false sc ρ).bnd fun q => (evE Φ c false sc ρ).bnd fun t => chD op op2 p.1 q.1 t.1
  | .IfExp c a b _, _, sc, ρ => (evE Φ c false sc ρ).bnd fun p => blR p fun t => ifR t (evE Φ a false sc ρ) (evE Φ b false sc ρ)
  | .Tuple es _ _, _, sc, ρ => (evEs Φ es sc ρ).bnd fun p => if p.1.length <= many then mk (.tup p.1) p.2 else .st
  | .List es _, _, sc, ρ => (evEs Φ es sc ρ).bnd fun p => if p.1.length <= many /\ p.2 <= 1 then .ok (.lst p.1, p.2) [] else .st
  | .Subscript a (.Slice lo hi none _) _, _, sc, ρ => (evE Φ a false sc ρ).bnd fun p => (evO Φ lo sc ρ).bnd fun l => (evO Φ hi sc ρ).bnd fun h => Φ.slf p.1 l h
  | .Subscript a i _, _, sc, ρ => (evE Φ a false sc ρ).bnd fun p => (evE Φ i false sc ρ).bnd fun q => intR q fun j => ixD p.1 j p.2
  | .Call (.Name f _) args [] _, it, sc, ρ =>
    if sc.names.lookup f = some .globalImplicit then (evEs Φ args sc ρ).bnd fun p => callD Φ f it p.1 p.2
    else .st
  | .Attribute (.Name x _) f _, _, sc, ρ => (nameD Φ x sc ρ).bnd fun p => fldD Φ p.1 f
  | .Call (.Attribute a m ap) args [] cp, _, sc, ρ => if (ap.endLine == cp.line) = true then (evE Φ a false sc ρ).bnd fun p => (evEs Φ args sc ρ).bnd fun q => mthD Φ a m p.1 q.1 else .st
  | .ListComp elt [⟨tg, iter, ifs, 0⟩] scope _, _, sc, ρ =>
    if cOk sc scope = true then (evE Φ iter true sc ρ).bnd fun p => (match items p.1 with
      | some ds => if tgOk iter tg = true then
          (Rs.ok () [ds.length <= many, llessL ds = true \/ p.2 <= 1]).bnd fun _ => (compD (fun d => match bindG scope tg d (flt scope ρ) with
            | none => .st
            | some ρ' => (evB Φ .And ifs scope ρ').bnd fun b => cond b ((evE Φ elt false scope ρ').bnd fun r => .ok (some r) []) (.ok none [])) ds).bnd fun q => if q.2 <= 1 then .ok (.lst q.1, q.2) [] else .st
        else .st
      | none => .st)
    else .st
  | _, _, _, _ => .st
def evEs (Φ : Fx) : List Expr -> Scope -> Rho -> Rs (List D × Nat)
  | [], _, _ => .ok ([], 0) []
  | e :: es, sc, ρ => (evE Φ e false sc ρ).bnd fun p => (evEs Φ es sc ρ).bnd fun q => .ok (p.1 :: q.1, kj p.2 q.2) []
def evB (Φ : Fx) : BoolOp -> List Expr -> Scope -> Rho -> Rs Bool
  | .And, [], _, _ => .ok true []
  | .Or, [], _, _ => .ok false []
  | .And, e :: es, sc, ρ => (evE Φ e false sc ρ).bnd fun p => blR p fun b => andR b (evB Φ .And es sc ρ)
  | .Or, e :: es, sc, ρ => (evE Φ e false sc ρ).bnd fun p => blR p fun b => orR b (evB Φ .Or es sc ρ)
def evO (Φ : Fx) : Option Expr -> Scope -> Rho -> Rs (Option Int)
  | none, _, _ => .ok none []
  | some e, sc, ρ => (evE Φ e false sc ρ).bnd fun p => (match p.1 with | .int i => .ok (some i) [] | _ => .st)
end
theorem evE_bop {Φ : Fx} {op : BoolOp} {es : List Expr} {p : Pos} {it : Bool} {sc : Scope} {ρ : Rho} : evE Φ (.BoolOp op es p) it sc ρ = (if es.isEmpty = true then .st else (evB Φ op es sc ρ).bnd fun b => .ok (.bl b, 0) []) := rfl
theorem evE_calN {Φ : Fx} {f : Str} {args : List Expr} {p q : Pos} {it : Bool} {sc : Scope} {ρ : Rho} : evE Φ (.Call (.Name f p) args [] q) it sc ρ = (if sc.names.lookup f = some .globalImplicit then (evEs Φ args sc ρ).bnd fun p => callD Φ f it p.1 p.2 else .st) := rfl
theorem evE_calA {Φ : Fx} {a : Expr} {m : Str} {args : List Expr} {ap cp : Pos} {it : Bool} {sc : Scope} {ρ : Rho} : evE Φ (.Call (.Attribute a m ap) args [] cp) it sc ρ = (if (ap.endLine == cp.line) = true then (evE Φ a false sc ρ).bnd fun p => (evEs Φ args sc ρ).bnd fun q => mthD Φ a m p.1 q.1 else .st) := rfl
theorem evE_cmp {Φ : Fx} {elt tg iter : Expr} {ifs : List Expr} {scope : Scope} {q : Pos} {it : Bool} {sc : Scope} {ρ : Rho} : evE Φ (.ListComp elt [⟨tg, iter, ifs, 0⟩] scope q) it sc ρ = (if cOk sc scope = true then (evE Φ iter true sc ρ).bnd fun p => (match items p.1 with
      | some ds => if tgOk iter tg = true then
          (Rs.ok () [ds.length <= many, llessL ds = true \/ p.2 <= 1]).bnd fun _ => (compD (fun d => match bindG scope tg d (flt scope ρ) with
            | none => .st
            | some ρ' => (evB Φ .And ifs scope ρ').bnd fun b => cond b ((evE Φ elt false scope ρ').bnd fun r => .ok (some r) []) (.ok none [])) ds).bnd fun q => if q.2 <= 1 then .ok (.lst q.1, q.2) [] else .st
        else .st
      | none => .st)
    else .st) := rfl
end Sp
set_option Elab.async false
set_option linter.all false
set_option maxRecDepth 100000
namespace Sp
open PySem PySem.Spec PyProof.Rows L2
inductive Fl where
  | nx (ρ : Rho) | rt (d : D) | bk (ρ : Rho) | ct (ρ : Rho)
def isComp : Expr -> Bool
  | .ListComp .. => true
  | .SetComp .. => true
  | .DictComp .. => true
  | _ => false
def setD (l : List D) (i : Int) (d : D) : Option (List D) := (ixN l.length i).map fun j => l.set j d
def nxt (f : Rho -> Rs Fl) : Fl -> Rs Fl
  | .nx ρ => f ρ
  | .ct ρ => f ρ
  | .bk ρ => .ok (.nx ρ) []
  | .rt d => .ok (.rt d) []
def forD (bind : D -> Rho -> Option Rho) (body : Rho -> Rs Fl) : List D -> Rho -> Rs Fl
  | [], ρ => .ok (.nx ρ) []
  | d :: l, ρ => match bind d ρ with
    | none => .st
    | some ρ1 => (body ρ1).bnd (nxt (forD bind body l))
def whD (test : Rho -> Rs Bool) (body : Rho -> Rs Fl) : Nat -> Rho -> Rs Fl
  | 0, _ => .st
  | n + 1, ρ => (test ρ).bnd fun b => cond b ((body ρ).bnd (nxt (whD test body n))) (.ok (.nx ρ) [])
def demX (x : Str) (ρ : Rho) : Rho := fun y => if y = x then (ρ y).map fun p => (p.1, false) else ρ y
def demote (e : Expr) (ρ : Rho) : Rho :=
  match e with
  | .Name x _ => demX x ρ
  | .Subscript (.Name x _) _ _ => demX x ρ
  | _ => ρ
def putO (sc : Scope) (x : Str) (p : D × Nat) (ρ : Rho) : Rs Fl :=
  if locK sc x = true then
    match p.2 with
    | 0 => .ok (.nx (putR ρ x (p.1, true))) []
    | 1 => .ok (.nx (putR ρ x (p.1, false))) []
    | _ => .st
  else .st
def ownL (ρ : Rho) (x : Str) (f : List D -> Rs Fl) : Rs Fl :=
  match ρ x with
  | some (.lst l, true) => if okN x = true then (Rs.ok () [llessL l = true]).bnd fun _ => f l else .st
  | _ => .st
def ownM (ρ : Rho) (x : Str) (f : List D -> Rs Fl) : Rs Fl :=
  match ρ x with
  | some (.lst l, true) => if okN x = true then f l else .st
  | _ => .st
def parOk (sc : Scope) (x y : Str) (px py : Pos) (a b : Expr) : Bool :=
  sc.names.lookup x == some .local && sc.names.lookup y == some .local && (px.line == py.line) && !decide (x = y) && !([a, b].all (foldedForSure 8)) && !([a, b].all (constantsAlone 8))
def exPar (Φ : Fx) (es : List Expr) (e : Expr) (sc : Scope) (ρ : Rho) : Rs Fl :=
  match es, e with
  | [.Name x px, .Name y py], .Tuple [a, b] _ _ => if parOk sc x y px py a b = true then (evEs Φ [a, b] sc ρ).bnd fun p => (match p.1 with
      | [u, v] => if llessL [u, v] = true \/ p.2 <= 1 then .ok (.nx (putR (putR ρ x (u, false)) y (v, false))) [] else .st
      | _ => .st) else .st
  | _, _ => .st
def celPar (sc : Scope) (es : List Expr) (e : Expr) : Bool :=
  match es, e with
  | [.Name x _, .Name _ _], .Tuple [_, _] _ _ => sc.names.lookup x == some .cell
  | _, _ => false
def swE (sc : Scope) (es : List Expr) (e : Expr) : Bool := isTupE e && !celPar sc es e
def stOk (_ : Expr) : Bool := true
def exAsg (Φ : Fx) (tgs : List Expr) (e : Expr) (sc : Scope) (ρ : Rho) : Rs Fl :=
  match tgs with
  | [.Name x _] => (evE Φ e false sc ρ).bnd fun p => putO sc x p ρ
  | [.Tuple es _ _] => if swE sc es e = true then exPar Φ es e sc ρ else (evE Φ e false sc ρ).bnd fun p => (match seqOf p.1 with
      | some ds => if llessL ds = true \/ p.2 <= 1 then (match bindNs sc es ds ρ with | some ρ' => .ok (.nx ρ') [] | none => .st) else .st
      | none => .st)
  | [.Subscript (.Name x _) i _] => if stOk e = true then (evE Φ e false sc ρ).bnd fun p => (evE Φ i false sc ρ).bnd fun q => (match q.1 with
      | .int j => ownL ρ x fun l => (match setD l j p.1 with | some l' => .ok (.nx (putR ρ x (.lst l', true))) [p.1.lless = true] | none => .st)
      | _ => .st)
    else .st
  | _ => .st
def augI (op : Operator) (a b : Int) : R1 :=
  match op with
  | .Add => .ok (.int (a + b), 0) []
  | .Sub => .ok (.int (a - b), 0) []
  | .Mult => .ok (.int (a * b), 0) [mulOk a b]
  | .FloorDiv => .ok (.int (a.fdiv b), 0) [divOk b]
  | _ => .st
def exAug (Φ : Fx) (t : Expr) (op : Operator) (e : Expr) (sc : Scope) (ρ : Rho) : Rs Fl :=
  match t with
  | .Name x _ => if locK sc x = true then (match ρ x with
      | some p => intR (p.1, 0) (fun a => (evE Φ e false sc ρ).bnd fun q => intR q fun b => augI op a b) |>.bnd fun r => .ok (.nx (putR ρ x (r.1, true))) []
      | none => .st) else .st
  | _ => .st
def exExp (Φ : Fx) (e : Expr) (sc : Scope) (ρ : Rho) : Rs Fl :=
  match e with
  | .Call (.Attribute (.Name x _) m ap) args [] cp => if (ap.endLine == cp.line) = true then (evEs Φ args sc ρ).bnd fun p => (match Φ.mtt m with
      | some M => ownM ρ x fun l => (M l p.1 p.2).bnd fun l' => .ok (.nx (putR ρ x (.lst l', true))) []
      | none => .st) else .st
  | .Call (.Name f p) args ks cp => (evE Φ (.Call (.Name f p) args ks cp) false sc ρ).bnd fun _ => .ok (.nx ρ) []
  | _ => .st
def demAll (ρ : Rho) : Rho := fun y => (ρ y).map fun p => (p.1, false)
def nest1 : Expr -> Bool
  | .ListComp elt _ _ _ => isComp elt
  | _ => false
def nestE : Expr -> Bool
  | .Tuple es _ _ => es.any nest1
  | e => nest1 e
def rtR (e : Expr) (ρ : Rho) : Rho := cond (nestE e) (demAll ρ) ρ
def retK (p : D × Nat) : Rs Fl := if p.2 = 0 \/ p.2 = 2 then .ok (.rt p.1) [] else .st
mutual
def exS (Φ : Fx) : Stmt -> Scope -> Rho -> Rs Fl
  | .Return (some e) _, sc, ρ => (evE Φ e false sc (rtR e ρ)).bnd retK
  | .Return none _, _, _ => .ok (.rt .non) []
  | .Pass _, _, ρ => .ok (.nx ρ) []
  | .Break _, _, ρ => .ok (.bk ρ) []
  | .Continue _, _, ρ => .ok (.ct ρ) []
  | .Assign tgs e _, sc, ρ => exAsg Φ tgs e sc ρ
  | .AugAssign t op e _, sc, ρ => exAug Φ t op e sc ρ
  | .Expr e _, sc, ρ => exExp Φ e sc ρ
  | .If c a b _, sc, ρ => (evE Φ c false sc ρ).bnd fun p => blR p fun t => cond t (exSs Φ a sc ρ) (exSs Φ b sc ρ)
  | .For tg it body els _, sc, ρ => if els.isEmpty = true then (evE Φ it true sc (demote it ρ)).bnd fun p => (match items p.1 with
      | some ds => if p.2 <= 1 /\ tgOk it tg = true then forD (bindG sc tg) (exSs Φ body sc) ds (demote it ρ) else .st
      | none => .st)
    else .st
  | .While c body els _, sc, ρ => if els.isEmpty = true then whD (fun ρ => (evE Φ c false sc ρ).bnd fun p => blR p fun b => .ok b []) (exSs Φ body sc) many ρ else .st
  | _, _, _ => .st
def exSs (Φ : Fx) : List Stmt -> Scope -> Rho -> Rs Fl
  | [], _, ρ => .ok (.nx ρ) []
  | s :: ss, sc, ρ => (exS Φ s sc ρ).bnd fun
    | .nx ρ' => exSs Φ ss sc ρ'
    | f => .ok f []
end
theorem exS_for {Φ : Fx} {tg it : Expr} {body els : List Stmt} {q : Pos} {sc : Scope} {ρ : Rho} : exS Φ (.For tg it body els q) sc ρ = (if els.isEmpty = true then (evE Φ it true sc (demote it ρ)).bnd fun p => (match items p.1 with
      | some ds => if p.2 <= 1 /\ tgOk it tg = true then forD (bindG sc tg) (exSs Φ body sc) ds (demote it ρ) else .st
      | none => .st)
    else .st) := rfl
theorem exS_wh {Φ : Fx} {c : Expr} {body els : List Stmt} {q : Pos} {sc : Scope} {ρ : Rho} : exS Φ (.While c body els q) sc ρ = (if els.isEmpty = true then whD (fun ρ => (evE Φ c false sc ρ).bnd fun p => blR p fun b => .ok b []) (exSs Φ body sc) many ρ else .st) := rfl
def argR : List Str -> List D -> Rho
  | p :: ps, d :: ds => fun z => if z = p then some (d, false) else argR ps ds z
  | _, _ => fun _ => none
def runD (Φ : Fx) (sc : Scope) (ps : List Str) (body : List Stmt) (ds : List D) : Rs D :=
  if ds.length = ps.length then (exSs Φ body sc (argR ps ds)).bnd fun
    | .rt d => .ok d []
    | .nx _ => .ok .non []
    | _ => .st
  else .st
def bLen (ds : List D) : R1 :=
  match ds with
  | [.sn n] => .ok (.int n, 0) []
  | [x] => (match seqOf x with | some l => .ok (.int l.length, 0) [] | none => .st)
  | _ => .st
def tyNames : List String := ["int", "bool", "str", "tuple", "list", "dict"]
def bIsi (ds : List D) : R1 :=
  match ds with
  | [.obj m _ _, .cls n] => if m = n then .ok (.bl true, 0) [] else .st
  | [x, .typ T] => if T ∈ tyNames then (match isD x T with | some b => .ok (.bl b, 0) [] | none => .st) else .st
  | _ => .st
def bTuple (ds : List D) : R1 :=
  match ds with
  | [x] => (match seqOf x with | some l => .ok (.tup l, 0) [llessL l = true] | none => .st)
  | _ => .st
def bList (ds : List D) : R1 :=
  match ds with
  | [x] => (match seqOf x with | some l => .ok (.lst l, 0) [llessL l = true] | none => .st)
  | _ => .st
def bAbs (ds : List D) : R1 :=
  match ds with
  | [.int i] => .ok (.int (if i < 0 then -i else i), 0) []
  | _ => .st
def bAll (ds : List D) : R1 :=
  match ds with
  | [.lst l] => (match boolsOf l with | some bs => .ok (.bl (bs.all id), 0) [] | none => .st)
  | _ => .st
def bAny (ds : List D) : R1 :=
  match ds with
  | [.lst l] => (match intsOf l with
    | some ns => .ok (.bl (ns.any fun n => n != 0), 0) []
    | none => match boolsOf l with | some bs => .ok (.bl (bs.any id), 0) [] | none => .st)
  | _ => .st
def bSum (ds : List D) : R1 :=
  match ds with
  | [.lst l] => (match intsOf l with | some ns => .ok (.int ns.sum, 0) [] | none => .st)
  | _ => .st
def iRange (ds : List D) (_ : Nat) : R1 :=
  match ds with
  | [.int j] => .ok (.lst ((List.range j.toNat).map fun i => .int (i : Nat)), 0) [-4611686018427387904 <= j, j <= many]
  | [.int i, .int j] => .ok (.lst ((List.range (j - i).toNat).map fun m => .int (i + (m : Nat))), 0) [-4611686018427387904 <= i, i <= 4611686018427387000, -4611686018427387904 <= j, j - i <= 800]
  | _ => .st
def iZip (ds : List D) (k : Nat) : R1 :=
  match ds with
  | [.tup a, .tup b] => .ok (.lst (List.zipWith (fun x y => .tup [x, y]) a b), 0) [llessL a = true, llessL b = true]
  | [x, y] => (match seqOf x, seqOf y with | some a, some b => .ok (.lst (List.zipWith (fun x y => .tup [x, y]) a b), k) [llessL a = true, llessL b = true] | _, _ => .st)
  | _ => .st
def noSl (_ : D) (_ _ : Option Int) : R1 := .st
def Tb (l : List (Str × (List D -> Rs D))) (c : List (Str × D)) (b : List (Str × (List D -> R1))) (i : List (Str × (List D -> Nat -> R1))) (m : List (Str × (D -> List D -> R1))) (t : List (Str × (List D -> List D -> Nat -> Rs (List D)))) (sf : D -> Option Int -> Option Int -> R1) : Fx :=
  { slf := sf, fn := fun g => l.lookup g, con := fun x => c.lookup x, blt := fun x => b.lookup x, itr := fun x => i.lookup x, mth := fun x => m.lookup x, mtt := fun x => t.lookup x }
def Tbo (l : List (Str × (List D -> Rs D))) (c : List (Str × D)) (b : List (Str × (List D -> R1))) (i : List (Str × (List D -> Nat -> R1))) (m : List (Str × (D -> List D -> R1))) (t : List (Str × (List D -> List D -> Nat -> Rs (List D)))) (sf : D -> Option Int -> Option Int -> R1) (fl : List (Str × List Str)) (om : List (Str × List (Str × (List D -> Rs D)))) : Fx :=
  { slf := sf, fn := fun g => l.lookup g, con := fun x => c.lookup x, blt := fun x => b.lookup x, itr := fun x => i.lookup x, mth := fun x => m.lookup x, mtt := fun x => t.lookup x
    fld := fun n f => match fl.lookup n with | some fs => fs.contains f | none => false
    omt := fun n x => match om.lookup n with | some ms => ms.lookup x | none => none }
end Sp
set_option Elab.async false
set_option linter.all false
set_option maxRecDepth 100000
namespace Sp
open PySem PySem.Spec PyProof.Rows L2
variable {X : Cx}
theorem natbits {k : Int} {n : Nat} (h : k.natAbs < 2 ^ n) : Builtin.Int.intBits k <= n := by
  unfold Builtin.Int.intBits
  split
  . exact Nat.zero_le _
  . rename_i h0
    have : k.natAbs.log2 < n := by
      rcases Nat.eq_zero_or_pos k.natAbs with h1 | hp
      . exact absurd (by simpa using h1) (by simpa using h0)
      . exact (Nat.log2_lt (Nat.ne_of_gt hp)).mpr h
    omega
theorem allP_append : ∀ {l m : List Prop}, allP (l ++ m) ↔ allP l /\ allP m
  | [], m => by simp [allP]
  | p :: l, m => by
    show p /\ allP (l ++ m) ↔ (p /\ allP l) /\ allP m
    rw [allP_append, and_assoc]
theorem bnd_inv {α β : Type} {r : Rs α} {f : α -> Rs β} {b : β} {l : List Prop} (h : r.bnd f = .ok b l) (hp : allP l) : ∃ a l1 l2, r = .ok a l1 /\ allP l1 /\ f a = .ok b l2 /\ allP l2 := by
  unfold Rs.bnd at h
  split at h
  . cases h
  . rename_i a l1
    split at h
    . cases h
    . rename_i b' m e
      cases h
      obtain ⟨h1, h2⟩ := allP_append.mp hp
      exact ⟨a, l1, m, rfl, h1, e, h2⟩
theorem gd_inv {b : Bool} {m : List Prop} (h : allP (gd b m)) (hb : b = true) : allP m := by
  cases m with
  | nil => exact True.intro
  | cons p l => exact h.1 hb
theorem mul_w {a b : Int} (h : Builtin.Int.intBits a <= 2 ^ 22) (g : Builtin.Int.intBits b <= 2 ^ 22) : IntMulOk a b := by
  have h' : Builtin.Int.intTooBig (Builtin.Int.intBits a + Builtin.Int.intBits b) = false := by
    unfold Builtin.Int.intTooBig bitsLine; exact decide_eq_false (by omega)
  unfold IntMulOk; rw [h']; simp
theorem mulOk_ok {a b : Int} (h : mulOk a b) : IntMulOk a b := by
  rcases h with h | h | ⟨h, g⟩ | ⟨h, g⟩
  . exact .of_left (natbits h)
  . exact .of_right (natbits h)
  . exact IntMulOk.of_bits (Nat.le_trans (natbits h) (by decide)) (Nat.le_trans (natbits g) (by decide))
  . exact mul_w h g
theorem op_mulS : OpR X (binaryOp .Mult) (rI (fun i j => mulOk i j) fun i j => .int (i * j)) := opI fun _ _ _ _ _ _ _ hc q => mul_int q (mulOk_ok hc)
theorem op_fdivS : OpR X (binaryOp .FloorDiv) (rI (fun _ j => j ≠ 0 /\ j.natAbs < big) fun i j => .int (i.fdiv j)) := opI fun i j _ _ _ _ _ hc q => floordiv_int hc.1 q (.inl (PyProof.noPylong_of_log2 (by
  rcases Nat.eq_zero_or_pos j.natAbs with h1 | hp
  . exact absurd (by simpa using h1) hc.1
  . exact (Nat.log2_lt (Nat.ne_of_gt hp)).mpr hc.2)))
mutual
theorem reads_of {pins : List (Addr × Obj)} {σ : L2.St} {H : Hp} {s : Shared} (I : Inv X pins σ H s) {P : AP2} : ∀ {d : D} {v : V} {u : Value}, d.py.canLay0 = true -> Rep X.K H P d v -> RelV v u -> ∃ as, Reads s.heap u d.py as
  | .non, v, u, _, h, r => by
    rw [Rep] at h; subst h; cases (show u = Value.none from r); rw [D.py]; exact ⟨_, .none⟩
  | .bl b, v, u, _, h, r => by rw [Rep] at h; subst h; cases (show u = Value.bool b from r); rw [D.py]; exact ⟨_, .bool b⟩
  | .int i, v, u, _, h, r => by rw [Rep] at h; subst h; obtain ⟨t, e⟩ := (show ∃ t, u = Value.int i t from r); subst e; rw [D.py]; exact ⟨_, .int i t⟩
  | .str x, v, u, _, h, r => by rw [Rep] at h; subst h; obtain ⟨t, e⟩ := (show ∃ t, u = Value.str x t from r); subst e; rw [D.py]; exact ⟨_, .str x t⟩
  | .emp, v, u, c, h, r => by rw [D.py] at c; simp [PyData.canLay0] at c
  | .typ _, v, u, c, h, r => by rw [D.py] at c; simp [PyData.canLay0] at c
  | .sn _, v, u, c, h, r => by rw [D.py] at c; simp [PyData.canLay0] at c
  | .obj _ _ _, v, u, c, h, r => by rw [D.py] at c; simp [PyData.canLay0] at c
  | .cls _, v, u, c, h, r => by rw [D.py] at c; simp [PyData.canLay0] at c
  | .tup l, v, u, c, h, r => by
    rw [Rep] at h
    obtain ⟨a, vs, rfl, h, q⟩ := h
    cases (show u = Value.ref a from r)
    obtain ⟨its, rv, ht, _⟩ := I.tuple h
    obtain ⟨o, e1, e2, n, e3⟩ := ht
    rw [D.py] at c ⊢
    obtain ⟨as, ra⟩ := readsL_of I (by simpa [PyData.canLay0] using c) q rv
    exact ⟨as, .tuple e1 e2 e3 (by simpa using ra)⟩
  | .lst l, v, u, c, h, r => by
    rw [Rep] at h
    obtain ⟨a, vs, b, rfl, h, _, q⟩ := h
    cases (show u = Value.ref a from r)
    have hs : SqL X.K H a vs := h.sq
    obtain ⟨its, rv, ht, _⟩ := I.list hs
    obtain ⟨o, n, e1, e2, _, e3⟩ := ht
    rw [D.py] at c ⊢
    obtain ⟨as, ra⟩ := readsL_of I (by simpa [PyData.canLay0] using c) q rv
    exact ⟨_, .list e1 e2 e3 (by simpa using ra)⟩
theorem readsL_of {pins : List (Addr × Obj)} {σ : L2.St} {H : Hp} {s : Shared} (I : Inv X pins σ H s) {P : AP2} : ∀ {l : List D} {vs : List V} {us : List Value}, PyData.canLayAll0 (pyL l) = true -> RepL X.K H P l vs -> Vals vs us -> ∃ as, ReadsAll s.heap us (pyL l) as
  | [], vs, us, _, h, r => by rw [RepL] at h; subst h; cases r; rw [pyL]; exact ⟨_, .nil⟩
  | d :: l, vs, us, c, h, r => by
    rw [RepL] at h
    obtain ⟨v, vr, rfl, h1, h2⟩ := h
    cases r with
    | cons r1 r2 =>
      rw [pyL, PyData.canLayAll0, Bool.and_eq_true] at c
      obtain ⟨as, ra⟩ := reads_of I c.1 h1 r1
      obtain ⟨bs, rb⟩ := readsL_of I c.2 h2 r2
      rw [pyL]
      exact ⟨_, .cons ra rb⟩
end
def OpD (X : Cx) (f : Value -> Value -> Sem Value) (x y z : D) (k j l : Nat) : Prop :=
  ∃ r : R2, OpR X f r /\ ∀ ow H0 H2 v u (Q : VK), OwIn ow H0 -> Same H0 H2 -> Rep X.K H2 (Kp ow H0 k) x v -> Rep X.K H2 (Kp ow H0 j) y u -> (∀ w H', Same H2 H' -> Rep X.K H' (Kp ow H0 l) z w -> Q w H') -> r v u H2 Q
theorem same_upd {H : Hp} {p : Addr} {o : HO} (h : H p = none) : Same H (upd H p o) := fun b x e => by rw [upd_ne (ne_of_none e h)]; exact e
theorem Rep.kn {K : PySem.W.Frag} {ow : Ow} {H0 H : Hp} {d : D} {k : Nat} {v : V} (h : Rep K H (Kp ow H0 k) d v) : Rep K H (Kp ow H0 (Sp.kn d k)) d v := by
  unfold Sp.kn
  by_cases f : d.lless = true
  . rw [if_pos f]; exact h.flat _ f
  . rw [if_neg f]; exact h
theorem manyLine : many <= sizeLine := by rw [sizeLine_eq]; decide
theorem manyLine' : many < sizeLine := by rw [sizeLine_eq]; decide
theorem opD_int {f : Value -> Value -> Sem Value} {a b : Int} {g : Int -> Int -> Int} {C : Int -> Int -> Prop} {k j : Nat} (h : OpR X f (rI C fun i j => .int (g i j))) (hc : C a b) : OpD X f (.int a) (.int b) (.int (g a b)) k j 0 :=
  ⟨_, h, fun ow H0 H2 v u Q o s rx ry q => by
    rw [Rep] at rx ry; subst rx ry
    exact ⟨a, b, rfl, rfl, hc, q _ _ (Same.refl _) (by rw [Rep])⟩⟩
theorem opD_int0 {f : Value -> Value -> Sem Value} {a b : Int} {g : Int -> Int -> Int} {k j : Nat} (h : OpR X f (rI0 fun i j => .int (g i j))) : OpD X f (.int a) (.int b) (.int (g a b)) k j 0 :=
  ⟨_, h, fun ow H0 H2 v u Q o s rx ry q => by
    rw [Rep] at rx ry; subst rx ry
    exact ⟨a, b, rfl, rfl, q _ _ (Same.refl _) (by rw [Rep])⟩⟩
theorem llessL_append : ∀ {a b : List D}, llessL (a ++ b) = (llessL a && llessL b)
  | [], b => by simp [llessL]
  | x :: a, b => by rw [List.cons_append, llessL, llessL, llessL_append, Bool.and_assoc]
theorem binI_ok {op : Operator} {a b : Int} {z : D} {k j l : Nat} {o : List Prop} (h : binI op a b = .ok (z, l) o) (hp : allP o) : OpD X (binaryOp op) (.int a) (.int b) z k j l := by
  unfold binI at h
  split at h
  . cases h; exact opD_int0 op_add
  . cases h; exact opD_int0 op_sub
  . cases h; exact opD_int op_mulS hp.1
  . cases h; exact opD_int op_fdivS hp.1
  . cases h; exact opD_int op_modN hp.1
  . cases h
    have c : powOk a b := hp.1
    exact opD_int op_pow ⟨c.1, by have := c.2.1; omega, c.2.2⟩
  . cases h
theorem isAdd_eq {op : Operator} (h : isAdd op = true) : op = .Add := by cases op <;> first | rfl | cases h
theorem op_catT0 : OpR X (binaryOp .Add) (fun x y H Q => ∃ a b ys, x = .ref a /\ y = .ref b /\ SqT X.K H a [] /\ SqT X.K H b ys /\ Q (.ref b) H) := by
  intro pins s σ H x y v u Q I rx ry h
  obtain ⟨a, b, ys, rfl, rfl, ha, hb, q⟩ := h
  cases rx
  cases ry
  obtain ⟨its, r1, p1, _⟩ := I.tuple ha
  obtain ⟨its2, r2, p2, _⟩ := I.tuple hb
  cases r1
  obtain ⟨⟨cls, dd, data, sl⟩, ho, hc, n, hd⟩ := id p1
  obtain ⟨⟨cls2, dd2, data2, sl2⟩, ho2, hc2, n2, hd2⟩ := id p2
  simp only at hc hd hc2 hd2
  subst hc hd hc2 hd2
  exact concat_meets ⟨_, ho, rfl⟩ ⟨_, ho2, rfl⟩ noFill_tuple_add seq_tuple_add PySem.F.slot_tuple_add PySem.F.entry_tuple_add (PySem.F.args_tuple_add_2 _ _)
    (tuple_addW0 a b _ its2.toArray n n2 dd dd2 sl sl2 (by rfl)) ⟨ho, ho2, ⟨.ref b, H, I, rfl, q⟩⟩
theorem op_catL : OpR X (binaryOp .Add) (fun x y H Q => ∃ l b xs zs, x = .ref l /\ y = .ref b /\ SqL X.K H l xs /\ SqL X.K H b zs /\ xs.length + zs.length <= sizeLine /\ ∀ p, H p = none -> Q (.ref p) (upd H p (.lst (xs ++ zs)))) := by
  intro pins s σ H x y v u Q I rx ry h
  obtain ⟨l, b, xs, zs, rfl, rfl, hH, hB, hz, q⟩ := h
  cases rx
  cases ry
  obtain ⟨its, r, ⟨⟨cls, dd, data, sl⟩, n, ho, hc, _, hd⟩, z⟩ := I.list hH
  obtain ⟨its2, r2, ⟨⟨cls2, dd2, data2, sl2⟩, n2, ho2, hc2, _, hd2⟩, z2⟩ := I.list hB
  simp only at hc hd hc2 hd2
  subst hc hd hc2 hd2
  have l1 := r.length
  have l2 := r2.length
  refine concat_meets ⟨_, ho, rfl⟩ ⟨_, ho2, rfl⟩ noFill_list_add seq_list_add PySem.F.slot_list_add PySem.F.entry_list_add (PySem.F.args_list_add_2 _ _) (list_addW l b its.toArray its2.toArray n n2 dd dd2 sl sl2 (by rw [List.size_toArray, List.size_toArray]; omega)) ⟨ho, ho2, ?_⟩
  have ea : its.toArray ++ its2.toArray = (its ++ its2).toArray := by simp
  rw [ea]
  exact ⟨.ref _, _, I.lnew (t' := s.toks) (r.append r2) (by rw [List.length_append]; omega), rfl, q _ I.fresh⟩
theorem bin_ok {op : Operator} {x y z : D} {k j l : Nat} {o : List Prop} (h : binD op x y k j = .ok (z, l) o) (hp : allP o) : OpD X (binaryOp op) x y z k j l := by
  unfold binD at h
  split at h
  . exact binI_ok h hp
  . rename_i a b
    split at h
    . rename_i c
      cases isAdd_eq c
      cases h
      cases a with
      | nil =>
        refine ⟨_, op_catT0, fun ow H0 H2 v u Q o s rx ry q => ?_⟩
        rw [Rep] at rx ry
        obtain ⟨pa, va, rfl, ha, ra⟩ := rx
        obtain ⟨pb, vb, rfl, hb, rb⟩ := ry
        have rb' := rb.imp (Kp.joinR o k j)
        cases ra
        refine ⟨pa, pb, vb, rfl, rfl, ha, hb, q _ _ (Same.refl _) (Rep.kn ?_)⟩
        rw [Rep]
        exact ⟨pb, vb, rfl, hb, rb'⟩
      | cons a0 a =>
        refine ⟨_, op_catT, fun ow H0 H2 v u Q o s rx ry q => ?_⟩
        rw [Rep] at rx ry
        obtain ⟨pa, va, rfl, ha, ra⟩ := rx
        obtain ⟨pb, vb, rfl, hb, rb⟩ := ry
        have ra' := ra.imp (Kp.joinL o k j)
        have rb' := rb.imp (Kp.joinR o k j)
        have la := ra.length
        have lb := rb.length
        refine ⟨pa, pb, va, vb, rfl, rfl, ha, hb, ?_, ?_, fun e => ?_, fun e p hp' => ?_⟩
        . intro e; subst e; cases la
        . rw [<- la, <- lb]; exact Nat.le_trans hp.1 manyLine
        . subst e
          have : b = [] := List.length_eq_zero_iff.mp lb
          subst this
          refine q _ _ (Same.refl _) (Rep.kn ?_)
          rw [Rep]
          exact ⟨pa, va, rfl, ha, by rw [List.append_nil]; exact ra'⟩
        . have sm := same_upd (o := HO.tup (va ++ vb)) hp'
          refine q _ _ sm (Rep.kn ?_)
          rw [Rep]
          exact ⟨p, _, rfl, SqT.of upd_same, (ra'.same sm).append (rb'.same sm)⟩
    . cases h
  . rename_i a b
    split at h
    . rename_i c; cases h
      cases isAdd_eq c
      refine ⟨_, op_catL, fun ow H0 H2 v u Q o s rx ry q => ?_⟩
      rw [Rep] at rx ry
      obtain ⟨pa, va, b1, rfl, ha, qa, ra⟩ := rx
      obtain ⟨pb, vb, b2, rfl, hb, qb, rb⟩ := ry
      have la := ra.length
      have lb := rb.length
      have fl := hp.1
      rw [llessL_append, Bool.and_eq_true] at fl
      refine ⟨pa, pb, va, vb, rfl, rfl, ha.sq, hb.sq, by rw [<- la, <- lb]; exact Nat.le_trans hp.2.1 manyLine, fun p hp' => ?_⟩
      have sm := same_upd (o := HO.lst (va ++ vb)) hp'
      refine q _ _ sm ?_
      rw [Rep]
      exact ⟨p, _, true, rfl, upd_same, ⟨rfl, s.free hp'⟩, ((ra.flat _ fl.1).same sm).append ((rb.flat _ fl.2).same sm)⟩
    . cases h
  . cases h
theorem lists_of {pins : List (Addr × Obj)} {σ : L2.St} {H : Hp} {s : Shared} {P : AP2} {l : List D} {v : V} (h : Rep X.K H P (.lst l) v) : ∃ a vs, v = .ref a /\ SqL X.K H a vs /\ RepL X.K H P l vs := by
  rw [Rep] at h
  obtain ⟨a, vs, b, rfl, h, _, q⟩ := h
  exact ⟨a, vs, rfl, h.sq, q⟩
theorem intsOf_eq : ∀ {l : List D} {ns : List Int}, intsOf l = some ns -> l = ns.map D.int
  | [], ns, h => by rw [intsOf] at h; cases h; rfl
  | .int i :: l, ns, h => by
    rw [intsOf] at h
    cases e : intsOf l with
    | none => rw [e] at h; cases h
    | some m => rw [e] at h; cases h; rw [intsOf_eq e]; rfl
  | .non :: l, ns, h => by rw [intsOf] at h <;> first | cases h | (intro z; intro e; cases e)
  | .bl _ :: l, ns, h => by rw [intsOf] at h <;> first | cases h | (intro z; intro e; cases e)
  | .str _ :: l, ns, h => by rw [intsOf] at h <;> first | cases h | (intro z; intro e; cases e)
  | .emp :: l, ns, h => by rw [intsOf] at h <;> first | cases h | (intro z; intro e; cases e)
  | .typ _ :: l, ns, h => by cases h
  | .sn _ :: l, ns, h => by cases h
  | .obj _ _ _ :: l, ns, h => by cases h
  | .cls _ :: l, ns, h => by cases h
  | .tup _ :: l, ns, h => by rw [intsOf] at h <;> first | cases h | (intro z; intro e; cases e)
  | .lst _ :: l, ns, h => by rw [intsOf] at h <;> first | cases h | (intro z; intro e; cases e)
theorem boolsOf_eq : ∀ {l : List D} {ns : List Bool}, boolsOf l = some ns -> l = ns.map D.bl
  | [], ns, h => by rw [boolsOf] at h; cases h; rfl
  | .bl i :: l, ns, h => by
    rw [boolsOf] at h
    cases e : boolsOf l with
    | none => rw [e] at h; cases h
    | some m => rw [e] at h; cases h; rw [boolsOf_eq e]; rfl
  | .non :: l, ns, h => by rw [boolsOf] at h <;> first | cases h | (intro z; intro e; cases e)
  | .int _ :: l, ns, h => by rw [boolsOf] at h <;> first | cases h | (intro z; intro e; cases e)
  | .str _ :: l, ns, h => by rw [boolsOf] at h <;> first | cases h | (intro z; intro e; cases e)
  | .emp :: l, ns, h => by rw [boolsOf] at h <;> first | cases h | (intro z; intro e; cases e)
  | .typ _ :: l, ns, h => by cases h
  | .sn _ :: l, ns, h => by cases h
  | .obj _ _ _ :: l, ns, h => by cases h
  | .cls _ :: l, ns, h => by cases h
  | .tup _ :: l, ns, h => by rw [boolsOf] at h <;> first | cases h | (intro z; intro e; cases e)
  | .lst _ :: l, ns, h => by rw [boolsOf] at h <;> first | cases h | (intro z; intro e; cases e)
def CmpR (X : Cx) (op : CmpOp) (x y : D) (r : Bool) : Prop := ∀ (P P' : AP2), OpR X (compareOp op) (fun v u H Q => Rep X.K H P x v /\ Rep X.K H P' y u /\ Q (.bl r) H)
theorem any_py {x : D} : ∀ {l : List D}, ((pyL l).any fun y => PyData.eqv y x.py) = l.any fun y => eqD y x
  | [] => by rw [pyL]; rfl
  | y :: l => by rw [pyL, List.any_cons, List.any_cons, any_py]; rfl
theorem cmp_int {op : CmpOp} {a b : Int} {g : Int -> Int -> Bool} (h : OpR X (compareOp op) (rI0 fun i j => .bl (g i j))) : CmpR X op (.int a) (.int b) (g a b) := fun P P' pins s σ H v u xv yu Q I rx ry ⟨h1, h2, q⟩ => by
  rw [Rep] at h1 h2; subst h1 h2
  exact h pins s σ H _ _ xv yu Q I rx ry ⟨a, b, rfl, rfl, q⟩
theorem lay_tup {l : List D} (h : SeqAt.shaped (D.tup l).py = true) : PyData.canLayAll0 (pyL l) = true := by
  have := SeqAt.canLay_of_shaped h
  rw [D.py] at this
  simpa [PyData.canLay0] using this
theorem mem_tup {x : D} {l : List D} {r : Bool} {o : List Prop} (hu : X.A.units + 70 < cLine) (h : memD x l = .ok r o) (hp : allP o) : CmpR X .In x (.tup l) r /\ CmpR X .In x (.lst l) r /\ CmpR X .NotIn x (.tup l) (!r) /\ CmpR X .NotIn x (.lst l) (!r) := by
  unfold memD at h
  cases h
  . have c := hp.1
    unfold eqOk at c
    rw [Bool.and_eq_true] at c
    have c1 := lay_tup c.1
    have c2 := SeqAt.canLay_of_shaped c.2
    have dx := SeqAt.depth_of_shaped c.2
    have hm : min (PyData.depthAll (pyL l)) x.py.depth <= 64 := Nat.le_trans (Nat.min_le_right _ _) dx
    have ct : (D.tup l).py.canLay0 = true := SeqAt.canLay_of_shaped c.1
    have cl : (D.lst l).py.canLay0 = true := by rw [D.py]; simpa [PyData.canLay0] using c1
    have et : (D.tup l).py = .tuple (pyL l) := by rw [D.py]
    have el : (D.lst l).py = .list (pyL l) := by rw [D.py]
    refine ⟨?_, ?_, ?_, ?_⟩ <;> intro P P' pins s σ H v u xv yu Q I rx ry ⟨h1, h2, q⟩ <;> obtain ⟨as, r1⟩ := reads_of I c2 h1 rx
    . obtain ⟨bs, r2⟩ := reads_of I ct h2 ry
      rw [et] at r2
      exact SeqAt.in_tuple_reads r2 r1 c1 c2 (by omega) ⟨.bl _, H, I, rfl, by rw [any_py]; exact q⟩
    . obtain ⟨bs, r2⟩ := reads_of I cl h2 ry
      rw [el] at r2
      exact SeqAt.in_list_reads r2 r1 c1 c2 (by omega) ⟨.bl _, H, I, rfl, by rw [any_py]; exact q⟩
    . obtain ⟨bs, r2⟩ := reads_of I ct h2 ry
      rw [et] at r2
      exact SeqAt.notIn_tuple_reads r2 r1 c1 c2 (by omega) ⟨.bl _, H, I, rfl, by rw [any_py]; exact q⟩
    . obtain ⟨bs, r2⟩ := reads_of I cl h2 ry
      rw [el] at r2
      exact SeqAt.notIn_list_reads r2 r1 c1 c2 (by omega) ⟨.bl _, H, I, rfl, by rw [any_py]; exact q⟩
theorem nt_inv {r : Rs Bool} {b : Bool} {o : List Prop} (h : r.nt = .ok b o) : r = .ok (!b) o := by
  cases r with
  | st => cases h
  | ok c l => cases h; simp
theorem non_iff {P : AP2} {H : Hp} {x : D} {v : V} (h : Rep X.K H P x v) : decide (v = .non) = x.isNon := by
  cases x with
  | non => rw [Rep] at h; subst h; rfl
  | bl _ => rw [Rep] at h; subst h; rfl
  | int _ => rw [Rep] at h; subst h; rfl
  | str _ => rw [Rep] at h; subst h; rfl
  | emp => rw [Rep] at h; obtain ⟨a, rfl, _⟩ := h; rfl
  | typ _ => rw [Rep] at h; subst h; rfl
  | sn _ => rw [Rep] at h; obtain ⟨a, _, rfl, _⟩ := h; rfl
  | obj _ _ _ => rw [Rep] at h; obtain ⟨_, _, a, _, _, _, rfl, _⟩ := h; rfl
  | cls _ => rw [Rep] at h; obtain ⟨_, _, rfl, _⟩ := h; rfl
  | tup _ => rw [Rep] at h; obtain ⟨a, _, rfl, _⟩ := h; rfl
  | lst _ => rw [Rep] at h; obtain ⟨a, _, _, rfl, _⟩ := h; rfl
theorem seqOf_eq {d : D} {l : List D} (h : seqOf d = some l) : d = .tup l \/ d = .lst l := by
  unfold seqOf at h
  split at h
  . cases h; exact .inl rfl
  . cases h; exact .inr rfl
  . cases h
theorem cmpI_ok {op : CmpOp} {a b : Int} {r : Bool} (h : cmpI op a b = some r) : CmpR X op (.int a) (.int b) r := by
  unfold cmpI at h
  split at h
  . cases h; exact cmp_int op_lt
  . cases h; exact cmp_int op_le
  . cases h; exact cmp_int op_gt
  . cases h; exact cmp_int op_ge
  . cases h
theorem ord_ok {op : CmpOp} {x y : D} {r : Bool} (hu : X.A.units + 70 < cLine) (h : ordD op x y = some r) : CmpR X op x y r := by
  unfold ordD at h
  split at h
  . exact cmpI_ok h
  . cases h
theorem bb_eq (b c : Bool) : (Value.bool b == Value.bool c) = (b == c) := by cases b <;> cases c <;> rfl
theorem cmp_ok {op : CmpOp} {x y : D} {r : Bool} {o : List Prop} (hu : X.A.units + 70 < cLine) (h : cmpD op x y = .ok r o) (hp : allP o) : CmpR X op x y r := by
  unfold cmpD at h
  split at h
  . cases h
    have c := hp.1
    unfold eqOk at c
    rw [Bool.and_eq_true] at c
    intro P P' pins s σ H v u xv yu Q I rx ry ⟨h1, h2, q⟩
    obtain ⟨as, r1⟩ := reads_of I (SeqAt.canLay_of_shaped c.1) h1 rx
    obtain ⟨bs, r2⟩ := reads_of I (SeqAt.canLay_of_shaped c.2) h2 ry
    exact eq_dataH r1 r2 c.1 c.2 (by omega) ⟨.bl _, H, I, rfl, q⟩
  . cases h
    have c := hp.1
    unfold eqOk at c
    rw [Bool.and_eq_true] at c
    intro P P' pins s σ H v u xv yu Q I rx ry ⟨h1, h2, q⟩
    obtain ⟨as, r1⟩ := reads_of I (SeqAt.canLay_of_shaped c.1) h1 rx
    obtain ⟨bs, r2⟩ := reads_of I (SeqAt.canLay_of_shaped c.2) h2 ry
    exact ne_dataH r1 r2 c.1 c.2 (by omega) ⟨.bl _, H, I, rfl, q⟩
  . split at h
    . cases h
      intro P P' pins s σ H v u xv yu Q I rx ry ⟨h1, h2, q⟩
      rw [Rep] at h2
      subst h2
      exact op_isN pins s σ H v _ xv yu Q I rx ry ⟨rfl, by rw [non_iff h1]; exact q⟩
    . split at h
      . cases h
        intro P P' pins s σ H v u xv yu Q I rx ry ⟨h1, h2, q⟩
        rw [Rep] at h1 h2
        subst h1 h2
        cases rx
        cases ry
        exact wpAny_is_plain rfl ⟨.bl _, H, I, rfl, by rw [bb_eq]; exact q⟩
      . cases h
    . cases h
  . split at h
    . cases h
      intro P P' pins s σ H v u xv yu Q I rx ry ⟨h1, h2, q⟩
      rw [Rep] at h2
      subst h2
      refine op_notN pins s σ H v _ xv yu Q I rx ry ⟨rfl, ?_⟩
      rw [non_iff h1]
      exact q
    . split at h
      . cases h
        intro P P' pins s σ H v u xv yu Q I rx ry ⟨h1, h2, q⟩
        rw [Rep] at h1 h2
        subst h1 h2
        cases rx
        cases ry
        exact wpAny_isNot_plain rfl ⟨.bl _, H, I, rfl, by rw [bb_eq]; exact q⟩
      . cases h
    . cases h
  . cases e : ordD op x y with
    | none => rw [e] at h; cases h
    | some b => rw [e] at h; cases h; exact ord_ok hu e
end Sp
set_option Elab.async false
set_option linter.all false
set_option maxRecDepth 100000
namespace Sp
open PySem PySem.Spec PyProof.Rows L2
variable {X : Cx}
theorem kit_own (K : PySem.W.Frag) {t : Value} : PySem.W.kitOne K t t = some true := by unfold PySem.W.kitOne; rw [if_pos (beq_self_eq_true t)]
def D.ty : D -> String
  | .non => "NoneType"
  | .bl _ => "bool"
  | .int _ => "int"
  | .str _ => "str"
  | .emp => "dict"
  | .tup _ => "tuple"
  | .lst _ => "list"
  | .typ _ => "type"
  | .sn _ => "set"
  | .obj _ _ _ => "object"
  | .cls _ => "type"
def D.plain : D -> Bool
  | .typ _ => false
  | .sn _ => false
  | .obj _ _ _ => false
  | .cls _ => false
  | _ => true
theorem isi_ok {x : D} {c : String} {b : Bool} (hpl : x.plain = true) (e : ∀ K, PySem.W.kitOne K (.type x.ty) (.type c) = some b) {pins : List (Addr × Obj)} {σ : L2.St} {H : Hp} {s : Shared} {v : V} {u : Value} {P : AP2} {Q : Value -> Shared -> Prop} {E : Value -> Shared -> Prop}
    (I : Inv X pins σ H s) (h : Rep X.K H P x v) (r : RelV v u) (q : ∀ tk, Q (.bool b) { s with toks := tk }) : wpAny (model X.prog X.w) X.A (call (.builtin "isinstance") [u, .type c]) Q E s := by
  have e := e X.K
  cases x with
  | non => rw [Rep] at h; subst h; cases (show u = Value.none from r); exact PySem.W.kia_one PySem.W.kitx_none I.kIn True.intro e (fun z => nomatch z) q
  | bl y => rw [Rep] at h; subst h; cases (show u = Value.bool y from r); exact PySem.W.kia_one PySem.W.kitx_bool I.kIn True.intro e (fun z => nomatch z) q
  | int i => rw [Rep] at h; subst h; obtain ⟨t, z⟩ := (show ∃ t, u = Value.int i t from r); cases z; exact PySem.W.kia_one PySem.W.kitx_int I.kIn True.intro e (fun z => nomatch z) q
  | str y => rw [Rep] at h; subst h; obtain ⟨t, z⟩ := (show ∃ t, u = Value.str y t from r); cases z; exact PySem.W.kia_one PySem.W.kitx_str I.kIn True.intro e (fun z => nomatch z) q
  | emp =>
    rw [Rep] at h
    obtain ⟨a, rfl, ea⟩ := h
    cases (show u = Value.ref a from r)
    obtain ⟨_, _, vs, _, p⟩ := (show ObjOk X.prog X.w H s.heap a (.dK []) from I.hok a _ ea)
    obtain ⟨o, es, ep, h1, h2, _⟩ := p
    exact PySem.W.kia_one PySem.W.kitx_dict I.kIn ⟨o, h1, h2.1⟩ e (fun z => nomatch z) q
  | typ _ => cases hpl
  | sn _ => cases hpl
  | obj _ _ _ => cases hpl
  | cls _ => cases hpl
  | tup l =>
    rw [Rep] at h
    obtain ⟨a, vs, rfl, ea, _⟩ := h
    cases (show u = Value.ref a from r)
    obtain ⟨_, _, ⟨o, h1, h2, _⟩, _⟩ := I.tuple ea
    exact PySem.W.kia_one PySem.W.kitx_tuple I.kIn ⟨o, h1, h2⟩ e (fun z => nomatch z) q
  | lst l =>
    obtain ⟨a, vs, rfl, ea, _⟩ := lists_of (pins := pins) (σ := σ) (s := s) h
    cases (show u = Value.ref a from r)
    obtain ⟨_, _, ⟨o, n, h1, h2, _⟩, _⟩ := I.list ea
    exact PySem.W.kia_one PySem.W.kitx_list I.kIn ⟨o, h1, h2⟩ e (fun z => nomatch z) q
theorem kt (K : PySem.W.Frag) (a b : String) (r : Bool) (h : (a == b) = false) (h2 : PySem.W.kitCls K (.type a) (.type b) = some r) : PySem.W.kitOne K (.type a) (.type b) = some r := by
  unfold PySem.W.kitOne
  rw [if_neg (by
    intro z
    have : a = b := by simpa using z
    subst this
    simp at h)]
  exact h2
theorem kit_tab : ∀ a ∈ ["NoneType", "bool", "int", "str", "dict", "tuple", "list"], ∀ T ∈ tyNames, (a == T) = false -> ∀ K, PySem.W.kitCls K (.type a) (.type T) = some (decide (a = "bool" /\ T = "int")) := by
  intro a ha T hT
  simp only [List.mem_cons, List.not_mem_nil, or_false, tyNames] at ha hT
  rcases ha with rfl | rfl | rfl | rfl | rfl | rfl | rfl <;> rcases hT with rfl | rfl | rfl | rfl | rfl | rfl <;> intro h K <;> first | (exact absurd h (by decide)) | kernel_rfl
theorem isD_ok {x : D} {T : String} {b : Bool} (h : isD x T = some b) (hT : T ∈ tyNames) : x.plain = true /\ ∀ K, PySem.W.kitOne K (.type x.ty) (.type T) = some b := by
  have key : ∀ (a : String), a ∈ ["NoneType", "bool", "int", "str", "dict", "tuple", "list"] -> ∀ K, PySem.W.kitOne K (.type a) (.type T) = some (decide (a = T) || decide (a = "bool" /\ T = "int")) := fun a ha K => by
    by_cases e : a = T
    . subst e; rw [kit_own]; simp
    . have e' : (a == T) = false := by simpa using e
      rw [kt K a T _ e' (kit_tab a ha T hT e' K)]; simp [e]
  unfold isD at h
  cases hx : x.ty0 with
  | none => rw [hx] at h; cases h
  | some a =>
    rw [hx] at h
    cases h
    have hp : x.plain = true /\ x.ty = a /\ a ∈ ["NoneType", "bool", "int", "str", "dict", "tuple", "list"] := by
      cases x <;> cases hx <;> exact ⟨rfl, rfl, by decide⟩
    refine ⟨hp.1, fun K => ?_⟩
    rw [hp.2.1]
    exact key a hp.2.2 K
def CallD (X : Cx) (f : Value) (ds : List D) (z : D) (l : Nat) : Prop :=
  ∃ r : List V -> Hp -> VK -> Prop, CallR X f r /\ ∀ ow H0 H2 vs (P : AP2) (Q : VK), OwIn ow H0 -> Same H0 H2 -> RepL X.K H2 P ds vs -> (∀ w H', Same H2 H' -> Rep X.K H' (Kp ow H0 l) z w -> Q w H') -> r vs H2 Q
theorem RepL.only {K : PySem.W.Frag} {P : AP2} {H : Hp} {d : D} {vs : List V} (h : RepL K H P [d] vs) : ∃ v, vs = [v] /\ Rep K H P d v := by
  rw [RepL] at h
  obtain ⟨v, r, rfl, h1, h2⟩ := h
  rw [RepL] at h2; subst h2
  exact ⟨v, rfl, h1⟩
theorem sq_of {P : AP2} {H : Hp} {l : List D} {v : V} (h : Rep X.K H P (.lst l) v) : ∃ a vs, v = .ref a /\ SqL X.K H a vs /\ RepL X.K H P l vs := by
  rw [Rep] at h
  obtain ⟨a, vs, b, rfl, h, _, q⟩ := h
  exact ⟨a, vs, rfl, h.sq, q⟩
theorem sqt_of {P : AP2} {H : Hp} {l : List D} {v : V} (h : Rep X.K H P (.tup l) v) : ∃ a vs, v = .ref a /\ SqT X.K H a vs /\ RepL X.K H P l vs := by
  rw [Rep] at h; exact h
theorem len_ok {l : List D} : CallD X (.builtin "len") [.tup l] (.int l.length) 0 /\ CallD X (.builtin "len") [.lst l] (.int l.length) 0 := by
  constructor
  . refine ⟨_, call_len_seq, fun ow H0 H2 vs P Q o s rx q => ?_⟩
    obtain ⟨v, rfl, ry⟩ := rx.only
    obtain ⟨a, ws, rfl, hs, rl⟩ := sqt_of ry
    exact ⟨a, ws, rfl, .inr hs, by rw [<- rl.length]; exact q _ _ (Same.refl _) (by rw [Rep])⟩
  . refine ⟨_, call_len_seq, fun ow H0 H2 vs P Q o s rx q => ?_⟩
    obtain ⟨v, rfl, ry⟩ := rx.only
    obtain ⟨a, ws, rfl, hs, rl⟩ := sq_of ry
    exact ⟨a, ws, rfl, .inl hs, by rw [<- rl.length]; exact q _ _ (Same.refl _) (by rw [Rep])⟩
theorem tuple_ok {l : List D} (f : llessL l = true) : CallD X (.type "tuple") [.lst l] (.tup l) 0 /\ CallD X (.type "tuple") [.tup l] (.tup l) 0 := by
  constructor
  . refine ⟨_, call_tuple_of, fun ow H0 H2 vs P Q o s rx q => ?_⟩
    obtain ⟨v, rfl, ry⟩ := rx.only
    obtain ⟨a, ws, rfl, hs, rl⟩ := sq_of ry
    refine ⟨a, ws, rfl, .inl ⟨hs, fun p hp => ?_⟩⟩
    have sm := same_upd (o := HO.tup ws) hp
    refine q _ _ sm ?_
    rw [Rep]
    exact ⟨p, ws, rfl, SqT.of upd_same, (rl.flat _ f).same sm⟩
  . refine ⟨_, call_tuple_of, fun ow H0 H2 vs P Q o s rx q => ?_⟩
    obtain ⟨v, rfl, ry⟩ := rx.only
    obtain ⟨a, ws, rfl, hs, rl⟩ := sqt_of ry
    refine ⟨a, ws, rfl, .inr ⟨hs, q _ _ (Same.refl _) ?_⟩⟩
    rw [Rep]
    exact ⟨a, ws, rfl, hs, rl.flat _ f⟩
theorem list_ok {l : List D} (f : llessL l = true) : CallD X (.type "list") [.lst l] (.lst l) 0 /\ CallD X (.type "list") [.tup l] (.lst l) 0 := by
  constructor
  . refine ⟨_, call_list_of, fun ow H0 H2 vs P Q o s rx q => ?_⟩
    obtain ⟨v, rfl, ry⟩ := rx.only
    obtain ⟨a, ws, rfl, hs, rl⟩ := sq_of ry
    refine ⟨a, ws, rfl, .inl hs, fun p hp => ?_⟩
    have sm := same_upd (o := HO.lst ws) hp
    refine q _ _ sm ?_
    rw [Rep]
    exact ⟨p, ws, true, rfl, upd_same, ⟨rfl, s.free hp⟩, (rl.flat _ f).same sm⟩
  . refine ⟨_, call_list_of, fun ow H0 H2 vs P Q o s rx q => ?_⟩
    obtain ⟨v, rfl, ry⟩ := rx.only
    obtain ⟨a, ws, rfl, hs, rl⟩ := sqt_of ry
    refine ⟨a, ws, rfl, .inr hs, fun p hp => ?_⟩
    have sm := same_upd (o := HO.lst ws) hp
    refine q _ _ sm ?_
    rw [Rep]
    exact ⟨p, ws, true, rfl, upd_same, ⟨rfl, s.free hp⟩, (rl.flat _ f).same sm⟩
theorem abs_ok {i : Int} : CallD X (.builtin "abs") [.int i] (.int (if i < 0 then -i else i)) 0 := by
  refine ⟨_, call_abs, fun ow H0 H2 vs P Q o s rx q => ?_⟩
  obtain ⟨v, rfl, ry⟩ := rx.only
  rw [Rep] at ry; subst ry
  exact ⟨i, rfl, q _ _ (Same.refl _) (by rw [Rep])⟩
theorem RepL.mapBl {K : PySem.W.Frag} {P : AP2} {H : Hp} : ∀ {ns : List Bool} {vs : List V}, RepL K H P (ns.map D.bl) vs -> vs = ns.map V.bl
  | [], vs, h => by rw [List.map_nil, RepL] at h; exact h
  | n :: ns, vs, h => by
    rw [List.map_cons, RepL] at h
    obtain ⟨v, r, rfl, h1, h2⟩ := h
    rw [Rep] at h1
    rw [h1, RepL.mapBl h2]; rfl
theorem vals_bl : ∀ {bs : List Bool} {us : List Value}, Vals (bs.map V.bl) us -> us = bs.map Value.bool
  | [], us, h => by cases h; rfl
  | b :: bs, us, h => by
    cases h with
    | cons h1 h2 => rw [show _ = Value.bool b from h1, vals_bl h2]; rfl
theorem vals_int : ∀ {ns : List Int} {us : List Value}, Vals (ns.map V.int) us -> (∀ v, v ∈ us -> ∃ a t, v = Value.int a t) /\ numsOf us = ns
  | [], us, h => by cases h; exact ⟨fun _ h => (by cases h), rfl⟩
  | n :: ns, us, h => by
    cases h with
    | cons h1 h2 =>
      obtain ⟨t, rfl⟩ := (show ∃ t, _ = Value.int n t from h1)
      obtain ⟨i1, i2⟩ := vals_int h2
      refine ⟨fun v hv => ?_, by simp only [numsOf]; rw [i2]⟩
      rcases List.mem_cons.mp hv with rfl | hv
      . exact ⟨_, _, rfl⟩
      . exact i1 v hv
theorem call_sumL (hc : X.calm = true) : CallR X (.builtin "sum") (fun xs H Q => ∃ (p : Addr) (ns : List Int), xs = [.ref p] /\ SqL X.K H p (ns.map V.int) /\ Q (.int ns.sum) H) := by
  intro pins s σ H xs us Q I r h
  obtain ⟨p, ns, rfl, hq, q⟩ := h
  obtain ⟨u, rfl, rx⟩ := vals1 r
  cases rx
  obtain ⟨its, rv, pl, hz⟩ := I.list hq
  obtain ⟨hall, hnum⟩ := vals_int rv
  obtain ⟨xs, e⟩ := AllInts.items (vs := its.toArray) (fun v hv => hall v (by simpa using hv))
  have hl := pl.isList
  rw [e] at hl
  refine sum_intListG (I.ok.hd hc) hl fun h' tk t' hk => ?_
  refine ⟨.int ns.sum, H, I.kept hk, ⟨t', ?_⟩, q⟩
  congr 1
  rw [preSum_eq, List.take_of_length_le (by simp), <- nums_intItems, <- e]
  simp [hnum]
theorem call_allL (hc : X.calm = true) : CallR X (.builtin "all") (fun xs H Q => ∃ (p : Addr) (bs : List Bool), xs = [.ref p] /\ SqL X.K H p (bs.map V.bl) /\ Q (.bl (bs.all id)) H) := by
  intro pins s σ H xs us Q I r h
  obtain ⟨p, bs, rfl, hq, q⟩ := h
  obtain ⟨u, rfl, rx⟩ := vals1 r
  cases rx
  obtain ⟨its, rv, pl, hz⟩ := I.list hq
  have ei := vals_bl rv
  subst ei
  have hl := pl.isList
  have hlt : p < s.heap.objs.size := by obtain ⟨_, e, _⟩ := hl; exact Heap.lt_size e
  refine call_all_walk (wpAny_pyIter_list hl ?_)
  refine ⟨_, _, _, _, _, _, fun i => bs.getD i true, rfl, Walks.list (A := X.A.in1) (by exact I.ok.hd hc) _ p (Nat.ne_of_lt hlt) (bs.map Value.bool).toArray, ⟨⟨_, Heap.get?_push_size _ rfl, rfl, rfl⟩, hl.push _⟩, ?_, fun h' tk hk => ?_⟩
  . intro i v s' Q' E' hP hQ
    have hP : ((bs.map Value.bool).toArray)[i]? = some v := hP
    simp only [List.getElem?_toArray, List.getElem?_map] at hP
    cases e : bs[i]? with
    | none => rw [e] at hP; cases hP
    | some b =>
      rw [e] at hP; cases hP
      refine wpAny_truthy_bool ?_
      have : bs.getD i true = b := by rw [List.getD_eq_getElem?_getD, e]; rfl
      rw [<- this]; exact hQ
  . have : ((List.range (bs.map Value.bool).toArray.size).all fun i => bs.getD i true) = bs.all id := by
      simp only [List.size_toArray, List.length_map]
      rw [Bool.eq_iff_iff, List.all_eq_true, List.all_eq_true]
      constructor
      . intro h x hx
        obtain ⟨i, hi, rfl⟩ := List.mem_iff_getElem.mp hx
        have := h i (List.mem_range.mpr hi)
        rw [List.getD_eq_getElem?_getD, List.getElem?_eq_getElem hi] at this
        exact this
      . intro h i hi
        have hi := List.mem_range.mp hi
        rw [List.getD_eq_getElem?_getD, List.getElem?_eq_getElem hi]
        exact h _ (List.getElem_mem hi)
    rw [this]
    refine ⟨.bl _, H, I.kept (fun b o e => hk b o (fun hm => ?_) (Heap.get?_push_of_some _ e)), rfl, q⟩
    have hb : b = s.heap.objs.size := by simpa using hm
    subst hb
    exact absurd (Heap.lt_size e) (Nat.lt_irrefl _)
theorem call_anyI (hc : X.calm = true) : CallR X (.builtin "any") (fun xs H Q => ∃ (p : Addr) (ns : List Int), xs = [.ref p] /\ SqL X.K H p (ns.map V.int) /\ Q (.bl (ns.any fun n => n != 0)) H) := by
  intro pins s σ H xs us Q I r h
  obtain ⟨p, ns, rfl, hq, q⟩ := h
  obtain ⟨u, rfl, rx⟩ := vals1 r
  cases rx
  obtain ⟨its, rv, pl, hz⟩ := I.list hq
  have hlen : its.length = ns.length := by have := rv.length; simpa using this.symm
  have hl := pl.isList
  have hlt : p < s.heap.objs.size := by obtain ⟨_, e, _⟩ := hl; exact Heap.lt_size e
  refine call_any_walk (wpAny_pyIter_list hl ?_)
  refine ⟨_, _, _, _, _, _, fun i => (ns.getD i 0 != 0), rfl, Walks.list (A := X.A.in1) (by exact I.ok.hd hc) _ p (Nat.ne_of_lt hlt) its.toArray, ⟨⟨_, Heap.get?_push_size _ rfl, rfl, rfl⟩, hl.push _⟩, ?_, fun h' tk hk => ?_⟩
  . intro i v s' Q' E' hP hQ
    have hP : (its.toArray)[i]? = some v := hP
    simp only [List.getElem?_toArray] at hP
    have hi : i < ns.length := by rw [<- hlen]; exact (List.getElem?_eq_some_iff.mp hP).1
    obtain ⟨w, hw, rw'⟩ := rv.get (i := i) (x := V.int ns[i]) (by simp [hi])
    rw [hP] at hw; cases hw
    obtain ⟨t, rfl⟩ := rw'
    refine PyProof.Rows.truthy_int ?_
    have : ns.getD i 0 = ns[i] := by rw [List.getD_eq_getElem?_getD, List.getElem?_eq_getElem hi]; rfl
    rw [<- this]; exact hQ
  . have : ((List.range its.toArray.size).any fun i => (ns.getD i 0 != 0)) = ns.any fun n => n != 0 := by
      simp only [List.size_toArray, hlen]
      rw [Bool.eq_iff_iff, List.any_eq_true, List.any_eq_true]
      constructor
      . rintro ⟨i, hi, h⟩
        have hi := List.mem_range.mp hi
        rw [List.getD_eq_getElem?_getD, List.getElem?_eq_getElem hi] at h
        exact ⟨_, List.getElem_mem hi, h⟩
      . rintro ⟨x, hx, h⟩
        obtain ⟨i, hi, rfl⟩ := List.mem_iff_getElem.mp hx
        exact ⟨i, List.mem_range.mpr hi, by rw [List.getD_eq_getElem?_getD, List.getElem?_eq_getElem hi]; exact h⟩
    rw [this]
    refine ⟨.bl _, H, I.kept (fun b o e => hk b o (fun hm => ?_) (Heap.get?_push_of_some _ e)), rfl, q⟩
    have hb : b = s.heap.objs.size := by simpa using hm
    subst hb
    exact absurd (Heap.lt_size e) (Nat.lt_irrefl _)
theorem call_anyL (hc : X.calm = true) : CallR X (.builtin "any") (fun xs H Q => ∃ (p : Addr) (bs : List Bool), xs = [.ref p] /\ SqL X.K H p (bs.map V.bl) /\ Q (.bl (bs.any id)) H) := by
  intro pins s σ H xs us Q I r h
  obtain ⟨p, bs, rfl, hq, q⟩ := h
  obtain ⟨u, rfl, rx⟩ := vals1 r
  cases rx
  obtain ⟨its, rv, pl, hz⟩ := I.list hq
  have ei := vals_bl rv
  subst ei
  have hl := pl.isList
  have hlt : p < s.heap.objs.size := by obtain ⟨_, e, _⟩ := hl; exact Heap.lt_size e
  refine call_any_walk (wpAny_pyIter_list hl ?_)
  refine ⟨_, _, _, _, _, _, fun i => bs.getD i false, rfl, Walks.list (A := X.A.in1) (by exact I.ok.hd hc) _ p (Nat.ne_of_lt hlt) (bs.map Value.bool).toArray, ⟨⟨_, Heap.get?_push_size _ rfl, rfl, rfl⟩, hl.push _⟩, ?_, fun h' tk hk => ?_⟩
  . intro i v s' Q' E' hP hQ
    have hP : ((bs.map Value.bool).toArray)[i]? = some v := hP
    simp only [List.getElem?_toArray, List.getElem?_map] at hP
    cases e : bs[i]? with
    | none => rw [e] at hP; cases hP
    | some b =>
      rw [e] at hP; cases hP
      refine wpAny_truthy_bool ?_
      have : bs.getD i false = b := by rw [List.getD_eq_getElem?_getD, e]; rfl
      rw [<- this]; exact hQ
  . have : ((List.range (bs.map Value.bool).toArray.size).any fun i => bs.getD i false) = bs.any id := by
      simp only [List.size_toArray, List.length_map]
      rw [Bool.eq_iff_iff, List.any_eq_true, List.any_eq_true]
      constructor
      . rintro ⟨i, hi, h⟩
        have hi := List.mem_range.mp hi
        rw [List.getD_eq_getElem?_getD, List.getElem?_eq_getElem hi] at h
        exact ⟨_, List.getElem_mem hi, h⟩
      . rintro ⟨x, hx, h⟩
        obtain ⟨i, hi, rfl⟩ := List.mem_iff_getElem.mp hx
        exact ⟨i, List.mem_range.mpr hi, by rw [List.getD_eq_getElem?_getD, List.getElem?_eq_getElem hi]; exact h⟩
    rw [this]
    refine ⟨.bl _, H, I.kept (fun b o e => hk b o (fun hm => ?_) (Heap.get?_push_of_some _ e)), rfl, q⟩
    have hb : b = s.heap.objs.size := by simpa using hm
    subst hb
    exact absurd (Heap.lt_size e) (Nat.lt_irrefl _)
theorem call_lenS : CallR X (.builtin "len") (fun xs H Q => ∃ (p : Addr) (S : Int -> Bool) (n : Nat), xs = [.ref p] /\ H p = some (.set S n) /\ Q (.int n) H) := by
  intro pins s σ H xs us Q I r h
  obtain ⟨p, S, n, rfl, hp, q⟩ := h
  obtain ⟨u, rfl, rx⟩ := vals1 r
  cases rx
  obtain ⟨o, es, ep, t, h1, h2, h3, _, _, h4, h5, rfl⟩ := (show s.heap.SetOf (intKind X.prog X.w) p S n from I.hok p _ hp)
  exact call_len_set h1 h2 h3 h5 (by unfold scanBound at h4; omega) ⟨.int _, H, I.tok _, ⟨_, rfl⟩, q⟩
def BltOk (f : Str) (B : List D -> R1) : Prop := f ∈ bnames /\ f ≠ "__name__" /\ (f == ("__debug__" : Str)) = false /\ (B [] = .st) /\ ∀ (X : Cx) (ds : List D) (z : D) (l : Nat) (o : List Prop), X.calm = true -> B ds = .ok (z, l) o -> allP o ->
  ((∃ id, bootBuiltins f = some (.builtin id) /\ CallD X (.builtin id) ds z l) \/ ∃ T, bootBuiltins f = some (.type T) /\ CallD X (.type T) ds z l)
theorem bLen_ok : BltOk "len" bLen := by
  refine ⟨by decide +kernel, by decide +kernel, by decide +kernel, rfl, fun X ds z l o hc h _ => .inl ⟨"len", by decide +kernel, ?_⟩⟩
  unfold bLen at h
  split at h
  . cases h
    refine ⟨_, call_lenS, fun ow H0 H2 vs P Q o s rx q => ?_⟩
    obtain ⟨v, rfl, ry⟩ := rx.only
    rw [Rep] at ry
    obtain ⟨a, S, rfl, ha⟩ := ry
    exact ⟨a, S, _, rfl, ha, q _ _ (Same.refl _) (by rw [Rep])⟩
  . split at h
    . rename_i m e
      cases h
      rcases seqOf_eq e with rfl | rfl
      . exact len_ok.1
      . exact len_ok.2
    . cases h
  . cases h
theorem bTuple_ok : BltOk "tuple" bTuple := by
  refine ⟨by decide +kernel, by decide +kernel, by decide +kernel, rfl, fun X ds z l o hc h hp => .inr ⟨"tuple", by decide +kernel, ?_⟩⟩
  unfold bTuple at h
  split at h
  . split at h
    . rename_i m e
      cases h
      have c := hp.1
      rcases seqOf_eq e with rfl | rfl
      . exact (tuple_ok c).2
      . exact (tuple_ok c).1
    . cases h
  . cases h
theorem bList_ok : BltOk "list" bList := by
  refine ⟨by decide +kernel, by decide +kernel, by decide +kernel, rfl, fun X ds z l o hc h hp => .inr ⟨"list", by decide +kernel, ?_⟩⟩
  unfold bList at h
  split at h
  . split at h
    . rename_i m e
      cases h
      have c := hp.1
      rcases seqOf_eq e with rfl | rfl
      . exact (list_ok c).2
      . exact (list_ok c).1
    . cases h
  . cases h
theorem bAbs_ok : BltOk "abs" bAbs := by
  refine ⟨by decide +kernel, by decide +kernel, by decide +kernel, rfl, fun X ds z l o hc h _ => .inl ⟨"abs", by decide +kernel, ?_⟩⟩
  unfold bAbs at h
  split at h
  . cases h; exact abs_ok
  . cases h
theorem bAll_ok : BltOk "all" bAll := by
  refine ⟨by decide +kernel, by decide +kernel, by decide +kernel, rfl, fun X ds z l o hc h _ => .inl ⟨"all", by decide +kernel, ?_⟩⟩
  unfold bAll at h
  split at h
  . split at h
    . rename_i bs e
      cases h
      cases boolsOf_eq e
      refine ⟨_, call_allL hc, fun ow H0 H2 vs P Q o s rx q => ?_⟩
      obtain ⟨v, rfl, ry⟩ := rx.only
      obtain ⟨a, ws, rfl, hs, rl⟩ := sq_of ry
      exact ⟨a, bs, rfl, by rw [<- rl.mapBl]; exact hs, q _ _ (Same.refl _) (by rw [Rep])⟩
    . cases h
  . cases h
theorem bAny_ok : BltOk "any" bAny := by
  refine ⟨by decide +kernel, by decide +kernel, by decide +kernel, rfl, fun X ds z l o hc h _ => .inl ⟨"any", by decide +kernel, ?_⟩⟩
  unfold bAny at h
  split at h
  . split at h
    . rename_i ns e
      cases h
      cases intsOf_eq e
      refine ⟨_, call_anyI hc, fun ow H0 H2 vs P Q o s rx q => ?_⟩
      obtain ⟨v, rfl, ry⟩ := rx.only
      obtain ⟨a, ws, rfl, hs, rl⟩ := sq_of ry
      exact ⟨a, ns, rfl, by rw [<- rl.mapInt]; exact hs, q _ _ (Same.refl _) (by rw [Rep])⟩
    . split at h
      . rename_i bs e
        cases h
        cases boolsOf_eq e
        refine ⟨_, call_anyL hc, fun ow H0 H2 vs P Q o s rx q => ?_⟩
        obtain ⟨v, rfl, ry⟩ := rx.only
        obtain ⟨a, ws, rfl, hs, rl⟩ := sq_of ry
        exact ⟨a, bs, rfl, by rw [<- rl.mapBl]; exact hs, q _ _ (Same.refl _) (by rw [Rep])⟩
      . cases h
  . cases h
theorem bSum_ok : BltOk "sum" bSum := by
  refine ⟨by decide +kernel, by decide +kernel, by decide +kernel, rfl, fun X ds z l o hc h _ => .inl ⟨"sum", by decide +kernel, ?_⟩⟩
  unfold bSum at h
  split at h
  . split at h
    . rename_i bs e
      cases h
      cases intsOf_eq e
      refine ⟨_, call_sumL hc, fun ow H0 H2 vs P Q o s rx q => ?_⟩
      obtain ⟨v, rfl, ry⟩ := rx.only
      obtain ⟨a, ws, rfl, hs, rl⟩ := sq_of ry
      exact ⟨a, bs, rfl, by rw [<- rl.mapInt]; exact hs, q _ _ (Same.refl _) (by rw [Rep])⟩
    . cases h
  . cases h
theorem bIsi_ok : BltOk "isinstance" bIsi := by
  refine ⟨by decide +kernel, by decide +kernel, by decide +kernel, rfl, fun X ds z l o hc h _ => .inl ⟨"isinstance", by decide +kernel, ?_⟩⟩
  unfold bIsi at h
  split at h
  . rename_i m ns es n
    split at h
    . rename_i hmn
      subst hmn
      cases h
      have cr : CallR X (.builtin "isinstance") (fun xs H Q => ∃ a C dx fs, xs = [.ref a, .ref C] /\ H a = some (.ins C dx fs) /\ Cls X.K C /\ IsiOk X.K C /\ Q (.bl true) H) := by
        intro pins s σ H xs us Q I r hh
        obtain ⟨a, C, dx, fs, rfl, ea, hc, ho, q⟩ := hh
        obtain ⟨u, u2, rfl, ru, ru2⟩ := vals2 r
        cases (show u2 = Value.ref C from ru2)
        exact isinst_ok I ru (.ins ea hc ho.ha ho.hn ho.ht ho.hm) (kit_own _) fun tk => ⟨.bl true, H, I.tok tk, rfl, q⟩
      refine ⟨_, cr, fun ow H0 H2 vs P Q o s rx q => ?_⟩
      rw [RepL] at rx
      obtain ⟨v, r, rfl, r1, r2⟩ := rx
      obtain ⟨w, rfl, r3⟩ := r2.only
      rw [Rep] at r1
      rw [Rep] at r3
      obtain ⟨_, _, a, C, dx, vs, rfl, h1, h2, h3, _⟩ := r1
      obtain ⟨C', o', rfl, h4, _, _, h5⟩ := r3
      rw [h1] at h4; cases h4
      exact ⟨a, C, dx, _, rfl, h3, h2, h5, q _ _ (Same.refl _) (by rw [Rep])⟩
    . cases h
  . rename_i x T
    split at h
    . rename_i hT
      split at h
      . rename_i b hb
        cases h
        obtain ⟨h1, h2⟩ := isD_ok hb hT
        have cr : CallR X (.builtin "isinstance") (fun xs H Q => ∃ v P, xs = [v, .ty T] /\ Rep X.K H P x v /\ Q (.bl b) H) := by
          intro pins s σ H xs us Q I r hh
          obtain ⟨v, P, rfl, rp, q⟩ := hh
          obtain ⟨u, u2, rfl, ru, ru2⟩ := vals2 r
          cases (show u2 = Value.type T from ru2)
          exact isi_ok h1 h2 I rp ru fun tk => ⟨.bl b, H, I.tok tk, rfl, q⟩
        refine ⟨_, cr, fun ow H0 H2 vs P Q o s rx q => ?_⟩
        rw [RepL] at rx
        obtain ⟨v, r, rfl, r1, r2⟩ := rx
        obtain ⟨w, rfl, r3⟩ := r2.only
        rw [Rep] at r3; subst r3
        exact ⟨v, P, rfl, r1, q _ _ (Same.refl _) (by rw [Rep])⟩
      . cases h
    . cases h
  . cases h
end Sp
set_option Elab.async false
set_option linter.all false
set_option maxRecDepth 100000
namespace Sp
open PySem PySem.Spec PyProof.Rows L2
def spD (K : PySem.W.Frag) (F : List D -> Rs D) : Sp := fun vs H Q _ => ∃ ds r l, RepL K H (fun _ _ => True) ds vs /\ F ds = .ok r l /\ allP l /\ ∀ v H', Same H H' -> Rep K H' (fun a b => b = true /\ H a = none) r v -> Q v H'
def FnAt0 (X : Cx) (g : Str) (F : List D -> Rs D) : Prop := ∃ k f fd ps, FnOk X.prog X.w X.K X.mg X.base CX0 k f fd ps (spD X.K F) /\ Room k X.A /\ X.mg g = some (.ref f) /\ PySem.W.keepIn X.K (.ref f) = true /\ Binds X.K fd ps [] /\ (g == ("__debug__" : Str)) = false
def spI (K : PySem.W.Frag) (n : Str) (F : List D -> Rs D) : Sp := fun vs H Q _ => ∃ x ws C dx ds r l, vs = .ref x :: ws /\ H x = some (.ins C dx []) /\ PySem.W.nsIn K mainGlobals n = some (some (.ref C)) /\ Cls K C /\ RepL K H (fun _ _ => True) ds ws /\ F ds = .ok r l /\ allP l /\ r.lless = true /\
  ∀ H', (∀ a o, a ≠ x -> H a = some o -> H' a = some o) -> Rep K H' (fun _ _ => True) r (.ref x) -> Q .non H'
def MkAt (X : Cx) (g : Str) (F : List D -> Rs D) : Prop := ∃ k C f fd ps, (∀ ds r l, F ds = .ok r l -> r.lless = true) /\ Mk X.K C f /\ FnOk X.prog X.w X.K X.mg X.base CX0 k f fd ps (spI X.K g F) /\ Room (k + 1) X.A /\ X.mg g = some (.ref C) /\ PySem.W.nsIn X.K mainGlobals g = some (some (.ref C)) /\ Cls X.K C /\ Binds X.K fd ps [] /\ (g == ("__debug__" : Str)) = false
def FnAt (X : Cx) (g : Str) (F : List D -> Rs D) : Prop := FnAt0 X g F \/ MkAt X g F
def MethAt (X : Cx) (n m : Str) (F : List D -> Rs D) : Prop := ∃ k C f fd ps, PySem.W.nsIn X.K mainGlobals n = some (some (.ref C)) /\ Cls X.K C /\ Meth X.K C m f /\ FnOk X.prog X.w X.K X.mg X.base CX0 k f fd ps (spD X.K F) /\ Room k X.A /\ Binds X.K fd ps []
def ItrOk (f : Str) (B : List D -> Nat -> R1) : Prop := f ∈ bnames /\ ∀ (X : Cx) (ρ : Rho) (p pos : Pos) (args : List Expr) (ds : List D) (k : Nat) (d : D) (j : Nat) (l : List D) (tg : Expr) (o : List Prop), X.calm = true -> Gl X f -> X.mg f = none -> AD X ρ args ds k ->
  (∀ e ∈ args, ∀ x p, e ≠ .Starred x p) -> args.length = ds.length -> B ds k = .ok (d, j) o -> allP o -> items d = some l -> tgOk (.Call (.Name f p) args [] pos) tg = true -> IE X ρ tg (.Call (.Name f p) args [] pos) l j
def MthOk (m : Str) (M : D -> List D -> R1) : Prop := ∀ (X : Cx) (ρ : Rho) (a : Expr) (args : List Expr) (ap cp : Pos) (x : D) (k : Nat) (ds : List D) (j : Nat) (z : D) (l : Nat) (o : List Prop), X.calm = true -> X.A.units + 70 < cLine -> ED X ρ a x k -> AD X ρ args ds j ->
  (∀ e ∈ args, ∀ x p, e ≠ .Starred x p) -> args.length = ds.length -> (ap.endLine == cp.line) = true -> baseOk a = true -> M x ds = .ok (z, l) o -> allP o -> ED X ρ (.Call (.Attribute a m ap) args [] cp) z l
def MutOk (m : Str) (M : List D -> List D -> Nat -> Rs (List D)) : Prop := ∀ X : Cx, X.calm = true -> ∃ (id : String) (r : V -> List V -> Hp -> VK -> Prop), Slot "list" m id /\ typeOf (.builtin id) = pure (.type "method_descriptor") /\ MtM X id r /\
  ∀ (ow : Ow) (H0 H : Hp) (l ds l' : List D) (j : Nat) (o : List Prop) (a : Addr) (vs ws : List V), M l ds j = .ok l' o -> allP o -> ds.length < 29 /\ (∀ (P : AP2) (Q : VK), (∀ b c, Kp ow H0 0 b c -> P b c) -> OwIn ow H0 -> Same H0 H -> H a = some (.lst vs) -> RepL X.K H P l vs -> RepL X.K H (Kp ow H0 j) ds ws ->
    (∀ vs', RepL X.K H P l' vs' -> Q .non (upd H a (.lst vs'))) -> r (.ref a) ws H Q)
def tOD (X : Cx) (ow : Ow) (ρ : Rho) (o : Option Int) : TO := fun σ H Q => EnvOk X ow H σ ρ /\ ∀ H', Same H H' -> Q o H'
def OD (X : Cx) (ρ : Rho) (e : Option Expr) (o : Option Int) : Prop := ∀ ow, PO X e (tOD X ow ρ o)
def SlfOk (F : D -> Option Int -> Option Int -> R1) : Prop := ∀ (X : Cx) (ρ : Rho) (a : Expr) (lo hi : Option Expr) (p2 pos : Pos) (x z : D) (l h : Option Int) (k j : Nat) (o : List Prop), ED X ρ a x k -> OD X ρ lo l -> OD X ρ hi h -> F x l h = .ok (z, j) o -> allP o -> ED X ρ (.Subscript a (.Slice lo hi none p2) pos) z j
structure Good (Φ : Fx) (X : Cx) (sc : Scope) : Prop where
  calm : X.calm = true
  nd : X.N.Nodup
  gl : ∀ x, sc.names.lookup x = some .globalImplicit -> Gl X x
  kc : ∀ x, (sc.names.lookup x = some .cell \/ sc.names.lookup x = some .free) -> X.env.kindOf x = some .cell \/ X.env.kindOf x = some .free
  lc : ∀ x, sc.names.lookup x = some .local -> X.env.scope.names.lookup x = some .local
  cc : ∀ x, sc.names.lookup x = some .cell -> X.env.scope.names.lookup x = some .cell
  fn : ∀ g F, Φ.fn g = some F -> FnAt X g F
  con : ∀ x d, Φ.con x = some d -> ∃ v u, X.mg x = some u /\ RelV v u /\ ∀ H P, Rep X.K H P d v
  blt : ∀ f B, Φ.blt f = some B -> BltOk f B
  itr : ∀ f B, Φ.itr f = some B -> ItrOk f B
  mth : ∀ m M, Φ.mth m = some M -> MthOk m M
  mtt : ∀ m M, Φ.mtt m = some M -> MutOk m M
  slf : SlfOk Φ.slf
  fld : ∀ n f, Φ.fld n f = true -> ∀ C, PySem.W.nsIn X.K mainGlobals n = some (some (.ref C)) -> NoAttr X.K C f
  omt : ∀ n m F, Φ.omt n m = some F -> MethAt X n m F
  bl : ∀ f ∈ bnames, X.mg f = none
  room : X.A.units + 70 < cLine
  ns : ∀ x, locK sc x = true -> x ∈ X.N
  ft : ∀ x, sc.names.lookup x = some .cell -> X.fn x = true
variable {X : Cx}
theorem okN_of {x : Str} (h : okN x = true) : (x == ("__debug__" : Str)) = false /\ (x == ("__classdict__" : Str)) = false := by
  unfold okN at h
  rw [Bool.and_eq_true] at h
  exact ⟨of_decide_eq_true h.1, of_decide_eq_true h.2⟩
theorem ed_name {ρ : Rho} {x : Str} {pos : Pos} {d : D} {o : Bool} (h : ρ x = some (d, o)) (hx : okN x = true) : ED X ρ (.Name x pos) d (kn d (cond o 2 1)) := by
  refine ED.kn fun ow pins s σ H Q I ⟨E, q⟩ => ?_
  obtain ⟨i, v, e1, e2, e3, e4⟩ := E.get x d o h
  refine pe_var (i := i) e1 e2 (okN_of hx).1 (okN_of hx).2 pins s σ H Q I ⟨v, e3, q v H (Same.refl _) (e4.imp fun a b p => ?_)⟩
  cases o with
  | true => exact ⟨p.1, .inl (by rw [p.2]; exact (fun z => nomatch z))⟩
  | false => exact p
theorem ed_con {Φ : Fx} {sc : Scope} {ρ : Rho} {x : Str} {pos : Pos} {d : D} (G : Good Φ X sc) (h : Φ.con x = some d) (hg : sc.names.lookup x = some .globalImplicit) (hx : okN x = true) : ED X ρ (.Name x pos) d 0 := by
  obtain ⟨v, u, h1, h2, h3⟩ := G.con x d h
  exact fun ow => PEimp (pe_glob (G.gl x hg) h1 h2 (okN_of hx).1) fun σ H Q ⟨E, q⟩ => q v H (Same.refl _) (h3 H _)
theorem tyOf_ok {x : Str} {T : String} (h : tyOf x = some T) : bootBuiltins x = some (.type T) /\ x ≠ "__name__" /\ (x == ("__debug__" : Str)) = false /\ x ∈ bnames := by
  unfold tyOf at h
  split at h
  . rename_i e; subst e; cases h; exact ⟨by decide +kernel, by decide +kernel, by decide +kernel, by decide +kernel⟩
  split at h
  . rename_i e; subst e; cases h; exact ⟨by decide +kernel, by decide +kernel, by decide +kernel, by decide +kernel⟩
  split at h
  . rename_i e; subst e; cases h; exact ⟨by decide +kernel, by decide +kernel, by decide +kernel, by decide +kernel⟩
  split at h
  . rename_i e; subst e; cases h; exact ⟨by decide +kernel, by decide +kernel, by decide +kernel, by decide +kernel⟩
  split at h
  . rename_i e; subst e; cases h; exact ⟨by decide +kernel, by decide +kernel, by decide +kernel, by decide +kernel⟩
  . cases h
theorem ed_typ {Φ : Fx} {sc : Scope} {ρ : Rho} {x : Str} {pos : Pos} {T : String} (G : Good Φ X sc) (h : tyOf x = some T) (hg : sc.names.lookup x = some .globalImplicit) : ED X ρ (.Name x pos) (.typ T) 0 := by
  obtain ⟨h1, h2, h3, h4⟩ := tyOf_ok h
  exact fun ow => PEimp (pe_bltn (v := .ty T) (G.gl x hg) (G.bl x h4) h1 rfl h2 h3) fun σ H Q ⟨E, q⟩ => q _ H (Same.refl _) (by rw [Rep])
theorem ed_cst {ρ : Rho} {c : Const} {n : Nat} {pos : Pos} {d : D} (h : cst c = some d) : ED X ρ (.Constant c n pos) d 0 := by
  intro ow
  unfold cst at h
  split at h
  . cases h; exact PEimp pe_non fun σ H Q ⟨E, q⟩ => q _ H (Same.refl _) (by rw [Rep])
  . cases h; exact PEimp pe_bl fun σ H Q ⟨E, q⟩ => q _ H (Same.refl _) (by rw [Rep])
  . cases h; exact PEimp pe_int fun σ H Q ⟨E, q⟩ => q _ H (Same.refl _) (by rw [Rep])
  . cases h; exact PEimp pe_str fun σ H Q ⟨E, q⟩ => q _ H (Same.refl _) (by rw [Rep])
  . cases h
theorem ed_bin {ρ : Rho} {a b : Expr} {op : Operator} {pos : Pos} {x y z : D} {k j l : Nat} (ha : ED X ρ a x k) (hb : ED X ρ b y j) {o : List Prop} (h : binD op x y k j = .ok (z, l) o) (hp : allP o) : ED X ρ (.BinOp a op b pos) z l := by
  obtain ⟨r, h1, h2⟩ := bin_ok (X := X) h hp
  refine fun ow => PEimp (pe_op h1 (ha ow) (hb ow)) fun σ H Q ⟨E, q⟩ => ⟨E, fun v H1 s1 r1 => ⟨E.same s1, fun u H2 s2 r2 => ?_⟩⟩
  exact h2 ow H H2 v u Q E.own (s1.trans s2) (r1.same s2) (r2.imp (Kp.back s1 j)) fun w H' s3 r3 => q w H' ((s1.trans s2).trans s3) r3
theorem ed_un {ρ : Rho} {a : Expr} {op : UnaryOp} {pos : Pos} {x z : D} {k : Nat} (ha : ED X ρ a x k) (h : unD op x = some z) : ED X ρ (.UnaryOp op a pos) z 0 := by
  unfold unD at h
  split at h
  . cases h
    refine fun ow => PEimp (pe_un un_neg (ha ow)) fun σ H Q ⟨E, q⟩ => ⟨E, fun v H1 s1 r1 => ?_⟩
    rw [Rep] at r1; subst r1
    exact ⟨_, rfl, q _ H1 s1 (by rw [Rep])⟩
  . cases h
    refine fun ow => PEimp (pe_not (ha ow)) fun σ H Q ⟨E, q⟩ => ⟨E, fun v H1 s1 r1 => ?_⟩
    rw [Rep] at r1; subst r1
    exact ⟨_, rfl, q _ H1 s1 (by rw [Rep])⟩
  . cases h
theorem ed_cmp {ρ : Rho} {a b : Expr} {op : CmpOp} {pos : Pos} {x y : D} {r : Bool} {k j : Nat} (hu : X.A.units + 70 < cLine) {o : List Prop} (ha : ED X ρ a x k) (hb : ED X ρ b y j) (h : cmpD op x y = .ok r o) (hp : allP o) (hm : behindInMarks op b = false) : ED X ρ (.Compare a [op] [b] pos) (.bl r) 0 := by
  have c := cmp_ok hu h hp
  intro ow pins s σ H Q I ⟨E, q⟩
  refine wpAny_Compare1 (bin (ha ow) (hb ow) I (R := fun v u H2 => Same H H2 /\ Rep X.K H2 (fun _ _ => True) x v /\ Rep X.K H2 (fun _ _ => True) y u) ⟨E, fun v H1 s1 r1 => ⟨E.same s1, fun u H2 s2 r2 => ⟨s1.trans s2, (r1.imp fun _ _ _ => True.intro).same s2, r2.imp fun _ _ _ => True.intro⟩⟩⟩ fun v u s2 x y H2 I2 rx ry ⟨sm, r1, r2⟩ => ?_) hm
  exact c _ _ pins s2 σ H2 x y v u Q I2 rx ry ⟨r1, r2, q _ H2 sm (by rw [Rep])⟩
theorem chD_inv {op op2 : CmpOp} {x y z : D} {r : D × Nat} {l : List Prop} (h : chD op op2 x y z = .ok r l) : ∃ a b c r1 r2, x = .int a /\ y = .int b /\ z = .int c /\ cmpI op a b = some r1 /\ cmpI op2 b c = some r2 /\ r = (.bl (r1 && r2), 0) := by
  unfold chD at h
  split at h
  . split at h
    . rename_i h1 h2; cases h; exact ⟨_, _, _, _, _, rfl, rfl, rfl, h1, h2, rfl⟩
    . cases h
  . cases h
theorem cmpI_D {op : CmpOp} {a b : Int} {r : Bool} (h : cmpI op a b = some r) : cmpD op (.int a) (.int b) = .ok r [] := by
  unfold cmpI at h
  split at h <;> first | (cases h; rfl) | cases h
theorem ed_chain {ρ : Rho} {a b c : Expr} {op op2 : CmpOp} {pos : Pos} {x y z : Int} {r r2 : Bool} {k j i : Nat} (hu : X.A.units + 70 < cLine) (ha : ED X ρ a (.int x) k) (hb : ED X ρ b (.int y) j) (hc : ED X ρ c (.int z) i) (h : cmpI op x y = some r) (h2 : cmpI op2 y z = some r2) (hm : behindInMarks op2 c = false) : ED X ρ (.Compare a [op, op2] [b, c] pos) (.bl (r && r2)) 0 := by
  have c1 := cmp_ok (X := X) hu (cmpI_D h) (show allP [] from True.intro)
  have c2 := cmp_ok (X := X) hu (cmpI_D h2) (show allP [] from True.intro)
  refine fun ow => PEimp (pe_chain (c1 (fun _ _ => True) (fun _ _ => True)) (c2 (fun _ _ => True) (fun _ _ => True)) (ha ow) (hb ow) (hc ow) hm) fun σ H Q ⟨E, q⟩ => ⟨E, fun v H1 s1 r1 => ⟨E.same s1, fun u H2 s2 r2 => ?_⟩⟩
  rw [Rep] at r1 r2
  subst r1 r2
  refine ⟨by rw [Rep], by rw [Rep], r, rfl, ?_⟩
  cases r with
  | false => exact q _ H2 (s1.trans s2) (by rw [Rep]; rfl)
  | true =>
    rw [if_pos rfl]
    refine ⟨(E.same s1).same s2, fun w H3 s3 r3 => ?_⟩
    rw [Rep] at r3
    subst r3
    exact ⟨by rw [Rep], by rw [Rep], q _ H3 ((s1.trans s2).trans s3) (by rw [Rep]; rfl)⟩
theorem td_ed {ρ : Rho} {e : Expr} {b : Bool} {k : Nat} (h : ED X ρ e (.bl b) k) (he : ∀ whole, isTrue e X.env whole = (do let v <- whole; standAt e.pos; holding [v] (truthy v))) : TD X ρ e b :=
  fun ow => PTimp (pt_val (h ow) he) fun σ H Q ⟨E, q⟩ => ⟨E, fun v H1 s1 r1 => by rw [Rep] at r1; exact ⟨b, r1, q H1 s1⟩⟩
theorem ad_nil {ρ : Rho} : AD X ρ [] [] 0 := fun ow => PAimp pa_nil fun σ H Q ⟨E, q⟩ => q [] H (Same.refl _) RepL.nil
theorem ad_cons {ρ : Rho} {e : Expr} {es : List Expr} {d : D} {ds : List D} {k j : Nat} (h1 : ED X ρ e d k) (h2 : AD X ρ es ds j) (hs : starEach (e :: es) X.env = (false, eval e X.env) :: starEach es X.env) : AD X ρ (e :: es) (d :: ds) (kj k j) :=
  fun ow => PAimp (pa_cons (h1 ow) (h2 ow) hs) fun σ H Q ⟨E, q⟩ => ⟨E, fun v H1 s1 r1 => ⟨E.same s1, fun vs H2 s2 r2 => q _ H2 (s1.trans s2) (RepL.cons ((r1.imp (Kp.joinL E.own k j)).same s2) (r2.imp fun a b p => Kp.joinR E.own k j a b (Kp.back s1 j a b p)))⟩⟩
theorem ed_tuple {ρ : Rho} {es : List Expr} {n : Nat} {pos : Pos} {ds : List D} {k : Nat} (h : AD X ρ es ds k) (hl : ds.length <= many) : ED X ρ (.Tuple es n pos) (.tup ds) (kn (.tup ds) k) := by
  refine ED.kn fun ow => PEimp (pe_tup (h ow)) fun σ H Q ⟨E, q⟩ => ⟨E, fun vs H1 s1 r1 => ⟨by rw [<- r1.length]; exact Nat.le_trans hl manyLine, fun p hp => ?_⟩⟩
  have sm := same_upd (o := HO.tup vs) hp
  refine q _ _ (s1.trans sm) ?_
  rw [Rep]
  exact ⟨p, vs, rfl, SqT.of upd_same, r1.same sm⟩
theorem ed_emp {ρ : Rho} {pos : Pos} : ED X ρ (.Dict [] [] pos) .emp 0 := by
  intro ow pins s σ H Q I ⟨E, q⟩
  refine wpAny_Dict_empty ⟨.ref s.heap.objs.size, _, I.laid (t' := s.toks) (o := .dK []) (fun b ob q => Heap.get?_push_of_some _ q) (Nat.le_refl _) ?_, rfl, q _ _ (same_upd (I.hok.fresh (Nat.le_refl _))) ?_⟩
  . exact ⟨Nat.zero_le _, beq_eq_false_iff_ne.mpr (Nat.ne_of_gt (modules_low I.nolimit)), [], .nil, Heap.DictOf.new _⟩
  . rw [Rep]; exact ⟨_, rfl, upd_same⟩
theorem ed_list {ρ : Rho} {es : List Expr} {pos : Pos} {ds : List D} {k : Nat} (h : AD X ρ es ds k) (hk : k <= 1) (hl : ds.length <= many) : ED X ρ (.List es pos) (.lst ds) k := by
  refine fun ow => PEimp (pe_lst (h ow)) fun σ H Q ⟨E, q⟩ => ⟨E, fun vs H1 s1 r1 => ⟨by rw [<- r1.length]; exact Nat.le_trans hl manyLine, fun p hp => ?_⟩⟩
  have sm := same_upd (o := HO.lst vs) hp
  refine q _ _ (s1.trans sm) ?_
  rw [Rep]
  exact ⟨p, vs, true, rfl, upd_same, kp_new E.own (s1.free hp) hk, r1.same sm⟩
theorem ed_if {ρ : Rho} {c a b : Expr} {pos : Pos} {t : Bool} {d : D} {k : Nat} (hc : TD X ρ c t) (h : if t = true then ED X ρ a d k else ED X ρ b d k) : ED X ρ (.IfExp c a b pos) d k := by
  cases t with
  | true =>
    intro ow pins s σ H Q I ⟨E, q⟩
    refine PyProof.Rows.IfExp_ (thn (hc ow pins s σ H (fun t H1 => t = true /\ Same H H1) I ⟨E, fun H1 s1 => ⟨rfl, s1⟩⟩) fun t s1 ⟨H1, I1, e1, s1'⟩ => ?_)
    subst e1
    exact h ow pins s1 σ H1 Q I1 ⟨E.same s1', fun v H2 s2 r2 => q v H2 (s1'.trans s2) (r2.imp (Kp.back s1' k))⟩
  | false =>
    intro ow pins s σ H Q I ⟨E, q⟩
    refine PyProof.Rows.IfExp_ (thn (hc ow pins s σ H (fun t H1 => t = false /\ Same H H1) I ⟨E, fun H1 s1 => ⟨rfl, s1⟩⟩) fun t s1 ⟨H1, I1, e1, s1'⟩ => ?_)
    subst e1
    exact h ow pins s1 σ H1 Q I1 ⟨E.same s1', fun v H2 s2 r2 => q v H2 (s1'.trans s2) (r2.imp (Kp.back s1' k))⟩
end Sp
set_option Elab.async false
set_option linter.all false
set_option maxRecDepth 100000
namespace Sp
open PySem PySem.Spec PyProof.Rows L2
variable {X : Cx}
theorem RepL.atI {K : PySem.W.Frag} {P : AP2} {H : Hp} {l : List D} {vs : List V} {i : Int} {d : D} (h : RepL K H P l vs) (e : L2.atI l i = some d) : ∃ v, L2.atI vs i = some v /\ Rep K H P d v := by
  unfold L2.atI at e ⊢
  rw [<- h.length]
  cases q : ixN l.length i with
  | none => rw [q] at e; cases e
  | some j => rw [q] at e; exact h.get e
theorem ed_ix {ρ : Rho} {a b : Expr} {pos : Pos} {x z : D} {i : Int} {k j l : Nat} {o : List Prop} (ha : ED X ρ a x k) (hb : ED X ρ b (.int i) j) (hs : PlainIx b) (h : ixD x i k = .ok (z, l) o) : ED X ρ (.Subscript a b pos) z l := by
  unfold ixD at h
  split at h
  . rename_i m e0
    split at h
    . rename_i d e
      unfold mk at h
      cases h
      rcases seqOf_eq e0 with rfl | rfl
      . refine ED.kn fun ow => PEimp (pe_ix ix_tup (ha ow) (hb ow) hs) fun σ H Q ⟨E, q⟩ => ⟨E, fun v H1 s1 r1 => ⟨E.same s1, fun u H2 s2 r2 => ?_⟩⟩
        obtain ⟨p, vs, rfl, hq, rl⟩ := sqt_of (r1.same s2)
        rw [Rep] at r2; subst r2
        obtain ⟨w, h1, h2⟩ := rl.atI e
        exact ⟨p, vs, i, w, rfl, rfl, hq, h1, q w H2 (s1.trans s2) h2⟩
      . refine ED.kn fun ow => PEimp (pe_ix ix_list (ha ow) (hb ow) hs) fun σ H Q ⟨E, q⟩ => ⟨E, fun v H1 s1 r1 => ⟨E.same s1, fun u H2 s2 r2 => ?_⟩⟩
        obtain ⟨p, vs, rfl, hq, rl⟩ := sq_of (r1.same s2)
        rw [Rep] at r2; subst r2
        obtain ⟨w, h1, h2⟩ := rl.atI e
        exact ⟨p, vs, i, w, rfl, rfl, hq, h1, q w H2 (s1.trans s2) h2⟩
    . cases h
  . cases h
theorem POimp {X : Cx} {e : Option Expr} {t t' : TO} (h : PO X e t) (i : ∀ σ H Q, t' σ H Q -> t σ H Q) : PO X e t' := fun pins s σ H Q I q => h pins s σ H Q I (i σ H Q q)
theorem od_none {ρ : Rho} : OD X ρ none none := fun ow => POimp po_none fun σ H Q ⟨E, q⟩ => q H (Same.refl _)
theorem od_some {ρ : Rho} {e : Expr} {i : Int} {k : Nat} (h : ED X ρ e (.int i) k) : OD X ρ (some e) (some i) := fun ow => POimp (po_some (h ow)) fun σ H Q ⟨E, q⟩ => ⟨E, fun v H1 s1 r1 => by rw [Rep] at r1; exact ⟨i, r1, q H1 s1⟩⟩
theorem RepL.cut {K : PySem.W.Frag} {P : AP2} {H : Hp} {l : List D} {vs : List V} {lo hi : Option Int} (h : RepL K H P l vs) : RepL K H P (cutD l lo hi) (cutV vs lo hi) := by
  unfold cutD cutV
  rw [<- h.length]
  exact (h.drop _).take _
theorem noSl_ok : SlfOk noSl := fun X ρ a lo hi p2 pos x z l h k j o ha hl hh e hp => by cases e
theorem nostar_any {env : Env} {pos : Pos} : ∀ {es : List Expr}, (∀ e ∈ es, ∀ x p, e ≠ .Starred x p) -> (backTo pos (starEach es env)).any (·.1) = false
  | [], _ => rfl
  | e :: es, h => by
    have ih := nostar_any (env := env) (es := es) (pos := pos) fun x hx => h x (List.mem_cons_of_mem _ hx)
    have he := h e List.mem_cons_self
    cases e <;> first | exact absurd rfl (he _ _) | exact ih
theorem nostar_one {e : Expr} {es : List Expr} {env : Env} (h : ∀ x p, e ≠ .Starred x p) : starEach (e :: es) env = (false, eval e env) :: starEach es env := by
  cases e <;> first | exact absurd rfl (h _ _) | rfl
theorem ed_call0 {Φ : Fx} {sc : Scope} {ρ : Rho} {f : Str} {p pos : Pos} {args : List Expr} {F : List D -> Rs D} {ds : List D} {k : Nat} {r : D} {o : List Prop} (G : Good Φ X sc) (hf : FnAt0 X f F) (hg : sc.names.lookup f = some .globalImplicit)
    (ha : AD X ρ args ds k) (hst : ∀ e ∈ args, ∀ x p, e ≠ .Starred x p) (hnil : args = [] -> ds = []) (h : F ds = .ok r o) (hp : allP o) : ED X ρ (.Call (.Name f p) args [] pos) r 0 := by
  obtain ⟨n, fa, fd, ps, hF, hr, hm, hk, hb, hd⟩ := hf
  intro ow
  cases args with
  | nil =>
    refine PEimp (pe_call0 hF hr (G.gl f hg) hm hk hb .nil pass0 hd) fun σ H Q ⟨E, q⟩ => ?_
    have hds := hnil rfl
    subst hds
    exact ⟨[], r, o, RepL.nil, h, hp, fun v H' s1 r1 => q v H' s1 r1⟩
  | cons e es =>
    refine PEimp (pe_call hF hr (G.gl f hg) hm hk hb .nil pass0 (ha ow) hd (nostar_one (hst e List.mem_cons_self)) (nostar_any fun x hx => hst x (List.mem_cons_of_mem _ hx))) fun σ H Q ⟨E, q⟩ => ⟨E, fun vs H1 s1 r1 => ?_⟩
    refine ⟨ds, r, o, by rw [List.append_nil]; exact r1.imp fun _ _ _ => True.intro, h, hp, fun v H' s2 r2 => q v H' (s1.trans s2) (r2.imp fun a b p => ⟨p.1, s1.free p.2⟩)⟩
theorem same_made {H : Hp} {x dx C : Addr} (hx : H x = none) (hd : H dx = none) : Same H (upd (upd H dx (.own x)) x (.ins C dx [])) := fun a o h => by
  rw [upd_ne (fun z => by subst z; rw [hx] at h; cases h), upd_ne (fun z => by subst z; rw [hd] at h; cases h)]
  exact h
theorem ed_make {Φ : Fx} {sc : Scope} {ρ : Rho} {f : Str} {p pos : Pos} {args : List Expr} {F : List D -> Rs D} {ds : List D} {k : Nat} {r : D} {o : List Prop} (G : Good Φ X sc) (hf : MkAt X f F) (hg : sc.names.lookup f = some .globalImplicit)
    (ha : AD X ρ args ds k) (hst : ∀ e ∈ args, ∀ x p, e ≠ .Starred x p) (hnil : args = [] -> ds = []) (h : F ds = .ok r o) (hp : allP o) : ED X ρ (.Call (.Name f p) args [] pos) r 0 := by
  obtain ⟨n, C, fa, fd, ps, hfl, hM, hF, hr, hm, hns, hc, hb, hd⟩ := hf
  have hl := hfl ds r o h
  intro ow
  cases args with
  | nil =>
    refine PEimp (pe_make0 hM hF hr (G.gl f hg) hm hb .nil pass0 hd) fun σ H Q ⟨E, q⟩ => ?_
    have hds := hnil rfl
    subst hds
    intro x dx hx hdx ne
    refine ⟨x, [], C, dx, [], r, o, rfl, upd_same, hns, hc, RepL.nil, h, hp, hl, fun H' kp rr => ⟨rfl, q _ H' (fun a ob ha => ?_) (rr.flat _ hl)⟩⟩
    exact kp a ob (fun z => by subst z; rw [hx] at ha; cases ha) (same_made hx hdx a ob ha)
  | cons e es =>
    refine PEimp (pe_make hM hF hr (G.gl f hg) hm hb .nil pass0 (ha ow) hd (nostar_one (hst e List.mem_cons_self)) (nostar_any fun x hx => hst x (List.mem_cons_of_mem _ hx))) fun σ H Q ⟨E, q⟩ => ⟨E, fun vs H1 s1 r1 => ?_⟩
    intro x dx hx hdx ne
    refine ⟨x, vs ++ [], C, dx, ds, r, o, rfl, upd_same, hns, hc, by rw [List.append_nil]; exact (r1.same (same_made hx hdx)).imp fun _ _ _ => True.intro, h, hp, hl, fun H' kp rr => ⟨rfl, q _ H' (s1.trans fun a ob ha => ?_) (rr.flat _ hl)⟩⟩
    exact kp a ob (fun z => by subst z; rw [hx] at ha; cases ha) (same_made hx hdx a ob ha)
theorem ed_call {Φ : Fx} {sc : Scope} {ρ : Rho} {f : Str} {p pos : Pos} {args : List Expr} {F : List D -> Rs D} {ds : List D} {k : Nat} {r : D} {o : List Prop} (G : Good Φ X sc) (hf : Φ.fn f = some F) (hg : sc.names.lookup f = some .globalImplicit)
    (ha : AD X ρ args ds k) (hst : ∀ e ∈ args, ∀ x p, e ≠ .Starred x p) (hnil : args = [] -> ds = []) (h : F ds = .ok r o) (hp : allP o) : ED X ρ (.Call (.Name f p) args [] pos) r 0 := by
  rcases G.fn f F hf with z | z
  . exact ed_call0 G z hg ha hst hnil h hp
  . exact ed_make G z hg ha hst hnil h hp
theorem ht_of {o : Expr} {name : Str} {apos pos : Pos} {args : List Expr} {env : Env} (hb : attributeBase o name env (eval o env) = eval o env) (hf : methodCallForm (args.length + ([] : List Keyword).length) (backTo pos (starEach args env)) (backToKw pos (keywordEach [] env)) = true)
    (hl : (apos.endLine == pos.line) = true) : eval (.Call (.Attribute o name apos) args [] pos) env = (do
      let ov <- eval o env
      standAt apos.atName
      let (f, first) <- holding [ov] (getMethod ov name (do return (<- importBound o env).getD true))
      callWith pos f first (backTo pos (starEach args env)) (backToKw pos (keywordEach [] env))) := by
  show (do
    let ov <- attributeBase o name env (eval o env)
    standAt apos.atName
    methodCall o name apos pos env ov (args.length + ([] : List Keyword).length) (backTo pos (starEach args env)) (backToKw pos (keywordEach [] env))) = _
  rw [hb]
  unfold methodCall calleeOf methodCallPos
  rw [hf, hl]
  rfl
theorem base_of {a : Expr} {m : Str} {env : Env} {t : Sem Value} (h : baseOk a = true) : attributeBase a m env t = t := by
  unfold attributeBase
  split
  . cases h
  . rfl
theorem few_of {env : Env} {pos : Pos} {args : List Expr} (hst : ∀ e ∈ args, ∀ x p, e ≠ .Starred x p) (hn : args.length < 29) : methodCallForm (args.length + ([] : List Keyword).length) (backTo pos (starEach args env)) (backToKw pos (keywordEach [] env)) = true := by
  unfold methodCallForm
  have e1 : (backTo pos (starEach args env)).all (fun x => !x.1) = true := by
    have := nostar_any (env := env) (pos := pos) hst
    rw [List.all_eq_true]
    intro x hx
    have h2 : ¬ (backTo pos (starEach args env)).any (·.1) = true := by rw [this]; exact Bool.false_ne_true
    cases hb : x.1 with
    | false => rfl
    | true => exact absurd (List.any_eq_true.mpr ⟨x, hx, hb⟩) h2
  rw [e1]
  show (true && true && decide (args.length + 0 + 0 < 30)) = true
  simp; omega
theorem zip_none {ns : List Str} {vs : List V} {m : Str} : ns.contains m = false -> (ns.zip vs).lookup m = none := by
  induction ns generalizing vs with
  | nil => intro _; rfl
  | cons a ns ih =>
    intro h
    cases vs with
    | nil => rfl
    | cons v vs =>
      rw [List.contains_cons, Bool.or_eq_false_iff] at h
      show List.lookup m ((a, v) :: ns.zip vs) = none
      rw [List.lookup_cons, h.1]
      exact ih h.2
theorem ed_meth {Φ : Fx} {sc : Scope} {ρ : Rho} {a : Expr} {n m : Str} {ap pos : Pos} {args : List Expr} {F : List D -> Rs D} {ns : List Str} {es ds : List D} {j k : Nat} {r : D} {o : List Prop} (G : Good Φ X sc) (hf : Φ.omt n m = some F) (he : ED X ρ a (.obj n ns es) j)
    (ha : AD X ρ args ds k) (hst : ∀ e ∈ args, ∀ x p, e ≠ .Starred x p) (hlen : args.length = ds.length) (hn : ns.contains m = false) (hb : baseOk a = true) (hfew : ds.length < 29) (hl : (ap.endLine == pos.line) = true) (h : F (.obj n ns es :: ds) = .ok r o) (hp : allP o) : ED X ρ (.Call (.Attribute a m ap) args [] pos) r 0 := by
  obtain ⟨kk, C, fa, fd, ps, hns, hc, hm, hF, hr, hbd⟩ := G.omt n m F hf
  intro ow
  have ht := ht_of (o := a) (name := m) (apos := ap) (pos := pos) (args := args) (env := X.env) (base_of hb) (few_of hst (by omega)) hl
  cases args with
  | nil =>
    refine PEimp (pe_meth0 (he ow) hc hm hF hr hbd .nil pass0 ht) fun σ H Q ⟨E, q⟩ => ⟨E, fun v H1 s1 r1 => ?_⟩
    have hds : ds = [] := List.length_eq_zero_iff.mp hlen.symm
    subst hds
    have r0 := r1
    rw [Rep] at r1
    obtain ⟨f, e0, x, C', dx, vs, rfl, h1, h2, h3, r2⟩ := r1
    rw [hns] at h1; cases h1
    refine ⟨x, dx, _, rfl, h3, zip_none hn, [.obj n ns es], r, o, RepL.one (r0.imp fun _ _ _ => True.intro), h, hp, fun v H' s2 r2 => q v H' (s1.trans s2) (r2.imp fun a b p => ⟨p.1, s1.free p.2⟩)⟩
  | cons e es' =>
    refine PEimp (pe_meth (he ow) hc hm hF hr hbd .nil pass0 (ha ow) (nostar_one (hst e List.mem_cons_self)) (nostar_any fun x hx => hst x (List.mem_cons_of_mem _ hx)) ht) fun σ H Q ⟨E, q⟩ => ⟨E, fun v H1 s1 r1 => ?_⟩
    have r0 := r1
    rw [Rep] at r1
    obtain ⟨f, e0, x, C', dx, vs, rfl, h1, h2, h3, r2⟩ := r1
    rw [hns] at h1; cases h1
    refine ⟨x, dx, _, rfl, h3, zip_none hn, E.same s1, fun ws H2 s2 rw2 => ?_⟩
    refine ⟨.obj n ns es :: ds, r, o, by rw [List.append_nil]; exact RepL.cons ((r0.same s2).imp fun _ _ _ => True.intro) (rw2.imp fun _ _ _ => True.intro), h, hp, fun v H' s3 r3 => q v H' ((s1.trans s2).trans s3) (r3.imp fun a b p => ⟨p.1, s1.free (s2.free p.2)⟩)⟩
theorem zip_look {K : PySem.W.Frag} {H : Hp} {P : AP2} {f : Str} {d : D} : ∀ {ns : List Str} {ds : List D} {vs : List V}, RepL K H P ds vs -> (ns.zip ds).lookup f = some d -> ∃ v, (ns.zip vs).lookup f = some v /\ Rep K H P d v /\ (llessL ds = true -> d.lless = true)
  | [], ds, vs, _, h => by cases h
  | a :: ns, [], vs, _, h => by cases h
  | a :: ns, e :: ds, vs, r, h => by
    rw [RepL] at r
    obtain ⟨v, ws, rfl, r1, r2⟩ := r
    replace h : List.lookup f ((a, e) :: ns.zip ds) = some d := h
    show ∃ u, List.lookup f ((a, v) :: ns.zip ws) = some u /\ _
    rw [List.lookup_cons] at h ⊢
    cases hb : f == a with
    | true =>
      rw [hb] at h; cases h
      exact ⟨v, rfl, r1, fun z => by rw [llessL, Bool.and_eq_true] at z; exact z.1⟩
    | false =>
      rw [hb] at h
      obtain ⟨u, u1, u2, u3⟩ := zip_look r2 h
      exact ⟨u, u1, u2, fun z => by rw [llessL, Bool.and_eq_true] at z; exact u3 z.2⟩
theorem ed_fld {Φ : Fx} {sc : Scope} {ρ : Rho} {a : Expr} {n f : Str} {pos : Pos} {ns : List Str} {ds : List D} {j : Nat} {d : D} (G : Good Φ X sc) (hf : Φ.fld n f = true) (he : ED X ρ a (.obj n ns ds) j) (hb : baseOk a = true) (h : (ns.zip ds).lookup f = some d) : ED X ρ (.Attribute a f pos) d 0 := by
  intro ow
  refine PEimp (pe_fld (he ow) (base_of hb)) fun σ H Q ⟨E, q⟩ => ⟨E, fun v H1 s1 r1 => ?_⟩
  rw [Rep] at r1
  obtain ⟨fl, e0, x, C, dx, vs, rfl, h1, h2, h3, r2⟩ := r1
  obtain ⟨u, u1, u2, u3⟩ := zip_look r2 h
  exact ⟨x, C, dx, _, u, rfl, h3, h2, G.fld n f hf C h1, u1, q u H1 s1 (u2.flat _ (u3 fl))⟩
theorem ed_blt {Φ : Fx} {sc : Scope} {ρ : Rho} {f : Str} {B : List D -> R1} {p pos : Pos} {e : Expr} {es : List Expr} {ds : List D} {k l : Nat} {z : D} {o : List Prop} (G : Good Φ X sc) (hB : BltOk f B) (hg : sc.names.lookup f = some .globalImplicit)
    (ha : AD X ρ (e :: es) ds k) (hst : ∀ x ∈ e :: es, ∀ y p, x ≠ .Starred y p) (h : B ds = .ok (z, l) o) (hp : allP o) : ED X ρ (.Call (.Name f p) (e :: es) [] pos) z l := by
  obtain ⟨h3, h1, h2, _, h4⟩ := hB
  have h4 := h4 X ds z l o G.calm h hp
  intro ow
  have n1 := nostar_one (env := X.env) (es := es) (hst e List.mem_cons_self)
  have n2 : (backTo pos (starEach es X.env)).any (·.1) = false := nostar_any fun x hx => hst x (List.mem_cons_of_mem _ hx)
  rcases h4 with ⟨id, e1, r, e2, e3⟩ | ⟨T, e1, r, e2, e3⟩
  . refine PEimp (pe_callB e2 (G.gl f hg) (G.bl f h3) e1 (ha ow) h1 h2 n1 n2) fun σ H Q ⟨E, q⟩ => ⟨E, fun vs H1 s1 r1 => ?_⟩
    exact e3 ow H H1 vs _ Q E.own s1 r1 fun w H' s2 r2 => q w H' (s1.trans s2) r2
  . refine PEimp (pe_callTy e2 (G.gl f hg) (G.bl f h3) e1 (ha ow) h1 h2 n1 n2) fun σ H Q ⟨E, q⟩ => ⟨E, fun vs H1 s1 r1 => ?_⟩
    exact e3 ow H H1 vs _ Q E.own s1 r1 fun w H' s2 r2 => q w H' (s1.trans s2) r2
theorem ie_list {ρ : Rho} {tg e : Expr} {l : List D} {k : Nat} (h : ED X ρ e (.lst l) k) : IE X ρ tg e l k := by
  intro ow pins s σ H R I ⟨E, q⟩
  refine pi_list (tg := tg) (h ow) pins s σ H R I ⟨E, fun v H1 s1 r1 => ?_⟩
  rw [Rep] at r1
  obtain ⟨a, vs, b, rfl, hl, hp, rl⟩ := r1
  have rl' : RepL X.K H1 (Kd ow H k H1) l vs := rl.impH (fun a o ho p => ⟨p, fun _ => ⟨o, ho⟩⟩) fun a p => ⟨p, fun z => (by cases z)⟩
  have hp' : Kd ow H k H1 a b := ⟨hp, fun hb => by subst hb; exact ⟨_, hl⟩⟩
  have sq : ∀ {H2 : Hp}, LsB X.K H2 a vs b -> SqL X.K H2 a vs := fun {H2} h => h.sq
  refine ⟨a, rfl, ⟨vs, sq hl⟩, q _ H1 s1 fun i H2 st => ⟨fun d hd => ?_, fun hle => ?_⟩⟩
  . have h2 := sq (st.ls hl hp')
    obtain ⟨w, hw, rw'⟩ := rl'.get hd
    refine ⟨⟨vs, w, h2, hw⟩, fun x H3 ⟨e3, y3⟩ => ?_⟩
    subst e3
    have := y3 vs h2
    rw [hw] at this; cases this
    exact ⟨Same.refl _, rw'.mono st⟩
  . exact ⟨vs, sq (st.ls hl hp'), by rw [<- rl.length]; exact hle⟩
theorem ie_tup {ρ : Rho} {tg e : Expr} {l : List D} {k : Nat} (h : ED X ρ e (.tup l) k) : IE X ρ tg e l k := by
  intro ow pins s σ H R I ⟨E, q⟩
  refine pi_tup (tg := tg) (h ow) pins s σ H R I ⟨E, fun v H1 s1 r1 => ?_⟩
  rw [Rep] at r1
  obtain ⟨a, vs, rfl, hl, rl⟩ := r1
  have rl' : RepL X.K H1 (Kd ow H k H1) l vs := rl.impH (fun a o ho p => ⟨p, fun _ => ⟨o, ho⟩⟩) fun a p => ⟨p, fun z => (by cases z)⟩
  refine ⟨a, rfl, ⟨vs, hl⟩, q _ H1 s1 fun i H2 st => ⟨fun d hd => ?_, fun hle => ?_⟩⟩
  . have h2 := st.sq hl
    obtain ⟨w, hw, rw'⟩ := rl'.get hd
    refine ⟨⟨vs, w, h2, hw⟩, fun x H3 ⟨e3, y3⟩ => ?_⟩
    subst e3
    have := y3 vs h2
    rw [hw] at this; cases this
    exact ⟨Same.refl _, rw'.mono st⟩
  . exact ⟨vs, st.sq hl, by rw [<- rl.length]; exact hle⟩
theorem ie_of {ρ : Rho} {tg e : Expr} {d : D} {l : List D} {k : Nat} (h : ED X ρ e d k) (hi : items d = some l) : IE X ρ tg e l k := by
  unfold items at hi
  split at hi
  . cases hi; exact ie_list h
  . cases hi; exact ie_tup h
  . cases hi
theorem ie_range {ρ : Rho} {tg a : Expr} {p pos : Pos} {j : Int} {k : Nat} (hg : Gl X "range") (hm0 : X.mg "range" = none) (ha : AD X ρ [a] [.int j] k) (hst : ∀ y p, a ≠ .Starred y p) (h1 : -4611686018427387904 <= j) (h2 : j <= many) :
    IE X ρ tg (.Call (.Name "range" p) [a] [] pos) ((List.range j.toNat).map fun i => .int (i : Nat)) 0 := by
  intro ow pins s σ H R I ⟨E, q⟩
  refine pi_range1 (tg := tg) hg hm0 (ha ow) (by rw [nostar_one hst]; rfl) pins s σ H R I ⟨E, fun vs H1 s1 r1 => ?_⟩
  obtain ⟨v, rfl, rv⟩ := r1.only
  rw [Rep] at rv; subst rv
  have hm : (many : Int) < 2 ^ 62 := by decide
  refine ⟨j, rfl, h1, by omega, q _ H1 s1 fun i H2 st => ⟨fun d hd => ?_, fun hle => ?_⟩⟩
  . rw [List.getElem?_map] at hd
    cases e : (List.range j.toNat)[i]? with
    | none => rw [e] at hd; cases hd
    | some n =>
      rw [e] at hd; cases hd
      obtain ⟨hi, hn⟩ := List.getElem?_eq_some_iff.mp e
      rw [List.getElem_range] at hn
      subst hn
      rw [List.length_range] at hi
      refine ⟨hi, fun x H3 ⟨e3, y3⟩ => ?_⟩
      subst e3 y3
      exact ⟨Same.refl _, by rw [Rep, Int.zero_add]⟩
  . rw [List.length_map, List.length_range] at hle
    exact hle
theorem ie_range2 {ρ : Rho} {tg a b : Expr} {p pos : Pos} {j0 j : Int} {k : Nat} (hg : Gl X "range") (hm0 : X.mg "range" = none) (ha : AD X ρ [a, b] [.int j0, .int j] k) (hst : ∀ y p, a ≠ .Starred y p) (hst2 : ∀ y p, b ≠ .Starred y p) (h1 : -4611686018427387904 <= j0) (h2 : j0 <= 4611686018427387000) (h3 : -4611686018427387904 <= j) (h4 : j - j0 <= 800) :
    IE X ρ tg (.Call (.Name "range" p) [a, b] [] pos) ((List.range (j - j0).toNat).map fun i => .int (j0 + (i : Nat))) 0 := by
  intro ow pins s σ H R I ⟨E, q⟩
  refine pi_range2 (tg := tg) hg hm0 (ha ow) (by rw [nostar_one hst, nostar_one hst2]; rfl) (by rw [nostar_one hst2]; rfl) pins s σ H R I ⟨E, fun vs H1 s1 r1 => ?_⟩
  rw [RepL] at r1
  obtain ⟨v1, r, rfl, r2, r3⟩ := r1
  rw [RepL] at r3
  obtain ⟨v2, r', rfl, r4, r5⟩ := r3
  rw [RepL] at r5
  rw [Rep] at r2 r4
  subst r2 r4 r5
  refine ⟨j0, j, rfl, ⟨h1, by omega, h3, by omega⟩, q _ H1 s1 fun i H2 st => ⟨fun d hd => ?_, fun hle => ?_⟩⟩
  . rw [List.getElem?_map] at hd
    cases e : (List.range (j - j0).toNat)[i]? with
    | none => rw [e] at hd; cases hd
    | some n =>
      rw [e] at hd; cases hd
      obtain ⟨hi, hn⟩ := List.getElem?_eq_some_iff.mp e
      rw [List.getElem_range] at hn
      subst hn
      rw [List.length_range] at hi
      refine ⟨hi, fun x H3 ⟨e3, y3⟩ => ?_⟩
      subst e3 y3
      exact ⟨Same.refl _, by rw [Rep]⟩
  . rw [List.length_map, List.length_range] at hle
    exact hle
theorem iRange_ok : ItrOk "range" iRange := by
  refine ⟨by decide +kernel, fun X ρ p pos args ds k d j l tg o hc hg hm ha hst hlen h hp hl ht => ?_⟩
  unfold iRange at h
  split at h
  . rename_i n
    cases h
    cases hl
    match args, hlen, ha, hst with
    | [a], _, ha, hst => exact ie_range hg hm ha (hst a List.mem_cons_self) hp.1 hp.2.1
  . rename_i m n
    cases h
    cases hl
    match args, hlen, ha, hst with
    | [a, b], _, ha, hst => exact ie_range2 hg hm ha (hst a List.mem_cons_self) (hst b (List.mem_cons_of_mem _ List.mem_cons_self)) hp.1 hp.2.1 hp.2.2.1 hp.2.2.2.1
  . cases h
end Sp
set_option Elab.async false
set_option linter.all false
set_option maxRecDepth 100000
namespace Sp
open PySem PySem.Spec PyProof.Rows L2
variable {X : Cx}
theorem lookup_putR {x : Str} {y : D × Bool} {ρ : Rho} (z : Str) : putR ρ x y z = if z = x then some y else ρ z := rfl
theorem env_put {ow : Ow} {H : Hp} {σ : L2.St} {ρ : Rho} {x : Str} {d : D} {o : Bool} {v : V} {i : Nat} (hN : X.N.Nodup) (hl : σ.length = X.N.length) (E : EnvOk X ow H σ ρ) (hi : X.N[i]? = some x) (hv : Vis X.env.scope x) (r : Rep X.K H (ownP ow x o) d v) :
    EnvOk X ow H (σ.set i (some v)) (putR ρ x (d, o)) := by
  have hil : i < σ.length := by rw [hl]; exact (List.getElem?_eq_some_iff.mp hi).1
  refine ⟨fun y e o' h => ?_, E.own⟩
  rw [lookup_putR] at h
  by_cases hy : y = x
  . subst hy
    rw [if_pos rfl] at h
    cases h
    exact ⟨i, v, hi, hv, by rw [List.getElem?_set_self hil], r⟩
  . rw [if_neg hy] at h
    obtain ⟨j, w, e1, e2, e3, e4⟩ := E.get y e o' h
    have hij : i ≠ j := by intro z; subst z; rw [hi] at e1; cases e1; exact hy rfl
    exact ⟨j, w, e1, e2, by rw [List.getElem?_set_ne hij]; exact e3, e4⟩
theorem loc_of {Φ : Fx} {sc : Scope} {x : Str} (G : Good Φ X sc) (h : locK sc x = true) : Loc X.env.scope x /\ Vis X.env.scope x /\ (X.fn x = true \/ X.env.scope.names.lookup x = some .local) /\ ∃ i : Nat, X.N[i]? = some x := by
  have hx := G.ns x h
  have hlt := List.idxOf_lt_length_iff.mpr hx
  have hi : ∃ i : Nat, X.N[i]? = some x := ⟨X.N.idxOf x, by rw [List.getElem?_eq_getElem hlt, List.getElem_idxOf hlt]⟩
  unfold locK at h
  rw [Bool.or_eq_true] at h
  rcases h with h | h
  . have h := G.lc x (by simpa using h)
    exact ⟨.inl h, .inl h, .inr h, hi⟩
  . have h0 : sc.names.lookup x = some .cell := by simpa using h
    have h := G.cc x h0
    exact ⟨.inr h, .inr (.inl h), .inl (G.ft x h0), hi⟩
theorem pgs_names {Φ : Fx} {sc : Scope} (G : Good Φ X sc) : ∀ {es : List Expr} {ds : List D} {ρ ρ' : Rho}, bindNs sc es ds ρ = some ρ' -> ∃ t, PGs X es t /\ (assignEach es X.env).length = ds.length /\ (assignEach es X.env).findIdx? (·.1) = none /\
    ∀ (ow : Ow) (vs : List V) (σ : L2.St) (H : Hp) (Q : L2.St -> Hp -> Prop), σ.length = X.N.length -> EnvOk X ow H σ ρ -> RepL X.K H (fun a b => b = true -> ow a = none) ds vs -> (∀ σ', σ'.length = X.N.length -> EnvOk X ow H σ' ρ' -> Q σ' H) -> t vs σ H Q
  | [], [], ρ, ρ', h => by
    rw [bindNs] at h; cases h
    refine ⟨_, pgs_nil, rfl, rfl, fun ow vs σ H Q hl E r q => ?_⟩
    rw [RepL] at r
    exact ⟨r, q σ hl E⟩
  | .Name x p :: es, d :: ds, ρ, ρ', h => by
    rw [bindNs] at h
    split at h
    . rename_i hx
      obtain ⟨t, h1, h2, h3, h4⟩ := pgs_names G h
      obtain ⟨g1, g2, g3, i, g4⟩ := loc_of G hx
      refine ⟨_, pgs_cons (pg_name (i := i) G.nd g4 g1 g3) h1 rfl, ?_, ?_, fun ow vs σ H Q hl E r q => ?_⟩
      . show (assignEach es X.env).length + 1 = ds.length + 1
        rw [h2]
      . show List.findIdx? (·.1) ((false, _) :: assignEach es X.env) = none
        rw [List.findIdx?_cons, h3]; rfl
      . rw [RepL] at r
        obtain ⟨v, vr, rfl, r1, r2⟩ := r
        refine ⟨v, vr, rfl, ?_⟩
        exact h4 ow vr _ H Q (by rw [List.length_set]; exact hl) (env_put G.nd hl E g4 g2 r1) r2 q
    . cases h
  | [], _ :: _, ρ, ρ', h => by simp [bindNs] at h
  | .Name _ _ :: _, [], ρ, ρ', h => by simp [bindNs] at h
  | .BoolOp .. :: _, ds, ρ, ρ', h => by cases ds <;> simp [bindNs] at h
  | .NamedExpr .. :: _, ds, ρ, ρ', h => by cases ds <;> simp [bindNs] at h
  | .BinOp .. :: _, ds, ρ, ρ', h => by cases ds <;> simp [bindNs] at h
  | .UnaryOp .. :: _, ds, ρ, ρ', h => by cases ds <;> simp [bindNs] at h
  | .Lambda .. :: _, ds, ρ, ρ', h => by cases ds <;> simp [bindNs] at h
  | .IfExp .. :: _, ds, ρ, ρ', h => by cases ds <;> simp [bindNs] at h
  | .Dict .. :: _, ds, ρ, ρ', h => by cases ds <;> simp [bindNs] at h
  | .Set .. :: _, ds, ρ, ρ', h => by cases ds <;> simp [bindNs] at h
  | .ListComp .. :: _, ds, ρ, ρ', h => by cases ds <;> simp [bindNs] at h
  | .SetComp .. :: _, ds, ρ, ρ', h => by cases ds <;> simp [bindNs] at h
  | .DictComp .. :: _, ds, ρ, ρ', h => by cases ds <;> simp [bindNs] at h
  | .GeneratorExp .. :: _, ds, ρ, ρ', h => by cases ds <;> simp [bindNs] at h
  | .Await .. :: _, ds, ρ, ρ', h => by cases ds <;> simp [bindNs] at h
  | .Yield .. :: _, ds, ρ, ρ', h => by cases ds <;> simp [bindNs] at h
  | .YieldFrom .. :: _, ds, ρ, ρ', h => by cases ds <;> simp [bindNs] at h
  | .Compare .. :: _, ds, ρ, ρ', h => by cases ds <;> simp [bindNs] at h
  | .Call .. :: _, ds, ρ, ρ', h => by cases ds <;> simp [bindNs] at h
  | .FormattedValue .. :: _, ds, ρ, ρ', h => by cases ds <;> simp [bindNs] at h
  | .JoinedStr .. :: _, ds, ρ, ρ', h => by cases ds <;> simp [bindNs] at h
  | .Constant .. :: _, ds, ρ, ρ', h => by cases ds <;> simp [bindNs] at h
  | .Attribute .. :: _, ds, ρ, ρ', h => by cases ds <;> simp [bindNs] at h
  | .Subscript .. :: _, ds, ρ, ρ', h => by cases ds <;> simp [bindNs] at h
  | .Starred .. :: _, ds, ρ, ρ', h => by cases ds <;> simp [bindNs] at h
  | .List .. :: _, ds, ρ, ρ', h => by cases ds <;> simp [bindNs] at h
  | .Tuple .. :: _, ds, ρ, ρ', h => by cases ds <;> simp [bindNs] at h
  | .Slice .. :: _, ds, ρ, ρ', h => by cases ds <;> simp [bindNs] at h
theorem gd_of {Φ : Fx} {sc : Scope} {tg : Expr} {d : D} {ρ ρ' : Rho} (G : Good Φ X sc) (h : bindG sc tg d ρ = some ρ') : GD X ρ tg d ρ' := by
  unfold bindG at h
  split at h
  . split at h
    . rename_i x p hx
      cases h
      obtain ⟨g1, g2, g3, i, g4⟩ := loc_of G hx
      exact ⟨_, pg_name (i := i) G.nd g4 g1 g3, fun ow v σ H Q hl E r q => q _ (by rw [List.length_set]; exact hl) (env_put G.nd hl E g4 g2 r)⟩
    . cases h
  . split at h
    . obtain ⟨t, h1, h2, h3, h4⟩ := pgs_names G h
      refine ⟨_, pg_tup (n := _) G.calm h1 h2 h3, fun ow v σ H Q hl E r q => ?_⟩
      obtain ⟨a, vs, rfl, hs, rl⟩ := sqt_of r
      exact ⟨a, vs, rfl, hs, rl.length.symm, h4 ow vs σ H Q hl E rl q⟩
    . cases h
  . cases h
theorem tests_cons {c : Expr} {cs : List Expr} {env : Env} {M : Model} {A : Around} {E : Value -> Shared -> Prop} {s : Shared} {Q : Bool -> Shared -> Prop}
    (h : wpAny M A (isTrue c env (eval c env)) (fun b s' => if b = true then wpAny M A (forTests cs env) Q E s' else Q false s') E s) : wpAny M A (forTests (c :: cs) env) Q E s := by
  have no : ∀ (l : List Expr) (s : Shared), Q false s -> wpAny M A (forIn l false fun c r => if r = true then do let ok <- isTrue c env (eval c env); pure (ForInStep.yield ok) else pure (ForInStep.yield r)) Q E s := by
    intro l
    induction l with
    | nil => intro s h; exact wpAny_pure h
    | cons x l ih =>
      intro s h
      rw [List.forIn_cons]
      simp only [Bool.false_eq_true, if_false]
      exact wpAny_bind (wpAny_pure (ih s h))
  unfold forTests
  rw [List.forIn_cons]
  simp only [if_true]
  refine wpAny_bind (wpAny_bind (wpAny_mono h (fun b s' hb => wpAny_pure ?_) fun _ _ x => x))
  cases b with
  | true => exact hb
  | false => exact no cs s' hb
theorem ts_nil {ρ : Rho} : TsD X ρ [] true := fun ow pins s σ H Q I ⟨E, q⟩ => wpAny_pure ⟨H, I, q H (Same.refl _)⟩
theorem ts_cons {ρ : Rho} {c : Expr} {cs : List Expr} {b b' : Bool} (h : TD X ρ c b) (h' : if b = true then TsD X ρ cs b' else b' = false) : TsD X ρ (c :: cs) b' := by
  intro ow pins s σ H Q I ⟨E, q⟩
  refine tests_cons (thn (h ow pins s σ H (fun t H1 => t = b /\ Same H H1) I ⟨E, fun H1 s1 => ⟨rfl, s1⟩⟩) fun t s1 ⟨H1, I1, e, sm⟩ => ?_)
  subst e
  cases t with
  | true =>
    rw [if_pos rfl] at h' ⊢
    exact h' ow pins s1 σ H1 Q I1 ⟨E.same sm, fun H2 s2 => q H2 (sm.trans s2)⟩
  | false =>
    rw [if_neg Bool.false_ne_true] at h' ⊢
    subst h'
    exact ⟨H1, I1, q H1 sm⟩
end Sp
set_option Elab.async false
set_option linter.all false
set_option maxRecDepth 100000
namespace Sp
open PySem PySem.Spec PyProof.Rows L2
variable {X : Cx}
structure Con (X : Cx) (ρ : Rho) (e : Expr) (it : Bool) (d : D) (k : Nat) : Prop where
  ed : it = false -> ED X ρ e d k
  td : it = false -> ∀ b, d = .bl b -> TD X ρ e b
  ie : it = true -> ∀ tg l, items d = some l -> tgOk e tg = true -> IE X ρ tg e l k
theorem Con.of {ρ : Rho} {e : Expr} {it : Bool} {d : D} {k : Nat} (h : ED X ρ e d k) (t : ∀ b, d = .bl b -> TD X ρ e b) : Con X ρ e it d k := ⟨fun _ => h, fun _ => t, fun _ tg l hi _ => ie_of h hi⟩
theorem evE_nostar {Φ : Fx} {e : Expr} {it : Bool} {sc : Scope} {ρ : Rho} {r : D × Nat} {l : List Prop} (h : evE Φ e it sc ρ = .ok r l) : ∀ x p, e ≠ .Starred x p := by
  intro x p z; subst z; cases h
theorem evEs_nostar {Φ : Fx} {sc : Scope} {ρ : Rho} : ∀ {es : List Expr} {r : List D × Nat} {l : List Prop}, evEs Φ es sc ρ = .ok r l -> allP l -> (∀ e ∈ es, ∀ x p, e ≠ .Starred x p) /\ es.length = r.1.length
  | [], r, l, h, _ => by cases h; exact ⟨fun e he => (by cases he), rfl⟩
  | e :: es, r, l, h, hp => by
    obtain ⟨p, l1, l2, h1, p1, h, p2⟩ := bnd_inv h hp
    obtain ⟨q, l3, l4, h2, p3, h, p4⟩ := bnd_inv h p2
    cases h
    obtain ⟨i1, i2⟩ := evEs_nostar h2 p3
    refine ⟨fun e' he => ?_, by rw [List.length_cons, List.length_cons, i2]⟩
    rcases List.mem_cons.mp he with rfl | he
    . exact evE_nostar h1
    . exact i1 e' he
theorem kn_le {d : D} {k : Nat} : kn d k = 0 \/ kn d k = k := by
  unfold kn; split
  . exact .inl rfl
  . exact .inr rfl
theorem cOk_of {sc scope : Scope} (h : cOk sc scope = true) : scope.kind = .function /\ (∀ y ∈ scope.names, y.2 = .local -> scope.names.lookup y.1 = some .local) /\
    (∀ y ∈ scope.names, y.2 = .free -> sc.names.lookup y.1 = some .cell \/ sc.names.lookup y.1 = some .free) /\ (scope.names.map (·.1)).Nodup := by
  unfold cOk at h
  simp only [Bool.and_eq_true, List.all_eq_true, decide_eq_true_eq, Bool.or_eq_true] at h
  obtain ⟨⟨⟨h1, h3⟩, h4⟩, h5⟩ := h
  refine ⟨h1, fun y hy e => (h3 y hy).resolve_left (fun z => z e), fun y hy e => ?_, h5⟩
  rcases h4 y hy with (q | q) | q
  . exact absurd e q
  . exact .inl q.2
  . exact .inr q
theorem lookup_relabel_glob {env : Env} : ∀ {names : List (Str × NameKind)} {x : Str} {k0 : NameKind}, k0 ≠ .free -> names.lookup x = some k0 ->
    (names.map fun (n, k) => if (k == NameKind.free && env.scope.kind == .function && env.kindOf n == some .cell) then (n, NameKind.cell) else (n, k)).lookup x = some k0
  | [], _, _, _, h => by simp at h
  | (n, k) :: r, x, k0, hk, h => by
    have ih := @lookup_relabel_glob env r x k0 hk
    show List.lookup x ((if (k == NameKind.free && env.scope.kind == .function && env.kindOf n == some .cell) = true then (n, NameKind.cell) else (n, k)) :: _) = _
    cases hx : x == n with
    | true =>
      simp only [List.lookup_cons, hx] at h
      cases h
      have : (k == NameKind.free) = false := by simpa using hk
      simp [List.lookup_cons, hx, this]
    | false =>
      simp only [List.lookup_cons, hx] at h
      by_cases hc : (k == NameKind.free && env.scope.kind == .function && env.kindOf n == some .cell) = true
      . rw [if_pos hc]; simp only [List.lookup_cons, hx]; exact ih h
      . rw [if_neg hc]; simp only [List.lookup_cons, hx]; exact ih h
theorem lookup_mem {names : List (Str × NameKind)} : ∀ {x : Str} {k : NameKind}, names.lookup x = some k -> x ∈ names.map (·.1) := fun {x k} h => List.mem_map.mpr ⟨_, PySem.mem_of_lookup h, rfl⟩
theorem good_in {Φ : Fx} {sc scope : Scope} {cl : List (Str × Addr)} {C : Addr} {s : Shared} {H : Hp} {fp : List Addr} (G : Good Φ X sc) (h : cOk sc scope = true) : Good Φ (inX X scope cl C (scope.names.map (·.1)) s H fp) scope := by
  obtain ⟨h1, h3, h4, h5⟩ := cOk_of h
  refine ⟨G.calm, h5, fun x hx => ?_, fun x hx => ?_, fun x hx => lookup_relabel_local hx, fun x hx => lookup_relabel_glob (by decide) hx, fun g F hg => G.fn g F hg, G.con, G.blt, G.itr, G.mth, G.mtt, G.slf, G.fld, G.omt, G.bl, G.room, fun x hx => ?_, fun x hx => decide_eq_true hx⟩
  . exact lookup_relabel_glob (by decide) hx
  . rcases hx with hx | hx
    . exact .inl (lookup_relabel_glob (by decide) hx)
    . exact lookup_relabel_free hx
  . unfold locK at hx
    rw [Bool.or_eq_true] at hx
    rcases hx with hx | hx <;> exact lookup_mem (by simpa using hx)
theorem cscope_of {Φ : Fx} {sc scope : Scope} (G : Good Φ X sc) (h : cOk sc scope = true) : CScope X.env scope (scope.names.map (·.1)) := by
  obtain ⟨h1, h3, h4, h5⟩ := cOk_of h
  exact ⟨h1, h5, h3, h5, fun n hn => G.kc n (h4 (n, .free) hn rfl)⟩
theorem kj_le : ∀ {a b : Nat}, kj a b <= 1 -> a <= kj a b /\ b <= kj a b
  | 0, 0, _ => by decide
  | 0, 1, _ => by decide
  | 0, 2, h => absurd h (by decide)
  | 0, _ + 3, h => by rw [kj] at h; omega
  | 1, 0, _ => by decide
  | 1, 1, _ => by decide
  | 1, 2, h => absurd h (by decide)
  | 1, _ + 3, h => absurd h (by rw [kj] <;> simp)
  | 2, 0, h => absurd h (by decide)
  | 2, 1, h => absurd h (by decide)
  | 2, 2, h => absurd h (by decide)
  | 2, _ + 3, h => absurd h (by rw [kj] <;> simp)
  | _ + 3, 0, h => by rw [kj] at h <;> simp_all <;> omega
  | _ + 3, 1, h => absurd h (by rw [kj] <;> simp)
  | _ + 3, 2, h => absurd h (by rw [kj] <;> simp)
  | _ + 3, _ + 3, h => absurd h (by rw [kj] <;> simp)
theorem Kp.up {ow : Ow} {H : Hp} (o : OwIn ow H) {a : Addr} {b : Bool} : ∀ {i j : Nat}, i <= j -> j <= 1 -> Kp ow H i a b -> Kp ow H j a b
  | 0, 0, _, _, p => p
  | 0, 1, _, _, p => fun _ => o.free p.2
  | 1, 1, _, _, p => p
  | 1, 0, h, _, _ => absurd h (by omega)
  | _ + 2, _, h, g, _ => absurd h (by omega)
  | 0, _ + 2, _, g, _ => absurd g (by omega)
  | 1, _ + 2, _, g, _ => absurd g (by omega)
theorem ED.up {ρ : Rho} {e : Expr} {d : D} {i j : Nat} (h : ED X ρ e d i) (h1 : i <= j) (h2 : j <= 1) : ED X ρ e d j := fun ow => PEimp (h ow) fun σ H Q ⟨E, q⟩ => ⟨E, fun v H' s r => q v H' s (r.imp fun a b p => Kp.up E.own h1 h2 p)⟩
def outOf (step : D -> Rs (Option (D × Nat))) (d : D) : Option D := match step d with | .ok (some p) _ => some p.1 | _ => none
theorem compD_ok {step : D -> Rs (Option (D × Nat))} : ∀ {ds : List D} {r : List D × Nat} {l : List Prop}, compD step ds = .ok r l -> allP l ->
    (∀ d ∈ ds, ∃ r l, step d = .ok r l /\ allP l) /\ r.1 = ds.filterMap (outOf step) /\ (r.2 <= 1 -> ∀ d ∈ ds, ∀ p l, step d = .ok (some p) l -> p.2 <= r.2)
  | [], r, l, h, _ => by
    cases h
    exact ⟨fun d hd => (by cases hd), rfl, fun _ d hd => (by cases hd)⟩
  | d :: ds, r, l, h, hp => by
    obtain ⟨x, l1, l2, h1, p1, h, p2⟩ := bnd_inv h hp
    obtain ⟨q, l3, l4, h2, p3, h, p4⟩ := bnd_inv h p2
    obtain ⟨i1, i2, i3⟩ := compD_ok h2 p3
    have i1' : ∀ y ∈ d :: ds, ∃ r l, step y = .ok r l /\ allP l := fun y hy => by
      rcases List.mem_cons.mp hy with rfl | hy
      . exact ⟨_, _, h1, p1⟩
      . exact i1 y hy
    cases x with
    | none =>
      cases h
      refine ⟨i1', ?_, fun hj x hx y i e => ?_⟩
      . rw [List.filterMap_cons_none (by unfold outOf; rw [h1])]; exact i2
      . rcases List.mem_cons.mp hx with rfl | hx
        . rw [h1] at e; cases e
        . exact i3 hj x hx y i e
    | some p =>
      cases h
      refine ⟨i1', ?_, fun hj x hx y i e => ?_⟩
      . rw [List.filterMap_cons_some (by unfold outOf; rw [h1]), i2]
      . obtain ⟨a1, a2⟩ := kj_le hj
        rcases List.mem_cons.mp hx with rfl | hx
        . rw [h1] at e; cases e; exact a1
        . exact Nat.le_trans (i3 (Nat.le_trans a2 hj) x hx y i e) a2
end Sp
set_option Elab.async false
set_option linter.all false
set_option maxRecDepth 100000
namespace Sp
open PySem PySem.Spec PyProof.Rows L2
theorem con_plain {X : Cx} {ρ : Rho} {e : Expr} {it : Bool} {d : D} {k : Nat} (h : ED X ρ e d k) (he : ∀ whole, isTrue e X.env whole = (do let v <- whole; standAt e.pos; holding [v] (truthy v))) : Con X ρ e it d k := .of h fun b hb => by subst hb; exact td_ed h he
theorem td_cmp {X : Cx} {ρ : Rho} {a b : Expr} {op : CmpOp} {pos : Pos} {x y : D} {r : Bool} {k j : Nat} {o : List Prop} (hu : X.A.units + 70 < cLine) (ha : ED X ρ a x k) (hb : ED X ρ b y j) (h : cmpD op x y = .ok r o) (hp : allP o) (hm : behindInMarks op b = false) : TD X ρ (.Compare a [op] [b] pos) r := by
  have c := cmp_ok (X := X) hu h hp
  intro ow pins s σ H Q I ⟨E, q⟩
  refine wpAny_isTrue_Compare1 (bin (ha ow) (hb ow) I (R := fun v u H2 => Same H H2 /\ Rep X.K H2 (fun _ _ => True) x v /\ Rep X.K H2 (fun _ _ => True) y u) ⟨E, fun v H1 s1 r1 => ⟨E.same s1, fun u H2 s2 r2 => ⟨s1.trans s2, (r1.imp fun _ _ _ => True.intro).same s2, r2.imp fun _ _ _ => True.intro⟩⟩⟩ fun v u s2 x y H2 I2 rx ry ⟨sm, r1, r2⟩ => ?_) hm
  refine thn (c _ _ pins s2 σ H2 x y v u (fun w H' => w = .bl r /\ H2 = H') I2 rx ry ⟨r1, r2, rfl, rfl⟩) fun u' s3 ⟨w, H3, I3, r3, e1, e2⟩ => ?_
  subst e1 e2
  cases (show u' = Value.bool r from r3)
  exact wpAny_truthy_bool ⟨H2, I3, q H2 sm⟩
theorem td_chain {X : Cx} {ρ : Rho} {a b c : Expr} {op op2 : CmpOp} {pos : Pos} {x y z : Int} {r r2 : Bool} {k j i : Nat} (hu : X.A.units + 70 < cLine) (ha : ED X ρ a (.int x) k) (hb : ED X ρ b (.int y) j) (hc : ED X ρ c (.int z) i) (h : cmpI op x y = some r) (h2 : cmpI op2 y z = some r2) (hm : behindInMarks op2 c = false) : TD X ρ (.Compare a [op, op2] [b, c] pos) (r && r2) := by
  have c1 := cmp_ok (X := X) hu (cmpI_D h) (show allP [] from True.intro)
  have c2 := cmp_ok (X := X) hu (cmpI_D h2) (show allP [] from True.intro)
  refine fun ow => PTimp (pt_chain (c1 (fun _ _ => True) (fun _ _ => True)) (c2 (fun _ _ => True) (fun _ _ => True)) (ha ow) (hb ow) (hc ow) hm) fun σ H Q ⟨E, q⟩ => ⟨E, fun v H1 s1 r1 => ⟨E.same s1, fun u H2 s2 r2 => ?_⟩⟩
  rw [Rep] at r1 r2
  subst r1 r2
  refine ⟨by rw [Rep], by rw [Rep], r, rfl, ?_⟩
  cases r with
  | false => exact ⟨false, rfl, q H2 (s1.trans s2)⟩
  | true =>
    rw [if_pos rfl]
    refine ⟨(E.same s1).same s2, fun w H3 s3 r3 => ?_⟩
    rw [Rep] at r3
    subst r3
    exact ⟨by rw [Rep], by rw [Rep], _, rfl, q H3 ((s1.trans s2).trans s3)⟩
theorem td_not {X : Cx} {ρ : Rho} {a : Expr} {pos : Pos} {b : Bool} (h : TD X ρ a b) : TD X ρ (.UnaryOp .Not a pos) (!b) := fun ow => PTimp (pt_not (h ow)) fun σ H Q ⟨E, q⟩ => ⟨E, fun H1 s1 => q H1 s1⟩
structure BoolCon (X : Cx) (ρ : Rho) (op : BoolOp) (es : List Expr) (b : Bool) : Prop where
  ed : es ≠ [] -> ∀ pos, ED X ρ (.BoolOp op es pos) (.bl b) 0
  tw : es ≠ [] -> ∀ pos ow, PW X (.BoolOp op es pos) (tTD X ow ρ b)
  ts : op = .And -> TsD X ρ es b
theorem boolCon_one {X : Cx} {ρ : Rho} {op : BoolOp} {e : Expr} {b : Bool} {k : Nat} (h : ED X ρ e (.bl b) k) (t : TD X ρ e b) : BoolCon X ρ op [e] b := by
  have h0 : ED X ρ e (.bl b) 0 := by
    have := h.kn
    rw [show kn (.bl b) k = 0 from rfl] at this
    exact this
  refine ⟨fun _ pos ow => pe_one (h0 ow), fun _ pos ow => ?_, fun _ => ts_cons t (by cases b; rfl; exact ts_nil)⟩
  cases op with
  | And => exact pw_and1 (t ow)
  | Or => exact pw_or1 (t ow)
theorem boolCon_and {X : Cx} {ρ : Rho} {e e2 : Expr} {es : List Expr} {b : Bool} {k : Nat} (h : ED X ρ e (.bl true) k) (t : TD X ρ e true) (r : BoolCon X ρ .And (e2 :: es) b) : BoolCon X ρ .And (e :: e2 :: es) b := by
  refine ⟨fun _ pos ow => ?_, fun _ pos ow => ?_, fun _ => ts_cons t (by rw [if_pos rfl]; exact r.ts rfl)⟩
  . refine PEimp (pe_and (h ow) (r.ed (by simp) pos ow)) fun σ H Q ⟨E, q⟩ => ⟨E, fun v H1 s1 r1 => ?_⟩
    rw [Rep] at r1
    exact ⟨true, r1, by rw [if_pos rfl]; exact ⟨E.same s1, fun w H2 s2 r2 => q w H2 (s1.trans s2) (r2.imp (Kp.back s1 0))⟩⟩
  . intro wh pins s σ H Q I hq
    exact pw_and (t ow) (r.tw (by simp) pos ow) wh pins s σ H Q I ⟨hq.1, fun H1 s1 => by dsimp only; rw [if_pos rfl]; exact ⟨hq.1.same s1, fun H2 s2 => hq.2 H2 (s1.trans s2)⟩⟩
theorem boolCon_andF {X : Cx} {ρ : Rho} {e e2 : Expr} {es : List Expr} {k : Nat} (h : ED X ρ e (.bl false) k) (t : TD X ρ e false) (ne : ∀ pos, ∃ t, PE X (.BoolOp .And (e2 :: es) pos) t) (nw : ∀ pos, ∃ t, PW X (.BoolOp .And (e2 :: es) pos) t) : BoolCon X ρ .And (e :: e2 :: es) false := by
  refine ⟨fun _ pos ow => ?_, fun _ pos ow => ?_, fun _ => ts_cons t (by rw [if_neg Bool.false_ne_true])⟩
  . obtain ⟨t2, h2⟩ := ne pos
    refine PEimp (pe_and (h ow) h2) fun σ H Q ⟨E, q⟩ => ⟨E, fun v H1 s1 r1 => ?_⟩
    rw [Rep] at r1
    exact ⟨false, r1, by rw [if_neg Bool.false_ne_true]; exact q _ H1 s1 (by rw [Rep])⟩
  . obtain ⟨t2, h2⟩ := nw pos
    intro wh pins s σ H Q I hq
    exact pw_and (t ow) h2 wh pins s σ H Q I ⟨hq.1, fun H1 s1 => by dsimp only; rw [if_neg Bool.false_ne_true]; exact hq.2 H1 s1⟩
theorem boolCon_or {X : Cx} {ρ : Rho} {e e2 : Expr} {es : List Expr} {b : Bool} {k : Nat} (h : ED X ρ e (.bl false) k) (t : TD X ρ e false) (r : BoolCon X ρ .Or (e2 :: es) b) : BoolCon X ρ .Or (e :: e2 :: es) b := by
  refine ⟨fun _ pos ow => ?_, fun _ pos ow => ?_, fun z => by cases z⟩
  . refine PEimp (pe_or (h ow) (r.ed (by simp) pos ow)) fun σ H Q ⟨E, q⟩ => ⟨E, fun v H1 s1 r1 => ?_⟩
    rw [Rep] at r1
    exact ⟨false, r1, by rw [if_neg Bool.false_ne_true]; exact ⟨E.same s1, fun w H2 s2 r2 => q w H2 (s1.trans s2) (r2.imp (Kp.back s1 0))⟩⟩
  . intro wh pins s σ H Q I hq
    exact pw_or (t ow) (r.tw (by simp) pos ow) wh pins s σ H Q I ⟨hq.1, fun H1 s1 => by dsimp only; rw [if_neg Bool.false_ne_true]; exact ⟨hq.1.same s1, fun H2 s2 => hq.2 H2 (s1.trans s2)⟩⟩
theorem boolCon_orT {X : Cx} {ρ : Rho} {e e2 : Expr} {es : List Expr} {k : Nat} (h : ED X ρ e (.bl true) k) (t : TD X ρ e true) (ne : ∀ pos, ∃ t, PE X (.BoolOp .Or (e2 :: es) pos) t) (nw : ∀ pos, ∃ t, PW X (.BoolOp .Or (e2 :: es) pos) t) : BoolCon X ρ .Or (e :: e2 :: es) true := by
  refine ⟨fun _ pos ow => ?_, fun _ pos ow => ?_, fun z => by cases z⟩
  . obtain ⟨t2, h2⟩ := ne pos
    refine PEimp (pe_or (h ow) h2) fun σ H Q ⟨E, q⟩ => ⟨E, fun v H1 s1 r1 => ?_⟩
    rw [Rep] at r1
    exact ⟨true, r1, by rw [if_pos rfl]; exact q _ H1 s1 (by rw [Rep])⟩
  . obtain ⟨t2, h2⟩ := nw pos
    intro wh pins s σ H Q I hq
    exact pw_or (t ow) h2 wh pins s σ H Q I ⟨hq.1, fun H1 s1 => by dsimp only; rw [if_pos rfl]; exact hq.2 H1 s1⟩
theorem pe_never {X : Cx} {e : Expr} : PE X e (fun _ _ _ => False) := fun _ _ _ _ _ _ h => h.elim
theorem pw_never {X : Cx} {e : Expr} : PW X e (fun _ _ _ => False) := fun _ _ _ _ _ _ _ h => h.elim
theorem beh {op : CmpOp} {b : Expr} {Φ : Fx} {sc : Scope} {ρ : Rho} {r : D × Nat} {it : Bool} {l : List Prop} (h : evE Φ b it sc ρ = .ok r l) : behindInMarks op b = false := by
  cases b <;> first | rfl | cases h
theorem locK_ne {sc : Scope} {x z : Str} (h : locK sc z = true) (hx : sc.names.lookup x = some .free) : x ≠ z := by
  intro e; subst e
  unfold locK at h
  rw [hx] at h
  revert h; decide
theorem bindNs_ext {sc : Scope} : ∀ {es : List Expr} {ds : List D} {ρ ρ' : Rho}, bindNs sc es ds ρ = some ρ' -> ∀ x y, sc.names.lookup x = some .free -> ρ x = some y -> ρ' x = some y := by
  intro es
  induction es with
  | nil =>
    intro ds ρ ρ' h x y hx hl
    cases ds with
    | nil => rw [bindNs] at h; cases h; exact hl
    | cons d ds => cases h
  | cons e es ih =>
    intro ds ρ ρ' h x y hx hl
    cases ds with
    | nil => cases e <;> cases h
    | cons d ds =>
      cases e with
      | Name z p =>
        rw [bindNs] at h
        split at h
        . rename_i hz
          exact ih h x y hx (by rw [lookup_putR, if_neg (locK_ne hz hx)]; exact hl)
        . cases h
      | _ => cases h
theorem bindG_ext {sc : Scope} {tg : Expr} {d : D} {ρ ρ' : Rho} (h : bindG sc tg d ρ = some ρ') : ∀ x y, sc.names.lookup x = some .free -> ρ x = some y -> ρ' x = some y := by
  intro x y hx hl
  unfold bindG at h
  split at h
  . split at h
    . rename_i hz
      cases h
      rw [lookup_putR, if_neg (locK_ne hz hx)]; exact hl
    . cases h
  . split at h
    . exact bindNs_ext h x y hx hl
    . cases h
  . cases h
theorem folded_of {Φ : Fx} {e : Expr} {it : Bool} {sc : Scope} {ρ : Rho} {r : D × Nat} {l : List Prop} {env : Env} (h : evE Φ e it sc ρ = .ok r l) (x : Value) : foldedSetIterable e env x = pure x := by
  cases e <;> first | rfl | cases h
mutual
theorem mrgD_t : ∀ x y : D, mrgD true x y = x
  | .int _, .int _ => rfl
  | .bl _, .bl _ => rfl
  | .tup l, .tup m => by
    show (if l.length = m.length then D.tup (mrgL true l m) else cond true (.tup l) (.tup m)) = .tup l
    split
    . rename_i h; rw [mrgL_t l m h]
    . rfl
  | .non, _ => rfl
  | .str _, _ => rfl
  | .emp, _ => rfl
  | .lst _, _ => rfl
  | .typ _, _ => rfl
  | .sn _, _ => rfl
  | .obj _ _ _, _ => rfl
  | .cls _, _ => rfl
  | .int _, .non => rfl
  | .int _, .bl _ => rfl
  | .int _, .str _ => rfl
  | .int _, .emp => rfl
  | .int _, .typ _ => rfl
  | .int _, .sn _ => rfl
  | .int _, .obj _ _ _ => rfl
  | .int _, .cls _ => rfl
  | .int _, .tup _ => rfl
  | .int _, .lst _ => rfl
  | .bl _, .non => rfl
  | .bl _, .int _ => rfl
  | .bl _, .str _ => rfl
  | .bl _, .emp => rfl
  | .bl _, .typ _ => rfl
  | .bl _, .sn _ => rfl
  | .bl _, .obj _ _ _ => rfl
  | .bl _, .cls _ => rfl
  | .bl _, .tup _ => rfl
  | .bl _, .lst _ => rfl
  | .tup _, .non => rfl
  | .tup _, .int _ => rfl
  | .tup _, .bl _ => rfl
  | .tup _, .str _ => rfl
  | .tup _, .emp => rfl
  | .tup _, .typ _ => rfl
  | .tup _, .sn _ => rfl
  | .tup _, .obj _ _ _ => rfl
  | .tup _, .cls _ => rfl
  | .tup _, .lst _ => rfl
theorem mrgL_t : ∀ l m : List D, l.length = m.length -> mrgL true l m = l
  | [], [], _ => rfl
  | x :: l, y :: m, h => by
    show mrgD true x y :: mrgL true l m = x :: l
    rw [mrgD_t x y, mrgL_t l m (by simpa using h)]
  | [], _ :: _, h => by cases h
  | _ :: _, [], h => by cases h
end
mutual
theorem mrgD_f : ∀ x y : D, mrgD false x y = y
  | .int _, .int _ => rfl
  | .bl _, .bl _ => rfl
  | .tup l, .tup m => by
    show (if l.length = m.length then D.tup (mrgL false l m) else cond false (.tup l) (.tup m)) = .tup m
    split
    . rename_i h; rw [mrgL_f l m h]
    . rfl
  | .non, _ => rfl
  | .str _, _ => rfl
  | .emp, _ => rfl
  | .lst _, _ => rfl
  | .typ _, _ => rfl
  | .sn _, _ => rfl
  | .obj _ _ _, _ => rfl
  | .cls _, _ => rfl
  | .int _, .non => rfl
  | .int _, .bl _ => rfl
  | .int _, .str _ => rfl
  | .int _, .emp => rfl
  | .int _, .typ _ => rfl
  | .int _, .sn _ => rfl
  | .int _, .obj _ _ _ => rfl
  | .int _, .cls _ => rfl
  | .int _, .tup _ => rfl
  | .int _, .lst _ => rfl
  | .bl _, .non => rfl
  | .bl _, .int _ => rfl
  | .bl _, .str _ => rfl
  | .bl _, .emp => rfl
  | .bl _, .typ _ => rfl
  | .bl _, .sn _ => rfl
  | .bl _, .obj _ _ _ => rfl
  | .bl _, .cls _ => rfl
  | .bl _, .tup _ => rfl
  | .bl _, .lst _ => rfl
  | .tup _, .non => rfl
  | .tup _, .int _ => rfl
  | .tup _, .bl _ => rfl
  | .tup _, .str _ => rfl
  | .tup _, .emp => rfl
  | .tup _, .typ _ => rfl
  | .tup _, .sn _ => rfl
  | .tup _, .obj _ _ _ => rfl
  | .tup _, .cls _ => rfl
  | .tup _, .lst _ => rfl
theorem mrgL_f : ∀ l m : List D, l.length = m.length -> mrgL false l m = m
  | [], [], _ => rfl
  | x :: l, y :: m, h => by
    show mrgD false x y :: mrgL false l m = y :: m
    rw [mrgD_f x y, mrgL_f l m (by simpa using h)]
  | [], _ :: _, h => by cases h
  | _ :: _, [], h => by cases h
end
theorem kIf_t {k j : Nat} : kIf true k j = k := by unfold kIf; split <;> rfl
theorem kIf_f {k j : Nat} : kIf false k j = j := by
  unfold kIf; split
  . assumption
  . rfl
theorem ifR_inv {t : Bool} {r s : R1} {d : D × Nat} {l : List Prop} (h : ifR t r s = .ok d l) (hp : allP l) : ∃ m, (if t = true then r else s) = .ok d m /\ allP m := by
  unfold ifR at h
  split at h
  . cases t with
    | true => cases h
    | false => exact ⟨l, h, hp⟩
  . rename_i p m
    split at h
    . cases t with
      | true => exact ⟨l, h, hp⟩
      | false => cases h
    . rename_i q n
      cases h
      obtain ⟨p1, p2⟩ := allP_append.mp hp
      cases t with
      | true => exact ⟨m, by rw [mrgD_t, kIf_t]; rfl, gd_inv p1 rfl⟩
      | false => exact ⟨n, by rw [mrgD_f, kIf_f]; rfl, gd_inv p2 rfl⟩
theorem blR_inv {α : Type} {p : D × Nat} {f : Bool -> Rs α} {a : α} {l : List Prop} (h : blR p f = .ok a l) : ∃ b, p.1 = .bl b /\ f b = .ok a l := by
  unfold blR at h
  split at h
  . rename_i b e; exact ⟨b, e, h⟩
  . cases h
theorem intR_inv {p : D × Nat} {f : Int -> R1} {a : D × Nat} {l : List Prop} (h : intR p f = .ok a l) : ∃ b, p.1 = .int b /\ f b = .ok a l := by
  unfold intR at h
  split at h
  . rename_i b e; exact ⟨b, e, h⟩
  . cases h
structure Ih (Φ : Fx) (n : Nat) : Prop where
  e : ∀ (e : Expr) {it : Bool} {sc : Scope} {ρ : Rho} {p : D × Nat} {l : List Prop} {X : Cx}, sizeOf e < n -> evE Φ e it sc ρ = .ok p l -> allP l -> Good Φ X sc -> Con X ρ e it p.1 p.2
  es : ∀ (es : List Expr) {sc : Scope} {ρ : Rho} {p : List D × Nat} {l : List Prop} {X : Cx}, sizeOf es < n -> evEs Φ es sc ρ = .ok p l -> allP l -> Good Φ X sc -> AD X ρ es p.1 p.2
  b : ∀ (op : BoolOp) (es : List Expr) {sc : Scope} {ρ : Rho} {b : Bool} {l : List Prop} {X : Cx}, sizeOf es < n -> evB Φ op es sc ρ = .ok b l -> allP l -> Good Φ X sc -> BoolCon X ρ op es b
  o : ∀ (e : Option Expr) {sc : Scope} {ρ : Rho} {o : Option Int} {l : List Prop} {X : Cx}, sizeOf e < n -> evO Φ e sc ρ = .ok o l -> allP l -> Good Φ X sc -> OD X ρ e o
theorem szE {a b n : Nat} (h : a < b) (hs : b < n + 1) : a < n := Nat.lt_of_lt_of_le h (Nat.le_of_lt_succ hs)
section
variable {Φ : Fx} {n : Nat} {it : Bool} {sc : Scope} {ρ : Rho} {r : D × Nat} {l : List Prop} {X : Cx}
theorem st_name {x : Str} {pos : Pos} (h : nameD Φ x sc ρ = .ok r l) (G : Good Φ X sc) : Con X ρ (.Name x pos) it r.1 r.2 := by
  unfold nameD at h
  split at h
  . rename_i hx
    split at h
    . rename_i hg
      split at h
      . rename_i d hd; cases h; exact con_plain (ed_con G hd hg hx) (fun _ => rfl)
      . split at h
        . rename_i T hT; cases h; exact con_plain (ed_typ G hT hg) (fun _ => rfl)
        . cases h
    . split at h
      . rename_i p hl
        unfold mk at h; cases h
        exact con_plain (ed_name (o := p.2) hl hx) (fun _ => rfl)
      . cases h
  . cases h
theorem st_bin (I : Ih Φ n) {a b : Expr} {op : Operator} {pos : Pos} (hs : sizeOf (Expr.BinOp a op b pos) < n + 1) (h : evE Φ (.BinOp a op b pos) it sc ρ = .ok r l) (hp : allP l) (G : Good Φ X sc) : Con X ρ (.BinOp a op b pos) it r.1 r.2 := by
  obtain ⟨p, l1, l2, h1, p1, h, p2⟩ := bnd_inv (show Rs.bnd _ _ = _ from h) hp
  obtain ⟨q, l3, l4, h2, p3, h, p4⟩ := bnd_inv h p2
  exact con_plain (ed_bin ((I.e a (szE (by simp <;> omega) hs) h1 p1 G).ed rfl) ((I.e b (szE (by simp <;> omega) hs) h2 p3 G).ed rfl) h p4) (fun _ => rfl)
theorem st_un (I : Ih Φ n) {a : Expr} {op : UnaryOp} {pos : Pos} (hs : sizeOf (Expr.UnaryOp op a pos) < n + 1) (h : evE Φ (.UnaryOp op a pos) it sc ρ = .ok r l) (hp : allP l) (G : Good Φ X sc) : Con X ρ (.UnaryOp op a pos) it r.1 r.2 := by
  obtain ⟨p, l1, l2, h1, p1, h, p2⟩ := bnd_inv (show Rs.bnd _ _ = _ from h) hp
  split at h
  . rename_i z hu
    cases h
    have c := I.e a (szE (by simp <;> omega) hs) h1 p1 G
    refine .of (ed_un (c.ed rfl) hu) fun b hb => ?_
    have hb : z = .bl b := hb
    subst hb
    unfold unD at hu
    split at hu
    . cases hu
    . rename_i e; cases hu; exact td_not (c.td rfl _ e)
    . cases hu
  . cases h
theorem st_cmp (I : Ih Φ n) {a b : Expr} {op : CmpOp} {pos : Pos} (hs : sizeOf (Expr.Compare a [op] [b] pos) < n + 1) (h : evE Φ (.Compare a [op] [b] pos) it sc ρ = .ok r l) (hp : allP l) (G : Good Φ X sc) : Con X ρ (.Compare a [op] [b] pos) it r.1 r.2 := by
  obtain ⟨p, l1, l2, h1, p1, h, p2⟩ := bnd_inv (show Rs.bnd _ _ = _ from h) hp
  obtain ⟨q, l3, l4, h2, p3, h, p4⟩ := bnd_inv h p2
  obtain ⟨z, l5, l6, hc, p5, h, p6⟩ := bnd_inv h p4
  cases h
  have ca := (I.e a (szE (by simp <;> omega) hs) h1 p1 G).ed rfl
  have cb := (I.e b (szE (by simp <;> omega) hs) h2 p3 G).ed rfl
  exact .of (ed_cmp G.room ca cb hc p5 (beh h2)) fun b' hb' => by cases hb'; exact td_cmp G.room ca cb hc p5 (beh h2)
theorem st_chain (I : Ih Φ n) {a b c : Expr} {op op2 : CmpOp} {pos : Pos} (hs : sizeOf (Expr.Compare a [op, op2] [b, c] pos) < n + 1) (h : evE Φ (.Compare a [op, op2] [b, c] pos) it sc ρ = .ok r l) (hp : allP l) (G : Good Φ X sc) : Con X ρ (.Compare a [op, op2] [b, c] pos) it r.1 r.2 := by
  obtain ⟨p, l1, l2, h1, p1, h, p2⟩ := bnd_inv (show Rs.bnd _ _ = _ from h) hp
  obtain ⟨q, l3, l4, h2, p3, h, p4⟩ := bnd_inv h p2
  obtain ⟨t, l5, l6, h3, p5, h, p6⟩ := bnd_inv h p4
  obtain ⟨x, y, z, r1, r2, e1, e2, e3, k1, k2, rfl⟩ := chD_inv h
  have ca := (I.e a (szE (by simp <;> omega) hs) h1 p1 G).ed rfl
  have cb := (I.e b (szE (by simp <;> omega) hs) h2 p3 G).ed rfl
  have cc := (I.e c (szE (by simp <;> omega) hs) h3 p5 G).ed rfl
  rw [e1] at ca
  rw [e2] at cb
  rw [e3] at cc
  exact .of (ed_chain G.room ca cb cc k1 k2 (beh h3)) fun b' hb' => by cases hb'; exact td_chain G.room ca cb cc k1 k2 (beh h3)
theorem st_if (I : Ih Φ n) {c a b : Expr} {pos : Pos} (hs : sizeOf (Expr.IfExp c a b pos) < n + 1) (h : evE Φ (.IfExp c a b pos) it sc ρ = .ok r l) (hp : allP l) (G : Good Φ X sc) : Con X ρ (.IfExp c a b pos) it r.1 r.2 := by
  obtain ⟨p, l1, l2, h1, p1, h, p2⟩ := bnd_inv (show Rs.bnd _ _ = _ from h) hp
  obtain ⟨t, ht, h⟩ := blR_inv h
  obtain ⟨m, he, hm⟩ := ifR_inv h p2
  have hc := (I.e c (szE (by simp <;> omega) hs) h1 p1 G).td rfl t ht
  cases t with
  | true =>
    rw [if_pos rfl] at he
    have ha := I.e a (szE (by simp <;> omega) hs) he hm G
    refine .of (ed_if hc (by rw [if_pos rfl]; exact ha.ed rfl)) fun b' hb' => ?_
    intro ow pins s σ H Q I ⟨E, q⟩
    refine isTrue_IfExp (thn (hc ow pins s σ H (fun t H1 => t = true /\ Same H H1) I ⟨E, fun H1 s1 => ⟨rfl, s1⟩⟩) fun t s1 ⟨H1, I1, e1, s1'⟩ => ?_)
    subst e1
    exact ha.td rfl b' hb' ow pins s1 σ H1 Q I1 ⟨E.same s1', fun H2 s2 => q H2 (s1'.trans s2)⟩
  | false =>
    rw [if_neg Bool.false_ne_true] at he
    have hb := I.e b (szE (by simp <;> omega) hs) he hm G
    refine .of (ed_if hc (by rw [if_neg Bool.false_ne_true]; exact hb.ed rfl)) fun b' hb' => ?_
    intro ow pins s σ H Q I ⟨E, q⟩
    refine isTrue_IfExp (thn (hc ow pins s σ H (fun t H1 => t = false /\ Same H H1) I ⟨E, fun H1 s1 => ⟨rfl, s1⟩⟩) fun t s1 ⟨H1, I1, e1, s1'⟩ => ?_)
    subst e1
    exact hb.td rfl b' hb' ow pins s1 σ H1 Q I1 ⟨E.same s1', fun H2 s2 => q H2 (s1'.trans s2)⟩
theorem plainIx_of {Φ : Fx} {e : Expr} {it : Bool} {sc : Scope} {ρ : Rho} {r : D × Nat} {l : List Prop} (h : evE Φ e it sc ρ = .ok r l) : PlainIx e := by
  cases e <;> first | (intro _ _; rfl) | cases h
theorem st_ix (I : Ih Φ n) {a i : Expr} {pos : Pos} (hs : sizeOf (Expr.Subscript a i pos) < n + 1) (h : ((evE Φ a false sc ρ).bnd fun p => (evE Φ i false sc ρ).bnd fun q => intR q fun j => ixD p.1 j p.2) = .ok r l) (hp : allP l) (G : Good Φ X sc) : Con X ρ (.Subscript a i pos) it r.1 r.2 := by
  obtain ⟨p, l1, l2, h1, p1, h, p2⟩ := bnd_inv h hp
  obtain ⟨q, l3, l4, h2, p3, h, p4⟩ := bnd_inv h p2
  obtain ⟨j, hj, h⟩ := intR_inv h
  have c2 := (I.e i (szE (by simp <;> omega) hs) h2 p3 G).ed rfl
  rw [hj] at c2
  exact con_plain (ed_ix ((I.e a (szE (by simp <;> omega) hs) h1 p1 G).ed rfl) c2 (plainIx_of h2) h) (fun _ => rfl)
theorem st_slice (I : Ih Φ n) {a : Expr} {lo hi : Option Expr} {p2 pos : Pos} (hs : sizeOf (Expr.Subscript a (.Slice lo hi none p2) pos) < n + 1) (h : evE Φ (.Subscript a (.Slice lo hi none p2) pos) it sc ρ = .ok r l) (hp : allP l) (G : Good Φ X sc) : Con X ρ (.Subscript a (.Slice lo hi none p2) pos) it r.1 r.2 := by
  obtain ⟨p, l1, l2, h1, p1, h, q2⟩ := bnd_inv (show Rs.bnd _ _ = _ from h) hp
  obtain ⟨q, l3, l4, h2, p3, h, p4⟩ := bnd_inv h q2
  obtain ⟨q', l5, l6, h3, p5, h, p6⟩ := bnd_inv h p4
  exact con_plain (G.slf X ρ a lo hi p2 pos p.1 r.1 q q' p.2 r.2 l6 ((I.e a (szE (by simp <;> omega) hs) h1 p1 G).ed rfl) (I.o lo (szE (by simp <;> omega) hs) h2 p3 G) (I.o hi (szE (by simp <;> omega) hs) h3 p5 G) h p6) (fun _ => rfl)
theorem st_sub (I : Ih Φ n) {a i : Expr} {pos : Pos} (hs : sizeOf (Expr.Subscript a i pos) < n + 1) (h : evE Φ (.Subscript a i pos) it sc ρ = .ok r l) (hp : allP l) (G : Good Φ X sc) : Con X ρ (.Subscript a i pos) it r.1 r.2 := by
  cases i with
  | Slice lo hi st p2 =>
    cases st with
    | none => exact st_slice I hs h hp G
    | some e => exact st_ix I hs h hp G
  | _ => exact st_ix I hs h hp G
theorem st_call (I : Ih Φ n) {f : Str} {p pos : Pos} {args : List Expr} (hs : sizeOf args < n) (hf : sc.names.lookup f = some .globalImplicit) (h0 : ((evEs Φ args sc ρ).bnd fun p => callD Φ f it p.1 p.2) = .ok r l) (hp : allP l) (G : Good Φ X sc) : Con X ρ (.Call (.Name f p) args [] pos) it r.1 r.2 := by
  obtain ⟨q, l1, l2, h1, p1, h, p2⟩ := bnd_inv h0 hp
  clear h0
  have ha := I.es args hs h1 p1 G
  obtain ⟨hst, hlen⟩ := evEs_nostar h1 p1
  unfold callD at h
  split at h
  . rename_i F hF
    obtain ⟨d, l3, l4, h2, p3, h, p4⟩ := bnd_inv h p2
    cases h
    exact con_plain (ed_call G hF hf ha hst (fun z => by subst z; exact List.length_eq_zero_iff.mp hlen.symm) h2 p3) (fun _ => rfl)
  . split at h
    . rename_i B hB
      split at hB
      . rename_i hit
        have hI := G.itr f B hB
        refine ⟨fun z => (by rw [hit] at z; cases z), fun z => (by rw [hit] at z; cases z), fun _ tg l' hl ht => ?_⟩
        exact hI.2 X ρ p pos args q.1 q.2 r.1 r.2 l' tg l2 G.calm (G.gl f hf) (G.bl f hI.1) ha hst hlen h p2 hl ht
      . cases hB
    . split at h
      . rename_i B hB
        have hb := G.blt f B hB
        cases args with
        | nil =>
          have e0 : q.1 = [] := List.length_eq_zero_iff.mp hlen.symm
          rw [e0, hb.2.2.2.1] at h; cases h
        | cons e es => exact con_plain (ed_blt G hb hf ha hst h p2) (fun _ => rfl)
      . cases h
theorem st_callN (I : Ih Φ n) {f : Str} {p pos : Pos} {args : List Expr} (hs : sizeOf (Expr.Call (.Name f p) args [] pos) < n + 1) (h : evE Φ (.Call (.Name f p) args [] pos) it sc ρ = .ok r l) (hp : allP l) (G : Good Φ X sc) : Con X ρ (.Call (.Name f p) args [] pos) it r.1 r.2 := by
  rw [evE_calN] at h
  split at h
  . rename_i hf
    exact st_call I (szE (by simp <;> omega) hs) hf h hp G
  . cases h
theorem st_callA (I : Ih Φ n) {a : Expr} {m : Str} {ap pos : Pos} {args : List Expr} (hs : sizeOf (Expr.Call (.Attribute a m ap) args [] pos) < n + 1) (h : evE Φ (.Call (.Attribute a m ap) args [] pos) it sc ρ = .ok r l) (hp : allP l) (G : Good Φ X sc) : Con X ρ (.Call (.Attribute a m ap) args [] pos) it r.1 r.2 := by
  rw [evE_calA] at h
  split at h
  . rename_i hln
    obtain ⟨p, l1, l2, h1, p1, h, p2⟩ := bnd_inv h hp
    obtain ⟨q, l3, l4, h2, p3, h, p4⟩ := bnd_inv h p2
    obtain ⟨hst, hlen⟩ := evEs_nostar h2 p3
    have hea := (I.e a (szE (by simp <;> omega) hs) h1 p1 G).ed rfl
    have hes := I.es args (szE (by simp <;> omega) hs) h2 p3 G
    obtain ⟨x, kx⟩ := p
    unfold mthD at h
    dsimp only at h hea
    split at h
    . rename_i n ns es
      split at h
      . rename_i hc
        split at h
        . rename_i F hF
          obtain ⟨d, l5, l6, h3, p5, h, p6⟩ := bnd_inv h p4
          cases h
          exact con_plain (ed_meth G hF hea hes hst hlen hc.1 hc.2.1 hc.2.2 hln h3 p5) (fun _ => rfl)
        . cases h
      . cases h
    . split at h
      . rename_i hb
        split at h
        . rename_i M hM
          exact con_plain (G.mth m M hM X ρ a args ap pos x kx q.1 q.2 r.1 r.2 l4 G.calm G.room hea hes hst hlen hln hb h p4) (fun _ => rfl)
        . cases h
      . cases h
  . cases h
theorem turn_of {elt tg : Expr} {ifs : List Expr} {scope : Scope} {ds : List D} {q : List D × Nat} {m : List Prop} (hE : ∀ {ρ : Rho} {p : D × Nat} {l : List Prop} {X : Cx}, evE Φ elt false scope ρ = .ok p l -> allP l -> Good Φ X scope -> Con X ρ elt false p.1 p.2)
    (hB : ∀ {ρ : Rho} {b : Bool} {l : List Prop} {X : Cx}, evB Φ .And ifs scope ρ = .ok b l -> allP l -> Good Φ X scope -> BoolCon X ρ .And ifs b) (hc : cOk sc scope = true) (G : Good Φ X sc)
    (h : compD (fun d => match bindG scope tg d (flt scope ρ) with
            | none => .st
            | some ρ' => (evB Φ .And ifs scope ρ').bnd fun b => cond b ((evE Φ elt false scope ρ').bnd fun r => .ok (some r) []) (.ok none [])) ds = .ok q m) (hp : allP m) (hj : q.2 <= 1) :
    ∃ f : D -> Option D, q.1 = ds.filterMap f /\ ∀ cl C s H fp, ∀ d ∈ ds, TurnD (inX X scope cl C (scope.names.map (·.1)) s H fp) (flt scope ρ) tg ifs elt q.2 d (f d) := by
  generalize hst : (fun d => match bindG scope tg d (flt scope ρ) with
            | none => .st
            | some ρ' => (evB Φ .And ifs scope ρ').bnd fun b => cond b ((evE Φ elt false scope ρ').bnd fun r => .ok (some r) []) (.ok none []) : D -> Rs (Option (D × Nat))) = step at h
  obtain ⟨c1, c2, c3⟩ := compD_ok h hp
  refine ⟨_, c2, fun cl C s H fp d hd => ?_⟩
  have G' := good_in (cl := cl) (C := C) (s := s) (H := H) (fp := fp) G hc
  obtain ⟨x, lx, hx, px⟩ := c1 d hd
  have c3 := c3 hj d hd
  have hs := congrFun hst d
  unfold outOf
  rw [hx]
  split at hs
  . rw [<- hs] at hx; cases hx
  . rename_i ρ' hb
    have gd := gd_of G' hb
    have ext : ∀ x y, flt scope ρ x = some y -> ρ' x = some y := fun x y hxy => bindG_ext hb x y (flt_look hxy).2 hxy
    have hx0 := hx
    rw [<- hs] at hx
    obtain ⟨b, l3, l4, h2, p3, hx, p4⟩ := bnd_inv hx px
    have ts := (hB h2 p3 G').ts rfl
    cases b with
    | false =>
      cases hx
      exact ⟨ρ', false, gd, ext, ts, rfl⟩
    | true =>
      rw [cond_true] at hx
      obtain ⟨z, l5, l6, h3, p5, hx, p6⟩ := bnd_inv hx p4
      cases hx
      exact ⟨ρ', true, gd, ext, ts, rfl, ((hE h3 p5 G').ed rfl).up (c3 z lx hx0) hj⟩
theorem st_comp (I : Ih Φ n) {elt tg iter : Expr} {ifs : List Expr} {scope : Scope} {pos : Pos} (hs : sizeOf (Expr.ListComp elt [⟨tg, iter, ifs, 0⟩] scope pos) < n + 1) (h : evE Φ (.ListComp elt [⟨tg, iter, ifs, 0⟩] scope pos) it sc ρ = .ok r l) (hp : allP l) (G : Good Φ X sc) :
    ∃ ds f k, (llessL ds = true \/ k <= 1) /\ r.2 <= 1 /\ ds.length < sizeLine /\ CScope X.env scope (scope.names.map (·.1)) /\ (∀ x d o, flt scope ρ x = some (d, o) -> x ∈ scope.names.map (·.1)) /\ IE X ρ tg iter ds k /\
      (∀ cl C s H fp, ∀ d ∈ ds, TurnD (inX X scope cl C (scope.names.map (·.1)) s H fp) (flt scope ρ) tg ifs elt r.2 d (f d)) /\ (∀ x, foldedSetIterable iter X.env x = pure x) /\ r.1 = .lst (ds.filterMap f) := by
  rw [evE_cmp] at h
  split at h
  . rename_i hc
    obtain ⟨p, l1, l2, h1, p1, h, p2⟩ := bnd_inv h hp
    split at h
    . rename_i ds hd
      split at h
      . rename_i ht
        obtain ⟨u0, l7, l8, h7, p7, h, p8⟩ := bnd_inv h p2
        cases h7
        have hl := And.intro p7.1 p7.2.1
        obtain ⟨q, l3, l4, h2, p3, h, p4⟩ := bnd_inv h p8
        split at h
        . rename_i hj
          cases h
          obtain ⟨f, e1, t⟩ := turn_of (fun a b c => I.e elt (by first | omega | (simp at *; omega)) a b c) (fun a b c => I.b .And ifs (by first | omega | (simp at *; omega)) a b c) hc G h2 p3 hj
          refine ⟨ds, f, p.2, hl.2, hj, Nat.lt_of_le_of_lt hl.1 manyLine', cscope_of G hc, fun x d o hx => lookup_mem (flt_look hx).2, (I.e iter (by first | omega | (simp at *; omega)) h1 p1 G).ie rfl tg ds hd ht, t, folded_of h1, by rw [e1]⟩
        . cases h
      . cases h
    . cases h
  . cases h
theorem gens_eq {elt : Expr} {gens : List Comprehension} {scope : Scope} {pos : Pos} (h : evE Φ (.ListComp elt gens scope pos) it sc ρ = .ok r l) : ∃ tg iter ifs, gens = [⟨tg, iter, ifs, 0⟩] := by
  match gens, h with
  | [⟨tg, iter, ifs, 0⟩], h => exact ⟨_, _, _, rfl⟩
  | [], h => cases h
  | ⟨_, _, _, .ofNat (n + 1)⟩ :: r, h => cases r <;> cases h
  | ⟨_, _, _, .negSucc n⟩ :: _, h => cases h
  | ⟨_, _, _, 0⟩ :: _ :: _, h => cases h
theorem ev_st (I : Ih Φ n) (e : Expr) (hs : sizeOf e < n + 1) (h : evE Φ e it sc ρ = .ok r l) (hp : allP l) (G : Good Φ X sc) : Con X ρ e it r.1 r.2 := by
  cases e with
  | Constant c k p =>
    replace h : (match cst c with | some d => .ok (d, 0) [] | none => .st : R1) = .ok r l := h
    split at h
    . rename_i d hc; cases h; exact con_plain (ed_cst hc) (fun _ => rfl)
    . cases h
  | Name x p => exact st_name h G
  | BinOp a op b p => exact st_bin I hs h hp G
  | UnaryOp op a p => exact st_un I hs h hp G
  | BoolOp op es p =>
    rw [evE_bop] at h
    split at h
    . cases h
    . rename_i hne
      obtain ⟨b, l1, l2, h1, p1, h, p2⟩ := bnd_inv h hp
      cases h
      have ne : es ≠ [] := fun z => hne (by rw [z]; rfl)
      have c := I.b op es (szE (by simp <;> omega) hs) h1 p1 G
      exact .of (c.ed ne p) fun b' hb' => by cases hb'; exact fun ow => (c.tw ne p ow).pt
  | Compare a ops bs p =>
    match ops, bs, hs, h with
    | [op], [b], hs, h => exact st_cmp I hs h hp G
    | [], bs, _, h => cases h
    | [op], [], _, h => cases h
    | [op], _ :: _ :: _, _, h => cases h
    | [op, op2], [b, c], hs, h => exact st_chain I hs h hp G
    | [_, _], [], _, h => cases h
    | [_, _], [_], _, h => cases h
    | [_, _], _ :: _ :: _ :: _, _, h => cases h
    | _ :: _ :: _ :: _, bs, _, h => cases h
  | IfExp c a b p => exact st_if I hs h hp G
  | Tuple es k p =>
    obtain ⟨q, l1, l2, h1, p1, h, p2⟩ := bnd_inv (show Rs.bnd _ _ = _ from h) hp
    split at h
    . rename_i hl
      unfold mk at h; cases h
      exact con_plain (ed_tuple (I.es es (szE (by simp <;> omega) hs) h1 p1 G) hl) (fun _ => rfl)
    . cases h
  | List es p =>
    obtain ⟨q, l1, l2, h1, p1, h, p2⟩ := bnd_inv (show Rs.bnd _ _ = _ from h) hp
    split at h
    . rename_i hl
      cases h
      exact con_plain (ed_list (I.es es (szE (by simp <;> omega) hs) h1 p1 G) hl.2 hl.1) (fun _ => rfl)
    . cases h
  | Attribute a f p =>
    cases a with
    | Name x pn =>
      obtain ⟨q, l1, l2, h1, p1, h, p2⟩ := bnd_inv (show Rs.bnd _ _ = _ from h) hp
      have hea := (I.e (.Name x pn) (szE (by simp <;> omega) hs) (it := false) h1 p1 G).ed rfl
      obtain ⟨d, kd⟩ := q
      unfold fldD at h
      dsimp only at h hea
      split at h
      . rename_i n ns ds
        split at h
        . rename_i hf
          split at h
          . rename_i e hl
            cases h
            exact con_plain (ed_fld G hf hea rfl hl) (fun _ => rfl)
          . cases h
        . cases h
      . cases h
    | _ => cases h
  | Dict ks vs p =>
    match ks, vs, h with
    | [], [], h => cases h
    | _ :: _, _, h => cases h
    | [], _ :: _, h => cases h
  | Subscript a i p => exact st_sub I hs h hp G
  | Call f args kws p =>
    cases f with
    | Name f fp =>
      cases kws with
      | nil => exact st_callN I hs h hp G
      | cons _ _ => cases h
    | Attribute a m ap =>
      cases kws with
      | nil => exact st_callA I hs h hp G
      | cons _ _ => cases h
    | _ => cases h
  | ListComp elt gens scope p =>
    obtain ⟨tg, iter, ifs, rfl⟩ := gens_eq h
    obtain ⟨ds, f, k, a1, a2, a3, a4, a5, a6, a7, a8, a9⟩ := st_comp I hs h hp G
    rw [a9]
    exact con_plain (ed_comp G.calm G.nd a1 a2 a3 a4 a5 a6 a7 a8) (fun _ => rfl)
  | _ => cases h
theorem evs_st (I : Ih Φ n) (es : List Expr) {r : List D × Nat} (hs : sizeOf es < n + 1) (h : evEs Φ es sc ρ = .ok r l) (hp : allP l) (G : Good Φ X sc) : AD X ρ es r.1 r.2 := by
  cases es with
  | nil => cases h; exact ad_nil
  | cons e es =>
    obtain ⟨p, l1, l2, h1, p1, h, p2⟩ := bnd_inv (show Rs.bnd _ _ = _ from h) hp
    obtain ⟨q, l3, l4, h2, p3, h, p4⟩ := bnd_inv h p2
    cases h
    exact ad_cons ((I.e e (szE (by simp <;> omega) hs) h1 p1 G).ed rfl) (I.es es (szE (by simp <;> omega) hs) h2 p3 G) (nostar_one (evE_nostar h1))
theorem andR_inv {b c : Bool} {r : Rs Bool} {l : List Prop} (h : andR b r = .ok c l) (hp : allP l) : (b = true /\ ∃ m, r = .ok c m /\ allP m) \/ (b = false /\ c = false) := by
  unfold andR at h
  split at h
  . rename_i c' m
    cases h
    cases b with
    | true => exact .inl ⟨rfl, m, rfl, gd_inv hp rfl⟩
    | false => exact .inr ⟨rfl, rfl⟩
  . cases b with
    | true => cases h
    | false => cases h; exact .inr ⟨rfl, rfl⟩
theorem orR_inv {b c : Bool} {r : Rs Bool} {l : List Prop} (h : orR b r = .ok c l) (hp : allP l) : (b = false /\ ∃ m, r = .ok c m /\ allP m) \/ (b = true /\ c = true) := by
  unfold orR at h
  split at h
  . rename_i c' m
    cases h
    cases b with
    | false => exact .inl ⟨rfl, m, rfl, gd_inv hp rfl⟩
    | true => exact .inr ⟨rfl, rfl⟩
  . cases b with
    | false => cases h
    | true => cases h; exact .inr ⟨rfl, rfl⟩
theorem evb_st (I : Ih Φ n) (op : BoolOp) (es : List Expr) {b : Bool} (hs : sizeOf es < n + 1) (h : evB Φ op es sc ρ = .ok b l) (hp : allP l) (G : Good Φ X sc) : BoolCon X ρ op es b := by
  cases es with
  | nil =>
    cases op with
    | And => cases h; exact ⟨fun z => absurd rfl z, fun z => absurd rfl z, fun _ => ts_nil⟩
    | Or => cases h; exact ⟨fun z => absurd rfl z, fun z => absurd rfl z, fun z => (by cases z)⟩
  | cons e es =>
    cases op with
    | And =>
      obtain ⟨p, l1, l2, h1, p1, h, p2⟩ := bnd_inv (show Rs.bnd _ _ = _ from h) hp
      obtain ⟨b', hb, h⟩ := blR_inv h
      have c := I.e e (szE (by simp <;> omega) hs) h1 p1 G
      have ce := c.ed rfl
      rw [hb] at ce
      have ct := c.td rfl b' hb
      rcases andR_inv h p2 with ⟨rfl, m, h, pm⟩ | ⟨rfl, rfl⟩
      . cases es with
        | nil => cases h; exact boolCon_one ce ct
        | cons e2 es => exact boolCon_and ce ct (I.b .And (e2 :: es) (szE (by simp <;> omega) hs) h pm G)
      . cases es with
        | nil => exact boolCon_one ce ct
        | cons e2 es => exact boolCon_andF ce ct (fun pos => ⟨_, pe_never⟩) (fun pos => ⟨_, pw_never⟩)
    | Or =>
      obtain ⟨p, l1, l2, h1, p1, h, p2⟩ := bnd_inv (show Rs.bnd _ _ = _ from h) hp
      obtain ⟨b', hb, h⟩ := blR_inv h
      have c := I.e e (szE (by simp <;> omega) hs) h1 p1 G
      have ce := c.ed rfl
      rw [hb] at ce
      have ct := c.td rfl b' hb
      rcases orR_inv h p2 with ⟨rfl, m, h, pm⟩ | ⟨rfl, rfl⟩
      . cases es with
        | nil => cases h; exact boolCon_one ce ct
        | cons e2 es => exact boolCon_or ce ct (I.b .Or (e2 :: es) (szE (by simp <;> omega) hs) h pm G)
      . cases es with
        | nil => exact boolCon_one ce ct
        | cons e2 es => exact boolCon_orT ce ct (fun pos => ⟨_, pe_never⟩) (fun pos => ⟨_, pw_never⟩)
theorem evo_st (I : Ih Φ n) (e : Option Expr) {o : Option Int} (hs : sizeOf e < n + 1) (h : evO Φ e sc ρ = .ok o l) (hp : allP l) (G : Good Φ X sc) : OD X ρ e o := by
  cases e with
  | none => cases h; exact od_none
  | some e =>
    obtain ⟨p, l1, l2, h1, p1, h, p2⟩ := bnd_inv (show Rs.bnd _ _ = _ from h) hp
    have c := (I.e e (szE (by simp <;> omega) hs) h1 p1 G).ed rfl
    split at h
    . rename_i i hi
      cases h
      rw [hi] at c
      exact od_some c
    . cases h
end
theorem ih_all (Φ : Fx) : ∀ n, Ih Φ n
  | 0 => ⟨fun _ _ _ _ _ _ _ h => absurd h (Nat.not_lt_zero _), fun _ _ _ _ _ _ h => absurd h (Nat.not_lt_zero _), fun _ _ _ _ _ _ _ h => absurd h (Nat.not_lt_zero _), fun _ _ _ _ _ _ h => absurd h (Nat.not_lt_zero _)⟩
  | n + 1 => ⟨fun e _ _ _ _ _ _ hs h hp G => ev_st (ih_all Φ n) e hs h hp G, fun e _ _ _ _ _ hs h hp G => evs_st (ih_all Φ n) e hs h hp G, fun op e _ _ _ _ _ hs h hp G => evb_st (ih_all Φ n) op e hs h hp G, fun e _ _ _ _ _ hs h hp G => evo_st (ih_all Φ n) e hs h hp G⟩
theorem ev_ok {Φ : Fx} (e : Expr) {it : Bool} {sc : Scope} {ρ : Rho} {p : D × Nat} {l : List Prop} {X : Cx} (h : evE Φ e it sc ρ = .ok p l) (hp : allP l) (G : Good Φ X sc) : Con X ρ e it p.1 p.2 := (ih_all Φ _).e e (Nat.lt_succ_self _) h hp G
theorem evs_ok {Φ : Fx} (es : List Expr) {sc : Scope} {ρ : Rho} {p : List D × Nat} {l : List Prop} {X : Cx} (h : evEs Φ es sc ρ = .ok p l) (hp : allP l) (G : Good Φ X sc) : AD X ρ es p.1 p.2 := (ih_all Φ _).es es (Nat.lt_succ_self _) h hp G
end Sp
set_option Elab.async false
set_option linter.all false
set_option maxRecDepth 100000
namespace Sp
open PySem PySem.Spec PyProof.Rows L2
structure Keep (ow : Ow) (H : Hp) (ow' : Ow) (H' : Hp) : Prop where
  keep : ∀ a o, H a = some o -> ((∀ vs, o ≠ .lst vs) \/ ow a = none) -> H' a = some o
  low : ∀ a o, H a = some o -> ow a = none -> ow' a = none
theorem Keep.refl (ow : Ow) (H : Hp) : Keep ow H ow H := ⟨fun _ _ h _ => h, fun _ _ _ h => h⟩
theorem Keep.same {ow : Ow} {H H' : Hp} (s : Same H H') : Keep ow H ow H' := ⟨fun a o h _ => s a o h, fun _ _ _ h => h⟩
theorem Keep.trans {ow ow1 ow2 : Ow} {H H1 H2 : Hp} (a : Keep ow H ow1 H1) (b : Keep ow1 H1 ow2 H2) : Keep ow H ow2 H2 :=
  ⟨fun x o h c => b.keep x o (a.keep x o h c) (c.imp id fun z => a.low x o h z), fun x o h z => b.low x o (a.keep x o h (.inr z)) (a.low x o h z)⟩
def BaseOk (H0 : Hp) (ow : Ow) (H : Hp) : Prop := ∀ a o, H0 a = some o -> H a = some o /\ ow a = none
theorem BaseOk.keep {H0 : Hp} {ow ow' : Ow} {H H' : Hp} (b : BaseOk H0 ow H) (k : Keep ow H ow' H') : BaseOk H0 ow' H' := fun a o h => let ⟨h1, h2⟩ := b a o h; ⟨k.keep a o h1 (.inr h2), k.low a o h1 h2⟩
theorem BaseOk.sm {H0 : Hp} {ow : Ow} {H : Hp} (b : BaseOk H0 ow H) : Same H0 H := fun a o h => (b a o h).1
variable {X : Cx}
def Post (X : Cx) (H0 : Hp) (ow : Ow) (H : Hp) (fl : Fl) (D : Ends) : Prop :=
  match fl with
  | .nx ρ => ∀ ow' σ' H', EnvOk X ow' H' σ' ρ -> σ'.length = X.N.length -> Keep ow H ow' H' -> D.nx σ' H'
  | .bk ρ => ∀ ow' σ' H', EnvOk X ow' H' σ' ρ -> σ'.length = X.N.length -> Keep ow H ow' H' -> D.bk σ' H'
  | .ct ρ => ∀ ow' σ' H', EnvOk X ow' H' σ' ρ -> σ'.length = X.N.length -> Keep ow H ow' H' -> D.ct σ' H'
  | .rt d => ∀ v H', Same H0 H' -> Rep X.K H' (fun a b => b = true /\ H0 a = none) d v -> D.rt v H'
theorem Post.keep {H0 : Hp} {ow ow' : Ow} {H H' : Hp} {fl : Fl} {D : Ends} (p : Post X H0 ow H fl D) (k : Keep ow H ow' H') : Post X H0 ow' H' fl D := by
  cases fl with
  | nx ρ => exact fun ow2 σ2 H2 a b c => p ow2 σ2 H2 a b (k.trans c)
  | bk ρ => exact fun ow2 σ2 H2 a b c => p ow2 σ2 H2 a b (k.trans c)
  | ct ρ => exact fun ow2 σ2 H2 a b c => p ow2 σ2 H2 a b (k.trans c)
  | rt d => exact p
def tSD (X : Cx) (H0 : Hp) (ρ : Rho) (fl : Fl) : TS := fun D σ H => ∃ ow, EnvOk X ow H σ ρ /\ σ.length = X.N.length /\ BaseOk H0 ow H /\ Post X H0 ow H fl D
def SD (X : Cx) (H0 : Hp) (ρ : Rho) (st : Stmt) (fl : Fl) : Prop := PS X st (tSD X H0 ρ fl)
def SsD (X : Cx) (H0 : Hp) (ρ : Rho) (st : List Stmt) (fl : Fl) : Prop := PSs X st (tSD X H0 ρ fl)
theorem ssd_nil {H0 : Hp} {ρ : Rho} : SsD X H0 ρ [] (.nx ρ) := fun pins s σ H D I ⟨ow, E, hl, B, q⟩ => pss_nil pins s σ H D I (q ow σ H E hl (Keep.refl _ _))
theorem ssd_cons {H0 : Hp} {ρ ρ1 : Rho} {st : Stmt} {ss : List Stmt} {fl : Fl} (h1 : SD X H0 ρ st (.nx ρ1)) (h2 : SsD X H0 ρ1 ss fl) : SsD X H0 ρ (st :: ss) fl := fun pins s σ H D I ⟨ow, E, hl, B, q⟩ =>
  pss_cons h1 h2 pins s σ H D I ⟨ow, E, hl, B, fun ow' σ' H' E' hl' k => ⟨ow', E', hl', B.keep k, q.keep k⟩⟩
theorem ssd_stop {H0 : Hp} {ρ : Rho} {st : Stmt} {ss : List Stmt} {fl : Fl} (h1 : SD X H0 ρ st fl) (hf : ∀ ρ', fl ≠ .nx ρ') : SsD X H0 ρ (st :: ss) fl := fun pins s σ H D I ⟨ow, E, hl, B, q⟩ =>
  pss_cons h1 pss_never pins s σ H D I ⟨ow, E, hl, B, by
    cases fl with
    | nx ρ' => exact absurd rfl (hf ρ')
    | bk ρ' => exact q
    | ct ρ' => exact q
    | rt d => exact q⟩
theorem sd_ret {H0 : Hp} {ρ : Rho} {e : Expr} {pos : Pos} {d : D} {k : Nat} (h : ED X ρ e d k) (hk : k = 0 \/ k = 2) : SD X H0 ρ (.Return (some e) pos) (.rt d) := fun pins s σ H D I ⟨ow, E, hl, B, q⟩ =>
  ps_ret (h ow) pins s σ H D I ⟨E, fun v H1 s1 r1 => q v H1 (B.sm.trans s1) (r1.imp fun a b p => by
    rcases hk with rfl | rfl
    . exact ⟨p.1, B.sm.free p.2⟩
    . refine ⟨p.1, p.2.elim (fun z => ?_) B.sm.free⟩
      cases e0 : H0 a with
      | none => rfl
      | some o => exact absurd (B a o e0).2 z)⟩
theorem env_dem {ow : Ow} {H : Hp} {σ : L2.St} {ρ : Rho} (E : EnvOk X ow H σ ρ) : EnvOk X (fun _ => none) H σ (demAll ρ) := by
  refine ⟨fun x d o h => ?_, fun a z => absurd rfl z⟩
  unfold demAll at h
  cases e : ρ x with
  | none => rw [e] at h; cases h
  | some y =>
    rw [e] at h
    cases h
    obtain ⟨i, v, h1, h2, h3, h4⟩ := E.get x y.1 y.2 e
    exact ⟨i, v, h1, h2, h3, h4.imp fun _ _ _ _ => rfl⟩
theorem sd_retD {H0 : Hp} {ρ : Rho} {e : Expr} {pos : Pos} {d : D} {k : Nat} (h : ED X (demAll ρ) e d k) (hk : k = 0 \/ k = 2) : SD X H0 ρ (.Return (some e) pos) (.rt d) := fun pins s σ H D I ⟨ow, E, hl, B, q⟩ =>
  ps_ret (h fun _ => none) pins s σ H D I ⟨env_dem E, fun v H1 s1 r1 => q v H1 (B.sm.trans s1) (r1.imp fun a b p => by
    rcases hk with rfl | rfl
    . exact ⟨p.1, B.sm.free p.2⟩
    . exact ⟨p.1, p.2.elim (fun z => absurd rfl z) B.sm.free⟩)⟩
theorem sd_expr {H0 : Hp} {ρ : Rho} {e : Expr} {pos : Pos} {d : D} {k : Nat} (h : ED X ρ e d k) (hc : ∃ f p args ks cp, e = .Call (.Name f p) args ks cp) : SD X H0 ρ (.Expr e pos) (.nx ρ) := fun pins s σ H D I ⟨ow, E, hl, B, q⟩ => by
  obtain ⟨f, p, args, ks, cp, rfl⟩ := hc
  exact ps_expr (h ow) rfl pins s σ H D I ⟨E, fun v H1 s1 r1 => q ow σ H1 (E.same s1) hl (Keep.same s1)⟩
theorem sd_retN {H0 : Hp} {ρ : Rho} {pos : Pos} : SD X H0 ρ (.Return none pos) (.rt .non) := fun pins s σ H D I ⟨ow, E, hl, B, q⟩ => ps_retN pins s σ H D I (q .non H B.sm (by rw [Rep]))
theorem sd_pass {H0 : Hp} {ρ : Rho} {pos : Pos} : SD X H0 ρ (.Pass pos) (.nx ρ) := fun pins s σ H D I ⟨ow, E, hl, B, q⟩ => ps_pass pins s σ H D I (q ow σ H E hl (Keep.refl _ _))
theorem sd_break {H0 : Hp} {ρ : Rho} {pos : Pos} : SD X H0 ρ (.Break pos) (.bk ρ) := fun pins s σ H D I ⟨ow, E, hl, B, q⟩ => ps_break pins s σ H D I (q ow σ H E hl (Keep.refl _ _))
theorem sd_cont {H0 : Hp} {ρ : Rho} {pos : Pos} : SD X H0 ρ (.Continue pos) (.ct ρ) := fun pins s σ H D I ⟨ow, E, hl, B, q⟩ => ps_continue pins s σ H D I (q ow σ H E hl (Keep.refl _ _))
theorem sd_if {H0 : Hp} {ρ : Rho} {c : Expr} {a b : List Stmt} {pos : Pos} {t : Bool} {fl : Fl} (hc : TD X ρ c t) (h : if t = true then SsD X H0 ρ a fl else SsD X H0 ρ b fl) : SD X H0 ρ (.If c a b pos) fl := by
  cases t with
  | true =>
    intro pins s σ H D I ⟨ow, E, hl, B, q⟩
    exact ps_if (hc ow) h pss_never pins s σ H D I ⟨E, fun H1 s1 => by
      show if true = true then _ else _
      rw [if_pos rfl]
      exact ⟨ow, E.same s1, hl, B.keep (Keep.same s1), q.keep (Keep.same s1)⟩⟩
  | false =>
    intro pins s σ H D I ⟨ow, E, hl, B, q⟩
    exact ps_if (hc ow) pss_never h pins s σ H D I ⟨E, fun H1 s1 => by
      show if false = true then _ else _
      rw [if_neg Bool.false_ne_true]
      exact ⟨ow, E.same s1, hl, B.keep (Keep.same s1), q.keep (Keep.same s1)⟩⟩
theorem env_own {ow : Ow} {H H1 : Hp} {σ : L2.St} {ρ : Rho} {x : Str} {d : D} {v : V} {i : Nat} (hN : X.N.Nodup) (hl : σ.length = X.N.length) (E : EnvOk X ow H σ ρ) (sm : Same H H1) (hi : X.N[i]? = some x) (hv : Vis X.env.scope x) (r : Rep X.K H1 (Kp ow H 0) d v) :
    ∃ ow', EnvOk X ow' H1 (σ.set i (some v)) (putR ρ x (d, true)) /\ Keep ow H ow' H1 := by
  classical
  let ow' : Ow := fun a => if H a = none /\ ∃ o, H1 a = some o then some (some x) else ow a
  have o1 : ∀ a o, H a = some o -> ow' a = ow a := fun a o h => if_neg (fun z => by rw [h] at z; cases z.1)
  have E1 : EnvOk X ow' H1 σ ρ := ⟨fun y e o h => by
    obtain ⟨j, w, e1, e2, e3, e4⟩ := E.get y e o h
    refine ⟨j, w, e1, e2, e3, Rep.same sm (e4.impH (fun a ob ha p => ?_) fun a p => ?_)⟩
    . cases o with
      | true => exact ⟨p.1, (o1 a ob ha).trans p.2⟩
      | false => exact fun z => (o1 a ob ha).trans (p z)
    . cases o with
      | true => cases p.1
      | false => exact fun z => (by cases z), fun a ha => by
    by_cases hz : H a = none /\ ∃ o, H1 a = some o
    . exact hz.2
    . have : ow' a = ow a := if_neg hz
      rw [this] at ha
      exact (E.own.same sm) a ha⟩
  refine ⟨ow', env_put hN hl E1 hi hv (r.impH (fun a o ha p => ⟨rfl, if_pos ⟨p.2, o, ha⟩⟩) fun a p => (by cases p.1)), fun a o h _ => sm a o h, fun a o h z => (o1 a o h).trans z⟩
theorem swaps_plain {e : Expr} {t : Option Expr} {n : Nat} {env : Env} (h : isComp e = false) : swapsWith e t n env = pure false := by
  cases e <;> first | rfl | cases h
theorem sd_set {Φ : Fx} {sc : Scope} {H0 : Hp} {ρ : Rho} {e : Expr} {x : Str} {p pos : Pos} {d : D} {k : Nat} {o : Bool} (G : Good Φ X sc) (hx : locK sc x = true) (h : ED X ρ e d k) (ho : (k = 0 /\ o = true) \/ (k = 1 /\ o = false)) (hs : swapsWith e (some (.Name x p)) pos.line X.env = pure false) :
    SD X H0 ρ (.Assign [.Name x p] e pos) (.nx (putR ρ x (d, o))) := by
  obtain ⟨g1, g2, g3, i, g4⟩ := loc_of G hx
  intro pins s σ H D I ⟨ow, E, hl, B, q⟩
  refine ps_set (i := i) G.nd g4 g1 (h ow) hs g3 pins s σ H D I ⟨E, fun v H1 s1 r1 => ?_⟩
  show D.nx (σ.set i (some v)) H1
  rcases ho with ⟨rfl, rfl⟩ | ⟨rfl, rfl⟩
  . obtain ⟨ow', E', k'⟩ := env_own G.nd hl E s1 g4 g2 r1
    exact q ow' _ H1 E' (by rw [List.length_set]; exact hl) k'
  . exact q ow _ H1 (env_put G.nd hl (E.same s1) g4 g2 r1) (by rw [List.length_set]; exact hl) (Keep.same s1)
theorem swaps_tup {e : Expr} {es : List Expr} {n k : Nat} {p : Pos} {env : Env} : swapsWithSole [.Tuple es n p] e k env = pure false := by
  cases e <;> rfl
theorem swaps_sub {e a i : Expr} {k : Nat} {p : Pos} {env : Env} : swapsWithSole [.Subscript a i p] e k env = pure false := by
  cases e <;> rfl
def gLst (K : PySem.W.Frag) (n : Nat) (t : TGs) : TG := fun v σ H Q => ∃ a xs, v = .ref a /\ SqL K H a xs /\ xs.length = n /\ t xs σ H Q
theorem pg_lst {es : List Expr} {k : Nat} {t : TGs} {n : Nat} {pos : Pos} (hc : X.calm = true) (h : PGs X es t)
    (hn : (assignEach es X.env).length = n) (hst : (assignEach es X.env).findIdx? (·.1) = none) : PG X (.Tuple es k pos) (gLst X.K n t) := by
  intro pins s σ H v u Q I r hw
  obtain ⟨a, xs, e1, hq, hl, hw⟩ := hw
  subst e1
  cases r
  obtain ⟨its, rv, pl, hz⟩ := I.list hq
  have hsz : (assignEach es X.env).length = its.toArray.size := by simp [hn, <- hl, rv.length]
  rw [assign_Tuple]
  refine wpAny_bind (wpAny_standAt ?_)
  unfold unpack
  rw [hst, hsz]
  refine wpAny_bind (wpAny_holding (PySem.W.kun_itemsOf (I.ok.hd hc) pl.isList fun h' hx => ?_))
  have I1 : Inv X pins σ H { s with heap := h' } := I.kept (t' := s.toks) fun b o e => hx b o (Nat.ne_of_lt (Heap.lt_size e)) e
  exact h pins _ σ H xs _ Q I1 (by simpa using rv) hw
theorem rep_shared {ow : Ow} {H H1 : Hp} {ds : List D} {vs : List V} {k : Nat} (o : OwIn ow H) (hf : llessL ds = true \/ k <= 1) (r : RepL X.K H1 (Kp ow H k) ds vs) : RepL X.K H1 (fun a b => b = true -> ow a = none) ds vs := by
  rcases hf with hf | hf
  . exact r.flat _ hf
  . exact r.imp fun a b p hb => by subst hb; exact kp_shared o hf p
theorem sw_none {Φ : Fx} {sc : Scope} {es : List Expr} {e : Expr} {n : Nat} {p : Pos} (G : Good Φ X sc) (ht : swE sc es e = false) : swappedStores [.Tuple es n p] e X.env = pure none := by
  unfold swE at ht
  cases hte : isTupE e with
  | false => cases e <;> first | rfl | cases hte
  | true =>
    rw [hte] at ht
    have hc : celPar sc es e = true := by simpa using ht
    unfold celPar at hc
    split at hc
    . rename_i x px y py a b m q
      have k1 : X.env.kindOf x = some .cell := G.cc x (by simpa using hc)
      unfold swappedStores
      dsimp only
      split
      . rfl
      . split
        . rfl
        . rw [if_pos]
          rw [List.filterMap_cons_none (by simp [k1])]
          have : ∀ l : List Str, l.length <= 1 -> (l.length != [Expr.Name x px, Expr.Name y py].length || l.eraseDups.length != l.length) = true := fun l hl => by
            have : (l.length != [Expr.Name x px, Expr.Name y py].length) = true := by simp; omega
            rw [this]; rfl
          exact this _ (Nat.le_trans (List.length_filterMap_le _ _) (Nat.le_refl _))
    . cases hc
theorem sd_tup {Φ : Fx} {sc : Scope} {H0 : Hp} {ρ ρ' : Rho} {es : List Expr} {e : Expr} {n : Nat} {p pos : Pos} {d : D} {ds : List D} {k : Nat} (G : Good Φ X sc) (h : ED X ρ e d k) (hd : seqOf d = some ds) (hf : llessL ds = true \/ k <= 1) (hb : bindNs sc es ds ρ = some ρ') (ht : swE sc es e = false) :
    SD X H0 ρ (.Assign [.Tuple es n p] e pos) (.nx ρ') := by
  obtain ⟨t, h1, h2, h3, h4⟩ := pgs_names G hb
  intro pins s σ H D I ⟨ow, E, hl, B, q⟩
  have fin : ∀ H1 vs, Same H H1 -> RepL X.K H1 (Kp ow H k) ds vs -> t vs σ H1 D.nx := fun H1 vs s1 rl => h4 ow vs σ H1 D.nx hl (E.same s1) (rep_shared E.own hf rl) fun σ' hl' E' => q ow σ' H1 E' hl' (Keep.same s1)
  rcases seqOf_eq hd with rfl | rfl
  . refine ps_asg (h ow) (pg_tup (n := _) G.calm h1 h2 h3) swaps_tup (sw_none G ht) rfl pins s σ H D I ⟨E, fun v H1 s1 r1 => ?_⟩
    obtain ⟨a, vs, rfl, hs, rl⟩ := sqt_of r1
    exact ⟨a, vs, rfl, hs, rl.length.symm, fin H1 vs s1 rl⟩
  . refine ps_asg (h ow) (pg_lst (n := _) G.calm h1 h2 h3) swaps_tup (sw_none G ht) rfl pins s σ H D I ⟨E, fun v H1 s1 r1 => ?_⟩
    obtain ⟨a, vs, rfl, hs, rl⟩ := sq_of r1
    exact ⟨a, vs, rfl, hs, rl.length.symm, fin H1 vs s1 rl⟩
theorem swapped_of {sc : Scope} {Φ : Fx} {x y : Str} {px py p p2 : Pos} {n n2 : Nat} {a b : Expr} (G : Good Φ X sc) (hk : X.env.scope.kind = .function) (h : parOk sc x y px py a b = true) (ha : ∀ x p, a ≠ .Starred x p) (hb : ∀ x p, b ≠ .Starred x p) :
    swappedStores [.Tuple [.Name x px, .Name y py] n p] (.Tuple [a, b] n2 p2) X.env = pure (some [x, y]) := by
  unfold parOk at h
  simp only [Bool.and_eq_true, Bool.not_eq_true', beq_iff_eq, decide_eq_false_iff_not] at h
  obtain ⟨⟨⟨⟨⟨h1, h2⟩, h3⟩, h4⟩, h5⟩, h6⟩ := h
  have k1 : X.env.kindOf x = some .local := G.lc x h1
  have k2 : X.env.kindOf y = some .local := G.lc y h2
  have bk : X.env.blockKind = .function := by unfold Env.blockKind; rw [hk]; rfl
  have an : ∀ f : Expr -> Bool, (∀ e, (∀ x p, e ≠ .Starred x p) -> f e = false) -> ¬ ([a, b].any f = true) := fun f hf => by simp [hf a ha, hf b hb]
  have fm : ∀ f : Expr -> Option Str, f (.Name x px) = some x -> f (.Name y py) = some y -> [Expr.Name x px, Expr.Name y py].filterMap f = [x, y] := fun f h1 h2 => by simp [h1, h2]
  have ed : [x, y].eraseDups = [x, y] := by
    have e1 : (!(y == x)) = true := by simp; exact fun z => h4 z.symm
    rw [List.eraseDups_cons, List.filter_cons_of_pos (p := fun b => !b == x) e1, List.filter_nil]
    rfl
  unfold swappedStores
  dsimp only
  rw [bk]
  refine (if_neg (by simp)).trans ?_
  refine (if_neg (an _ fun e he => by cases e <;> first | rfl | exact absurd rfl (he _ _))).trans ?_
  rw [fm _ (by show (if (X.env.kindOf x == some NameKind.local && px.line == px.line) = true then some x else none) = some x; rw [k1]; simp) (by show (if (X.env.kindOf y == some NameKind.local && py.line == px.line) = true then some y else none) = some y; rw [k2, h3]; simp)]
  rw [ed]
  refine (if_neg (by simp)).trans ?_
  rw [h5, h6]
  rfl
theorem sd_par {Φ : Fx} {sc : Scope} {H0 : Hp} {ρ : Rho} {a b : Expr} {x y : Str} {px py p p2 pos : Pos} {n n2 : Nat} {u v : D} {k : Nat} (G : Good Φ X sc) (h : AD X ρ [a, b] [u, v] k) (hf : llessL [u, v] = true \/ k <= 1) (hp : parOk sc x y px py a b = true) (ha : ∀ x p, a ≠ .Starred x p) (hb : ∀ x p, b ≠ .Starred x p) :
    SD X H0 ρ (.Assign [.Tuple [.Name x px, .Name y py] n p] (.Tuple [a, b] n2 p2) pos) (.nx (putR (putR ρ x (u, false)) y (v, false))) := by
  have hp0 := hp
  unfold parOk at hp
  simp only [Bool.and_eq_true, Bool.not_eq_true', beq_iff_eq, decide_eq_false_iff_not] at hp
  obtain ⟨⟨⟨⟨⟨l1, l2⟩, _⟩, hxy⟩, _⟩, _⟩ := hp
  obtain ⟨g1, g2, g3, i, g4⟩ := loc_of (x := x) G (by unfold locK; rw [l1]; rfl)
  obtain ⟨j1, j2, j3, j, j4⟩ := loc_of (x := y) G (by unfold locK; rw [l2]; rfl)
  have hij : i ≠ j := by intro z; subst z; rw [g4] at j4; cases j4; exact hxy rfl
  intro pins s σ H D I ⟨ow, E, hl, B, q⟩
  refine ps_par (i := i) (j := j) G.calm G.nd g4 j4 hij (G.lc x l1) (G.lc y l2) (h ow) (swapped_of G I.ok.kind hp0 ha hb) swaps_tup pins s σ H D I ⟨E, fun vs H1 s1 r1 => ?_⟩
  have rs := rep_shared E.own hf r1
  rw [RepL] at rs
  obtain ⟨v1, r, rfl, rv1, rs⟩ := rs
  obtain ⟨v2, rfl, rv2⟩ := rs.only
  refine ⟨v1, v2, rfl, ?_⟩
  have E1 := env_put (o := false) G.nd hl (E.same s1) g4 g2 rv1
  have hl1 : (σ.set i (some v1)).length = X.N.length := by rw [List.length_set]; exact hl
  exact q ow _ H1 (env_put (o := false) G.nd hl1 E1 j4 j2 rv2) (by rw [List.length_set]; exact hl1) (Keep.same s1)
theorem env_write {ow : Ow} {H1 : Hp} {σ : L2.St} {ρ : Rho} {x : Str} {l' : List D} {a : Addr} {vs vs' : List V} {i : Nat} (E : EnvOk X ow H1 σ ρ) (hi : X.N[i]? = some x) (hs : σ[i]? = some (some (.ref a)))
    (hv : Vis X.env.scope x) (ha : H1 a = some (.lst vs)) (ho : ow a = some (some x)) (f : llessL l' = true) (r : RepL X.K H1 (fun _ _ => True) l' vs') :
    EnvOk X ow (upd H1 a (.lst vs')) σ (putR ρ x (.lst l', true)) := by
  have st : ∀ {P : AP2}, (P a true -> False) -> Stay P P H1 (upd H1 a (.lst vs')) := fun {P} h => ⟨fun b o hb hn => by rw [upd_ne (fun z => by subst z; rw [ha] at hb; cases hb; exact hn _ rfl)]; exact hb, fun b ws hb p => by rw [upd_ne (fun z => by subst z; exact h p)]; exact hb, fun _ _ _ p => p, fun _ p => p⟩
  have r' : RepL X.K (upd H1 a (.lst vs')) (ownP ow x true) l' vs' := RepL.flat _ f ((r.flat (fun _ _ => False) f).mono (st fun z => z))
  refine ⟨fun y e o h => ?_, fun b hb => ?_⟩
  . rw [lookup_putR] at h
    by_cases hy : y = x
    . subst hy
      rw [if_pos rfl] at h
      cases h
      exact ⟨i, .ref a, hi, hv, hs, by rw [Rep]; exact ⟨a, vs', true, rfl, upd_same, ⟨rfl, ho⟩, r'⟩⟩
    . rw [if_neg hy] at h
      obtain ⟨j, w, e1, e2, e3, e4⟩ := E.get y e o h
      refine ⟨j, w, e1, e2, e3, e4.mono (st fun p => ?_)⟩
      cases o with
      | true => have := p.2; rw [ho] at this; cases this; exact hy rfl
      | false => have := p rfl; rw [ho] at this; cases this
  . by_cases hz : b = a
    . subst hz; exact ⟨_, upd_same⟩
    . rw [upd_ne hz]; exact E.own b hb
theorem own_of {ow : Ow} {H : Hp} {σ : L2.St} {ρ : Rho} {x : Str} {l : List D} (E : EnvOk X ow H σ ρ) (h : ρ x = some (.lst l, true)) : ∃ (i : Nat) (a : Addr) (vs : List V), X.N[i]? = some x /\ Vis X.env.scope x /\ σ[i]? = some (some (.ref a)) /\ H a = some (.lst vs) /\ ow a = some (some x) /\ RepL X.K H (fun _ _ => True) l vs := by
  obtain ⟨i, v, e1, e2, e3, e4⟩ := E.get x _ _ h
  rw [Rep] at e4
  obtain ⟨a, vs, b, rfl, hl, hp, rl⟩ := e4
  cases hp.1
  exact ⟨i, a, vs, e1, e2, e3, hl, hp.2, rl.imp fun _ _ _ => True.intro⟩
theorem keep_write {ow : Ow} {H H1 : Hp} {a : Addr} {vs vs' : List V} {x : Str} (sm : Same H H1) (h0 : H a = some (.lst vs)) (ho : ow a = some (some x)) : Keep ow H ow (upd H1 a (.lst vs')) :=
  ⟨fun b o h c => by
    rw [upd_ne (fun z => by
      subst z
      rw [h0] at h; cases h
      rcases c with c | c
      . exact c _ rfl
      . rw [ho] at c; cases c)]
    exact sm b o h, fun _ _ _ z => z⟩
theorem k_free {pins : List (Addr × Obj)} {σ : L2.St} {H : Hp} {s : Shared} (I : Inv X pins σ H s) {a : Addr} {o : Obj} (h : X.K.lookup a = some o) : H a = none := (I.bs a o (I.ok.mod.kin a o h)).2
mutual
def D.lsz : D -> Nat
  | .lst l => 1 + lszL l
  | .tup l => lszL l
  | _ => 0
def lszL : List D -> Nat
  | [] => 0
  | d :: l => d.lsz + lszL l
end
theorem lst_only {pins : List (Addr × Obj)} {σ : L2.St} {H : Hp} {s : Shared} (I : Inv X pins σ H s) {P : AP2} {d : D} {a : Addr} {vs : List V} (ha : H a = some (.lst vs)) (h : Rep X.K H P d (.ref a)) : ∃ l, d = .lst l := by
  cases d with
  | lst l => exact ⟨l, rfl⟩
  | tup l =>
    rw [Rep] at h
    obtain ⟨a', vs', e, hs, _⟩ := h
    cases e
    rcases hs with (q | ⟨o, q⟩) | ⟨o, its, n, q, _⟩
    . rw [ha] at q; cases q
    . rw [ha] at q; cases q
    . rw [k_free I q] at ha; cases ha
  | emp => rw [Rep] at h; obtain ⟨a', e, hl⟩ := h; cases e; rw [ha] at hl; cases hl
  | sn m => rw [Rep] at h; obtain ⟨a', S, e, hl⟩ := h; cases e; rw [ha] at hl; cases hl
  | obj n ns es => rw [Rep] at h; obtain ⟨_, _, a', C, dx, vs', e, _, _, hl, _⟩ := h; cases e; rw [ha] at hl; cases hl
  | cls n => rw [Rep] at h; obtain ⟨C, o', e, _, hl, _⟩ := h; cases e; rw [k_free I hl] at ha; cases ha
  | _ => rw [Rep] at h; cases h
theorem tup_only {pins : List (Addr × Obj)} {σ : L2.St} {H : Hp} {s : Shared} (I : Inv X pins σ H s) {P : AP2} (hP : ∀ a b, P a b -> b = true) {d : D} {a : Addr} {vs : List V} (ha : SqT X.K H a vs) (h : Rep X.K H P d (.ref a)) : ∃ l, d = .tup l /\ RepL X.K H P l vs := by
  have no : ∀ o, H a = some o -> (∀ xs, o ≠ .tup xs) -> (∀ p q, o ≠ .frz p q) -> False := fun o e h1 h2 => by
    rcases ha with (q | ⟨o', q⟩) | ⟨o', its, n, q, _⟩
    . rw [e] at q; cases q; exact h1 _ rfl
    . rw [e] at q; cases q; exact h2 _ _ rfl
    . rw [k_free I q] at e; cases e
  cases d with
  | lst l =>
    rw [Rep] at h
    obtain ⟨a', vs', b, e, hl, p, _⟩ := h
    cases e
    cases hP _ _ p
    exact (no _ hl (fun _ z => nomatch z) fun _ _ z => nomatch z).elim
  | tup l =>
    rw [Rep] at h
    obtain ⟨a', vs', e, hs, rl⟩ := h
    cases e
    have := I.tuple_inj ha hs
    subst this
    exact ⟨l, rfl, rl⟩
  | emp => rw [Rep] at h; obtain ⟨a', e, hl⟩ := h; cases e; exact (no _ hl (fun _ z => nomatch z) fun _ _ z => nomatch z).elim
  | sn m => rw [Rep] at h; obtain ⟨a', S, e, hl⟩ := h; cases e; exact (no _ hl (fun _ z => nomatch z) fun _ _ z => nomatch z).elim
  | obj n ns es => rw [Rep] at h; obtain ⟨_, _, a', C, dx, vs', e, _, _, hl, _⟩ := h; cases e; exact (no _ hl (fun _ z => nomatch z) fun _ _ z => nomatch z).elim
  | cls n =>
    rw [Rep] at h
    obtain ⟨C, o', e, _, hl, ht, _⟩ := h
    cases e
    rcases ha with (q | ⟨o, q⟩) | ⟨o, its, n, q, hc, _⟩
    . rw [k_free I hl] at q; cases q
    . rw [k_free I hl] at q; cases q
    . rw [hl] at q; cases q; rw [hc] at ht; injection ht with ht; exact absurd ht (by decide)
  | _ => rw [Rep] at h; cases h
mutual
theorem rep_uniq {pins : List (Addr × Obj)} {σ : L2.St} {H : Hp} {s : Shared} (I : Inv X pins σ H s) {P : AP2} (hP : ∀ a b, P a b -> b = true) : ∀ (d d' : D) (v : V), Rep X.K H P d v -> Rep X.K H P d' v -> d.lsz <= d'.lsz
  | .tup l, d', v, h, h' => by
    rw [Rep] at h
    obtain ⟨a, vs, rfl, hs, rl⟩ := h
    obtain ⟨l', rfl, rl'⟩ := tup_only I hP hs h'
    rw [D.lsz, D.lsz]; exact repl_uniq I hP l l' vs rl rl'
  | .lst l, d', v, h, h' => by
    rw [Rep] at h
    obtain ⟨a, vs, b, rfl, hs, p, rl⟩ := h
    cases hP _ _ p
    replace hs : H a = some (.lst vs) := hs
    obtain ⟨l', rfl⟩ := lst_only I hs h'
    rw [Rep] at h'
    obtain ⟨a', vs', b, e, hl, p', rl'⟩ := h'
    cases e
    cases hP _ _ p'
    replace hl : H a = some (.lst vs') := hl
    rw [hs] at hl; cases hl
    rw [D.lsz, D.lsz]
    exact Nat.add_le_add_left (repl_uniq I hP l l' vs rl rl') 1
  | .non, _, _, _, _ => Nat.zero_le _
  | .bl _, _, _, _, _ => Nat.zero_le _
  | .int _, _, _, _, _ => Nat.zero_le _
  | .str _, _, _, _, _ => Nat.zero_le _
  | .emp, _, _, _, _ => Nat.zero_le _
  | .typ _, _, _, _, _ => Nat.zero_le _
  | .sn _, _, _, _, _ => Nat.zero_le _
  | .obj _ _ _, _, _, _, _ => Nat.zero_le _
  | .cls _, _, _, _, _ => Nat.zero_le _
theorem repl_uniq {pins : List (Addr × Obj)} {σ : L2.St} {H : Hp} {s : Shared} (I : Inv X pins σ H s) {P : AP2} (hP : ∀ a b, P a b -> b = true) : ∀ (l l' : List D) (vs : List V), RepL X.K H P l vs -> RepL X.K H P l' vs -> lszL l <= lszL l'
  | [], l', vs, h, h' => Nat.zero_le _
  | d :: l, l', vs, h, h' => by
    rw [RepL] at h
    obtain ⟨v, r, rfl, h1, h2⟩ := h
    cases l' with
    | nil => rw [RepL] at h'; cases h'
    | cons d' l' =>
      rw [RepL] at h'
      obtain ⟨v', r', e, h1', h2'⟩ := h'
      cases e
      rw [lszL, lszL]
      exact Nat.add_le_add (rep_uniq I hP d d' v h1 h1') (repl_uniq I hP l l' r h2 h2')
end
mutual
theorem rep_ne {pins : List (Addr × Obj)} {σ : L2.St} {H : Hp} {s : Shared} (I : Inv X pins σ H s) {P : AP2} (hP : ∀ a b, P a b -> b = true) {A : Addr} {l : List D} (hA : Rep X.K H P (.lst l) (.ref A)) : ∀ (d : D) (v : V), d.lsz < (D.lst l).lsz -> Rep X.K H P d v -> Rep X.K H (fun a b => P a b /\ a ≠ A) d v
  | .tup m, v, hs, h => by
    rw [Rep] at h ⊢
    obtain ⟨a, vs, e, h1, h2⟩ := h
    exact ⟨a, vs, e, h1, repl_ne I hP hA m vs (by rw [D.lsz] at hs; exact hs) h2⟩
  | .lst m, v, hs, h => by
    have h0 := h
    rw [Rep] at h ⊢
    obtain ⟨a, vs, b, e, h1, p, h2⟩ := h
    refine ⟨a, vs, b, e, h1, ⟨p, fun z => ?_⟩, repl_ne I hP hA m vs (by rw [D.lsz] at hs; omega) h2⟩
    subst e z
    have := rep_uniq I hP _ _ _ hA h0
    exact absurd (Nat.lt_of_lt_of_le hs this) (Nat.lt_irrefl _)
  | .non, v, _, h => by rw [Rep] at h ⊢; exact h
  | .bl _, v, _, h => by rw [Rep] at h ⊢; exact h
  | .int _, v, _, h => by rw [Rep] at h ⊢; exact h
  | .str _, v, _, h => by rw [Rep] at h ⊢; exact h
  | .emp, v, _, h => by rw [Rep] at h ⊢; exact h
  | .typ _, v, _, h => by rw [Rep] at h ⊢; exact h
  | .sn _, v, _, h => by rw [Rep] at h ⊢; exact h
  | .obj n ns es, v, _, h => h.flat _ rfl
  | .cls n, v, _, h => h.flat _ rfl
theorem repl_ne {pins : List (Addr × Obj)} {σ : L2.St} {H : Hp} {s : Shared} (I : Inv X pins σ H s) {P : AP2} (hP : ∀ a b, P a b -> b = true) {A : Addr} {l : List D} (hA : Rep X.K H P (.lst l) (.ref A)) : ∀ (m : List D) (vs : List V), lszL m < (D.lst l).lsz -> RepL X.K H P m vs -> RepL X.K H (fun a b => P a b /\ a ≠ A) m vs
  | [], vs, _, h => by rw [RepL] at h ⊢; exact h
  | d :: m, vs, hs, h => by
    rw [RepL] at h ⊢
    obtain ⟨v, r, e, h1, h2⟩ := h
    exact ⟨v, r, e, rep_ne I hP hA d v (by rw [lszL] at hs; omega) h1, repl_ne I hP hA m r (by rw [lszL] at hs; omega) h2⟩
end
theorem own_in {pins : List (Addr × Obj)} {s : Shared} {ow : Ow} {H : Hp} {σ : L2.St} {ρ : Rho} {x : Str} {l : List D} (I : Inv X pins σ H s) (E : EnvOk X ow H σ ρ) (h : ρ x = some (.lst l, true)) : ∃ (i : Nat) (a : Addr) (vs : List V), X.N[i]? = some x /\ Vis X.env.scope x /\ σ[i]? = some (some (.ref a)) /\ H a = some (.lst vs) /\ ow a = some (some x) /\ RepL X.K H (fun b c => ownP ow x true b c /\ b ≠ a) l vs := by
  obtain ⟨i, v, e1, e2, e3, e4⟩ := E.get x _ _ h
  have e5 := e4
  rw [Rep] at e4
  obtain ⟨a, vs, b, rfl, hl, hp, rl⟩ := e4
  cases hp.1
  exact ⟨i, a, vs, e1, e2, e3, hl, hp.2, repl_ne I (fun _ _ p => p.1) e5 l vs (by rw [D.lsz]; omega) rl⟩
theorem env_mut {ow : Ow} {H H1 : Hp} {σ : L2.St} {ρ : Rho} {x : Str} {l' : List D} {a : Addr} {vs vs' : List V} {i : Nat} (E : EnvOk X ow H σ ρ) (sm : Same H H1) (hi : X.N[i]? = some x) (hs : σ[i]? = some (some (.ref a)))
    (hv : Vis X.env.scope x) (h0 : H a = some (.lst vs)) (ho : ow a = some (some x)) (r : RepL X.K H1 (fun b c => (ownP ow x true b c /\ b ≠ a) \/ Kp ow H 0 b c) l' vs') :
    ∃ ow', EnvOk X ow' (upd H1 a (.lst vs')) σ (putR ρ x (.lst l', true)) /\ Keep ow H ow' (upd H1 a (.lst vs')) := by
  classical
  let ow' : Ow := fun a => if H a = none /\ ∃ o, H1 a = some o then some (some x) else ow a
  have o1 : ∀ a o, H a = some o -> ow' a = ow a := fun a o h => if_neg (fun z => by rw [h] at z; cases z.1)
  have ha : H1 a = some (.lst vs) := sm _ _ h0
  have ho' : ow' a = some (some x) := (o1 a _ h0).trans ho
  have E1 : EnvOk X ow' H1 σ ρ := ⟨fun y e o h => by
    obtain ⟨j, w, e1, e2, e3, e4⟩ := E.get y e o h
    refine ⟨j, w, e1, e2, e3, Rep.same sm (e4.impH (fun a ob ha p => ?_) fun a p => ?_)⟩
    . cases o with
      | true => exact ⟨p.1, (o1 a ob ha).trans p.2⟩
      | false => exact fun z => (o1 a ob ha).trans (p z)
    . cases o with
      | true => cases p.1
      | false => exact fun z => (by cases z), fun a ha => by
    by_cases hz : H a = none /\ ∃ o, H1 a = some o
    . exact hz.2
    . have : ow' a = ow a := if_neg hz
      rw [this] at ha
      exact (E.own.same sm) a ha⟩
  have st : ∀ {P : AP2}, (P a true -> False) -> Stay P P H1 (upd H1 a (.lst vs')) := fun {P} h => ⟨fun b o hb hn => by rw [upd_ne (fun z => by subst z; rw [ha] at hb; cases hb; exact hn _ rfl)]; exact hb, fun b ws hb p => by rw [upd_ne (fun z => by subst z; exact h p)]; exact hb, fun _ _ _ p => p, fun _ p => p⟩
  have r1 : RepL X.K H1 (fun b c => ownP ow' x true b c /\ b ≠ a) l' vs' := r.impH (fun b o hb p => by
    rcases p with ⟨p, hne⟩ | p
    . refine ⟨⟨rfl, ?_⟩, hne⟩
      by_cases hz : H b = none /\ ∃ o, H1 b = some o
      . exact if_pos hz
      . exact (if_neg hz).trans p.2
    . exact ⟨⟨rfl, if_pos ⟨p.2, o, hb⟩⟩, fun z => by subst z; rw [p.2] at h0; cases h0⟩) fun b p => by
    rcases p with ⟨p, _⟩ | p
    . cases p.1
    . cases p.1
  have r' : RepL X.K (upd H1 a (.lst vs')) (ownP ow' x true) l' vs' := (r1.mono (st fun z => z.2 rfl)).imp fun _ _ p => p.1
  refine ⟨ow', ⟨fun y e o h => ?_, fun b hb => ?_⟩, fun b o h c => ?_, fun b o h z => (o1 b o h).trans z⟩
  . rw [lookup_putR] at h
    by_cases hy : y = x
    . subst hy
      rw [if_pos rfl] at h
      cases h
      exact ⟨i, .ref a, hi, hv, hs, by rw [Rep]; exact ⟨a, vs', true, rfl, upd_same, ⟨rfl, ho'⟩, r'⟩⟩
    . rw [if_neg hy] at h
      obtain ⟨j, w, e1, e2, e3, e4⟩ := E1.get y e o h
      refine ⟨j, w, e1, e2, e3, e4.mono (st fun p => ?_)⟩
      cases o with
      | true => have := p.2; rw [ho'] at this; cases this; exact hy rfl
      | false => have := p rfl; rw [ho'] at this; cases this
  . by_cases hz : b = a
    . subst hz; exact ⟨_, upd_same⟩
    . rw [upd_ne hz]; exact E1.own b hb
  . rw [upd_ne (fun z => by
      subst z
      rw [h0] at h; cases h
      rcases c with c | c
      . exact c _ rfl
      . rw [ho] at c; cases c)]
    exact sm b o h
theorem nostar_few {env : Env} {pos : Pos} : ∀ {es : List Expr}, (∀ e ∈ es, ∀ x p, e ≠ .Starred x p) -> (backTo pos (starEach es env)).all (fun x => !x.1) = true
  | [], _ => rfl
  | e :: es, h => by
    have ih := nostar_few (env := env) (es := es) (pos := pos) fun x hx => h x (List.mem_cons_of_mem _ hx)
    have he := h e List.mem_cons_self
    cases e <;> first | exact absurd rfl (he _ _) | exact ih
theorem sd_mut {H0 : Hp} {ρ : Rho} {x m : Str} {M : List D -> List D -> Nat -> Rs (List D)} {args : List Expr} {p1 ap cp p4 : Pos} {l l' ds : List D} {k : Nat} {o : List Prop} (hcalm : X.calm = true) (hM : MutOk m M) (hx : ρ x = some (.lst l, true)) (h : AD X ρ args ds k) (hst : ∀ e ∈ args, ∀ y p, e ≠ .Starred y p) (hlen : args.length = ds.length)
    (hn : okN x = true) (hln : (ap.endLine == cp.line) = true) (hm : M l ds k = .ok l' o) (hp : allP o) : SD X H0 ρ (.Expr (.Call (.Attribute (.Name x p1) m ap) args [] cp) p4) (.nx (putR ρ x (.lst l', true))) := by
  obtain ⟨id, r, sl, ty, mt, hr⟩ := hM X hcalm
  intro pins s σ H D I ⟨ow, E, hl, B, q⟩
  obtain ⟨i, a, vs, g1, g2, g3, g4, g5, g6⟩ := own_in I E hx
  have pn : PE X (.Name x p1) (tVar i) := pe_var g1 g2 (okN_of hn).1 (okN_of hn).2
  have fin : ∀ (H1 : Hp) (ws : List V), Same H H1 -> RepL X.K H1 (Kp ow H k) ds ws -> r (.ref a) ws H1 fun _ H2 => D.nx σ H2 := fun H1 ws s1 r1 =>
    (hr ow H H1 l ds l' k o a vs ws hm hp).2 (fun b c => (ownP ow x true b c /\ b ≠ a) \/ Kp ow H 0 b c) _ (fun _ _ p => .inr p) E.own s1 (s1 _ _ g4) ((g6.same s1).imp fun _ _ p => .inl p) r1 fun vs' rv => by
      obtain ⟨ow', E', k'⟩ := env_mut E s1 g1 g3 g2 g4 g5 rv
      exact q ow' σ _ E' hl k'
  have few : ds.length < 29 := (hr ow H H l ds l' k o a vs vs hm hp).1
  cases args with
  | nil =>
    have e0 : ds = [] := List.length_eq_zero_iff.mp hlen.symm
    refine ps_expr (pe_bm0 PySem.F.plainAttrs_list sl ty mt pn rfl hln) rfl pins s σ H D I ⟨_, g3, .inl ⟨rfl, _, SqL.of g4⟩, ?_⟩
    exact fin H [] (Same.refl _) (by rw [e0]; exact RepL.nil)
  | cons e es =>
    have hfew : ((backTo cp (starEach (e :: es) X.env)).all (fun x => !x.1) && (backToKw cp (keywordEach [] X.env)).all (fun x => x.1.isSome) && decide ((e :: es).length + ([] : List Keyword).length + (if ([] : List Keyword).isEmpty then 0 else 1) < 30)) = true := by
      rw [nostar_few hst, hlen]
      have : decide (ds.length + 0 + 0 < 30) = true := by simp; omega
      exact this
    refine ps_expr (pe_bm PySem.F.plainAttrs_list sl ty mt pn (h ow) rfl hfew hln (nostar_one (hst e List.mem_cons_self)) (nostar_any fun x hx => hst x (List.mem_cons_of_mem _ hx))) rfl pins s σ H D I ⟨_, g3, .inl ⟨rfl, _, SqL.of g4⟩, E, fun ws H1 s1 r1 => ?_⟩
    exact fin H1 ws s1 r1
theorem llessL_set : ∀ {l : List D} {j : Nat} {d : D}, llessL l = true -> d.lless = true -> llessL (l.set j d) = true
  | [], j, d, h, f => by simp [llessL]
  | x :: l, 0, d, h, f => by
    rw [llessL, Bool.and_eq_true] at h
    rw [List.set_cons_zero, llessL, Bool.and_eq_true]; exact ⟨f, h.2⟩
  | x :: l, j + 1, d, h, f => by
    rw [llessL, Bool.and_eq_true] at h
    rw [List.set_cons_succ, llessL, Bool.and_eq_true]; exact ⟨h.1, llessL_set h.2 f⟩
theorem RepL.set {K : PySem.W.Frag} {P : AP2} {H : Hp} {d : D} {v : V} (r : Rep K H P d v) : ∀ {l : List D} {vs : List V} (j : Nat), RepL K H P l vs -> RepL K H P (l.set j d) (vs.set j v)
  | [], vs, j, h => by rw [RepL] at h; subst h; simp; exact RepL.nil
  | x :: l, vs, 0, h => by
    rw [RepL] at h
    obtain ⟨w, u, rfl, h1, h2⟩ := h
    exact RepL.cons r h2
  | x :: l, vs, j + 1, h => by
    rw [RepL] at h
    obtain ⟨w, u, rfl, h1, h2⟩ := h
    exact RepL.cons h1 (RepL.set r j h2)
theorem sd_store {H0 : Hp} {ρ : Rho} {x : Str} {e i : Expr} {p1 p2 pos : Pos} {l l' : List D} {d : D} {j : Int} {k k2 : Nat} (hx : ρ x = some (.lst l, true)) (h : ED X ρ e d k) (hi : ED X ρ i (.int j) k2) (f : llessL l = true) (fd : d.lless = true) (hn : okN x = true) (hm : setD l j d = some l') (hsl : ∀ a b c p, i ≠ .Slice a b c p) :
    SD X H0 ρ (.Assign [.Subscript (.Name x p1) i p2] e pos) (.nx (putR ρ x (.lst l', true))) := by
  unfold setD at hm
  cases hj : ixN l.length j with
  | none => rw [hj] at hm; cases hm
  | some n =>
    rw [hj] at hm; cases hm
    intro pins s σ H D I ⟨ow, E, hl, B, q⟩
    obtain ⟨ix, a, vs, g1, g2, g3, g4, g5, g6⟩ := own_of E hx
    have pn : PE X (.Name x p1) (tVar ix) := pe_var g1 g2 (okN_of hn).1 (okN_of hn).2
    refine ps_asg (h ow) (pg_sub pn (hi ow) set_list (fun v => by cases i <;> first | rfl | exact absurd rfl (hsl _ _ _ _))) swaps_sub (by cases e <;> rfl) rfl pins s σ H D I ⟨E, fun v H1 s1 r1 => ?_⟩
    refine ⟨_, g3, E.same s1, fun u H2 s2 r2 => ?_⟩
    rw [Rep] at r2; subst r2
    have s12 := s1.trans s2
    refine ⟨a, vs, j, n, rfl, rfl, s12 _ _ g4, by rw [<- g6.length]; exact hj, ?_⟩
    exact q ow σ _ (env_write (E.same s12) g1 g3 g2 (s12 _ _ g4) g5 (llessL_set f fd) (RepL.set ((r1.imp fun _ _ _ => True.intro).same s2) n (g6.same s12))) hl (keep_write s12 g4 g5)
theorem ip_of {op : Operator} {r : R2} (h : OpR X (inplaceOp op) r) : PIp X op r := h
theorem iop_mulS : OpR X (inplaceOp .Mult) (rI (fun i j => mulOk i j) fun i j => .int (i * j)) := opI fun _ _ _ _ _ _ _ hc q => imul_int q (mulOk_ok hc)
theorem iop_fdivS : OpR X (inplaceOp .FloorDiv) (rI (fun _ j => divOk j) fun i j => .int (i.fdiv j)) := opI fun i j _ _ _ _ _ hc q => ifloordiv_int hc.1 q (.inl (PyProof.noPylong_of_log2 (by
  rcases Nat.eq_zero_or_pos j.natAbs with h1 | hp
  . exact absurd (by simpa using h1) hc.1
  . exact (Nat.log2_lt (Nat.ne_of_gt hp)).mpr hc.2)))
theorem sd_aug {Φ : Fx} {sc : Scope} {H0 : Hp} {ρ : Rho} {e : Expr} {x : Str} {p pos : Pos} {op : Operator} {a b : Int} {d : D} {k k2 : Nat} {o : Bool} {l : List Prop} (G : Good Φ X sc) (hx : locK sc x = true) (ha : ρ x = some (.int a, o)) (h : ED X ρ e (.int b) k) (hr : augI op a b = .ok (d, k2) l) (hp : allP l) :
    SD X H0 ρ (.AugAssign (.Name x p) op e pos) (.nx (putR ρ x (d, true))) := by
  obtain ⟨g1, g2, g3, i, g4⟩ := loc_of G hx
  obtain ⟨r, hr1, hr2⟩ : ∃ r : R2, OpR X (inplaceOp op) r /\ d.lless = true /\ ∀ H (Q : VK), (∀ v, Rep X.K H (fun _ _ => False) d v -> Q v H) -> r (.int a) (.int b) H Q := by
    unfold augI at hr
    split at hr
    . cases hr; exact ⟨_, iop_add, rfl, fun H Q q => ⟨a, b, rfl, rfl, q _ (by rw [Rep])⟩⟩
    . cases hr; exact ⟨_, iop_sub, rfl, fun H Q q => ⟨a, b, rfl, rfl, q _ (by rw [Rep])⟩⟩
    . cases hr; exact ⟨_, iop_mulS, rfl, fun H Q q => ⟨a, b, rfl, rfl, hp.1, q _ (by rw [Rep])⟩⟩
    . cases hr; exact ⟨_, iop_fdivS, rfl, fun H Q q => ⟨a, b, rfl, rfl, hp.1, q _ (by rw [Rep])⟩⟩
    . cases hr
  intro pins s σ H D I ⟨ow, E, hl, B, q⟩
  obtain ⟨i2, v, e1, e2, e3, e4⟩ := E.get x _ _ ha
  rw [Rep] at e4; subst e4
  have hi : i2 = i := nodup_ix G.nd e1 g4
  subst hi
  refine ps_aug (i := i2) G.nd g4 g1 (h ow) (ip_of hr1) g3 pins s σ H D I ⟨.int a, e3, E, fun v H1 s1 r1 => ?_⟩
  rw [Rep] at r1; subst r1
  refine hr2.2 H1 _ fun w rw' => ?_
  exact q ow _ H1 (env_put G.nd hl (E.same s1) g4 g2 (rw'.flat _ hr2.1)) (by rw [List.length_set]; exact hl) (Keep.same s1)
end Sp
set_option Elab.async false
set_option linter.all false
set_option maxRecDepth 100000
namespace Sp
open PySem PySem.Spec PyProof.Rows L2
variable {X : Cx}
theorem env_demX {ow : Ow} {H : Hp} {σ : L2.St} {ρ : Rho} (x : Str) (E : EnvOk X ow H σ ρ) : ∃ ow', EnvOk X ow' H σ (demX x ρ) /\ Keep ow H ow' H := by
  classical
  unfold demX
  let ow' : Ow := fun a => if ow a = some (some x) then none else ow a
  have o1 : ∀ a, ow a = none -> ow' a = none := fun a h => by show (if _ then _ else _) = _; split; rfl; exact h
  refine ⟨ow', ⟨fun y e o h => ?_, fun a ha => ?_⟩, fun a o h _ => h, fun a o h z => o1 a z⟩
  . by_cases hy : y = x
    . subst hy
      simp only [if_true] at h
      cases hd : ρ y with
      | none => rw [hd] at h; cases h
      | some q =>
        obtain ⟨d, o'⟩ := q
        rw [hd] at h
        cases h
        obtain ⟨j, w, e1, e2, e3, e4⟩ := E.get y _ _ hd
        refine ⟨j, w, e1, e2, e3, e4.imp fun a b p z => ?_⟩
        cases o' with
        | true => exact if_pos p.2
        | false => exact o1 a (p z)
    . simp only [if_neg hy] at h
      obtain ⟨j, w, e1, e2, e3, e4⟩ := E.get y e o h
      refine ⟨j, w, e1, e2, e3, e4.imp fun a b p => ?_⟩
      cases o with
      | true => exact ⟨p.1, by show (if _ then _ else _) = _; rw [if_neg (fun z => by rw [p.2] at z; cases z; exact hy rfl)]; exact p.2⟩
      | false => exact fun z => o1 a (p z)
  . refine E.own a fun z => ha (o1 a z)
theorem env_demote {ow : Ow} {H : Hp} {σ : L2.St} {ρ : Rho} {e : Expr} (E : EnvOk X ow H σ ρ) : ∃ ow', EnvOk X ow' H σ (demote e ρ) /\ Keep ow H ow' H := by
  unfold demote
  split
  . exact env_demX _ E
  . exact env_demX _ E
  . exact ⟨ow, E, Keep.refl _ _⟩
def Okr {α : Type} (r : Rs α) (a : α) : Prop := ∃ l, r = .ok a l /\ allP l
theorem okr_bnd {α β : Type} {r : Rs α} {f : α -> Rs β} {b : β} (h : Okr (r.bnd f) b) : ∃ a, Okr r a /\ Okr (f a) b := by
  obtain ⟨l, h, hp⟩ := h
  obtain ⟨a, l1, l2, h1, p1, h2, p2⟩ := bnd_inv h hp
  exact ⟨a, ⟨l1, h1, p1⟩, l2, h2, p2⟩
theorem okr_st {α : Type} {a : α} (h : Okr (.st) a) : False := by obtain ⟨l, h, _⟩ := h; cases h
theorem okr_ok {α : Type} {a b : α} {l : List Prop} (h : Okr (.ok a l) b) : a = b := by obtain ⟨m, h, _⟩ := h; cases h; rfl
theorem sd_for {H0 : Hp} {ρ : Rho} {tg iter : Expr} {body : List Stmt} {pos : Pos} {bind : D -> Rho -> Option Rho} {bodyF : Rho -> Rs Fl} {ds : List D} {k : Nat} {fl : Fl} (hp : PassesOwn (model X.prog X.w) X.A X.env X.xe) (hcalm : X.calm = true)
    (hi : IE X (demote iter ρ) tg iter ds k) (hk : k <= 1) (hg : ∀ d ρ ρ', bind d ρ = some ρ' -> GD X ρ tg d ρ') (hb : ∀ ρ fl, Okr (bodyF ρ) fl -> SsD X H0 ρ body fl) (h : Okr (forD bind bodyF ds (demote iter ρ)) fl)
    (hs : ∀ x, foldedSetIterable iter X.env x = pure x) : SD X H0 ρ (.For tg iter body [] pos) fl := by
  intro pins s σ H D0 I ⟨ow0, E0, hl, B0, q0⟩
  obtain ⟨ow, E, k0⟩ := env_demote (e := iter) E0
  have B := B0.keep k0
  have q := q0.keep k0
  have pb : PSs X body (fun D σ H => ∃ ρ fl, Okr (bodyF ρ) fl /\ tSD X H0 ρ fl D σ H) := fun pins s σ H D I ⟨ρ1, fl1, h1, h2⟩ => hb ρ1 fl1 h1 pins s σ H D I h2
  have pg : PG X tg (fun v σ H Q => ∃ g : TG, PG X tg g /\ g v σ H Q) := fun pins s σ H v u Q I r ⟨g, h1, h2⟩ => h1 pins s σ H v u Q I r h2
  refine ps_for hp hcalm (hi ow) pg pb hs pins s σ H D0 I ⟨E, fun J H1 s1 itd => ?_⟩
  refine ⟨fun i m σ' H' => m = ds.length - i /\ i <= ds.length /\ ∃ ow' ρ', EnvOk X ow' H' σ' ρ' /\ σ'.length = X.N.length /\ BaseOk H0 ow' H' /\ Keep ow H1 ow' H' /\ Okr (forD bind bodyF (ds.drop i) ρ') fl,
    ⟨ds.length, by simp, Nat.zero_le _, ow, _, E.same s1, hl, B.keep (Keep.same s1), Keep.refl _ _, h⟩, ?_⟩
  rintro i m σ' H' ⟨rfl, hile, ow', ρ', E', hl', B', k', hf⟩
  have q' : Post X H0 ow' H' fl D0 := q.keep ((Keep.same s1).trans k')
  have st : Stay (Kd ow H k H1) (Kd ow H k H1) H1 H' := ⟨fun a o ha hn => k'.keep a o ha (.inl hn), fun a vs ha p => k'.keep a _ ha (.inr (kp_shared E.own hk p.1)), fun _ _ _ p => p, fun _ p => p⟩
  have it := itd i H' st
  by_cases hlt : i < ds.length
  . obtain ⟨go, yl⟩ := it.1 ds[i] (List.getElem?_eq_getElem hlt)
    have hdrop : ds.drop i = ds[i] :: ds.drop (i + 1) := List.drop_eq_getElem_cons hlt
    rw [hdrop, forD] at hf
    refine .inr ⟨go, fun σ2 H2 => i + 1 <= ds.length /\ ∃ ow2 ρ2, EnvOk X ow2 H2 σ2 ρ2 /\ σ2.length = X.N.length /\ BaseOk H0 ow2 H2 /\ Keep ow H1 ow2 H2 /\ Okr (forD bind bodyF (ds.drop (i + 1)) ρ2) fl, fun σ2 H2 n => ⟨ds.length - (i + 1), by omega, rfl, n.1, n.2⟩, fun x H3 y3 => ?_⟩
    obtain ⟨sm3, rx⟩ := yl x H3 y3
    cases hbd : bind ds[i] ρ' with
    | none => rw [hbd] at hf; exact (okr_st hf).elim
    | some ρ1 =>
      rw [hbd] at hf
      dsimp only at hf
      obtain ⟨g, g1, g2⟩ := hg _ _ _ hbd
      have rx' : Rep X.K H3 (fun a b => b = true -> ow' a = none) ds[i] x := rx.impH (fun a o ha p _ => by
        obtain ⟨o1, h1⟩ := p.2 rfl
        exact k'.low a o1 h1 (kp_shared E.own hk p.1)) fun a _ z => (by cases z)
      refine ⟨g, g1, g2 ow' x σ' H3 _ hl' (E'.same sm3) rx' fun σ2 hl2 E2 => ?_⟩
      have k3 : Keep ow' H' ow' H3 := Keep.same sm3
      obtain ⟨f1, hbo, hf⟩ := okr_bnd hf
      refine ⟨ρ1, f1, hbo, ow', E2, hl2, B'.keep k3, ?_⟩
      cases f1 with
      | nx ρ2 => exact fun ow2 σ3 H4 a b c => ⟨hlt, ow2, ρ2, a, b, (B'.keep k3).keep c, k'.trans (k3.trans c), hf⟩
      | ct ρ2 => exact fun ow2 σ3 H4 a b c => ⟨hlt, ow2, ρ2, a, b, (B'.keep k3).keep c, k'.trans (k3.trans c), hf⟩
      | bk ρ2 => cases okr_ok hf; exact fun ow2 σ3 H4 a b c => q' ow2 σ3 H4 a b (k3.trans c)
      | rt d => cases okr_ok hf; exact q'
  . have ei : i = ds.length := by omega
    subst ei
    rw [List.drop_length, forD] at hf
    cases okr_ok hf
    exact .inl ⟨it.2 (Nat.le_refl _), q' ow' σ' H' E' hl' (Keep.refl _ _)⟩
theorem sd_while {H0 : Hp} {c : Expr} {body : List Stmt} {pos : Pos} {test : Rho -> Rs Bool} {bodyF : Rho -> Rs Fl} {fl : Fl} (hp : PassesOwn (model X.prog X.w) X.A X.env X.xe)
    (hc : ∀ ρ b, Okr (test ρ) b -> TD X ρ c b) (hb : ∀ ρ fl, Okr (bodyF ρ) fl -> SsD X H0 ρ body fl) {n0 : Nat} {ρ0 : Rho} (h : Okr (whD test bodyF n0 ρ0) fl) : SD X H0 ρ0 (.While c body [] pos) fl := by
  intro pins s σ H D0 I ⟨ow, E, hl, B, q⟩
  have pc : PT X c (fun σ H Q => ∃ ow ρ b, Okr (test ρ) b /\ tTD X ow ρ b σ H Q) := fun pins s σ H Q I ⟨ow, ρ, b, h1, h2⟩ => hc ρ b h1 ow pins s σ H Q I h2
  have pb : PSs X body (fun D σ H => ∃ ρ fl, Okr (bodyF ρ) fl /\ tSD X H0 ρ fl D σ H) := fun pins s σ H D I ⟨ρ1, fl1, h1, h2⟩ => hb ρ1 fl1 h1 pins s σ H D I h2
  refine ps_while hp pc pb pins s σ H D0 I ?_
  refine ⟨fun m σ' H' => ∃ ow' ρ', EnvOk X ow' H' σ' ρ' /\ σ'.length = X.N.length /\ BaseOk H0 ow' H' /\ Keep ow H ow' H' /\ Okr (whD test bodyF m ρ') fl, ⟨n0, ow, ρ0, E, hl, B, Keep.refl _ _, h⟩, ?_⟩
  rintro m σ' H' ⟨ow', ρ', E', hl', B', k', hw⟩
  have q' : Post X H0 ow' H' fl D0 := q.keep k'
  cases m with
  | zero => exact (okr_st hw).elim
  | succ m =>
    rw [whD] at hw
    obtain ⟨b, ht, hw⟩ := okr_bnd hw
    refine ⟨ow', ρ', b, ht, E', fun H1 s1 => ?_⟩
    have k1 : Keep ow' H' ow' H1 := Keep.same s1
    cases b with
    | false =>
      cases okr_ok hw
      exact q' ow' σ' H1 (E'.same s1) hl' k1
    | true =>
      rw [cond_true] at hw
      show if true = true then _ else _
      rw [if_pos rfl]
      refine ⟨fun σ2 H2 => ∃ ow2 ρ2, EnvOk X ow2 H2 σ2 ρ2 /\ σ2.length = X.N.length /\ BaseOk H0 ow2 H2 /\ Keep ow H ow2 H2 /\ Okr (whD test bodyF m ρ2) fl, fun σ2 H2 z => ⟨m, Nat.lt_succ_self _, z⟩, ?_⟩
      obtain ⟨f1, hbo, hw⟩ := okr_bnd hw
      refine ⟨ρ', f1, hbo, ow', E'.same s1, hl', B'.keep k1, ?_⟩
      cases f1 with
      | nx ρ2 => exact fun ow2 σ3 H4 a b c => ⟨ow2, ρ2, a, b, (B'.keep k1).keep c, k'.trans (k1.trans c), hw⟩
      | ct ρ2 => exact fun ow2 σ3 H4 a b c => ⟨ow2, ρ2, a, b, (B'.keep k1).keep c, k'.trans (k1.trans c), hw⟩
      | bk ρ2 => cases okr_ok hw; exact fun ow2 σ3 H4 a b c => q' ow2 σ3 H4 a b (k1.trans c)
      | rt d => cases okr_ok hw; exact q'
theorem ok_ev {Φ : Fx} {e : Expr} {it : Bool} {sc : Scope} {ρ : Rho} {p : D × Nat} {X : Cx} (h : Okr (evE Φ e it sc ρ) p) (G : Good Φ X sc) : Con X ρ e it p.1 p.2 := let ⟨_, h, hp⟩ := h; ev_ok e h hp G
theorem isComp_eq {e : Expr} (h : isComp e = true) : (∃ a b c d, e = .ListComp a b c d) \/ ∀ (Φ : Fx) (sc : Scope) (ρ : Rho), evE Φ e false sc ρ = .st := by
  cases e <;> first | exact .inl ⟨_, _, _, _, rfl⟩ | exact .inr fun _ _ _ => rfl | cases h
theorem sd_assign {Φ : Fx} {sc : Scope} {H0 : Hp} {ρ : Rho} {e : Expr} {x : Str} {p pos : Pos} {r : D × Nat} {o : Bool} (G : Good Φ X sc) (hx : locK sc x = true) (h : Okr (evE Φ e false sc ρ) r) (ho : (r.2 = 0 /\ o = true) \/ (r.2 = 1 /\ o = false)) :
    SD X H0 ρ (.Assign [.Name x p] e pos) (.nx (putR ρ x (r.1, o))) := by
  by_cases hc : isComp e = true
  . rcases isComp_eq hc with ⟨elt, gens, scope, q, rfl⟩ | hno
    rotate_left
    . rw [hno] at h; exact (okr_st h).elim
    . clear hc
      have hsw : ∃ b, swapsWith (.ListComp elt gens scope q) (some (.Name x p)) pos.line X.env = pure b := ⟨_, rfl⟩
      obtain ⟨b, hsw⟩ := hsw
      cases b with
      | false => exact sd_set G hx ((ok_ev h G).ed rfl) ho hsw
      | true =>
        obtain ⟨l, h, hp⟩ := h
        obtain ⟨tg, iter, ifs, rfl⟩ := gens_eq h
        obtain ⟨ds, f, k1, a1, a2, a3, a4, a5, a6, a7, a8, a9⟩ := st_comp (ih_all Φ _) (Nat.lt_succ_self _) h hp G
        obtain ⟨g1, g2, g3, i, g4⟩ := loc_of G hx
        rw [a9]
        intro pins s σ H D0 I ⟨ow, E, hl, B, q⟩
        refine ps_comp (D0 := D0) (i := i) G.calm G.nd a1 a2 a3 a4 a5 a6 a7 a8 I E hsw g4 g1 g3 fun v H1 s1 r1 => ?_
        rcases ho with ⟨ho, rfl⟩ | ⟨ho, rfl⟩ <;> rw [ho] at r1
        . obtain ⟨ow', E', k'⟩ := env_own G.nd hl E s1 g4 g2 r1
          exact q ow' _ H1 E' (by rw [List.length_set]; exact hl) k'
        . exact q ow _ H1 (env_put G.nd hl (E.same s1) g4 g2 r1) (by rw [List.length_set]; exact hl) (Keep.same s1)
  . exact sd_set G hx ((ok_ev h G).ed rfl) ho (swaps_plain (by simpa using hc))
theorem evE_noslice {Φ : Fx} {e : Expr} {it : Bool} {sc : Scope} {ρ : Rho} {r : D × Nat} (h : Okr (evE Φ e it sc ρ) r) : ∀ a b c p, e ≠ .Slice a b c p := by
  intro a b c p z; subst z; exact (okr_st h).elim
theorem ownL_inv {ρ : Rho} {x : Str} {f : List D -> Rs Fl} {fl : Fl} (h : Okr (ownL ρ x f) fl) : ∃ l, ρ x = some (.lst l, true) /\ llessL l = true /\ okN x = true /\ Okr (f l) fl := by
  unfold ownL at h
  split at h
  . rename_i l e
    split at h
    . rename_i c
      obtain ⟨u, h1, h2⟩ := okr_bnd h
      obtain ⟨m, h1, hm⟩ := h1
      cases h1
      exact ⟨l, e, hm.1, c, h2⟩
    . exact (okr_st h).elim
  . exact (okr_st h).elim
theorem ownM_inv {ρ : Rho} {x : Str} {f : List D -> Rs Fl} {fl : Fl} (h : Okr (ownM ρ x f) fl) : ∃ l, ρ x = some (.lst l, true) /\ okN x = true /\ Okr (f l) fl := by
  unfold ownM at h
  split at h
  . rename_i l e
    split at h
    . rename_i c
      exact ⟨l, e, c, h⟩
    . exact (okr_st h).elim
  . exact (okr_st h).elim
theorem okr_inv {α : Type} {a b : α} {l : List Prop} (h : Okr (.ok a l) b) : a = b /\ allP l := by obtain ⟨m, h, hp⟩ := h; cases h; exact ⟨rfl, hp⟩
theorem par_ok {Φ : Fx} {es : List Expr} {e : Expr} {n : Nat} {p pos : Pos} {sc : Scope} {ρ : Rho} {fl : Fl} {X : Cx} {H0 : Hp} (h : Okr (exPar Φ es e sc ρ) fl) (G : Good Φ X sc) : SD X H0 ρ (.Assign [.Tuple es n p] e pos) fl := by
  unfold exPar at h
  split at h
  . split at h
    . rename_i hp
      obtain ⟨q, ⟨lq, h1, hq⟩, h⟩ := okr_bnd h
      split at h
      . rename_i u v hd
        split at h
        . rename_i hf
          cases okr_ok h
          obtain ⟨n1, _⟩ := evEs_nostar h1 hq
          have c := evs_ok _ h1 hq G
          rw [hd] at c
          exact sd_par G c hf hp (n1 _ (by simp)) (n1 _ (by simp))
        . exact (okr_st h).elim
      . exact (okr_st h).elim
    . exact (okr_st h).elim
  . exact (okr_st h).elim
theorem asg_ok {Φ : Fx} {tgs : List Expr} {e : Expr} {sc : Scope} {ρ : Rho} {fl : Fl} {X : Cx} {H0 : Hp} {pos : Pos} (h : Okr (exAsg Φ tgs e sc ρ) fl) (G : Good Φ X sc) : SD X H0 ρ (.Assign tgs e pos) fl := by
  unfold exAsg at h
  split at h
  . obtain ⟨p, h1, h⟩ := okr_bnd h
    unfold putO at h
    split at h
    . rename_i hx
      split at h
      . rename_i ho; cases okr_ok h; exact sd_assign G hx h1 (.inl ⟨ho, rfl⟩)
      . rename_i ho; cases okr_ok h; exact sd_assign G hx h1 (.inr ⟨ho, rfl⟩)
      . exact (okr_st h).elim
    . exact (okr_st h).elim
  . split at h
    . exact par_ok h G
    . rename_i ht
      have ht := Bool.eq_false_iff.mpr ht
      obtain ⟨p, h1, h⟩ := okr_bnd h
      split at h
      . rename_i ds hd
        split at h
        . rename_i hf
          split at h
          . rename_i ρ' hb
            cases okr_ok h
            exact sd_tup G ((ok_ev h1 G).ed rfl) hd hf hb ht
          . exact (okr_st h).elim
        . exact (okr_st h).elim
      . exact (okr_st h).elim
  . split at h
    . rename_i hc
      obtain ⟨p, h1, h⟩ := okr_bnd h
      obtain ⟨q, h2, h⟩ := okr_bnd h
      split at h
      . rename_i j hj
        obtain ⟨l, a1, a2, a3, h⟩ := ownL_inv h
        split at h
        . rename_i l' hs
          obtain ⟨h9, hf, _⟩ := okr_inv h
          subst h9
          have c2 := (ok_ev h2 G).ed rfl
          rw [hj] at c2
          exact sd_store a1 ((ok_ev h1 G).ed rfl) c2 a2 hf a3 hs (evE_noslice h2)
        . exact (okr_st h).elim
      . exact (okr_st h).elim
    . exact (okr_st h).elim
  . exact (okr_st h).elim
theorem okr_int {p : D × Nat} {f : Int -> R1} {a : D × Nat} (h : Okr (intR p f) a) : ∃ b, p.1 = .int b /\ Okr (f b) a := by
  obtain ⟨l, h, hp⟩ := h
  obtain ⟨b, h1, h2⟩ := intR_inv h
  exact ⟨b, h1, l, h2, hp⟩
theorem aug_ok {Φ : Fx} {t e : Expr} {op : Operator} {sc : Scope} {ρ : Rho} {fl : Fl} {X : Cx} {H0 : Hp} {pos : Pos} (h : Okr (exAug Φ t op e sc ρ) fl) (G : Good Φ X sc) : SD X H0 ρ (.AugAssign t op e pos) fl := by
  unfold exAug at h
  split at h
  . split at h
    . rename_i hx
      split at h
      . rename_i p hp
        obtain ⟨r, h1, h⟩ := okr_bnd h
        cases okr_ok h
        obtain ⟨a, ha, h3⟩ := okr_int h1
        obtain ⟨q, h2, h4⟩ := okr_bnd h3
        obtain ⟨b, hb, h5⟩ := okr_int h4
        obtain ⟨l, h9, hpl⟩ := h5
        have c := (ok_ev h2 G).ed rfl
        rw [hb] at c
        obtain ⟨p1, p2⟩ := p
        have ha : p1 = .int a := ha
        subst ha
        exact sd_aug G hx hp c h9 hpl
      . exact (okr_st h).elim
    . exact (okr_st h).elim
  . exact (okr_st h).elim
theorem exp_ok {Φ : Fx} {e : Expr} {sc : Scope} {ρ : Rho} {fl : Fl} {X : Cx} {H0 : Hp} {pos : Pos} (h : Okr (exExp Φ e sc ρ) fl) (G : Good Φ X sc) : SD X H0 ρ (.Expr e pos) fl := by
  unfold exExp at h
  split at h
  . split at h
    . rename_i hln
      obtain ⟨p, ⟨lp, h1, hp1⟩, h⟩ := okr_bnd h
      split at h
      . rename_i M hM
        obtain ⟨l, a1, a3, h⟩ := ownM_inv h
        obtain ⟨l', ⟨o, h2, hp2⟩, h⟩ := okr_bnd h
        cases okr_ok h
        obtain ⟨n1, n2⟩ := evEs_nostar h1 hp1
        exact sd_mut G.calm (G.mtt _ M hM) a1 (evs_ok _ h1 hp1 G) n1 n2 a3 hln h2 hp2
      . exact (okr_st h).elim
    . exact (okr_st h).elim
  . obtain ⟨p, h1, h⟩ := okr_bnd h
    cases okr_ok h
    exact sd_expr ((ok_ev h1 G).ed rfl) ⟨_, _, _, _, _, rfl⟩
  . exact (okr_st h).elim
structure Is (Φ : Fx) (n : Nat) : Prop where
  s : ∀ (st : Stmt) {sc : Scope} {ρ : Rho} {fl : Fl} {X : Cx} {H0 : Hp}, sizeOf st < n -> Okr (exS Φ st sc ρ) fl -> Good Φ X sc -> PassesOwn (model X.prog X.w) X.A X.env X.xe -> SD X H0 ρ st fl
  ss : ∀ (st : List Stmt) {sc : Scope} {ρ : Rho} {fl : Fl} {X : Cx} {H0 : Hp}, sizeOf st < n -> Okr (exSs Φ st sc ρ) fl -> Good Φ X sc -> PassesOwn (model X.prog X.w) X.A X.env X.xe -> SsD X H0 ρ st fl
theorem okr_bl {p : D × Nat} {α : Type} {f : Bool -> Rs α} {a : α} (h : Okr (blR p f) a) : ∃ b, p.1 = .bl b /\ Okr (f b) a := by
  obtain ⟨l, h, hp⟩ := h
  obtain ⟨b, h1, h2⟩ := blR_inv h
  exact ⟨b, h1, l, h2, hp⟩
theorem ex_st {Φ : Fx} {n : Nat} (I : Is Φ n) (st : Stmt) {sc : Scope} {ρ : Rho} {fl : Fl} {X : Cx} {H0 : Hp} (hs : sizeOf st < n + 1) (h : Okr (exS Φ st sc ρ) fl) (G : Good Φ X sc) (hp : PassesOwn (model X.prog X.w) X.A X.env X.xe) : SD X H0 ρ st fl := by
  cases st with
  | Return e p =>
    cases e with
    | none => cases okr_ok h; exact sd_retN
    | some e =>
      obtain ⟨p, h1, h⟩ := okr_bnd (show Okr (Rs.bnd _ _) fl from h)
      unfold retK at h
      split at h
      . rename_i hk
        cases okr_ok h
        unfold rtR at h1
        cases hn : nestE e with
        | true => rw [hn] at h1; exact sd_retD ((ok_ev h1 G).ed rfl) hk
        | false => rw [hn] at h1; exact sd_ret ((ok_ev h1 G).ed rfl) hk
      . exact (okr_st h).elim
  | Pass p => cases okr_ok h; exact sd_pass
  | Break p => cases okr_ok h; exact sd_break
  | Continue p => cases okr_ok h; exact sd_cont
  | Assign tgs e p => exact asg_ok h G
  | AugAssign t op e p => exact aug_ok h G
  | Expr e p => exact exp_ok h G
  | If c a b p =>
    obtain ⟨p, h1, h⟩ := okr_bnd (show Okr (Rs.bnd _ _) fl from h)
    obtain ⟨t, ht, h⟩ := okr_bl h
    refine sd_if ((ok_ev h1 G).td rfl t ht) ?_
    cases t with
    | true => rw [if_pos rfl]; exact I.ss _ (szE (by simp <;> omega) hs) h G hp
    | false => rw [if_neg Bool.false_ne_true]; exact I.ss _ (szE (by simp <;> omega) hs) h G hp
  | For tg it body els p =>
    rw [exS_for] at h
    split at h
    . rename_i he
      have he := List.isEmpty_iff.mp he
      subst he
      obtain ⟨p, h1, h⟩ := okr_bnd h
      split at h
      . rename_i ds hd
        split at h
        . rename_i hk
          obtain ⟨lq, h1', _⟩ := id h1
          exact sd_for hp G.calm ((ok_ev h1 G).ie rfl _ ds hd hk.2) hk.1 (fun d ρ ρ' hb => gd_of G hb) (fun ρ1 f1 h2 => I.ss _ (szE (by simp <;> omega) hs) h2 G hp) h (folded_of h1')
        . exact (okr_st h).elim
      . exact (okr_st h).elim
    . exact (okr_st h).elim
  | While c body els p =>
    rw [exS_wh] at h
    split at h
    . rename_i he
      have he := List.isEmpty_iff.mp he
      subst he
      refine sd_while hp (fun ρ b hb => ?_) (fun ρ1 f1 h2 => I.ss _ (szE (by simp <;> omega) hs) h2 G hp) h
      obtain ⟨p, h1, hb⟩ := okr_bnd hb
      obtain ⟨t, ht, hb⟩ := okr_bl hb
      cases okr_ok hb
      exact (ok_ev h1 G).td rfl _ ht
    . exact (okr_st h).elim
  | _ => exact (okr_st h).elim
theorem exs_st {Φ : Fx} {n : Nat} (I : Is Φ n) (ss : List Stmt) {sc : Scope} {ρ : Rho} {fl : Fl} {X : Cx} {H0 : Hp} (hs : sizeOf ss < n + 1) (h : Okr (exSs Φ ss sc ρ) fl) (G : Good Φ X sc) (hp : PassesOwn (model X.prog X.w) X.A X.env X.xe) : SsD X H0 ρ ss fl := by
  cases ss with
  | nil => cases okr_ok h; exact ssd_nil
  | cons s ss =>
    obtain ⟨f1, h1, h⟩ := okr_bnd (show Okr (Rs.bnd _ _) fl from h)
    have c := I.s s (H0 := H0) (szE (by simp <;> omega) hs) h1 G hp
    cases f1 with
    | nx ρ' => exact ssd_cons c (I.ss ss (szE (by simp <;> omega) hs) h G hp)
    | bk ρ' => cases okr_ok h; exact ssd_stop c (fun _ z => (by cases z))
    | ct ρ' => cases okr_ok h; exact ssd_stop c (fun _ z => (by cases z))
    | rt d => cases okr_ok h; exact ssd_stop c (fun _ z => (by cases z))
theorem is_all (Φ : Fx) : ∀ n, Is Φ n
  | 0 => ⟨fun _ _ _ _ _ _ h => absurd h (Nat.not_lt_zero _), fun _ _ _ _ _ _ h => absurd h (Nat.not_lt_zero _)⟩
  | n + 1 => ⟨fun e _ _ _ _ _ hs h G hp => ex_st (is_all Φ n) e hs h G hp, fun e _ _ _ _ _ hs h G hp => exs_st (is_all Φ n) e hs h G hp⟩
theorem exs_ok {Φ : Fx} (ss : List Stmt) {sc : Scope} {ρ : Rho} {fl : Fl} {X : Cx} {H0 : Hp} (h : Okr (exSs Φ ss sc ρ) fl) (G : Good Φ X sc) (hp : PassesOwn (model X.prog X.w) X.A X.env X.xe) : SsD X H0 ρ ss fl := (is_all Φ _).ss ss (Nat.lt_succ_self _) h G hp
end Sp
set_option Elab.async false
set_option linter.all false
set_option maxRecDepth 100000
namespace Sp
open PySem PySem.Spec PyProof.Rows L2
def localsOf (sc : Scope) : List Str := (sc.names.filter fun y => y.2 == .local || y.2 == .cell).map (·.1)
def FnD (P : Program) (w : World) (K : PySem.W.Frag) (mg : Str -> Option Value) (base : Heap) (k : Nat) (g : Str) (F : List D -> Rs D) : Prop :=
  ∃ f fd ps, FnOk P w K mg base CX0 k f fd ps (spD K F) /\ mg g = some (.ref f) /\ PySem.W.keepIn K (.ref f) = true /\ Binds K fd ps [] /\ (g == ("__debug__" : Str)) = false
theorem FnD.mono {P : Program} {w : World} {K : PySem.W.Frag} {mg : Str -> Option Value} {base : Heap} {j k : Nat} {g : Str} {F : List D -> Rs D} (h : FnD P w K mg base j g F) (hjk : j <= k) : FnD P w K mg base k g F :=
  let ⟨f, fd, ps, h1, h2⟩ := h; ⟨f, fd, ps, h1.mono hjk, h2⟩
def MkD (P : Program) (w : World) (K : PySem.W.Frag) (mg : Str -> Option Value) (base : Heap) (k : Nat) (g : Str) (F : List D -> Rs D) : Prop :=
  ∃ j C f fd ps, j + 1 <= k /\ (∀ ds r l, F ds = .ok r l -> r.lless = true) /\ Mk K C f /\ FnOk P w K mg base CX0 j f fd ps (spI K g F) /\ mg g = some (.ref C) /\ PySem.W.nsIn K mainGlobals g = some (some (.ref C)) /\ Cls K C /\ Binds K fd ps [] /\ (g == ("__debug__" : Str)) = false
theorem MkD.mono {P : Program} {w : World} {K : PySem.W.Frag} {mg : Str -> Option Value} {base : Heap} {j k : Nat} {g : Str} {F : List D -> Rs D} (h : MkD P w K mg base j g F) (hjk : j <= k) : MkD P w K mg base k g F :=
  let ⟨i, C, f, fd, ps, h0, h1⟩ := h; ⟨i, C, f, fd, ps, Nat.le_trans h0 hjk, h1⟩
def FnE (P : Program) (w : World) (K : PySem.W.Frag) (mg : Str -> Option Value) (base : Heap) (k : Nat) (g : Str) (F : List D -> Rs D) : Prop := FnD P w K mg base k g F \/ MkD P w K mg base k g F
def MethD (P : Program) (w : World) (K : PySem.W.Frag) (mg : Str -> Option Value) (base : Heap) (k : Nat) (n m : Str) (F : List D -> Rs D) : Prop :=
  ∃ C f fd ps, PySem.W.nsIn K mainGlobals n = some (some (.ref C)) /\ Cls K C /\ Meth K C m f /\ FnOk P w K mg base CX0 k f fd ps (spD K F) /\ Binds K fd ps []
theorem MethD.mono {P : Program} {w : World} {K : PySem.W.Frag} {mg : Str -> Option Value} {base : Heap} {j k : Nat} {n m : Str} {F : List D -> Rs D} (h : MethD P w K mg base j n m F) (hjk : j <= k) : MethD P w K mg base k n m F :=
  let ⟨C, f, fd, ps, h1, h2, h3, h4, h5⟩ := h; ⟨C, f, fd, ps, h1, h2, h3, h4.mono hjk, h5⟩
theorem arg_look : ∀ {ps : List Str} {ds : List D} {x : Str} {d : D} {o : Bool}, argR ps ds x = some (d, o) -> o = false /\ ∃ i : Nat, ps[i]? = some x /\ ds[i]? = some d
  | [], ds, x, d, o, h => by cases ds <;> cases h
  | p :: ps, [], x, d, o, h => by cases h
  | p :: ps, y :: ds, x, d, o, h => by
    replace h : (if x = p then some (y, false) else argR ps ds x) = some (d, o) := h
    by_cases e : x = p
    . rw [if_pos e] at h
      cases h; subst e; exact ⟨rfl, 0, rfl, rfl⟩
    . rw [if_neg e] at h
      obtain ⟨h1, i, h2, h3⟩ := arg_look h
      exact ⟨h1, i + 1, by simpa using h2, by simpa using h3⟩
structure Fxo (P : Program) (w : World) (K : PySem.W.Frag) (mg : Str -> Option Value) (base : Heap) (k : Nat) (Φ : Fx) : Prop where
  fn : ∀ g F, Φ.fn g = some F -> FnE P w K mg base k g F
  con : ∀ x d, Φ.con x = some d -> ∃ v u, mg x = some u /\ RelV v u /\ ∀ H P, Rep K H P d v
  blt : ∀ f B, Φ.blt f = some B -> BltOk f B
  itr : ∀ f B, Φ.itr f = some B -> ItrOk f B
  mth : ∀ m M, Φ.mth m = some M -> MthOk m M
  mtt : ∀ m M, Φ.mtt m = some M -> MutOk m M
  slf : SlfOk Φ.slf
  fld : ∀ n f, Φ.fld n f = true -> ∀ C, PySem.W.nsIn K mainGlobals n = some (some (.ref C)) -> NoAttr K C f
  omt : ∀ n m F, Φ.omt n m = some F -> MethD P w K mg base k n m F
  bl : ∀ n ∈ bnames, mg n = none
def Runs (Φ : Fx) (sc : Scope) (ps : List Str) (body : List Stmt) (F : List D -> Rs D) : Prop := ∀ ds r, Okr (F ds) r -> Okr (runD Φ sc ps body ds) r
theorem Runs.self {Φ : Fx} {sc : Scope} {ps : List Str} {body : List Stmt} : Runs Φ sc ps body (runD Φ sc ps body) := fun _ _ h => h
theorem good_mk {P : Program} {w : World} {K : PySem.W.Frag} {mg : Str -> Option Value} {base : Heap} {k : Nat} {qual : Str} {st : Stmt} {f : Addr} {ps : List Str} {Φ : Fx} {cdv : Value} {A : Around} {outer : List Env} {s : Shared} {H : Hp} {E : XK}
    (S : FnScope (localsOf (defScope st)) ps (defScope st)) (hΦ : Fxo P w K mg base k Φ) (hr : Room k (A.deeper (envOfC qual (defScope st) s.heap.objs.size f cdv))) :
    Good Φ (cxOf CX0 P w K mg base (localsOf (defScope st)) qual (defScope st) f cdv A outer s H E).nox (defScope st) := by
  have hun := hr.un
  refine ⟨rfl, S.nd, fun x hx => hx, fun x hx => hx, fun x hx => hx, fun x hx => hx, fun g' F' hg => ?_, hΦ.con, hΦ.blt, hΦ.itr, hΦ.mth, hΦ.mtt, hΦ.slf, hΦ.fld, fun n m F hF => ?_, hΦ.bl, ?_, fun x hx => ?_, fun x _ => rfl⟩
  . rcases hΦ.fn g' F' hg with z | z
    . obtain ⟨f', fd', ps', a1, a2, a3, a4, a5⟩ := z
      exact .inl ⟨k, f', fd', ps', a1, hr, a2, a3, a4, a5⟩
    . obtain ⟨j, C, f', fd', ps', a0, a1, a2, a3, a4⟩ := z
      exact .inr ⟨j, C, f', fd', ps', a1, a2, a3, hr.mono a0, a4⟩
  . obtain ⟨C, f', fd', ps', a1, a2, a3, a4, a5⟩ := hΦ.omt n m F hF
    exact ⟨k, C, f', fd', ps', a1, a2, a3, a4, hr, a5⟩
  . show (A.deeper _).units + 70 < cLine
    omega
  . show x ∈ localsOf (defScope st)
    unfold localsOf
    unfold locK at hx
    rw [Bool.or_eq_true] at hx
    rcases hx with hx | hx
    . have hx : (defScope st).names.lookup x = some .local := by simpa using hx
      exact List.mem_map.mpr ⟨(x, .local), List.mem_filter.mpr ⟨PySem.mem_of_lookup hx, by simp⟩, rfl⟩
    . have hx : (defScope st).names.lookup x = some .cell := by simpa using hx
      exact List.mem_map.mpr ⟨(x, .cell), List.mem_filter.mpr ⟨PySem.mem_of_lookup hx, by simp⟩, rfl⟩
theorem env_mk {P : Program} {w : World} {K : PySem.W.Frag} {mg : Str -> Option Value} {base : Heap} {qual : Str} {st : Stmt} {f : Addr} {ps : List Str} {cdv : Value} {A : Around} {outer : List Env} {s : Shared} {H : Hp} {E : XK} {ds : List D} {vs : List V}
    (S : FnScope (localsOf (defScope st)) ps (defScope st)) (h1 : RepL K H (fun _ _ => True) ds vs) (hl : ds.length = ps.length) :
    EnvOk (cxOf CX0 P w K mg base (localsOf (defScope st)) qual (defScope st) f cdv A outer s H E).nox (fun _ => none) H (start (localsOf (defScope st)) vs) (argR ps ds) /\ (start (localsOf (defScope st)) vs).length = (localsOf (defScope st)).length := by
  have hpl : ps.length <= (localsOf (defScope st)).length := by have := congrArg List.length S.pre; rw [List.length_take] at this; omega
  have hvl : vs.length = ps.length := by rw [<- h1.length]; exact hl
  refine ⟨⟨fun x d o hx => ?_, fun a ha => absurd rfl ha⟩, by unfold L2.start; rw [List.length_append, List.length_map, List.length_replicate]; omega⟩
  obtain ⟨rfl, i, i1, i2⟩ := arg_look hx
  obtain ⟨v, i3, i4⟩ := h1.get i2
  have hi : i < ps.length := (List.getElem?_eq_some_iff.mp i1).1
  refine ⟨i, v, ?_, ?_, ?_, i4.imp fun a b _ _ => rfl⟩
  . show (localsOf (defScope st))[i]? = some x
    rw [<- S.pre, List.getElem?_take_of_lt hi] at i1
    exact i1
  . rcases S.par x (List.mem_of_getElem? i1) with z | z
    . exact .inl z
    . exact .inr (.inl z)
  . unfold L2.start
    rw [List.getElem?_append_left (by rw [List.length_map]; omega), List.getElem?_map, i3]; rfl
theorem fnOk_of {P : Program} {w : World} {K : PySem.W.Frag} {mg : Str -> Option Value} {base : Heap} {k : Nat} {g qual : Str} {st : Stmt} {f : Addr} {fd : FuncData} {ps : List Str} {F : List D -> Rs D} {Φ : Fx} (Fn : Fun K g qual st f fd)
    (S : FnScope (localsOf (defScope st)) ps (defScope st)) (hΦ : Fxo P w K mg base k Φ)
    (hrun : Runs Φ (defScope st) ps (defBody st) F) : FnOk P w K mg base CX0 (k + 1) f fd ps (spD K F) := by
  refine Fn.ok S (fun vs H Q E h => ?_) (fun cdv A outer s H vs Q E hr h => ?_)
  . obtain ⟨ds, r, l, h1, h2, hp, _⟩ := h
    have := hrun ds r ⟨l, h2, hp⟩
    unfold runD at this
    split at this
    . rename_i hl; rw [<- h1.length]; exact hl
    . exact (okr_st this).elim
  . obtain ⟨ds, r, l, h1, h2, hp, q⟩ := h
    have hr1 := hrun ds r ⟨l, h2, hp⟩
    unfold runD at hr1
    split at hr1
    . rename_i hl
      have G := good_mk (outer := outer) (H := H) (E := E) S hΦ hr
      obtain ⟨E0, hsl⟩ := env_mk (P := P) (w := w) (mg := mg) (base := base) (qual := qual) (f := f) (cdv := cdv) (A := A) (outer := outer) (s := s) (E := E) S h1 hl
      have B0 : BaseOk H (fun _ => none) H := fun a o h => ⟨h, rfl⟩
      obtain ⟨fl, hx, hr1⟩ := okr_bnd hr1
      cases fl with
      | rt d =>
        cases okr_ok hr1
        exact ⟨_, exs_ok _ (H0 := H) hx G PassesOwn.never, fun _ => none, E0, hsl, B0, fun v H' sm rp => q v H' sm rp⟩
      | nx ρ' =>
        cases okr_ok hr1
        exact ⟨_, exs_ok _ (H0 := H) hx G PassesOwn.never, fun _ => none, E0, hsl, B0, fun ow' σ' H' _ _ kp => q .non H' (fun a o h => kp.keep a o h (.inr rfl)) (by rw [Rep])⟩
      | bk ρ' => exact (okr_st hr1).elim
      | ct ρ' => exact (okr_st hr1).elim
    . exact (okr_st hr1).elim
def spB (K : PySem.W.Frag) (fs : List Str) : Sp := fun vs H Q _ => ∃ x ws C dx, vs = .ref x :: ws /\ ws.length = fs.length /\ H x = some (.ins C dx []) /\ Cls K C /\ (∀ f ∈ fs, NoAttr K C f) /\ Q .non (upd H x (.ins C dx (fs.zip ws)))
theorem base_ok {P : Program} {w : World} {K : PySem.W.Frag} {mg : Str -> Option Value} {base : Heap} {g qual : Str} {st : Stmt} {f : Addr} {fd : FuncData} (Fn : Fun K g qual st f fd) {s0 a1 a2 a3 f1 f2 f3 : Str} {p1 p2 p3 p4 q1 q2 q3 q4 r1 r2 r3 r4 : Pos}
    (hN : localsOf (defScope st) = [s0, a1, a2, a3]) (S : FnScope (localsOf (defScope st)) [s0, a1, a2, a3] (defScope st)) (hv : ∀ x ∈ [s0, a1, a2, a3], Vis (defScope st) x) (hok : ∀ x ∈ [s0, a1, a2, a3], okN x = true)
    (hb : defBody st = [.Assign [.Attribute (.Name s0 p1) f1 p2] (.Name a1 p3) p4, .Assign [.Attribute (.Name s0 q1) f2 q2] (.Name a2 q3) q4, .Assign [.Attribute (.Name s0 r1) f3 r2] (.Name a3 r3) r4]) (h12 : f1 ≠ f2) (h13 : f1 ≠ f3) (h23 : f2 ≠ f3) :
    FnOk P w K mg base CX0 1 f fd [s0, a1, a2, a3] (spB K [f1, f2, f3]) := by
  refine Fn.ok (k := 0) S (fun vs H Q E h => ?_) (fun cdv A outer s H vs Q E hr h => ?_)
  . obtain ⟨x, ws, C, dx, rfl, hl, _⟩ := h
    rw [List.length_cons, hl]; rfl
  . obtain ⟨x, ws, C, dx, rfl, hl, hx, hc, hn, q⟩ := h
    obtain ⟨y1, ws, rfl⟩ : ∃ y r, ws = y :: r := by cases ws with | nil => cases hl | cons y r => exact ⟨y, r, rfl⟩
    obtain ⟨y2, ws, rfl⟩ : ∃ y r, ws = y :: r := by cases ws with | nil => cases hl | cons y r => exact ⟨y, r, rfl⟩
    obtain ⟨y3, ws, rfl⟩ : ∃ y r, ws = y :: r := by cases ws with | nil => cases hl | cons y r => exact ⟨y, r, rfl⟩
    obtain rfl : ws = [] := by cases ws with | nil => rfl | cons _ _ => cases hl
    have nm : ∀ (i : Nat) (x : Str) (p : Pos), [s0, a1, a2, a3][i]? = some x -> PE (cxOf CX0 P w K mg base (localsOf (defScope st)) qual (defScope st) f cdv A outer s H E).nox (.Name x p) (tVar i) := fun i x p hi =>
      pe_var (by show (localsOf (defScope st))[i]? = some x; rw [hN]; exact hi) (hv x (List.mem_of_getElem? hi)) (okN_of (hok x (List.mem_of_getElem? hi))).1 (okN_of (hok x (List.mem_of_getElem? hi))).2
    rw [hb]
    refine ⟨_, pss_cons (ps_fld (nm 0 s0 p1 rfl) (nm 1 a1 p3 rfl) rfl) (pss_cons (ps_fld (nm 0 s0 q1 rfl) (nm 2 a2 q3 rfl) rfl) (pss_one (ps_fld (nm 0 s0 r1 rfl) (nm 3 a3 r3 rfl) rfl))), ?_⟩
    rw [hN]
    refine ⟨y1, rfl, .ref x, rfl, x, C, dx, _, rfl, hx, hc, hn f1 (by simp), by decide, ?_⟩
    refine ⟨y2, rfl, .ref x, rfl, x, C, dx, _, rfl, upd_same, hc, hn f2 (by simp), by simp [putF], ?_⟩
    refine ⟨y3, rfl, .ref x, rfl, x, C, dx, _, rfl, upd_same, hc, hn f3 (by simp), ?_, ?_⟩
    . have := length_putF f2 y2 (putF f1 y1 []); have := length_putF f1 y1 []; simp at this; omega
    . rw [upd_upd, upd_upd]
      have e : putF f3 y3 (putF f2 y2 (putF f1 y1 [])) = [(f1, y1), (f2, y2), (f3, y3)] := by simp [putF, h12, h13, h23]
      rw [e]
      exact q
theorem pe_cmeth {X : Cx} {CX : CXT} {k : Nat} {f C : Addr} {fd : FuncData} {ps : List Str} {sp : Sp} {E : XK} {b m : Str} {p pos apos : Pos} {e : Expr} {es : List Expr} {t : TA} {mc : Value} (hg : Gl X b) (hm : X.mg b = some (.ref C)) (hga : PySem.W.specialIn X.K (.ref C) "__getattribute__" = some (some (.builtin "type.__getattribute__")))
    (hrd : PySem.W.readsIn X.K C mc = true) (hfc : PySem.W.findCls X.K (.ref C) mc m = some (.val (.ref f))) (hk : PySem.W.keepIn X.K (.ref f) = true) (F : FnOk X.prog X.w X.K X.mg X.base CX k f fd ps sp) (hr : Room k X.A) (hb : Binds X.K fd ps []) (hx : Passes CX X E) (ha : PA X (e :: es) t)
    (hst : starEach (e :: es) X.env = (false, eval e X.env) :: starEach es X.env) (hpl : (backTo pos (starEach es X.env)).any (·.1) = false) (hdb : (b == ("__debug__" : Str)) = false)
    (ht : eval (.Call (.Attribute (.Name b p) m apos) (e :: es) [] pos) X.env = (do
      let ov <- eval (.Name b p) X.env
      standAt apos.atName
      let (f, first) <- holding [ov] (getMethod ov m (do return (<- importBound (.Name b p) X.env).getD true))
      callWith pos f first (backTo pos (starEach (e :: es) X.env)) (backToKw pos (keywordEach [] X.env)))) :
    PE X (.Call (.Attribute (.Name b p) m apos) (e :: es) [] pos) (tCall sp [] E t) := by
  intro pins s σ H Q I h
  refine PySem.W.methodCall_KW (pl := (do return (<- importBound (.Name b p) X.env).getD true)) (ld_glob I hg hm ?_ hdb) ht
  refine PySem.W.method_cls I.kIn hga (PySem.W.cls_value I.kIn hrd hfc rfl ?_)
  have I' := I.tok (s.toks + 1)
  refine PySem.W.callWith_K (first := []) (h₀ := X.base) I.ok.mod.kin hk (thn (ha pos pins _ σ H _ I' h) fun us s2 ⟨vs, H2, I2, r, q2⟩ => ⟨I2.kIn, ?_⟩) hst hpl
  exact run_fn (us := us) F hr hb .nil hx I2 r q2
mutual
def D.noObj : D -> Bool
  | .obj _ _ _ => false
  | .tup l => noObjL l
  | .lst l => noObjL l
  | _ => true
def noObjL : List D -> Bool
  | [] => true
  | d :: l => d.noObj && noObjL l
end
mutual
theorem Rep.off {K : PySem.W.Frag} {P : AP2} {H H' : Hp} {x C dx : Addr} {fs : List (Str × V)} (hx : H x = some (.ins C dx fs)) (s : ∀ a o, a ≠ x -> H a = some o -> H' a = some o) : ∀ {d : D} {v : V}, d.noObj = true -> Rep K H P d v -> Rep K H' P d v
  | .non, v, _, h => by rw [Rep] at h ⊢; exact h
  | .bl b, v, _, h => by rw [Rep] at h ⊢; exact h
  | .int i, v, _, h => by rw [Rep] at h ⊢; exact h
  | .str x, v, _, h => by rw [Rep] at h ⊢; exact h
  | .emp, v, _, h => by
    rw [Rep] at h ⊢
    obtain ⟨a, e, h⟩ := h
    exact ⟨a, e, s _ _ (ne_of h hx (fun z => nomatch z)) h⟩
  | .typ n, v, _, h => by rw [Rep] at h ⊢; exact h
  | .sn n, v, _, h => by
    rw [Rep] at h ⊢
    obtain ⟨a, S, e, h⟩ := h
    exact ⟨a, S, e, s _ _ (ne_of h hx (fun z => nomatch z)) h⟩
  | .obj n ns ds, v, f, h => by rw [D.noObj] at f; cases f
  | .cls n, v, _, h => by rw [Rep] at h ⊢; exact h
  | .tup l, v, f, h => by
    rw [Rep] at h ⊢
    obtain ⟨a, vs, e, h, r⟩ := h
    refine ⟨a, vs, e, ?_, RepL.off hx s (by rw [D.noObj] at f; exact f) r⟩
    rcases h with (h | ⟨o, h⟩) | h
    . exact .inl (.inl (s _ _ (ne_of h hx (fun z => nomatch z)) h))
    . exact .inl (.inr ⟨o, s _ _ (ne_of h hx (fun z => nomatch z)) h⟩)
    . exact .inr h
  | .lst l, v, f, h => by
    rw [Rep] at h ⊢
    obtain ⟨a, vs, b, e, h, p, r⟩ := h
    refine ⟨a, vs, b, e, ?_, p, RepL.off hx s (by rw [D.noObj] at f; exact f) r⟩
    cases b with
    | true => exact s _ _ (ne_of h hx (fun z => nomatch z)) h
    | false =>
      rcases h with ⟨o, h⟩ | h
      . exact .inl ⟨o, s _ _ (ne_of h hx (fun z => nomatch z)) h⟩
      . exact .inr h
theorem RepL.off {K : PySem.W.Frag} {P : AP2} {H H' : Hp} {x C dx : Addr} {fs : List (Str × V)} (hx : H x = some (.ins C dx fs)) (s : ∀ a o, a ≠ x -> H a = some o -> H' a = some o) : ∀ {l : List D} {vs : List V}, noObjL l = true -> RepL K H P l vs -> RepL K H' P l vs
  | [], vs, _, h => by rw [RepL] at h ⊢; exact h
  | d :: l, vs, f, h => by
    rw [RepL] at h ⊢
    rw [noObjL, Bool.and_eq_true] at f
    obtain ⟨v, r, e, h1, h2⟩ := h
    exact ⟨v, r, e, Rep.off hx s f.1 h1, RepL.off hx s f.2 h2⟩
end
def clsAt (s : Stmt) (j : Nat) : Stmt := (match s with | .ClassDef _ _ _ b _ _ _ _ _ _ _ => b | _ => []).getD j (.Pass ⟨0, 0, 0, 0⟩)
def initArgs (s : Stmt) : List Expr := match defBody s with
  | [.Expr (.Call _ (_ :: args) _ _) _] => args
  | _ => []
def initD (Φ : Fx) (sc : Scope) (ps : List Str) (args : List Expr) (n : Str) (fs : List Str) (ds : List D) : Rs D :=
  if ds.length + 1 = ps.length then (evEs Φ args sc (argR ps (.obj n [] [] :: ds))).bnd fun q => if q.1.length = fs.length then .ok (.obj n fs q.1) [llessL q.1 = true, noObjL q.1 = true] else .st else .st
theorem init_ok {P : Program} {w : World} {K : PySem.W.Frag} {mg : Str -> Option Value} {base : Heap} {k : Nat} {g qual : Str} {st : Stmt} {f f0 : Addr} {fd fd0 : FuncData} {ps ps0 fs : List Str} {Φ : Fx} {n b s0 : Str} {C0 : Addr} {mc : Value} {pb p0 ap cp p4 : Pos} {args : List Expr} (Fn : Fun K g qual st f fd)
    (S : FnScope (localsOf (defScope st)) ps (defScope st)) (hΦ : Fxo P w K mg base k Φ) (hF0 : FnOk P w K mg base CX0 k f0 fd0 ps0 (spB K fs)) (hb0 : Binds K fd0 ps0 []) (hk0 : PySem.W.keepIn K (.ref f0) = true)
    (hgb : (defScope st).names.lookup b = some .globalImplicit) (hm : mg b = some (.ref C0)) (hga : PySem.W.specialIn K (.ref C0) "__getattribute__" = some (some (.builtin "type.__getattribute__"))) (hrd : PySem.W.readsIn K C0 mc = true) (hfc : PySem.W.findCls K (.ref C0) mc "__init__" = some (.val (.ref f0)))
    (hbody : defBody st = [.Expr (.Call (.Attribute (.Name b pb) "__init__" ap) (.Name s0 p0 :: args) [] cp) p4]) (hs0 : ps[0]? = some s0) (hok : okN s0 = true) (hdb : (b == ("__debug__" : Str)) = false) (hln : (ap.endLine == cp.line) = true) (hfew : args.length < 28)
    (hna : ∀ C, PySem.W.nsIn K mainGlobals n = some (some (.ref C)) -> ∀ x ∈ fs, NoAttr K C x) : FnOk P w K mg base CX0 (k + 1) f fd ps (spI K n (initD Φ (defScope st) ps args n fs)) := by
  refine Fn.ok S (fun vs H Q E h => ?_) (fun cdv A outer s H vs Q E hr h => ?_)
  . obtain ⟨x, ws, C, dx, ds, r, l, rfl, hx, hns, hc, r1, hF, _⟩ := h
    unfold initD at hF
    split at hF
    . rename_i hl; rw [List.length_cons, <- r1.length]; exact hl
    . cases hF
  . obtain ⟨x, ws, C, dx, ds, r, l, rfl, hx, hns, hc, r1, hF, hp, hl, q⟩ := h
    unfold initD at hF
    split at hF
    . rename_i hlen
      obtain ⟨qv, l1, l2, h1, p1, hF, p2⟩ := bnd_inv hF hp
      split at hF
      . rename_i hfl
        cases hF
        have G := good_mk (outer := outer) (H := H) (E := E) S hΦ hr
        have r0 : RepL K H (fun _ _ => True) (.obj n [] [] :: ds) (.ref x :: ws) := RepL.cons (by rw [Rep]; exact ⟨rfl, rfl, x, C, dx, [], rfl, hns, hc, hx, RepL.nil⟩) r1
        obtain ⟨E0, hsl⟩ := env_mk (P := P) (w := w) (mg := mg) (base := base) (qual := qual) (f := f) (cdv := cdv) (A := A) (outer := outer) (s := s) (E := E) S r0 hlen
        obtain ⟨hst, hal⟩ := evEs_nostar h1 p1
        have ad := evs_ok args h1 p1 G
        have hi0 : (localsOf (defScope st))[0]? = some s0 := by
          have hp0 := (List.getElem?_eq_some_iff.mp hs0).1
          have hs1 := hs0
          rw [<- S.pre, List.getElem?_take_of_lt hp0] at hs1
          exact hs1
        have hv0 : Vis (defScope st) s0 := by
          rcases S.par s0 (List.mem_of_getElem? hs0) with z | z
          . exact .inl z
          . exact .inr (.inl z)
        have hst' : ∀ e ∈ Expr.Name s0 p0 :: args, ∀ y p, e ≠ .Starred y p := fun e he => by
          rcases List.mem_cons.mp he with rfl | he
          . intro _ _ z; cases z
          . exact hst e he
        rw [hbody]
        refine ⟨_, pss_one (ps_expr (pe_cmeth (G.gl b hgb) hm hga hrd hfc hk0 hF0 hr hb0 pass0 (pa_cons (pe_var (i := 0) hi0 hv0 (okN_of hok).1 (okN_of hok).2) (ad (fun _ => none)) (nostar_one fun _ _ z => by cases z)) (nostar_one fun _ _ z => by cases z) (nostar_any hst) hdb (ht_of (base_of rfl) (few_of hst' (by rw [List.length_cons]; omega)) hln)) rfl), ?_⟩
        refine ⟨.ref x, ?_, E0, fun vs H1 s1 rv => ?_⟩
        . have hn : 0 < (localsOf (defScope st)).length := (List.getElem?_eq_some_iff.mp hi0).1
          rfl
        . refine ⟨x, vs ++ [], C, dx, rfl, by rw [List.append_nil, <- rv.length]; exact hfl, s1 _ _ hx, hc, hna C hns, q _ (fun a o ha h => ?_) ?_⟩
          . rw [upd_ne ha]; exact s1 _ _ h
          . rw [Rep, List.append_nil]
            exact ⟨p2.1, hfl.symm, x, C, dx, vs, rfl, hns, hc, upd_same, ((rv.off (s1 _ _ hx) (fun a o ha h => by rw [upd_ne ha]; exact h) p2.2.1).imp fun _ _ _ => True.intro)⟩
      . cases hF
    . cases hF
theorem fnD_of {P : Program} {w : World} {K : PySem.W.Frag} {mg : Str -> Option Value} {base : Heap} {k : Nat} {g qual : Str} {st : Stmt} {f : Addr} {fd : FuncData} {ps : List Str} {F : List D -> Rs D} {Φ : Fx} (Fn : Fun K g qual st f fd)
    (S : FnScope (localsOf (defScope st)) ps (defScope st)) (hm : mg g = some (.ref f)) (hb : Binds K fd ps []) (hd : (g == ("__debug__" : Str)) = false)
    (hΦ : Fxo P w K mg base k Φ) (hrun : Runs Φ (defScope st) ps (defBody st) F) : FnD P w K mg base (k + 1) g F :=
  ⟨f, fd, ps, fnOk_of Fn S hΦ hrun, hm, Fn.kp, hb, hd⟩
theorem mem_cons_ok {α : Type} {Pr : α -> Prop} {x : α} {l : List α} (h1 : Pr x) (h2 : ∀ y ∈ l, Pr y) : ∀ y ∈ x :: l, Pr y := fun y hy => (List.mem_cons.mp hy).elim (fun e => e ▸ h1) (h2 y)
theorem nil_ok {α : Type} {Pr : α -> Prop} : ∀ y ∈ ([] : List α), Pr y := fun y hy => by cases hy
theorem hsp_of {K : PySem.W.Frag} {H : Hp} {a : Addr} {ns : List Int} {F : List D -> Rs D} (hO : Only H) (hS : SqL K H a (ns.map V.int)) (h : Okr (F [.lst (ns.map D.int)]) (.bl true)) : spD K F [.ref a] H (fun v _ => v = .bl true) fun _ _ _ => False := by
  obtain ⟨l, h, hp⟩ := h
  refine ⟨[.lst (ns.map D.int)], .bl true, l, RepL.one ?_, h, hp, fun v H' _ r => by rw [Rep] at r; exact r⟩
  rw [Rep]
  rcases hS with (hS | hS) | hS
  . rcases hO a with z | ⟨o, xs, z⟩
    . rw [z] at hS; cases hS
    . rw [z] at hS; cases hS
  . exact ⟨a, _, false, rfl, .inl hS, True.intro, RepL.ofInts⟩
  . exact ⟨a, _, false, rfl, .inr hS, True.intro, RepL.ofInts⟩
abbrev FnP (P : Program) (w : World) (K : PySem.W.Frag) (mg : Str -> Option Value) (base : Heap) (k : Nat) : Str × (List D -> Rs D) -> Prop := fun p => FnE P w K mg base k p.1 p.2
abbrev ConP (mg : Str -> Option Value) (K : PySem.W.Frag) : Str × D -> Prop := fun p => ∃ v u, mg p.1 = some u /\ RelV v u /\ ∀ H P, Rep K H P p.2 v
abbrev BltP : Str × (List D -> R1) -> Prop := fun p => BltOk p.1 p.2
abbrev ItrP : Str × (List D -> Nat -> R1) -> Prop := fun p => ItrOk p.1 p.2
abbrev MthP : Str × (D -> List D -> R1) -> Prop := fun p => MthOk p.1 p.2
abbrev MutP : Str × (List D -> List D -> Nat -> Rs (List D)) -> Prop := fun p => MutOk p.1 p.2
theorem fxo_of {P : Program} {w : World} {K : PySem.W.Frag} {mg : Str -> Option Value} {base : Heap} {k : Nat} {l : List (Str × (List D -> Rs D))} {c : List (Str × D)} {b : List (Str × (List D -> R1))} {i : List (Str × (List D -> Nat -> R1))} {m : List (Str × (D -> List D -> R1))} {t : List (Str × (List D -> List D -> Nat -> Rs (List D)))} {sf : D -> Option Int -> Option Int -> R1}
    (hl : ∀ p ∈ l, FnP P w K mg base k p) (hc : ∀ p ∈ c, ConP mg K p) (hb : ∀ p ∈ b, BltP p) (hi : ∀ p ∈ i, ItrP p) (hm : ∀ p ∈ m, MthP p) (ht : ∀ p ∈ t, MutP p) (hs : SlfOk sf) (hn : ∀ n ∈ bnames, mg n = none) : Fxo P w K mg base k (Tb l c b i m t sf) :=
  ⟨fun g F h => hl (g, F) (PySem.mem_of_lookup h), fun x d h => hc (x, d) (PySem.mem_of_lookup h), fun f B h => hb (f, B) (PySem.mem_of_lookup h), fun f B h => hi (f, B) (PySem.mem_of_lookup h), fun f B h => hm (f, B) (PySem.mem_of_lookup h), fun f B h => ht (f, B) (PySem.mem_of_lookup h), hs, (fun _ _ h => by cases h), (fun _ _ _ h => by cases h), hn⟩
abbrev FldP (K : PySem.W.Frag) : Str × List Str -> Prop := fun p => ∀ f ∈ p.2, ∀ C, PySem.W.nsIn K mainGlobals p.1 = some (some (.ref C)) -> NoAttr K C f
abbrev OmtP (P : Program) (w : World) (K : PySem.W.Frag) (mg : Str -> Option Value) (base : Heap) (k : Nat) : Str × List (Str × (List D -> Rs D)) -> Prop := fun p => ∀ q ∈ p.2, MethD P w K mg base k p.1 q.1 q.2
theorem fxo_ofo {P : Program} {w : World} {K : PySem.W.Frag} {mg : Str -> Option Value} {base : Heap} {k : Nat} {l : List (Str × (List D -> Rs D))} {c : List (Str × D)} {b : List (Str × (List D -> R1))} {i : List (Str × (List D -> Nat -> R1))} {m : List (Str × (D -> List D -> R1))} {t : List (Str × (List D -> List D -> Nat -> Rs (List D)))} {sf : D -> Option Int -> Option Int -> R1} {fl : List (Str × List Str)} {om : List (Str × List (Str × (List D -> Rs D)))}
    (hl : ∀ p ∈ l, FnP P w K mg base k p) (hc : ∀ p ∈ c, ConP mg K p) (hb : ∀ p ∈ b, BltP p) (hi : ∀ p ∈ i, ItrP p) (hm : ∀ p ∈ m, MthP p) (ht : ∀ p ∈ t, MutP p) (hs : SlfOk sf) (hfl : ∀ p ∈ fl, FldP K p) (hom : ∀ p ∈ om, OmtP P w K mg base k p) (hn : ∀ n ∈ bnames, mg n = none) : Fxo P w K mg base k (Tbo l c b i m t sf fl om) :=
  ⟨fun g F h => hl (g, F) (PySem.mem_of_lookup h), fun x d h => hc (x, d) (PySem.mem_of_lookup h), fun f B h => hb (f, B) (PySem.mem_of_lookup h), fun f B h => hi (f, B) (PySem.mem_of_lookup h), fun f B h => hm (f, B) (PySem.mem_of_lookup h), fun f B h => ht (f, B) (PySem.mem_of_lookup h), hs,
    (fun n f h C hC => by
      replace h : (match fl.lookup n with | some fs => fs.contains f | none => false) = true := h
      split at h
      . rename_i fs e; exact hfl (n, fs) (PySem.mem_of_lookup e) f (List.contains_iff_mem.mp h) C hC
      . cases h),
    (fun n x F h => by
      replace h : (match om.lookup n with | some ms => ms.lookup x | none => none) = some F := h
      split at h
      . rename_i ms e; exact hom (n, ms) (PySem.mem_of_lookup e) (x, F) (PySem.mem_of_lookup h)
      . cases h), hn⟩
theorem methD_of {P : Program} {w : World} {K : PySem.W.Frag} {mg : Str -> Option Value} {base : Heap} {k : Nat} {g qual n : Str} {st : Stmt} {f C : Addr} {fd : FuncData} {ps : List Str} {F : List D -> Rs D} {Φ : Fx} (Fn : Fun K g qual st f fd)
    (S : FnScope (localsOf (defScope st)) ps (defScope st)) (hn : PySem.W.nsIn K mainGlobals n = some (some (.ref C))) (hc : Cls K C) (hm : Meth K C g f) (hb : Binds K fd ps [])
    (hΦ : Fxo P w K mg base k Φ) (hrun : Runs Φ (defScope st) ps (defBody st) F) : MethD P w K mg base (k + 1) n g F :=
  ⟨C, f, fd, ps, hn, hc, hm, fnOk_of Fn S hΦ hrun, hb⟩
theorem mkD_of {P : Program} {w : World} {K : PySem.W.Frag} {mg : Str -> Option Value} {base : Heap} {k : Nat} {n : Str} {ps : List Str} {C f : Addr} {fd : FuncData} {F : List D -> Rs D} (hF : ∀ ds r l, F ds = .ok r l -> r.lless = true) (hM : Mk K C f) (h : FnOk P w K mg base CX0 k f fd ps (spI K n F)) (hm : mg n = some (.ref C))
    (hn : PySem.W.nsIn K mainGlobals n = some (some (.ref C))) (hc : Cls K C) (hb : Binds K fd ps []) (hd : (n == ("__debug__" : Str)) = false) : MkD P w K mg base (k + 1) n F := ⟨k, C, f, fd, ps, Nat.le_refl _, hF, hM, h, hm, hn, hc, hb, hd⟩
theorem init_lless {Φ : Fx} {sc : Scope} {ps fs : List Str} {args : List Expr} {n : Str} : ∀ ds r l, initD Φ sc ps args n fs ds = .ok r l -> r.lless = true := fun ds r l h => by
  unfold initD at h
  split at h
  . unfold Rs.bnd at h
    split at h
    . cases h
    . split at h
      . cases h
      . rename_i e
        cases h
        dsimp only at e
        split at e
        . cases e; rfl
        . cases e
  . cases h
end Sp
set_option Elab.async false
set_option linter.all false
set_option maxRecDepth 100000
namespace Sp
open PySem PySem.Spec PyProof.Rows L2
open AutoSeq1 (wpAny_loadPart')
section
variable {prog : Program} {w : World} {A : Around} {E : Value -> Shared -> Prop} {s : Shared}
theorem tn_item {it tu : Addr} {i : Nat} {vs : Array Value} {x : Value} {Q : Value -> Shared -> Prop} (hIt : s.heap.IsTupleIter it tu i) (hT : s.heap.IsTuple tu vs) (hx : vs[i]? = some x)
    (go : ∀ h1, h1.IsTupleIter it tu (i + 1) -> Heap.SameBut it s.heap h1 -> Q x { s with heap := h1 }) : wpAny (model prog w) A (Builtin.SmallTypes.nextOf (.ref it)) Q E s := by
  have key := wpAny_pyNext_tuple_item (prog := prog) (w := w) (A := A) (E := E) (Q := fun r s1 => ∃ v, r = some v /\ Q v s1) hIt hT hx (fun h1 a b => ⟨x, rfl, go h1 a b⟩)
  obtain ⟨o, ho, hc, hd⟩ := id hIt
  obtain ⟨ot, hot, _, nt, hdt⟩ := hT
  unfold Builtin.SmallTypes.nextOf
  refine wpAny_bind (wpAny_callSpecial?_slot (name := Str.ofString "__next__") hIt.typeIs F.slot_tuple_iterator_next (wpAny_call_entry F.slot_tuple_iterator_next hIt.typeIs F.entry_tuple_iterator_next ?_ (F.args_tuple_iterator_next_1 _)))
  show wpAny _ _ (field (.ref it) 0 >>= _) _ _ s
  refine wpAny_bind (wpAny_field ho hd (x := .ref tu) rfl ?_)
  show wpAny _ _ (if (Value.ref tu == Value.none) = true then _ else _) _ _ s
  rw [if_neg (show ¬ ((Value.ref tu == Value.none) = true) from Bool.false_ne_true)]
  show wpAny _ _ (field (.ref it) 1 >>= _) _ _ s
  refine wpAny_bind (wpAny_field ho hd (x := Value.int (i : Int) 0) rfl ?_)
  show wpAny _ _ (seqItems? (.ref tu) >>= _) _ _ s
  refine wpAny_bind (wpAny_seqItems hot hdt ?_)
  simp only [Int.toNat_natCast, hx]
  refine wpAny_bind (wpAny_setField ho hd (by simp) (wpAny_pure ⟨x, rfl, wpAny_pure (go _ ?_ (Heap.SameBut.update ..))⟩))
  refine ⟨_, Heap.get?_update_self _ ho (Obj.isFreed_of_fields (Obj.data_mapFields hd _)), (Obj.cls_mapFields ..).trans hc, ?_⟩
  rw [Obj.data_mapFields hd]; simp [rawInt]
theorem tn_end {it tu : Addr} {i : Nat} {vs : Array Value} {Q : Value -> Shared -> Prop} (hh : A.handled = none) (hIt : s.heap.IsTupleIter it tu i) (hT : s.heap.IsTuple tu vs) (hx : vs[i]? = none)
    (go : ∀ h1 x, Heap.ExtBut it s.heap h1 -> (∃ o, h1.get? x = some o /\ o.cls = .type "StopIteration") -> E (.ref x) { s with heap := h1 }) : wpAny (model prog w) A (Builtin.SmallTypes.nextOf (.ref it)) Q E s := by
  obtain ⟨o, ho, hc, hd⟩ := id hIt
  obtain ⟨ot, hot, _, nt, hdt⟩ := hT
  unfold Builtin.SmallTypes.nextOf
  refine wpAny_bind (wpAny_callSpecial?_slot (name := Str.ofString "__next__") hIt.typeIs F.slot_tuple_iterator_next (wpAny_call_entry F.slot_tuple_iterator_next hIt.typeIs F.entry_tuple_iterator_next ?_ (F.args_tuple_iterator_next_1 _)))
  show wpAny _ _ (field (.ref it) 0 >>= _) _ _ s
  refine wpAny_bind (wpAny_field ho hd (x := .ref tu) rfl ?_)
  show wpAny _ _ (if (Value.ref tu == Value.none) = true then _ else _) _ _ s
  rw [if_neg (show ¬ ((Value.ref tu == Value.none) = true) from Bool.false_ne_true)]
  show wpAny _ _ (field (.ref it) 1 >>= _) _ _ s
  refine wpAny_bind (wpAny_field ho hd (x := Value.int (i : Int) 0) rfl ?_)
  show wpAny _ _ (seqItems? (.ref tu) >>= _) _ _ s
  refine wpAny_bind (wpAny_seqItems hot hdt ?_)
  simp only [Int.toNat_natCast, hx]
  refine wpAny_bind (wpAny_rule (wpAny_bind (wpAny_setField ho hd (by simp) ?_)))
  show wpAny _ _ (newExc (.type "StopIteration") [] >>= _) _ _ _
  refine wpAny_bind ?_
  simp only [newExc, newTuple]
  refine wpAny_bind (wpAny_newObj_type ?_ (by size_fits))
  refine wpAny_bind (m := firstArgMember _ _) (wpAny_of_eq (a := Value.none) (by first | rfl | (simp only [firstArgMember] <;> rfl)) ?_)
  refine wpAny_newObj_type ?_ (by size_fits)
  simp only [raiseNew]
  refine wpAny_bind (wpAny_handled ?_)
  first | rw [show A.in1.handled = none from hh] | rw [hh]
  refine wpAny_bind (wpAny_pure (wpAny_throw ?_))
  exact go _ _ (((Heap.SameBut.update ..).extBut.push _).push _) ⟨_, Heap.get?_push_size _ rfl, rfl⟩
end
end Sp
set_option Elab.async false
set_option linter.all false
set_option maxRecDepth 100000
namespace Sp
open PySem PySem.Spec PyProof.Rows L2
variable {X : Cx}
theorem inv_laid2 {pins : List (Addr × Obj)} {σ : L2.St} {H : Hp} {s : Shared} {h2 : Heap} {t2 : Nat} {ch : List Addr} {p : Addr} {o : HO} (I : Inv X pins σ H s)
    (k : ∀ b u, b ∉ ch -> s.heap.get? b = some u -> h2.get? b = some u) (hp : s.heap.objs.size <= p) (hn : ∀ b ∈ ch, FpOk X pins H b) (new : ObjOk X.prog X.w (upd H p o) h2 p o) : Inv X pins σ (upd H p o) { s with heap := h2, toks := t2 } := by
  have hH : H p = none := I.hok.fresh hp
  have tr : ∀ b u, H b = some u -> b ∉ ch := fun b u e z => by rw [(hn b z).1] at e; cases e
  have un : Un (frs X.stack) ch H (upd H p o) s.heap h2 := by
    refine ⟨fun b ob e n _ c => k b ob c e, fun b ob e n _ c => ⟨ob.slots, k b ob c e⟩, fun b ob e n c => ?_, fun b ob e c => ⟨ob, k b ob c e⟩, fun b xs e => ?_, fun b ob u e => ?_, fun b ps e => ⟨#[], ?_⟩⟩
    . rw [upd_ne (Nat.ne_of_lt (Nat.lt_of_lt_of_le (Heap.lt_size e) hp))]; exact n
    . rw [upd_ne (ne_of_none e hH)]; exact e
    . rw [upd_ne (ne_of_none e hH)]; exact e
    . rw [upd_ne (ne_of_none e hH), e]; simp
  refine I.call (g' := s.gens) (d' := s.drawn) un (fun b u e => ?_) I.bare fun b hb => ⟨(hn b hb).2.2.2.1, (hn b hb).2.1, (hn b hb).2.2.2.2.1, (hn b hb).2.2.2.2.2⟩
  by_cases hb : b = p
  . subst hb; rw [upd_same] at e; cases e; exact new
  . rw [upd_ne hb] at e
    refine (I.hok b u e).stay (fun c v hc q => k c v ?_ q) (fun c q => by rw [upd_ne (ne_of_none q hH)]; exact q) fun c xs q => by rw [upd_ne (ne_of_none q hH)]; exact q
    rcases hc with z | z
    . rw [z]; exact tr b u e
    . exact tr c _ z
theorem isTupE_eq {tg : Expr} (h : isTupE tg = true) : ∃ es n p, tg = .Tuple es n p := by
  cases tg <;> first | exact ⟨_, _, _, rfl⟩ | cases h
end Sp
set_option Elab.async false
set_option linter.all false
set_option maxRecDepth 100000
namespace Sp
open PySem PySem.Spec PyProof.Rows L2
open AutoSeq1 (wpAny_loadPart')
structure Wk (prog : Program) (w : World) (i l : Addr) (P : Nat -> Heap -> Prop) (g : Nat -> Option Value) : Prop where
  stay : ∀ k (h h' : Heap), P k h -> (∀ c o, c = i \/ c = l -> h.get? c = some o -> h'.get? c = some o) -> P k h'
  here : ∀ k (h : Heap), P k h -> ∃ o, h.get? i = some o /\ ∀ v, o.data ≠ Data.cell v
  item : ∀ (A : Around) (E : Value -> Shared -> Prop) (s : Shared) (k : Nat) (x : Value) (Q : Value -> Shared -> Prop), P k s.heap -> g k = some x -> (∀ h1, P (k + 1) h1 -> Heap.SameBut i s.heap h1 -> Q x { s with heap := h1 }) -> wpAny (model prog w) A (Builtin.SmallTypes.nextOf (.ref i)) Q E s
  done : ∀ (A : Around) (E : Value -> Shared -> Prop) (s : Shared) (k : Nat) (Q : Value -> Shared -> Prop), A.handled = none -> P k s.heap -> g k = none -> (∀ h1 x, Heap.ExtBut i s.heap h1 -> (∃ o, h1.get? x = some o /\ o.cls = .type "StopIteration") -> E (.ref x) { s with heap := h1 }) -> wpAny (model prog w) A (Builtin.SmallTypes.nextOf (.ref i)) Q E s
theorem wk_tup {prog : Program} {w : World} {i l : Addr} {xs : Array Value} (ne : l ≠ i) : Wk prog w i l (fun k h => h.IsTupleIter i l k /\ h.IsTuple l xs) (fun k => xs[k]?) where
  stay := fun k h h' p q => ⟨p.1.at fun o e => q i o (.inl rfl) e, p.2.at fun o e => q l o (.inr rfl) e⟩
  here := fun k h p => let ⟨o, e, _, d⟩ := p.1; ⟨o, e, fun v z => by rw [d] at z; cases z⟩
  item := fun A E s k x Q p hx q => tn_item p.1 p.2 hx fun h1 a b => q h1 ⟨a, p.2.extBut b.extBut ne⟩ b
  done := fun A E s k Q hh p hx q => tn_end hh p.1 p.2 hx q
theorem wk_lst {prog : Program} {w : World} {i l : Addr} {xs : Array Value} (ne : l ≠ i) : Wk prog w i l (fun k h => h.IsListIter i l k /\ h.IsList l xs) (fun k => xs[k]?) where
  stay := fun k h h' p q => ⟨p.1.at fun o e => q i o (.inl rfl) e, p.2.at fun o e => q l o (.inr rfl) e⟩
  here := fun k h p => let ⟨o, e, _, d⟩ := p.1; ⟨o, e, fun v z => by rw [d] at z; cases z⟩
  item := fun A E s k x Q p hx q => wpAny_nextOf_list_item p.1 p.2 hx fun h1 a b => q h1 ⟨a, p.2.extBut b.extBut ne⟩ b
  done := fun A E s k Q hh p hx q => wpAny_nextOf_list_end hh p.1 p.2 hx q
section
variable {prog : Program} {w : World} {A : Around} {E : Value -> Shared -> Prop} {s : Shared}
variable {z TI TO i1 i2 l1 l2 : Addr} {k1 k2 : Nat} {P1 P2 : Nat -> Heap -> Prop} {g1 g2 : Nat -> Option Value} {x y a b : Value}
structure Zs (z TI TO i1 i2 l1 l2 : Addr) (P1 P2 : Nat -> Heap -> Prop) (k : Nat) (h : Heap) : Prop where
  ap : ZipApart z TI TO i1 i2 l1 l2
  rd : IsZip h z TI TO .none
  ins : IsPair h TI (.ref i1) (.ref i2)
  out : ∃ a b, IsPair h TO a b
  fst : P1 k h
  snd : P2 k h
theorem Zs.item {k : Nat} {Q : Value -> Shared -> Prop} (W1 : Wk prog w i1 l1 P1 g1) (W2 : Wk prog w i2 l2 P2 g2) (S : Zs z TI TO i1 i2 l1 l2 P1 P2 k s.heap) (hx : g1 k = some x) (hy : g2 k = some y)
    (go : ∀ h1, (∀ h2, IsZip h2 z TI TO .none -> Heap.SameBut z h1 h2 -> Zs z TI TO i1 i2 l1 l2 P1 P2 (k + 1) h2) -> IsZip h1 z TI TO (rawInt s.heap.objs.size) -> IsPair h1 s.heap.objs.size x y -> (∀ c o, c ∉ [z, TO, i1, i2] -> s.heap.get? c = some o -> h1.get? c = some o) -> Q (.ref s.heap.objs.size) { s with heap := h1 }) :
    wpAny (model prog w) A (Builtin.«zip.__next__» ⟨[.ref z], []⟩) (fun fin s' => ∃ v, fin = .done (.ret v) /\ Q v s') E s := by
  obtain ⟨D, isZ, pI, ⟨a, b, pO⟩, p1, p2⟩ := S
  obtain ⟨h0, gg, dd, t0, oo⟩ := s
  show wpAny _ _ (field (.ref z) 2 >>= _) _ _ ⟨h0, gg, dd, t0, oo⟩
  refine wpAny_bind (wpAny_field isZ rfl (x := Value.bool false) rfl ?_)
  show wpAny _ _ (field (.ref z) 3 >>= _) _ _ ⟨h0, gg, dd, t0, oo⟩
  refine wpAny_bind (wpAny_field isZ rfl (x := Value.ref TI) rfl (wpAny_bind (wpAny_seqItems pI rfl ?_)))
  show wpAny _ _ (Builtin.SmallTypes.ownedTupleIsFree (.ref z) >>= _) _ _ ⟨h0, gg, dd, t0, oo⟩
  unfold Builtin.SmallTypes.ownedTupleIsFree
  refine wpAny_bind (wpAny_bind (wpAny_field isZ rfl (x := Value.none) rfl (wpAny_pure ?_)))
  simp only [if_true]
  refine wpAny_bind (wpAny_rule (wpAny_bind (wpAny_field isZ rfl (x := Value.ref TO) rfl (wpAny_bind (wpAny_setField_rec isZ (by simp) fun q1 Z1 m1 => ?_)))))
  have Z1 : IsZip q1 z TI TO .ellipsis := Z1
  have m1 : Heap.SameBut z h0 q1 := m1
  simp only [List.zipIdx_cons, List.zipIdx_nil, List.forIn_cons, List.forIn_nil]
  refine wpAny_bind (wpAny_bind (wpAny_bind (wpAny_onRaise ?_)))
  show wpAny _ _ (Builtin.SmallTypes.nextOf (.ref i1) >>= _) _ _ ⟨q1, gg, dd, t0, oo⟩
  have e1 : ∀ c o, c ≠ z -> h0.get? c = some o -> q1.get? c = some o := fun c o n u => m1.extBut c o n u
  refine wpAny_bind (W1.item _ _ _ k x _ (W1.stay k _ _ p1 fun c o hc u => e1 c o (by rcases hc with rfl | rfl; exact D.i1z; exact D.l1z) u) hx fun q2 p1' m2 => wpAny_pure ?_)
  have m2 : Heap.SameBut i1 q1 q2 := m2
  have e2 : ∀ c o, c ≠ z -> c ≠ i1 -> h0.get? c = some o -> q2.get? c = some o := fun c o n n' u => m2.extBut c o n' (e1 c o n u)
  have O2 : IsPair q2 TO a b := e2 _ _ D.TOz D.TOi1 pO
  refine wpAny_bind (wpAny_seqItems O2 rfl (wpAny_bind (wpAny_updateSeq_pair O2 fun q3 O3 m3 => wpAny_bind (wpAny_letGo (wpAny_pure ?_)))))
  have O3 : IsPair q3 TO x b := O3
  have m3 : Heap.SameBut TO q2 q3 := m3
  have e3 : ∀ c o, c ≠ z -> c ≠ i1 -> c ≠ TO -> h0.get? c = some o -> q3.get? c = some o := fun c o n n' n'' u => m3.extBut c o n'' (e2 c o n n' u)
  refine wpAny_bind (wpAny_bind (wpAny_onRaise ?_))
  show wpAny _ _ (Builtin.SmallTypes.nextOf (.ref i2) >>= _) _ _ ⟨q3, gg, dd, t0, oo⟩
  refine wpAny_bind (W2.item _ _ _ k y _ (W2.stay k _ _ p2 fun c o hc u => by
    rcases hc with rfl | rfl
    . exact e3 c o D.i2z D.i12.symm D.TOi2.symm u
    . exact e3 c o D.l2z D.l2i1 D.l2TO u) hy fun q4 p2' m4 => wpAny_pure ?_)
  have m4 : Heap.SameBut i2 q3 q4 := m4
  have O4 : IsPair q4 TO x b := m4.extBut _ _ D.TOi2 O3
  refine wpAny_bind (wpAny_seqItems O4 rfl (wpAny_bind (wpAny_updateSeq_pair O4 fun q5 O5 m5 => wpAny_bind (wpAny_letGo (wpAny_pure (wpAny_pure ?_))))))
  have O5 : IsPair q5 TO x y := O5
  have m5 : Heap.SameBut TO q4 q5 := m5
  refine wpAny_bind (wpAny_seqItems O5 rfl (wpAny_bind (wpAny_newTuple ?_)))
  have sz : q5.objs.size = h0.objs.size := by rw [m5.1, m4.1, m3.1, m2.1, m1.1]
  have e5 : ∀ c o, c ≠ z -> c ≠ i1 -> c ≠ TO -> c ≠ i2 -> h0.get? c = some o -> q5.get? c = some o := fun c o n n' n'' n3 u => m5.extBut c o n'' (m4.extBut c o n3 (e3 c o n n' n'' u))
  have Z5 : IsZip q5 z TI TO .ellipsis := m5.extBut _ _ D.TOz.symm (m4.extBut _ _ D.i2z.symm (m3.extBut _ _ D.TOz.symm (m2.extBut _ _ D.i1z.symm Z1)))
  have r1 : P1 (k + 1) q5 := W1.stay _ _ _ p1' fun c o hc u => by
    rcases hc with rfl | rfl
    . exact m5.extBut c o D.TOi1.symm (m4.extBut c o D.i12 (m3.extBut c o D.TOi1.symm u))
    . exact m5.extBut c o D.l1TO (m4.extBut c o D.l1i2 (m3.extBut c o D.l1TO u))
  have r2 : P2 (k + 1) q5 := W2.stay _ _ _ p2' fun c o hc u => by
    rcases hc with rfl | rfl
    . exact m5.extBut c o D.TOi2.symm u
    . exact m5.extBut c o D.l2TO u
  have I5 : IsPair q5 TI (.ref i1) (.ref i2) := e5 _ _ D.TIz D.TIi1 D.TITO D.TIi2 pI
  have zl : z < q5.objs.size := Heap.lt_size Z5
  show wpAny _ _ (Builtin.SmallTypes.ownedTupleHandOut (.ref z) (.ref q5.objs.size) >>= _) _ _ ⟨q5.push { cls := .type "tuple", data := .seq #[x, y] }, gg, dd, t0, oo⟩
  unfold Builtin.SmallTypes.ownedTupleHandOut
  have Z6 : IsZip (q5.push { cls := .type "tuple", data := .seq #[x, y] }) z TI TO .ellipsis := Heap.get?_push_of_some _ Z5
  refine wpAny_bind (wpAny_bind (wpAny_setField_rec Z6 (by simp) fun q7 Z7 m7 => ?_))
  have Z7 : IsZip q7 z TI TO (rawInt q5.objs.size) := Z7
  refine wpAny_setField_rec Z7 (by simp) fun q8 Z8 m8 => ?_
  have Z8 : IsZip q8 z TI TO (rawInt q5.objs.size) := Z8
  have far : ∀ c o, c ≠ z -> q5.get? c = some o -> q8.get? c = some o := fun c o n u => m8.extBut _ _ n (m7.extBut _ _ n (Heap.get?_push_of_some _ u))
  have T8 : IsPair q8 q5.objs.size x y := m8.extBut _ _ (Nat.ne_of_gt zl) (m7.extBut _ _ (Nat.ne_of_gt zl) (Heap.get?_push_size _ rfl))
  refine wpAny_pure ⟨_, rfl, ?_⟩
  show Q (.ref q5.objs.size) _
  rw [sz] at Z8 T8 ⊢
  refine go q8 (fun h2 Zn mn => ⟨D, Zn, mn.extBut _ _ D.TIz (far _ _ D.TIz I5), ⟨x, y, mn.extBut _ _ D.TOz (far _ _ D.TOz O5)⟩, W1.stay _ _ _ r1 fun c o hc u => ?_, W2.stay _ _ _ r2 fun c o hc u => ?_⟩) Z8 T8 fun c o hc u => ?_
  . have n : c ≠ z := by rcases hc with rfl | rfl; exact D.i1z; exact D.l1z
    exact mn.extBut c o n (far c o n u)
  . have n : c ≠ z := by rcases hc with rfl | rfl; exact D.i2z; exact D.l2z
    exact mn.extBut c o n (far c o n u)
  . have c1 : c ≠ z := fun q => hc (by simp [q])
    have c2 : c ≠ TO := fun q => hc (by simp [q])
    have c3 : c ≠ i1 := fun q => hc (by simp [q])
    have c4 : c ≠ i2 := fun q => hc (by simp [q])
    exact far c o c1 (e5 c o c1 c3 c2 c4 u)
theorem Zs.done {k : Nat} {Q : Fin -> Shared -> Prop} (hh : A.handled = none) (W1 : Wk prog w i1 l1 P1 g1) (W2 : Wk prog w i2 l2 P2 g2) (S : Zs z TI TO i1 i2 l1 l2 P1 P2 k s.heap) (hxy : g1 k = none \/ g2 k = none)
    (go : ∀ h1 e, (∀ c o, c ∉ [z, TO, i1, i2] -> s.heap.get? c = some o -> h1.get? c = some o) -> (∃ o, h1.get? e = some o /\ o.cls = .type "StopIteration") -> E (.ref e) { s with heap := h1 }) :
    wpAny (model prog w) A (Builtin.«zip.__next__» ⟨[.ref z], []⟩) Q E s := by
  obtain ⟨D, isZ, pI, ⟨a, b, pO⟩, p1, p2⟩ := S
  obtain ⟨h0, gg, dd, t0, oo⟩ := s
  show wpAny _ _ (field (.ref z) 2 >>= _) _ _ ⟨h0, gg, dd, t0, oo⟩
  refine wpAny_bind (wpAny_field isZ rfl (x := Value.bool false) rfl ?_)
  show wpAny _ _ (field (.ref z) 3 >>= _) _ _ ⟨h0, gg, dd, t0, oo⟩
  refine wpAny_bind (wpAny_field isZ rfl (x := Value.ref TI) rfl (wpAny_bind (wpAny_seqItems pI rfl ?_)))
  show wpAny _ _ (Builtin.SmallTypes.ownedTupleIsFree (.ref z) >>= _) _ _ ⟨h0, gg, dd, t0, oo⟩
  unfold Builtin.SmallTypes.ownedTupleIsFree
  refine wpAny_bind (wpAny_bind (wpAny_field isZ rfl (x := Value.none) rfl (wpAny_pure ?_)))
  simp only [if_true]
  refine wpAny_bind (wpAny_rule (wpAny_bind (wpAny_field isZ rfl (x := Value.ref TO) rfl (wpAny_bind (wpAny_setField_rec isZ (by simp) fun q1 Z1 m1 => ?_)))))
  have Z1 : IsZip q1 z TI TO .ellipsis := Z1
  have m1 : Heap.SameBut z h0 q1 := m1
  simp only [List.zipIdx_cons, List.zipIdx_nil, List.forIn_cons, List.forIn_nil]
  refine wpAny_bind (wpAny_bind (wpAny_bind (wpAny_onRaise ?_)))
  show wpAny _ _ (Builtin.SmallTypes.nextOf (.ref i1) >>= _) _ _ ⟨q1, gg, dd, t0, oo⟩
  have e1 : ∀ c o, c ≠ z -> h0.get? c = some o -> q1.get? c = some o := fun c o n u => m1.extBut c o n u
  have p1 : P1 k q1 := W1.stay k _ _ p1 fun c o hc u => e1 c o (by rcases hc with rfl | rfl; exact D.i1z; exact D.l1z) u
  have nin : ∀ c, c ∉ [z, TO, i1, i2] -> c ≠ z /\ c ≠ TO /\ c ≠ i1 /\ c ≠ i2 := fun c hc => ⟨fun q => hc (by simp [q]), fun q => hc (by simp [q]), fun q => hc (by simp [q]), fun q => hc (by simp [q])⟩
  have last : ∀ (q2 : Heap) (ex : Addr) (oe : Obj), IsZip q2 z TI TO .ellipsis -> (∀ c o, c ∉ [z, TO, i1, i2] -> h0.get? c = some o -> q2.get? c = some o) -> q2.get? ex = some oe -> oe.cls = .type "StopIteration" ->
      wpAny (model prog w) A (setField (.ref z) 0 .none) (fun _ s' => E (.ref ex) s') E ⟨q2, gg, dd, t0, oo⟩ := fun q2 ex oe Z2 k2 ho hc => by
    have hez : ex ≠ z := fun u => by subst u; rw [Z2] at ho; cases ho; simp at hc
    refine wpAny_setField_rec Z2 (by simp) fun q3 _ m3 => go q3 ex (fun c o hc u => ?_) ⟨oe, m3.extBut _ _ hez ho, hc⟩
    exact m3.extBut c o (nin c hc).1 (k2 c o hc u)
  cases hx : g1 k with
  | none =>
    refine wpAny_bind (W1.done _ _ _ k _ hh p1 hx fun q2 ex m2 he => ?_)
    obtain ⟨oe, ho, hc⟩ := he
    have m2 : Heap.ExtBut i1 q1 q2 := m2
    exact last q2 ex oe (m2 _ _ D.i1z.symm Z1) (fun c o hc u => m2 c o (nin c hc).2.2.1 (e1 c o (nin c hc).1 u)) ho hc
  | some x =>
    have hy : g2 k = none := hxy.resolve_left (by rw [hx]; exact fun q => nomatch q)
    refine wpAny_bind (W1.item _ _ _ k x _ p1 hx fun q2 p1' m2 => wpAny_pure ?_)
    have m2 : Heap.SameBut i1 q1 q2 := m2
    have e2 : ∀ c o, c ≠ z -> c ≠ i1 -> h0.get? c = some o -> q2.get? c = some o := fun c o n n' u => m2.extBut c o n' (e1 c o n u)
    have O2 : IsPair q2 TO a b := e2 _ _ D.TOz D.TOi1 pO
    refine wpAny_bind (wpAny_seqItems O2 rfl (wpAny_bind (wpAny_updateSeq_pair O2 fun q3 O3 m3 => wpAny_bind (wpAny_letGo (wpAny_pure ?_)))))
    have m3 : Heap.SameBut TO q2 q3 := m3
    have e3 : ∀ c o, c ≠ z -> c ≠ i1 -> c ≠ TO -> h0.get? c = some o -> q3.get? c = some o := fun c o n n' n'' u => m3.extBut c o n'' (e2 c o n n' u)
    refine wpAny_bind (wpAny_bind (wpAny_onRaise ?_))
    show wpAny _ _ (Builtin.SmallTypes.nextOf (.ref i2) >>= _) _ _ ⟨q3, gg, dd, t0, oo⟩
    refine wpAny_bind (W2.done _ _ _ k _ hh (W2.stay k _ _ p2 fun c o hc u => by
      rcases hc with rfl | rfl
      . exact e3 c o D.i2z D.i12.symm D.TOi2.symm u
      . exact e3 c o D.l2z D.l2i1 D.l2TO u) hy fun q4 ex m4 he => ?_)
    obtain ⟨oe, ho, hc⟩ := he
    have m4 : Heap.ExtBut i2 q3 q4 := m4
    exact last q4 ex oe (m4 _ _ D.i2z.symm (m3.extBut _ _ D.TOz.symm (m2.extBut _ _ D.i1z.symm Z1))) (fun c o hc u => m4 c o (nin c hc).2.2.2 (e3 c o (nin c hc).1 (nin c hc).2.2.1 (nin c hc).2.1 u)) ho hc
theorem Zs.pyItem {k : Nat} {Q : Option Value -> Shared -> Prop} (W1 : Wk prog w i1 l1 P1 g1) (W2 : Wk prog w i2 l2 P2 g2) (S : Zs z TI TO i1 i2 l1 l2 P1 P2 k s.heap) (hx : g1 k = some x) (hy : g2 k = some y)
    (go : ∀ h1, (∀ h2, IsZip h2 z TI TO .none -> Heap.SameBut z h1 h2 -> Zs z TI TO i1 i2 l1 l2 P1 P2 (k + 1) h2) -> IsZip h1 z TI TO (rawInt s.heap.objs.size) -> IsPair h1 s.heap.objs.size x y -> (∀ c o, c ∉ [z, TO, i1, i2] -> s.heap.get? c = some o -> h1.get? c = some o) -> Q (some (.ref s.heap.objs.size)) { s with heap := h1 }) :
    wpAny (model prog w) A (pyNext (.ref z)) Q E s := by
  have ty : s.TypeIs (.ref z) "zip" := ⟨_, S.rd, rfl⟩
  unfold pyNext
  exact wpAny_bind (wpAny_attempt (wpAny_callSpecial?_slot (name := Str.ofString "__next__") ty F.slot_zip_next (wpAny_call_entry F.slot_zip_next ty F.entry_zip_next (S.item W1 W2 hx hy fun h1 a b c d => wpAny_pure (go h1 a b c d)) (F.args_zip_next_1 _))))
theorem Zs.pyDone {k : Nat} {Q : Option Value -> Shared -> Prop} (hh : A.handled = none) (W1 : Wk prog w i1 l1 P1 g1) (W2 : Wk prog w i2 l2 P2 g2) (S : Zs z TI TO i1 i2 l1 l2 P1 P2 k s.heap) (hxy : g1 k = none \/ g2 k = none)
    (go : ∀ h1, (∀ c o, c ∉ [z, TO, i1, i2] -> s.heap.get? c = some o -> h1.get? c = some o) -> Q none { s with heap := h1 }) : wpAny (model prog w) A (pyNext (.ref z)) Q E s := by
  have ty : s.TypeIs (.ref z) "zip" := ⟨_, S.rd, rfl⟩
  unfold pyNext
  refine wpAny_bind (wpAny_attempt (wpAny_callSpecial?_slot (name := Str.ofString "__next__") ty F.slot_zip_next (wpAny_call_entry F.slot_zip_next ty F.entry_zip_next (S.done hh W1 W2 hxy fun h1 e kk he => ?_) (F.args_zip_next_1 _))))
  obtain ⟨oe, ho, hc⟩ := he
  exact wpAny_bind (wpAny_isInstance (T := "StopIteration") (b := true) ⟨oe, ho, hc⟩ isSubtype_stop (wpAny_pure (go h1 kk)))
end
abbrev zq1 (h : Heap) (a : Addr) : Heap := h.push { cls := .type "tuple_iterator", data := .fields #[.ref a, .int 0 0] }
abbrev zq2 (h : Heap) (a b : Addr) : Heap := (zq1 h a).push { cls := .type "tuple_iterator", data := .fields #[.ref b, .int 0 0] }
abbrev zq3 (h : Heap) (a b : Addr) : Heap := (zq2 h a b).push { cls := .type "tuple", data := .seq #[.ref h.objs.size, .ref (zq1 h a).objs.size] }
abbrev zq4 (h : Heap) (a b : Addr) : Heap := (zq3 h a b).push { cls := .type "tuple", data := .seq #[.none, .none] }
abbrev zq5 (h : Heap) (a b : Addr) : Heap := (zq4 h a b).push { cls := .type "zip", data := .fields #[.none, .bool false, .bool false, .ref (zq2 h a b).objs.size, .ref (zq3 h a b).objs.size] }
theorem zp_new (a b : Addr) (xs ys : Array Value) :
    Meets (Builtin.«zip.__new__» ⟨[.type "zip", .ref a, .ref b], []⟩) (fun _ R s => s.heap.IsTuple a xs /\ s.heap.IsTuple b ys /\ R (.ok (.ret (.ref (zq4 s.heap a b).objs.size))) { s with heap := zq5 s.heap a b }) :=
  .of_wp fun pg wd AA RR st hh => by
    obtain ⟨hp0, gg, dd, tk0, oo⟩ := st; obtain ⟨ha, hb, hh⟩ := hh
    have hsub0 := sub_zip
    have T1 : Heap.IsTuple (Shared.heap ⟨hp0, gg, dd, tk0, oo⟩) a xs := ha
    have T2 : Heap.IsTuple (Shared.heap ⟨hp0.push { cls := .type "tuple_iterator", data := .fields #[.ref a, .int 0 0] }, gg, dd, tk0, oo⟩) b ys := hb.at fun o e => Heap.get?_push_of_some _ e
    wp_walk using wpAny_pyIter_tuple T1, wpAny_pyIter_tuple T2
    exact ⟨_, rfl, hh⟩
theorem zp_call {prog : Program} {w : World} {A : Around} {E : Value -> Shared -> Prop} {s : Shared} {a b : Addr} {xs ys : Array Value} {Q : Value -> Shared -> Prop} (ha : s.heap.IsTuple a xs) (hb : s.heap.IsTuple b ys)
    (go : ∀ h1, Zs (s.heap.objs.size + 4) (s.heap.objs.size + 2) (s.heap.objs.size + 3) s.heap.objs.size (s.heap.objs.size + 1) a b (fun k h => h.IsTupleIter s.heap.objs.size a k /\ h.IsTuple a xs) (fun k h => h.IsTupleIter (s.heap.objs.size + 1) b k /\ h.IsTuple b ys) 0 h1 -> (∀ c o, s.heap.get? c = some o -> h1.get? c = some o) -> Q (.ref (s.heap.objs.size + 4)) { s with heap := h1 }) :
    wpAny (model prog w) A (call (.type "zip") [.ref a, .ref b]) Q E s := by
  refine callType_new F.called_zip (by decide) (F.typeCall_zip_2 _ _) (F.newCall_zip_2 _ _) (fun ob => F.args_object_init_3 ob _ _) F.entry_zip_new (zp_new a b xs ys) ⟨ha, hb, ?_⟩
  have s1 : (zq1 s.heap a).objs.size = s.heap.objs.size + 1 := Heap.size_push ..
  have s2 : (zq2 s.heap a b).objs.size = s.heap.objs.size + 2 := by rw [Heap.size_push, s1]
  have s3 : (zq3 s.heap a b).objs.size = s.heap.objs.size + 3 := by rw [Heap.size_push, s2]
  have s4 : (zq4 s.heap a b).objs.size = s.heap.objs.size + 4 := by rw [Heap.size_push, s3]
  have r5 : (zq5 s.heap a b).get? (zq4 s.heap a b).objs.size = some _ := Heap.get?_push_size _ rfl
  have r4 : (zq5 s.heap a b).get? (zq3 s.heap a b).objs.size = some _ := Heap.get?_push_of_some _ (Heap.get?_push_size _ rfl)
  have r3 : (zq5 s.heap a b).get? (zq2 s.heap a b).objs.size = some _ := Heap.get?_push_of_some _ (Heap.get?_push_of_some _ (Heap.get?_push_size _ rfl))
  have r2 : (zq5 s.heap a b).get? (zq1 s.heap a).objs.size = some _ := Heap.get?_push_of_some _ (Heap.get?_push_of_some _ (Heap.get?_push_of_some _ (Heap.get?_push_size _ rfl)))
  have r1 : (zq5 s.heap a b).get? s.heap.objs.size = some _ := Heap.get?_push_of_some _ (Heap.get?_push_of_some _ (Heap.get?_push_of_some _ (Heap.get?_push_of_some _ (Heap.get?_push_size _ rfl))))
  have up : ∀ c o, s.heap.get? c = some o -> (zq5 s.heap a b).get? c = some o := fun c o e => Heap.get?_push_of_some _ (Heap.get?_push_of_some _ (Heap.get?_push_of_some _ (Heap.get?_push_of_some _ (Heap.get?_push_of_some _ e))))
  have la : a < s.heap.objs.size := by obtain ⟨_, e, _⟩ := ha; exact Heap.lt_size e
  have lb : b < s.heap.objs.size := by obtain ⟨_, e, _⟩ := hb; exact Heap.lt_size e
  rw [s2, s3, s4] at r5
  rw [s1, s2] at r3
  rw [s3] at r4
  rw [s1] at r2
  show _ /\ _
  rw [s4]
  have ne : ∀ {m n : Nat}, m < n -> m ≠ n := fun h => Nat.ne_of_lt h
  refine ⟨⟨_, r5, rfl⟩, go _ ⟨?_, r5, r3, ⟨_, _, r4⟩, ⟨⟨_, r1, rfl, rfl⟩, ha.at fun o e => up _ _ e⟩, ⟨⟨_, r2, rfl, rfl⟩, hb.at fun o e => up _ _ e⟩⟩ up⟩
  generalize s.heap.objs.size = n at la lb
  have la' : (a : Nat) < n := la
  have lb' : (b : Nat) < n := lb
  constructor <;> first | exact ne (by omega) | exact (ne (by omega)).symm | exact ne (Nat.lt_of_lt_of_le la (by omega)) | exact ne (Nat.lt_of_lt_of_le lb (by omega)) | exact ne la | exact ne lb
end Sp
set_option Elab.async false
set_option linter.all false
set_option maxRecDepth 100000
namespace Sp
open PySem PySem.Spec PyProof.Rows L2
variable {X : Cx}
theorem inv_moved2 {pins : List (Addr × Obj)} {σ : L2.St} {H : Hp} {s : Shared} {h2 : Heap} {t2 : Nat} {ch : List Addr} (I : Inv X pins σ H s)
    (k : ∀ b u, b ∉ ch -> s.heap.get? b = some u -> h2.get? b = some u) (hn : ∀ b ∈ ch, FpOk X pins H b) : Inv X pins σ H { s with heap := h2, toks := t2 } := by
  have tr : ∀ b u, H b = some u -> b ∉ ch := fun b u e z => by rw [(hn b z).1] at e; cases e
  have un : Un (frs X.stack) ch H H s.heap h2 := ⟨fun b ob e n _ c => k b ob c e, fun b ob e n _ c => ⟨ob.slots, k b ob c e⟩, fun b ob e n c => n, fun b ob e c => ⟨ob, k b ob c e⟩, fun b xs e => e, fun b ob u e => e, fun b ps e => ⟨#[], by rw [e]; simp⟩⟩
  refine I.call (g' := s.gens) (d' := s.drawn) un (fun b u e => ?_) I.bare fun b hb => ⟨(hn b hb).2.2.2.1, (hn b hb).2.1, (hn b hb).2.2.2.2.1, (hn b hb).2.2.2.2.2⟩
  refine (I.hok b u e).stay (fun c v hc q => k c v ?_ q) (fun c q => q) fun c xs q => q
  rcases hc with z | z
  . rw [z]; exact tr b u e
  . exact tr c _ z
def Itz (K : PySem.W.Frag) (a b : Addr) : It :=
  ⟨fun i H => ∃ xs ys x y, SqT K H a xs /\ xs[i]? = some x /\ SqT K H b ys /\ ys[i]? = some y, fun i H x H' => ∃ p u v, x = .ref p /\ H p = none /\ H' = upd H p (.tup [u, v]) /\ (∀ xs, SqT K H a xs -> xs[i]? = some u) /\ ∀ ys, SqT K H b ys -> ys[i]? = some v, fun i H => ∃ xs ys, SqT K H a xs /\ SqT K H b ys /\ (xs.length <= i \/ ys.length <= i)⟩
theorem turn_zip {P : Program} {w : World} {K : PySem.W.Frag} {es : List Expr} {n1 : Nat} {pos : Pos} (a b z TI TO i1 i2 : Addr) (D : ZipApart z TI TO i1 i2 a b) :
    L2.Turn P w K (.Tuple es n1 pos) (Itz K a b) [z, TI, TO, i1, i2] z (fun i h => IsZip h z TI TO .none /\ IsPair h TI (.ref i1) (.ref i2) /\ (∃ u v, IsPair h TO u v) /\ h.IsTupleIter i1 a i /\ h.IsTupleIter i2 b i) where
  mem := by simp
  obj := fun i h st c hc => by
    obtain ⟨q1, q2, ⟨u, v, q3⟩, ⟨o4, q4, c4, d4⟩, ⟨o5, q5, c5, d5⟩⟩ := st
    simp only [List.mem_cons, List.not_mem_nil, or_false] at hc
    rcases hc with rfl | rfl | rfl | rfl | rfl
    . exact ⟨_, q1, fun v e => by have e' : Data.fields _ = Data.cell v := e; cases e'⟩
    . exact ⟨_, q2, fun v e => by have e' : Data.seq _ _ = Data.cell v := e; cases e'⟩
    . exact ⟨_, q3, fun v e => by have e' : Data.seq _ _ = Data.cell v := e; cases e'⟩
    . exact ⟨_, q4, fun v e => by rw [d4] at e; cases e⟩
    . exact ⟨_, q5, fun v e => by rw [d5] at e; cases e⟩
  keep := fun i h h' ⟨q1, q2, ⟨u, v, q3⟩, q4, q5⟩ k => ⟨k _ (by simp) _ q1, k _ (by simp) _ q2, ⟨u, v, k _ (by simp) _ q3⟩, q4.at fun o e => k _ (by simp) o e, q5.at fun o e => k _ (by simp) o e⟩
  item := by
    intro Y hP hw hK hc i pins s σ H E I hf st hg
    subst hP hw hK
    obtain ⟨xs, ys, x, y, hq, hx, hr, hy⟩ := hg
    obtain ⟨its, rv, p1, hz⟩ := I.tuple hq
    obtain ⟨jts, rw', p2, hz'⟩ := I.tuple hr
    obtain ⟨u, hu, ru⟩ := rv.get hx
    obtain ⟨v, hv, rv'⟩ := rw'.get hy
    obtain ⟨q1, q2, q3, q4, q5⟩ := st
    have zlt : z < s.heap.objs.size := Heap.lt_size q1
    refine Zs.pyItem (wk_tup (i := i1) (l := a) (xs := its.toArray) D.l1i1) (wk_tup (i := i2) (l := b) (xs := jts.toArray) D.l2i2) ⟨D, q1, q2, q3, ⟨q4, p1⟩, ⟨q5, p2⟩⟩ (x := u) (y := v) (by simpa using hu) (by simpa using hv) fun h1 nxt zo t1 k1 => ?_
    refine ⟨_, rfl, wpAny_letOwnedTupleGo_zip zo fun h2 z2 m2 => ?_⟩
    have m2 : Heap.SameBut z h1 h2 := m2
    have N := nxt h2 z2 m2
    have k2 : ∀ c o, c ∉ [z, TI, TO, i1, i2] -> s.heap.get? c = some o -> h2.get? c = some o := fun c o nc q => by
      have n1 : c ≠ z := fun e => nc (by simp [e])
      refine m2.extBut c o n1 (k1 c o (fun e => nc ?_) q)
      simp only [List.mem_cons, List.not_mem_nil, or_false] at e ⊢
      rcases e with e | e | e | e <;> simp [e]
    have t2 : h2.get? s.heap.objs.size = some { cls := .type "tuple", data := .seq #[u, v] } := m2.extBut _ _ (Nat.ne_of_gt zlt) t1
    have hn0 : H s.heap.objs.size = none := I.hok.fresh (Nat.le_refl _)
    refine ⟨.ref s.heap.objs.size, upd H s.heap.objs.size (.tup [x, y]), inv_laid2 (s := s) (h2 := h2) (t2 := s.toks) I k2 (Nat.le_refl _) hf ?_, rfl, ⟨_, x, y, rfl, hn0, rfl, fun ws hw => by rw [I.tuple_inj hw hq]; exact hx, fun ws hw => by rw [I.tuple_inj hw hr]; exact hy⟩, ⟨N.rd, N.ins, N.out, N.fst.1, N.snd.1⟩, fun c hc => ?_⟩
    . exact ⟨by show 2 <= sizeLine; decide, [u, v], .cons ru (.cons rv' .nil), ⟨_, t2, rfl, _, rfl⟩⟩
    . have hb' := hf c hc
      have lt : c < s.heap.objs.size := by
        obtain ⟨u', v', q3⟩ := q3
        obtain ⟨o4, q4, _⟩ := q4
        obtain ⟨o5, q5, _⟩ := q5
        simp only [List.mem_cons, List.not_mem_nil, or_false] at hc
        rcases hc with rfl | rfl | rfl | rfl | rfl
        . exact zlt
        . exact Heap.lt_size q2
        . exact Heap.lt_size q3
        . exact Heap.lt_size q4
        . exact Heap.lt_size q5
      rw [upd_ne (Nat.ne_of_lt lt)]; exact hb'.1
  done := by
    intro Y hP hw hK hc i pins s σ H E I hf st hg
    subst hP hw hK
    obtain ⟨xs, ys, hq, hr, hl⟩ := hg
    obtain ⟨its, rv, p1, hz⟩ := I.tuple hq
    obtain ⟨jts, rw', p2, hz'⟩ := I.tuple hr
    obtain ⟨q1, q2, q3, q4, q5⟩ := st
    have l1 := rv.length
    have l2 := rw'.length
    refine Zs.pyDone (I.ok.hd hc) (wk_tup (i := i1) (l := a) (xs := its.toArray) D.l1i1) (wk_tup (i := i2) (l := b) (xs := jts.toArray) D.l2i2) ⟨D, q1, q2, q3, ⟨q4, p1⟩, ⟨q5, p2⟩⟩ ?_ fun h1 k1 => ⟨rfl, inv_moved2 (s := s) (t2 := s.toks) (ch := [z, TI, TO, i1, i2]) I (fun c o nc q => k1 c o (fun e => nc ?_) q) hf⟩
    . rcases hl with hl | hl
      . exact .inl (by simp; omega)
      . exact .inr (by simp; omega)
    . simp only [List.mem_cons, List.not_mem_nil, or_false] at e ⊢
      rcases e with e | e | e | e <;> simp [e]
  self := fun _ _ _ _ _ st h => wpAny_pyIter_zip st.1 h
theorem ie_zip {ρ : Rho} {es : List Expr} {n1 : Nat} {tp p pos : Pos} {a b : Expr} {l m : List D} {k : Nat} (hg : Gl X "zip") (hm0 : X.mg "zip" = none) (ha : AD X ρ [a, b] [.tup l, .tup m] k) (hst : ∀ e ∈ [a, b], ∀ y p, e ≠ .Starred y p) (hf : llessL l = true) (hm : llessL m = true) :
    IE X ρ (.Tuple es n1 tp) (.Call (.Name "zip" p) [a, b] [] pos) (List.zipWith (fun x y => .tup [x, y]) l m) 0 := by
  intro ow pins s σ H R I ⟨E, q⟩
  have n1' := nostar_one (env := X.env) (es := [b]) (hst a (by simp))
  have n2' : (backTo pos (starEach [b] X.env)).any (·.1) = false := nostar_any fun x hx => hst x (by simp at hx; simp [hx])
  refine Call_ (ld_blt I hg hm0 (show bootBuiltins "zip" = some (.type "zip") by decide +kernel) (PyProof.Rows.callWith_type1 (thn (ha ow pos pins s σ H (fun vs H1 => Same H H1 /\ RepL X.K H1 (Kp ow H k) [.tup l, .tup m] vs) I ⟨E, fun vs H1 s1 r1 => ⟨s1, r1⟩⟩) fun us s1 ⟨vs, H1, I1, rv, sm, rp⟩ => ?_) n1' n2') (by decide +kernel) (by decide +kernel))
  rw [RepL] at rp
  obtain ⟨v1, vr, rfl, rp1, rp2⟩ := rp
  obtain ⟨v2, rfl, rp3⟩ := rp2.only
  obtain ⟨ta, xs, rfl, hq, rl⟩ := sqt_of rp1
  obtain ⟨tb, ys, rfl, hr, rm⟩ := sqt_of rp3
  obtain ⟨u1, u2, rfl, ru1, ru2⟩ := vals2 rv
  cases (show u1 = Value.ref ta from ru1)
  cases (show u2 = Value.ref tb from ru2)
  obtain ⟨its, rvs, pt, hz⟩ := I1.tuple hq
  obtain ⟨jts, rvs', pt', hz'⟩ := I1.tuple hr
  refine zp_call (show s1.heap.IsTuple ta its.toArray from pt) (show s1.heap.IsTuple tb jts.toArray from pt') fun h2 Z k2 => ?_
  refine wpAny_pyIter_zip Z.rd ?_
  have I2 : Inv X pins σ H1 { s1 with heap := h2 } := I1.kept (t' := s1.toks) k2
  have fr : ∀ j, FpOk X pins H1 (s1.heap.objs.size + j) := fun j => I1.fpOk (Nat.le_add_right _ _) (I1.hok.fresh (Nat.le_add_right _ _))
  refine ⟨s1.heap.objs.size + 4, [s1.heap.objs.size + 4, s1.heap.objs.size + 2, s1.heap.objs.size + 3, s1.heap.objs.size, s1.heap.objs.size + 1], _, _, H1, rfl, I2, turn_zip ta tb _ _ _ _ _ Z.ap, ⟨Z.rd, Z.ins, Z.out, Z.fst.1, Z.snd.1⟩, fun c hc => ?_, q _ H1 sm ?_⟩
  . simp only [List.mem_cons, List.not_mem_nil, or_false] at hc
    rcases hc with rfl | rfl | rfl | rfl | rfl
    . exact fr 4
    . exact fr 2
    . exact fr 3
    . exact fr 0
    . exact fr 1
  . intro i H2 st
    have rl' : RepL X.K H1 (Kd ow H 0 H1) l xs := rl.flat _ hf
    have rm' : RepL X.K H1 (Kd ow H 0 H1) m ys := rm.flat _ hm
    refine ⟨fun d hd => ?_, fun hle => ?_⟩
    . rw [List.getElem?_zipWith] at hd
      cases e : l[i]? with
      | none => rw [e] at hd; cases hd
      | some x =>
        cases e' : m[i]? with
        | none => rw [e, e'] at hd; cases hd
        | some y =>
          rw [e, e'] at hd; cases hd
          obtain ⟨u, hu, ru⟩ := rl'.get e
          obtain ⟨v, hv, rv⟩ := rm'.get e'
          refine ⟨⟨xs, ys, u, v, st.sq hq, hu, st.sq hr, hv⟩, fun x' H3 ⟨p', u', v', e1, e2, e3, e4, e5⟩ => ?_⟩
          have c1 := e4 xs (st.sq hq)
          have c2 := e5 ys (st.sq hr)
          rw [hu] at c1; cases c1
          rw [hv] at c2; cases c2
          subst e1 e3
          have sm3 := same_upd (o := HO.tup [u, v]) e2
          refine ⟨sm3, ?_⟩
          rw [Rep]
          exact ⟨p', _, rfl, SqT.of upd_same, RepL.cons ((ru.mono st).same sm3) (RepL.one ((rv.mono st).same sm3))⟩
    . rw [List.length_zipWith] at hle
      have l1 := rl.length
      have l2 := rm.length
      exact ⟨xs, ys, st.sq hq, st.sq hr, by omega⟩
end Sp
set_option Elab.async false
set_option linter.all false
set_option maxRecDepth 100000
namespace Sp
open PySem PySem.Spec PyProof.Rows L2
variable {X : Cx}
def IsItK (κ : Bool) (h : Heap) (i a : Addr) (k : Nat) : Prop := match κ with | true => h.IsTupleIter i a k | false => h.IsListIter i a k
def IsSqK (κ : Bool) (h : Heap) (a : Addr) (xs : Array Value) : Prop := match κ with | true => h.IsTuple a xs | false => h.IsList a xs
def SqK (κ : Bool) (K : PySem.W.Frag) (H : Hp) (a : Addr) (xs : List V) : Prop := match κ with | true => SqT K H a xs | false => SqL K H a xs
def seqK (κ : Bool) (l : List D) : D := match κ with | true => .tup l | false => .lst l
def itC (κ : Bool) : String := match κ with | true => "tuple_iterator" | false => "list_iterator"
theorem wk_k (κ : Bool) {prog : Program} {w : World} {i l : Addr} {xs : Array Value} (ne : l ≠ i) : Wk prog w i l (fun k h => IsItK κ h i l k /\ IsSqK κ h l xs) (fun k => xs[k]?) := by
  cases κ
  . exact wk_lst ne
  . exact wk_tup ne
theorem isItK_obj {κ : Bool} {h : Heap} {i a : Addr} {k : Nat} (p : IsItK κ h i a k) : ∃ o, h.get? i = some o /\ ∀ v, o.data ≠ Data.cell v := by
  cases κ
  . obtain ⟨o, e, _, d⟩ := (show h.IsListIter i a k from p); exact ⟨o, e, fun v z => by rw [d] at z; cases z⟩
  . obtain ⟨o, e, _, d⟩ := (show h.IsTupleIter i a k from p); exact ⟨o, e, fun v z => by rw [d] at z; cases z⟩
theorem isItK_at {κ : Bool} {h h' : Heap} {i a : Addr} {k : Nat} (p : IsItK κ h i a k) (q : ∀ o, h.get? i = some o -> h'.get? i = some o) : IsItK κ h' i a k := by
  cases κ
  . exact (show h.IsListIter i a k from p).at q
  . exact (show h.IsTupleIter i a k from p).at q
theorem isSqK_at {κ : Bool} {h h' : Heap} {a : Addr} {xs : Array Value} (p : IsSqK κ h a xs) (q : ∀ o, h.get? a = some o -> h'.get? a = some o) : IsSqK κ h' a xs := by
  cases κ
  . exact (show h.IsList a xs from p).at q
  . exact (show h.IsTuple a xs from p).at q
theorem isSqK_lt {κ : Bool} {h : Heap} {a : Addr} {xs : Array Value} (p : IsSqK κ h a xs) : a < h.objs.size := by
  cases κ
  . obtain ⟨_, e, _⟩ := (show h.IsList a xs from p); exact Heap.lt_size e
  . obtain ⟨_, e, _⟩ := (show h.IsTuple a xs from p); exact Heap.lt_size e
theorem inv_k {κ : Bool} {pins : List (Addr × Obj)} {σ : L2.St} {H : Hp} {s : Shared} {a : Addr} {xs : List V} (I : Inv X pins σ H s) (h : SqK κ X.K H a xs) : ∃ its : List Value, Vals xs its /\ IsSqK κ s.heap a its.toArray /\ xs.length <= sizeLine := by
  cases κ
  . obtain ⟨its, r, p, z⟩ := I.list h; exact ⟨its, r, p.isList, z⟩
  . obtain ⟨its, r, p, z⟩ := I.tuple h; exact ⟨its, r, p, z⟩
theorem inv_k_inj {κ : Bool} {pins : List (Addr × Obj)} {σ : L2.St} {H : Hp} {s : Shared} {a : Addr} {xs ys : List V} (I : Inv X pins σ H s) (h : SqK κ X.K H a xs) (h' : SqK κ X.K H a ys) : xs = ys := by
  cases κ
  . exact I.list_inj h h'
  . exact I.tuple_inj h h'
theorem sqk_of {κ : Bool} {ow : Ow} {H H1 : Hp} {k : Nat} {l : List D} {v : V} (h : Rep X.K H1 (Kp ow H k) (seqK κ l) v) : ∃ a vs, v = .ref a /\ SqK κ X.K H1 a vs /\ RepL X.K H1 (Kp ow H k) l vs /\ ∀ {P' : AP2} {H2 : Hp}, Stay (Kd ow H k H1) P' H1 H2 -> SqK κ X.K H2 a vs := by
  cases κ
  . rw [show seqK false l = .lst l from rfl, Rep] at h
    obtain ⟨a, vs, b, rfl, hl, hp, rl⟩ := h
    have hp' : Kd ow H k H1 a b := ⟨hp, fun hb => by subst hb; exact ⟨_, hl⟩⟩
    exact ⟨a, vs, rfl, hl.sq, rl, fun st => (st.ls hl hp').sq⟩
  . rw [show seqK true l = .tup l from rfl, Rep] at h
    obtain ⟨a, vs, rfl, hl, rl⟩ := h
    exact ⟨a, vs, rfl, hl, rl, fun st => st.sq hl⟩
abbrev zk1 (κ : Bool) (h : Heap) (a : Addr) : Heap := h.push { cls := .type (itC κ), data := .fields #[.ref a, .int 0 0] }
abbrev zk2 (κ κ' : Bool) (h : Heap) (a b : Addr) : Heap := (zk1 κ h a).push { cls := .type (itC κ'), data := .fields #[.ref b, .int 0 0] }
abbrev zk3 (κ κ' : Bool) (h : Heap) (a b : Addr) : Heap := (zk2 κ κ' h a b).push { cls := .type "tuple", data := .seq #[.ref h.objs.size, .ref (zk1 κ h a).objs.size] }
abbrev zk4 (κ κ' : Bool) (h : Heap) (a b : Addr) : Heap := (zk3 κ κ' h a b).push { cls := .type "tuple", data := .seq #[.none, .none] }
abbrev zk5 (κ κ' : Bool) (h : Heap) (a b : Addr) : Heap := (zk4 κ κ' h a b).push { cls := .type "zip", data := .fields #[.none, .bool false, .bool false, .ref (zk2 κ κ' h a b).objs.size, .ref (zk3 κ κ' h a b).objs.size] }
theorem zk_new_false_false (a b : Addr) (xs ys : Array Value) :
    Meets (Builtin.«zip.__new__» ⟨[.type "zip", .ref a, .ref b], []⟩) (fun _ R s => s.heap.IsList a xs /\ s.heap.IsList b ys /\ R (.ok (.ret (.ref (zk4 false false s.heap a b).objs.size))) { s with heap := zk5 false false s.heap a b }) :=
  .of_wp fun pg wd AA RR st hh => by
    obtain ⟨hp0, gg, dd, tk0, oo⟩ := st; obtain ⟨ha, hb, hh⟩ := hh
    have hsub0 := sub_zip
    have T1 : Heap.IsList (Shared.heap ⟨hp0, gg, dd, tk0, oo⟩) a xs := ha
    have T2 : Heap.IsList (Shared.heap ⟨hp0.push { cls := .type "list_iterator", data := .fields #[.ref a, .int 0 0] }, gg, dd, tk0, oo⟩) b ys := hb.at fun o e => Heap.get?_push_of_some _ e
    wp_walk using wpAny_pyIter_list T1, wpAny_pyIter_list T2
    exact ⟨_, rfl, hh⟩
theorem zk_new_false_true (a b : Addr) (xs ys : Array Value) :
    Meets (Builtin.«zip.__new__» ⟨[.type "zip", .ref a, .ref b], []⟩) (fun _ R s => s.heap.IsList a xs /\ s.heap.IsTuple b ys /\ R (.ok (.ret (.ref (zk4 false true s.heap a b).objs.size))) { s with heap := zk5 false true s.heap a b }) :=
  .of_wp fun pg wd AA RR st hh => by
    obtain ⟨hp0, gg, dd, tk0, oo⟩ := st; obtain ⟨ha, hb, hh⟩ := hh
    have hsub0 := sub_zip
    have T1 : Heap.IsList (Shared.heap ⟨hp0, gg, dd, tk0, oo⟩) a xs := ha
    have T2 : Heap.IsTuple (Shared.heap ⟨hp0.push { cls := .type "list_iterator", data := .fields #[.ref a, .int 0 0] }, gg, dd, tk0, oo⟩) b ys := hb.at fun o e => Heap.get?_push_of_some _ e
    wp_walk using wpAny_pyIter_list T1, wpAny_pyIter_tuple T2
    exact ⟨_, rfl, hh⟩
theorem zk_new_true_false (a b : Addr) (xs ys : Array Value) :
    Meets (Builtin.«zip.__new__» ⟨[.type "zip", .ref a, .ref b], []⟩) (fun _ R s => s.heap.IsTuple a xs /\ s.heap.IsList b ys /\ R (.ok (.ret (.ref (zk4 true false s.heap a b).objs.size))) { s with heap := zk5 true false s.heap a b }) :=
  .of_wp fun pg wd AA RR st hh => by
    obtain ⟨hp0, gg, dd, tk0, oo⟩ := st; obtain ⟨ha, hb, hh⟩ := hh
    have hsub0 := sub_zip
    have T1 : Heap.IsTuple (Shared.heap ⟨hp0, gg, dd, tk0, oo⟩) a xs := ha
    have T2 : Heap.IsList (Shared.heap ⟨hp0.push { cls := .type "tuple_iterator", data := .fields #[.ref a, .int 0 0] }, gg, dd, tk0, oo⟩) b ys := hb.at fun o e => Heap.get?_push_of_some _ e
    wp_walk using wpAny_pyIter_tuple T1, wpAny_pyIter_list T2
    exact ⟨_, rfl, hh⟩
theorem zk_new_true_true (a b : Addr) (xs ys : Array Value) :
    Meets (Builtin.«zip.__new__» ⟨[.type "zip", .ref a, .ref b], []⟩) (fun _ R s => s.heap.IsTuple a xs /\ s.heap.IsTuple b ys /\ R (.ok (.ret (.ref (zk4 true true s.heap a b).objs.size))) { s with heap := zk5 true true s.heap a b }) :=
  .of_wp fun pg wd AA RR st hh => by
    obtain ⟨hp0, gg, dd, tk0, oo⟩ := st; obtain ⟨ha, hb, hh⟩ := hh
    have hsub0 := sub_zip
    have T1 : Heap.IsTuple (Shared.heap ⟨hp0, gg, dd, tk0, oo⟩) a xs := ha
    have T2 : Heap.IsTuple (Shared.heap ⟨hp0.push { cls := .type "tuple_iterator", data := .fields #[.ref a, .int 0 0] }, gg, dd, tk0, oo⟩) b ys := hb.at fun o e => Heap.get?_push_of_some _ e
    wp_walk using wpAny_pyIter_tuple T1, wpAny_pyIter_tuple T2
    exact ⟨_, rfl, hh⟩
theorem zk_new (κ κ' : Bool) (a b : Addr) (xs ys : Array Value) :
    Meets (Builtin.«zip.__new__» ⟨[.type "zip", .ref a, .ref b], []⟩) (fun _ R s => IsSqK κ s.heap a xs /\ IsSqK κ' s.heap b ys /\ R (.ok (.ret (.ref (zk4 κ κ' s.heap a b).objs.size))) { s with heap := zk5 κ κ' s.heap a b }) := by
  cases κ <;> cases κ'
  . exact zk_new_false_false a b xs ys
  . exact zk_new_false_true a b xs ys
  . exact zk_new_true_false a b xs ys
  . exact zk_new_true_true a b xs ys
theorem isItK_mk {κ : Bool} {h : Heap} {i a : Addr} (e : h.get? i = some { cls := .type (itC κ), data := .fields #[.ref a, .int 0 0] }) : IsItK κ h i a 0 := by
  cases κ
  . exact ⟨_, e, rfl, rfl⟩
  . exact ⟨_, e, rfl, rfl⟩
theorem zp_callK {κ κ' : Bool} {prog : Program} {w : World} {A : Around} {E : Value -> Shared -> Prop} {s : Shared} {a b : Addr} {xs ys : Array Value} {Q : Value -> Shared -> Prop} (ha : IsSqK κ s.heap a xs) (hb : IsSqK κ' s.heap b ys)
    (go : ∀ h1, Zs (s.heap.objs.size + 4) (s.heap.objs.size + 2) (s.heap.objs.size + 3) s.heap.objs.size (s.heap.objs.size + 1) a b (fun k h => IsItK κ h s.heap.objs.size a k /\ IsSqK κ h a xs) (fun k h => IsItK κ' h (s.heap.objs.size + 1) b k /\ IsSqK κ' h b ys) 0 h1 -> (∀ c o, s.heap.get? c = some o -> h1.get? c = some o) -> Q (.ref (s.heap.objs.size + 4)) { s with heap := h1 }) :
    wpAny (model prog w) A (call (.type "zip") [.ref a, .ref b]) Q E s := by
  refine callType_new F.called_zip (by decide) (F.typeCall_zip_2 _ _) (F.newCall_zip_2 _ _) (fun ob => F.args_object_init_3 ob _ _) F.entry_zip_new (zk_new κ κ' a b xs ys) ⟨ha, hb, ?_⟩
  have s1 : (zk1 κ s.heap a).objs.size = s.heap.objs.size + 1 := Heap.size_push ..
  have s2 : (zk2 κ κ' s.heap a b).objs.size = s.heap.objs.size + 2 := by rw [Heap.size_push, s1]
  have s3 : (zk3 κ κ' s.heap a b).objs.size = s.heap.objs.size + 3 := by rw [Heap.size_push, s2]
  have s4 : (zk4 κ κ' s.heap a b).objs.size = s.heap.objs.size + 4 := by rw [Heap.size_push, s3]
  have r5 : (zk5 κ κ' s.heap a b).get? (zk4 κ κ' s.heap a b).objs.size = some _ := Heap.get?_push_size _ rfl
  have r4 : (zk5 κ κ' s.heap a b).get? (zk3 κ κ' s.heap a b).objs.size = some _ := Heap.get?_push_of_some _ (Heap.get?_push_size _ rfl)
  have r3 : (zk5 κ κ' s.heap a b).get? (zk2 κ κ' s.heap a b).objs.size = some _ := Heap.get?_push_of_some _ (Heap.get?_push_of_some _ (Heap.get?_push_size _ rfl))
  have r2 : (zk5 κ κ' s.heap a b).get? (zk1 κ s.heap a).objs.size = some _ := Heap.get?_push_of_some _ (Heap.get?_push_of_some _ (Heap.get?_push_of_some _ (Heap.get?_push_size _ rfl)))
  have r1 : (zk5 κ κ' s.heap a b).get? s.heap.objs.size = some _ := Heap.get?_push_of_some _ (Heap.get?_push_of_some _ (Heap.get?_push_of_some _ (Heap.get?_push_of_some _ (Heap.get?_push_size _ rfl))))
  have up : ∀ c o, s.heap.get? c = some o -> (zk5 κ κ' s.heap a b).get? c = some o := fun c o e => Heap.get?_push_of_some _ (Heap.get?_push_of_some _ (Heap.get?_push_of_some _ (Heap.get?_push_of_some _ (Heap.get?_push_of_some _ e))))
  have la : a < s.heap.objs.size := isSqK_lt ha
  have lb : b < s.heap.objs.size := isSqK_lt hb
  rw [s2, s3, s4] at r5
  rw [s1, s2] at r3
  rw [s3] at r4
  rw [s1] at r2
  show _ /\ _
  rw [s4]
  have ne : ∀ {m n : Nat}, m < n -> m ≠ n := fun h => Nat.ne_of_lt h
  refine ⟨⟨_, r5, rfl⟩, go _ ⟨?_, r5, r3, ⟨_, _, r4⟩, ⟨isItK_mk r1, isSqK_at ha fun o e => up _ _ e⟩, ⟨isItK_mk r2, isSqK_at hb fun o e => up _ _ e⟩⟩ up⟩
  generalize s.heap.objs.size = n at la lb
  have la' : (a : Nat) < n := la
  have lb' : (b : Nat) < n := lb
  constructor <;> first | exact ne (by omega) | exact (ne (by omega)).symm | exact ne (Nat.lt_of_lt_of_le la (by omega)) | exact ne (Nat.lt_of_lt_of_le lb (by omega)) | exact ne la | exact ne lb
def ItzK (κ κ' : Bool) (K : PySem.W.Frag) (a b : Addr) : It :=
  ⟨fun i H => ∃ xs ys x y, SqK κ K H a xs /\ xs[i]? = some x /\ SqK κ' K H b ys /\ ys[i]? = some y, fun i H x H' => ∃ p u v, x = .ref p /\ H p = none /\ H' = upd H p (.tup [u, v]) /\ (∀ xs, SqK κ K H a xs -> xs[i]? = some u) /\ ∀ ys, SqK κ' K H b ys -> ys[i]? = some v, fun i H => ∃ xs ys, SqK κ K H a xs /\ SqK κ' K H b ys /\ (xs.length <= i \/ ys.length <= i)⟩
theorem turn_zipK (κ κ' : Bool) {P : Program} {w : World} {K : PySem.W.Frag} {es : List Expr} {n1 : Nat} {pos : Pos} (a b z TI TO i1 i2 : Addr) (D : ZipApart z TI TO i1 i2 a b) :
    L2.Turn P w K (.Tuple es n1 pos) (ItzK κ κ' K a b) [z, TI, TO, i1, i2] z (fun i h => IsZip h z TI TO .none /\ IsPair h TI (.ref i1) (.ref i2) /\ (∃ u v, IsPair h TO u v) /\ IsItK κ h i1 a i /\ IsItK κ' h i2 b i) where
  mem := by simp
  obj := fun i h st c hc => by
    obtain ⟨q1, q2, ⟨u, v, q3⟩, q4, q5⟩ := st
    obtain ⟨o4, q4, d4⟩ := isItK_obj q4
    obtain ⟨o5, q5, d5⟩ := isItK_obj q5
    simp only [List.mem_cons, List.not_mem_nil, or_false] at hc
    rcases hc with rfl | rfl | rfl | rfl | rfl
    . exact ⟨_, q1, fun v e => by have e' : Data.fields _ = Data.cell v := e; cases e'⟩
    . exact ⟨_, q2, fun v e => by have e' : Data.seq _ _ = Data.cell v := e; cases e'⟩
    . exact ⟨_, q3, fun v e => by have e' : Data.seq _ _ = Data.cell v := e; cases e'⟩
    . exact ⟨_, q4, d4⟩
    . exact ⟨_, q5, d5⟩
  keep := fun i h h' ⟨q1, q2, ⟨u, v, q3⟩, q4, q5⟩ k => ⟨k _ (by simp) _ q1, k _ (by simp) _ q2, ⟨u, v, k _ (by simp) _ q3⟩, isItK_at q4 fun o e => k _ (by simp) o e, isItK_at q5 fun o e => k _ (by simp) o e⟩
  item := by
    intro Y hP hw hK hc i pins s σ H E I hf st hg
    subst hP hw hK
    obtain ⟨xs, ys, x, y, hq, hx, hr, hy⟩ := hg
    obtain ⟨its, rv, p1, hz⟩ := inv_k I hq
    obtain ⟨jts, rw', p2, hz'⟩ := inv_k I hr
    obtain ⟨u, hu, ru⟩ := rv.get hx
    obtain ⟨v, hv, rv'⟩ := rw'.get hy
    obtain ⟨q1, q2, q3, q4, q5⟩ := st
    have zlt : z < s.heap.objs.size := Heap.lt_size q1
    refine Zs.pyItem (wk_k κ (i := i1) (l := a) (xs := its.toArray) D.l1i1) (wk_k κ' (i := i2) (l := b) (xs := jts.toArray) D.l2i2) ⟨D, q1, q2, q3, ⟨q4, p1⟩, ⟨q5, p2⟩⟩ (x := u) (y := v) (by simpa using hu) (by simpa using hv) fun h1 nxt zo t1 k1 => ?_
    refine ⟨_, rfl, wpAny_letOwnedTupleGo_zip zo fun h2 z2 m2 => ?_⟩
    have m2 : Heap.SameBut z h1 h2 := m2
    have N := nxt h2 z2 m2
    have k2 : ∀ c o, c ∉ [z, TI, TO, i1, i2] -> s.heap.get? c = some o -> h2.get? c = some o := fun c o nc q => by
      have n1 : c ≠ z := fun e => nc (by simp [e])
      refine m2.extBut c o n1 (k1 c o (fun e => nc ?_) q)
      simp only [List.mem_cons, List.not_mem_nil, or_false] at e ⊢
      rcases e with e | e | e | e <;> simp [e]
    have t2 : h2.get? s.heap.objs.size = some { cls := .type "tuple", data := .seq #[u, v] } := m2.extBut _ _ (Nat.ne_of_gt zlt) t1
    have hn0 : H s.heap.objs.size = none := I.hok.fresh (Nat.le_refl _)
    refine ⟨.ref s.heap.objs.size, upd H s.heap.objs.size (.tup [x, y]), inv_laid2 (s := s) (h2 := h2) (t2 := s.toks) I k2 (Nat.le_refl _) hf ?_, rfl, ⟨_, x, y, rfl, hn0, rfl, fun ws hw => by rw [inv_k_inj I hw hq]; exact hx, fun ws hw => by rw [inv_k_inj I hw hr]; exact hy⟩, ⟨N.rd, N.ins, N.out, N.fst.1, N.snd.1⟩, fun c hc => ?_⟩
    . exact ⟨by show 2 <= sizeLine; decide, [u, v], .cons ru (.cons rv' .nil), ⟨_, t2, rfl, _, rfl⟩⟩
    . have hb' := hf c hc
      have lt : c < s.heap.objs.size := by
        obtain ⟨u', v', q3⟩ := q3
        obtain ⟨o4, q4, _⟩ := isItK_obj q4
        obtain ⟨o5, q5, _⟩ := isItK_obj q5
        simp only [List.mem_cons, List.not_mem_nil, or_false] at hc
        rcases hc with rfl | rfl | rfl | rfl | rfl
        . exact zlt
        . exact Heap.lt_size q2
        . exact Heap.lt_size q3
        . exact Heap.lt_size q4
        . exact Heap.lt_size q5
      rw [upd_ne (Nat.ne_of_lt lt)]; exact hb'.1
  done := by
    intro Y hP hw hK hc i pins s σ H E I hf st hg
    subst hP hw hK
    obtain ⟨xs, ys, hq, hr, hl⟩ := hg
    obtain ⟨its, rv, p1, hz⟩ := inv_k I hq
    obtain ⟨jts, rw', p2, hz'⟩ := inv_k I hr
    obtain ⟨q1, q2, q3, q4, q5⟩ := st
    have l1 := rv.length
    have l2 := rw'.length
    refine Zs.pyDone (I.ok.hd hc) (wk_k κ (i := i1) (l := a) (xs := its.toArray) D.l1i1) (wk_k κ' (i := i2) (l := b) (xs := jts.toArray) D.l2i2) ⟨D, q1, q2, q3, ⟨q4, p1⟩, ⟨q5, p2⟩⟩ ?_ fun h1 k1 => ⟨rfl, inv_moved2 (s := s) (t2 := s.toks) (ch := [z, TI, TO, i1, i2]) I (fun c o nc q => k1 c o (fun e => nc ?_) q) hf⟩
    . rcases hl with hl | hl
      . exact .inl (by simp; omega)
      . exact .inr (by simp; omega)
    . simp only [List.mem_cons, List.not_mem_nil, or_false] at e ⊢
      rcases e with e | e | e | e <;> simp [e]
  self := fun _ _ _ _ _ st h => wpAny_pyIter_zip st.1 h
theorem ie_zipK {κ κ' : Bool} {ρ : Rho} {es : List Expr} {n1 : Nat} {tp p pos : Pos} {a b : Expr} {l m : List D} {k : Nat} (hg : Gl X "zip") (hm0 : X.mg "zip" = none) (ha : AD X ρ [a, b] [seqK κ l, seqK κ' m] k) (hst : ∀ e ∈ [a, b], ∀ y p, e ≠ .Starred y p) (hf : llessL l = true) (hm : llessL m = true) :
    IE X ρ (.Tuple es n1 tp) (.Call (.Name "zip" p) [a, b] [] pos) (List.zipWith (fun x y => .tup [x, y]) l m) k := by
  intro ow pins s σ H R I ⟨E, q⟩
  have n1' := nostar_one (env := X.env) (es := [b]) (hst a (by simp))
  have n2' : (backTo pos (starEach [b] X.env)).any (·.1) = false := nostar_any fun x hx => hst x (by simp at hx; simp [hx])
  refine Call_ (ld_blt I hg hm0 (show bootBuiltins "zip" = some (.type "zip") by decide +kernel) (PyProof.Rows.callWith_type1 (thn (ha ow pos pins s σ H (fun vs H1 => Same H H1 /\ RepL X.K H1 (Kp ow H k) [seqK κ l, seqK κ' m] vs) I ⟨E, fun vs H1 s1 r1 => ⟨s1, r1⟩⟩) fun us s1 ⟨vs, H1, I1, rv, sm, rp⟩ => ?_) n1' n2') (by decide +kernel) (by decide +kernel))
  rw [RepL] at rp
  obtain ⟨v1, vr, rfl, rp1, rp2⟩ := rp
  obtain ⟨v2, rfl, rp3⟩ := rp2.only
  obtain ⟨ta, xs, rfl, hq, rl, hk1⟩ := sqk_of rp1
  obtain ⟨tb, ys, rfl, hr, rm, hk2⟩ := sqk_of rp3
  obtain ⟨u1, u2, rfl, ru1, ru2⟩ := vals2 rv
  cases (show u1 = Value.ref ta from ru1)
  cases (show u2 = Value.ref tb from ru2)
  obtain ⟨its, rvs, pt, hz⟩ := inv_k I1 hq
  obtain ⟨jts, rvs', pt', hz'⟩ := inv_k I1 hr
  refine zp_callK (κ := κ) (κ' := κ') pt pt' fun h2 Z k2 => ?_
  refine wpAny_pyIter_zip Z.rd ?_
  have I2 : Inv X pins σ H1 { s1 with heap := h2 } := I1.kept (t' := s1.toks) k2
  have fr : ∀ j, FpOk X pins H1 (s1.heap.objs.size + j) := fun j => I1.fpOk (Nat.le_add_right _ _) (I1.hok.fresh (Nat.le_add_right _ _))
  refine ⟨s1.heap.objs.size + 4, [s1.heap.objs.size + 4, s1.heap.objs.size + 2, s1.heap.objs.size + 3, s1.heap.objs.size, s1.heap.objs.size + 1], _, _, H1, rfl, I2, turn_zipK κ κ' ta tb _ _ _ _ _ Z.ap, ⟨Z.rd, Z.ins, Z.out, Z.fst.1, Z.snd.1⟩, fun c hc => ?_, q _ H1 sm ?_⟩
  . simp only [List.mem_cons, List.not_mem_nil, or_false] at hc
    rcases hc with rfl | rfl | rfl | rfl | rfl
    . exact fr 4
    . exact fr 2
    . exact fr 3
    . exact fr 0
    . exact fr 1
  . intro i H2 st
    have rl' : RepL X.K H1 (Kd ow H k H1) l xs := rl.flat _ hf
    have rm' : RepL X.K H1 (Kd ow H k H1) m ys := rm.flat _ hm
    refine ⟨fun d hd => ?_, fun hle => ?_⟩
    . rw [List.getElem?_zipWith] at hd
      cases e : l[i]? with
      | none => rw [e] at hd; cases hd
      | some x =>
        cases e' : m[i]? with
        | none => rw [e, e'] at hd; cases hd
        | some y =>
          rw [e, e'] at hd; cases hd
          obtain ⟨u, hu, ru⟩ := rl'.get e
          obtain ⟨v, hv, rv⟩ := rm'.get e'
          refine ⟨⟨xs, ys, u, v, hk1 st, hu, hk2 st, hv⟩, fun x' H3 ⟨p', u', v', e1, e2, e3, e4, e5⟩ => ?_⟩
          have c1 := e4 xs (hk1 st)
          have c2 := e5 ys (hk2 st)
          rw [hu] at c1; cases c1
          rw [hv] at c2; cases c2
          subst e1 e3
          have sm3 := same_upd (o := HO.tup [u, v]) e2
          refine ⟨sm3, ?_⟩
          rw [Rep]
          exact ⟨p', _, rfl, SqT.of upd_same, RepL.cons ((ru.mono st).same sm3) (RepL.one ((rv.mono st).same sm3))⟩
    . rw [List.length_zipWith] at hle
      have l1 := rl.length
      have l2 := rm.length
      exact ⟨xs, ys, hk1 st, hk2 st, by omega⟩
theorem seqOf_k {x : D} {l : List D} (h : seqOf x = some l) : ∃ κ, x = seqK κ l := by
  rcases seqOf_eq h with rfl | rfl
  . exact ⟨true, rfl⟩
  . exact ⟨false, rfl⟩
theorem iZip_ok : ItrOk "zip" iZip := by
  refine ⟨by decide +kernel, fun X ρ p pos args ds k d j l tg o hc hg hm ha hst hlen h hp hl ht => ?_⟩
  have ht2 : isTupE tg = true := by simpa [tgOk] using ht
  obtain ⟨es, n1, tp, rfl⟩ := isTupE_eq ht2
  unfold iZip at h
  split at h
  . cases h
    cases hl
    match args, hlen, ha, hst with
    | [a', b'], _, ha, hst => exact ie_zip hg hm ha hst hp.1 hp.2.1
  . split at h
    . rename_i x y _ a b e1 e2
      cases h
      cases hl
      obtain ⟨κ, rfl⟩ := seqOf_k e1
      obtain ⟨κ', rfl⟩ := seqOf_k e2
      match args, hlen, ha, hst with
      | [a', b'], _, ha, hst => exact ie_zipK hg hm ha hst hp.1 hp.2.1
    . cases h
  . cases h
end Sp
set_option Elab.async false
set_option linter.all false
set_option maxRecDepth 100000
namespace Sp
open PySem PySem.Spec PyProof.Rows L2
open AutoSeq1 (wpAny_loadPart')
variable {X : Cx}
section
variable {prog : Program} {w : World} {A : Around} {E : Value -> Shared -> Prop} {s : Shared}
end
end Sp
set_option Elab.async false
set_option linter.all false
set_option maxRecDepth 100000
namespace Sp
open PySem PySem.Spec PyProof.Rows L2
open PySem.W (KasT kas_sort kas_ask KatLex KatTups kat_sorted kat_kind kat_lt kat_cons kat_nil kat_go kat_yes kat_no kat_one KasFin)
section
variable {prog : Program} {w : World} {A : Around} {E : Value -> Shared -> Prop} {s : Shared}
end
variable {X : Cx}
end Sp
set_option Elab.async false
set_option linter.all false
set_option maxRecDepth 100000
namespace Sp
open PySem PySem.Spec PyProof.Rows L2
theorem okr_of {α : Type} {r : Rs α} {a : α} {l : List Prop} (h : r = .ok a l) (hp : allP l) : Okr r a := ⟨l, h, hp⟩
theorem Okr.eq {α : Type} {r : Rs α} {a b : α} (h : Okr r a) (e : a = b) : Okr r b := e ▸ h
theorem Okr.bnd {α β : Type} {r : Rs α} {f : α -> Rs β} {a : α} {b : β} (h1 : Okr r a) (h2 : Okr (f a) b) : Okr (r.bnd f) b := by
  obtain ⟨l, rfl, p1⟩ := h1
  obtain ⟨m, h2, p2⟩ := h2
  refine ⟨l ++ m, ?_, allP_append.mpr ⟨p1, p2⟩⟩
  show (match f a with | .st => (.st : Rs β) | .ok b m => Rs.ok b (l ++ m)) = _
  rw [h2]
theorem Okr.inj {α : Type} {r : Rs α} {a b : α} (h : Okr r a) (g : Okr r b) : a = b := by
  obtain ⟨l, h, _⟩ := h; obtain ⟨m, g, _⟩ := g; rw [h] at g; cases g; rfl
section
variable {Φ : Fx} {sc : Scope} {ρ ρ' : Rho} {fl : Fl} {ss : List Stmt}
theorem run_i {ps : List Str} {body : List Stmt} {ds : List D} {d : D} (h : Okr (exSs Φ body sc (argR ps ds)) (.rt d)) (hl : ds.length = ps.length := by rfl) : Okr (runD Φ sc ps body ds) d := by
  unfold runD; rw [if_pos hl]; exact h.bnd ⟨[], rfl, True.intro⟩
theorem ss_nil : Okr (exSs Φ [] sc ρ) (.nx ρ) := ⟨[], rfl, True.intro⟩
theorem ss_nx {s : Stmt} (h : Okr (exS Φ s sc ρ) (.nx ρ')) (h2 : Okr (exSs Φ ss sc ρ') fl) : Okr (exSs Φ (s :: ss) sc ρ) fl := Okr.bnd h h2
theorem ss_end {s : Stmt} (h : Okr (exS Φ s sc ρ) fl) (hf : ∀ ρ, fl ≠ .nx ρ) : Okr (exSs Φ (s :: ss) sc ρ) fl := Okr.bnd h (by
  cases fl with
  | nx ρ => exact absurd rfl (hf ρ)
  | rt d => exact ⟨[], rfl, True.intro⟩
  | bk ρ => exact ⟨[], rfl, True.intro⟩
  | ct ρ => exact ⟨[], rfl, True.intro⟩)
theorem ss_rt {s : Stmt} {d : D} (h : Okr (exS Φ s sc ρ) (.rt d)) : Okr (exSs Φ (s :: ss) sc ρ) (.rt d) := ss_end h fun _ z => by cases z
theorem ss_inv {s : Stmt} (h : Okr (exSs Φ (s :: ss) sc ρ) fl) : (∃ ρ', Okr (exS Φ s sc ρ) (.nx ρ') /\ Okr (exSs Φ ss sc ρ') fl) \/ ((∀ ρ, fl ≠ .nx ρ) /\ Okr (exS Φ s sc ρ) fl) := by
  obtain ⟨f, h1, h2⟩ := okr_bnd (show Okr (Rs.bnd _ _) fl from h)
  cases f with
  | nx ρ' => exact .inl ⟨ρ', h1, h2⟩
  | rt d => cases okr_ok h2; exact .inr ⟨fun _ z => (by cases z), h1⟩
  | bk ρ => cases okr_ok h2; exact .inr ⟨fun _ z => (by cases z), h1⟩
  | ct ρ => cases okr_ok h2; exact .inr ⟨fun _ z => (by cases z), h1⟩
theorem app_nx : ∀ {a : List Stmt} {ρ : Rho}, Okr (exSs Φ a sc ρ) (.nx ρ') -> Okr (exSs Φ ss sc ρ') fl -> Okr (exSs Φ (a ++ ss) sc ρ) fl
  | [], ρ, h, h2 => by cases okr_ok h; exact h2
  | s :: a, ρ, h, h2 => by
    rcases ss_inv h with ⟨ρ1, h3, h4⟩ | ⟨h3, _⟩
    . exact ss_nx h3 (app_nx h4 h2)
    . exact absurd rfl (h3 _)
theorem app_inv : ∀ {a : List Stmt} {ρ : Rho}, Okr (exSs Φ (a ++ ss) sc ρ) fl -> (∃ ρ', Okr (exSs Φ a sc ρ) (.nx ρ') /\ Okr (exSs Φ ss sc ρ') fl) \/ ((∀ ρ, fl ≠ .nx ρ) /\ Okr (exSs Φ a sc ρ) fl)
  | [], ρ, h => .inl ⟨ρ, ss_nil, h⟩
  | s :: a, ρ, h => by
    rcases ss_inv h with ⟨ρ1, h3, h4⟩ | ⟨h3, h4⟩
    . rcases app_inv h4 with ⟨ρ2, h5, h6⟩ | ⟨h5, h6⟩
      . exact .inl ⟨ρ2, ss_nx h3 h5, h6⟩
      . exact .inr ⟨h5, ss_nx h3 h6⟩
    . exact .inr ⟨h3, ss_end h4 h3⟩
theorem ss_cut (n : Nat) (h : Okr (exSs Φ (ss.take n) sc ρ) (.nx ρ')) (h2 : Okr (exSs Φ (ss.drop n) sc ρ') fl) : Okr (exSs Φ ss sc ρ) fl := by
  rw [<- List.take_append_drop n ss]; exact app_nx h h2
theorem ss_if {c : Expr} {a b : List Stmt} {p : Pos} {t : Bool} {k : Nat} (hc : Okr (evE Φ c false sc ρ) (.bl t, k)) (h1 : t = true -> Okr (exSs Φ (a ++ ss) sc ρ) fl) (h2 : t = false -> Okr (exSs Φ (b ++ ss) sc ρ) fl) : Okr (exSs Φ (.If c a b p :: ss) sc ρ) fl := by
  have key : ∀ x, Okr (cond t (exSs Φ a sc ρ) (exSs Φ b sc ρ)) x -> Okr (exS Φ (.If c a b p) sc ρ) x := fun x hx => Okr.bnd hc hx
  cases t with
  | true =>
    rcases app_inv (h1 rfl) with ⟨ρ1, h3, h4⟩ | ⟨h3, h4⟩
    . exact ss_nx (key _ h3) h4
    . exact ss_end (key _ h4) h3
  | false =>
    rcases app_inv (h2 rfl) with ⟨ρ1, h3, h4⟩ | ⟨h3, h4⟩
    . exact ss_nx (key _ h3) h4
    . exact ss_end (key _ h4) h3
theorem ss_ifT {c : Expr} {a b : List Stmt} {p : Pos} {t : Bool} {k : Nat} (hc : Okr (evE Φ c false sc ρ) (.bl t, k)) (ht : t = true) (h1 : Okr (exSs Φ (a ++ ss) sc ρ) fl) : Okr (exSs Φ (.If c a b p :: ss) sc ρ) fl := ss_if hc (fun _ => h1) fun z => by rw [ht] at z; cases z
theorem ss_ifF {c : Expr} {a b : List Stmt} {p : Pos} {t : Bool} {k : Nat} (hc : Okr (evE Φ c false sc ρ) (.bl t, k)) (ht : t = false) (h1 : Okr (exSs Φ (b ++ ss) sc ρ) fl) : Okr (exSs Φ (.If c a b p :: ss) sc ρ) fl := ss_if hc (fun z => by rw [ht] at z; cases z) fun _ => h1
theorem ex_for {tg it : Expr} {body : List Stmt} {p : Pos} {d : D} {ds : List D} {k : Nat} (hi : Okr (evE Φ it true sc (demote it ρ)) (d, k)) (hd : items d = some ds) (hk : k <= 1) (ht : tgOk it tg = true) (h : Okr (forD (bindG sc tg) (exSs Φ body sc) ds (demote it ρ)) fl) : Okr (exS Φ (.For tg it body [] p) sc ρ) fl := by
  rw [exS_for, if_pos (show List.isEmpty ([] : List Stmt) = true from rfl)]
  refine hi.bnd ?_
  dsimp only
  rw [hd]
  dsimp only
  rw [if_pos ⟨hk, ht⟩]
  exact h
theorem ex_while {c : Expr} {body : List Stmt} {p : Pos} (h : Okr (whD (fun ρ => (evE Φ c false sc ρ).bnd fun p => blR p fun b => .ok b []) (exSs Φ body sc) many ρ) fl) : Okr (exS Φ (.While c body [] p) sc ρ) fl := by
  rw [exS_wh, if_pos (show List.isEmpty ([] : List Stmt) = true from rfl)]; exact h
theorem ev_call {f : Str} {p q : Pos} {args : List Expr} {it : Bool} {ds : List D} {k : Nat} {F : List D -> Rs D} {v : D} (ha : Okr (evEs Φ args sc ρ) (ds, k)) (hv : Okr (F ds) v) (hF : Φ.fn f = some F := by rfl) (hg : sc.names.lookup f = some .globalImplicit := by rfl) : Okr (evE Φ (.Call (.Name f p) args [] q) it sc ρ) (v, 0) := by
  rw [evE_calN, if_pos hg]
  refine ha.bnd ?_
  unfold callD
  rw [hF]
  exact hv.bnd ⟨[], rfl, True.intro⟩
theorem evs_nil : Okr (evEs Φ [] sc ρ) ([], 0) := ⟨[], rfl, True.intro⟩
theorem evs_cons {e : Expr} {es : List Expr} {d : D} {ds : List D} {k j : Nat} (h : Okr (evE Φ e false sc ρ) (d, k)) (h2 : Okr (evEs Φ es sc ρ) (ds, j)) : Okr (evEs Φ (e :: es) sc ρ) (d :: ds, kj k j) := Okr.bnd h (Okr.bnd h2 ⟨[], rfl, True.intro⟩)
theorem ev_comp {elt tg iter : Expr} {ifs : List Expr} {scope : Scope} {p : Pos} {it : Bool} {d : D} {ds out : List D} {k j : Nat} (hi : Okr (evE Φ iter true sc ρ) (d, k)) (hd : items d = some ds) (hl : ds.length <= many /\ (llessL ds = true \/ k <= 1))
    (h : Okr (compD (fun d => match bindG scope tg d (flt scope ρ) with
            | none => .st
            | some ρ' => (evB Φ .And ifs scope ρ').bnd fun b => cond b ((evE Φ elt false scope ρ').bnd fun r => .ok (some r) []) (.ok none [])) ds) (out, j)) (hj : j <= 1) (hc : cOk sc scope = true := by rfl) (ht : tgOk iter tg = true := by rfl) : Okr (evE Φ (.ListComp elt [⟨tg, iter, ifs, 0⟩] scope p) it sc ρ) (.lst out, j) := by
  rw [evE_cmp, if_pos hc]
  refine hi.bnd ?_
  dsimp only
  rw [hd]
  dsimp only
  rw [if_pos ht]
  refine Okr.bnd (a := ()) ⟨_, rfl, hl.1, hl.2, True.intro⟩ ?_
  refine h.bnd ?_
  rw [if_pos hj]
  exact ⟨[], rfl, True.intro⟩
theorem ev_ix {a i : Expr} {p : Pos} {it : Bool} {x d : D} {l : List D} {j : Int} {k k2 : Nat} (ha : Okr (evE Φ a false sc ρ) (x, k)) (hi : Okr (evE Φ i false sc ρ) (.int j, k2)) (hx : seqOf x = some l) (hd : L2.atI l j = some d) : Okr (evE Φ (.Subscript a i p) it sc ρ) (d, kn d k) := by
  have key : Okr ((evE Φ a false sc ρ).bnd fun p => (evE Φ i false sc ρ).bnd fun q => intR q fun j => ixD p.1 j p.2) (d, kn d k) := by
    refine ha.bnd (hi.bnd ?_)
    show Okr (ixD x j k) _
    unfold ixD
    rw [hx]; dsimp only
    rw [hd]; exact ⟨[], rfl, True.intro⟩
  cases i with
  | Slice lo hi st p2 => exact (okr_st hi).elim
  | _ => exact key
theorem ex_set {e : Expr} {x : Str} {p q : Pos} {d : D} (h : Okr (evE Φ e false sc ρ) (d, 0)) (hx : locK sc x = true := by rfl) : Okr (exS Φ (.Assign [.Name x p] e q) sc ρ) (.nx (putR ρ x (d, true))) := by
  refine Okr.bnd h ?_
  unfold putO
  rw [if_pos hx]
  exact ⟨[], rfl, True.intro⟩
theorem ex_ret {e : Expr} {q : Pos} {d : D} {k : Nat} (h : Okr (evE Φ e false sc ρ) (d, k)) (hk : k = 0 \/ k = 2 := by exact .inl rfl) (hn : nestE e = false := by rfl) : Okr (exS Φ (.Return (some e) q) sc ρ) (.rt d) := by
  have h : Okr (evE Φ e false sc (rtR e ρ)) (d, k) := by unfold rtR; rw [hn]; exact h
  refine Okr.bnd h ?_
  unfold retK
  rw [if_pos hk]
  exact ⟨[], rfl, True.intro⟩
end
theorem forD_inv {bind : D -> Rho -> Option Rho} {body : Rho -> Rs Fl} (Inv : List D -> Rho -> Prop) (step : ∀ d l ρ, Inv (d :: l) ρ -> ∃ ρ1 ρ2, bind d ρ = some ρ1 /\ (Okr (body ρ1) (.nx ρ2) \/ Okr (body ρ1) (.ct ρ2)) /\ Inv l ρ2) : ∀ {ds : List D} {ρ : Rho}, Inv ds ρ -> ∃ ρ', Okr (forD bind body ds ρ) (.nx ρ') /\ Inv [] ρ'
  | [], ρ, h => ⟨ρ, ⟨[], rfl, True.intro⟩, h⟩
  | d :: l, ρ, h => by
    obtain ⟨ρ1, ρ2, h1, h2, h3⟩ := step d l ρ h
    obtain ⟨ρ', h4, h5⟩ := forD_inv Inv step h3
    refine ⟨ρ', ?_, h5⟩
    show Okr (match bind d ρ with | none => (.st : Rs Fl) | some ρ1 => (body ρ1).bnd (nxt (forD bind body l))) _
    rw [h1]
    rcases h2 with h2 | h2
    . exact h2.bnd h4
    . exact h2.bnd h4
theorem forD_rt {bind : D -> Rho -> Option Rho} {body : Rho -> Rs Fl} (Inv : List D -> Rho -> Prop) (R : D -> Prop) (step : ∀ d l ρ, Inv (d :: l) ρ -> ∃ ρ1, bind d ρ = some ρ1 /\ ((∃ ρ2, (Okr (body ρ1) (.nx ρ2) \/ Okr (body ρ1) (.ct ρ2)) /\ Inv l ρ2) \/ ∃ r, Okr (body ρ1) (.rt r) /\ R r)) : ∀ {ds : List D} {ρ : Rho}, Inv ds ρ -> (∃ ρ', Okr (forD bind body ds ρ) (.nx ρ') /\ Inv [] ρ') \/ ∃ r, Okr (forD bind body ds ρ) (.rt r) /\ R r
  | [], ρ, h => .inl ⟨ρ, ⟨[], rfl, True.intro⟩, h⟩
  | d :: l, ρ, h => by
    obtain ⟨ρ1, h1, h2⟩ := step d l ρ h
    have key : forD bind body (d :: l) ρ = (body ρ1).bnd (nxt (forD bind body l)) := by
      show (match bind d ρ with | none => (.st : Rs Fl) | some ρ1 => (body ρ1).bnd (nxt (forD bind body l))) = _
      rw [h1]
    rw [key]
    rcases h2 with ⟨ρ2, h2, h3⟩ | ⟨r, h2, h3⟩
    . have go : ∀ x, Okr (forD bind body l ρ2) x -> Okr ((body ρ1).bnd (nxt (forD bind body l))) x := fun x hx => by
        rcases h2 with h2 | h2
        . exact h2.bnd hx
        . exact h2.bnd hx
      rcases forD_rt Inv R step h3 with ⟨ρ', h4, h5⟩ | ⟨r, h4, h5⟩
      . exact .inl ⟨ρ', go _ h4, h5⟩
      . exact .inr ⟨r, go _ h4, h5⟩
    . exact .inr ⟨r, h2.bnd ⟨[], rfl, True.intro⟩, h3⟩
theorem compD_map {α : Type} {step : D -> Rs (Option (D × Nat))} {g : α -> D} {f : α -> D} : ∀ {l : List α}, (∀ x ∈ l, Okr (step (g x)) (some (f x, 0))) -> Okr (compD step (l.map g)) (l.map f, 0)
  | [], _ => ⟨[], rfl, True.intro⟩
  | x :: l, h => Okr.bnd (h x List.mem_cons_self) (Okr.bnd (compD_map fun y hy => h y (List.mem_cons_of_mem _ hy)) ⟨[], rfl, True.intro⟩)
theorem compD_filter {α : Type} {step : D -> Rs (Option (D × Nat))} {g : α -> D} {f : α -> D} {c : α -> Bool} : ∀ {l : List α}, (∀ x ∈ l, Okr (step (g x)) (cond (c x) (some (f x, 0)) none)) -> Okr (compD step (l.map g)) ((l.filter c).map f, 0)
  | [], _ => ⟨[], rfl, True.intro⟩
  | x :: l, h => by
    have h1 := h x List.mem_cons_self
    have h2 := compD_filter (c := c) fun y hy => h y (List.mem_cons_of_mem _ hy)
    cases e : c x with
    | true =>
      rw [e] at h1
      rw [List.filter_cons_of_pos e]
      exact Okr.bnd h1 (Okr.bnd h2 ⟨[], rfl, True.intro⟩)
    | false =>
      rw [e] at h1
      rw [List.filter_cons_of_neg (by rw [e]; decide)]
      exact Okr.bnd h1 (Okr.bnd h2 ⟨[], rfl, True.intro⟩)
theorem mulOk_l {a b : Int} (h : a.natAbs < 18446744073709551616) : mulOk a b := .inl h
theorem mulOk_r {a b : Int} (h : b.natAbs < 18446744073709551616) : mulOk a b := .inr (.inl h)
theorem mulOk_b {a b : Int} (h : a.natAbs < big) (g : b.natAbs < big) : mulOk a b := .inr (.inr (.inl ⟨h, g⟩))
theorem mulOk_w {a b : Int} (h : Builtin.Int.intBits a <= 2 ^ 22) (g : Builtin.Int.intBits b <= 2 ^ 22) : mulOk a b := .inr (.inr (.inr ⟨h, g⟩))
theorem big_of {n : Nat} (h : n < 2 ^ 64) : n < big := Nat.lt_of_lt_of_le h (Nat.pow_le_pow_right (by decide) (by decide))
theorem divOk_s {b : Int} (h0 : b ≠ 0) (h : b.natAbs < 18446744073709551616) : divOk b := ⟨h0, big_of h⟩
theorem atI_map {ns : List Int} {i : Int} (h0 : 0 <= i) (h1 : i < ns.length) : L2.atI (ns.map D.int) i = some (.int (ns.getD i.toNat 0)) := by
  obtain ⟨j, rfl⟩ := Int.eq_ofNat_of_zero_le h0
  have hj : j < ns.length := by omega
  have := atI_nat (xs := ns.map D.int) (j := j) (v := .int (ns.getD j 0)) (by simp [hj])
  simpa using this
theorem allP_nil : allP [] := True.intro
theorem allP_app_i {l m : List Prop} (h : allP l) (g : allP m) : allP (l ++ m) := allP_append.mpr ⟨h, g⟩
theorem allP_one {p : Prop} (h : p) : allP [p] := ⟨h, True.intro⟩
theorem allP_cons_i {p : Prop} {l : List Prop} (h : p) (g : allP l) : allP (p :: l) := ⟨h, g⟩
theorem powOk_s {a b : Int} (h0 : 0 <= b) (h1 : b <= 1000) (h2 : a.natAbs < 18446744073709551616) : powOk a b := ⟨h0, h1, h2⟩
end Sp
set_option Elab.async false
set_option linter.all false
set_option maxRecDepth 100000
namespace Sp
open PySem PySem.Spec PyProof.Rows L2
def Sub (C ρ : Rho) : Prop := ∀ x y, C x = some y -> ρ x = some y
theorem Sub.refl (ρ : Rho) : Sub ρ ρ := fun _ _ h => h
theorem Sub.trans {a b c : Rho} (h : Sub a b) (g : Sub b c) : Sub a c := fun x y e => g x y (h x y e)
theorem Sub.put {C ρ : Rho} (h : Sub C ρ) (x : Str) (y : D × Bool) : Sub (putR C x y) (putR ρ x y) := fun z w e => by
  rw [lookup_putR] at e ⊢
  by_cases hz : z = x
  . rw [if_pos hz] at e ⊢; exact e
  . rw [if_neg hz] at e ⊢; exact h z w e
theorem Sub.flt {C ρ : Rho} (h : Sub C ρ) (scope : Scope) : Sub (flt scope C) (flt scope ρ) := fun z w e => by
  obtain ⟨e1, e2⟩ := flt_look e
  unfold Sp.flt
  rw [if_pos e2]; exact h z w e1
theorem Sub.demX {C ρ : Rho} (h : Sub C ρ) (x : Str) : Sub (demX x C) (demX x ρ) := by
  unfold Sp.demX
  intro z w hz
  by_cases hx : z = x
  . simp only [if_pos hx] at hz ⊢
    cases hc : C z with
    | none => rw [hc] at hz; cases hz
    | some q => rw [hc] at hz; rw [h z q hc]; exact hz
  . simp only [if_neg hx] at hz ⊢; exact h z w hz
theorem Sub.demote {C ρ : Rho} (h : Sub C ρ) (e : Expr) : Sub (demote e C) (demote e ρ) := by
  unfold Sp.demote
  split
  . exact h.demX _
  . exact h.demX _
  . exact h
theorem sub_names {sc : Scope} : ∀ {es : List Expr} {ds : List D} {C C' ρ : Rho}, bindNs sc es ds C = some C' -> Sub C ρ -> ∃ ρ', bindNs sc es ds ρ = some ρ' /\ Sub C' ρ' := by
  intro es
  induction es with
  | nil =>
    intro ds C C' ρ h s
    cases ds with
    | nil => cases h; exact ⟨ρ, rfl, s⟩
    | cons d ds => cases h
  | cons e es ih =>
    intro ds C C' ρ h s
    cases ds with
    | nil => cases e <;> cases h
    | cons d ds =>
      cases e with
      | Name z p =>
        rw [bindNs] at h ⊢
        split at h
        . rename_i hz
          rw [if_pos hz]
          exact ih h (s.put _ _)
        . cases h
      | _ => cases h
theorem sub_bind {sc : Scope} {tg : Expr} {d : D} {C C' ρ : Rho} (h : bindG sc tg d C = some C') (s : Sub C ρ) : ∃ ρ', bindG sc tg d ρ = some ρ' /\ Sub C' ρ' := by
  unfold bindG at h ⊢
  split at h
  . split at h
    . rename_i hx; cases h; exact ⟨_, if_pos hx, s.put _ _⟩
    . cases h
  . split at h
    . exact sub_names h s
    . cases h
  . cases h
theorem allP_gd {b : Bool} {m : List Prop} (h : b = true -> allP m) : allP (gd b m) := by
  cases m with
  | nil => exact True.intro
  | cons p l => exact ⟨h, True.intro⟩
theorem andR_i {b c : Bool} {r : Rs Bool} (h : b = true -> Okr r c) (hf : b = false -> c = false) : Okr (andR b r) c := by
  cases b with
  | true =>
    obtain ⟨m, rfl, hm⟩ := h rfl
    exact ⟨_, rfl, allP_gd fun _ => hm⟩
  | false =>
    rw [hf rfl]
    cases r with
    | ok c' m => exact ⟨_, rfl, allP_gd fun z => (by cases z)⟩
    | st => exact ⟨_, rfl, True.intro⟩
theorem orR_i {b c : Bool} {r : Rs Bool} (h : b = false -> Okr r c) (hf : b = true -> c = true) : Okr (orR b r) c := by
  cases b with
  | false =>
    obtain ⟨m, rfl, hm⟩ := h rfl
    exact ⟨_, rfl, allP_gd fun _ => hm⟩
  | true =>
    rw [hf rfl]
    cases r with
    | ok c' m => exact ⟨_, rfl, allP_gd fun z => (by cases z)⟩
    | st => exact ⟨_, rfl, True.intro⟩
theorem ifR_i {t : Bool} {r s : R1} {d : D × Nat} (h : Okr (if t = true then r else s) d) : Okr (ifR t r s) d := by
  cases t with
  | true =>
    rw [if_pos rfl] at h
    obtain ⟨m, rfl, hm⟩ := h
    cases s with
    | ok q n => exact ⟨_, by show Rs.ok _ _ = Rs.ok _ _; rw [mrgD_t, kIf_t], allP_append.mpr ⟨allP_gd fun _ => hm, allP_gd fun z => (by cases z)⟩⟩
    | st => exact ⟨m, rfl, hm⟩
  | false =>
    rw [if_neg Bool.false_ne_true] at h
    obtain ⟨m, rfl, hm⟩ := h
    cases r with
    | ok q n => exact ⟨_, by show Rs.ok _ _ = Rs.ok _ _; rw [mrgD_f, kIf_f], allP_append.mpr ⟨allP_gd fun z => (by cases z), allP_gd fun _ => hm⟩⟩
    | st => exact ⟨m, rfl, hm⟩
theorem bl_i {α : Type} {p : D × Nat} {f : Bool -> Rs α} {a : α} {b : Bool} (h : p.1 = .bl b) (h2 : Okr (f b) a) : Okr (blR p f) a := by
  unfold blR; rw [h]; exact h2
theorem int_i {p : D × Nat} {f : Int -> R1} {a : D × Nat} {b : Int} (h : p.1 = .int b) (h2 : Okr (f b) a) : Okr (intR p f) a := by
  unfold intR; rw [h]; exact h2
structure Mo (Φ : Fx) (n : Nat) : Prop where
  e : ∀ (e : Expr) {it : Bool} {sc : Scope} {C ρ : Rho} {p : D × Nat}, sizeOf e < n -> Okr (evE Φ e it sc C) p -> Sub C ρ -> Okr (evE Φ e it sc ρ) p
  es : ∀ (es : List Expr) {sc : Scope} {C ρ : Rho} {p : List D × Nat}, sizeOf es < n -> Okr (evEs Φ es sc C) p -> Sub C ρ -> Okr (evEs Φ es sc ρ) p
  b : ∀ (op : BoolOp) (es : List Expr) {sc : Scope} {C ρ : Rho} {b : Bool}, sizeOf es < n -> Okr (evB Φ op es sc C) b -> Sub C ρ -> Okr (evB Φ op es sc ρ) b
  o : ∀ (e : Option Expr) {sc : Scope} {C ρ : Rho} {o : Option Int}, sizeOf e < n -> Okr (evO Φ e sc C) o -> Sub C ρ -> Okr (evO Φ e sc ρ) o
theorem mo_comp {step step2 : D -> Rs (Option (D × Nat))} (h : ∀ d r, Okr (step d) r -> Okr (step2 d) r) : ∀ {ds : List D} {q : List D × Nat}, Okr (compD step ds) q -> Okr (compD step2 ds) q
  | [], q, hq => hq
  | d :: ds, q, hq => by
    obtain ⟨r, h1, h2⟩ := okr_bnd (show Okr (Rs.bnd _ _) q from hq)
    obtain ⟨q1, h3, h4⟩ := okr_bnd h2
    exact Okr.bnd (h _ _ h1) (Okr.bnd (mo_comp h h3) h4)
section
variable {Φ : Fx} {n : Nat} {it : Bool} {sc : Scope} {C ρ : Rho} {p : D × Nat}
theorem mo_ix (I : Mo Φ n) {a i : Expr} {pos : Pos} (hs : sizeOf (Expr.Subscript a i pos) < n + 1) (h : Okr ((evE Φ a false sc C).bnd fun p => (evE Φ i false sc C).bnd fun q => intR q fun j => ixD p.1 j p.2) p) (s : Sub C ρ) : Okr ((evE Φ a false sc ρ).bnd fun p => (evE Φ i false sc ρ).bnd fun q => intR q fun j => ixD p.1 j p.2) p := by
  obtain ⟨x, h1, h⟩ := okr_bnd h
  obtain ⟨y, h2, h⟩ := okr_bnd h
  exact Okr.bnd (I.e a (szE (by simp <;> omega) hs) h1 s) (Okr.bnd (I.e i (szE (by simp <;> omega) hs) h2 s) h)
theorem mo_e (I : Mo Φ n) (e : Expr) (hs : sizeOf e < n + 1) (h : Okr (evE Φ e it sc C) p) (s : Sub C ρ) : Okr (evE Φ e it sc ρ) p := by
  cases e with
  | Constant c k q => exact h
  | Name x q =>
    replace h : Okr (nameD Φ x sc C) p := h
    show Okr (nameD Φ x sc ρ) p
    unfold nameD at h ⊢
    split at h
    . rename_i hx
      rw [if_pos hx]
      split at h
      . rename_i hg; rw [if_pos hg]; exact h
      . rename_i hg
        rw [if_neg hg]
        split at h
        . rename_i y hy; rw [s x y hy]; exact h
        . exact (okr_st h).elim
    . exact (okr_st h).elim
  | BinOp a op b q =>
    obtain ⟨x, h1, h⟩ := okr_bnd (show Okr (Rs.bnd _ _) p from h)
    obtain ⟨y, h2, h⟩ := okr_bnd h
    exact Okr.bnd (I.e a (szE (by simp <;> omega) hs) h1 s) (Okr.bnd (I.e b (szE (by simp <;> omega) hs) h2 s) h)
  | UnaryOp op a q =>
    obtain ⟨x, h1, h⟩ := okr_bnd (show Okr (Rs.bnd _ _) p from h)
    exact Okr.bnd (I.e a (szE (by simp <;> omega) hs) h1 s) h
  | BoolOp op es q =>
    rw [evE_bop] at h ⊢
    split at h
    . exact (okr_st h).elim
    . rename_i hne
      rw [if_neg hne]
      obtain ⟨b, h1, h⟩ := okr_bnd h
      exact Okr.bnd (I.b op es (szE (by simp <;> omega) hs) h1 s) h
  | Compare a ops bs q =>
    match ops, bs, hs, h with
    | [op], [b], hs, h =>
      obtain ⟨x, h1, h⟩ := okr_bnd (show Okr (Rs.bnd _ _) p from h)
      obtain ⟨y, h2, h⟩ := okr_bnd h
      exact Okr.bnd (I.e a (szE (by simp <;> omega) hs) h1 s) (Okr.bnd (I.e b (szE (by simp <;> omega) hs) h2 s) h)
    | [], bs, _, h => exact (okr_st h).elim
    | [op], [], _, h => exact (okr_st h).elim
    | [op], _ :: _ :: _, _, h => exact (okr_st h).elim
    | [op, op2], [b, c], hs, h =>
      obtain ⟨x, h1, h⟩ := okr_bnd (show Okr (Rs.bnd _ _) p from h)
      obtain ⟨y, h2, h⟩ := okr_bnd h
      obtain ⟨z, h3, h⟩ := okr_bnd h
      exact Okr.bnd (I.e a (szE (by simp <;> omega) hs) h1 s) (Okr.bnd (I.e b (szE (by simp <;> omega) hs) h2 s) (Okr.bnd (I.e c (szE (by simp <;> omega) hs) h3 s) h))
    | [_, _], [], _, h => exact (okr_st h).elim
    | [_, _], [_], _, h => exact (okr_st h).elim
    | [_, _], _ :: _ :: _ :: _, _, h => exact (okr_st h).elim
    | _ :: _ :: _ :: _, bs, _, h => exact (okr_st h).elim
  | IfExp c a b q =>
    obtain ⟨x, h1, h⟩ := okr_bnd (show Okr (Rs.bnd _ _) p from h)
    obtain ⟨t, ht, h⟩ := okr_bl h
    obtain ⟨l, h, hp⟩ := h
    obtain ⟨m, h, hm⟩ := ifR_inv h hp
    refine Okr.bnd (I.e c (szE (by simp <;> omega) hs) h1 s) (bl_i ht (ifR_i ?_))
    cases t with
    | true => exact I.e a (szE (by simp <;> omega) hs) ⟨m, h, hm⟩ s
    | false => exact I.e b (szE (by simp <;> omega) hs) ⟨m, h, hm⟩ s
  | Tuple es k q =>
    obtain ⟨x, h1, h⟩ := okr_bnd (show Okr (Rs.bnd _ _) p from h)
    exact Okr.bnd (I.es es (szE (by simp <;> omega) hs) h1 s) h
  | List es q =>
    obtain ⟨x, h1, h⟩ := okr_bnd (show Okr (Rs.bnd _ _) p from h)
    exact Okr.bnd (I.es es (szE (by simp <;> omega) hs) h1 s) h
  | Attribute a f q =>
    cases a with
    | Name x pn =>
      obtain ⟨y, h1, h⟩ := okr_bnd (show Okr (Rs.bnd _ _) p from h)
      exact Okr.bnd (I.e (.Name x pn) (it := false) (szE (by simp <;> omega) hs) h1 s) h
    | _ => exact (okr_st h).elim
  | Dict ks vs q =>
    match ks, vs, h with
    | [], [], h => exact h
    | _ :: _, _, h => exact (okr_st h).elim
    | [], _ :: _, h => exact (okr_st h).elim
  | Subscript a i q =>
    cases i with
    | Slice lo hi st p2 =>
      cases st with
      | none =>
        obtain ⟨x, h1, h⟩ := okr_bnd (show Okr (Rs.bnd _ _) p from h)
        obtain ⟨y, h2, h⟩ := okr_bnd h
        obtain ⟨z, h3, h⟩ := okr_bnd h
        exact Okr.bnd (I.e a (szE (by simp <;> omega) hs) h1 s) (Okr.bnd (I.o lo (szE (by simp <;> omega) hs) h2 s) (Okr.bnd (I.o hi (szE (by simp <;> omega) hs) h3 s) h))
      | some e => exact mo_ix I hs h s
    | _ => exact mo_ix I hs h s
  | Call f args kws q =>
    cases f with
    | Name f fp =>
      cases kws with
      | nil =>
        rw [evE_calN] at h ⊢
        split at h
        . rename_i hf
          rw [if_pos hf]
          obtain ⟨x, h1, h⟩ := okr_bnd h
          exact Okr.bnd (I.es args (szE (by simp <;> omega) hs) h1 s) h
        . exact (okr_st h).elim
      | cons _ _ => exact (okr_st h).elim
    | Attribute a m ap =>
      cases kws with
      | nil =>
        rw [evE_calA] at h ⊢
        split at h
        . rename_i hf
          rw [if_pos hf]
          obtain ⟨x, h1, h⟩ := okr_bnd h
          obtain ⟨y, h2, h⟩ := okr_bnd h
          exact Okr.bnd (I.e a (szE (by simp <;> omega) hs) h1 s) (Okr.bnd (I.es args (szE (by simp <;> omega) hs) h2 s) h)
        . exact (okr_st h).elim
      | cons _ _ => exact (okr_st h).elim
    | _ => exact (okr_st h).elim
  | ListComp elt gens scope q =>
    obtain ⟨l0, h0, _⟩ := id h
    obtain ⟨tg, iter, ifs, rfl⟩ := gens_eq h0
    rw [evE_cmp] at h ⊢
    split at h
    . rename_i hc
      rw [if_pos hc]
      obtain ⟨x, h1, h⟩ := okr_bnd h
      refine Okr.bnd (I.e iter (by first | omega | (simp at *; omega)) h1 s) ?_
      split at h
      . split at h
        . rename_i hl
          rw [if_pos hl]
          obtain ⟨u0, h0', h⟩ := okr_bnd h
          obtain ⟨y, h2, h⟩ := okr_bnd h
          refine Okr.bnd h0' (Okr.bnd (mo_comp (fun d r hr => ?_) h2) h)
          split at hr
          . exact (okr_st hr).elim
          . rename_i C' hb
            obtain ⟨ρ', hb', s'⟩ := sub_bind hb (s.flt scope)
            rw [hb']
            obtain ⟨b, h3, hr⟩ := okr_bnd hr
            refine Okr.bnd (I.b .And ifs (by first | omega | (simp at *; omega)) h3 s') ?_
            cases b with
            | false => exact hr
            | true =>
              rw [cond_true] at hr ⊢
              obtain ⟨z, h4, hr⟩ := okr_bnd hr
              exact Okr.bnd (I.e elt (by first | omega | (simp at *; omega)) h4 s') hr
        . exact (okr_st h).elim
      . exact (okr_st h).elim
    . exact (okr_st h).elim
  | _ => exact (okr_st h).elim
theorem mo_es (I : Mo Φ n) (es : List Expr) {p : List D × Nat} (hs : sizeOf es < n + 1) (h : Okr (evEs Φ es sc C) p) (s : Sub C ρ) : Okr (evEs Φ es sc ρ) p := by
  cases es with
  | nil => exact h
  | cons e es =>
    obtain ⟨x, h1, h⟩ := okr_bnd (show Okr (Rs.bnd _ _) p from h)
    obtain ⟨y, h2, h⟩ := okr_bnd h
    exact Okr.bnd (I.e e (szE (by simp <;> omega) hs) h1 s) (Okr.bnd (I.es es (szE (by simp <;> omega) hs) h2 s) h)
theorem mo_b (I : Mo Φ n) (op : BoolOp) (es : List Expr) {b : Bool} (hs : sizeOf es < n + 1) (h : Okr (evB Φ op es sc C) b) (s : Sub C ρ) : Okr (evB Φ op es sc ρ) b := by
  cases es with
  | nil => cases op <;> exact h
  | cons e es =>
    cases op with
    | And =>
      obtain ⟨x, h1, h⟩ := okr_bnd (show Okr (Rs.bnd _ _) b from h)
      obtain ⟨t, ht, l, h, hp⟩ := okr_bl h
      refine Okr.bnd (I.e e (szE (by simp <;> omega) hs) h1 s) (bl_i ht ?_)
      rcases andR_inv h hp with ⟨rfl, m, h, pm⟩ | ⟨rfl, rfl⟩
      . exact andR_i (fun _ => I.b .And es (szE (by simp <;> omega) hs) ⟨m, h, pm⟩ s) fun z => (by cases z)
      . exact andR_i (fun z => (by cases z)) fun _ => rfl
    | Or =>
      obtain ⟨x, h1, h⟩ := okr_bnd (show Okr (Rs.bnd _ _) b from h)
      obtain ⟨t, ht, l, h, hp⟩ := okr_bl h
      refine Okr.bnd (I.e e (szE (by simp <;> omega) hs) h1 s) (bl_i ht ?_)
      rcases orR_inv h hp with ⟨rfl, m, h, pm⟩ | ⟨rfl, rfl⟩
      . exact orR_i (fun _ => I.b .Or es (szE (by simp <;> omega) hs) ⟨m, h, pm⟩ s) fun z => (by cases z)
      . exact orR_i (fun z => (by cases z)) fun _ => rfl
theorem mo_o (I : Mo Φ n) (e : Option Expr) {o : Option Int} (hs : sizeOf e < n + 1) (h : Okr (evO Φ e sc C) o) (s : Sub C ρ) : Okr (evO Φ e sc ρ) o := by
  cases e with
  | none => exact h
  | some e =>
    obtain ⟨x, h1, h⟩ := okr_bnd (show Okr (Rs.bnd _ _) o from h)
    exact Okr.bnd (I.e e (szE (by simp <;> omega) hs) h1 s) h
end
theorem mo_all (Φ : Fx) : ∀ n, Mo Φ n
  | 0 => ⟨fun _ _ _ _ _ _ h => absurd h (Nat.not_lt_zero _), fun _ _ _ _ _ h => absurd h (Nat.not_lt_zero _), fun _ _ _ _ _ _ h => absurd h (Nat.not_lt_zero _), fun _ _ _ _ _ h => absurd h (Nat.not_lt_zero _)⟩
  | n + 1 => ⟨fun e _ _ _ _ _ hs h s => mo_e (mo_all Φ n) e hs h s, fun e _ _ _ _ hs h s => mo_es (mo_all Φ n) e hs h s, fun op e _ _ _ _ hs h s => mo_b (mo_all Φ n) op e hs h s, fun e _ _ _ _ hs h s => mo_o (mo_all Φ n) e hs h s⟩
theorem mono_e {Φ : Fx} {e : Expr} {it : Bool} {sc : Scope} {C ρ : Rho} {p : D × Nat} (h : Okr (evE Φ e it sc C) p) (s : Sub C ρ) : Okr (evE Φ e it sc ρ) p := (mo_all Φ _).e e (Nat.lt_succ_self _) h s
theorem mono_es {Φ : Fx} {e : List Expr} {sc : Scope} {C ρ : Rho} {p : List D × Nat} (h : Okr (evEs Φ e sc C) p) (s : Sub C ρ) : Okr (evEs Φ e sc ρ) p := (mo_all Φ _).es e (Nat.lt_succ_self _) h s
def SubF : Fl -> Fl -> Prop
  | .nx a, .nx b => Sub a b
  | .bk a, .bk b => Sub a b
  | .ct a, .ct b => Sub a b
  | .rt a, .rt b => a = b
  | _, _ => False
theorem ok1 {α : Type} {a : α} : Okr (.ok a []) a := ⟨[], rfl, True.intro⟩
def MoS (f : Rho -> Rs Fl) : Prop := ∀ C ρ fl, Okr (f C) fl -> Sub C ρ -> ∃ fl', Okr (f ρ) fl' /\ SubF fl fl'
theorem mo_nxt {f : Rho -> Rs Fl} (h : MoS f) {x y z : Fl} (hx : Okr (nxt f x) z) (s : SubF x y) : ∃ z', Okr (nxt f y) z' /\ SubF z z' := by
  cases x <;> cases y <;> first | exact s.elim | skip
  . exact h _ _ _ hx s
  . cases okr_ok hx; cases s; exact ⟨_, ok1, rfl⟩
  . cases okr_ok hx; exact ⟨_, ok1, s⟩
  . exact h _ _ _ hx s
theorem mo_for {sc : Scope} {tg : Expr} {body : Rho -> Rs Fl} (hb : MoS body) : ∀ ds, MoS (forD (bindG sc tg) body ds)
  | [] => fun C ρ fl h s => by cases okr_ok h; exact ⟨_, ok1, s⟩
  | d :: ds => fun C ρ fl h s => by
    replace h : Okr (match bindG sc tg d C with | none => (.st : Rs Fl) | some ρ1 => (body ρ1).bnd (nxt (forD (bindG sc tg) body ds))) fl := h
    split at h
    . exact (okr_st h).elim
    . rename_i C1 hC
      obtain ⟨ρ1, hρ, s1⟩ := sub_bind hC s
      obtain ⟨x, h1, h2⟩ := okr_bnd h
      obtain ⟨y, h3, s2⟩ := hb _ _ _ h1 s1
      obtain ⟨z, h4, s3⟩ := mo_nxt (mo_for hb ds) h2 s2
      refine ⟨z, ?_, s3⟩
      show Okr (match bindG sc tg d ρ with | none => (.st : Rs Fl) | some ρ1 => (body ρ1).bnd (nxt (forD (bindG sc tg) body ds))) z
      rw [hρ]; exact Okr.bnd h3 h4
theorem mo_wh {test : Rho -> Rs Bool} {body : Rho -> Rs Fl} (ht : ∀ C ρ b, Okr (test C) b -> Sub C ρ -> Okr (test ρ) b) (hb : MoS body) : ∀ n, MoS (whD test body n)
  | 0 => fun C ρ fl h s => (okr_st h).elim
  | n + 1 => fun C ρ fl h s => by
    obtain ⟨b, h1, h2⟩ := okr_bnd (show Okr (Rs.bnd _ _) fl from h)
    have h1' := ht _ _ _ h1 s
    cases b with
    | false => cases okr_ok h2; exact ⟨_, Okr.bnd h1' ok1, s⟩
    | true =>
      obtain ⟨x, h3, h4⟩ := okr_bnd (show Okr (Rs.bnd _ _) fl from h2)
      obtain ⟨y, h5, s2⟩ := hb _ _ _ h3 s
      obtain ⟨z, h6, s3⟩ := mo_nxt (mo_wh ht hb n) h4 s2
      exact ⟨z, Okr.bnd h1' (Okr.bnd h5 h6), s3⟩
theorem mo_asg {Φ : Fx} {tgs : List Expr} {e : Expr} {sc : Scope} : MoS (exAsg Φ tgs e sc) := by
  intro C ρ fl h s
  unfold exAsg at h ⊢
  split at h
  . obtain ⟨p, h1, h⟩ := okr_bnd h
    unfold putO at h
    split at h
    . rename_i hx
      split at h
      . rename_i ho; cases okr_ok h
        exact ⟨.nx _, Okr.bnd (mono_e h1 s) (by unfold putO; rw [if_pos hx, ho]; exact ok1), s.put _ _⟩
      . rename_i ho; cases okr_ok h
        exact ⟨.nx _, Okr.bnd (mono_e h1 s) (by unfold putO; rw [if_pos hx, ho]; exact ok1), s.put _ _⟩
      . exact (okr_st h).elim
    . exact (okr_st h).elim
  . split at h
    . rename_i ht
      rw [if_pos ht]
      unfold exPar at h ⊢
      split at h
      . split at h
        . rename_i hp
          rw [if_pos hp]
          obtain ⟨q, h1, h⟩ := okr_bnd h
          split at h
          . rename_i u v hd
            split at h
            . rename_i hf
              cases okr_ok h
              refine ⟨.nx _, Okr.bnd (mono_es h1 s) ?_, (s.put _ _).put _ _⟩
              rw [hd]; dsimp only; rw [if_pos hf]; exact ok1
            . exact (okr_st h).elim
          . exact (okr_st h).elim
        . exact (okr_st h).elim
      . exact (okr_st h).elim
    . rename_i ht
      rw [if_neg ht]
      obtain ⟨p, h1, h⟩ := okr_bnd h
      split at h
      . rename_i ds hd
        split at h
        . rename_i hf
          split at h
          . rename_i C' hb
            cases okr_ok h
            obtain ⟨ρ', hb', s'⟩ := sub_names hb s
            refine ⟨.nx _, Okr.bnd (mono_e h1 s) ?_, s'⟩
            rw [hd]; dsimp only; rw [if_pos hf, hb']; exact ok1
          . exact (okr_st h).elim
        . exact (okr_st h).elim
      . exact (okr_st h).elim
  . split at h
    . rename_i hc
      rw [if_pos hc]
      obtain ⟨p, h1, h⟩ := okr_bnd h
      obtain ⟨q, h2, h⟩ := okr_bnd h
      split at h
      . rename_i j hj
        obtain ⟨l, a1, a2, a3, h⟩ := ownL_inv h
        split at h
        . rename_i l' hs
          obtain ⟨h9, hf, _⟩ := okr_inv h
          subst h9
          refine ⟨.nx _, Okr.bnd (mono_e h1 s) (Okr.bnd (mono_e h2 s) ?_), s.put _ _⟩
          rw [hj]; dsimp only; unfold ownL; rw [s _ _ a1]; dsimp only; rw [if_pos a3]
          refine Okr.bnd (a := ()) ⟨_, rfl, a2, True.intro⟩ ?_
          rw [hs]; exact ⟨_, rfl, hf, True.intro⟩
        . exact (okr_st h).elim
      . exact (okr_st h).elim
    . exact (okr_st h).elim
  . exact (okr_st h).elim
theorem mo_aug {Φ : Fx} {t e : Expr} {op : Operator} {sc : Scope} : MoS (exAug Φ t op e sc) := by
  intro C ρ fl h s
  unfold exAug at h ⊢
  split at h
  . split at h
    . rename_i hx
      rw [if_pos hx]
      split at h
      . rename_i p hp
        rw [s _ _ hp]
        obtain ⟨r, h1, h⟩ := okr_bnd h
        cases okr_ok h
        obtain ⟨a, ha, h3⟩ := okr_int h1
        obtain ⟨q, h2, h4⟩ := okr_bnd h3
        exact ⟨.nx _, Okr.bnd (int_i ha (Okr.bnd (mono_e h2 s) h4)) ok1, s.put _ _⟩
      . exact (okr_st h).elim
    . exact (okr_st h).elim
  . exact (okr_st h).elim
theorem mo_exp {Φ : Fx} {e : Expr} {sc : Scope} : MoS (exExp Φ e sc) := by
  intro C ρ fl h s
  unfold exExp at h ⊢
  split at h
  . split at h
    . rename_i hln
      rw [if_pos hln]
      obtain ⟨p, h1, h⟩ := okr_bnd h
      split at h
      . rename_i M hM
        obtain ⟨l, a1, a3, h⟩ := ownM_inv h
        obtain ⟨l', h2, h⟩ := okr_bnd h
        cases okr_ok h
        refine ⟨.nx _, Okr.bnd (mono_es h1 s) ?_, s.put _ _⟩
        unfold ownM; rw [s _ _ a1]; dsimp only; rw [if_pos a3]; exact Okr.bnd h2 ok1
      . exact (okr_st h).elim
    . exact (okr_st h).elim
  . obtain ⟨p, h1, h⟩ := okr_bnd h
    cases okr_ok h
    exact ⟨.nx _, Okr.bnd (mono_e h1 s) ok1, s⟩
  . exact (okr_st h).elim
structure MoI (Φ : Fx) (n : Nat) : Prop where
  s : ∀ (st : Stmt) (sc : Scope), sizeOf st < n -> MoS (exS Φ st sc)
  ss : ∀ (st : List Stmt) (sc : Scope), sizeOf st < n -> MoS (exSs Φ st sc)
theorem mo_st {Φ : Fx} {n : Nat} (I : MoI Φ n) (st : Stmt) (sc : Scope) (hs : sizeOf st < n + 1) : MoS (exS Φ st sc) := by
  intro C ρ fl h s
  cases st with
  | Return e p =>
    cases e with
    | none => cases okr_ok h; exact ⟨_, ok1, rfl⟩
    | some e =>
      obtain ⟨p, h1, h⟩ := okr_bnd (show Okr (Rs.bnd _ _) fl from h)
      have s' : Sub (rtR e C) (rtR e ρ) := by
        unfold rtR
        cases nestE e with
        | false => exact s
        | true =>
          intro x y hx
          have hx : (C x).map (fun p => (p.1, false)) = some y := hx
          show (ρ x).map (fun p => (p.1, false)) = some y
          cases e : C x with
          | none => rw [e] at hx; cases hx
          | some z => rw [e] at hx; rw [s x z e]; exact hx
      refine ⟨fl, Okr.bnd (mono_e h1 s') h, ?_⟩
      unfold retK at h
      split at h
      . cases okr_ok h; rfl
      . exact (okr_st h).elim
  | Pass p => cases okr_ok h; exact ⟨_, ok1, s⟩
  | Break p => cases okr_ok h; exact ⟨_, ok1, s⟩
  | Continue p => cases okr_ok h; exact ⟨_, ok1, s⟩
  | Assign tgs e p => exact mo_asg C ρ fl h s
  | AugAssign t op e p => exact mo_aug C ρ fl h s
  | Expr e p => exact mo_exp C ρ fl h s
  | If c a b p =>
    obtain ⟨p, h1, h⟩ := okr_bnd (show Okr (Rs.bnd _ _) fl from h)
    obtain ⟨t, ht, h⟩ := okr_bl h
    cases t with
    | true =>
      obtain ⟨z, h2, s2⟩ := I.ss a sc (szE (by simp <;> omega) hs) C ρ fl h s
      exact ⟨z, Okr.bnd (mono_e h1 s) (bl_i ht h2), s2⟩
    | false =>
      obtain ⟨z, h2, s2⟩ := I.ss b sc (szE (by simp <;> omega) hs) C ρ fl h s
      exact ⟨z, Okr.bnd (mono_e h1 s) (bl_i ht h2), s2⟩
  | For tg it body els p =>
    rw [exS_for] at h ⊢
    split at h
    . rename_i he
      rw [if_pos he]
      obtain ⟨p, h1, h⟩ := okr_bnd h
      split at h
      . rename_i ds hd
        split at h
        . rename_i hk
          obtain ⟨z, h2, s2⟩ := mo_for (I.ss body sc (szE (by simp <;> omega) hs)) ds _ _ fl h (s.demote it)
          refine ⟨z, Okr.bnd (mono_e h1 (s.demote it)) ?_, s2⟩
          rw [hd]; dsimp only; rw [if_pos hk]; exact h2
        . exact (okr_st h).elim
      . exact (okr_st h).elim
    . exact (okr_st h).elim
  | While c body els p =>
    rw [exS_wh] at h ⊢
    split at h
    . rename_i he
      rw [if_pos he]
      refine mo_wh (fun C ρ b hb s => ?_) (I.ss body sc (szE (by simp <;> omega) hs)) many C ρ fl h s
      obtain ⟨q, h1, hb⟩ := okr_bnd hb
      exact Okr.bnd (mono_e h1 s) hb
    . exact (okr_st h).elim
  | _ => exact (okr_st h).elim
theorem mo_sts {Φ : Fx} {n : Nat} (I : MoI Φ n) (ss : List Stmt) (sc : Scope) (hs : sizeOf ss < n + 1) : MoS (exSs Φ ss sc) := by
  intro C ρ fl h s
  cases ss with
  | nil => cases okr_ok h; exact ⟨_, ok1, s⟩
  | cons st ss =>
    rcases ss_inv h with ⟨C', h1, h2⟩ | ⟨h1, h2⟩
    . obtain ⟨x, h3, s2⟩ := I.s st sc (szE (by simp <;> omega) hs) C ρ _ h1 s
      cases x with
      | nx ρ' =>
        obtain ⟨z, h4, s3⟩ := I.ss ss sc (szE (by simp <;> omega) hs) C' ρ' fl h2 s2
        exact ⟨z, ss_nx h3 h4, s3⟩
      | rt _ => exact s2.elim
      | bk _ => exact s2.elim
      | ct _ => exact s2.elim
    . obtain ⟨x, h3, s2⟩ := I.s st sc (szE (by simp <;> omega) hs) C ρ _ h2 s
      refine ⟨x, ss_end h3 fun ρ' z => ?_, s2⟩
      subst z
      cases fl <;> first | exact h1 _ rfl | exact s2
theorem moi_all (Φ : Fx) : ∀ n, MoI Φ n
  | 0 => ⟨fun _ _ h => absurd h (Nat.not_lt_zero _), fun _ _ h => absurd h (Nat.not_lt_zero _)⟩
  | n + 1 => ⟨fun e sc hs => mo_st (moi_all Φ n) e sc hs, fun e sc hs => mo_sts (moi_all Φ n) e sc hs⟩
theorem mono_nx {Φ : Fx} {ss : List Stmt} {sc : Scope} {C C' ρ : Rho} (h : Okr (exSs Φ ss sc C) (.nx C')) (s : Sub C ρ) : ∃ ρ', Okr (exSs Φ ss sc ρ) (.nx ρ') /\ Sub C' ρ' := by
  obtain ⟨z, h1, h2⟩ := (moi_all Φ _).ss ss sc (Nat.lt_succ_self _) C ρ _ h s
  cases z with
  | nx ρ' => exact ⟨ρ', h1, h2⟩
  | rt _ => exact h2.elim
  | bk _ => exact h2.elim
  | ct _ => exact h2.elim
theorem mono_rt {Φ : Fx} {ss : List Stmt} {sc : Scope} {C ρ : Rho} {d : D} (h : Okr (exSs Φ ss sc C) (.rt d)) (s : Sub C ρ) : Okr (exSs Φ ss sc ρ) (.rt d) := by
  obtain ⟨z, h1, h2⟩ := (moi_all Φ _).ss ss sc (Nat.lt_succ_self _) C ρ _ h s
  cases z with
  | rt _ => cases h2; exact h1
  | nx _ => exact h2.elim
  | bk _ => exact h2.elim
  | ct _ => exact h2.elim
def envL : List (Str × D × Bool) -> Rho
  | [] => fun _ => none
  | p :: l => fun z => if z = p.1 then some p.2 else envL l z
theorem sub_nil {ρ : Rho} : Sub (envL []) ρ := fun _ _ h => by cases h
theorem sub_cons {ρ : Rho} {x : Str} {y : D × Bool} {l : List (Str × D × Bool)} (h : ρ x = some y) (g : Sub (envL l) ρ) : Sub (envL ((x, y) :: l)) ρ := fun z w e => by
  replace e : (if z = x then some y else envL l z) = some w := e
  by_cases hz : z = x
  . rw [if_pos hz] at e; cases e; rw [hz]; exact h
  . rw [if_neg hz] at e; exact g z w e
theorem Sub.get {C ρ : Rho} {x : Str} {y : D × Bool} (s : Sub C ρ) (h : C x = some y := by rfl) : ρ x = some y := s x y h
end Sp
set_option Elab.async false
set_option linter.all false
set_option maxRecDepth 100000
namespace Sp
open PySem PySem.Spec PyProof.Rows L2
section
variable {Φ : Fx} {sc : Scope} {ρ ρ' : Rho} {fl : Fl} {ss : List Stmt}
theorem nx_sub {C C' : Rho} {P : Rho -> Prop} (s : Sub C ρ) (h : Okr (exSs Φ ss sc C) (.nx C')) (k : ∀ ρ', Sub C' ρ' -> P ρ') : ∃ ρ', Okr (exSs Φ ss sc ρ) (.nx ρ') /\ P ρ' :=
  let ⟨ρ', h1, h2⟩ := mono_nx h s; ⟨ρ', h1, k ρ' h2⟩
theorem rt_sub {C : Rho} {d : D} (s : Sub C ρ) (h : Okr (exSs Φ ss sc C) (.rt d)) : Okr (exSs Φ ss sc ρ) (.rt d) := mono_rt h s
theorem ev_sub {C : Rho} {e : Expr} {it : Bool} {p : D × Nat} (s : Sub C ρ) (h : Okr (evE Φ e it sc C) p) : Okr (evE Φ e it sc ρ) p := mono_e h s
theorem ss_forN {tg it : Expr} {body : List Stmt} {p : Pos} {d : D} {ds : List D} {k : Nat} (Inv : List D -> Rho -> Prop) (hi : Okr (evE Φ it true sc (demote it ρ)) (d, k)) (h0 : Inv ds (demote it ρ))
    (step : ∀ d l ρ, Inv (d :: l) ρ -> ∃ ρ1, bindG sc tg d ρ = some ρ1 /\ ∃ ρ2, Okr (exSs Φ body sc ρ1) (.nx ρ2) /\ Inv l ρ2) (rest : ∀ ρ', Inv [] ρ' -> Okr (exSs Φ ss sc ρ') fl) (hd : items d = some ds := by rfl) (hk : k <= 1 := by first | exact Nat.le_refl 1 | exact Nat.zero_le 1) (ht : tgOk it tg = true := by rfl) : Okr (exSs Φ (.For tg it body [] p :: ss) sc ρ) fl := by
  obtain ⟨ρ', h1, h2⟩ := forD_inv (bind := bindG sc tg) (body := exSs Φ body sc) Inv (fun d l ρ h => let ⟨ρ1, a, ρ2, b, c⟩ := step d l ρ h; ⟨ρ1, ρ2, a, .inl b, c⟩) h0
  exact ss_nx (ex_for hi hd hk ht h1) (rest ρ' h2)
theorem ss_forR {tg it : Expr} {body : List Stmt} {p : Pos} {d : D} {ds : List D} {k : Nat} (Inv : List D -> Rho -> Prop) (R : D -> Prop) (hi : Okr (evE Φ it true sc (demote it ρ)) (d, k)) (h0 : Inv ds (demote it ρ))
    (step : ∀ d l ρ, Inv (d :: l) ρ -> ∃ ρ1, bindG sc tg d ρ = some ρ1 /\ ((∃ ρ2, Okr (exSs Φ body sc ρ1) (.nx ρ2) /\ Inv l ρ2) \/ ∃ r, Okr (exSs Φ body sc ρ1) (.rt r) /\ R r)) (rest : ∀ ρ', Inv [] ρ' -> ∃ r, Okr (exSs Φ ss sc ρ') (.rt r) /\ R r) (hd : items d = some ds := by rfl) (hk : k <= 1 := by first | exact Nat.le_refl 1 | exact Nat.zero_le 1) (ht : tgOk it tg = true := by rfl) : ∃ r, Okr (exSs Φ (.For tg it body [] p :: ss) sc ρ) (.rt r) /\ R r := by
  rcases forD_rt (bind := bindG sc tg) (body := exSs Φ body sc) Inv R (fun d l ρ h => by
    obtain ⟨ρ1, a, b⟩ := step d l ρ h
    rcases b with ⟨ρ2, b, c⟩ | ⟨r, b, c⟩
    . exact ⟨ρ1, a, .inl ⟨ρ2, .inl b, c⟩⟩
    . exact ⟨ρ1, a, .inr ⟨r, b, c⟩⟩) h0 with ⟨ρ', h1, h2⟩ | ⟨r, h1, h2⟩
  . obtain ⟨r, h3, h4⟩ := rest ρ' h2
    exact ⟨r, ss_nx (ex_for hi hd hk ht h1) h3, h4⟩
  . exact ⟨r, ss_rt (ex_for hi hd hk ht h1), h2⟩
theorem ev_cmp {a b : Expr} {op : CmpOp} {p : Pos} {it : Bool} {x y : D} {k j : Nat} {r : Bool} (ha : Okr (evE Φ a false sc ρ) (x, k)) (hb : Okr (evE Φ b false sc ρ) (y, j)) (h : Okr (cmpD op x y) r) : Okr (evE Φ (.Compare a [op] [b] p) it sc ρ) (.bl r, 0) :=
  Okr.bnd ha (Okr.bnd hb (Okr.bnd h ok1))
theorem ev_not {a : Expr} {p : Pos} {it : Bool} {b : Bool} {k : Nat} (ha : Okr (evE Φ a false sc ρ) (.bl b, k)) : Okr (evE Φ (.UnaryOp .Not a p) it sc ρ) (.bl (!b), 0) := Okr.bnd ha ok1
theorem ev_bop {op : BoolOp} {e : Expr} {es : List Expr} {p : Pos} {it : Bool} {b : Bool} (h : Okr (evB Φ op (e :: es) sc ρ) b) : Okr (evE Φ (.BoolOp op (e :: es) p) it sc ρ) (.bl b, 0) := by
  rw [evE_bop, if_neg (show ¬ (List.isEmpty (e :: es) = true) from Bool.false_ne_true)]; exact Okr.bnd h ok1
theorem evb_and {e : Expr} {es : List Expr} {b c : Bool} {k : Nat} (h : Okr (evE Φ e false sc ρ) (.bl b, k)) (h1 : b = true -> Okr (evB Φ .And es sc ρ) c) (h2 : b = false -> c = false) : Okr (evB Φ .And (e :: es) sc ρ) c := Okr.bnd h (bl_i rfl (andR_i h1 h2))
theorem evb_or {e : Expr} {es : List Expr} {b c : Bool} {k : Nat} (h : Okr (evE Φ e false sc ρ) (.bl b, k)) (h1 : b = false -> Okr (evB Φ .Or es sc ρ) c) (h2 : b = true -> c = true) : Okr (evB Φ .Or (e :: es) sc ρ) c := Okr.bnd h (bl_i rfl (orR_i h1 h2))
theorem evb_f {e : Expr} {es : List Expr} {c : Bool} {k : Nat} (h : Okr (evE Φ e false sc ρ) (.bl false, k)) (h1 : Okr (evB Φ .Or es sc ρ) c) : Okr (evB Φ .Or (e :: es) sc ρ) c := evb_or h (fun _ => h1) fun z => by cases z
theorem evb_at : Okr (evB Φ .And [] sc ρ) true := ok1
theorem evb_of : Okr (evB Φ .Or [] sc ρ) false := ok1
theorem Okr.bl {r : R1} {b c : Bool} {k : Nat} (h : Okr r (.bl b, k)) (e : b = c) : Okr r (.bl c, k) := e ▸ h
theorem ev_compM {α : Type} {elt tg iter : Expr} {scope : Scope} {p : Pos} {it : Bool} {d : D} {g f : α -> D} {l : List α} {k : Nat} (hi : Okr (evE Φ iter true sc ρ) (d, k)) (hd : items d = some (l.map g)) (hl : l.length <= many) (hk : llessL (l.map g) = true \/ k <= 1)
    (h : ∀ x ∈ l, ∃ ρ', bindG scope tg (g x) (flt scope ρ) = some ρ' /\ Okr (evE Φ elt false scope ρ') (f x, 0)) (hc : cOk sc scope = true := by rfl) (ht : tgOk iter tg = true := by rfl) : Okr (evE Φ (.ListComp elt [⟨tg, iter, [], 0⟩] scope p) it sc ρ) (.lst (l.map f), 0) := by
  refine ev_comp hi hd ⟨by rw [List.length_map]; exact hl, hk⟩ (compD_map fun x hx => ?_) (Nat.zero_le _) hc ht
  obtain ⟨ρ', h1, h2⟩ := h x hx
  rw [h1]
  refine Okr.bnd (a := true) ok1 ?_
  rw [cond_true]
  exact Okr.bnd h2 ok1
end
theorem len1 {us : List Value} (h : us.length = 1) : ∃ a, us = [a] := List.length_eq_one_iff.mp h
theorem lenS {us : List Value} {n : Nat} (h : us.length = n + 1) : ∃ a r, us = a :: r /\ r.length = n := by
  cases us with
  | nil => cases h
  | cons a r => exact ⟨a, r, rfl, by simpa using h⟩
theorem len2 {us : List Value} (h : us.length = 2) : ∃ a b, us = [a, b] := by
  obtain ⟨a, r, e1, h1⟩ := lenS h; subst e1; obtain ⟨b, rfl⟩ := len1 h1; exact ⟨a, b, rfl⟩
theorem len3 {us : List Value} (h : us.length = 3) : ∃ a b c, us = [a, b, c] := by
  obtain ⟨a, r, e1, h1⟩ := lenS h; subst e1; obtain ⟨b, c, rfl⟩ := len2 h1; exact ⟨a, b, c, rfl⟩
theorem len4 {us : List Value} (h : us.length = 4) : ∃ a b c d, us = [a, b, c, d] := by
  obtain ⟨a, r, e1, h1⟩ := lenS h; subst e1; obtain ⟨b, c, d, rfl⟩ := len3 h1; exact ⟨a, b, c, d, rfl⟩
end Sp
set_option linter.all false
namespace Qm
end Qm
set_option Elab.async false
set_option linter.all false
set_option maxRecDepth 100000
namespace K
open PySem L2 Sp
structure Dc (α : Type) where
  dec : D -> Option α
  enc : α -> D
  ok : ∀ x a, dec x = some a -> x = enc a
def dI : Dc Int := ⟨fun | .int i => some i | _ => none, .int, fun x a h => by cases x <;> cases h; rfl⟩
def dL : Dc (List D) := ⟨fun | .lst i => some i | _ => none, .lst, fun x a h => by cases x <;> cases h; rfl⟩
def sp1 {α : Type} (A : Dc α) (f : α -> Rs D) : List D -> Rs D
  | [x] => (match A.dec x with | some a => f a | none => .st)
  | _ => .st
def sp2 {α β : Type} (A : Dc α) (B : Dc β) (f : α -> β -> Rs D) : List D -> Rs D
  | [x, y] => (match A.dec x with | some a => (match B.dec y with | some b => f a b | none => .st) | none => .st)
  | _ => .st
theorem dc_inv {α β : Type} {A : Dc α} {x : D} {f : α -> Rs β} {r : β} (h : Okr (match A.dec x with | some a => f a | none => .st) r) : ∃ a, x = A.enc a /\ Okr (f a) r := by
  split at h
  . rename_i a e; exact ⟨a, A.ok _ _ e, h⟩
  . exact (okr_st h).elim
theorem sp1_inv {α : Type} {A : Dc α} {f : α -> Rs D} {ds : List D} {r : D} (h : Okr (sp1 A f ds) r) : ∃ a, ds = [A.enc a] /\ Okr (f a) r := by
  unfold sp1 at h
  split at h
  . obtain ⟨a, e1, h1⟩ := dc_inv h; exact ⟨a, by rw [e1], h1⟩
  . exact (okr_st h).elim
theorem sp2_inv {α β : Type} {A : Dc α} {B : Dc β} {f : α -> β -> Rs D} {ds : List D} {r : D} (h : Okr (sp2 A B f ds) r) : ∃ a b, ds = [A.enc a, B.enc b] /\ Okr (f a b) r := by
  unfold sp2 at h
  split at h
  . obtain ⟨a, e1, h1⟩ := dc_inv h
    obtain ⟨b, e2, h2⟩ := dc_inv h1
    exact ⟨a, b, by rw [e1, e2], h2⟩
  . exact (okr_st h).elim
def toI : D -> Int
  | .int i => i
  | _ => 0
def toInts (l : List D) : List Int := l.map toI
theorem toInts_map (ns : List Int) : toInts (ns.map D.int) = ns := by
  induction ns with
  | nil => rfl
  | cons n ns ih => show n :: toInts (ns.map D.int) = _; rw [ih]
def okL (l : List D) : Prop := ∃ ns : List Int, l = ns.map D.int
def cellAt (ns : List Int) (k : Int) : Int := if ns = [] then 0 else ns.getD (k.fmod ns.length).toNat 0
def cellF (ns : List Int) (k : Int) : Int :=
  (cellAt ns k).fdiv 2147483647 * 2147483647 + ((((cellAt ns k).fmod 2147483647 + 7919 * k + 1) * 48271).fmod 2147483647 * 69621 + k).fmod 2147483647
def cel (l : List D) (k : Int) : Int := cellF (toInts l) k
abbrev t4 (a b c d : Int) : D := .tup [.int a, .int b, .int c, .int d]
abbrev Qd := Int × Int × Int × Int
def dq (q : Qd) : D := t4 q.1 q.2.1 q.2.2.1 q.2.2.2
def q4 : D -> Option Qd
  | .tup [.int a, .int b, .int c, .int d] => some (a, b, c, d)
  | _ => none
theorem q4_eq (x : D) (q : Qd) (h : q4 x = some q) : x = dq q := by
  unfold q4 at h
  split at h
  . cases h; rfl
  . cases h
def dQ : Dc Qd := ⟨q4, dq, q4_eq⟩
abbrev bdQ (q : Qd) : Prop := q.1.natAbs < big /\ q.2.1.natAbs < big /\ q.2.2.1.natAbs < big /\ q.2.2.2.natAbs < big
theorem llessL_map {α : Type} {G : α -> D} (h : ∀ x, (G x).lless = true) : ∀ l : List α, llessL (l.map G) = true
  | [] => rfl
  | x :: l => by rw [List.map_cons, llessL, h x, llessL_map h l]; rfl
@[simp] theorem eqD_i (a b : Int) : eqD (.int a) (.int b) = decide (a = b) := by
  show (a == b) = _
  rw [Bool.eq_iff_iff]; simp
@[simp] theorem eqD_q (p q : Qd) : eqD (dq p) (dq q) = decide (p = q) := by
  show (p.1 == q.1 && (p.2.1 == q.2.1 && (p.2.2.1 == q.2.2.1 && (p.2.2.2 == q.2.2.2 && true)))) = _
  obtain ⟨a, b, c, d⟩ := p; obtain ⟨e, f, g, h⟩ := q
  rw [Bool.eq_iff_iff]; simp
end K
set_option Elab.async false
set_option linter.all false
set_option maxRecDepth 100000
namespace Sp
open PySem PySem.Spec PyProof.Rows L2
variable {Φ : Fx} {sc : Scope} {ρ ρ' : Rho} {fl : Fl} {ss : List Stmt}
theorem ex_put {x : Str} {i e : Expr} {p1 p2 q : Pos} {l l' : List D} {d : D} {j : Int} {k k2 : Nat} (hx : ρ x = some (.lst l, true)) (h : Okr (evE Φ e false sc ρ) (d, k)) (hi : Okr (evE Φ i false sc ρ) (.int j, k2)) (hs : setD l j d = some l') (hl : llessL l = true) (hd : d.lless = true) (ht : stOk e = true := by rfl) (hn : okN x = true := by rfl) :
    Okr (exS Φ (.Assign [.Subscript (.Name x p1) i p2] e q) sc ρ) (.nx (putR ρ x (.lst l', true))) := by
  refine Okr.bnd h (Okr.bnd hi ?_)
  show Okr (ownL _ _ _) _
  unfold ownL
  rw [hx]; dsimp only; rw [if_pos hn]
  refine Okr.bnd (a := ()) ⟨_, rfl, hl, True.intro⟩ ?_
  rw [hs]
  exact ⟨_, rfl, hd, True.intro⟩
theorem ev_if {c a b : Expr} {p : Pos} {it : Bool} {t : Bool} {k : Nat} {r : D × Nat} (hc : Okr (evE Φ c false sc ρ) (.bl t, k)) (h1 : t = true -> Okr (evE Φ a false sc ρ) r) (h2 : t = false -> Okr (evE Φ b false sc ρ) r) : Okr (evE Φ (.IfExp c a b p) it sc ρ) r := by
  refine Okr.bnd hc (bl_i rfl (ifR_i ?_))
  cases t with
  | true => exact h1 rfl
  | false => exact h2 rfl
theorem whD_invM {test : Rho -> Rs Bool} {body : Rho -> Rs Fl} (Inv : Nat -> Rho -> Prop) (step : ∀ m ρ, Inv m ρ -> ∃ b, Okr (test ρ) b /\ (b = true -> ∃ m' ρ2, m' < m /\ Okr (body ρ) (.nx ρ2) /\ Inv m' ρ2)) : ∀ {n m : Nat} {ρ : Rho}, Inv m ρ -> m < n -> ∃ m' ρ', Okr (whD test body n ρ) (.nx ρ') /\ Inv m' ρ' /\ Okr (test ρ') false := by
  intro n
  induction n with
  | zero => intro m ρ _ h; omega
  | succ n ih =>
    intro m ρ hi hm
    obtain ⟨b, hb, h⟩ := step m ρ hi
    cases b with
    | false => exact ⟨m, ρ, Okr.bnd hb ok1, hi, hb⟩
    | true =>
      obtain ⟨m', ρ2, h1, h2, h3⟩ := h rfl
      obtain ⟨m2, ρ3, h4, h5, h6⟩ := ih h3 (show m' < n by omega)
      exact ⟨m2, ρ3, Okr.bnd hb (Okr.bnd h2 h4), h5, h6⟩
theorem ss_whileM {c : Expr} {body : List Stmt} {p : Pos} {m : Nat} (Inv : Nat -> Rho -> Prop) (h0 : Inv m ρ) (hm : m < many)
    (step : ∀ m ρ, Inv m ρ -> ∃ b k, Okr (evE Φ c false sc ρ) (.bl b, k) /\ (b = true -> ∃ m' ρ2, m' < m /\ Okr (exSs Φ body sc ρ) (.nx ρ2) /\ Inv m' ρ2)) (rest : ∀ m ρ', Inv m ρ' -> (∃ k, Okr (evE Φ c false sc ρ') (.bl false, k)) -> Okr (exSs Φ ss sc ρ') fl) : Okr (exSs Φ (.While c body [] p :: ss) sc ρ) fl := by
  obtain ⟨m', ρ', h1, h2, h3⟩ := whD_invM (test := fun ρ => (evE Φ c false sc ρ).bnd fun p => blR p fun b => .ok b []) (body := exSs Φ body sc) Inv (fun m ρ h => by
    obtain ⟨b, k, a1, a2⟩ := step m ρ h
    exact ⟨b, a1.bnd (bl_i rfl ok1), a2⟩) h0 hm
  obtain ⟨q, h4, h5⟩ := okr_bnd h3
  obtain ⟨t, ht, h5⟩ := okr_bl h5
  cases okr_ok h5
  obtain ⟨q1, q2⟩ := q
  have ht : q1 = .bl false := ht
  subst ht
  exact ss_nx (ex_while h1) (rest m' ρ' h2 ⟨q2, h4⟩)
theorem wh_step {m m' : Nat} {A : Rho -> Prop} {P : Nat -> Rho -> Prop} (h : m' < m) (k : ∃ ρ2, A ρ2 /\ P m' ρ2) : ∃ m' ρ2, m' < m /\ A ρ2 /\ P m' ρ2 := by
  obtain ⟨ρ2, a, b⟩ := k
  exact ⟨m', ρ2, h, a, b⟩
end Sp
set_option Elab.async false
set_option linter.all false
set_option maxRecDepth 100000
namespace K
open PySem L2 Sp
def plnQ (p q : Qd) : Qd :=
  (p.1 * q.1 - p.2.1 * q.2.1 - p.2.2.1 * q.2.2.1 - p.2.2.2 * q.2.2.2, p.1 * q.2.1 + p.2.1 * q.1 + p.2.2.1 * q.2.2.2 - p.2.2.2 * q.2.2.1,
    p.1 * q.2.2.1 - p.2.1 * q.2.2.2 + p.2.2.1 * q.1 + p.2.2.2 * q.2.1, p.1 * q.2.2.2 + p.2.1 * q.2.2.1 - p.2.2.1 * q.2.1 + p.2.2.2 * q.1)
theorem qd_ext {p q : Qd} (h1 : p.1 = q.1) (h2 : p.2.1 = q.2.1) (h3 : p.2.2.1 = q.2.2.1) (h4 : p.2.2.2 = q.2.2.2) : p = q := by
  obtain ⟨a, b, c, d⟩ := p; obtain ⟨e, f, g, h⟩ := q
  simp only at h1 h2 h3 h4; subst h1 h2 h3 h4; rfl
theorem bd_mul {p q : Qd} (h : bdQ p) (g : bdQ q) : (mulOk p.1 q.1 /\ mulOk p.2.1 q.2.1 /\ mulOk p.2.2.1 q.2.2.1 /\ mulOk p.2.2.2 q.2.2.2) /\ (mulOk p.1 q.2.1 /\ mulOk p.2.1 q.1 /\ mulOk p.2.2.1 q.2.2.2 /\ mulOk p.2.2.2 q.2.2.1) /\ (mulOk p.1 q.2.2.1 /\ mulOk p.2.1 q.2.2.2 /\ mulOk p.2.2.1 q.1 /\ mulOk p.2.2.2 q.2.1) /\ (mulOk p.1 q.2.2.2 /\ mulOk p.2.1 q.2.2.1 /\ mulOk p.2.2.1 q.2.1 /\ mulOk p.2.2.2 q.1) :=
  ⟨⟨mulOk_b h.1 g.1, mulOk_b h.2.1 g.2.1, mulOk_b h.2.2.1 g.2.2.1, mulOk_b h.2.2.2 g.2.2.2⟩, ⟨mulOk_b h.1 g.2.1, mulOk_b h.2.1 g.1, mulOk_b h.2.2.1 g.2.2.2, mulOk_b h.2.2.2 g.2.2.1⟩, ⟨mulOk_b h.1 g.2.2.1, mulOk_b h.2.1 g.2.2.2, mulOk_b h.2.2.1 g.1, mulOk_b h.2.2.2 g.2.1⟩, ⟨mulOk_b h.1 g.2.2.2, mulOk_b h.2.1 g.2.2.1, mulOk_b h.2.2.1 g.2.1, mulOk_b h.2.2.2 g.1⟩⟩
end K
set_option Elab.async false
set_option linter.all false
set_option maxRecDepth 100000
namespace K
open PySem L2 Sp
end K
set_option Elab.async false
set_option linter.all false
set_option maxRecDepth 100000
namespace K
open PySem L2 Sp Qm
abbrev bd (a b c d : Int) : Prop := a.natAbs < big /\ b.natAbs < big /\ c.natAbs < big /\ d.natAbs < big
def ltQ (M : Nat) (q : Qd) : Prop := q.1.natAbs <= M /\ q.2.1.natAbs <= M /\ q.2.2.1.natAbs <= M /\ q.2.2.2.natAbs <= M
theorem bd_ltQ {M : Nat} {q : Qd} (h : ltQ M q) (hM : M < big) : bd q.1 q.2.1 q.2.2.1 q.2.2.2 :=
  ⟨Nat.lt_of_le_of_lt h.1 hM, Nat.lt_of_le_of_lt h.2.1 hM, Nat.lt_of_le_of_lt h.2.2.1 hM, Nat.lt_of_le_of_lt h.2.2.2 hM⟩
def barQ (q : Qd) : Qd := (q.1, -q.2.1, -q.2.2.1, -q.2.2.2)
theorem sq_nn (x : Int) : 0 <= x * x := by
  rcases Int.le_total 0 x with h | h
  . exact Int.mul_nonneg h h
  . have := Int.mul_nonneg (show 0 <= -x by omega) (show 0 <= -x by omega); rwa [Int.neg_mul_neg] at this
end K
set_option Elab.async false
set_option linter.all false
set_option maxRecDepth 100000
namespace K
open PySem L2 Sp Qm
theorem ltQ_mono {M N : Nat} {q : Qd} (h : ltQ M q) (g : M <= N) : ltQ N q := ⟨Nat.le_trans h.1 g, Nat.le_trans h.2.1 g, Nat.le_trans h.2.2.1 g, Nat.le_trans h.2.2.2 g⟩
theorem fdiv_le (x : Int) {n : Int} (h : 0 < n) : (x.fdiv n).natAbs <= x.natAbs := by
  rw [Int.fdiv_eq_ediv_of_nonneg _ (by omega)]
  exact Int.natAbs_ediv_le_natAbs x n
end K
set_option Elab.async false
set_option linter.all false
set_option maxRecDepth 100000
namespace K
open PySem L2 Sp Qm
end K
set_option Elab.async false
set_option linter.all false
set_option maxRecDepth 100000
namespace K
open PySem L2 Sp Qm
theorem eq_i {a b : Int} (h : a = b) : eqD (.int a) (.int b) = true := by rw [h]; simp
end K
set_option Elab.async false
set_option linter.all false
set_option maxRecDepth 100000
namespace K
open PySem L2 Sp Qm
end K
set_option Elab.async false
set_option linter.all false
set_option maxRecDepth 100000
namespace K
open PySem L2 Sp Qm
theorem ev_bin {Φ : Fx} {sc : Scope} {ρ : Rho} {a b : Expr} {op : Operator} {p : Pos} {it : Bool} {x y : D} {k j : Nat} {r : D × Nat} (ha : Okr (evE Φ a false sc ρ) (x, k)) (hb : Okr (evE Φ b false sc ρ) (y, j)) (h : Okr (binD op x y k j) r) : Okr (evE Φ (.BinOp a op b p) it sc ρ) r := Okr.bnd ha (Okr.bnd hb h)
end K
set_option Elab.async false
set_option linter.all false
set_option maxRecDepth 100000
namespace K
open PySem L2 Sp Qm
def numI (c k : Int) : Int := if k.fmod 3 = 0 then (c * 1000003 ^ 4).fmod (2 * 10 ^ 20 + 1) - 10 ^ 20 else if k.fmod 3 = 1 then c.fmod 61 - 30 else c.fmod 7 - 3
theorem numI_b (c k : Int) : (numI c k).natAbs <= 10 ^ 20 := by
  have h0 := Int.fmod_nonneg_of_pos (c * 1000003 ^ 4) (show (0 : Int) < 2 * 10 ^ 20 + 1 by decide)
  have h1 := Int.fmod_lt_of_pos (c * 1000003 ^ 4) (show (0 : Int) < 2 * 10 ^ 20 + 1 by decide)
  have g0 := Int.fmod_nonneg_of_pos c (show (0 : Int) < 61 by decide)
  have g1 := Int.fmod_lt_of_pos c (show (0 : Int) < 61 by decide)
  have f0 := Int.fmod_nonneg_of_pos c (show (0 : Int) < 7 by decide)
  have f1 := Int.fmod_lt_of_pos c (show (0 : Int) < 7 by decide)
  unfold numI
  generalize (c * 1000003 ^ 4).fmod (2 * 10 ^ 20 + 1) = x at *
  split
  . omega
  . split <;> omega
abbrev d3 (x y z : Int) : D := .tup [.int x, .int y, .int z]
theorem big_le {n m : Nat} (h : n <= 2 ^ m) (hm : m < 9000) : n < big := Nat.lt_of_le_of_lt h (Nat.pow_lt_pow_right (by decide) hm)
end K
set_option Elab.async false
set_option linter.all false
set_option maxRecDepth 100000
namespace K
open PySem L2 Sp Qm
open Builtin.Int (intBits)
theorem bits_lt {x : Int} {k : Nat} (h : intBits x <= k) : x.natAbs < 2 ^ k := by
  unfold intBits at h
  by_cases h0 : x = 0
  . subst h0; exact Nat.pow_pos (by decide)
  . rw [if_neg (by simpa using h0)] at h
    exact Nat.lt_of_lt_of_le Nat.lt_log2_self (Nat.pow_le_pow_right (by decide) h)
theorem lt_bits {x : Int} {k : Nat} (h : x.natAbs < 2 ^ k) : intBits x <= k := by
  unfold intBits
  by_cases h0 : x = 0
  . rw [if_pos (by simpa using h0)]; exact Nat.zero_le _
  . rw [if_neg (by simpa using h0)]
    exact (Nat.log2_lt (by omega)).mpr h
def okW (l : List D) : Prop := ∃ ns : List Int, l = ns.map D.int /\ ∀ m ∈ ns, intBits m <= 2 ^ 20
theorem okW.okL {l : List D} (h : okW l) : okL l := let ⟨ns, e, _⟩ := h; ⟨ns, e⟩
theorem cellAt_lt {ns : List Int} {n : Nat} (h : ∀ m ∈ ns, m.natAbs < 2 ^ n) (k : Int) : (cellAt ns k).natAbs < 2 ^ n := by
  unfold cellAt
  split
  . exact Nat.pow_pos (by decide)
  . rw [List.getD_eq_getElem?_getD]
    cases e : ns[(k.fmod ns.length).toNat]? with
    | none => exact Nat.pow_pos (by decide)
    | some m => exact h m (List.mem_of_getElem? e)
theorem cellF_lt {ns : List Int} {n : Nat} (h : ∀ m ∈ ns, m.natAbs < 2 ^ n) (k : Int) : (cellF ns k).natAbs < 2 ^ (n + 33) := by
  have hx := cellAt_lt h k
  unfold cellF
  have r0 := Int.fmod_nonneg_of_pos ((((cellAt ns k).fmod 2147483647 + 7919 * k + 1) * 48271).fmod 2147483647 * 69621 + k) (show (0 : Int) < 2147483647 by decide)
  have r1 := Int.fmod_lt_of_pos ((((cellAt ns k).fmod 2147483647 + 7919 * k + 1) * 48271).fmod 2147483647 * 69621 + k) (show (0 : Int) < 2147483647 by decide)
  generalize ((((cellAt ns k).fmod 2147483647 + 7919 * k + 1) * 48271).fmod 2147483647 * 69621 + k).fmod 2147483647 = r at *
  generalize cellAt ns k = x at *
  have e := Int.mul_fdiv_add_fmod x 2147483647
  have f0 := Int.fmod_nonneg_of_pos x (show (0 : Int) < 2147483647 by decide)
  have f1 := Int.fmod_lt_of_pos x (show (0 : Int) < 2147483647 by decide)
  generalize x.fdiv 2147483647 = q at *
  generalize x.fmod 2147483647 = f at *
  have e2 : 2 ^ (n + 33) = 2 ^ n * 8589934592 := by rw [Nat.pow_add]
  have p : 1 <= 2 ^ n := Nat.one_le_two_pow
  rw [e2]
  generalize 2 ^ n = N at *
  omega
theorem cel_bits {l : List D} (h : okW l) (k : Int) : intBits (cel l k) <= 2 ^ 21 := by
  obtain ⟨ns, rfl, hb⟩ := h
  unfold cel
  rw [toInts_map]
  have key : ∀ n : Nat, (∀ m ∈ ns, intBits m <= n) -> intBits (cellF ns k) <= n + 33 := fun n hn => lt_bits (cellF_lt (fun m hm => bits_lt (hn m hm)) k)
  exact Nat.le_trans (key _ hb) (by decide)
theorem bits_num : intBits (1000003 ^ 4) <= 2 ^ 22 := by decide
end K
set_option Elab.async false
set_option linter.all false
set_option maxRecDepth 100000
namespace K
open PySem L2 Sp Qm
def gcdF : Nat -> List Int -> Nat
  | g, [] => g
  | g, n :: r => gcdF (Nat.gcd g n.natAbs) r
@[irreducible] def gcdD (l : List D) : Int := (gcdF 0 (toInts l) : Nat)
def okT (l : List D) : Prop := ∃ ns : List Int, l = ns.map D.int /\ ns.length <= 100 /\ ∀ n ∈ ns, n.natAbs < 2 ^ 1000
theorem okT_id {l : List D} (h : okT l) : okT l := h
theorem gcdD_map (ns : List Int) : gcdD (ns.map D.int) = (gcdF 0 ns : Nat) := by unfold gcdD; rw [toInts_map]
theorem gcdF_dvd : ∀ (ns : List Int) (g : Nat), gcdF g ns ∣ g /\ ∀ n ∈ ns, gcdF g ns ∣ n.natAbs
  | [], g => ⟨Nat.dvd_refl _, fun n h => by cases h⟩
  | n :: r, g => by
    obtain ⟨h1, h2⟩ := gcdF_dvd r (Nat.gcd g n.natAbs)
    refine ⟨Nat.dvd_trans h1 (Nat.gcd_dvd_left _ _), fun m hm => ?_⟩
    rcases List.mem_cons.mp hm with rfl | hm
    . exact Nat.dvd_trans h1 (Nat.gcd_dvd_right _ _)
    . exact h2 m hm
theorem dvd_gcdF {d : Nat} : ∀ (ns : List Int) (g : Nat), d ∣ g -> (∀ n ∈ ns, d ∣ n.natAbs) -> d ∣ gcdF g ns
  | [], g, h, _ => h
  | n :: r, g, h, k => dvd_gcdF r _ (Nat.dvd_gcd h (k n List.mem_cons_self)) fun m hm => k m (List.mem_cons_of_mem _ hm)
theorem gcdF_dvdI {ns : List Int} {n : Int} (h : n ∈ ns) : ((gcdF 0 ns : Nat) : Int) ∣ n := Int.ofNat_dvd_left.mpr ((gcdF_dvd ns 0).2 n h)
theorem gcdF_pos {ns : List Int} {n : Int} (h : n ∈ ns) (h0 : n ≠ 0) : 0 < gcdF 0 ns := by
  rcases Nat.eq_zero_or_pos (gcdF 0 ns) with e | e
  . have := (gcdF_dvd ns 0).2 n h
    rw [e] at this
    have := Nat.eq_zero_of_zero_dvd this
    omega
  . exact e
theorem cutE {ns : List Int} {n m : Int} (h : n ∈ ns) (h0 : n ≠ 0) (hm : m ∈ ns) : m = (gcdF 0 ns : Nat) * m.fdiv (gcdF 0 ns : Nat) := by
  obtain ⟨u, e⟩ := gcdF_dvdI hm
  have hp := gcdF_pos h h0
  generalize gcdF 0 ns = g at *
  rw [e, Int.mul_fdiv_cancel_left _ (by omega)]
theorem cut1 {ns : List Int} {n : Int} (h : n ∈ ns) (h0 : n ≠ 0) : gcdF 0 (ns.map fun m => m.fdiv (gcdF 0 ns : Nat)) = 1 := by
  have hp := gcdF_pos h h0
  have key : ((gcdF 0 (ns.map fun m => m.fdiv (gcdF 0 ns : Nat))) * gcdF 0 ns) ∣ gcdF 0 ns := by
    refine dvd_gcdF ns 0 (Nat.dvd_zero _) fun m hm => ?_
    obtain ⟨u, e⟩ := (gcdF_dvd (ns.map fun m => m.fdiv (gcdF 0 ns : Nat)) 0).2 _ (List.mem_map.mpr ⟨m, hm, rfl⟩)
    have e2 := congrArg Int.natAbs (cutE h h0 hm)
    rw [Int.natAbs_mul, Int.natAbs_natCast, e] at e2
    exact ⟨u, by rw [e2]; simp only [Nat.mul_comm, Nat.mul_left_comm, Nat.mul_assoc]⟩
  have := Nat.le_of_dvd hp key
  have h1 : gcdF 0 (ns.map fun m => m.fdiv (gcdF 0 ns : Nat)) <= 1 := by
    rcases Nat.lt_or_ge 1 (gcdF 0 (ns.map fun m => m.fdiv (gcdF 0 ns : Nat))) with q | q
    . have := Nat.mul_lt_mul_of_pos_right q hp
      omega
    . exact q
  have h2 : 0 < gcdF 0 (ns.map fun m => m.fdiv (gcdF 0 ns : Nat)) := gcdF_pos (n := n.fdiv (gcdF 0 ns : Nat)) (List.mem_map.mpr ⟨n, h, rfl⟩) fun z => by
    have := cutE h h0 h
    rw [z, Int.mul_zero] at this
    exact h0 this
  omega
theorem gcdF_mul (c : Nat) : ∀ (ns : List Int) (g : Nat), gcdF (c * g) (ns.map fun m => (c : Int) * m) = c * gcdF g ns
  | [], g => rfl
  | n :: r, g => by
    show gcdF (Nat.gcd (c * g) ((c : Int) * n).natAbs) _ = _
    rw [Int.natAbs_mul, Int.natAbs_natCast, Nat.gcd_mul_left]
    exact gcdF_mul c r _
theorem gcdF_le {ns : List Int} {n : Int} (h : n ∈ ns) (h0 : n ≠ 0) : gcdF 0 ns <= n.natAbs := Nat.le_of_dvd (by omega) ((gcdF_dvd ns 0).2 n h)
theorem kn1 (d : D) : kn d 1 <= 1 := by rcases kn_le (d := d) (k := 1) with q | q <;> omega
def EuM (a b m : Nat) : Prop := (b <= a /\ a * b < 2 ^ m) \/ (a < b /\ a * b < 2 ^ (m - 1) /\ 1 <= m)
theorem eu_step {a b m : Nat} (h : EuM a b m) (h0 : b ≠ 0) : ∃ m', m' < m /\ EuM b (a % b) m' := by
  rcases h with ⟨h1, h2⟩ | ⟨h1, h2, h3⟩
  . have hm : 1 <= m := by
      rcases Nat.eq_zero_or_pos m with e | e
      . subst e
        have : 1 * 1 <= a * b := Nat.mul_le_mul (by omega) (by omega)
        omega
      . exact e
    refine ⟨m - 1, by omega, .inl ⟨Nat.le_of_lt (Nat.mod_lt _ (by omega)), ?_⟩⟩
    have e : 2 ^ m = 2 * 2 ^ (m - 1) := by rw [<- Nat.pow_succ']; congr 1; omega
    rw [e] at h2
    have hk : b + a % b <= a := by
      have := Nat.div_add_mod a b
      have q : 1 <= a / b := (Nat.one_le_div_iff (by omega)).mpr h1
      have := Nat.mul_le_mul_left b q
      omega
    have hlt := Nat.mod_lt a (show 0 < b by omega)
    have : b * (a % b) + b * (a % b) <= a * b := by
      rw [<- Nat.mul_add, Nat.mul_comm a b]
      exact Nat.mul_le_mul_left b (by omega)
    omega
  . refine ⟨m - 1, by omega, .inl ?_⟩
    rw [Nat.mod_eq_of_lt h1, Nat.mul_comm]
    exact ⟨Nat.le_of_lt h1, h2⟩
theorem eu_0 {a b : Nat} (ha : a < 2 ^ 1000) (hb : b < 2 ^ 1000) : EuM a b 2002 := by
  have h : a * b < 2 ^ 2001 := Nat.lt_of_lt_of_le (Nat.mul_lt_mul'' ha hb) (by rw [<- Nat.pow_add]; exact Nat.pow_le_pow_right (by decide) (by decide))
  rcases Nat.lt_or_ge a b with q | q
  . exact .inr ⟨q, h, by decide⟩
  . exact .inl ⟨q, Nat.lt_trans h (Nat.pow_lt_pow_right (by decide) (by decide))⟩
theorem fm_nat (a b : Nat) : (a : Int).fmod b = ((a % b : Nat) : Int) := by
  rw [Int.fmod_eq_emod_of_nonneg _ (by omega)]; rfl
theorem fm_neg (a b : Nat) : (-(a : Int)).fmod (-(b : Int)) = -((a % b : Nat) : Int) := by
  rw [Int.neg_fmod_neg, fm_nat]
theorem wh_ex {Φ : Fx} {sc : Scope} {ρ : Rho} {c : Expr} {body : List Stmt} {p : Pos} {m : Nat} {P : Rho -> Prop} (Inv : Nat -> Rho -> Prop) (h0 : Inv m ρ) (hm : m < many)
    (step : ∀ m ρ, Inv m ρ -> ∃ b k, Okr (evE Φ c false sc ρ) (.bl b, k) /\ (b = true -> ∃ m' ρ2, m' < m /\ Okr (exSs Φ body sc ρ) (.nx ρ2) /\ Inv m' ρ2)) (rest : ∀ m ρ', Inv m ρ' -> (∃ k, Okr (evE Φ c false sc ρ') (.bl false, k)) -> P ρ') : ∃ ρ', Okr (exSs Φ [.While c body [] p] sc ρ) (.nx ρ') /\ P ρ' := by
  obtain ⟨m', ρ', h1, h2, h3⟩ := whD_invM (test := fun ρ => (evE Φ c false sc ρ).bnd fun p => blR p fun b => .ok b []) (body := exSs Φ body sc) Inv (fun m ρ h => by
    obtain ⟨b, k, a1, a2⟩ := step m ρ h
    exact ⟨b, a1.bnd (bl_i rfl ok1), a2⟩) h0 hm
  obtain ⟨q, h4, h5⟩ := okr_bnd h3
  obtain ⟨t, ht, h5⟩ := okr_bl h5
  cases okr_ok h5
  obtain ⟨q1, q2⟩ := q
  have ht : q1 = .bl false := ht
  subst ht
  exact ⟨ρ', ss_nx (ex_while h1) ss_nil, rest m' ρ' h2 ⟨q2, h4⟩⟩
def sgI (s : Bool) (a : Nat) : Int := cond s (-(a : Int)) a
theorem sg_fm (s : Bool) (a b : Nat) : (sgI s a).fmod (sgI s b) = sgI s (a % b) := by
  cases s
  . exact fm_nat a b
  . exact fm_neg a b
theorem sg_abs (s : Bool) (a : Nat) : (sgI s a).natAbs = a := by
  cases s
  . rfl
  . exact Int.natAbs_neg _
theorem sg_first (x y : Int) (h : y ≠ 0) : ∃ (s : Bool) (a b : Nat), y = sgI s a /\ x.fmod y = sgI s b /\ Nat.gcd a b = Nat.gcd x.natAbs y.natAbs /\ a = y.natAbs /\ b < a := by
  have hg : Nat.gcd y.natAbs (x.fmod y).natAbs = Nat.gcd x.natAbs y.natAbs := by
    have e := Int.mul_fdiv_add_fmod x y
    have : Int.gcd y (x.fmod y) = Int.gcd y x := by
      conv => rhs; rw [<- e]
      rw [Int.gcd_mul_left_add_right]
    rw [show Nat.gcd y.natAbs (x.fmod y).natAbs = Int.gcd y (x.fmod y) from rfl, this, Int.gcd_comm]; rfl
  by_cases hy : 0 < y
  . have h0 := Int.fmod_nonneg_of_pos x hy
    have h1 := Int.fmod_lt_of_pos x hy
    refine ⟨false, y.natAbs, (x.fmod y).natAbs, ?_, ?_, hg, rfl, by omega⟩
    . show y = ((y.natAbs : Nat) : Int); omega
    . show x.fmod y = (((x.fmod y).natAbs : Nat) : Int); omega
  . have e : x.fmod y = -((-x).fmod (-y)) := by
      have := Int.neg_fmod_neg (-x) (-y)
      rw [Int.neg_neg, Int.neg_neg] at this
      exact this
    have hy' : 0 < -y := by omega
    have h0 := Int.fmod_nonneg_of_pos (-x) hy'
    have h1 := Int.fmod_lt_of_pos (-x) hy'
    refine ⟨true, y.natAbs, (x.fmod y).natAbs, ?_, ?_, hg, rfl, by omega⟩
    . show y = -((y.natAbs : Nat) : Int); omega
    . show x.fmod y = -(((x.fmod y).natAbs : Nat) : Int); omega
def EuS (u v : Int) (m : Nat) : Prop := m = 3000 \/ ∃ (s : Bool) (a b : Nat), u = sgI s a /\ v = sgI s b /\ EuM a b m
theorem eus_step {u v : Int} {m : Nat} (h : EuS u v m) (h0 : v ≠ 0) (hv : v.natAbs < 2 ^ 1000) : (∃ m', m' < m /\ EuS v (u.fmod v) m') /\ Nat.gcd v.natAbs (u.fmod v).natAbs = Nat.gcd u.natAbs v.natAbs /\ (u.fmod v).natAbs < 2 ^ 1000 := by
  obtain ⟨s, a, b, e1, e2, e3, e4, e5⟩ := sg_first u v h0
  have ha : v.natAbs = a := by rw [e1, sg_abs]
  have hb : (u.fmod v).natAbs = b := by rw [e2, sg_abs]
  refine ⟨?_, by rw [<- e3, ha, hb], by rw [hb]; omega⟩
  rcases h with h | ⟨t, x, y, h1, h2, h3⟩
  . exact ⟨2002, by omega, .inr ⟨s, a, b, e1, e2, eu_0 (by omega) (by omega)⟩⟩
  . have hy : y ≠ 0 := by
      intro z; subst z; subst h2; apply h0; cases t <;> rfl
    obtain ⟨m', hm, hE⟩ := eu_step h3 hy
    exact ⟨m', hm, .inr ⟨t, y, x % y, h2, by rw [h1, h2, sg_fm], hE⟩⟩
end K
set_option Elab.async false
set_option linter.all false
set_option maxRecDepth 100000
namespace K
open PySem L2 Sp Qm
theorem ex_unp {Φ : Fx} {sc : Scope} {ρ ρ' : Rho} {es : List Expr} {e : Expr} {n : Nat} {p q : Pos} {d : D} {ds : List D} {k : Nat} (h : Okr (evE Φ e false sc ρ) (d, k)) (hs : seqOf d = some ds) (hk : llessL ds = true \/ k <= 1) (hb : bindNs sc es ds ρ = some ρ') (ht : isTupE e = false := by rfl) : Okr (exS Φ (.Assign [.Tuple es n p] e q) sc ρ) (.nx ρ') := by
  show Okr (if swE sc es e = true then exPar Φ es e sc ρ else _) _
  rw [if_neg (by unfold swE; rw [ht]; exact Bool.false_ne_true)]
  refine Okr.bnd h ?_
  dsimp only
  rw [hs]; dsimp only
  rw [if_pos hk, hb]
  exact ok1
def gI (ns : List Int) : Int := (gcdF 0 ns : Nat)
theorem gcdD_eq (ns : List Int) : gcdD (ns.map D.int) = gI ns := gcdD_map ns
theorem gI_pos {ns : List Int} {n : Int} (h : n ∈ ns) (h0 : n ≠ 0) : 0 < gI ns := by have := gcdF_pos h h0; unfold gI; omega
theorem gI_cut {ns : List Int} {n m : Int} (h : n ∈ ns) (h0 : n ≠ 0) (hm : m ∈ ns) : m = gI ns * m.fdiv (gI ns) := cutE h h0 hm
theorem gI_one {ns : List Int} {n : Int} (h : n ∈ ns) (h0 : n ≠ 0) : gI (ns.map fun m => m.fdiv (gI ns)) = 1 := by
  have := cut1 h h0
  unfold gI; rw [this]; rfl
theorem gI_mul {c : Int} (hc : 0 < c) (ns : List Int) : gI (ns.map fun m => c * m) = c * gI ns := by
  obtain ⟨k, rfl⟩ := Int.eq_ofNat_of_zero_le (Int.le_of_lt hc)
  have := gcdF_mul k ns 0
  unfold gI
  rw [Nat.mul_zero] at this
  rw [this]; simp
theorem gI_le {ns : List Int} {n : Int} (h : n ∈ ns) (h0 : n ≠ 0) : (gI ns).natAbs <= n.natAbs := by
  have := gcdF_le h h0
  unfold gI; omega
theorem fdiv_nb {x g : Int} (hg : 0 < g) : (x.fdiv g).natAbs <= x.natAbs := fdiv_le x hg
theorem fdiv_pos {n g : Int} (hg : 0 < g) (hn : 0 < n) (e : n = g * n.fdiv g) : 0 < n.fdiv g := by
  rcases Int.lt_or_le 0 (n.fdiv g) with h | h
  . exact h
  . have := Int.mul_le_mul_of_nonneg_left h (Int.le_of_lt hg)
    rw [Int.mul_zero, <- e] at this
    omega
theorem fd_mul_mul {c x g : Int} (hc : 0 < c) (hg : 0 < g) : (c * x).fdiv (c * g) = x.fdiv g := Int.mul_fdiv_mul_of_pos x g hc
theorem okT_of {ns : List Int} {k : Nat} (hk : k <= 999) (hl : ns.length <= 100) (h : ∀ n ∈ ns, n.natAbs <= 2 ^ k) : okT (ns.map D.int) :=
  ⟨ns, rfl, hl, fun n hn => Nat.lt_of_le_of_lt (h n hn) (Nat.pow_lt_pow_right (by decide) (by omega))⟩
abbrev dot (a b c x y z : Int) : Int := a * x + (b * y + (c * z + 0))
theorem set4 {i : Int} (h0 : 0 <= i) (h1 : i < 4) (a b c d v : Int) : ∃ a' b' c' d' : Int, setD [.int a, .int b, .int c, .int d] i (.int v) = some [.int a', .int b', .int c', .int d'] /\ (∀ P : Int -> Prop, P a -> P b -> P c -> P d -> P v -> P a' /\ P b' /\ P c' /\ P d') /\ (v ≠ 0 -> ¬ (a' = 0 /\ b' = 0 /\ c' = 0 /\ d' = 0)) := by
  have : i = 0 \/ i = 1 \/ i = 2 \/ i = 3 := by omega
  rcases this with rfl | rfl | rfl | rfl
  . exact ⟨v, b, c, d, rfl, fun P p1 p2 p3 p4 p5 => ⟨p5, p2, p3, p4⟩, fun h z => h z.1⟩
  . exact ⟨a, v, c, d, rfl, fun P p1 p2 p3 p4 p5 => ⟨p1, p5, p3, p4⟩, fun h z => h z.2.1⟩
  . exact ⟨a, b, v, d, rfl, fun P p1 p2 p3 p4 p5 => ⟨p1, p2, p5, p4⟩, fun h z => h z.2.2.1⟩
  . exact ⟨a, b, c, v, rfl, fun P p1 p2 p3 p4 p5 => ⟨p1, p2, p3, p5⟩, fun h z => h z.2.2.2⟩
theorem any4 (a b c d : Int) : (([a, b, c, d] : List Int).any fun n => n != 0) = !decide (a = 0 /\ b = 0 /\ c = 0 /\ d = 0) := by
  by_cases h1 : a = 0 <;> by_cases h2 : b = 0 <;> by_cases h3 : c = 0 <;> by_cases h4 : d = 0 <;> simp [h1, h2, h3, h4]
end K
set_option Elab.async false
set_option linter.all false
set_option maxRecDepth 100000
namespace K
open PySem L2 Sp Qm
end K
set_option Elab.async false
set_option linter.all false
set_option maxRecDepth 100000
namespace K
open PySem PySem.Spec PyProof.Rows L2 Sp Qm
theorem init_i {Φ : Fx} {sc : Scope} {ps fs : List Str} {args : List Expr} {n : Str} {ds q : List D} {k : Nat} (hl : ds.length + 1 = ps.length) (h : Okr (evEs Φ args sc (argR ps (.obj n [] [] :: ds))) (q, k)) (hq : q.length = fs.length) (h1 : llessL q = true) (h2 : noObjL q = true) : Okr (initD Φ sc ps args n fs ds) (.obj n fs q) := by
  unfold initD
  rw [if_pos hl]
  refine Okr.bnd h ?_
  dsimp only
  rw [if_pos hq]
  exact okr_of rfl ⟨h1, h2, True.intro⟩
theorem ev_meth {Φ : Fx} {sc : Scope} {ρ : Rho} {a : Expr} {m n : Str} {ap cp : Pos} {args : List Expr} {it : Bool} {ns : List Str} {es ds : List D} {k j : Nat} {F : List D -> Rs D} {d : D} (ha : Okr (evE Φ a false sc ρ) (.obj n ns es, k)) (hs : Okr (evEs Φ args sc ρ) (ds, j)) (hF : Φ.omt n m = some F) (h : Okr (F (.obj n ns es :: ds)) d)
    (hl : (ap.endLine == cp.line) = true := by rfl) (hn : ns.contains m = false := by rfl) (hb : baseOk a = true := by rfl) (hf : ds.length < 29 := by exact Nat.le_of_ble_eq_true rfl) : Okr (evE Φ (.Call (.Attribute a m ap) args [] cp) it sc ρ) (d, 0) := by
  rw [evE_calA, if_pos hl]
  refine Okr.bnd ha (Okr.bnd hs ?_)
  unfold mthD
  dsimp only
  rw [if_pos ⟨hn, hb, hf⟩, hF]
  exact Okr.bnd h ok1
theorem call_anyT {X : Cx} (hc : X.calm = true) : CallR X (.builtin "any") (fun xs H Q => ∃ (p : Addr) (ns : List Int), xs = [.ref p] /\ SqT X.K H p (ns.map V.int) /\ Q (.bl (ns.any fun n => n != 0)) H) := by
  intro pins s σ H xs us Q I r h
  obtain ⟨p, ns, rfl, hq, q⟩ := h
  obtain ⟨u, rfl, rx⟩ := vals1 r
  cases rx
  obtain ⟨its, rv, pl, hz⟩ := I.tuple hq
  have hlen : its.length = ns.length := by have := rv.length; simpa using this.symm
  have hl : s.heap.IsTuple p its.toArray := by obtain ⟨o, e, c, n, d⟩ := pl; exact ⟨o, e, c, n, d⟩
  have hlt : p < s.heap.objs.size := by obtain ⟨_, e, _⟩ := hl; exact Heap.lt_size e
  refine call_any_walk (wpAny_pyIter_tuple hl ?_)
  refine ⟨_, _, _, _, _, _, fun i => (ns.getD i 0 != 0), rfl, Walks.tuple (A := X.A.in1) (by exact I.ok.hd hc) _ p (Nat.ne_of_lt hlt) its.toArray, ⟨⟨_, Heap.get?_push_size _ rfl, rfl, rfl⟩, hl.at fun o e => Heap.get?_push_of_some _ e⟩, ?_, fun h' tk hk => ?_⟩
  . intro i v s' Q' E' hP hQ
    have hP : (its.toArray)[i]? = some v := hP
    simp only [List.getElem?_toArray] at hP
    have hi : i < ns.length := by rw [<- hlen]; exact (List.getElem?_eq_some_iff.mp hP).1
    obtain ⟨w, hw, rw'⟩ := rv.get (i := i) (x := V.int ns[i]) (by simp [hi])
    rw [hP] at hw; cases hw
    obtain ⟨t, rfl⟩ := rw'
    refine PyProof.Rows.truthy_int ?_
    have : ns.getD i 0 = ns[i] := by rw [List.getD_eq_getElem?_getD, List.getElem?_eq_getElem hi]; rfl
    rw [<- this]; exact hQ
  . have : ((List.range its.toArray.size).any fun i => (ns.getD i 0 != 0)) = ns.any fun n => n != 0 := by
      simp only [List.size_toArray, hlen]
      rw [Bool.eq_iff_iff, List.any_eq_true, List.any_eq_true]
      constructor
      . rintro ⟨i, hi, h⟩
        have hi := List.mem_range.mp hi
        rw [List.getD_eq_getElem?_getD, List.getElem?_eq_getElem hi] at h
        exact ⟨_, List.getElem_mem hi, h⟩
      . rintro ⟨x, hx, h⟩
        obtain ⟨i, hi, rfl⟩ := List.mem_iff_getElem.mp hx
        exact ⟨i, List.mem_range.mpr hi, by rw [List.getD_eq_getElem?_getD, List.getElem?_eq_getElem hi]; exact h⟩
    rw [this]
    refine ⟨.bl _, H, I.kept (fun b o e => hk b o (fun hm => ?_) (Heap.get?_push_of_some _ e)), rfl, q⟩
    have hb : b = s.heap.objs.size := by simpa using hm
    subst hb
    exact absurd (Heap.lt_size e) (Nat.lt_irrefl _)
def bAny2 (ds : List D) : R1 :=
  match ds with
  | [.tup l] => (match intsOf l with | some ns => .ok (.bl (ns.any fun n => n != 0), 0) [] | none => .st)
  | ds => bAny ds
theorem bAny2_ok : BltOk "any" bAny2 := by
  refine ⟨by decide +kernel, by decide +kernel, by decide +kernel, rfl, fun X ds z l o hc h hp => ?_⟩
  unfold bAny2 at h
  split at h
  . split at h
    . rename_i ns e
      refine .inl ⟨"any", by decide +kernel, ?_⟩
      cases h
      cases intsOf_eq e
      refine ⟨_, call_anyT hc, fun ow H0 H2 vs P Q o s rx q => ?_⟩
      obtain ⟨v, rfl, ry⟩ := rx.only
      rw [Rep] at ry
      obtain ⟨a, ws, rfl, hs, rl⟩ := ry
      exact ⟨a, ns, rfl, by rw [<- rl.mapInt]; exact hs, q _ _ (Same.refl _) (by rw [Rep])⟩
    . cases h
  . exact bAny_ok.2.2.2.2 X _ z l o hc h hp
theorem gcdF_abs : ∀ (ns ms : List Int) (g : Nat), ns.map Int.natAbs = ms.map Int.natAbs -> gcdF g ns = gcdF g ms
  | [], [], g, _ => rfl
  | [], _ :: _, g, h => by cases h
  | _ :: _, [], g, h => by cases h
  | n :: ns, m :: ms, g, h => by
    have h1 : n.natAbs = m.natAbs /\ ns.map Int.natAbs = ms.map Int.natAbs := by simpa using h
    show gcdF (Nat.gcd g n.natAbs) ns = gcdF (Nat.gcd g m.natAbs) ms
    rw [h1.1]
    exact gcdF_abs ns ms _ h1.2
theorem gI_abs {ns ms : List Int} (h : ns.map Int.natAbs = ms.map Int.natAbs) : gI ns = gI ms := by unfold gI; rw [gcdF_abs ns ms 0 h]
theorem dvd_gI {d : Int} {ns : List Int} (h : ∀ m ∈ ns, d ∣ m) : d ∣ gI ns := by
  unfold gI
  have := dvd_gcdF (d := d.natAbs) ns 0 (Nat.dvd_zero _) fun n hn => Int.natAbs_dvd_natAbs.mpr (h n hn)
  exact Int.natAbs_dvd.mp (Int.ofNat_dvd.mpr this)
theorem gI_dvd {ns : List Int} {n : Int} (h : n ∈ ns) : gI ns ∣ n := gcdF_dvdI h
theorem gI4_mul (k a b c d : Int) (hk : k ≠ 0) : gI [k * a, k * b, k * c, k * d] = (k.natAbs : Int) * gI [a, b, c, d] := by
  rw [<- gI_mul (c := (k.natAbs : Int)) (by omega) [a, b, c, d]]
  apply gI_abs
  simp [Int.natAbs_mul]
def led4 (a b c d : Int) : Int := if a ≠ 0 then a else if b ≠ 0 then b else if c ≠ 0 then c else d
theorem led4_mul {k : Int} (a b c d : Int) (hk : k ≠ 0) : led4 (k * a) (k * b) (k * c) (k * d) = k * led4 a b c d := by
  unfold led4
  have e : ∀ x : Int, (k * x ≠ 0) = (x ≠ 0) := fun x => by
    apply propext
    constructor
    . intro h z; subst z; simp at h
    . intro h z; rcases Int.mul_eq_zero.mp z with q | q
      . exact hk q
      . exact h q
  simp only [e]
  by_cases ha : a ≠ 0
  . rw [if_pos ha, if_pos ha]
  . rw [if_neg ha, if_neg ha]
    by_cases hb : b ≠ 0
    . rw [if_pos hb, if_pos hb]
    . rw [if_neg hb, if_neg hb]
      by_cases hc : c ≠ 0
      . rw [if_pos hc, if_pos hc]
      . rw [if_neg hc, if_neg hc]
theorem led4_ne {a b c d : Int} (h : ¬ (a = 0 /\ b = 0 /\ c = 0 /\ d = 0)) : led4 a b c d ≠ 0 := by
  unfold led4
  split
  . assumption
  . split
    . assumption
    . split
      . assumption
      . intro z; apply h; omega
structure Pm (a b c d : Int) : Prop where
  one : gI [a, b, c, d] = 1
  pos : 0 < led4 a b c d
theorem Pm.ne {a b c d : Int} (h : Pm a b c d) : ¬ (a = 0 /\ b = 0 /\ c = 0 /\ d = 0) := by
  rintro ⟨rfl, rfl, rfl, rfl⟩
  have := h.pos
  simp [led4] at this
theorem prim_of {x y z w : Int} (h : ¬ (x = 0 /\ y = 0 /\ z = 0 /\ w = 0)) : ∃ k a b c d : Int, k ≠ 0 /\ x = k * a /\ y = k * b /\ z = k * c /\ w = k * d /\ Pm a b c d /\ k.natAbs = (gI [x, y, z, w]).natAbs := by
  obtain ⟨v, hv, hv0⟩ : ∃ v ∈ [x, y, z, w], v ≠ 0 := by
    by_cases hx : x = 0
    . by_cases hy : y = 0
      . by_cases hz : z = 0
        . exact ⟨w, by simp, fun q => h ⟨hx, hy, hz, q⟩⟩
        . exact ⟨z, by simp, hz⟩
      . exact ⟨y, by simp, hy⟩
    . exact ⟨x, by simp, hx⟩
  have g0 := gI_pos hv hv0
  have ex := gI_cut (m := x) hv hv0 (by simp)
  have ey := gI_cut (m := y) hv hv0 (by simp)
  have ez := gI_cut (m := z) hv hv0 (by simp)
  have ew := gI_cut (m := w) hv hv0 (by simp)
  have one := gI_one hv hv0
  simp only [List.map_cons, List.map_nil] at one
  generalize gI [x, y, z, w] = g at *
  generalize x.fdiv g = a at *
  generalize y.fdiv g = b at *
  generalize z.fdiv g = c at *
  generalize w.fdiv g = d at *
  have hn : ¬ (a = 0 /\ b = 0 /\ c = 0 /\ d = 0) := by
    rintro ⟨rfl, rfl, rfl, rfl⟩
    apply h
    simp at ex ey ez ew
    exact ⟨ex, ey, ez, ew⟩
  have hl := led4_ne hn
  rcases Int.lt_or_gt_of_ne hl with q | q
  . refine ⟨-g, -a, -b, -c, -d, by omega, by rw [Int.neg_mul_neg]; exact ex, by rw [Int.neg_mul_neg]; exact ey, by rw [Int.neg_mul_neg]; exact ez, by rw [Int.neg_mul_neg]; exact ew, ⟨?_, ?_⟩, by rw [Int.natAbs_neg]⟩
    . rw [<- one]; apply gI_abs; simp
    . have := led4_mul (k := -1) a b c d (by decide)
      simp only [Int.neg_mul, Int.one_mul] at this
      rw [this]; omega
  . exact ⟨g, a, b, c, d, by omega, ex, ey, ez, ew, ⟨one, q⟩, rfl⟩
theorem prim_back {a b c d : Int} (h : Pm a b c d) : ∃ k : Int, (k = 1 \/ k = -1) /\ Pm (k * a) (k * -b) (k * -c) (k * -d) := by
  have hn : ¬ (a = 0 /\ -b = 0 /\ -c = 0 /\ -d = 0) := fun z => h.ne ⟨z.1, by omega, by omega, by omega⟩
  have hl := led4_ne hn
  have g1 : gI [a, -b, -c, -d] = 1 := by rw [<- h.one]; apply gI_abs; simp
  rcases Int.lt_or_gt_of_ne hl with q | q
  . refine ⟨-1, .inr rfl, ?_, ?_⟩
    . rw [gI4_mul _ _ _ _ _ (by decide), g1]; rfl
    . rw [led4_mul _ _ _ _ (by decide)]; omega
  . refine ⟨1, .inl rfl, ?_, ?_⟩
    . rw [gI4_mul _ _ _ _ _ (by decide), g1]; rfl
    . rw [led4_mul _ _ _ _ (by decide)]; omega
def n4 (a b c d : Int) : Int := a * a + b * b + c * c + d * d
def t40 (a b c d : Int) : Int := a * a + b * b - c * c - d * d
def t41 (a b c d : Int) : Int := 2 * b * c - 2 * a * d
def t42 (a b c d : Int) : Int := 2 * b * d + 2 * a * c
def t43 (a b c d : Int) : Int := 2 * b * c + 2 * a * d
def t44 (a b c d : Int) : Int := a * a - b * b + c * c - d * d
def t45 (a b c d : Int) : Int := 2 * c * d - 2 * a * b
def t46 (a b c d : Int) : Int := 2 * b * d - 2 * a * c
def t47 (a b c d : Int) : Int := 2 * c * d + 2 * a * b
def t48 (a b c d : Int) : Int := a * a - b * b - c * c + d * d
def tl4 (a b c d : Int) : List Int := [n4 a b c d, t40 a b c d, t41 a b c d, t42 a b c d, t43 a b c d, t44 a b c d, t45 a b c d, t46 a b c d, t47 a b c d, t48 a b c d]
theorem sq_pos {x : Int} (h : x ≠ 0) : 0 < x * x := by
  rcases Int.lt_or_gt_of_ne h with q | q
  . exact Int.mul_pos_of_neg_of_neg q q
  . exact Int.mul_pos q q
theorem n4_pos {a b c d : Int} (h : ¬ (a = 0 /\ b = 0 /\ c = 0 /\ d = 0)) : 0 < n4 a b c d := by
  unfold n4
  have h1 := sq_nn a; have h2 := sq_nn b; have h3 := sq_nn c; have h4 := sq_nn d
  by_cases ha : a = 0
  . by_cases hb : b = 0
    . by_cases hc : c = 0
      . have := sq_pos (x := d) (fun q => h ⟨ha, hb, hc, q⟩); omega
      . have := sq_pos hc; omega
    . have := sq_pos hb; omega
  . have := sq_pos ha; omega
theorem osq {x : Int} (h : x % 2 = 1) : ∃ k, x * x = 8 * k + 1 := by
  obtain ⟨u, rfl⟩ : ∃ u, x = 2 * u + 1 := ⟨x / 2, by omega⟩
  have hu : u % 2 = 0 \/ u % 2 = 1 := by omega
  rcases hu with q | q
  . obtain ⟨v, rfl⟩ : ∃ v, u = 2 * v := ⟨u / 2, by omega⟩
    exact ⟨2 * v * v + v, by grind⟩
  . obtain ⟨v, rfl⟩ : ∃ v, u = 2 * v + 1 := ⟨u / 2, by omega⟩
    exact ⟨2 * v * v + 3 * v + 1, by grind⟩
theorem esq {x : Int} (h : x % 2 = 0) : ∃ k, x * x = 4 * k := by
  obtain ⟨u, rfl⟩ : ∃ u, x = 2 * u := ⟨x / 2, by omega⟩
  exact ⟨u * u, by grind⟩
theorem opr {x y : Int} (h : x % 2 = 1) (h' : y % 2 = 1) : ∃ k, x * y = 2 * k + 1 := by
  obtain ⟨u, rfl⟩ : ∃ u, x = 2 * u + 1 := ⟨x / 2, by omega⟩
  obtain ⟨v, rfl⟩ : ∃ v, y = 2 * v + 1 := ⟨y / 2, by omega⟩
  exact ⟨2 * u * v + u + v, by grind⟩
theorem dvd4 {g a b c d : Int} (h1 : gI [a, b, c, d] = 1) (h : ∀ x ∈ [a, b, c, d], ∀ y ∈ [a, b, c, d], g ∣ 4 * (x * y)) : g ∣ 4 := by
  have one : ∀ y ∈ [a, b, c, d], g ∣ 4 * y := fun y hy => by
    by_cases y0 : y = 0
    . subst y0; exact ⟨0, by simp⟩
    . have k := dvd_gI (d := g) (ns := [(4 * y) * a, (4 * y) * b, (4 * y) * c, (4 * y) * d]) (by
        intro m hm
        simp only [List.mem_cons, List.not_mem_nil, or_false] at hm
        have q : ∀ x ∈ [a, b, c, d], g ∣ 4 * y * x := fun x hx => by
          have := h x hx y hy
          rwa [show 4 * y * x = 4 * (x * y) by grind]
        rcases hm with rfl | rfl | rfl | rfl
        . exact q a (by simp)
        . exact q b (by simp)
        . exact q c (by simp)
        . exact q d (by simp))
      rw [gI4_mul _ _ _ _ _ (by omega), h1, Int.mul_one] at k
      exact Int.dvd_natAbs.mp k
  have k := dvd_gI (d := g) (ns := [4 * a, 4 * b, 4 * c, 4 * d]) (by
    intro m hm
    simp only [List.mem_cons, List.not_mem_nil, or_false] at hm
    rcases hm with rfl | rfl | rfl | rfl
    . exact one a (by simp)
    . exact one b (by simp)
    . exact one c (by simp)
    . exact one d (by simp))
  rw [gI4_mul _ _ _ _ _ (by decide), h1] at k
  exact k
theorem tl_dvd4 {a b c d : Int} (h : Pm a b c d) : gI (tl4 a b c d) ∣ 4 := by
  have q : ∀ x ∈ tl4 a b c d, gI (tl4 a b c d) ∣ x := fun x hx => gI_dvd hx
  generalize gI (tl4 a b c d) = g at *
  have e : g ∣ n4 a b c d := q _ (by simp [tl4])
  have e0 : g ∣ t40 a b c d := q _ (by simp [tl4])
  have e1 : g ∣ t41 a b c d := q _ (by simp [tl4])
  have e2 : g ∣ t42 a b c d := q _ (by simp [tl4])
  have e3 : g ∣ t43 a b c d := q _ (by simp [tl4])
  have e4 : g ∣ t44 a b c d := q _ (by simp [tl4])
  have e5 : g ∣ t45 a b c d := q _ (by simp [tl4])
  have e6 : g ∣ t46 a b c d := q _ (by simp [tl4])
  have e7 : g ∣ t47 a b c d := q _ (by simp [tl4])
  have e8 : g ∣ t48 a b c d := q _ (by simp [tl4])
  obtain ⟨k, hk⟩ := e; obtain ⟨k0, h0⟩ := e0; obtain ⟨k1, h1⟩ := e1; obtain ⟨k2, h2⟩ := e2; obtain ⟨k3, h3⟩ := e3
  obtain ⟨k4, h4⟩ := e4; obtain ⟨k5, h5⟩ := e5; obtain ⟨k6, h6⟩ := e6; obtain ⟨k7, h7⟩ := e7; obtain ⟨k8, h8⟩ := e8
  simp only [n4, t40, t41, t42, t43, t44, t45, t46, t47, t48] at hk h0 h1 h2 h3 h4 h5 h6 h7 h8
  apply dvd4 h.one
  have aa : g ∣ 4 * (a * a) := ⟨k + k0 + k4 + k8, by grind⟩
  have bb : g ∣ 4 * (b * b) := ⟨k + k0 - k4 - k8, by grind⟩
  have cc : g ∣ 4 * (c * c) := ⟨k - k0 + k4 - k8, by grind⟩
  have dd : g ∣ 4 * (d * d) := ⟨k - k0 - k4 + k8, by grind⟩
  have bc : g ∣ 4 * (b * c) := ⟨k1 + k3, by grind⟩
  have ad : g ∣ 4 * (a * d) := ⟨k3 - k1, by grind⟩
  have bd : g ∣ 4 * (b * d) := ⟨k2 + k6, by grind⟩
  have ac : g ∣ 4 * (a * c) := ⟨k2 - k6, by grind⟩
  have cd : g ∣ 4 * (c * d) := ⟨k5 + k7, by grind⟩
  have ab : g ∣ 4 * (a * b) := ⟨k7 - k5, by grind⟩
  have ba : g ∣ 4 * (b * a) := by rw [Int.mul_comm b a]; exact ab
  have ca : g ∣ 4 * (c * a) := by rw [Int.mul_comm c a]; exact ac
  have da : g ∣ 4 * (d * a) := by rw [Int.mul_comm d a]; exact ad
  have cb : g ∣ 4 * (c * b) := by rw [Int.mul_comm c b]; exact bc
  have db : g ∣ 4 * (d * b) := by rw [Int.mul_comm d b]; exact bd
  have dc : g ∣ 4 * (d * c) := by rw [Int.mul_comm d c]; exact cd
  intro x hx y hy
  simp only [List.mem_cons, List.not_mem_nil, or_false] at hx hy
  rcases hx with hx | hx | hx | hx <;> rcases hy with hy | hy | hy | hy <;> rw [hx, hy] <;> assumption
theorem corner {a b c d : Int} (h : Pm a b c d) : ∃ g m : Int, gI (tl4 a b c d) = g /\ (g = 1 \/ g = 2 \/ g = 4) /\ n4 a b c d = g * m /\ m % 2 = 1 /\ 0 < m := by
  have hn := n4_pos h.ne
  have mn : n4 a b c d ∈ tl4 a b c d := by simp [tl4]
  have g0 := gI_pos mn (by omega)
  have g4 := tl_dvd4 h
  obtain ⟨m, hm⟩ := gI_dvd mn
  have hg : gI (tl4 a b c d) = 1 \/ gI (tl4 a b c d) = 2 \/ gI (tl4 a b c d) = 4 := by
    have l4 := Int.le_of_dvd (by decide) g4
    obtain ⟨u, hu⟩ := g4
    generalize gI (tl4 a b c d) = g at *
    have : g = 1 \/ g = 2 \/ g = 3 \/ g = 4 := by omega
    rcases this with rfl | rfl | rfl | rfl
    . exact .inl rfl
    . exact .inr (.inl rfl)
    . omega
    . exact .inr (.inr rfl)
  have two : 2 ∣ n4 a b c d -> 2 ∣ gI (tl4 a b c d) := fun h2 => dvd_gI fun x hx => by
    obtain ⟨u, hu⟩ := h2
    simp only [tl4, List.mem_cons, List.not_mem_nil, or_false] at hx
    rcases hx with rfl | rfl | rfl | rfl | rfl | rfl | rfl | rfl | rfl | rfl
    . exact ⟨u, hu⟩
    . exact ⟨u - c * c - d * d, by unfold n4 at hu; unfold t40; grind⟩
    . exact ⟨b * c - a * d, by unfold t41; grind⟩
    . exact ⟨b * d + a * c, by unfold t42; grind⟩
    . exact ⟨b * c + a * d, by unfold t43; grind⟩
    . exact ⟨u - b * b - d * d, by unfold n4 at hu; unfold t44; grind⟩
    . exact ⟨c * d - a * b, by unfold t45; grind⟩
    . exact ⟨b * d - a * c, by unfold t46; grind⟩
    . exact ⟨c * d + a * b, by unfold t47; grind⟩
    . exact ⟨u - b * b - c * c, by unfold n4 at hu; unfold t48; grind⟩
  have four : 4 ∣ n4 a b c d -> 4 ∣ gI (tl4 a b c d) /\ n4 a b c d % 8 = 4 := fun h4 => by
    have ne : ¬ (a % 2 = 0 /\ b % 2 = 0 /\ c % 2 = 0 /\ d % 2 = 0) := fun z => by
      have := dvd_gI (d := 2) (ns := [a, b, c, d]) (by
        intro m hm
        simp only [List.mem_cons, List.not_mem_nil, or_false] at hm
        rcases hm with rfl | rfl | rfl | rfl
        . exact Int.dvd_of_emod_eq_zero z.1
        . exact Int.dvd_of_emod_eq_zero z.2.1
        . exact Int.dvd_of_emod_eq_zero z.2.2.1
        . exact Int.dvd_of_emod_eq_zero z.2.2.2)
      rw [h.one] at this
      omega
    have od : a % 2 = 1 /\ b % 2 = 1 /\ c % 2 = 1 /\ d % 2 = 1 := by
      unfold n4 at h4
      have sq : ∀ x : Int, ∃ k, x * x = 4 * k + x % 2 /\ (x % 2 = 0 \/ x % 2 = 1) := fun x => by
        rcases (show x % 2 = 0 \/ x % 2 = 1 by omega) with q | q
        . obtain ⟨k, e⟩ := esq q; exact ⟨k, by rw [q]; omega, .inl q⟩
        . obtain ⟨k, e⟩ := osq q; exact ⟨2 * k, by rw [q]; omega, .inr q⟩
      obtain ⟨ka, ea, pa⟩ := sq a
      obtain ⟨kb, eb, pb⟩ := sq b
      obtain ⟨kc, ec, pc⟩ := sq c
      obtain ⟨kd, ed, pd⟩ := sq d
      rw [ea, eb, ec, ed] at h4
      clear ea eb ec ed sq
      generalize a % 2 = A at *; generalize b % 2 = B at *; generalize c % 2 = C at *; generalize d % 2 = E at *
      omega
    obtain ⟨oa, ob, oc, od⟩ := od
    obtain ⟨ka, ya⟩ := osq oa; obtain ⟨kb, yb⟩ := osq ob; obtain ⟨kc, yc⟩ := osq oc; obtain ⟨kd, yd⟩ := osq od
    obtain ⟨bc, zbc⟩ := opr ob oc; obtain ⟨ad, zad⟩ := opr oa od; obtain ⟨bd, zbd⟩ := opr ob od; obtain ⟨ac, zac⟩ := opr oa oc; obtain ⟨cd, zcd⟩ := opr oc od; obtain ⟨ab, zab⟩ := opr oa ob
    refine ⟨dvd_gI fun x hx => ?_, by unfold n4; omega⟩
    simp only [tl4, List.mem_cons, List.not_mem_nil, or_false] at hx
    rcases hx with rfl | rfl | rfl | rfl | rfl | rfl | rfl | rfl | rfl | rfl
    . exact h4
    . exact ⟨2 * ka + 2 * kb - 2 * kc - 2 * kd, by unfold t40; omega⟩
    . exact ⟨bc - ad, by unfold t41; rw [Int.mul_assoc, Int.mul_assoc, zbc, zad]; omega⟩
    . exact ⟨bd + ac + 1, by unfold t42; rw [Int.mul_assoc, Int.mul_assoc, zbd, zac]; omega⟩
    . exact ⟨bc + ad + 1, by unfold t43; rw [Int.mul_assoc, Int.mul_assoc, zbc, zad]; omega⟩
    . exact ⟨2 * ka - 2 * kb + 2 * kc - 2 * kd, by unfold t44; omega⟩
    . exact ⟨cd - ab, by unfold t45; rw [Int.mul_assoc, Int.mul_assoc, zcd, zab]; omega⟩
    . exact ⟨bd - ac, by unfold t46; rw [Int.mul_assoc, Int.mul_assoc, zbd, zac]; omega⟩
    . exact ⟨cd + ab + 1, by unfold t47; rw [Int.mul_assoc, Int.mul_assoc, zcd, zab]; omega⟩
    . exact ⟨2 * ka - 2 * kb - 2 * kc + 2 * kd, by unfold t48; omega⟩
  refine ⟨_, m, rfl, hg, hm, ?_, ?_⟩
  . generalize gI (tl4 a b c d) = g at *
    generalize n4 a b c d = n at *
    rcases hg with rfl | rfl | rfl
    . have : ¬ 2 ∣ n := fun z => by have := two z; omega
      omega
    . have : ¬ 4 ∣ n := fun z => by have := (four z).1; omega
      omega
    . have := (four ⟨m, hm⟩).2
      omega
  . generalize gI (tl4 a b c d) = g at *
    generalize n4 a b c d = n at *
    rcases hg with rfl | rfl | rfl <;> omega
theorem led_at {x y z w : Int} (h : ¬ (x = 0 /\ y = 0 /\ z = 0 /\ w = 0)) : L2.atI ((([x, y, z, w] : List Int).filter fun t => !decide (t = 0)).map D.int) 0 = some (.int (led4 x y z w)) := by
  unfold led4
  by_cases hx : x = 0
  . subst hx
    by_cases hy : y = 0
    . subst hy
      by_cases hz : z = 0
      . subst hz
        have hw : w ≠ 0 := fun q => h ⟨rfl, rfl, rfl, q⟩
        simp [hw, L2.atI, L2.ixN]
      . simp [hz, L2.atI, L2.ixN]
    . simp [hy, L2.atI, L2.ixN]
  . simp [hx, L2.atI, L2.ixN]
theorem ab_add {x y : Int} {m n k : Nat} (hx : x.natAbs <= m) (hy : y.natAbs <= n) (h : m + n <= k) : (x + y).natAbs <= k := Nat.le_trans (Int.natAbs_add_le _ _) (Nat.le_trans (Nat.add_le_add hx hy) h)
theorem ab_sub {x y : Int} {m n k : Nat} (hx : x.natAbs <= m) (hy : y.natAbs <= n) (h : m + n <= k) : (x - y).natAbs <= k := Nat.le_trans (Int.natAbs_sub_le _ _) (Nat.le_trans (Nat.add_le_add hx hy) h)
theorem ab_two {x : Int} {m : Nat} (hx : x.natAbs <= m) : (2 * x).natAbs <= 2 * m := by rw [Int.natAbs_mul]; exact Nat.mul_le_mul_left 2 hx
theorem n_le4 {A B C E : Int} {M N : Nat} (h : 8 * M <= N) (ha : A.natAbs <= M) (hb : B.natAbs <= M) (hc : C.natAbs <= M) (he : E.natAbs <= M) : (A + B + C + E).natAbs <= N /\ (A + B - C - E).natAbs <= N /\ (A - B + C - E).natAbs <= N /\ (A - B - C + E).natAbs <= N := by
  have h4 : M + M + M + M <= N := by omega
  have p2 := ab_add ha hb (Nat.le_refl _)
  have m2 := ab_sub ha hb (Nat.le_refl _)
  exact ⟨ab_add (ab_add p2 hc (Nat.le_refl _)) he h4, ab_sub (ab_sub p2 hc (Nat.le_refl _)) he h4, ab_sub (ab_add m2 hc (Nat.le_refl _)) he h4, ab_add (ab_sub m2 hc (Nat.le_refl _)) he h4⟩
theorem n_le2 {A B : Int} {M N : Nat} (h : 8 * M <= N) (ha : A.natAbs <= M) (hb : B.natAbs <= M) : (2 * A - 2 * B).natAbs <= N /\ (2 * A + 2 * B).natAbs <= N := by
  have h4 : 2 * M + 2 * M <= N := by omega
  exact ⟨ab_sub (ab_two ha) (ab_two hb) h4, ab_add (ab_two ha) (ab_two hb) h4⟩
theorem t_bd0 {a b c d : Int} {m M N : Nat} (hM : m * m <= M) (hN : 8 * M <= N) (ha : a.natAbs <= m) (hb : b.natAbs <= m) (hc : c.natAbs <= m) (hd : d.natAbs <= m) : ∀ x ∈ tl4 a b c d, x.natAbs <= N := by
  have p : ∀ {x y : Int}, x.natAbs <= m -> y.natAbs <= m -> (x * y).natAbs <= M := fun hx hy => by rw [Int.natAbs_mul]; exact Nat.le_trans (Nat.mul_le_mul hx hy) hM
  obtain ⟨h1, h2, h3, h4⟩ := n_le4 hN (p ha ha) (p hb hb) (p hc hc) (p hd hd)
  have bc := n_le2 hN (p hb hc) (p ha hd)
  have bd := n_le2 hN (p hb hd) (p ha hc)
  have cd := n_le2 hN (p hc hd) (p ha hb)
  intro x hx
  simp only [tl4, List.mem_cons, List.not_mem_nil, or_false] at hx
  rcases hx with rfl | rfl | rfl | rfl | rfl | rfl | rfl | rfl | rfl | rfl
  . exact h1
  . exact h2
  . unfold t41; rw [Int.mul_assoc, Int.mul_assoc]; exact bc.1
  . unfold t42; rw [Int.mul_assoc, Int.mul_assoc]; exact bd.2
  . unfold t43; rw [Int.mul_assoc, Int.mul_assoc]; exact bc.2
  . exact h3
  . unfold t45; rw [Int.mul_assoc, Int.mul_assoc]; exact cd.1
  . unfold t46; rw [Int.mul_assoc, Int.mul_assoc]; exact bd.1
  . unfold t47; rw [Int.mul_assoc, Int.mul_assoc]; exact cd.2
  . exact h4
theorem t_bd {a b c d : Int} (ha : a.natAbs <= 2 ^ 140) (hb : b.natAbs <= 2 ^ 140) (hc : c.natAbs <= 2 ^ 140) (hd : d.natAbs <= 2 ^ 140) : ∀ x ∈ tl4 a b c d, x.natAbs <= 2 ^ 290 :=
  t_bd0 (M := 2 ^ 140 * 2 ^ 140) (Nat.le_refl _) (by rw [show (8 : Nat) = 2 ^ 3 from rfl, <- Nat.pow_add, <- Nat.pow_add]; exact Nat.pow_le_pow_right (by decide) (by decide)) ha hb hc hd
theorem tl_okT {a b c d : Int} (ha : a.natAbs <= 2 ^ 140) (hb : b.natAbs <= 2 ^ 140) (hc : c.natAbs <= 2 ^ 140) (hd : d.natAbs <= 2 ^ 140) : okT ((tl4 a b c d).map D.int) := okT_of (k := 290) (by decide) (Nat.le_of_ble_eq_true rfl) (t_bd ha hb hc hd)
theorem q_okT {x y z w : Int} {m : Nat} (hm : m <= 999) (h : ∀ t ∈ [x, y, z, w], t.natAbs <= 2 ^ m) : okT (([x, y, z, w] : List Int).map D.int) := okT_of (k := m) hm (Nat.le_of_ble_eq_true rfl) h
def tabD (a b c d : Int) : D := .tup [.int ((n4 a b c d).fdiv (gI (tl4 a b c d))), .tup [d3 ((t40 a b c d).fdiv (gI (tl4 a b c d))) ((t41 a b c d).fdiv (gI (tl4 a b c d))) ((t42 a b c d).fdiv (gI (tl4 a b c d))), d3 ((t43 a b c d).fdiv (gI (tl4 a b c d))) ((t44 a b c d).fdiv (gI (tl4 a b c d))) ((t45 a b c d).fdiv (gI (tl4 a b c d))), d3 ((t46 a b c d).fdiv (gI (tl4 a b c d))) ((t47 a b c d).fdiv (gI (tl4 a b c d))) ((t48 a b c d).fdiv (gI (tl4 a b c d)))]]
def trnD (a b c d : Int) : D := .obj "Turn" ["word", "row", "fractions"] [.str "turn", t4 a b c d, tabD a b c d]
theorem k_abs {k a b c d : Int} (hk : k ≠ 0) (p : Pm a b c d) : gI [k * a, k * b, k * c, k * d] = k.natAbs := by rw [gI4_mul _ _ _ _ _ hk, p.one, Int.mul_one]
theorem dot_bg {a b c x y z : Int} {k j : Nat} (ha : a.natAbs <= 2 ^ k) (hb : b.natAbs <= 2 ^ k) (hc : c.natAbs <= 2 ^ k) (hx : x.natAbs <= 2 ^ j) (hy : y.natAbs <= 2 ^ j) (hz : z.natAbs <= 2 ^ j) : (dot a b c x y z).natAbs <= 2 ^ (k + j + 2) := by
  have m : ∀ {u v : Int}, u.natAbs <= 2 ^ k -> v.natAbs <= 2 ^ j -> (u * v).natAbs <= 2 ^ (k + j) := fun hu hv => by rw [Int.natAbs_mul, Nat.pow_add]; exact Nat.mul_le_mul hu hv
  have h1 := m ha hx; have h2 := m hb hy; have h3 := m hc hz
  rw [show k + j + 2 = (k + j) + 1 + 1 from rfl, Nat.pow_succ, Nat.pow_succ]
  exact ab_add h1 (ab_add h2 (ab_add h3 (Nat.le_refl 0) (Nat.le_refl _)) (Nat.le_refl _)) (by omega)
end K
set_option Elab.async false
set_option linter.all false
set_option maxRecDepth 100000
namespace Sp
open PySem PySem.Spec PyProof.Rows L2
open AutoSeq1 (wpAny_loadPart')
abbrev z3z (h : Heap) (n : Nat) (f0 f1 : Value) : Prop := h.get? (n + 5) = some { cls := .type "zip", dict := none, data := .fields #[f0, f1, .bool false, .ref (n + 3), .ref (n + 4)], slots := #[] }
abbrev z3t (h : Heap) (T : Addr) (a b c : Value) : Prop := h.get? T = some { cls := .type "tuple", data := .seq #[a, b, c] }
structure Z3 (n l1 l2 l3 : Nat) (xs ys ws : Array Value) (k : Nat) (h : Heap) : Prop where
  b1 : l1 < n
  b2 : l2 < n
  b3 : l3 < n
  sz : n + 5 < h.objs.size
  ti : z3t h (n + 3) (.ref n) (.ref (n + 1)) (.ref (n + 2))
  to : ∃ a b c, z3t h (n + 4) a b c
  p1 : h.IsTupleIter n l1 k /\ h.IsTuple l1 xs
  p2 : h.IsTupleIter (n + 1) l2 k /\ h.IsTuple l2 ys
  p3 : h.IsTupleIter (n + 2) l3 k /\ h.IsTuple l3 ws
section
variable {prog : Program} {w : World} {A : Around} {E : Value -> Shared -> Prop} {s : Shared}
variable {n l1 l2 l3 : Nat} {xs ys ws : Array Value} {k : Nat} {x y u : Value} {f0 f1 : Value}
theorem upd3 {T : Addr} {a b c v : Value} {j : Nat} {Q : Unit -> Shared -> Prop} (hT : z3t s.heap T a b c)
    (h : ∀ h', h'.get? T = some { cls := .type "tuple", data := .seq ((#[a, b, c] : Array Value).setIfInBounds j v) } -> Heap.SameBut T s.heap h' -> Q () { s with heap := h' }) : wpAny (model prog w) A (updateSeq T (·.setIfInBounds j v)) Q E s := by
  refine wpAny_updateSeq hT rfl (h _ ?_ (Heap.SameBut.update ..))
  rw [Heap.get?_update_self _ hT rfl]
  simp [Obj.mapSeq]
theorem w_alive {a : Addr} {Q : Option Obj -> Shared -> Prop} (h : Q (s.heap.get? a) s) : wpAny (model prog w) A (loadIfAlive a) Q E s := fun _ _ _ => h
def After3 (n l1 l2 l3 : Nat) (xs ys ws : Array Value) (k : Nat) (x y u : Value) (h h1 : Heap) : Prop :=
  Z3 n l1 l2 l3 xs ys ws (k + 1) h1 /\ z3t h1 h.objs.size x y u /\ (∃ g, z3z h1 n (rawInt h.objs.size) g) /\ h1.objs.size = h.objs.size + 1 /\ ∀ (c : Nat) o, (c < n \/ n + 5 < c) -> h.get? c = some o -> h1.get? c = some o
theorem Z3.first {Q : Value -> Shared -> Prop} (S : Z3 n l1 l2 l3 xs ys ws k s.heap) (hz : z3z s.heap n .none f1) (hx : xs[k]? = some x) (hy : ys[k]? = some y) (hu : ws[k]? = some u)
    (go : ∀ h1, After3 n l1 l2 l3 xs ys ws k x y u s.heap h1 -> Q (.ref s.heap.objs.size) { s with heap := h1 }) :
    wpAny (model prog w) A (Builtin.«zip.__next__» ⟨[.ref (n + 5)], []⟩) (fun fin s' => ∃ v, fin = .done (.ret v) /\ Q v s') E s := by
  obtain ⟨b1, b2, b3, sz, pI, ⟨a, b, c, pO⟩, ⟨q1, t1⟩, ⟨q2, t2⟩, ⟨q3, t3⟩⟩ := S
  obtain ⟨h0, gg, dd, t0, oo⟩ := s
  show wpAny _ _ (field (.ref (n + 5)) 2 >>= _) _ _ ⟨h0, gg, dd, t0, oo⟩
  refine wpAny_bind (wpAny_field hz rfl (x := Value.bool false) rfl ?_)
  show wpAny _ _ (field (.ref (n + 5)) 3 >>= _) _ _ ⟨h0, gg, dd, t0, oo⟩
  refine wpAny_bind (wpAny_field hz rfl (x := Value.ref (n + 3)) rfl (wpAny_bind (wpAny_seqItems pI rfl ?_)))
  show wpAny _ _ (Builtin.SmallTypes.ownedTupleIsFree (.ref (n + 5)) >>= _) _ _ ⟨h0, gg, dd, t0, oo⟩
  unfold Builtin.SmallTypes.ownedTupleIsFree
  refine wpAny_bind (wpAny_bind (wpAny_field hz rfl (x := Value.none) rfl (wpAny_pure ?_)))
  simp only [if_true]
  refine wpAny_bind (wpAny_rule (wpAny_bind (wpAny_field hz rfl (x := Value.ref (n + 4)) rfl (wpAny_bind (wpAny_setField_rec hz (by simp) fun r1 Z1 m1 => ?_)))))
  have m1 : Heap.SameBut (n + 5) h0 r1 := m1
  have e1 : ∀ (c : Nat) o, c ≠ n + 5 -> h0.get? c = some o -> r1.get? c = some o := fun c o g e => m1.extBut c o g e
  simp only [List.zipIdx_cons, List.zipIdx_nil, List.forIn_cons, List.forIn_nil]
  refine wpAny_bind (wpAny_bind (wpAny_bind (wpAny_onRaise ?_)))
  show wpAny _ _ (Builtin.SmallTypes.nextOf (.ref n) >>= _) _ _ ⟨r1, gg, dd, t0, oo⟩
  refine wpAny_bind (tn_item (q1.at fun o e => e1 _ o (by omega) e) (t1.at fun o e => e1 _ o (by omega) e) hx fun r2 q1' m2 => wpAny_pure ?_)
  have m2 : Heap.SameBut n r1 r2 := m2
  have e2 : ∀ (c : Nat) o, c ≠ n + 5 -> c ≠ n -> h0.get? c = some o -> r2.get? c = some o := fun c o g g' e => m2.extBut c o g' (e1 c o g e)
  have O2 : z3t r2 (n + 4) a b c := e2 _ _ (by omega) (by omega) pO
  refine wpAny_bind (wpAny_seqItems O2 rfl (wpAny_bind (upd3 O2 fun r3 O3 m3 => wpAny_bind (wpAny_letGo (wpAny_pure ?_)))))
  have O3 : z3t r3 (n + 4) x b c := O3
  have m3 : Heap.SameBut (n + 4) r2 r3 := m3
  have e3 : ∀ (c : Nat) o, c ≠ n + 5 -> c ≠ n -> c ≠ n + 4 -> h0.get? c = some o -> r3.get? c = some o := fun c o g g' g2 e => m3.extBut c o g2 (e2 c o g g' e)
  refine wpAny_bind (wpAny_bind (wpAny_onRaise ?_))
  show wpAny _ _ (Builtin.SmallTypes.nextOf (.ref (n + 1)) >>= _) _ _ ⟨r3, gg, dd, t0, oo⟩
  refine wpAny_bind (tn_item (q2.at fun o e => e3 _ o (by omega) (by omega) (by omega) e) (t2.at fun o e => e3 _ o (by omega) (by omega) (by omega) e) hy fun r4 q2' m4 => wpAny_pure ?_)
  have m4 : Heap.SameBut (n + 1) r3 r4 := m4
  have O4 : z3t r4 (n + 4) x b c := m4.extBut _ _ (by show (n + 4 : Nat) ≠ n + 1; omega) O3
  refine wpAny_bind (wpAny_seqItems O4 rfl (wpAny_bind (upd3 O4 fun r5 O5 m5 => wpAny_bind (wpAny_letGo (wpAny_pure ?_)))))
  have O5 : z3t r5 (n + 4) x y c := O5
  have m5 : Heap.SameBut (n + 4) r4 r5 := m5
  have e5 : ∀ (c : Nat) o, c ≠ n + 5 -> c ≠ n -> c ≠ n + 4 -> c ≠ n + 1 -> h0.get? c = some o -> r5.get? c = some o := fun c o g g' g2 g3 e => m5.extBut c o g2 (m4.extBut c o g3 (e3 c o g g' g2 e))
  refine wpAny_bind (wpAny_bind (wpAny_onRaise ?_))
  show wpAny _ _ (Builtin.SmallTypes.nextOf (.ref (n + 2)) >>= _) _ _ ⟨r5, gg, dd, t0, oo⟩
  refine wpAny_bind (tn_item (q3.at fun o e => e5 _ o (by omega) (by omega) (by omega) (by omega) e) (t3.at fun o e => e5 _ o (by omega) (by omega) (by omega) (by omega) e) hu fun r6 q3' m6 => wpAny_pure ?_)
  have m6 : Heap.SameBut (n + 2) r5 r6 := m6
  have O6 : z3t r6 (n + 4) x y c := m6.extBut _ _ (by show (n + 4 : Nat) ≠ n + 2; omega) O5
  refine wpAny_bind (wpAny_seqItems O6 rfl (wpAny_bind (upd3 O6 fun r7 O7 m7 => wpAny_bind (wpAny_letGo (wpAny_pure (wpAny_pure ?_))))))
  have O7 : z3t r7 (n + 4) x y u := O7
  have m7 : Heap.SameBut (n + 4) r6 r7 := m7
  have e7 : ∀ (c : Nat) o, c ≠ n + 5 -> c ≠ n -> c ≠ n + 4 -> c ≠ n + 1 -> c ≠ n + 2 -> h0.get? c = some o -> r7.get? c = some o := fun c o g g' g2 g3 g4 e => m7.extBut c o g2 (m6.extBut c o g4 (e5 c o g g' g2 g3 e))
  refine wpAny_bind (wpAny_seqItems O7 rfl (wpAny_bind (wpAny_newTuple ?_)))
  have sz7 : r7.objs.size = h0.objs.size := by rw [m7.1, m6.1, m5.1, m4.1, m3.1, m2.1, m1.1]
  have Z1 : z3z r1 n .ellipsis f1 := Z1
  have Z7 : z3z r7 n .ellipsis f1 := m7.extBut _ _ (by show (n + 5 : Nat) ≠ n + 4; omega) (m6.extBut _ _ (by show (n + 5 : Nat) ≠ n + 2; omega) (m5.extBut _ _ (by show (n + 5 : Nat) ≠ n + 4; omega) (m4.extBut _ _ (by show (n + 5 : Nat) ≠ n + 1; omega) (m3.extBut _ _ (by show (n + 5 : Nat) ≠ n + 4; omega) (m2.extBut _ _ (by show (n + 5 : Nat) ≠ n; omega) Z1)))))
  show wpAny _ _ (Builtin.SmallTypes.ownedTupleHandOut (.ref (n + 5)) (.ref r7.objs.size) >>= _) _ _ ⟨r7.push { cls := .type "tuple", data := .seq #[x, y, u] }, gg, dd, t0, oo⟩
  unfold Builtin.SmallTypes.ownedTupleHandOut
  have Z8 : z3z (r7.push { cls := .type "tuple", data := .seq #[x, y, u] }) n .ellipsis f1 := Heap.get?_push_of_some _ Z7
  refine wpAny_bind (wpAny_bind (wpAny_setField_rec Z8 (by simp) fun r8 Z9 m8 => ?_))
  have Z9 : z3z r8 n (rawInt r7.objs.size) f1 := Z9
  refine wpAny_setField_rec Z9 (by simp) fun r9 Z10 m9 => ?_
  have Z10 : z3z r9 n (rawInt r7.objs.size) (.bool false) := Z10
  have m8 : Heap.SameBut (n + 5) (r7.push { cls := .type "tuple", data := .seq #[x, y, u] }) r8 := m8
  have m9 : Heap.SameBut (n + 5) r8 r9 := m9
  have far : ∀ (c : Nat) o, c ≠ n + 5 -> r7.get? c = some o -> r9.get? c = some o := fun c o g e => m9.extBut c o g (m8.extBut c o g (Heap.get?_push_of_some _ e))
  have szn : n + 5 < h0.objs.size := sz
  have T9 : z3t r9 r7.objs.size x y u := m9.extBut _ _ (by show (r7.objs.size : Nat) ≠ n + 5; omega) (m8.extBut _ _ (by show (r7.objs.size : Nat) ≠ n + 5; omega) (Heap.get?_push_size _ rfl))
  have s9 : h0.objs.size <= r9.objs.size := by rw [m9.1, m8.1, Heap.size_push, sz7]; exact Nat.le_succ _
  refine wpAny_pure ⟨_, rfl, ?_⟩
  show Q (.ref r7.objs.size) _
  rw [sz7] at Z10 T9 ⊢
  refine go r9 ⟨⟨b1, b2, b3, Nat.lt_of_lt_of_le szn s9, far _ _ (by show (n + 3 : Nat) ≠ n + 5; omega) (e7 _ _ (by omega) (by omega) (by omega) (by omega) (by omega) pI), ⟨x, y, u, far _ _ (by show (n + 4 : Nat) ≠ n + 5; omega) O7⟩, ⟨?_, ?_⟩, ⟨?_, ?_⟩, ⟨?_, ?_⟩⟩, T9, ⟨_, Z10⟩, by rw [m9.1, m8.1, Heap.size_push, sz7], fun c o hc e => ?_⟩
  . exact q1'.at fun o e => far _ o (by omega) (m7.extBut _ _ (by show (n : Nat) ≠ n + 4; omega) (m6.extBut _ _ (by show (n : Nat) ≠ n + 2; omega) (m5.extBut _ _ (by show (n : Nat) ≠ n + 4; omega) (m4.extBut _ _ (by show (n : Nat) ≠ n + 1; omega) (m3.extBut _ _ (by show (n : Nat) ≠ n + 4; omega) e)))))
  . exact t1.at fun o e => far _ o (by omega) (e7 _ o (by omega) (by omega) (by omega) (by omega) (by omega) e)
  . exact q2'.at fun o e => far _ o (by omega) (m7.extBut _ _ (by show (n + 1 : Nat) ≠ n + 4; omega) (m6.extBut _ _ (by show (n + 1 : Nat) ≠ n + 2; omega) (m5.extBut _ _ (by show (n + 1 : Nat) ≠ n + 4; omega) e)))
  . exact t2.at fun o e => far _ o (by omega) (e7 _ o (by omega) (by omega) (by omega) (by omega) (by omega) e)
  . exact q3'.at fun o e => far _ o (by omega) (m7.extBut _ _ (by show (n + 2 : Nat) ≠ n + 4; omega) e)
  . exact t3.at fun o e => far _ o (by omega) (e7 _ o (by omega) (by omega) (by omega) (by omega) (by omega) e)
  . exact far c o (by omega) (e7 c o (by omega) (by omega) (by omega) (by omega) (by omega) e)
theorem not_free {T : Nat} {oT : Obj} {Q : Bool -> Shared -> Prop} (hz : z3z s.heap n (rawInt T) f1) (hT : s.heap.get? T = some oT) (go : ∀ h1 g, z3z h1 n (rawInt T) g -> h1.objs.size = s.heap.objs.size -> (∀ (c : Nat) o, c ≠ n + 5 -> s.heap.get? c = some o -> h1.get? c = some o) -> Q false { s with heap := h1 }) :
    wpAny (model prog w) A (Builtin.SmallTypes.ownedTupleIsFree (.ref (n + 5))) Q E s := by
  obtain ⟨h0, gg, dd, t0, oo⟩ := s
  unfold Builtin.SmallTypes.ownedTupleIsFree
  refine wpAny_bind (wpAny_field hz rfl (x := rawInt T) rfl ?_)
  show wpAny _ _ (loadIfAlive (Int.toNat (T : Int)) >>= _) _ _ ⟨h0, gg, dd, t0, oo⟩
  refine wpAny_bind (w_alive ?_)
  rw [show (Shared.heap ⟨h0, gg, dd, t0, oo⟩).get? (Int.toNat (T : Int)) = some oT from hT]
  simp only [Option.isNone_some, Bool.false_eq_true, if_false]
  refine wpAny_bind (wpAny_field hz rfl (x := f1) rfl ?_)
  split
  . refine wpAny_bind (wpAny_setField_rec hz (by simp) fun r1 Z1 m1 => wpAny_pure ?_)
    have m1 : Heap.SameBut (n + 5) h0 r1 := m1
    exact go r1 _ Z1 m1.1 fun c o g e => m1.extBut c o g e
  . exact wpAny_pure (go h0 f1 hz rfl fun c o _ e => e)
theorem Z3.next {Q : Value -> Shared -> Prop} {T : Nat} {oT : Obj} (S : Z3 n l1 l2 l3 xs ys ws k s.heap) (hz : z3z s.heap n (rawInt T) f1) (hT : s.heap.get? T = some oT) (hx : xs[k]? = some x) (hy : ys[k]? = some y) (hu : ws[k]? = some u)
    (go : ∀ h1, Z3 n l1 l2 l3 xs ys ws (k + 1) h1 -> z3t h1 s.heap.objs.size x y u -> (∃ g, z3z h1 n (rawInt T) g) -> h1.objs.size = s.heap.objs.size + 1 -> (∀ (c : Nat) o, (c < n \/ n + 5 < c) -> s.heap.get? c = some o -> h1.get? c = some o) -> Q (.ref s.heap.objs.size) { s with heap := h1 }) :
    wpAny (model prog w) A (Builtin.«zip.__next__» ⟨[.ref (n + 5)], []⟩) (fun fin s' => ∃ v, fin = .done (.ret v) /\ Q v s') E s := by
  obtain ⟨b1, b2, b3, sz, pI, ⟨a, b, c, pO⟩, ⟨q1, t1⟩, ⟨q2, t2⟩, ⟨q3, t3⟩⟩ := S
  obtain ⟨h0, gg, dd, t0, oo⟩ := s
  have szn : n + 5 < h0.objs.size := sz
  show wpAny _ _ (field (.ref (n + 5)) 2 >>= _) _ _ ⟨h0, gg, dd, t0, oo⟩
  refine wpAny_bind (wpAny_field hz rfl (x := Value.bool false) rfl ?_)
  show wpAny _ _ (field (.ref (n + 5)) 3 >>= _) _ _ ⟨h0, gg, dd, t0, oo⟩
  refine wpAny_bind (wpAny_field hz rfl (x := Value.ref (n + 3)) rfl (wpAny_bind (wpAny_seqItems pI rfl ?_)))
  show wpAny _ _ (Builtin.SmallTypes.ownedTupleIsFree (.ref (n + 5)) >>= _) _ _ ⟨h0, gg, dd, t0, oo⟩
  refine wpAny_bind (not_free hz hT fun r1 g Z1 sz1 e1 => ?_)
  have sz1 : r1.objs.size = h0.objs.size := sz1
  have e1 : ∀ (c : Nat) o, c ≠ n + 5 -> h0.get? c = some o -> r1.get? c = some o := e1
  simp only [List.forIn_toArray, List.forIn_cons, List.forIn_nil, Bool.false_eq_true, if_false]
  refine wpAny_bind (wpAny_bind (wpAny_bind (wpAny_holding ?_)))
  show wpAny _ _ (Builtin.SmallTypes.nextOf (.ref n) >>= _) _ _ ⟨r1, gg, dd, t0, oo⟩
  refine wpAny_bind (tn_item (q1.at fun o e => e1 _ o (by omega) e) (t1.at fun o e => e1 _ o (by omega) e) hx fun r2 q1' m2 => wpAny_pure (wpAny_pure ?_))
  have m2 : Heap.SameBut n r1 r2 := m2
  refine wpAny_bind (wpAny_bind (wpAny_holding ?_))
  show wpAny _ _ (Builtin.SmallTypes.nextOf (.ref (n + 1)) >>= _) _ _ ⟨r2, gg, dd, t0, oo⟩
  have e2 : ∀ (c : Nat) o, c ≠ n + 5 -> c ≠ n -> h0.get? c = some o -> r2.get? c = some o := fun c o g g' e => m2.extBut c o g' (e1 c o g e)
  refine wpAny_bind (tn_item (q2.at fun o e => e2 _ o (by omega) (by omega) e) (t2.at fun o e => e2 _ o (by omega) (by omega) e) hy fun r3 q2' m3 => wpAny_pure (wpAny_pure ?_))
  have m3 : Heap.SameBut (n + 1) r2 r3 := m3
  refine wpAny_bind (wpAny_bind (wpAny_holding ?_))
  show wpAny _ _ (Builtin.SmallTypes.nextOf (.ref (n + 2)) >>= _) _ _ ⟨r3, gg, dd, t0, oo⟩
  have e3 : ∀ (c : Nat) o, c ≠ n + 5 -> c ≠ n -> c ≠ n + 1 -> h0.get? c = some o -> r3.get? c = some o := fun c o g g' g2 e => m3.extBut c o g2 (e2 c o g g' e)
  refine wpAny_bind (tn_item (q3.at fun o e => e3 _ o (by omega) (by omega) (by omega) e) (t3.at fun o e => e3 _ o (by omega) (by omega) (by omega) e) hu fun r4 q3' m4 => wpAny_pure (wpAny_pure (wpAny_pure ?_)))
  have m4 : Heap.SameBut (n + 2) r3 r4 := m4
  have e4 : ∀ (c : Nat) o, c ≠ n + 5 -> c ≠ n -> c ≠ n + 1 -> c ≠ n + 2 -> h0.get? c = some o -> r4.get? c = some o := fun c o g g' g2 g3 e => m4.extBut c o g3 (e3 c o g g' g2 e)
  have sz4 : r4.objs.size = h0.objs.size := by rw [m4.1, m3.1, m2.1, sz1]
  refine wpAny_bind (wpAny_newTuple (hsz := show (3 : Nat) <= sizeLine by decide) (wpAny_pure ⟨_, rfl, ?_⟩))
  show Q (.ref r4.objs.size) ⟨r4.push { cls := .type "tuple", data := .seq #[x, y, u] }, gg, dd, t0, oo⟩
  rw [sz4]
  have pu : ∀ (c : Nat) o, r4.get? c = some o -> (r4.push { cls := .type "tuple", data := .seq #[x, y, u] }).get? c = some o := fun c o e => Heap.get?_push_of_some _ e
  have T5 : z3t (r4.push { cls := .type "tuple", data := .seq #[x, y, u] }) h0.objs.size x y u := by rw [<- sz4]; exact Heap.get?_push_size _ rfl
  refine go _ ⟨b1, b2, b3, ?_, pu _ _ (e4 _ _ (by omega) (by omega) (by omega) (by omega) pI), ⟨a, b, c, pu _ _ (e4 _ _ (by omega) (by omega) (by omega) (by omega) pO)⟩, ⟨?_, ?_⟩, ⟨?_, ?_⟩, ⟨?_, ?_⟩⟩ T5 ⟨g, ?_⟩ (by rw [Heap.size_push, sz4]) fun c o hc e => pu _ _ (e4 c o (by omega) (by omega) (by omega) (by omega) e)
  . rw [Heap.size_push, sz4]; exact Nat.lt_succ_of_lt szn
  . exact q1'.at fun o e => pu _ o (m4.extBut _ _ (by show (n : Nat) ≠ n + 2; omega) (m3.extBut _ _ (by show (n : Nat) ≠ n + 1; omega) e))
  . exact t1.at fun o e => pu _ o (e4 _ o (by omega) (by omega) (by omega) (by omega) e)
  . exact q2'.at fun o e => pu _ o (m4.extBut _ _ (by show (n + 1 : Nat) ≠ n + 2; omega) e)
  . exact t2.at fun o e => pu _ o (e4 _ o (by omega) (by omega) (by omega) (by omega) e)
  . exact q3'.at fun o e => pu _ o e
  . exact t3.at fun o e => pu _ o (e4 _ o (by omega) (by omega) (by omega) (by omega) e)
  . exact pu _ _ (m4.extBut _ _ (by show (n + 5 : Nat) ≠ n + 2; omega) (m3.extBut _ _ (by show (n + 5 : Nat) ≠ n + 1; omega) (m2.extBut _ _ (by show (n + 5 : Nat) ≠ n; omega) Z1)))
theorem Z3.last {Q : Fin -> Shared -> Prop} {T : Nat} {oT : Obj} (hh : A.handled = none) (S : Z3 n l1 l2 l3 xs ys ws k s.heap) (hz : z3z s.heap n (rawInt T) f1) (hT : s.heap.get? T = some oT) (hx : xs[k]? = none)
    (go : ∀ h1 e, (∀ (c : Nat) o, (c < n \/ n + 5 < c) -> s.heap.get? c = some o -> h1.get? c = some o) -> (∃ o, h1.get? e = some o /\ o.cls = .type "StopIteration") -> E (.ref e) { s with heap := h1 }) :
    wpAny (model prog w) A (Builtin.«zip.__next__» ⟨[.ref (n + 5)], []⟩) Q E s := by
  obtain ⟨b1, b2, b3, sz, pI, ⟨a, b, c, pO⟩, ⟨q1, t1⟩, ⟨q2, t2⟩, ⟨q3, t3⟩⟩ := S
  obtain ⟨h0, gg, dd, t0, oo⟩ := s
  show wpAny _ _ (field (.ref (n + 5)) 2 >>= _) _ _ ⟨h0, gg, dd, t0, oo⟩
  refine wpAny_bind (wpAny_field hz rfl (x := Value.bool false) rfl ?_)
  show wpAny _ _ (field (.ref (n + 5)) 3 >>= _) _ _ ⟨h0, gg, dd, t0, oo⟩
  refine wpAny_bind (wpAny_field hz rfl (x := Value.ref (n + 3)) rfl (wpAny_bind (wpAny_seqItems pI rfl ?_)))
  show wpAny _ _ (Builtin.SmallTypes.ownedTupleIsFree (.ref (n + 5)) >>= _) _ _ ⟨h0, gg, dd, t0, oo⟩
  refine wpAny_bind (not_free hz hT fun r1 g Z1 sz1 e1 => ?_)
  have e1 : ∀ (c : Nat) o, c ≠ n + 5 -> h0.get? c = some o -> r1.get? c = some o := e1
  simp only [List.forIn_toArray, List.forIn_cons, List.forIn_nil, Bool.false_eq_true, if_false]
  refine wpAny_bind (wpAny_bind (wpAny_bind (wpAny_holding ?_)))
  show wpAny _ _ (Builtin.SmallTypes.nextOf (.ref n) >>= _) _ _ ⟨r1, gg, dd, t0, oo⟩
  refine wpAny_bind (tn_end hh (q1.at fun o e => e1 _ o (by omega) e) (t1.at fun o e => e1 _ o (by omega) e) hx fun r2 ex m2 he => ?_)
  have m2 : Heap.ExtBut n r1 r2 := m2
  exact go r2 ex (fun c o hc e => m2 c o (by show (c : Nat) ≠ n; omega) (e1 c o (by omega) e)) he
theorem Z3.pyFirst {Q : Option Value -> Shared -> Prop} (S : Z3 n l1 l2 l3 xs ys ws k s.heap) (hz : z3z s.heap n .none f1) (hx : xs[k]? = some x) (hy : ys[k]? = some y) (hu : ws[k]? = some u)
    (go : ∀ h1, After3 n l1 l2 l3 xs ys ws k x y u s.heap h1 -> Q (some (.ref s.heap.objs.size)) { s with heap := h1 }) : wpAny (model prog w) A (pyNext (.ref (n + 5))) Q E s := by
  have ty : s.TypeIs (.ref (n + 5)) "zip" := ⟨_, hz, rfl⟩
  unfold pyNext
  exact wpAny_bind (wpAny_attempt (wpAny_callSpecial?_slot (name := Str.ofString "__next__") ty F.slot_zip_next (wpAny_call_entry F.slot_zip_next ty F.entry_zip_next (S.first hz hx hy hu fun h1 a => wpAny_pure (go h1 a)) (F.args_zip_next_1 _))))
theorem Z3.pyNext {Q : Option Value -> Shared -> Prop} {T : Nat} {oT : Obj} (S : Z3 n l1 l2 l3 xs ys ws k s.heap) (hz : z3z s.heap n (rawInt T) f1) (hT : s.heap.get? T = some oT) (hx : xs[k]? = some x) (hy : ys[k]? = some y) (hu : ws[k]? = some u)
    (go : ∀ h1, Z3 n l1 l2 l3 xs ys ws (k + 1) h1 -> z3t h1 s.heap.objs.size x y u -> (∃ g, z3z h1 n (rawInt T) g) -> h1.objs.size = s.heap.objs.size + 1 -> (∀ (c : Nat) o, (c < n \/ n + 5 < c) -> s.heap.get? c = some o -> h1.get? c = some o) -> Q (some (.ref s.heap.objs.size)) { s with heap := h1 }) : wpAny (model prog w) A (PySem.pyNext (.ref (n + 5))) Q E s := by
  have ty : s.TypeIs (.ref (n + 5)) "zip" := ⟨_, hz, rfl⟩
  unfold PySem.pyNext
  exact wpAny_bind (wpAny_attempt (wpAny_callSpecial?_slot (name := Str.ofString "__next__") ty F.slot_zip_next (wpAny_call_entry F.slot_zip_next ty F.entry_zip_next (S.next hz hT hx hy hu fun h1 a b c d e => wpAny_pure (go h1 a b c d e)) (F.args_zip_next_1 _))))
theorem Z3.pyLast {Q : Option Value -> Shared -> Prop} {T : Nat} {oT : Obj} (hh : A.handled = none) (S : Z3 n l1 l2 l3 xs ys ws k s.heap) (hz : z3z s.heap n (rawInt T) f1) (hT : s.heap.get? T = some oT) (hx : xs[k]? = none)
    (go : ∀ h1, (∀ (c : Nat) o, (c < n \/ n + 5 < c) -> s.heap.get? c = some o -> h1.get? c = some o) -> Q none { s with heap := h1 }) : wpAny (model prog w) A (PySem.pyNext (.ref (n + 5))) Q E s := by
  have ty : s.TypeIs (.ref (n + 5)) "zip" := ⟨_, hz, rfl⟩
  unfold PySem.pyNext
  refine wpAny_bind (wpAny_attempt (wpAny_callSpecial?_slot (name := Str.ofString "__next__") ty F.slot_zip_next (wpAny_call_entry F.slot_zip_next ty F.entry_zip_next (S.last hh hz hT hx fun h1 e kk he => ?_) (F.args_zip_next_1 _))))
  obtain ⟨oe, ho, hc⟩ := he
  exact wpAny_bind (wpAny_isInstance (T := "StopIteration") (b := true) ⟨oe, ho, hc⟩ isSubtype_stop (wpAny_pure (go h1 kk)))
end
end Sp
set_option Elab.async false
set_option linter.all false
set_option maxRecDepth 100000
namespace Sp
open PySem PySem.Spec PyProof.Rows L2
open AutoSeq1 (wpAny_loadPart')
theorem zp_tc3 (a b c : Value) : checkTypeCall "zip" ⟨[a, b, c], []⟩ = pure () := by kernel_rfl
theorem zp_nc3 (a b c : Value) : checkBuiltinCall "zip.__new__" ⟨[.type "zip", a, b, c], []⟩ = pure () := by kernel_rfl
theorem zp_ai4 (a b c d : Value) : argsOk "object.__init__" ⟨[a, b, c, d], []⟩ := by
  unfold argsOk
  rw [signature?_of (id := "object.__init__") (n := ['_', '_', 't', 'i', 'n', 'i', '_', '_']) (o := ['t', 'c', 'e', 'j', 'b', 'o']) (by kernel_rfl) PySem.F.owner_object]
  kernel_rfl
theorem zp_no_len : typeLookup (.type "zip") "__len__" = pure none := by rw [typeLookup_type, builtinLookup_eq_fast]; kernel_rfl
theorem zp_no_hint : typeLookup (.type "zip") "__length_hint__" = pure none := by rw [typeLookup_type, builtinLookup_eq_fast]; kernel_rfl
abbrev y1 (h : Heap) (a : Addr) : Heap := h.push { cls := .type "tuple_iterator", data := .fields #[.ref a, .int 0 0] }
abbrev y2 (h : Heap) (a b : Addr) : Heap := (y1 h a).push { cls := .type "tuple_iterator", data := .fields #[.ref b, .int 0 0] }
abbrev y3 (h : Heap) (a b c : Addr) : Heap := (y2 h a b).push { cls := .type "tuple_iterator", data := .fields #[.ref c, .int 0 0] }
abbrev y4 (h : Heap) (a b c : Addr) : Heap := (y3 h a b c).push { cls := .type "tuple", data := .seq #[.ref h.objs.size, .ref (y1 h a).objs.size, .ref (y2 h a b).objs.size] }
abbrev y5 (h : Heap) (a b c : Addr) : Heap := (y4 h a b c).push { cls := .type "tuple", data := .seq #[.none, .none, .none] }
abbrev y6 (h : Heap) (a b c : Addr) : Heap := (y5 h a b c).push { cls := .type "zip", data := .fields #[.none, .bool false, .bool false, .ref (y3 h a b c).objs.size, .ref (y4 h a b c).objs.size] }
theorem zp3_new (a b c : Addr) (xs ys ws : Array Value) :
    Meets (Builtin.«zip.__new__» ⟨[.type "zip", .ref a, .ref b, .ref c], []⟩) (fun _ R s => s.heap.IsTuple a xs /\ s.heap.IsTuple b ys /\ s.heap.IsTuple c ws /\ R (.ok (.ret (.ref (y5 s.heap a b c).objs.size))) { s with heap := y6 s.heap a b c }) :=
  .of_wp fun pg wd AA RR st hh => by
    obtain ⟨hp0, gg, dd, tk0, oo⟩ := st; obtain ⟨ha, hb, hc, hh⟩ := hh
    have hsub0 := sub_zip
    have T1 : Heap.IsTuple (Shared.heap ⟨hp0, gg, dd, tk0, oo⟩) a xs := ha
    have T2 : Heap.IsTuple (Shared.heap ⟨hp0.push { cls := .type "tuple_iterator", data := .fields #[.ref a, .int 0 0] }, gg, dd, tk0, oo⟩) b ys := hb.at fun o e => Heap.get?_push_of_some _ e
    have T3 : Heap.IsTuple (Shared.heap ⟨(hp0.push { cls := .type "tuple_iterator", data := .fields #[.ref a, .int 0 0] }).push { cls := .type "tuple_iterator", data := .fields #[.ref b, .int 0 0] }, gg, dd, tk0, oo⟩) c ws := hc.at fun o e => Heap.get?_push_of_some _ (Heap.get?_push_of_some _ e)
    wp_walk using wpAny_pyIter_tuple T1, wpAny_pyIter_tuple T2, wpAny_pyIter_tuple T3
    exact ⟨_, rfl, hh⟩
section
variable {prog : Program} {w : World} {A : Around} {E : Value -> Shared -> Prop} {s : Shared}
theorem zp3_call {a b c : Addr} {xs ys ws : Array Value} {Q : Value -> Shared -> Prop} (ha : s.heap.IsTuple a xs) (hb : s.heap.IsTuple b ys) (hc : s.heap.IsTuple c ws)
    (go : ∀ h1, Z3 s.heap.objs.size a b c xs ys ws 0 h1 -> z3z h1 s.heap.objs.size .none (.bool false) -> h1.objs.size = s.heap.objs.size + 6 -> (∀ b o, s.heap.get? b = some o -> h1.get? b = some o) -> Q (.ref (s.heap.objs.size + 5)) { s with heap := h1 }) :
    wpAny (model prog w) A (call (.type "zip") [.ref a, .ref b, .ref c]) Q E s := by
  refine callType_new F.called_zip (by decide) (zp_tc3 _ _ _) (zp_nc3 _ _ _) (fun ob => zp_ai4 ob _ _ _) F.entry_zip_new (zp3_new a b c xs ys ws) ⟨ha, hb, hc, ?_⟩
  have s1 : (y1 s.heap a).objs.size = s.heap.objs.size + 1 := Heap.size_push ..
  have s2 : (y2 s.heap a b).objs.size = s.heap.objs.size + 2 := by rw [Heap.size_push, s1]
  have s3 : (y3 s.heap a b c).objs.size = s.heap.objs.size + 3 := by rw [Heap.size_push, s2]
  have s4 : (y4 s.heap a b c).objs.size = s.heap.objs.size + 4 := by rw [Heap.size_push, s3]
  have s5 : (y5 s.heap a b c).objs.size = s.heap.objs.size + 5 := by rw [Heap.size_push, s4]
  have s6 : (y6 s.heap a b c).objs.size = s.heap.objs.size + 6 := by rw [Heap.size_push, s5]
  have p : ∀ {h : Heap} {o ob : Obj} {b : Addr}, h.get? b = some ob -> (h.push o).get? b = some ob := fun e => Heap.get?_push_of_some _ e
  have r6 : (y6 s.heap a b c).get? (y5 s.heap a b c).objs.size = some _ := Heap.get?_push_size _ rfl
  have r5 : (y6 s.heap a b c).get? (y4 s.heap a b c).objs.size = some _ := p (Heap.get?_push_size _ rfl)
  have r4 : (y6 s.heap a b c).get? (y3 s.heap a b c).objs.size = some _ := p (p (Heap.get?_push_size _ rfl))
  have r3 : (y6 s.heap a b c).get? (y2 s.heap a b).objs.size = some _ := p (p (p (Heap.get?_push_size _ rfl)))
  have r2 : (y6 s.heap a b c).get? (y1 s.heap a).objs.size = some _ := p (p (p (p (Heap.get?_push_size _ rfl))))
  have r1 : (y6 s.heap a b c).get? s.heap.objs.size = some _ := p (p (p (p (p (Heap.get?_push_size _ rfl)))))
  have up : ∀ b' o, s.heap.get? b' = some o -> (y6 s.heap a b c).get? b' = some o := fun b' o e => p (p (p (p (p (p e)))))
  have la : a < s.heap.objs.size := by obtain ⟨_, e, _⟩ := ha; exact Heap.lt_size e
  have lb : b < s.heap.objs.size := by obtain ⟨_, e, _⟩ := hb; exact Heap.lt_size e
  have lc : c < s.heap.objs.size := by obtain ⟨_, e, _⟩ := hc; exact Heap.lt_size e
  rw [s3, s4, s5] at r6
  rw [s4] at r5
  rw [s1, s2, s3] at r4
  rw [s2] at r3
  rw [s1] at r2
  show _ /\ _
  rw [s5]
  exact ⟨⟨_, r6, rfl⟩, go _ ⟨la, lb, lc, by rw [s6]; exact Nat.lt_succ_self _, r4, ⟨_, _, _, r5⟩, ⟨⟨_, r1, rfl, rfl⟩, ha.at fun o e => up _ _ e⟩, ⟨⟨_, r2, rfl, rfl⟩, hb.at fun o e => up _ _ e⟩, ⟨⟨_, r3, rfl, rfl⟩, hc.at fun o e => up _ _ e⟩⟩ r6 s6 up⟩
end
end Sp
set_option Elab.async false
set_option linter.all false
set_option maxRecDepth 100000
namespace Sp
open PySem PySem.Spec PyProof.Rows L2
section
variable {prog : Program} {w : World} {A : Around} {E : Value -> Shared -> Prop} {s : Shared}
abbrev lsO (acc : Array Value) (c : Nat) : Obj := { cls := .type "list", dict := none, data := .seq acc c, slots := #[] }
theorem lp_step {S I : Addr} {res : Value} {R : Result -> Shared -> Prop} (h : wpAny (model prog w) A.in1 (pyNext (.ref I)) (fun r s' => match r with
      | some v => ∃ acc c, s'.heap.get? S = some (lsO acc c) /\ acc.size + 1 <= sizeLine /\ ∀ h2 c2, h2.get? S = some (lsO (acc.push v) c2) -> Heap.SameBut S s'.heap h2 -> codeAny (model prog w) A (.builtin "list.extend.loop" ⟨[.ref S, .ref I, res], []⟩) R { s' with heap := h2 }
      | none => R (.ok (.ret res)) s') (fun e s' => R (.error e) s') s) : codeAny (model prog w) A (.builtin "list.extend.loop" ⟨[.ref S, .ref I, res], []⟩) R s := by
  refine codeAny_builtin F.entry_extend_loop ?_
  rw [Around.under_plainId F.plain_extend_loop _]
  show wpAny _ A.in1 (pyNext (.ref I) >>= _) _ _ s
  refine wpAny_bind (wpAny_mono h (fun r s' hr => ?_) fun _ _ z => z)
  cases r with
  | none => exact wpAny_pure hr
  | some v =>
    obtain ⟨acc, c, hS, hz, k⟩ := hr
    show wpAny _ A.in1 (updateSeq S (·.push v) >>= _) _ _ _
    refine wpAny_bind (wpAny_updateSeq hS rfl (wpAny_pure ⟨plainId_quiet F.plain_extend_loop _, k _ _ (Heap.get?_update_self _ hS rfl) (Heap.SameBut.update ..)⟩) ?_ ?_)
    . omega
    . show (acc.push v).size <= sizeLine + 1
      rw [Array.size_push]; omega
theorem Z3.stay {n a b c : Nat} {xs ys ws : Array Value} {k : Nat} {h h' : Heap} (Z : Z3 n a b c xs ys ws k h) (e : ∀ (d : Nat) o, d ≠ n + 6 -> h.get? d = some o -> h'.get? d = some o) (sz : h.objs.size <= h'.objs.size) : Z3 n a b c xs ys ws k h' := by
  obtain ⟨b1, b2, b3, s0, ti, ⟨p, q, r, to⟩, ⟨q1, t1⟩, ⟨q2, t2⟩, ⟨q3, t3⟩⟩ := Z
  exact ⟨b1, b2, b3, Nat.lt_of_lt_of_le s0 sz, e _ _ (by omega) ti, ⟨p, q, r, e _ _ (by omega) to⟩, ⟨q1.at fun o x => e _ o (by omega) x, t1.at fun o x => e _ o (by omega) x⟩, ⟨q2.at fun o x => e _ o (by omega) x, t2.at fun o x => e _ o (by omega) x⟩, ⟨q3.at fun o x => e _ o (by omega) x, t3.at fun o x => e _ o (by omega) x⟩⟩
theorem list_zip3 {n a b c : Nat} {x0 x1 x2 y0 y1 y2 u0 u1 u2 : Value} {Q : Value -> Shared -> Prop} (hh : A.handled = none) (Z : Z3 n a b c #[x0, x1, x2] #[y0, y1, y2] #[u0, u1, u2] 0 s.heap) (hz : z3z s.heap n .none (.bool false)) (sz : s.heap.objs.size = n + 6)
    (go : ∀ h1 m, h1.get? (n + 6) = some (lsO #[.ref (n + 7), .ref (n + 8), .ref (n + 9)] m) -> z3t h1 (n + 7) x0 y0 u0 -> z3t h1 (n + 8) x1 y1 u1 -> z3t h1 (n + 9) x2 y2 u2 -> (∀ (d : Nat) o, d < n -> s.heap.get? d = some o -> h1.get? d = some o) -> Q (.ref (n + 6)) { s with heap := h1 }) :
    wpAny (model prog w) A (call (.type "list") [.ref (n + 5)]) Q E s := by
  obtain ⟨h0, gg, dd, t0, oo⟩ := s
  have sz : h0.objs.size = n + 6 := sz
  refine callType_codes (Q₁ := fun ob s₁ => ob = .ref (n + 6) /\ s₁ = ⟨h0.push { cls := .type "list", data := .seq #[] }, gg, dd, t0, oo⟩) F.called_list (F.typeCall_list_1 _) F.entry_list_init (code_list_new _ ⟨by show Value.ref h0.objs.size = _; rw [sz], rfl⟩) fun ob s₁ hq => ?_
  obtain ⟨rfl, rfl⟩ := hq
  have hS : (h0.push { cls := .type "list", data := .seq #[] }).get? (n + 6) = some (lsO #[] 0) := by rw [<- sz]; exact Heap.get?_push_size _ rfl
  refine ⟨⟨_, hS, rfl⟩, F.args_list_init_2 _ _, ?_⟩
  show wpAny _ A.in1.in1 (Builtin.List.listItems (.ref (n + 6)) >>= fun old => Builtin.List.listUpdate (.ref (n + 6)) (fun _ => #[]) >>= fun _ => letGo old.toList.reverse >>= fun _ => Builtin.List.listExtendWith (.ref (n + 6)) (.ref (n + 5)) .none) _ _ _
  unfold Builtin.List.listItems
  refine wpAny_bind (wpAny_bind (wpAny_seqItems hS rfl (wpAny_pure ?_)))
  show wpAny _ A.in1.in1 (updateSeq (n + 6) (fun _ => #[]) >>= _) _ _ _
  refine wpAny_bind (wpAny_updateSeq hS rfl ?_)
  refine wpAny_bind (wpAny_letGo ?_)
  have S1 := Heap.get?_update_self (Obj.mapSeq (fun _ => (#[] : Array Value))) hS rfl
  generalize hr1 : (h0.push { cls := .type "list", data := .seq #[] }).update (n + 6) (Obj.mapSeq fun _ => (#[] : Array Value)) = r1 at S1
  have k1 : ∀ (d : Nat) o, d ≠ n + 6 -> h0.get? d = some o -> r1.get? d = some o := fun d o g e => by rw [<- hr1]; exact (Heap.get?_update_other _ _ (Ne.symm g)).trans (Heap.get?_push_of_some _ e)
  have z1 : z3z r1 n .none (.bool false) := k1 _ _ (by omega) hz
  have ty : Shared.TypeIs ⟨r1, gg, dd, t0, oo⟩ (.ref (n + 5)) "zip" := ⟨_, z1, rfl⟩
  unfold Builtin.List.listExtendWith
  refine wpAny_bind (wpAny_typeOf ty ?_)
  have g1 : Builtin.List.listSameRef (.ref (n + 6)) (.ref (n + 5)) = false := by simp [Builtin.List.listSameRef]
  have g2 : (Value.type "zip" == Value.type "list") = false := by decide
  have g3 : (Value.type "zip" == Value.type "tuple") = false := by decide
  simp only [g1, g2, g3, Bool.or_false, Bool.false_eq_true, if_false]
  refine wpAny_bind (wpAny_pyIter_zip z1 (wpAny_bind (wpAny_holding ?_)))
  unfold Builtin.List.listLengthHint
  refine wpAny_bind (wpAny_specialOf ty zp_no_len ?_)
  show wpAny _ _ (specialOf (Value.ref (n + 5)) (Str.ofString "__length_hint__") >>= _) _ _ _
  refine wpAny_bind (wpAny_specialOf ty zp_no_hint (wpAny_pure ?_))
  show wpAny _ _ (rule "list.extend.makes-room" >>= fun _ => Builtin.List.listTouch (.ref (n + 6)) >>= fun _ => again (.builtin "list.extend.loop" ⟨[.ref (n + 6), .ref (n + 5), .none], []⟩)) _ _ _
  refine wpAny_bind (wpAny_rule (wpAny_bind ?_))
  show wpAny _ _ (updateSeq (n + 6) (·.push .none) >>= fun _ => updateSeq (n + 6) (·.pop)) _ _ _
  refine wpAny_bind (wpAny_updateSeq S1 rfl ?_)
  have S2 := Heap.get?_update_self (Obj.mapSeq (·.push Value.none)) S1 rfl
  refine wpAny_updateSeq (hz := by seq_fits) S2 rfl ?_
  have S3 := Heap.get?_update_self (Obj.mapSeq (·.pop)) S2 rfl
  have sr1 : r1.objs.size = n + 7 := by rw [<- hr1]; show (Heap.update _ _ _).objs.size = _; rw [(Heap.SameBut.update ..).1, Heap.size_push, sz]
  generalize hr3 : (r1.update (n + 6) (Obj.mapSeq (·.push Value.none))).update (n + 6) (Obj.mapSeq (·.pop)) = r3 at S3
  have S3 : ∃ m, r3.get? (n + 6) = some (lsO #[] m) := ⟨_, S3⟩
  have k3 : ∀ (d : Nat) o, d ≠ n + 6 -> r1.get? d = some o -> r3.get? d = some o := fun d o g e => by rw [<- hr3]; exact (Heap.get?_update_other _ _ (Ne.symm g)).trans ((Heap.get?_update_other _ _ (Ne.symm g)).trans e)
  have sr3 : r3.objs.size = n + 7 := by rw [<- hr3, (Heap.SameBut.update ..).1, (Heap.SameBut.update ..).1]; exact sr1
  have kk : ∀ (d : Nat) o, d ≠ n + 6 -> h0.get? d = some o -> r3.get? d = some o := fun d o g e => k3 d o g (k1 d o g e)
  have Z0 : Z3 n a b c #[x0, x1, x2] #[y0, y1, y2] #[u0, u1, u2] 0 r3 := Z.stay kk (by rw [sr3]; show h0.objs.size <= _; omega)
  have z3 : z3z r3 n .none (.bool false) := kk _ _ (by omega) hz
  clear hr1 hr3 S1 S2
  refine wpAny_pure ⟨plainId_quiet F.plain_extend_loop _, ?_⟩
  obtain ⟨m3, S3⟩ := S3
  refine lp_step (Z3.pyFirst (s := ⟨r3, gg, dd, t0, oo⟩) Z0 z3 rfl rfl rfl fun r4 af => ?_)
  obtain ⟨Z4, T4, ⟨g4, z4⟩, w4, e4⟩ := af
  have T4 : z3t r4 r3.objs.size x0 y0 u0 := T4
  have e4 : ∀ (d : Nat) o, (d < n \/ n + 5 < d) -> r3.get? d = some o -> r4.get? d = some o := e4
  have z4 : z3z r4 n (rawInt r3.objs.size) g4 := z4
  have w4 : r4.objs.size = r3.objs.size + 1 := w4
  rw [sr3] at T4 z4 w4
  show ∃ acc m, r4.get? (n + 6) = some (lsO acc m) /\ _
  refine ⟨#[], m3, e4 _ _ (by omega) S3, by decide, fun r5 m5 S5 sb5 => ?_⟩
  have sb5 : Heap.SameBut (n + 6) r4 r5 := sb5
  have k5 : ∀ (d : Nat) o, d ≠ n + 6 -> r4.get? d = some o -> r5.get? d = some o := fun d o g e => sb5.extBut d o g e
  have w5 : r5.objs.size = n + 8 := by rw [sb5.1, w4]
  have S5 : r5.get? (n + 6) = some (lsO #[.ref (n + 7)] m5) := by rw [S5]; show some (lsO (#[].push (Value.ref r3.objs.size)) m5) = _; rw [sr3]; rfl
  have T5 : z3t r5 (n + 7) x0 y0 u0 := k5 _ _ (by omega) T4
  refine lp_step (Z3.pyNext (s := ⟨r5, gg, dd, t0, oo⟩) (Z4.stay k5 (by rw [sb5.1]; exact Nat.le_refl _)) (k5 _ _ (by omega) z4) T5 rfl rfl rfl fun r6 Z6 T6 z6 w6 e6 => ?_)
  obtain ⟨g6, z6⟩ := z6
  have T6 : z3t r6 r5.objs.size x1 y1 u1 := T6
  have w6 : r6.objs.size = r5.objs.size + 1 := w6
  have e6 : ∀ (d : Nat) o, (d < n \/ n + 5 < d) -> r5.get? d = some o -> r6.get? d = some o := e6
  rw [w5] at T6 w6
  show ∃ acc m, r6.get? (n + 6) = some (lsO acc m) /\ _
  refine ⟨#[.ref (n + 7)], m5, e6 _ _ (by omega) S5, by show (2 : Nat) <= sizeLine; decide, fun r7 m7 S7 sb7 => ?_⟩
  have sb7 : Heap.SameBut (n + 6) r6 r7 := sb7
  have k7 : ∀ (d : Nat) o, d ≠ n + 6 -> r6.get? d = some o -> r7.get? d = some o := fun d o g e => sb7.extBut d o g e
  have w7 : r7.objs.size = n + 9 := by rw [sb7.1, w6]
  have S7 : r7.get? (n + 6) = some (lsO #[.ref (n + 7), .ref (n + 8)] m7) := by rw [S7]; show some (lsO (#[Value.ref (n + 7)].push (Value.ref r5.objs.size)) m7) = _; rw [w5]; rfl
  have T7 : z3t r7 (n + 7) x0 y0 u0 := k7 _ _ (by omega) (e6 _ _ (by omega) T5)
  have T8 : z3t r7 (n + 8) x1 y1 u1 := k7 _ _ (by omega) T6
  refine lp_step (Z3.pyNext (s := ⟨r7, gg, dd, t0, oo⟩) (Z6.stay k7 (by rw [sb7.1]; exact Nat.le_refl _)) (k7 _ _ (by omega) z6) T7 rfl rfl rfl fun r8 Z8 T9 z8 w8 e8 => ?_)
  obtain ⟨g8, z8⟩ := z8
  have T9 : z3t r8 r7.objs.size x2 y2 u2 := T9
  have w8 : r8.objs.size = r7.objs.size + 1 := w8
  have e8 : ∀ (d : Nat) o, (d < n \/ n + 5 < d) -> r7.get? d = some o -> r8.get? d = some o := e8
  rw [w7] at T9 w8
  show ∃ acc m, r8.get? (n + 6) = some (lsO acc m) /\ _
  refine ⟨#[.ref (n + 7), .ref (n + 8)], m7, e8 _ _ (by omega) S7, by show (3 : Nat) <= sizeLine; decide, fun r9 m9 S9 sb9 => ?_⟩
  have sb9 : Heap.SameBut (n + 6) r8 r9 := sb9
  have k9 : ∀ (d : Nat) o, d ≠ n + 6 -> r8.get? d = some o -> r9.get? d = some o := fun d o g e => sb9.extBut d o g e
  have S9 : r9.get? (n + 6) = some (lsO #[.ref (n + 7), .ref (n + 8), .ref (n + 9)] m9) := by rw [S9]; show some (lsO (#[Value.ref (n + 7), Value.ref (n + 8)].push (Value.ref r7.objs.size)) m9) = _; rw [w7]; rfl
  refine lp_step (Z3.pyLast (s := ⟨r9, gg, dd, t0, oo⟩) hh (Z8.stay k9 (by rw [sb9.1]; exact Nat.le_refl _)) (k9 _ _ (by omega) z8) (k9 _ _ (by omega) (e8 _ _ (by omega) T7)) rfl fun r10 e10 => ?_)
  have e10 : ∀ (d : Nat) o, (d < n \/ n + 5 < d) -> r9.get? d = some o -> r10.get? d = some o := e10
  refine ⟨rfl, go r10 m9 (e10 _ _ (by omega) S9) (e10 _ _ (by omega) (k9 _ _ (by omega) (e8 _ _ (by omega) T7))) (e10 _ _ (by omega) (k9 _ _ (by omega) (e8 _ _ (by omega) T8))) (e10 _ _ (by omega) (k9 _ _ (by omega) T9)) fun d o hd e => ?_⟩
  exact e10 _ _ (by omega) (k9 _ _ (by omega) (e8 _ _ (by omega) (k7 _ _ (by omega) (e6 _ _ (by omega) (k5 _ _ (by omega) (e4 _ _ (by omega) (kk _ _ (by omega) e)))))))
end
end Sp
set_option Elab.async false
set_option linter.all false
set_option maxRecDepth 100000
namespace Sp
open PySem PySem.Spec PyProof.Rows L2
variable {X : Cx}
theorem hok_more {P : Program} {w : World} {H : Hp} {h : Heap} {b : Addr} {o : HO} (x : HOk P w H h) (hb : H b = none) (new : ObjOk P w (upd H b o) h b o) : HOk P w (upd H b o) h := fun c u e => by
  by_cases hc : c = b
  . subst hc; rw [upd_same] at e; cases e; exact new
  . rw [upd_ne hc] at e
    exact (x c u e).stay (fun d v _ r => r) (fun d r => by rw [upd_ne (ne_of_none r hb)]; exact r) (fun d xs r => by rw [upd_ne (ne_of_none r hb)]; exact r)
theorem un_more {fs ex : List Addr} {H H' : Hp} {h h' : Heap} (k : ∀ b u, h.get? b = some u -> h'.get? b = some u) (hH : ∀ c, c < h.objs.size -> H' c = H c) (hin : ∀ c o, H c = some o -> c < h.objs.size) : Un fs ex H H' h h' where
  keep := fun b u q _ _ _ => k b u q
  slot := fun b u q _ _ _ => ⟨u.slots, k b u q⟩
  free := fun b u q n _ => (hH b (Heap.lt_size q)).trans n
  there := fun b u q _ => ⟨u, k b u q⟩
  tups := fun b xs r => (hH b (hin b _ r)).trans r
  frzs := fun b o u r => (hH b (hin b _ r)).trans r
  tbls := fun b ps r => ⟨#[], by rw [Array.append_empty]; exact (hH b (hin b _ r)).trans r⟩
theorem vals3 {a b c : V} {us : List Value} (h : Vals [a, b, c] us) : ∃ x y z, us = [x, y, z] /\ RelV a x /\ RelV b y /\ RelV c z := by
  cases h with
  | cons h1 h => cases h with
    | cons h2 h => cases h with
      | cons h3 h => cases h; exact ⟨_, _, _, rfl, h1, h2, h3⟩
theorem repl3 {K : PySem.W.Frag} {H : Hp} {P : AP2} {a b c : D} {vs : List V} (h : RepL K H P [a, b, c] vs) : ∃ x y z, vs = [x, y, z] /\ Rep K H P a x /\ Rep K H P b y /\ Rep K H P c z := by
  rw [RepL] at h
  obtain ⟨x, r, rfl, h1, h⟩ := h
  rw [RepL] at h
  obtain ⟨y, r, rfl, h2, h⟩ := h
  rw [RepL] at h
  obtain ⟨z, r, rfl, h3, h⟩ := h
  rw [RepL] at h
  subst h
  exact ⟨x, y, z, rfl, h1, h2, h3⟩
theorem ed_lz {ρ : Rho} {e1 e2 e3 : Expr} {f g : Str} {p q r t : Pos} {x0 x1 x2 y0 y1 y2 u0 u1 u2 : D} {k : Nat} (hc : X.calm = true) (hf : f = "list") (hg : g = "zip") (gf : Gl X f) (gg : Gl X g) (mf : X.mg f = none) (mg : X.mg g = none)
    (h : AD X ρ [e1, e2, e3] [.tup [x0, x1, x2], .tup [y0, y1, y2], .tup [u0, u1, u2]] k) (hst : ∀ e ∈ [e1, e2, e3], ∀ x p, e ≠ .Starred x p) (fl : llessL [x0, x1, x2, y0, y1, y2, u0, u1, u2] = true) :
    ED X ρ (.Call (.Name f p) [.Call (.Name g q) [e1, e2, e3] [] r] [] t) (.lst [.tup [x0, y0, u0], .tup [x1, y1, u1], .tup [x2, y2, u2]]) 0 := by
  intro ow pins s σ H Q I ⟨E, qq⟩
  subst hf hg
  refine wpAny_Call_Name_kw (ld_blt I gf mf (u := .type "list") (by decide +kernel) ?_ (by decide +kernel) (by decide +kernel))
  refine PyProof.Rows.callWith_type1 (Calls.spliced_cons (wpAny_Call_Name_kw (ld_blt I gg mg (u := .type "zip") (by decide +kernel) ?_ (by decide +kernel) (by decide +kernel)))) rfl rfl
  have n1 := nostar_one (env := X.env) (es := [e2, e3]) (hst e1 List.mem_cons_self)
  have n2 : (backTo r (starEach [e2, e3] X.env)).any (·.1) = false := nostar_any fun x hx => hst x (List.mem_cons_of_mem _ hx)
  refine PyProof.Rows.callWith_type1 (thn (h ow r pins s σ H _ I ⟨E, fun vs H1 s1 r1 => (show (fun vs H1 => Same H H1 /\ RepL X.K H1 (Kp ow H k) [.tup [x0, x1, x2], .tup [y0, y1, y2], .tup [u0, u1, u2]] vs) vs H1 from ⟨s1, r1⟩)⟩) fun us s1 ⟨vs, H1, I1, rv, sm, rp⟩ => ?_) n1 n2
  obtain ⟨v1, v2, v3, rfl, r1, r2, r3⟩ := repl3 rp
  obtain ⟨w1, w2, w3, rfl, q1, q2, q3⟩ := vals3 rv
  rw [Rep] at r1
  rw [Rep] at r2
  rw [Rep] at r3
  obtain ⟨a, va, rfl, sa, ra⟩ := r1
  obtain ⟨b, vb, rfl, sb, rb⟩ := r2
  obtain ⟨c, vc, rfl, sc, rc⟩ := r3
  cases (show w1 = Value.ref a from q1)
  cases (show w2 = Value.ref b from q2)
  cases (show w3 = Value.ref c from q3)
  obtain ⟨a0, a1, a2, rfl, ra0, ra1, ra2⟩ := repl3 ra
  obtain ⟨b0, b1, b2, rfl, rb0, rb1, rb2⟩ := repl3 rb
  obtain ⟨c0, c1, c2, rfl, rc0, rc1, rc2⟩ := repl3 rc
  obtain ⟨ia, va, ta, _⟩ := I1.tuple sa
  obtain ⟨ib, vb, tb, _⟩ := I1.tuple sb
  obtain ⟨ic, vc, tc, _⟩ := I1.tuple sc
  obtain ⟨i0, i1, i2, rfl, ja0, ja1, ja2⟩ := vals3 va
  obtain ⟨k0, k1, k2, rfl, jb0, jb1, jb2⟩ := vals3 vb
  obtain ⟨m0, m1, m2, rfl, jc0, jc1, jc2⟩ := vals3 vc
  have isT : ∀ {h : Heap} {a : Addr} {xs : Array Value}, IsTup h a xs -> h.IsTuple a xs := fun ⟨o, e, c, n, d⟩ => ⟨o, e, c, n, d⟩
  have hh : X.A.handled = none := I.ok.hd hc
  refine zp3_call (isT ta) (isT tb) (isT tc) fun h2 Z z sz kp => ?_
  refine Calls.spliced_nil ?_
  refine list_zip3 (s := { s1 with heap := h2 }) hh Z z sz fun h3 m S3 T0 T1 T2 kp2 => ?_
  have kk : ∀ b o, s1.heap.get? b = some o -> h3.get? b = some o := fun b o e => kp2 b o (Heap.lt_size e) (kp b o e)
  have fr : ∀ j : Nat, H1 (s1.heap.objs.size + j) = none := fun j => I1.hok.fresh (Nat.le_add_right _ _)
  obtain ⟨hp, gs, dr, tk, os⟩ := s1
  have kk : ∀ b o, hp.get? b = some o -> h3.get? b = some o := kk
  generalize hn : hp.objs.size = n at *
  have ob : ∀ {H : Hp} {a : Addr} {v1 v2 v3 : V} {w1 w2 w3 : Value}, RelV v1 w1 -> RelV v2 w2 -> RelV v3 w3 -> z3t h3 a w1 w2 w3 -> ObjOk X.prog X.w H h3 a (.tup [v1, v2, v3]) := fun r1 r2 r3 e => ⟨by show (3 : Nat) <= sizeLine; decide, [_, _, _], .cons r1 (.cons r2 (.cons r3 .nil)), _, e, rfl, _, rfl⟩
  have ne : ∀ {i j : Nat}, i ≠ j -> n + i ≠ n + j := fun h => by omega
  have hk0 : HOk X.prog X.w H1 h3 := I1.hok.kept kk
  have hk1 := hok_more hk0 (fr 7) (ob (H := upd H1 (n + 7) (.tup [a0, b0, c0])) ja0 jb0 jc0 T0)
  have hk2 := hok_more hk1 (b := n + 8) (by rw [upd_ne (ne (by decide))]; exact fr 8) (ob (H := upd (upd H1 (n + 7) (.tup [a0, b0, c0])) (n + 8) (.tup [a1, b1, c1])) ja1 jb1 jc1 T1)
  have hk3 := hok_more hk2 (b := n + 9) (by rw [upd_ne (ne (by decide)), upd_ne (ne (by decide))]; exact fr 9) (ob (H := upd (upd (upd H1 (n + 7) (.tup [a0, b0, c0])) (n + 8) (.tup [a1, b1, c1])) (n + 9) (.tup [a2, b2, c2])) ja2 jb2 jc2 T2)
  have hk4 := hok_more hk3 (b := n + 6) (o := .lst [.ref (n + 7), .ref (n + 8), .ref (n + 9)]) (by rw [upd_ne (ne (by decide)), upd_ne (ne (by decide)), upd_ne (ne (by decide))]; exact fr 6) ⟨by show (3 : Nat) <= sizeLine; decide, [_, _, _], m, .cons rfl (.cons rfl (.cons rfl .nil)), S3⟩
  generalize hH : upd (upd (upd (upd H1 (n + 7) (.tup [a0, b0, c0])) (n + 8) (.tup [a1, b1, c1])) (n + 9) (.tup [a2, b2, c2])) (n + 6) (.lst [.ref (n + 7), .ref (n + 8), .ref (n + 9)]) = H4 at hk4
  have g6 : H4 (n + 6) = some (.lst [.ref (n + 7), .ref (n + 8), .ref (n + 9)]) := by rw [<- hH]; exact upd_same
  have g9 : H4 (n + 9) = some (.tup [a2, b2, c2]) := by rw [<- hH, upd_ne (ne (by decide))]; exact upd_same
  have g8 : H4 (n + 8) = some (.tup [a1, b1, c1]) := by rw [<- hH, upd_ne (ne (by decide)), upd_ne (ne (by decide))]; exact upd_same
  have g7 : H4 (n + 7) = some (.tup [a0, b0, c0]) := by rw [<- hH, upd_ne (ne (by decide)), upd_ne (ne (by decide)), upd_ne (ne (by decide))]; exact upd_same
  have old : ∀ c : Nat, c < n -> H4 c = H1 c := fun c hc => by rw [<- hH, upd_ne (by show (c : Nat) ≠ n + 6; omega), upd_ne (by show (c : Nat) ≠ n + 9; omega), upd_ne (by show (c : Nat) ≠ n + 8; omega), upd_ne (by show (c : Nat) ≠ n + 7; omega)]
  have inn : ∀ (c : Nat) o, H1 c = some o -> c < n := fun c o e => by
    rcases Nat.lt_or_ge c n with z | z
    . exact z
    . have := fr (c - n); rw [Nat.add_sub_cancel' z] at this; rw [this] at e; cases e
  have s4 : Same H1 H4 := fun c o e => (old c (inn c o e)).trans e
  have I4 : Inv X pins σ H4 ⟨h3, gs, dr, tk, os⟩ := I1.un (t' := tk) (un_more kk (fun c hc => old c (by rw [<- hn]; exact hc)) fun c o e => by rw [hn]; exact inn c o e) hk4
  refine ⟨.ref (n + 6), H4, I4, rfl, qq _ H4 (sm.trans s4) ?_⟩
  simp only [llessL, Bool.and_eq_true, Bool.true_and, and_true] at fl
  obtain ⟨fx0, fx1, fx2, fy0, fy1, fy2, fu0, fu1, fu2⟩ := fl
  have rt : ∀ {a : Addr} {v1 v2 v3 : V} {d1 d2 d3 : D} {P P' : AP2}, H4 a = some (.tup [v1, v2, v3]) -> Rep X.K H1 P d1 v1 -> Rep X.K H1 P d2 v2 -> Rep X.K H1 P d3 v3 -> d1.lless = true -> d2.lless = true -> d3.lless = true -> Rep X.K H4 P' (.tup [d1, d2, d3]) (.ref a) := fun e r1 r2 r3 f1 f2 f3 => by
    rw [Rep]
    exact ⟨_, _, rfl, SqT.of e, RepL.cons ((r1.same s4).flat _ f1) (RepL.cons ((r2.same s4).flat _ f2) (RepL.cons ((r3.same s4).flat _ f3) RepL.nil))⟩
  rw [Rep]
  exact ⟨n + 6, _, true, rfl, g6, ⟨rfl, sm.free (fr 6)⟩, RepL.cons (rt g7 ra0 rb0 rc0 fx0 fy0 fu0) (RepL.cons (rt g8 ra1 rb1 rc1 fx1 fy1 fu1) (RepL.cons (rt g9 ra2 rb2 rc2 fx2 fy2 fu2) RepL.nil))⟩
theorem ssd_app {Φ : Fx} {sc : Scope} {H0 : Hp} {fl : Fl} {rest : List Stmt} (G : Good Φ X sc) (hp : PassesOwn (model X.prog X.w) X.A X.env X.xe) : ∀ {pre : List Stmt} {ρ ρ1 : Rho}, Okr (exSs Φ pre sc ρ) (.nx ρ1) -> SsD X H0 ρ1 rest fl -> SsD X H0 ρ (pre ++ rest) fl
  | [], ρ, ρ1, h, k => by cases okr_ok h; exact k
  | st :: ss, ρ, ρ1, h, k => by
    obtain ⟨f1, h1, h2⟩ := okr_bnd (show Okr (Rs.bnd _ _) _ from h)
    cases f1 with
    | nx ρ' => exact ssd_cons ((is_all Φ _).s st (Nat.lt_succ_self _) h1 G hp) (ssd_app G hp h2 k)
    | rt d => cases okr_ok h2
    | bk ρ' => cases okr_ok h2
    | ct ρ' => cases okr_ok h2
def zl3 (ds : List D) : Rs D :=
  match ds with
  | [.tup [x0, x1, x2], .tup [y0, y1, y2], .tup [u0, u1, u2]] => .ok (.lst [.tup [x0, y0, u0], .tup [x1, y1, u1], .tup [x2, y2, u2]]) [llessL [x0, x1, x2, y0, y1, y2, u0, u1, u2] = true]
  | _ => .st
def lzArgs : Stmt -> List Expr
  | .Assign _ (.Call _ [.Call _ es _ _] _ _) _ => es
  | _ => []
def lzName : Stmt -> Str
  | .Assign [.Name x _] _ _ => x
  | _ => ""
def runLZ (Φ : Fx) (sc : Scope) (ps : List Str) (pre : List Stmt) (es : List Expr) (x : Str) (post : List Stmt) (ds : List D) : Rs D :=
  if ds.length = ps.length then (exSs Φ pre sc (argR ps ds)).bnd fun
    | .nx ρ1 => (evEs Φ es sc ρ1).bnd fun q => (zl3 q.1).bnd fun d => (exSs Φ post sc (putR ρ1 x (d, true))).bnd fun
      | .rt r => .ok r []
      | _ => .st
    | _ => .st
  else .st
theorem fnOk_lz {P : Program} {w : World} {K : PySem.W.Frag} {mg : Str -> Option Value} {base : Heap} {k : Nat} {g qual : Str} {st : Stmt} {f : Addr} {fd : FuncData} {ps : List Str} {Φ : Fx} {pre post : List Stmt} {x n1 n2 : Str} {e1 e2 e3 : Expr} {p pf pg rr t q : Pos} (Fn : Fun K g qual st f fd)
    (S : FnScope (localsOf (defScope st)) ps (defScope st)) (hΦ : Fxo P w K mg base k Φ) (hb : defBody st = pre ++ .Assign [.Name x p] (.Call (.Name n1 pf) [.Call (.Name n2 pg) [e1, e2, e3] [] rr] [] t) q :: post) (hn1 : n1 = "list") (hn2 : n2 = "zip")
    (gf : (defScope st).names.lookup n1 = some .globalImplicit) (gg : (defScope st).names.lookup n2 = some .globalImplicit) (hx : locK (defScope st) x = true) : FnOk P w K mg base CX0 (k + 1) f fd ps (spD K (runLZ Φ (defScope st) ps pre [e1, e2, e3] x post)) := by
  refine Fn.ok S (fun vs H Q E h => ?_) (fun cdv A outer s H vs Q E hr h => ?_)
  . obtain ⟨ds, r, l, h1, h2, hp, _⟩ := h
    unfold runLZ at h2
    split at h2
    . rename_i hl; rw [<- h1.length]; exact hl
    . cases h2
  . obtain ⟨ds, r, l, h1, h2, hp, qq⟩ := h
    have h2 : Okr (runLZ Φ (defScope st) ps pre [e1, e2, e3] x post ds) r := ⟨l, h2, hp⟩
    unfold runLZ at h2
    split at h2
    . rename_i hl
      have G := good_mk (outer := outer) (H := H) (E := E) S hΦ hr
      obtain ⟨E0, hsl⟩ := env_mk (P := P) (w := w) (mg := mg) (base := base) (qual := qual) (f := f) (cdv := cdv) (A := A) (outer := outer) (s := s) (E := E) S h1 hl
      have B0 : BaseOk H (fun _ => none) H := fun a o h => ⟨h, rfl⟩
      obtain ⟨fl, h3, h4⟩ := okr_bnd h2
      cases fl with
      | nx ρ1 =>
        obtain ⟨qv, h5, h6⟩ := okr_bnd h4
        obtain ⟨d, h7, h8⟩ := okr_bnd h6
        obtain ⟨fl, h9, h10⟩ := okr_bnd h8
        cases fl with
        | rt d' =>
          cases okr_ok h10
          obtain ⟨qs, qk⟩ := qv
          obtain ⟨lz, h7, p7⟩ := h7
          unfold zl3 at h7
          split at h7
          . rename_i x0 x1 x2 y0 y1 y2 u0 u1 u2 heq
            cases h7
            have heq : qs = _ := heq
            subst heq
            obtain ⟨l5, h5, p5⟩ := h5
            obtain ⟨hst, _⟩ := evEs_nostar h5 p5
            have ad := evs_ok [e1, e2, e3] h5 p5 G
            have ed := ed_lz (p := pf) (q := pg) (r := rr) (t := t) G.calm hn1 hn2 (G.gl n1 gf) (G.gl n2 gg) (by subst hn1; exact G.bl _ (by decide +kernel)) (by subst hn2; exact G.bl _ (by decide +kernel)) ad hst p7.1
            have sd := sd_set (p := p) (pos := q) (H0 := H) G hx ed (.inl ⟨rfl, rfl⟩) (swaps_plain rfl)
            rw [hb]
            exact ⟨_, ssd_app G PassesOwn.never h3 (ssd_cons sd (exs_ok post (H0 := H) h9 G PassesOwn.never)), fun _ => none, E0, hsl, B0, fun v H' sm rp => qq v H' sm rp⟩
          . cases h7
        | nx _ => exact (okr_st h10).elim
        | bk _ => exact (okr_st h10).elim
        | ct _ => exact (okr_st h10).elim
      | rt _ => exact (okr_st h4).elim
      | bk _ => exact (okr_st h4).elim
      | ct _ => exact (okr_st h4).elim
    . exact (okr_st h2).elim
theorem fnD_lz {P : Program} {w : World} {K : PySem.W.Frag} {mg : Str -> Option Value} {base : Heap} {k : Nat} {g : Str} {f : Addr} {fd : FuncData} {ps : List Str} {F : List D -> Rs D} (h : FnOk P w K mg base CX0 k f fd ps (spD K F)) (hm : mg g = some (.ref f)) (hk : PySem.W.keepIn K (.ref f) = true) (hb : Binds K fd ps []) (hd : (g == ("__debug__" : Str)) = false) : FnD P w K mg base k g F :=
  ⟨f, fd, ps, h, hm, hk, hb, hd⟩
theorem okr_lz {Φ : Fx} {sc : Scope} {ps : List Str} {pre post : List Stmt} {es : List Expr} {x : Str} {ds qs : List D} {k : Nat} {ρ1 : Rho} {d r : D} (hl : ds.length = ps.length) (h1 : Okr (exSs Φ pre sc (argR ps ds)) (.nx ρ1)) (h2 : Okr (evEs Φ es sc ρ1) (qs, k)) (h3 : Okr (zl3 qs) d) (h4 : Okr (exSs Φ post sc (putR ρ1 x (d, true))) (.rt r)) : Okr (runLZ Φ sc ps pre es x post ds) r := by
  unfold runLZ
  rw [if_pos hl]
  exact Okr.bnd h1 (Okr.bnd h2 (Okr.bnd h3 (Okr.bnd h4 ⟨[], rfl, True.intro⟩)))
end Sp
set_option Elab.async false
set_option linter.all false
set_option maxRecDepth 100000
namespace K
open PySem PySem.Spec PyProof.Rows L2 Sp Qm
structure T9 where
  n : Int
  a : Int
  b : Int
  c : Int
  d : Int
  e : Int
  f : Int
  g : Int
  h : Int
  i : Int
def T9.l (T : T9) : List Int := [T.n, T.a, T.b, T.c, T.d, T.e, T.f, T.g, T.h, T.i]
def T9.D (T : T9) : D := .tup [.int T.n, .tup [d3 T.a T.b T.c, d3 T.d T.e T.f, d3 T.g T.h T.i]]
def T9.map (f : Int -> Int) (T : T9) : T9 := ⟨f T.n, f T.a, f T.b, f T.c, f T.d, f T.e, f T.f, f T.g, f T.h, f T.i⟩
theorem T9.l_map (f : Int -> Int) (T : T9) : (T.map f).l = T.l.map f := rfl
def T9.low (T : T9) : T9 := T.map fun x => x.fdiv (gI T.l)
def T9.bh (A B : T9) : T9 := ⟨A.n * B.n, dot A.a A.d A.g B.a B.b B.c, dot A.b A.e A.h B.a B.b B.c, dot A.c A.f A.i B.a B.b B.c, dot A.a A.d A.g B.d B.e B.f, dot A.b A.e A.h B.d B.e B.f, dot A.c A.f A.i B.d B.e B.f, dot A.a A.d A.g B.g B.h B.i, dot A.b A.e A.h B.g B.h B.i, dot A.c A.f A.i B.g B.h B.i⟩
theorem T9.ext {A B : T9} (h : A.l = B.l) : A = B := by
  cases A; cases B
  simp only [T9.l, List.cons.injEq, and_true] at h
  obtain ⟨h0, h1, h2, h3, h4, h5, h6, h7, h8, h9⟩ := h
  subst h0 h1 h2 h3 h4 h5 h6 h7 h8 h9
  rfl
theorem T9.bh_l (c : Int) (A B : T9) : (A.map (c * ·)).bh B = (A.bh B).map (c * ·) := by
  unfold T9.bh T9.map dot
  congr 1 <;> grind
theorem T9.bh_r (c : Int) (A B : T9) : A.bh (B.map (c * ·)) = (A.bh B).map (c * ·) := by
  unfold T9.bh T9.map dot
  congr 1 <;> grind
theorem T9.mem_n (T : T9) : T.n ∈ T.l := by simp [T9.l]
theorem T9.gpos {T : T9} (h : 0 < T.n) : 0 < gI T.l := gI_pos T.mem_n (by omega)
theorem T9.cut {T : T9} (h : 0 < T.n) : T = T.low.map (gI T.l * ·) := by
  have k := fun m hm => gI_cut (m := m) T.mem_n (show T.n ≠ 0 by omega) hm
  apply T9.ext
  show T.l = (T.low.map (gI T.l * ·)).l
  rw [T9.l_map, T9.low, T9.l_map, List.map_map]
  conv => lhs; rw [<- List.map_id T.l]
  exact List.map_congr_left fun m hm => k m hm
theorem T9.lown {T : T9} (h : 0 < T.n) : 0 < T.low.n := fdiv_pos (T9.gpos h) h (gI_cut T.mem_n (by omega) T.mem_n)
theorem T9.low_mul {c : Int} (hc : 0 < c) {T : T9} (h : 0 < T.n) : (T.map (c * ·)).low = T.low := by
  have g := T9.gpos h
  unfold T9.low
  rw [T9.l_map, gI_mul hc]
  unfold T9.map
  simp only [fd_mul_mul hc g]
theorem T9.bhn {A B : T9} (ha : 0 < A.n) (hb : 0 < B.n) : 0 < (A.bh B).n := Int.mul_pos ha hb
theorem T9.low_l {A B : T9} (ha : 0 < A.n) (hb : 0 < B.n) : (A.low.bh B).low = (A.bh B).low := by
  have e : A.bh B = (A.low.bh B).map (gI A.l * ·) := by rw [<- T9.bh_l, <- T9.cut ha]
  rw [e, T9.low_mul (T9.gpos ha) (T9.bhn (T9.lown ha) hb)]
theorem T9.low_r {A B : T9} (ha : 0 < A.n) (hb : 0 < B.n) : (A.bh B.low).low = (A.bh B).low := by
  have e : A.bh B = (A.bh B.low).map (gI B.l * ·) := by rw [<- T9.bh_r, <- T9.cut hb]
  rw [e, T9.low_mul (T9.gpos hb) (T9.bhn ha (T9.lown hb))]
def T9.bd (k : Nat) (T : T9) : Prop := ∀ x ∈ T.l, x.natAbs <= 2 ^ k
theorem T9.bd_low {T : T9} {k : Nat} (h : 0 < T.n) (b : T.bd k) : T.low.bd k := by
  intro x hx
  rw [T9.low, T9.l_map] at hx
  obtain ⟨y, hy, rfl⟩ := List.mem_map.mp hx
  exact Nat.le_trans (fdiv_nb (T9.gpos h)) (b y hy)
theorem T9.bd_bh {A B : T9} {k m : Nat} (ha : A.bd k) (hb : B.bd m) : (A.bh B).bd (k + m + 2) := by
  have a := fun x (h : x ∈ A.l) => ha x h
  have b := fun x (h : x ∈ B.l) => hb x h
  intro x hx
  simp only [T9.l, T9.bh, List.mem_cons, List.not_mem_nil, or_false] at hx
  rcases hx with rfl | rfl | rfl | rfl | rfl | rfl | rfl | rfl | rfl | rfl
  . rw [Int.natAbs_mul]
    exact Nat.le_trans (Nat.mul_le_mul (a _ A.mem_n) (b _ B.mem_n)) (by rw [<- Nat.pow_add]; exact Nat.pow_le_pow_right (by decide) (by omega))
  all_goals exact dot_bg (a _ (by simp [T9.l])) (a _ (by simp [T9.l])) (a _ (by simp [T9.l])) (b _ (by simp [T9.l])) (b _ (by simp [T9.l])) (b _ (by simp [T9.l]))
theorem T9.okT {T : T9} {k : Nat} (hk : k <= 999) (b : T.bd k) : okT (T.l.map D.int) := okT_of (k := k) hk (Nat.le_of_ble_eq_true rfl) b
theorem T9.eqD (T : T9) : Sp.eqD T.D T.D = true := by
  unfold T9.D
  show ((_ == _ && (((_ == _ && (_ == _ && (_ == _ && true))) && ((_ == _ && (_ == _ && (_ == _ && true))) && ((_ == _ && (_ == _ && (_ == _ && true))) && true))) && true)) : Bool) = true
  simp
theorem canc {c x y : Int} (hc : 0 < c) (h : c * x = c * y) : x = y := Int.eq_of_mul_eq_mul_left (by omega) h
end K
set_option Elab.async false
set_option linter.all false
set_option maxRecDepth 100000
namespace K
open PySem L2 Sp Qm
def tq (q : Qd) : T9 := ⟨n4 q.1 q.2.1 q.2.2.1 q.2.2.2, t40 q.1 q.2.1 q.2.2.1 q.2.2.2, t41 q.1 q.2.1 q.2.2.1 q.2.2.2, t42 q.1 q.2.1 q.2.2.1 q.2.2.2, t43 q.1 q.2.1 q.2.2.1 q.2.2.2, t44 q.1 q.2.1 q.2.2.1 q.2.2.2, t45 q.1 q.2.1 q.2.2.1 q.2.2.2, t46 q.1 q.2.1 q.2.2.1 q.2.2.2, t47 q.1 q.2.1 q.2.2.1 q.2.2.2, t48 q.1 q.2.1 q.2.2.1 q.2.2.2⟩
theorem tq_mul (p q : Qd) : tq (plnQ p q) = (tq q).bh (tq p) := by
  obtain ⟨a, b, c, d⟩ := p
  obtain ⟨e, f, g, h⟩ := q
  unfold tq T9.bh
  simp only [plnQ, n4, t40, t41, t42, t43, t44, t45, t46, t47, t48, dot]
  congr 1 <;> grind
theorem tq_many (k : Int) (q : Qd) : tq (k * q.1, k * q.2.1, k * q.2.2.1, k * q.2.2.2) = (tq q).map (k * k * ·) := by
  obtain ⟨a, b, c, d⟩ := q
  unfold tq T9.map
  simp only [n4, t40, t41, t42, t43, t44, t45, t46, t47, t48]
  congr 1 <;> grind
def kq (k : Int) (q : Qd) : Qd := (k * q.1, k * q.2.1, k * q.2.2.1, k * q.2.2.2)
def nzq (q : Qd) : Prop := ¬ (q.1 = 0 /\ q.2.1 = 0 /\ q.2.2.1 = 0 /\ q.2.2.2 = 0)
theorem tq_pos {q : Qd} (h : nzq q) : 0 < (tq q).n := n4_pos h
theorem pln_ne {p q : Qd} (hp : nzq p) (hq : nzq q) : nzq (plnQ p q) := fun z => by
  have e := congrArg T9.n (tq_mul p q)
  have k : (tq (plnQ p q)).n = 0 := by
    obtain ⟨z1, z2, z3, z4⟩ := z
    show n4 (plnQ p q).1 (plnQ p q).2.1 (plnQ p q).2.2.1 (plnQ p q).2.2.2 = 0
    rw [z1, z2, z3, z4]; rfl
  rw [k] at e
  have : 0 < (tq q).n * (tq p).n := Int.mul_pos (tq_pos hq) (tq_pos hp)
  exact absurd (show (tq q).n * (tq p).n = 0 from e.symm) (by omega)
theorem tab_prod {p q r : Qd} {m : Int} (hm : m ≠ 0) (e : plnQ p q = kq m r) (hp : nzq p) (hq : nzq q) (hr : nzq r) : ((tq q).low.bh (tq p).low).low = (tq r).low := by
  rw [T9.low_l (tq_pos hq) (T9.lown (tq_pos hp)), T9.low_r (tq_pos hq) (tq_pos hp), <- tq_mul, e]
  show (tq (m * r.1, m * r.2.1, m * r.2.2.1, m * r.2.2.2)).low = _
  rw [tq_many, T9.low_mul (sq_pos hm) (tq_pos hr)]
theorem kq_pln (k l : Int) (p q : Qd) : plnQ (kq k p) (kq l q) = kq (k * l) (plnQ p q) := by
  obtain ⟨a, b, c, d⟩ := p
  obtain ⟨e, f, g, h⟩ := q
  unfold kq plnQ
  refine qd_ext ?_ ?_ ?_ ?_ <;> simp only <;> grind
theorem kq_kq (k l : Int) (q : Qd) : kq k (kq l q) = kq (k * l) q := by
  unfold kq
  refine qd_ext ?_ ?_ ?_ ?_ <;> simp only [Int.mul_assoc]
theorem pln_bar (a b c d : Int) : plnQ (a, -b, -c, -d) (a, b, c, d) = kq (n4 a b c d) (1, 0, 0, 0) /\ plnQ (a, b, c, d) (a, -b, -c, -d) = kq (n4 a b c d) (1, 0, 0, 0) := by
  unfold kq plnQ n4
  constructor <;> refine qd_ext ?_ ?_ ?_ ?_ <;> simp only <;> grind
theorem pln_assoc (p q r : Qd) : plnQ (plnQ p q) r = plnQ p (plnQ q r) := by
  obtain ⟨a, b, c, d⟩ := p
  obtain ⟨e, f, g, h⟩ := q
  obtain ⟨i, j, k, l⟩ := r
  unfold plnQ
  refine qd_ext ?_ ?_ ?_ ?_ <;> simp only <;> grind
theorem pln_one (q : Qd) : plnQ q (1, 0, 0, 0) = q /\ plnQ (1, 0, 0, 0) q = q := by
  obtain ⟨a, b, c, d⟩ := q
  unfold plnQ
  constructor <;> refine qd_ext ?_ ?_ ?_ ?_ <;> simp only <;> grind
theorem prim_prod {p q : Qd} (hp : nzq p) (hq : nzq q) : ∃ (m : Int) (r : Qd), m ≠ 0 /\ plnQ p q = kq m r /\ Pm r.1 r.2.1 r.2.2.1 r.2.2.2 := by
  obtain ⟨k, a, b, c, d, hk, e1, e2, e3, e4, pm, _⟩ := prim_of (pln_ne hp hq)
  exact ⟨k, (a, b, c, d), hk, qd_ext e1 e2 e3 e4, pm⟩
def T9.dx (T : T9) (x y z : Int) : Int := dot T.a T.b T.c x y z
def T9.dy (T : T9) (x y z : Int) : Int := dot T.d T.e T.f x y z
def T9.dz (T : T9) (x y z : Int) : Int := dot T.g T.h T.i x y z
theorem bh_d (A B : T9) (x y z : Int) : (A.bh B).dx x y z = B.dx (A.dx x y z) (A.dy x y z) (A.dz x y z) /\ (A.bh B).dy x y z = B.dy (A.dx x y z) (A.dy x y z) (A.dz x y z) /\ (A.bh B).dz x y z = B.dz (A.dx x y z) (A.dy x y z) (A.dz x y z) := by
  unfold T9.dx T9.dy T9.dz T9.bh
  simp only [dot]
  refine ⟨?_, ?_, ?_⟩ <;> grind
theorem map_d (c : Int) (T : T9) (x y z : Int) : (T.map (c * ·)).dx x y z = c * T.dx x y z /\ (T.map (c * ·)).dy x y z = c * T.dy x y z /\ (T.map (c * ·)).dz x y z = c * T.dz x y z := by
  unfold T9.dx T9.dy T9.dz T9.map
  simp only [dot]
  refine ⟨?_, ?_, ?_⟩ <;> grind
theorem d_mul (c : Int) (T : T9) (x y z : Int) : T.dx (c * x) (c * y) (c * z) = c * T.dx x y z /\ T.dy (c * x) (c * y) (c * z) = c * T.dy x y z /\ T.dz (c * x) (c * y) (c * z) = c * T.dz x y z := by
  unfold T9.dx T9.dy T9.dz
  simp only [dot]
  refine ⟨?_, ?_, ?_⟩ <;> grind
structure Plc (T : T9) (x y z m X Y Z : Int) (g : Int) : Prop where
  pos : 0 < g
  mpos : 0 < m
  one : gI [m, X, Y, Z] = 1
  en : T.n = g * m
  ex : T.dx x y z = g * X
  ey : T.dy x y z = g * Y
  ez : T.dz x y z = g * Z
theorem plc_of {T : T9} (hn : 0 < T.n) (x y z : Int) : Plc T x y z (T.n.fdiv (gI [T.n, T.dx x y z, T.dy x y z, T.dz x y z])) ((T.dx x y z).fdiv (gI [T.n, T.dx x y z, T.dy x y z, T.dz x y z])) ((T.dy x y z).fdiv (gI [T.n, T.dx x y z, T.dy x y z, T.dz x y z])) ((T.dz x y z).fdiv (gI [T.n, T.dx x y z, T.dy x y z, T.dz x y z])) (gI [T.n, T.dx x y z, T.dy x y z, T.dz x y z]) := by
  have mn : T.n ∈ [T.n, T.dx x y z, T.dy x y z, T.dz x y z] := by simp
  have h0 : T.n ≠ 0 := by omega
  have hg := gI_pos mn h0
  have en := gI_cut mn h0 mn
  exact ⟨hg, fdiv_pos hg hn en, gI_one mn h0, en, gI_cut mn h0 (by simp), gI_cut mn h0 (by simp), gI_cut mn h0 (by simp)⟩
theorem kq_one (q : Qd) : kq 1 q = q := by unfold kq; simp
def bar (q : Qd) : Qd := (q.1, -q.2.1, -q.2.2.1, -q.2.2.2)
theorem bar_beh (k : Int) (q : Qd) : plnQ (kq k (bar q)) q = kq (k * (tq q).n) (1, 0, 0, 0) /\ plnQ q (kq k (bar q)) = kq (k * (tq q).n) (1, 0, 0, 0) := by
  obtain ⟨a, b, c, d⟩ := q
  obtain ⟨h1, h2⟩ := pln_bar a b c d
  have e1 := kq_pln k 1 (bar (a, b, c, d)) (a, b, c, d)
  have e2 := kq_pln 1 k (a, b, c, d) (bar (a, b, c, d))
  rw [kq_one] at e1 e2
  rw [e1, e2]
  constructor
  . show kq (k * 1) (plnQ (a, -b, -c, -d) (a, b, c, d)) = _
    rw [h1, kq_kq, Int.mul_one]; rfl
  . show kq (1 * k) (plnQ (a, b, c, d) (a, -b, -c, -d)) = _
    rw [h2, kq_kq, Int.one_mul]; rfl
end K
set_option Elab.async false
set_option linter.all false
set_option maxRecDepth 100000
namespace Sp
open PySem PySem.Spec PyProof.Rows L2
variable {X : Cx}
end Sp
set_option Elab.async false
set_option linter.all false
set_option maxRecDepth 100000
namespace K
open PySem L2 Sp Qm
section
variable {Φ : Fx} {sc : Scope} {ρ ρ1 : Rho} {ss : List Stmt}
end
end K
set_option Elab.async false
set_option linter.all false
set_option maxRecDepth 100000
namespace K
open PySem L2 Sp Qm
abbrev V3 := Int × Int × Int
end K
set_option Elab.async false
set_option linter.all false
set_option maxRecDepth 100000
namespace K
open PySem L2 Sp Qm
def St (T : T9) (v : V3) : Prop := T.n ∣ T.dx v.1 v.2.1 v.2.2 /\ T.n ∣ T.dy v.1 v.2.1 v.2.2 /\ T.n ∣ T.dz v.1 v.2.1 v.2.2
theorem tq_low (q : Qd) (p : Pm q.1 q.2.1 q.2.2.1 q.2.2.2) : ∃ g : Int, (g = 1 \/ g = 2 \/ g = 4) /\ tq q = (tq q).low.map (g * ·) /\ (tq q).n = g * (tq q).low.n /\ (tq q).low.n % 2 = 1 /\ 0 < (tq q).low.n /\ gI (tq q).low.l = 1 := by
  have hp := tq_pos p.ne
  obtain ⟨g, m, e, hg, en, ho, hm⟩ := corner p
  have eg : gI (tq q).l = g := e
  have hn : (tq q).low.n = m := by
    show ((tq q).n).fdiv (gI (tq q).l) = m
    rw [eg, show (tq q).n = g * m from en]
    exact Int.mul_fdiv_cancel_left m (by omega)
  refine ⟨g, hg, ?_, ?_, by rw [hn]; exact ho, by rw [hn]; exact hm, ?_⟩
  . rw [<- eg]; exact T9.cut hp
  . rw [hn]; exact en
  . have := gI_one (tq q).mem_n (show (tq q).n ≠ 0 by omega)
    exact this
theorem odd_dvd {x m : Int} (hx : x % 2 = 1) (h : x ∣ 2 * m) : x ∣ m := by
  obtain ⟨k, e⟩ := h
  have hk : k % 2 = 0 := by
    rcases (show k % 2 = 0 \/ k % 2 = 1 by omega) with q | q
    . exact q
    . obtain ⟨j, hj⟩ := opr hx q; omega
  obtain ⟨j, rfl⟩ : ∃ j, k = 2 * j := ⟨k / 2, by omega⟩
  exact ⟨j, by
    have : 2 * m = 2 * (x * j) := by rw [e]; grind
    omega⟩
theorem run_x {Φ : Fx} {sc : Scope} {ps : List Str} {body : List Stmt} {ds : List D} {R : D -> Prop} (h : ∃ d, Okr (exSs Φ body sc (argR ps ds)) (.rt d) /\ R d) (hl : ds.length = ps.length := by rfl) : ∃ d, Okr (runD Φ sc ps body ds) d /\ R d := let ⟨d, h1, h2⟩ := h; ⟨d, run_i h1 hl, h2⟩
theorem cut_x {Φ : Fx} {sc : Scope} {ρ ρ' : Rho} {ss : List Stmt} {R : D -> Prop} (n : Nat) (h : Okr (exSs Φ (ss.take n) sc ρ) (.nx ρ')) (h2 : ∃ d, Okr (exSs Φ (ss.drop n) sc ρ') (.rt d) /\ R d) : ∃ d, Okr (exSs Φ ss sc ρ) (.rt d) /\ R d := let ⟨d, h1, h3⟩ := h2; ⟨d, ss_cut n h h1, h3⟩
end K
set_option Elab.async false
set_option linter.all false
set_option maxRecDepth 100000
namespace K
open PySem L2 Sp Qm
abbrev trnQ (q : Qd) : D := trnD q.1 q.2.1 q.2.2.1 q.2.2.2
abbrev PmQ (q : Qd) : Prop := Pm q.1 q.2.1 q.2.2.1 q.2.2.2
theorem k_le {k : Int} {q : Qd} {m : Nat} (hq : nzq q) (h : ltQ (2 ^ m) (kq k q)) : k.natAbs <= 2 ^ m := by
  obtain ⟨h1, h2, h3, h4⟩ := h
  have key : ∀ t : Int, t ≠ 0 -> (k * t).natAbs <= 2 ^ m -> k.natAbs <= 2 ^ m := fun t t0 ht => by
    rw [Int.natAbs_mul] at ht
    exact Nat.le_trans (Nat.le_mul_of_pos_right _ (by omega)) ht
  by_cases q1 : q.1 = 0
  . by_cases q2 : q.2.1 = 0
    . by_cases q3 : q.2.2.1 = 0
      . exact key _ (fun q4 => hq ⟨q1, q2, q3, q4⟩) h4
      . exact key _ q3 h3
    . exact key _ q2 h2
  . exact key _ q1 h1
theorem q_le {k : Int} {q : Qd} {m : Nat} (hk : k ≠ 0) (h : ltQ (2 ^ m) (kq k q)) : ltQ (2 ^ m) q := by
  obtain ⟨h1, h2, h3, h4⟩ := h
  have key : ∀ t : Int, (k * t).natAbs <= 2 ^ m -> t.natAbs <= 2 ^ m := fun t ht => by
    rw [Int.natAbs_mul] at ht
    exact Nat.le_trans (Nat.le_mul_of_pos_left _ (by omega)) ht
  exact ⟨key _ h1, key _ h2, key _ h3, key _ h4⟩
theorem kq_okT {k : Int} {q : Qd} {m : Nat} (hm : m <= 999) (h : ltQ (2 ^ m) (kq k q)) : okT (([k * q.1, k * q.2.1, k * q.2.2.1, k * q.2.2.2] : List Int).map D.int) := q_okT (m := m) hm (by
  obtain ⟨h1, h2, h3, h4⟩ := h
  intro t ht
  simp only [List.mem_cons, List.not_mem_nil, or_false] at ht
  rcases ht with rfl | rfl | rfl | rfl
  . exact h1
  . exact h2
  . exact h3
  . exact h4)
theorem pln_b {p q : Qd} {m : Nat} (hp : ltQ (2 ^ m) p) (hq : ltQ (2 ^ m) q) : ltQ (2 ^ (m + m + 2)) (plnQ p q) := by
  obtain ⟨a, b, c, d⟩ := p
  obtain ⟨e, f, g, h⟩ := q
  obtain ⟨a1, b1, c1, d1⟩ := hp
  obtain ⟨e1, f1, g1, h1⟩ := hq
  have k : ∀ {x y : Int}, x.natAbs <= 2 ^ m -> y.natAbs <= 2 ^ m -> (x * y).natAbs <= 2 ^ (m + m) := fun hx hy => by rw [Int.natAbs_mul, Nat.pow_add]; exact Nat.mul_le_mul hx hy
  have e4 : 2 ^ (m + m + 2) = 4 * 2 ^ (m + m) := by rw [Nat.pow_succ, Nat.pow_succ]; omega
  have s : ∀ {x y z w : Int}, x.natAbs <= 2 ^ (m + m) -> y.natAbs <= 2 ^ (m + m) -> z.natAbs <= 2 ^ (m + m) -> w.natAbs <= 2 ^ (m + m) -> (x - y - z - w).natAbs <= 2 ^ (m + m + 2) /\ (x + y + z - w).natAbs <= 2 ^ (m + m + 2) /\ (x - y + z + w).natAbs <= 2 ^ (m + m + 2) /\ (x + y - z + w).natAbs <= 2 ^ (m + m + 2) := fun hx hy hz hw => by rw [e4]; generalize 2 ^ (m + m) = M at *; omega
  exact ⟨(s (k a1 e1) (k b1 f1) (k c1 g1) (k d1 h1)).1, (s (k a1 f1) (k b1 e1) (k c1 h1) (k d1 g1)).2.1, (s (k a1 g1) (k b1 h1) (k c1 e1) (k d1 f1)).2.2.1, (s (k a1 h1) (k b1 g1) (k c1 f1) (k d1 e1)).2.2.2⟩
theorem tq_bd {q : Qd} {m : Nat} (h : ltQ (2 ^ m) q) : (tq q).bd (m + m + 3) := by
  obtain ⟨h1, h2, h3, h4⟩ := h
  exact t_bd0 (m := 2 ^ m) (M := 2 ^ (m + m)) (by rw [Nat.pow_add]; exact Nat.le_refl _) (by rw [Nat.pow_succ, Nat.pow_succ, Nat.pow_succ]; omega) h1 h2 h3 h4
end K
set_option Elab.async false
set_option linter.all false
set_option maxRecDepth 100000
namespace K
open PySem L2 Sp Qm
theorem st_plc {T : T9} {x y z m X Y Z g : Int} (P : Plc T x y z m X Y Z g) : m = 1 ↔ St T (x, y, z) := by
  obtain ⟨hg, hm, h1, en, ex, ey, ez⟩ := P
  constructor
  . rintro rfl
    rw [Int.mul_one] at en
    exact ⟨⟨X, by rw [en]; exact ex⟩, ⟨Y, by rw [en]; exact ey⟩, ⟨Z, by rw [en]; exact ez⟩⟩
  . rintro ⟨a, b, c⟩
    have k : ∀ {u v : Int}, T.n ∣ u -> u = g * v -> m ∣ v := fun h e => by
      rw [e, en] at h
      exact Int.dvd_of_mul_dvd_mul_left (by omega) h
    have d1 : m ∣ gI [m, X, Y, Z] := dvd_gI fun t ht => by
      simp only [List.mem_cons, List.not_mem_nil, or_false] at ht
      rcases ht with rfl | rfl | rfl | rfl
      . exact Int.dvd_refl _
      . exact k a ex
      . exact k b ey
      . exact k c ez
    rw [h1] at d1
    exact Int.eq_one_of_dvd_one (by omega) d1
end K
namespace K
open PySem L2 Sp Qm
theorem ev_itr {Φ : Fx} {sc : Scope} {ρ : Rho} {f : Str} {p q : Pos} {args : List Expr} {ds : List D} {k : Nat} {B : List D -> Nat -> R1} {v : D × Nat} (ha : Okr (evEs Φ args sc ρ) (ds, k)) (hv : Okr (B ds k) v) (hF : Φ.fn f = none := by rfl) (hI : Φ.itr f = some B := by rfl) (hg : sc.names.lookup f = some .globalImplicit := by rfl) : Okr (evE Φ (.Call (.Name f p) args [] q) true sc ρ) v := by
  rw [evE_calN, if_pos hg]
  refine ha.bnd ?_
  unfold callD
  simp only [hF, if_pos, hI]
  exact hv
end K
set_option Elab.async false
set_option linter.all false
set_option maxRecDepth 100000
namespace Sp
open PySem PySem.Spec PyProof.Rows L2
variable {X : Cx}
def ItR (K : PySem.W.Frag) (a : Addr) (n : Nat) : It :=
  ⟨fun i H => ∃ xs x, SqL K H a xs /\ xs.length = n /\ i < n /\ xs[n - 1 - i]? = some x, fun i H x H' => H' = H /\ ∀ xs, SqL K H a xs -> xs[n - 1 - i]? = some x, fun i H => ∃ xs, SqL K H a xs /\ xs.length = n /\ n <= i⟩
theorem turn_rev {P : Program} {w : World} {K : PySem.W.Frag} {tg : Expr} (a it : Addr) (n : Nat) : L2.Turn P w K tg (ItR K a n) [it] it (fun i h => i <= n /\ h.IsRevIter it a ((n : Int) - 1 - (i : Int))) where
  mem := by simp
  obj := fun i h st b hb => by
    have e : b = it := by simpa using hb
    subst e
    obtain ⟨_, o, e, c, d⟩ := st
    exact ⟨o, e, fun v z => by rw [d] at z; cases z⟩
  keep := fun i h h' st k => ⟨st.1, st.2.at fun o e => k it (by simp) o e⟩
  item := by
    intro X hP hw hK hc i pins s σ H E I hf st hg
    subst hP hw hK
    obtain ⟨xs, x, hq, hn, hi, hx⟩ := hg
    obtain ⟨its, rv, p, hz⟩ := I.list hq
    obtain ⟨u, hu, ru⟩ := rv.get hx
    obtain ⟨f0, f1, f2, f3, f4, f5⟩ := hf it (by simp)
    have e : (n : Int) - 1 - (i : Int) = ((n - 1 - i : Nat) : Int) := by omega
    have st := st.2
    rw [e] at st
    refine wpAny_pyNext_rev_item st p.isList (x := u) (by simpa using hu) fun h' st' sb => ?_
    have I1 : Inv X pins σ H { s with heap := h' } := I.turned (t' := s.toks) (fun b o hb e => (sb.2 b hb).trans e) f0 f1 f3 f4 f5
    have e2 : ((n - 1 - i : Nat) : Int) - 1 = (n : Int) - 1 - ((i + 1 : Nat) : Int) := by omega
    rw [e2] at st'
    obtain ⟨o, e, c, d⟩ := id st'
    exact ⟨u, rfl, go_of (s := { s with heap := h' }) e c d (by decide) ⟨x, H, I1, ru, ⟨rfl, fun ys hy => by rw [I.list_inj hy hq]; exact hx⟩, ⟨hi, st'⟩, fun b hb => (hf b hb).1⟩⟩
  done := by
    intro X hP hw hK hc i pins s σ H E I hf st hg
    subst hP hw hK
    obtain ⟨xs, hq, hn, hx⟩ := hg
    obtain ⟨f0, f1, f2, f3, f4, f5⟩ := hf it (by simp)
    have e : (n : Int) - 1 - (i : Int) = -1 := by have := st.1; omega
    have st := st.2
    rw [e] at st
    exact wpAny_pyNext_rev_end (I.ok.hd hc) st fun h' eb => ⟨rfl, I.turned (t' := s.toks) (fun b o hb e => eb b o hb e) f0 f1 f3 f4 f5⟩
  self := fun _ _ _ _ _ st h => wpAny_pyIter_revIter st.2 h
def iRev (ds : List D) (k : Nat) : R1 :=
  match ds with
  | [.lst a] => .ok (.lst a.reverse, k) [llessL a = true]
  | _ => .st
theorem ie_rev {ρ : Rho} {tg : Expr} {p pos : Pos} {a : Expr} {l : List D} {k : Nat} (hg : Gl X "reversed") (hm0 : X.mg "reversed" = none) (ha : AD X ρ [a] [.lst l] k) (hst : ∀ y p, a ≠ .Starred y p) (hf : llessL l = true) :
    IE X ρ tg (.Call (.Name "reversed" p) [a] [] pos) l.reverse k := by
  intro ow pins s σ H R I ⟨E, q⟩
  refine Call_ (ld_blt I hg hm0 (show bootBuiltins "reversed" = some (.type "reversed") by decide +kernel) (PyProof.Rows.callWith_type1 (thn (ha ow pos pins s σ H (fun vs H1 => Same H H1 /\ RepL X.K H1 (Kp ow H k) [.lst l] vs) I ⟨E, fun vs H1 s1 r1 => ⟨s1, r1⟩⟩) fun us s1 ⟨vs, H1, I1, rv, sm, rp⟩ => ?_) (nostar_one hst) rfl) (by decide +kernel) (by decide +kernel))
  obtain ⟨v, rfl, rv1⟩ := rp.only
  obtain ⟨ta, xs, rfl, hq, rl, hk1⟩ := sqk_of (κ := false) rv1
  replace hq : SqL X.K H1 ta xs := hq
  obtain ⟨u, rfl, ru⟩ := vals1 rv
  cases (show u = Value.ref ta from ru)
  obtain ⟨its, rvs, pt, hz⟩ := I1.list hq
  have hlen : its.length = xs.length := rvs.length.symm
  refine call_reversed_list (show s1.heap.IsList ta its.toArray from pt.isList) ?_
  have isR : (s1.heap.push (revObj ta ((its.toArray.size : Int) - 1))).IsRevIter s1.heap.objs.size ta ((xs.length : Int) - 1 - ((0 : Nat) : Int)) := ⟨_, Heap.get?_push_size _ rfl, rfl, by simp [revObj, hlen]⟩
  refine wpAny_pyIter_revIter isR ?_
  have I2 : Inv X pins σ H1 { s1 with heap := s1.heap.push (revObj ta ((its.toArray.size : Int) - 1)) } := I1.kept (t' := s1.toks) fun b o z => Heap.get?_push_of_some _ z
  have f0 : H1 s1.heap.objs.size = none := I1.hok.fresh (Nat.le_refl _)
  refine ⟨s1.heap.objs.size, [s1.heap.objs.size], _, _, H1, rfl, I2, turn_rev ta _ xs.length, ⟨Nat.zero_le _, isR⟩, fun b hb => ?_, q _ H1 sm ?_⟩
  . have eb : b = s1.heap.objs.size := by simpa using hb
    subst eb
    exact I1.fpOk (Nat.le_refl _) f0
  . intro i H2 st
    have rl' : RepL X.K H1 (Kd ow H k H1) l xs := rl.flat _ hf
    have ll := rl.length
    refine ⟨fun d hd => ?_, fun hle => ?_⟩
    . have hi : i < l.length := by
        have := (List.getElem?_eq_some_iff.mp hd).1
        rwa [List.length_reverse] at this
      rw [List.getElem?_reverse hi] at hd
      obtain ⟨y, hy, ry⟩ := rl'.get hd
      rw [ll] at hy
      refine ⟨⟨xs, y, hk1 st, rfl, by omega, hy⟩, fun x' H3 ⟨e1, e2⟩ => ?_⟩
      have hv := e2 xs (hk1 st)
      rw [hy] at hv; cases hv
      subst e1
      exact ⟨Same.refl _, ry.mono st⟩
    . rw [List.length_reverse] at hle
      exact ⟨xs, hk1 st, rfl, by omega⟩
theorem iRev_ok : ItrOk "reversed" iRev := by
  refine ⟨by decide +kernel, fun X ρ p pos args ds k d j l tg o hc hg hm ha hst hlen h hp hl ht => ?_⟩
  unfold iRev at h
  split at h
  . cases h
    cases hl
    match args, hlen, ha, hst with
    | [a'], _, ha, hst => exact ie_rev hg hm ha (hst a' List.mem_cons_self) hp.1
  . cases h
end Sp
set_option Elab.async false
set_option linter.all false
set_option maxRecDepth 100000
namespace K
open PySem L2 Sp Qm
def qone : Qd := (1, 0, 0, 0)
def Chn : Qd -> List Qd -> Qd -> Prop
  | W, [], V => V = W
  | W, p :: ps, V => ∃ m W', m ≠ 0 /\ plnQ p W = kq m W' /\ PmQ W' /\ Chn W' ps V
theorem chn_ex : ∀ (ps : List Qd) {W : Qd}, (∀ p ∈ ps, nzq p) -> nzq W -> ∃ V, Chn W ps V
  | [], W, _, _ => ⟨W, rfl⟩
  | p :: ps, W, h, hw => by
    obtain ⟨m, r, hm, e, pr⟩ := prim_prod (h p List.mem_cons_self) hw
    obtain ⟨V, hV⟩ := chn_ex ps (W := r) (fun x hx => h x (List.mem_cons_of_mem _ hx)) pr.ne
    exact ⟨V, m, r, hm, e, pr, hV⟩
def prd : Qd -> List Qd -> Qd
  | W, [] => W
  | W, p :: ps => prd (plnQ p W) ps
theorem prd_kq : ∀ (ps : List Qd) (k : Int) (W : Qd), prd (kq k W) ps = kq k (prd W ps)
  | [], _, _ => rfl
  | p :: ps, k, W => by
    rw [prd, prd, <- prd_kq ps, show plnQ p (kq k W) = kq k (plnQ p W) by have := kq_pln 1 k p W; rwa [kq_one, Int.one_mul] at this]
theorem chn_prd : ∀ {ps : List Qd} {W V : Qd}, Chn W ps V -> ∃ M : Int, M ≠ 0 /\ prd W ps = kq M V
  | [], W, _, rfl => ⟨1, by decide, (kq_one W).symm⟩
  | p :: ps, W, V, ⟨m, W', hm, e, _, h⟩ => by
    obtain ⟨M, hM, eM⟩ := chn_prd h
    exact ⟨m * M, Int.mul_ne_zero hm hM, by rw [prd, e, prd_kq, eM, kq_kq]⟩
theorem prd_one : ∀ (ps : List Qd) (W : Qd), prd W ps = plnQ (prd qone ps) W
  | [], W => (pln_one W).2.symm
  | p :: ps, W => by
    rw [prd, prd, prd_one ps (plnQ p W), prd_one ps (plnQ p qone), pln_assoc, pln_assoc]
    congr 1
    exact (congrArg (plnQ · W) (pln_one p).1).symm ▸ (pln_assoc p qone W).symm ▸ rfl
theorem prd_app : ∀ (l : List Qd) (W b : Qd), prd W (l ++ [b]) = plnQ b (prd W l)
  | [], _, _ => rfl
  | p :: l, W, b => prd_app l (plnQ p W) b
theorem bar_pln (p q : Qd) : bar (plnQ p q) = plnQ (bar q) (bar p) := by
  obtain ⟨a, b, c, d⟩ := p
  obtain ⟨e, f, g, h⟩ := q
  simp only [bar, plnQ, Prod.mk.injEq]
  refine ⟨by grind, by grind, by grind, by grind⟩
theorem bar_kq (k : Int) (q : Qd) : bar (kq k q) = kq k (bar q) := by
  obtain ⟨a, b, c, d⟩ := q
  simp only [bar, kq, Prod.mk.injEq, Int.mul_neg, and_self]
theorem prd_back {α : Type} (e : α -> Int) (v : α -> Qd) : ∀ (ps : List α), (∀ p ∈ ps, e p ≠ 0) -> ∃ E : Int, E ≠ 0 /\ prd qone (ps.map fun p => kq (e p) (bar (v p))).reverse = kq E (bar (prd qone (ps.map v)))
  | [], _ => ⟨1, by decide, rfl⟩
  | p :: ps, hp => by
    obtain ⟨E, hE, hh⟩ := prd_back e v ps fun x hx => hp x (List.mem_cons_of_mem _ hx)
    refine ⟨e p * E, Int.mul_ne_zero (hp p List.mem_cons_self) hE, ?_⟩
    rw [List.map_cons, List.reverse_cons, prd_app, hh, kq_pln, <- bar_pln, List.map_cons, prd, prd_one (ps.map v) (plnQ (v p) qone)]
    rw [show plnQ (v p) qone = v p from (pln_one (v p)).1]
def Fr (T : T9) (x y z n X Y Z : Int) : Prop := T.dx x y z * n = X * T.n /\ T.dy x y z * n = Y * T.n /\ T.dz x y z * n = Z * T.n
theorem fr_one (x y z : Int) : Fr (tq qone) x y z 1 x y z := by
  refine ⟨?_, ?_, ?_⟩ <;> simp only [T9.dx, T9.dy, T9.dz, tq, qone, dot, n4, t40, t41, t42, t43, t44, t45, t46, t47, t48] <;> grind
theorem fr_map {c : Int} (hc : c ≠ 0) {T : T9} {x y z n X Y Z : Int} : Fr (T.map (c * ·)) x y z n X Y Z ↔ Fr T x y z n X Y Z := by
  obtain ⟨m1, m2, m3⟩ := map_d c T x y z
  unfold Fr
  rw [m1, m2, m3]
  have k : ∀ {a b : Int}, (c * a * n = b * (c * T.n)) ↔ (a * n = b * T.n) := fun {a b} => by
    rw [show c * a * n = c * (a * n) by grind, show b * (c * T.n) = c * (b * T.n) by grind]
    exact Int.mul_eq_mul_left_iff hc
  exact and_congr k (and_congr k k)
theorem dot_lin (a b c x y z k : Int) : dot a b c (x * k) (y * k) (z * k) = dot a b c x y z * k := by unfold dot; grind
theorem fr_step {A B : T9} {x y z n X Y Z m X' Y' Z' g : Int} (h : Fr A x y z n X Y Z) (p : Plc B X Y Z m X' Y' Z' g) : Fr (A.bh B) x y z (n * m) X' Y' Z' := by
  obtain ⟨h1, h2, h3⟩ := h
  obtain ⟨d1, d2, d3⟩ := bh_d A B x y z
  have key : ∀ {u v w R : Int}, dot u v w X Y Z = g * R -> dot u v w (A.dx x y z) (A.dy x y z) (A.dz x y z) * (n * m) = R * (A.n * B.n) := fun {u v w R} e => by
    have s1 : dot u v w (A.dx x y z) (A.dy x y z) (A.dz x y z) * n = dot u v w X Y Z * A.n := by rw [<- dot_lin, h1, h2, h3, dot_lin]
    calc dot u v w (A.dx x y z) (A.dy x y z) (A.dz x y z) * (n * m) = (dot u v w (A.dx x y z) (A.dy x y z) (A.dz x y z) * n) * m := by grind
      _ = g * R * A.n * m := by rw [s1, e]
      _ = R * (A.n * (g * m)) := by grind
      _ = R * (A.n * B.n) := by rw [p.en]
  refine ⟨?_, ?_, ?_⟩
  . rw [d1]; exact key p.ex
  . rw [d2]; exact key p.ey
  . rw [d3]; exact key p.ez
theorem fr_turn {W W' p : Qd} {m0 : Int} (hm0 : m0 ≠ 0) (e : plnQ p W = kq m0 W') (hp : PmQ p) {x y z n X Y Z m X' Y' Z' g : Int} (h : Fr (tq W) x y z n X Y Z) (q : Plc (tq p).low X Y Z m X' Y' Z' g) : Fr (tq W') x y z (n * m) X' Y' Z' := by
  obtain ⟨g0, hg, cut, _⟩ := tq_low p hp
  have h1 := fr_step h q
  have h2 : Fr ((tq W).bh (tq p)) x y z (n * m) X' Y' Z' := by
    conv => rw [cut]
    rw [T9.bh_r]
    exact (fr_map (by omega)).mpr h1
  rw [<- tq_mul, e] at h2
  have e3 : tq (kq m0 W') = (tq W').map (m0 * m0 * ·) := tq_many m0 W'
  rw [e3] at h2
  exact (fr_map (Int.mul_ne_zero hm0 hm0)).mp h2
theorem fr_low {q : Qd} (hp : PmQ q) {x y z n X Y Z : Int} (h : Fr (tq q) x y z n X Y Z) : Fr (tq q).low x y z n X Y Z := by
  obtain ⟨g0, hg, cut, _⟩ := tq_low q hp
  rw [cut] at h
  exact (fr_map (by omega)).mp h
theorem fr_plc {q : Qd} (hp : PmQ q) {x y z n X Y Z m P Q R g : Int} (h : Fr (tq q) x y z n X Y Z) (p : Plc (tq q).low x y z m P Q R g) : P * n = X * m /\ Q * n = Y * m /\ R * n = Z * m := by
  obtain ⟨h1, h2, h3⟩ := fr_low hp h
  have key : ∀ {a b c : Int}, c = g * a -> c * n = b * (tq q).low.n -> a * n = b * m := fun {a b c} e1 e2 => by
    rw [e1, p.en] at e2
    exact canc p.pos (by rw [<- Int.mul_assoc, e2]; grind)
  exact ⟨key p.ex h1, key p.ey h2, key p.ez h3⟩
theorem fr_plc' {q : Qd} {x y z m P Q R g : Int} (hp : PmQ q) (p : Plc (tq q).low x y z m P Q R g) : Fr (tq q) x y z m P Q R := by
  obtain ⟨g0, hg, cut, _⟩ := tq_low q hp
  rw [cut]
  refine (fr_map (by omega)).mpr ⟨?_, ?_, ?_⟩
  . rw [p.ex, p.en]; grind
  . rw [p.ey, p.en]; grind
  . rw [p.ez, p.en]; grind
theorem fr_trans {A B : T9} {x y z n X Y Z m X' Y' Z' : Int} (h : Fr A x y z n X Y Z) (p : Fr B X Y Z m X' Y' Z') : Fr (A.bh B) x y z (n * m) X' Y' Z' := by
  obtain ⟨h1, h2, h3⟩ := h
  obtain ⟨d1, d2, d3⟩ := bh_d A B x y z
  have key : ∀ {u v w R : Int}, dot u v w X Y Z * m = R * B.n -> dot u v w (A.dx x y z) (A.dy x y z) (A.dz x y z) * (n * m) = R * (A.n * B.n) := fun {u v w R} e => by
    have s1 : dot u v w (A.dx x y z) (A.dy x y z) (A.dz x y z) * n = dot u v w X Y Z * A.n := by rw [<- dot_lin, h1, h2, h3, dot_lin]
    calc dot u v w (A.dx x y z) (A.dy x y z) (A.dz x y z) * (n * m) = (dot u v w (A.dx x y z) (A.dy x y z) (A.dz x y z) * n) * m := by grind
      _ = (dot u v w X Y Z * m) * A.n := by rw [s1]; grind
      _ = R * (A.n * B.n) := by rw [e]; grind
  refine ⟨?_, ?_, ?_⟩
  . rw [d1]; exact key p.1
  . rw [d2]; exact key p.2.1
  . rw [d3]; exact key p.2.2
theorem fr_prop {V U : Qd} {a b : Int} (ha : a ≠ 0) (hb : b ≠ 0) (e : kq a V = kq b U) {x y z m P Q R : Int} (h : Fr (tq V) x y z m P Q R) : Fr (tq U) x y z m P Q R := by
  have t1 : tq (kq a V) = (tq V).map (a * a * ·) := tq_many a V
  have t2 : tq (kq b U) = (tq U).map (b * b * ·) := tq_many b U
  have h1 := (fr_map (Int.mul_ne_zero ha ha)).mpr h
  rw [<- t1, e, t2] at h1
  exact (fr_map (Int.mul_ne_zero hb hb)).mp h1
theorem fr_back {V V' : Qd} {k : Int} (hk : k ≠ 0) (nV : nzq V) (e : V' = kq k (bar V)) {x y z m P Q R n X Y Z : Int} (h : Fr (tq V) x y z m P Q R) (h' : Fr (tq V') P Q R n X Y Z) : x * m * n = X /\ y * m * n = Y /\ z * m * n = Z := by
  have t := fr_trans h h'
  rw [<- tq_mul, e, (bar_beh k V).1] at t
  have c0 : k * (tq V).n ≠ 0 := Int.mul_ne_zero hk (by have := tq_pos nV; omega)
  have e3 : tq (kq (k * (tq V).n) (1, 0, 0, 0)) = (tq (1, 0, 0, 0)).map (k * (tq V).n * (k * (tq V).n) * ·) := tq_many _ _
  rw [e3] at t
  obtain ⟨t1, t2, t3⟩ := (fr_map (Int.mul_ne_zero c0 c0)).mp t
  simp only [T9.dx, T9.dy, T9.dz, tq, dot, n4, t40, t41, t42, t43, t44, t45, t46, t47, t48] at t1 t2 t3
  refine ⟨?_, ?_, ?_⟩ <;> grind
def cpr : List Qd -> Int
  | [] => 1
  | p :: ps => (tq p).low.n * cpr ps
theorem n_pln (p q : Qd) : (tq (plnQ p q)).n = (tq p).n * (tq q).n := by rw [tq_mul]; exact Int.mul_comm _ _
theorem odd_dvd4 {x m g : Int} (hx : x % 2 = 1) (hg : g = 1 \/ g = 2 \/ g = 4) (h : x ∣ g * m) : x ∣ m := by
  rcases hg with rfl | rfl | rfl
  . rwa [Int.one_mul] at h
  . exact odd_dvd hx h
  . exact odd_dvd hx (odd_dvd hx (by rw [<- Int.mul_assoc]; exact h))
theorem corner_dvd {p W W' : Qd} {m : Int} (hm : m ≠ 0) (e : plnQ p W = kq m W') (hp : PmQ p) (hw : PmQ W) (hw' : PmQ W') : (tq W').low.n ∣ (tq W).low.n * (tq p).low.n := by
  obtain ⟨g1, h1, _, e1, _, _, _⟩ := tq_low p hp
  obtain ⟨g2, h2, _, e2, _, _, _⟩ := tq_low W hw
  obtain ⟨g3, h3, _, e3, o3, _, _⟩ := tq_low W' hw'
  have n1 := n_pln p W
  have t : tq (kq m W') = (tq W').map (m * m * ·) := tq_many m W'
  rw [e, t] at n1
  have n2 : m * m * (g3 * (tq W').low.n) = g1 * (tq p).low.n * (g2 * (tq W).low.n) := by rw [<- e1, <- e2, <- e3]; exact n1
  have d : (tq W').low.n ∣ g1 * (g2 * ((tq W).low.n * (tq p).low.n)) := ⟨m * m * g3, by
    calc g1 * (g2 * ((tq W).low.n * (tq p).low.n)) = g1 * (tq p).low.n * (g2 * (tq W).low.n) := by grind
      _ = m * m * (g3 * (tq W').low.n) := n2.symm
      _ = _ := by grind⟩
  exact odd_dvd4 o3 h2 (odd_dvd4 o3 h1 d)
theorem n_le {p W W' : Qd} {m : Int} (hm : m ≠ 0) (e : plnQ p W = kq m W') (hw' : nzq W') : (tq W').n <= (tq p).n * (tq W).n := by
  have n1 := n_pln p W
  have t : tq (kq m W') = (tq W').map (m * m * ·) := tq_many m W'
  rw [e, t] at n1
  have n1 : m * m * (tq W').n = (tq p).n * (tq W).n := n1
  rw [<- n1]
  have := Int.mul_le_mul_of_nonneg_right (show 1 <= m * m by have := sq_pos hm; omega) (show 0 <= (tq W').n by have := tq_pos hw'; omega)
  omega
theorem n_lt {W : Qd} {k : Nat} (h : (tq W).n <= 2 ^ (k + k)) : ltQ (2 ^ k) W := by
  obtain ⟨a, b, c, d⟩ := W
  have e : (tq (a, b, c, d)).n = a * a + b * b + c * c + d * d := rfl
  rw [e] at h
  have h1 := sq_nn a; have h2 := sq_nn b; have h3 := sq_nn c; have h4 := sq_nn d
  have key : ∀ x : Int, x * x <= 2 ^ (k + k) -> x.natAbs <= 2 ^ k := fun x hx => by
    rcases Nat.lt_or_ge (2 ^ k) x.natAbs with q | q
    . exfalso
      have h5 : 2 ^ k * 2 ^ k < x.natAbs * x.natAbs := Nat.mul_lt_mul'' q q
      rw [<- Nat.pow_add] at h5
      have h6 : ((x.natAbs * x.natAbs : Nat) : Int) = x * x := Int.natAbs_mul_self
      have h7 : (((2 ^ (k + k) : Nat)) : Int) = 2 ^ (k + k) := by norm_cast
      omega
    . exact q
  exact ⟨key a (by omega), key b (by omega), key c (by omega), key d (by omega)⟩
theorem at_mid {α : Type} {f : α -> D} (dn : List α) (x : α) (l : List α) : L2.atI ((dn ++ x :: l).map f) ((dn.length : Nat) : Int) = some (f x) := by
  exact atI_nat (xs := (dn ++ x :: l).map f) (j := dn.length) (v := f x) (by simp)
def rgs : Nat -> Nat -> List D
  | _, 0 => []
  | i, n + 1 => .int (1 + (i : Int)) :: rgs (i + 1) n
theorem rgs_eq : ∀ (n i : Nat), (List.range n).map (fun m : Nat => D.int (1 + ((i + m : Nat) : Int))) = rgs i n
  | 0, _ => rfl
  | n + 1, i => by
    rw [List.range_succ_eq_map, List.map_cons, List.map_map, rgs, <- rgs_eq n (i + 1)]
    refine congrArg (D.int (1 + (i : Int)) :: ·) (List.map_congr_left fun m _ => ?_)
    show D.int (1 + ((i + (m + 1) : Nat) : Int)) = D.int (1 + ((i + 1 + m : Nat) : Int))
    rw [show i + (m + 1) = i + 1 + m by omega]
theorem rng1 {l : List D} {n k : Nat} (h : l.length = n + 1) (hn : n <= 100) : Okr (iRange [.int 1, .int (l.length : Nat)] k) (.lst (rgs 0 n), 0) := by
  have e : (List.range ((l.length : Int) - 1).toNat).map (fun m : Nat => D.int (1 + (m : Int))) = rgs 0 n := by
    rw [<- rgs_eq, show ((l.length : Int) - 1).toNat = n by omega]
    exact List.map_congr_left fun m _ => by rw [Nat.zero_add]
  have q : Okr (iRange [.int 1, .int (l.length : Nat)] k) (.lst ((List.range ((l.length : Int) - 1).toNat).map fun m : Nat => D.int (1 + (m : Int))), 0) := ⟨_, rfl, by omega, by omega, by omega, by omega, True.intro⟩
  rwa [e] at q
theorem at_mid1 {α : Type} {f : α -> D} (r0 : α) (dn : List α) (x : α) (l : List α) : L2.atI ((r0 :: (dn ++ x :: l)).map f) (1 + (dn.length : Int)) = some (f x) := by
  have h := at_mid (f := f) (r0 :: dn) x l
  rw [show (((r0 :: dn).length : Nat) : Int) = 1 + (dn.length : Int) by rw [List.length_cons]; omega] at h
  exact h
theorem low_b {p : Qd} (hp : PmQ p) (h : ltQ (2 ^ 5) p) : (tq p).low.n.natAbs <= 2 ^ 13 := T9.bd_low (tq_pos hp.ne) (tq_bd h) _ (T9.mem_n _)
theorem cpr_b : ∀ {ps : List Qd}, (∀ p ∈ ps, PmQ p /\ ltQ (2 ^ 5) p) -> (cpr ps).natAbs <= 2 ^ (13 * ps.length)
  | [], _ => by decide
  | p :: ps, h => by
    rw [cpr, Int.natAbs_mul, List.length_cons, show 13 * (ps.length + 1) = 13 + 13 * ps.length by omega, Nat.pow_add]
    exact Nat.mul_le_mul (low_b (h p List.mem_cons_self).1 (h p List.mem_cons_self).2) (cpr_b fun q hq => h q (List.mem_cons_of_mem _ hq))
theorem rev_q {l : List D} {k : Nat} (h : llessL l = true) : Okr (iRev [.lst l] k) (.lst l.reverse, k) := ⟨_, rfl, h, True.intro⟩
theorem pw13 {a : Int} {i : Nat} (h : a <= 2 ^ (13 * i)) (hi : i <= 12) : a <= 2 ^ (78 + 78) := Int.le_trans h (by
  have : (2 : Nat) ^ (13 * i) <= 2 ^ (78 + 78) := Nat.pow_le_pow_right (by decide) (by omega)
  exact_mod_cast this)
theorem n_b {q : Qd} (h : ltQ (2 ^ 5) q) : (tq q).n <= 2 ^ 13 := by
  have h2 : (tq q).n.natAbs <= 8192 := tq_bd h _ (T9.mem_n _)
  show _ <= (8192 : Int)
  omega
end K
set_option Elab.async false
set_option linter.all false
set_option maxRecDepth 100000
namespace Att
open PySem PySem.W PySem.Calls PyProof.Rows
theorem weight_mem : ∀ (ns : List Int) (m : Int), m ∈ ns -> Builtin.Int.intBits m <= WData.weightAll (ns.map WData.int)
  | n :: ns, m, h => by
    rw [List.map_cons, WData.weightAll, WData.weight]
    rcases List.mem_cons.mp h with rfl | h
    . unfold Builtin.Int.intBits; omega
    . have := weight_mem ns m h; omega
theorem bits_of {ns : List Int} (h : WData.layableAll [WData.list (ns.map WData.int)] = true) : ∀ m ∈ ns, Builtin.Int.intBits m <= 2 ^ 20 := fun m hm => by
  unfold WData.layableAll at h
  have h1 : WData.layable (WData.list (ns.map WData.int)) = true := by simpa using h
  unfold WData.layable at h1
  have h2 := (Bool.and_eq_true_iff.mp h1).2
  have h3 := of_decide_eq_true h2
  rw [WData.weight] at h3
  exact Nat.le_trans (weight_mem ns m hm) h3
theorem attach_callB {l : OpenLaw} {n : Nat} {q : Program} {loose : List Str} {XP : (Str -> Option Value) -> Heap -> Prop} {YP : World -> Heap -> Prop} {d : DefRec}
    (hn : l.most = some n) (hdf : d.params.defaults = [])
    (call : ∀ (w : World) (s₀ s₁ : Shared) (mg mb : Str -> Option Value) (fa : Addr) (o : Obj) (pm cd doc : Value) (a : Addr) (vs : List Value) (ns : List Int),
      Ground q loose [] XP w s₀ mg mb s₁.heap -> YP w s₁.heap ->
      s₁.heap.get? fa = some o -> o.data = .func (docDef d.name d.params d.body d.scope pm cd doc) -> s₁.heap.CodeRec cd d.name -> mg d.name = some (.ref fa) ->
      s₁.heap.get? a = some { cls := .type "list", data := .seq vs.toArray } -> IntsAre vs ns -> ns.length <= n -> (∀ m ∈ ns, Builtin.Int.intBits m <= 2 ^ 20) -> s₁.gens = #[] ->
      codeAny (model l.prog w) callerA (.call (.ref fa) ⟨[.ref a], []⟩) (fun r s' => r = .ok (.ret (.bool true)) /\ OldK s₁.heap s'.heap /\ s'.os = s₁.os /\ AllBare s'.gens) s₁) :
    WalkO q loose XP YP l.row.toRowW d [] (fun f vs => PySem.call f vs) := by
  intro w s₀ s₁ mg mb G Y fa o pm cd doc dV kV ho hd hcd hD hmg hg args vals as hpre hlay hrd hwl hlo
  obtain rfl : dV = .none := Dflts.none hD hdf
  obtain rfl : kV = .none := Dflts.noKw hD
  obtain ⟨a, vs, ns, rfl, rfl, hobj, hints, hlen⟩ := script_of hn hpre hwl
  have hbits := bits_of hlay
  refine enter_call (codeAny_mono (call w s₀ s₁ mg mb fa o pm cd doc a vs ns G Y ho (fd_plain hd) hcd hmg hobj hints hlen hbits hg) fun r s' hq => ?_)
  obtain ⟨rfl, h2, h3, h4⟩ := hq
  exact ⟨.inl ⟨.bool true, .bool true, [], rfl, fun _ => rfl, .bool true, post_true l _, fun _ => ⟨List.Pairwise.nil, fun _ hm => (nomatch hm)⟩⟩, h2, h3, h4⟩
end Att
namespace L2
open PySem PySem.Spec PyProof.Rows
theorem walk_ofB {l : PySem.W.OpenLaw} {n k : Nat} {q : Program} {loose : List Str} {XP : (Str -> Option Value) -> Heap -> Prop} {YP : World -> Heap -> Prop} {d : DefRec} {K : Params -> PySem.W.Frag} {CX : World -> CXT} {sp : World -> Sp} {x : Str}
    (hn : l.most = some n) (hn2 : n <= sizeLine) (hdf : d.params.defaults = []) (hr : Room k callerA)
    (hY : ∀ (w : World) (h : Heap), YP w h -> (K w.params).In h)
    (F : ∀ (w : World) (mg : Str -> Option Value) (fa : Addr) (h : Heap), (K w.params).In h -> h.Ns mainGlobals mg -> mg d.name = some (.ref fa) ->
      ∃ fd : FuncData, (∀ (s : Shared) (u : Value), BindsTo s fd ⟨[u], []⟩ [(x, u)]) /\
        ∀ base : Heap, (K w.params).In base -> base.Ns mainGlobals mg -> FnOk l.prog w (K w.params) mg base (CX w) k fa fd [x] (sp w))
    (hsp : ∀ (w : World) (H : Hp) (a : Addr) (ns : List Int), ns.length <= n -> (∀ m ∈ ns, Builtin.Int.intBits m <= 2 ^ 20) -> Only H -> SqL (K w.params) H a (ns.map V.int) -> sp w [.ref a] H (fun v _ => v = .bl true) fun _ _ _ => False)
    (hCX : ∀ (w : World) (H : Hp) (s : Shared) (e : Value) (s' : Shared), CX w [] H s (fun _ _ _ => False) e s' -> False) :
    PySem.W.WalkO q loose XP YP l.row.toRowW d [] (fun f vs => PySem.call f vs) := by
  refine Att.attach_callB hn hdf fun w s₀ s₁ mg mb fa o pm cd doc a vs ns G Y ho hd hcd hmg hobj hints hlen hbits hg => ?_
  have KX := hY w _ Y
  obtain ⟨fd, hb, hF⟩ := F w mg fa _ KX G.T.g hmg
  exact law_call KX G.T.g G.T.b G.T.builtins G.T.nolimit hg hobj hints (Nat.le_trans hlen hn2) hr hF hb (fun H hO hS => hsp w H a ns hlen hbits hO hS) fun H e s' => hCX w H s₁ e s'
end L2
set_option Elab.async false
set_option linter.all false
set_option maxRecDepth 100000
namespace K
open PySem L2 Sp
def top (i : Nat) : Stmt := PySem.Challenge.pw_spaceturns_k60_whole_chains_of_turns.main.body.getD i (.Pass ⟨0, 0, 0, 0⟩)
local macro_rules | `(tactic| walk_at "leaf") => `(tactic| first | ((with_reducible apply mulOk_r); decide) | ((with_reducible apply mulOk_l); decide) | ((with_reducible apply divOk_s) <;> decide) | ((with_reducible apply mulOk_b) <;> (with_reducible assumption)) | ((with_reducible apply powOk_s) <;> decide) | ((with_reducible refine Eq.trans ?_ rfl); exact rfl) | ((with_reducible apply cel_bits); (with_reducible assumption)) | ((with_reducible apply okT_id); assumption) | exact Nat.le_of_ble_eq_true rfl | exact Or.inl rfl | exact Or.inr rfl | exact Or.inr (Nat.le_refl 1) | exact Or.inr (Nat.zero_le 1) | decide | decide +kernel)
local macro_rules | `(tactic| walk_at "ob") => `(tactic| (repeat' (first | with_reducible exact True.intro | with_reducible exact allP_nil | with_reducible apply allP_app_i | with_reducible apply allP_one | with_reducible apply allP_cons_i | with_reducible assumption | ((with_reducible apply allP_gd); intro hgd) | walk_at "leaf")))
local macro_rules | `(decl_name%) => `(okr_of rfl (by walk_at "ob"))
def BL : List (Str × (List D -> R1)) := [("len", bLen), ("tuple", bTuple), ("list", bList), ("abs", bAbs), ("all", bAll), ("any", bAny2), ("sum", bSum), ("isinstance", bIsi)]
def IL : List (Str × (List D -> Nat -> R1)) := [("range", iRange), ("zip", iZip), ("reversed", iRev)]
def ML : List (Str × (D -> List D -> R1)) := []
def TL : List (Str × (List D -> List D -> Nat -> Rs (List D))) := []
def X_l_cell : Fx := Tb [] [] BL IL ML TL noSl
def R_l_cell : List D -> Rs D := runD X_l_cell (defScope (top 26)) ["_law_script", "_law_k"] (defBody (top 26))
def S_l_cell : List D -> Rs D := sp2 dL dI fun l k => .ok (.int (cel l k)) [okL l]
theorem S_l_cell_ok : ∀ ds r, Okr (S_l_cell ds) r -> Okr (R_l_cell ds) r := by
  intro ds r h
  obtain ⟨l, k, rfl, h⟩ := sp2_inv h
  obtain ⟨rfl, ⟨ns, rfl⟩, _⟩ := okr_inv h
  refine run_i (ss_cut 1 (okr_of rfl True.intro) (ss_if (okr_of rfl True.intro) (fun ht => ?_) (fun hf => ?_)))
  . have hl : (ns.map D.int).length = ns.length := by simp
    have hp : (0 : Int) < ((ns.map D.int).length : Nat) := by simpa using ht
    have hi : L2.atI (ns.map D.int) (k.fmod (((ns.map D.int).length : Nat) : Int)) = some (.int (cellAt ns k)) := by
      rw [hl] at hp ⊢
      have hne : ns ≠ [] := by intro z; subst z; simp at hp
      unfold cellAt
      rw [if_neg hne]
      exact atI_map (Int.fmod_nonneg_of_pos _ hp) (Int.fmod_lt_of_pos _ hp)
    refine ss_nx (ex_set (d := .int (cellAt ns k)) (ev_ix (okr_of rfl True.intro) (okr_of rfl ⟨Int.ne_of_gt hp, True.intro⟩) rfl hi)) ?_
    refine decl_name%.eq ?_
    unfold cel cellF; rw [toInts_map]
  . have hp : ns = [] := by
      cases ns with
      | nil => rfl
      | cons n ns => simp at hf
    subst hp
    refine decl_name%.eq ?_
    rfl
def X_l_number : Fx := Tb [] [] BL IL ML TL noSl
def R_l_number : List D -> Rs D := runD X_l_number (defScope (top 29)) ["_law_cell_here", "_law_kind"] (defBody (top 29))
def S_l_number : List D -> Rs D := sp2 dI dI fun c k => .ok (.int (numI c k)) [Builtin.Int.intBits c <= 2 ^ 21]
theorem S_l_number_ok : ∀ ds r, Okr (S_l_number ds) r -> Okr (R_l_number ds) r := by
  intro ds r h
  obtain ⟨c, k, rfl, h'⟩ := sp2_inv h
  obtain ⟨rfl, hb, _⟩ := okr_inv h'
  have hm : mulOk c (1000003 ^ Int.toNat 4) := mulOk_w (Nat.le_trans hb (by decide)) bits_num
  unfold numI
  by_cases h1 : k.fmod 3 = 0
  . rw [if_pos h1]
    exact run_i (ss_ifT decl_name% (eq_i h1) decl_name%)
  . rw [if_neg h1]
    by_cases h2 : k.fmod 3 = 1
    . rw [if_pos h2]
      exact run_i (ss_ifF decl_name% ((eqD_i _ _).trans (decide_eq_false h1)) (ss_ifT decl_name% (eq_i h2) decl_name%))
    . rw [if_neg h2]
      exact run_i (ss_ifF decl_name% ((eqD_i _ _).trans (decide_eq_false h1)) (ss_ifF decl_name% ((eqD_i _ _).trans (decide_eq_false h2)) decl_name%))
def X_l_spot : Fx := Tb [("_law_cell", S_l_cell), ("_law_number", S_l_number)] [] BL IL ML TL noSl
def R_l_spot : List D -> Rs D := runD X_l_spot (defScope (top 33)) ["_law_script", "_law_at"] (defBody (top 33))
def S_l_spot : List D -> Rs D := sp2 dL dI fun l k => .ok (d3 (numI (cel l (k + 1 + 0)) (cel l k)) (numI (cel l (k + 1 + 1)) (cel l k)) (numI (cel l (k + 1 + 2)) (cel l k))) [okW l]
theorem S_l_spot_ok : ∀ ds r, Okr (S_l_spot ds) r -> Okr (R_l_spot ds) r := by
  intro ds r h
  obtain ⟨l, k, rfl, h'⟩ := sp2_inv h
  obtain ⟨rfl, hw, _⟩ := okr_inv h'
  have hl := hw.okL
  exact okr_of rfl (by walk_at "ob")
def X_Deed_table : Fx := Tbo [] [] BL IL ML TL noSl [("Turn", ["fractions"])] []
def R_Deed_table : List D -> Rs D := runD X_Deed_table (defScope (clsAt (top 20) 1)) ["self"] (defBody (clsAt (top 20) 1))
def X_corner_number : Fx := Tbo [] [] BL IL ML TL noSl [] [("Turn", [("table", R_Deed_table)])]
def R_corner_number : List D -> Rs D := runD X_corner_number (defScope (top 24)) ["turn"] (defBody (top 24))
theorem corner_q (a b c d : Int) : Okr (R_corner_number [trnD a b c d]) (.int ((n4 a b c d).fdiv (gI (tl4 a b c d)))) := okr_of rfl (by walk_at "ob")
def X_added_products : Fx := Tb [] [] BL IL ML TL noSl
def R_added_products : List D -> Rs D := runD X_added_products (defScope (top 12)) ["one", "other"] (defBody (top 12))
def X_each_with : Fx := Tb [("added_products", R_added_products)] [] BL IL ML TL noSl
def R_each_with : List D -> Rs D := runD X_each_with (defScope (top 18)) ["rows", "other"] (defBody (top 18))
def X_shared_by : Fx := Tb [] [] BL IL ML TL noSl
def R_shared_by : List D -> Rs D := runD X_shared_by (defScope (top 9)) ["one", "other"] (defBody (top 9))
theorem sh_q (a b : Nat) (ha : a < 2 ^ 1000) (hb : b < 2 ^ 1000) : Okr (R_shared_by [.int a, .int b]) (.int (Nat.gcd a b : Nat)) := by
  refine run_i (ss_whileM (m := 2002) (fun m ρ => ∃ (x y : Nat) (f g : Bool), EuM x y m /\ Nat.gcd x y = Nat.gcd a b /\ Sub (envL [("one", .int x, f), ("other", .int y, g)]) ρ) ⟨a, b, false, false, eu_0 ha hb, rfl, sub_cons rfl (sub_cons rfl sub_nil)⟩ (by decide) ?_ ?_)
  . rintro m ρ ⟨x, y, f, g, hm, hg, s⟩
    refine ⟨!decide ((y : Int) = 0), 0, ev_sub s (decl_name%.bl (by show (!eqD (.int y) (.int 0)) = _; rw [eqD_i])), fun ht => ?_⟩
    have h0 : y ≠ 0 := by
      intro z; subst z; exact absurd ht (by decide)
    have hn : (y : Int) ≠ 0 := by omega
    obtain ⟨m', hm', hE⟩ := eu_step hm h0
    have e := fm_nat x y
    exact wh_step hm' (nx_sub s decl_name% fun ρ' s' => ⟨y, x % y, true, true, hE, by rw [<- hg, Nat.gcd_comm x y, Nat.gcd_rec y x, Nat.gcd_comm], sub_cons s'.get (sub_cons (by rw [<- e]; exact s'.get) sub_nil)⟩)
  . rintro m ρ ⟨x, y, f, g, hm, hg, s⟩ ⟨k, hk⟩
    have e := hk.inj (ev_sub s decl_name%)
    have h0 : y = 0 := by
      have e1 : (!eqD (.int y) (.int 0)) = false := by injection e with e1 e2; injection e1 with e1; exact e1.symm
      rw [eqD_i] at e1
      have : (y : Int) = 0 := by simpa using e1
      omega
    subst h0
    rw [<- hg, Nat.gcd_zero_right]
    exact rt_sub s decl_name%
def X_common_divisor : Fx := Tb [("shared_by", R_shared_by)] [] BL IL ML TL noSl
def R_common_divisor : List D -> Rs D := runD X_common_divisor (defScope (top 8)) ["numbers"] (defBody (top 8))
def S_common_divisor : List D -> Rs D
  | [.tup l] => .ok (.int (gcdD l)) [okT l]
  | _ => .st
theorem S_common_divisor_ok : ∀ ds r, Okr (S_common_divisor ds) r -> Okr (R_common_divisor ds) r := by
  intro ds r h
  unfold S_common_divisor at h
  split at h
  . obtain ⟨rfl, ⟨ns, rfl, hl, hb⟩, _⟩ := okr_inv h
    rw [gcdD_map]
    refine run_i (ss_cut 1 decl_name% (ss_forN (ds := ns.map D.int) (fun rem ρ => ∃ (r : List Int) (g : Nat), rem = r.map D.int /\ (∀ n ∈ r, n.natAbs < 2 ^ 1000) /\ gcdF g r = gcdF 0 ns /\ g < 2 ^ 1000 /\ Sub (envL [("reached", .int g, true)]) ρ) decl_name% ⟨ns, 0, rfl, hb, rfl, Nat.pow_pos (by decide), sub_cons rfl sub_nil⟩ ?_ ?_ rfl (kn1 (.tup (ns.map D.int)))))
    . rintro d l ρ ⟨r, g, hr, hb', hg, hlt, s⟩
      cases r with
      | nil => cases hr
      | cons n r =>
        cases hr
        have hn := hb' n List.mem_cons_self
        have ea : (if n < 0 then -n else n) = ((n.natAbs : Nat) : Int) := by omega
        have k := sh_q g n.natAbs hlt hn
        refine ⟨_, rfl, nx_sub (s.put _ _) (ss_nx (ex_set (ev_call (v := .int (Nat.gcd g n.natAbs : Nat)) (decl_name%.eq (by rw [ea])) k)) ss_nil) fun ρ' s' => ⟨r, Nat.gcd g n.natAbs, rfl, fun m hm => hb' m (List.mem_cons_of_mem _ hm), hg, ?_, sub_cons s'.get sub_nil⟩⟩
        rcases Nat.eq_zero_or_pos g with z | z
        . subst z; rw [Nat.gcd_zero_left]; exact hn
        . exact Nat.lt_of_le_of_lt (Nat.le_of_dvd z (Nat.gcd_dvd_left _ _)) hlt
    . rintro ρ ⟨r, g, hr, hb', hg, hlt, s⟩
      cases r with
      | nil =>
        rw [<- hg]
        exact rt_sub s decl_name%
      | cons n r => cases hr
  . exact (okr_st h).elim
def X_shortened : Fx := Tb [] [] BL IL ML TL noSl
def R_shortened : List D -> Rs D := runD X_shortened (defScope (top 10)) ["numbers", "divisor"] (defBody (top 10))
def X_place_by : Fx := Tb [("each_with", R_each_with), ("common_divisor", S_common_divisor), ("shortened", R_shortened)] [] BL IL ML TL noSl
def R_place_by : List D -> Rs D := runD X_place_by (defScope (top 15)) ["table", "spot"] (defBody (top 15))
theorem place_rest (n X Y Z G : Int) (hG : divOk G) : Okr (exSs X_place_by ((defBody (top 15)).drop 3) (defScope (top 15)) (envL [("n", .int n, false), ("brought", d3 X Y Z, true), ("common", .int G, true)])) (.rt (.tup [.int (n.fdiv G), d3 (X.fdiv G) (Y.fdiv G) (Z.fdiv G)])) := okr_of rfl (by walk_at "ob")
theorem place_g {n a b c d e f g h i x y z : Int} (hn : 0 < n) (nb : n.natAbs < big) (ab : a.natAbs < big) (bb : b.natAbs < big) (cb : c.natAbs < big) (db : d.natAbs < big) (eb : e.natAbs < big) (fb : f.natAbs < big) (gb : g.natAbs < big) (hb : h.natAbs < big) (ib : i.natAbs < big) (xb : x.natAbs < big) (yb : y.natAbs < big) (zb : z.natAbs < big)
    (hT : okT ([n, dot a b c x y z, dot d e f x y z, dot g h i x y z].map D.int)) : Okr (R_place_by [.tup [.int n, .tup [d3 a b c, d3 d e f, d3 g h i]], d3 x y z]) (.tup [.int (n.fdiv (gI [n, dot a b c x y z, dot d e f x y z, dot g h i x y z])), d3 ((dot a b c x y z).fdiv (gI [n, dot a b c x y z, dot d e f x y z, dot g h i x y z])) ((dot d e f x y z).fdiv (gI [n, dot a b c x y z, dot d e f x y z, dot g h i x y z])) ((dot g h i x y z).fdiv (gI [n, dot a b c x y z, dot d e f x y z, dot g h i x y z]))]) := by
  have h0 : 0 < gI [n, dot a b c x y z, dot d e f x y z, dot g h i x y z] := gI_pos (n := n) (by simp) (by omega)
  have hd : divOk (gI [n, dot a b c x y z, dot d e f x y z, dot g h i x y z]) := ⟨by omega, Nat.lt_of_le_of_lt (gI_le (n := n) (by simp) (by omega)) nb⟩
  rw [<- gcdD_eq] at hd ⊢
  exact run_i (ss_cut 3 decl_name% (rt_sub (sub_cons rfl (sub_cons rfl (sub_cons rfl sub_nil))) (place_rest n _ _ _ _ hd)))
def X_Deed_place : Fx := Tbo [("place_by", R_place_by)] [] BL IL ML TL noSl [("Turn", ["fractions"])] []
def R_Deed_place : List D -> Rs D := runD X_Deed_place (defScope (clsAt (top 20) 2)) ["self", "spot"] (defBody (clsAt (top 20) 2))
theorem dplace_q {w r t s d : D} (h : Okr (R_place_by [t, s]) d) : Okr (R_Deed_place [.obj "Turn" ["word", "row", "fractions"] [w, r, t], s]) d := run_i (ss_rt (ex_ret (ev_call decl_name% h)))
def X_l_along : Fx := Tbo [] [] BL IL ML TL noSl [] [("Turn", [("place", R_Deed_place)])]
def R_l_along : List D -> Rs D := runD X_l_along (defScope (top 36)) ["_law_turns", "_law_spot_here"] (defBody (top 36))
theorem tplace {T : T9} {x y z : Int} {k j : Nat} (hn : 0 < T.n) (b : T.bd k) (hx : x.natAbs <= 2 ^ j) (hy : y.natAbs <= 2 ^ j) (hz : z.natAbs <= 2 ^ j) (hk : k + j <= 900) : ∃ m X Y Z g : Int, Plc T x y z m X Y Z g /\ (m.natAbs <= 2 ^ k /\ X.natAbs <= 2 ^ (k + j + 2) /\ Y.natAbs <= 2 ^ (k + j + 2) /\ Z.natAbs <= 2 ^ (k + j + 2)) /\ Okr (R_place_by [T.D, d3 x y z]) (.tup [.int m, d3 X Y Z]) := by
  have B : ∀ t ∈ T.l, t.natAbs < big := fun t ht => big_le (b t ht) (by omega)
  have d3b : ∀ {a b c : Int}, a ∈ T.l -> b ∈ T.l -> c ∈ T.l -> (dot a b c x y z).natAbs <= 2 ^ (k + j + 2) := fun ha hb' hc => by
    have k1 : ∀ {u v : Int}, u.natAbs <= 2 ^ k -> v.natAbs <= 2 ^ j -> (u * v).natAbs <= 2 ^ (k + j) := fun hu hv => by rw [Int.natAbs_mul, Nat.pow_add]; exact Nat.mul_le_mul hu hv
    have p1 := k1 (b _ ha) hx; have p2 := k1 (b _ hb') hy; have p3 := k1 (b _ hc) hz
    have e4 : 2 ^ (k + j + 2) = 4 * 2 ^ (k + j) := by rw [Nat.pow_succ, Nat.pow_succ]; omega
    rw [e4]; unfold dot
    generalize 2 ^ (k + j) = M at *
    omega
  have bx := d3b (a := T.a) (b := T.b) (c := T.c) (by simp [T9.l]) (by simp [T9.l]) (by simp [T9.l])
  have bY := d3b (a := T.d) (b := T.e) (c := T.f) (by simp [T9.l]) (by simp [T9.l]) (by simp [T9.l])
  have bz := d3b (a := T.g) (b := T.h) (c := T.i) (by simp [T9.l]) (by simp [T9.l]) (by simp [T9.l])
  have hT : okT ([T.n, dot T.a T.b T.c x y z, dot T.d T.e T.f x y z, dot T.g T.h T.i x y z].map D.int) := okT_of (k := k + j + 2) (by omega) (Nat.le_of_ble_eq_true rfl) (by
    intro t ht
    simp only [List.mem_cons, List.not_mem_nil, or_false] at ht
    rcases ht with rfl | rfl | rfl | rfl
    . exact Nat.le_trans (b _ T.mem_n) (Nat.pow_le_pow_right (by decide) (by omega))
    . exact bx
    . exact bY
    . exact bz)
  have h := place_g hn (B _ T.mem_n) (B T.a (by simp [T9.l])) (B T.b (by simp [T9.l])) (B T.c (by simp [T9.l])) (B T.d (by simp [T9.l])) (B T.e (by simp [T9.l])) (B T.f (by simp [T9.l])) (B T.g (by simp [T9.l])) (B T.h (by simp [T9.l])) (B T.i (by simp [T9.l])) (big_le hx (by omega)) (big_le hy (by omega)) (big_le hz (by omega)) hT
  have pc := plc_of hn x y z
  exact ⟨_, _, _, _, _, pc, ⟨Nat.le_trans (fdiv_nb pc.pos) (b _ T.mem_n), Nat.le_trans (fdiv_nb pc.pos) bx, Nat.le_trans (fdiv_nb pc.pos) bY, Nat.le_trans (fdiv_nb pc.pos) bz⟩, h⟩
abbrev okp (p : Qd) : Prop := PmQ p /\ ltQ (2 ^ 5) p
theorem along_q {ps : List Qd} {V : Qd} (hp : ∀ p ∈ ps, okp p) (hl : ps.length <= 12) (hc : Chn qone ps V) {x y z : Int} {j0 : Nat} (hj : j0 <= 300) (hx : x.natAbs <= 2 ^ j0) (hy : y.natAbs <= 2 ^ j0) (hz : z.natAbs <= 2 ^ j0) : ∃ d, Okr (R_l_along [.lst (ps.map trnQ), d3 x y z]) d /\ ∃ n X Y Z : Int, d = .tup [.int n, d3 X Y Z] /\ Fr (tq V) x y z n X Y Z /\ n.natAbs <= 2 ^ 200 /\ X.natAbs <= 2 ^ (j0 + 200) /\ Y.natAbs <= 2 ^ (j0 + 200) /\ Z.natAbs <= 2 ^ (j0 + 200) := by
  refine run_x (cut_x 1 decl_name% (ss_forR (ds := ps.map trnQ) (fun rem ρ => ∃ (rest : List Qd) (W : Qd) (n X Y Z : Int) (i : Nat) (f : Bool), rem = rest.map trnQ /\ (∀ p ∈ rest, okp p) /\ i + rest.length <= 12 /\ Chn W rest V /\ Fr (tq W) x y z n X Y Z /\ n.natAbs <= 2 ^ (13 * i) /\ X.natAbs <= 2 ^ (j0 + 15 * i) /\ Y.natAbs <= 2 ^ (j0 + 15 * i) /\ Z.natAbs <= 2 ^ (j0 + 15 * i) /\ Sub (envL [("_law_n", .int n, true), ("_law_spot_here", d3 X Y Z, f)]) ρ) _ decl_name% ⟨ps, qone, 1, x, y, z, 0, false, rfl, hp, by omega, hc, fr_one x y z, by decide, hx, hy, hz, (sub_cons rfl (sub_cons rfl sub_nil))⟩ ?_ ?_ rfl (kn1 (.lst (ps.map trnQ)))))
  . rintro d rem ρ ⟨rest, W, n, X, Y, Z, i, f, hr, hk, hi, hC, hF, nb, Xb, Yb, Zb, s⟩
    cases rest with
    | nil => cases hr
    | cons p rest =>
      cases hr
      simp only [List.length_cons] at hi
      obtain ⟨hpp, hlt⟩ := hk p List.mem_cons_self
      obtain ⟨m0, W', hm0, e, pW, hC'⟩ := hC
      obtain ⟨m, X', Y', Z', g, P, ⟨mb, Xb', Yb', Zb'⟩, hP⟩ := tplace (T9.lown (tq_pos hpp.ne)) (T9.bd_low (tq_pos hpp.ne) (tq_bd hlt)) Xb Yb Zb (by omega)
      have nB := big_le nb (by omega)
      have mB := big_le mb (by omega)
      have up : ∀ {t : Int}, t.natAbs <= 2 ^ (5 + 5 + 3 + (j0 + 15 * i) + 2) -> t.natAbs <= 2 ^ (j0 + 15 * (i + 1)) := fun h => Nat.le_trans h (Nat.pow_le_pow_right (by decide) (by omega))
      refine ⟨_, rfl, .inl (nx_sub (s.put _ _) (ss_nx (ex_set (ev_meth decl_name% decl_name% rfl (dplace_q hP))) decl_name%) fun ρ' s' => ⟨rest, W', n * m, X', Y', Z', i + 1, true, rfl, fun q hq => hk q (List.mem_cons_of_mem _ hq), by omega, hC', fr_turn hm0 e hpp hF P, ?_, up Xb', up Yb', up Zb', (sub_cons s'.get (sub_cons s'.get sub_nil))⟩)⟩
      rw [Int.natAbs_mul, show 13 * (i + 1) = 13 * i + 13 by omega, Nat.pow_add]
      exact Nat.mul_le_mul nb mb
  . rintro ρ ⟨rest, W, n, X, Y, Z, i, f, hr, hk, hi, hC, hF, nb, Xb, Yb, Zb, s⟩
    cases rest with
    | cons p rest => cases hr
    | nil =>
      have eV : V = W := hC
      subst eV
      have up : ∀ {t : Int} {a b : Nat}, a <= b -> t.natAbs <= 2 ^ a -> t.natAbs <= 2 ^ b := fun h h' => Nat.le_trans h' (Nat.pow_le_pow_right (by decide) h)
      simp only [List.length_nil] at hi
      exact ⟨_, rt_sub s decl_name%, n, X, Y, Z, rfl, hF, up (by omega) nb, up (by omega) Xb, up (by omega) Yb, up (by omega) Zb⟩
def X_l_row : Fx := Tb [("_law_cell", S_l_cell)] [] BL IL ML TL noSl
def R_l_row : List D -> Rs D := runD X_l_row (defScope (top 35)) ["_law_script", "_law_at"] (defBody (top 35))
theorem row_q {L : List D} (hl : okL L) (at' : Int) : ∃ (k : Int) (p : Qd), k ≠ 0 /\ PmQ p /\ ltQ (2 ^ 5) (kq k p) /\ Okr (R_l_row [.lst L, .int at']) (dq (kq k p)) := by
  have fin : ∀ {a b c d : Int}, a.natAbs <= 2 ^ 5 -> b.natAbs <= 2 ^ 5 -> c.natAbs <= 2 ^ 5 -> d.natAbs <= 2 ^ 5 -> ¬ (a = 0 /\ b = 0 /\ c = 0 /\ d = 0) -> Okr (R_l_row [.lst L, .int at']) (t4 a b c d) -> ∃ (k : Int) (p : Qd), k ≠ 0 /\ PmQ p /\ ltQ (2 ^ 5) (kq k p) /\ Okr (R_l_row [.lst L, .int at']) (dq (kq k p)) := fun ha hb hc hd h0 h => by
    obtain ⟨k, a', b', c', d', hk, rfl, rfl, rfl, rfl, p, _⟩ := prim_of h0
    exact ⟨k, (a', b', c', d'), hk, p, ⟨ha, hb, hc, hd⟩, h⟩
  have v : ∀ c : Int, (c.fmod 61 - 30).natAbs <= 2 ^ 5 := fun c => by
    have h0 := Int.fmod_nonneg_of_pos c (show (0 : Int) < 61 by decide)
    have h1 := Int.fmod_lt_of_pos c (show (0 : Int) < 61 by decide)
    show _ <= 32
    omega
  have v0 := v (cel L (at' + 0)); have v1 := v (cel L (at' + 1)); have v2 := v (cel L (at' + 2)); have v3 := v (cel L (at' + 3))
  have run : ∀ {r : D}, Okr (exSs X_l_row ((defBody (top 35)).drop 1) (defScope (top 35)) (envL [("_law_script", .lst L, false), ("_law_at", .int at', false), ("_law_found", .lst [.int ((cel L (at' + 0)).fmod 61 - 30), .int ((cel L (at' + 1)).fmod 61 - 30), .int ((cel L (at' + 2)).fmod 61 - 30), .int ((cel L (at' + 3)).fmod 61 - 30)], true)])) (.rt r) -> Okr (R_l_row [.lst L, .int at']) r := fun h => run_i (ss_cut 1 decl_name% (rt_sub (sub_cons rfl (sub_cons rfl (sub_cons rfl sub_nil))) h))
  generalize (cel L (at' + 0)).fmod 61 - 30 = a at *
  generalize (cel L (at' + 1)).fmod 61 - 30 = b at *
  generalize (cel L (at' + 2)).fmod 61 - 30 = c at *
  generalize (cel L (at' + 3)).fmod 61 - 30 = d at *
  by_cases h : a = 0 /\ b = 0 /\ c = 0 /\ d = 0
  . have j0 := Int.fmod_nonneg_of_pos ((cel L at').fdiv 61) (show (0 : Int) < 4 by decide)
    have j1 := Int.fmod_lt_of_pos ((cel L at').fdiv 61) (show (0 : Int) < 4 by decide)
    obtain ⟨a', b', c', d', hs, hP, hz⟩ := set4 j0 j1 a b c d 1
    obtain ⟨q1, q2, q3, q4⟩ := hP (fun x => x.natAbs <= 2 ^ 5) v0 v1 v2 v3 (by decide)
    refine fin q1 q2 q3 q4 (hz (by decide)) (run (ss_ifT (ev_not decl_name%) (by show (!(([a, b, c, d] : List Int).any fun n => n != 0)) = true; rw [any4]; simp [h]) (ss_nx (ex_put rfl decl_name% decl_name% hs rfl rfl) ?_)))
    exact rt_sub (show Sub (envL [("_law_found", .lst [.int a', .int b', .int c', .int d'], true)]) _ from sub_cons rfl sub_nil) decl_name%
  . exact fin v0 v1 v2 v3 h (run (ss_ifF (ev_not decl_name%) (by show (!(([a, b, c, d] : List Int).any fun n => n != 0)) = false; rw [any4]; simp [h]) decl_name%))
def X_lowest : Fx := Tb [("common_divisor", S_common_divisor), ("shortened", R_shortened)] [] BL IL ML TL noSl
def R_lowest : List D -> Rs D := runD X_lowest (defScope (top 14)) ["table"] (defBody (top 14))
theorem low_rest (n a b c d e f g h i G : Int) (hG : divOk G) : Okr (exSs X_lowest ((defBody (top 14)).drop 2) (defScope (top 14)) (envL [("n", .int n, false), ("rows", .tup [d3 a b c, d3 d e f, d3 g h i], false), ("common", .int G, true)])) (.rt (.tup [.int (n.fdiv G), .tup [d3 (a.fdiv G) (b.fdiv G) (c.fdiv G), d3 (d.fdiv G) (e.fdiv G) (f.fdiv G), d3 (g.fdiv G) (h.fdiv G) (i.fdiv G)]])) := okr_of rfl (by walk_at "ob")
theorem low_q {n a b c d e f g h i : Int} (hn : 0 < n) (nb : n.natAbs < big) (hT : okT ([n, a, b, c, d, e, f, g, h, i].map D.int)) : Okr (R_lowest [.tup [.int n, .tup [d3 a b c, d3 d e f, d3 g h i]]]) (.tup [.int (n.fdiv (gI [n, a, b, c, d, e, f, g, h, i])), .tup [d3 (a.fdiv (gI [n, a, b, c, d, e, f, g, h, i])) (b.fdiv (gI [n, a, b, c, d, e, f, g, h, i])) (c.fdiv (gI [n, a, b, c, d, e, f, g, h, i])), d3 (d.fdiv (gI [n, a, b, c, d, e, f, g, h, i])) (e.fdiv (gI [n, a, b, c, d, e, f, g, h, i])) (f.fdiv (gI [n, a, b, c, d, e, f, g, h, i])), d3 (g.fdiv (gI [n, a, b, c, d, e, f, g, h, i])) (h.fdiv (gI [n, a, b, c, d, e, f, g, h, i])) (i.fdiv (gI [n, a, b, c, d, e, f, g, h, i]))]]) := by
  have h0 : 0 < gI [n, a, b, c, d, e, f, g, h, i] := gI_pos (n := n) (by simp) (by omega)
  have hd : divOk (gI [n, a, b, c, d, e, f, g, h, i]) := ⟨by omega, Nat.lt_of_le_of_lt (gI_le (n := n) (by simp) (by omega)) nb⟩
  rw [<- gcdD_eq] at hd ⊢
  exact run_i (ss_cut 2 decl_name% (rt_sub (sub_cons rfl (sub_cons rfl (sub_cons rfl sub_nil))) (low_rest n _ _ _ _ _ _ _ _ _ _ hd)))
def X_behind : Fx := Tb [("lowest", R_lowest), ("each_with", R_each_with)] [] BL IL ML TL noSl
def R_behind : List D -> Rs D := runLZ X_behind (defScope (top 17)) ["first", "second"] ((defBody (top 17)).take 2) (lzArgs ((defBody (top 17)).getD 2 (.Pass ⟨0, 0, 0, 0⟩))) (lzName ((defBody (top 17)).getD 2 (.Pass ⟨0, 0, 0, 0⟩))) ((defBody (top 17)).drop 3)
theorem beh_q {A B : T9} {k m : Nat} (ha : 0 < A.n) (hb : 0 < B.n) (bA : A.bd k) (bB : B.bd m) (hk : k + m <= 990) : Okr (R_behind [A.D, B.D]) (A.bh B).low.D := by
  have hkm : ∀ {x : Int}, x.natAbs <= 2 ^ k -> x.natAbs < big := fun h => big_le h (by omega)
  have hmm : ∀ {x : Int}, x.natAbs <= 2 ^ m -> x.natAbs < big := fun h => big_le h (by omega)
  have An' := hkm (bA A.n (by simp [T9.l]))
  have Bn' := hmm (bB B.n (by simp [T9.l]))
  have Aa' := hkm (bA A.a (by simp [T9.l]))
  have Ba' := hmm (bB B.a (by simp [T9.l]))
  have Ab' := hkm (bA A.b (by simp [T9.l]))
  have Bb' := hmm (bB B.b (by simp [T9.l]))
  have Ac' := hkm (bA A.c (by simp [T9.l]))
  have Bc' := hmm (bB B.c (by simp [T9.l]))
  have Ad' := hkm (bA A.d (by simp [T9.l]))
  have Bd' := hmm (bB B.d (by simp [T9.l]))
  have Ae' := hkm (bA A.e (by simp [T9.l]))
  have Be' := hmm (bB B.e (by simp [T9.l]))
  have Af' := hkm (bA A.f (by simp [T9.l]))
  have Bf' := hmm (bB B.f (by simp [T9.l]))
  have Ag' := hkm (bA A.g (by simp [T9.l]))
  have Bg' := hmm (bB B.g (by simp [T9.l]))
  have Ah' := hkm (bA A.h (by simp [T9.l]))
  have Bh' := hmm (bB B.h (by simp [T9.l]))
  have Ai' := hkm (bA A.i (by simp [T9.l]))
  have Bi' := hmm (bB B.i (by simp [T9.l]))
  have hbd := T9.bd_bh bA bB
  have hL := low_q (T9.bhn ha hb) (big_le (hbd _ (A.bh B).mem_n) (by omega)) (T9.okT (by omega) hbd)
  exact okr_lz rfl decl_name% decl_name% (okr_of rfl ⟨rfl, True.intro⟩) (ss_rt (ex_ret (ev_call decl_name% hL)))
def X_l_divisor : Fx := Tb [] [] BL IL ML TL noSl
def R_l_divisor : List D -> Rs D := runD X_l_divisor (defScope (top 30)) ["_law_numbers"] (defBody (top 30))
def S_l_divisor : List D -> Rs D
  | [.lst l] => .ok (.int (gcdD l)) [okT l]
  | [.tup l] => .ok (.int (gcdD l)) [okT l]
  | _ => .st
theorem div_rest (g : Nat) (x : Int) (f : Bool) (hx : x.natAbs = g) : Okr (exSs X_l_divisor ((defBody (top 30)).drop 2) (defScope (top 30)) (envL [("_law_found", .int x, f)])) (.rt (.int g)) := by
  have e : (if x < 0 then -x else x) = (g : Int) := by omega
  rw [<- e]
  exact okr_of rfl (by walk_at "ob")
theorem S_l_divisor_ok : ∀ ds r, Okr (S_l_divisor ds) r -> Okr (R_l_divisor ds) r := by
  intro ds r h
  unfold S_l_divisor at h
  split at h
  . obtain ⟨rfl, ⟨ns, rfl, hl, hb⟩, _⟩ := okr_inv h
    rw [gcdD_map]
    refine run_i (ss_cut 1 decl_name% (ss_forN (ds := ns.map D.int) (fun rem ρ => ∃ (r : List Int) (x : Int) (f : Bool), rem = r.map D.int /\ (∀ n ∈ r, n.natAbs < 2 ^ 1000) /\ gcdF x.natAbs r = gcdF 0 ns /\ x.natAbs < 2 ^ 1000 /\ Sub (envL [("_law_found", .int x, f)]) ρ) decl_name% ⟨ns, 0, true, rfl, hb, rfl, Nat.pow_pos (by decide), sub_cons rfl sub_nil⟩ ?_ ?_ rfl (kn1 (.lst (ns.map D.int)))))
    . rintro d l ρ ⟨r, x, f, hr, hb', hg, hlt, s⟩
      cases r with
      | nil => cases hr
      | cons n r =>
        cases hr
        have hn := hb' n List.mem_cons_self
        refine ⟨_, rfl, wh_ex (m := 3000) (fun m ρ => ∃ (u v : Int) (f1 f2 : Bool), EuS u v m /\ u.natAbs < 2 ^ 1000 /\ v.natAbs < 2 ^ 1000 /\ Nat.gcd u.natAbs v.natAbs = Nat.gcd x.natAbs n.natAbs /\ Sub (envL [("_law_found", .int u, f1), ("_law_other", .int v, f2)]) ρ) ⟨x, n, f, false, .inl rfl, hlt, hn, rfl, sub_cons (s.put _ _).get (sub_cons (s.put _ _).get sub_nil)⟩ (by decide) ?_ ?_⟩
        . rintro m ρ ⟨u, v, f1, f2, hm, hu, hv, hg', s⟩
          refine ⟨!decide (v = 0), 0, ev_sub s (decl_name%.bl (by show (!eqD (.int v) (.int 0)) = _; rw [eqD_i])), fun ht => ?_⟩
          have h0 : v ≠ 0 := by simpa using ht
          obtain ⟨⟨m', hm', hE⟩, hgc, hlt'⟩ := eus_step hm h0 hv
          exact wh_step hm' (nx_sub s decl_name% fun ρ' s' => ⟨v, u.fmod v, false, false, hE, hv, hlt', by rw [hgc, hg'], sub_cons s'.get (sub_cons s'.get sub_nil)⟩)
        . rintro m ρ ⟨u, v, f1, f2, hm, hu, hv, hg', s⟩ ⟨k, hk⟩
          have e := hk.inj (ev_sub s decl_name%)
          have h0 : v = 0 := by
            have e1 : (!eqD (.int v) (.int 0)) = false := by injection e with e1 e2; injection e1 with e1; exact e1.symm
            rw [eqD_i] at e1
            simpa using e1
          subst h0
          have hg' : u.natAbs = Nat.gcd x.natAbs n.natAbs := by rw [<- hg']; simp
          exact ⟨r, u, f1, rfl, fun m hm => hb' m (List.mem_cons_of_mem _ hm), by rw [hg']; exact hg, hu, sub_cons s.get sub_nil⟩
    . rintro ρ ⟨r, x, f, hr, hb', hg, hlt, s⟩
      cases r with
      | nil =>
        rw [<- hg]
        exact rt_sub s (div_rest _ _ _ rfl)
      | cons n r => cases hr
  . obtain ⟨rfl, ⟨ns, rfl, hl, hb⟩, _⟩ := okr_inv h
    rw [gcdD_map]
    refine run_i (ss_cut 1 decl_name% (ss_forN (ds := ns.map D.int) (fun rem ρ => ∃ (r : List Int) (x : Int) (f : Bool), rem = r.map D.int /\ (∀ n ∈ r, n.natAbs < 2 ^ 1000) /\ gcdF x.natAbs r = gcdF 0 ns /\ x.natAbs < 2 ^ 1000 /\ Sub (envL [("_law_found", .int x, f)]) ρ) decl_name% ⟨ns, 0, true, rfl, hb, rfl, Nat.pow_pos (by decide), sub_cons rfl sub_nil⟩ ?_ ?_ rfl (kn1 (.tup (ns.map D.int)))))
    . rintro d l ρ ⟨r, x, f, hr, hb', hg, hlt, s⟩
      cases r with
      | nil => cases hr
      | cons n r =>
        cases hr
        have hn := hb' n List.mem_cons_self
        refine ⟨_, rfl, wh_ex (m := 3000) (fun m ρ => ∃ (u v : Int) (f1 f2 : Bool), EuS u v m /\ u.natAbs < 2 ^ 1000 /\ v.natAbs < 2 ^ 1000 /\ Nat.gcd u.natAbs v.natAbs = Nat.gcd x.natAbs n.natAbs /\ Sub (envL [("_law_found", .int u, f1), ("_law_other", .int v, f2)]) ρ) ⟨x, n, f, false, .inl rfl, hlt, hn, rfl, sub_cons (s.put _ _).get (sub_cons (s.put _ _).get sub_nil)⟩ (by decide) ?_ ?_⟩
        . rintro m ρ ⟨u, v, f1, f2, hm, hu, hv, hg', s⟩
          refine ⟨!decide (v = 0), 0, ev_sub s (decl_name%.bl (by show (!eqD (.int v) (.int 0)) = _; rw [eqD_i])), fun ht => ?_⟩
          have h0 : v ≠ 0 := by simpa using ht
          obtain ⟨⟨m', hm', hE⟩, hgc, hlt'⟩ := eus_step hm h0 hv
          exact wh_step hm' (nx_sub s decl_name% fun ρ' s' => ⟨v, u.fmod v, false, false, hE, hv, hlt', by rw [hgc, hg'], sub_cons s'.get (sub_cons s'.get sub_nil)⟩)
        . rintro m ρ ⟨u, v, f1, f2, hm, hu, hv, hg', s⟩ ⟨k, hk⟩
          have e := hk.inj (ev_sub s decl_name%)
          have h0 : v = 0 := by
            have e1 : (!eqD (.int v) (.int 0)) = false := by injection e with e1 e2; injection e1 with e1; exact e1.symm
            rw [eqD_i] at e1
            simpa using e1
          subst h0
          have hg' : u.natAbs = Nat.gcd x.natAbs n.natAbs := by rw [<- hg']; simp
          exact ⟨r, u, f1, rfl, fun m hm => hb' m (List.mem_cons_of_mem _ hm), by rw [hg']; exact hg, hu, sub_cons s.get sub_nil⟩
    . rintro ρ ⟨r, x, f, hr, hb', hg, hlt, s⟩
      cases r with
      | nil =>
        rw [<- hg]
        exact rt_sub s (div_rest _ _ _ rfl)
      | cons n r => cases hr
  . exact (okr_st h).elim
def X_l_told : Fx := Tb [("_law_divisor", S_l_divisor)] [] BL IL ML TL noSl
def R_l_told : List D -> Rs D := runD X_l_told (defScope (top 34)) ["_law_numbers"] (defBody (top 34))
theorem told_rest (x y z w K : Int) (hK : divOk K) : Okr (exSs X_l_told ((defBody (top 34)).drop 3) (defScope (top 34)) (envL [("_law_numbers", t4 x y z w, false), ("_law_by", .int K, true)])) (.rt (t4 (x.fdiv K) (y.fdiv K) (z.fdiv K) (w.fdiv K))) := okr_of rfl (by walk_at "ob")
theorem told_q {k a b c d : Int} (hk : k ≠ 0) (p : Pm a b c d) (hT : okT (([k * a, k * b, k * c, k * d] : List Int).map D.int)) (kb : k.natAbs < big) : Okr (R_l_told [t4 (k * a) (k * b) (k * c) (k * d)]) (t4 a b c d) := by
  have hn : ¬ (k * a = 0 /\ k * b = 0 /\ k * c = 0 /\ k * d = 0) := fun z => p.ne ⟨(Int.mul_eq_zero.mp z.1).resolve_left hk, (Int.mul_eq_zero.mp z.2.1).resolve_left hk, (Int.mul_eq_zero.mp z.2.2.1).resolve_left hk, (Int.mul_eq_zero.mp z.2.2.2).resolve_left hk⟩
  have hg : gcdD (([k * a, k * b, k * c, k * d] : List Int).map D.int) = k.natAbs := by rw [gcdD_eq]; exact k_abs hk p
  have hl := led_at hn
  rw [led4_mul _ _ _ _ hk] at hl
  have pos := p.pos
  have fd : ∀ x : Int, (k * x).fdiv k = x := fun x => Int.mul_fdiv_cancel_left x hk
  have fin := told_rest (k * a) (k * b) (k * c) (k * d) k ⟨hk, kb⟩
  rw [fd, fd, fd, fd] at fin
  have hD : Okr (S_l_divisor [t4 (k * a) (k * b) (k * c) (k * d)]) (.int (k.natAbs : Nat)) := ⟨[okT (([k * a, k * b, k * c, k * d] : List Int).map D.int)], by rw [<- hg]; rfl, hT, True.intro⟩
  refine run_i (ss_nx (ex_set (d := .int (k.natAbs : Nat)) (ev_call decl_name% hD)) (ss_nx (ex_set (d := .int (k * led4 a b c d)) (ev_ix (k := 0) (ev_comp (out := ((([k * a, k * b, k * c, k * d] : List Int).filter fun t => !decide (t = 0)).map D.int)) (j := 0) decl_name% (ds := ([k * a, k * b, k * c, k * d] : List Int).map D.int) rfl ⟨Nat.le_of_ble_eq_true rfl, .inl rfl⟩ (compD_filter (g := D.int) (f := D.int) (c := fun t => !decide (t = 0)) (fun x _ => ?_)) (Nat.zero_le 1)) decl_name% rfl hl)) ?_))
  . refine Okr.bnd (a := !decide (x = 0)) (evb_and (b := !decide (x = 0)) (c := !decide (x = 0)) (decl_name%.bl (by show (!eqD (.int x) (.int 0)) = _; rw [eqD_i])) (fun h => by rw [h]; exact evb_at) id) ?_
    cases decide (x = 0)
    . exact Okr.bnd decl_name% ok1
    . exact ok1
  . rcases Int.lt_or_gt_of_ne hk with q | q
    . have hlt : k * led4 a b c d < 0 := Int.mul_neg_of_neg_of_pos q pos
      refine ss_ifT decl_name% (decide_eq_true hlt) (ss_nx (ex_set (d := .int (0 - (k.natAbs : Int))) decl_name%) ?_)
      have ek : 0 - (k.natAbs : Int) = k := by omega
      rw [ek]
      exact rt_sub (sub_cons rfl (sub_cons rfl sub_nil)) fin
    . have hge : ¬ k * led4 a b c d < 0 := by have := Int.mul_pos q pos; omega
      refine ss_ifF decl_name% (decide_eq_false hge) ?_
      have ek : (k.natAbs : Int) = k := by omega
      rw [ek]
      exact rt_sub (sub_cons rfl (sub_cons rfl sub_nil)) fin
def X_l_whole : Fx := Tb [] [] BL IL ML TL noSl
def R_l_whole : List D -> Rs D := runD X_l_whole (defScope (top 27)) ["_law_x"] (defBody (top 27))
def X_l_tuple : Fx := Tb [("_law_whole", R_l_whole)] [] BL IL ML TL noSl
def R_l_tuple : List D -> Rs D := runD X_l_tuple (defScope (top 28)) ["_law_found", "_law_many"] (defBody (top 28))
def X_l_place : Fx := Tb [("_law_whole", R_l_whole), ("_law_tuple", R_l_tuple), ("_law_divisor", S_l_divisor)] [] BL IL ML TL noSl
def R_l_place : List D -> Rs D := runD X_l_place (defScope (top 32)) ["_law_found", "_law_n", "_law_brought"] (defBody (top 32))
theorem lp_t {m p q r n X Y Z : Int} (hm : 0 < m) (h1 : gI [m, p, q, r] = 1) (e1 : p * n = X * m) (e2 : q * n = Y * m) (e3 : r * n = Z * m) (mb : m.natAbs <= 2 ^ 400) (pb : p.natAbs <= 2 ^ 400) (qb : q.natAbs <= 2 ^ 400) (rb : r.natAbs <= 2 ^ 400) (nb : n.natAbs <= 2 ^ 400) (Xb : X.natAbs <= 2 ^ 400) (Yb : Y.natAbs <= 2 ^ 400) (Zb : Z.natAbs <= 2 ^ 400) :
    Okr (R_l_place [.tup [.int m, d3 p q r], .int n, d3 X Y Z]) (.bl true) := by
  have hT : okT ([m, p, q, r].map D.int) := okT_of (k := 400) (by decide) (Nat.le_of_ble_eq_true rfl) (by
    intro x hx
    simp only [List.mem_cons, List.not_mem_nil, or_false] at hx
    rcases hx with rfl | rfl | rfl | rfl <;> assumption)
  have mB := big_le mb (by decide)
  have pB := big_le pb (by decide)
  have qB := big_le qb (by decide)
  have rB := big_le rb (by decide)
  have nB := big_le nb (by decide)
  have XB := big_le Xb (by decide)
  have YB := big_le Yb (by decide)
  have ZB := big_le Zb (by decide)
  rw [<- gcdD_eq] at h1
  refine run_i (ss_ifF (ev_bop (evb_f decl_name% (evb_f decl_name% (evb_f decl_name% (evb_f (decl_name%.bl (c := false) (decide_eq_false (show ¬ m < 1 by omega))) evb_of))))) rfl (ss_ifF (ev_bop (evb_f decl_name% (evb_f (decl_name%.bl (c := false) (by show (!eqD (.int (gcdD ([m, p, q, r].map D.int))) (.int 1)) = false; rw [h1]; rfl)) evb_of))) rfl (Okr.eq decl_name% ?_)))
  show Fl.rt (.bl (eqD (.lst [.int (p * n), .int (q * n), .int (r * n)]) (.lst [.int (X * m), .int (Y * m), .int (Z * m)]))) = _
  rw [e1, e2, e3]
  show Fl.rt (.bl (X * m == X * m && (Y * m == Y * m && (Z * m == Z * m && true)))) = _
  simp
def X_stays : Fx := Tbo [] [] BL IL ML TL noSl [] [("Turn", [("place", R_Deed_place)])]
def R_stays : List D -> Rs D := runD X_stays (defScope (top 23)) ["turn", "spot"] (defBody (top 23))
theorem stays_q {w r t s v : D} {m : Int} (h : Okr (R_Deed_place [.obj "Turn" ["word", "row", "fractions"] [w, r, t], s]) (.tup [.int m, v])) : Okr (R_stays [.obj "Turn" ["word", "row", "fractions"] [w, r, t], s]) (.bl (decide (m = 1))) :=
  run_i (ss_rt (ex_ret (ev_cmp (ev_ix (ev_meth decl_name% decl_name% rfl h) decl_name% rfl rfl) decl_name% (Okr.eq decl_name% (eqD_i _ _)))))
def X_l_whole_way : Fx := Tbo [("stays", R_stays)] [] BL IL ML TL noSl [] [("Turn", [("place", R_Deed_place)])]
def R_l_whole_way : List D -> Rs D := runD X_l_whole_way (defScope (top 37)) ["_law_turns", "_law_spot_here"] (defBody (top 37))
theorem way_q {ps : List Qd} (hp : ∀ p ∈ ps, okp p) (hl : ps.length <= 12) {a b c : Int} (ha : a.natAbs <= 2 ^ 70) (hb : b.natAbs <= 2 ^ 70) (hc : c.natAbs <= 2 ^ 70) (hC : (cpr ps).natAbs <= 2 ^ 160) : Okr (R_l_whole_way [.lst (ps.map trnQ), d3 (cpr ps * a) (cpr ps * b) (cpr ps * c)]) (.bl true) := by
  refine run_i (ss_forN (ds := ps.map trnQ) (fun rem ρ => ∃ (rest : List Qd) (a b c : Int) (i : Nat) (f : Bool), rem = rest.map trnQ /\ (∀ p ∈ rest, okp p) /\ i + rest.length <= 12 /\ (cpr rest).natAbs <= 2 ^ 160 /\ a.natAbs <= 2 ^ (70 + 15 * i) /\ b.natAbs <= 2 ^ (70 + 15 * i) /\ c.natAbs <= 2 ^ (70 + 15 * i) /\ Sub (envL [("_law_spot_here", d3 (cpr rest * a) (cpr rest * b) (cpr rest * c), f)]) ρ) decl_name% ⟨ps, a, b, c, 0, false, rfl, hp, by omega, hC, ha, hb, hc, (sub_cons rfl sub_nil)⟩ ?_ ?_ rfl (kn1 (.lst (ps.map trnQ))))
  . rintro d rem ρ ⟨rest, a, b, c, i, f, hr, hk, hi, hCb, ab, bb, cb, s⟩
    cases rest with
    | nil => cases hr
    | cons p rest =>
      cases hr
      simp only [List.length_cons] at hi
      obtain ⟨hpp, hlt⟩ := hk p List.mem_cons_self
      have hn := T9.lown (tq_pos hpp.ne)
      have tb := T9.bd_low (tq_pos hpp.ne) (tq_bd hlt)
      have sp : ∀ {t : Int}, t.natAbs <= 2 ^ (70 + 15 * i) -> (cpr (p :: rest) * t).natAbs <= 2 ^ (230 + 15 * i) := fun h => by
        rw [Int.natAbs_mul, show 230 + 15 * i = 160 + (70 + 15 * i) by omega, Nat.pow_add]
        exact Nat.mul_le_mul hCb h
      obtain ⟨m, X', Y', Z', g, P, _, hP⟩ := tplace hn tb (sp ab) (sp bb) (sp cb) (by omega)
      have hst : St (tq p).low (cpr (p :: rest) * a, cpr (p :: rest) * b, cpr (p :: rest) * c) := by
        obtain ⟨d1, d2, d3⟩ := d_mul (cpr (p :: rest)) (tq p).low a b c
        refine ⟨?_, ?_, ?_⟩
        . show _ ∣ (tq p).low.dx _ _ _; rw [d1, cpr, Int.mul_assoc]; exact Int.dvd_mul_right _ _
        . show _ ∣ (tq p).low.dy _ _ _; rw [d2, cpr, Int.mul_assoc]; exact Int.dvd_mul_right _ _
        . show _ ∣ (tq p).low.dz _ _ _; rw [d3, cpr, Int.mul_assoc]; exact Int.dvd_mul_right _ _
      have m1 : m = 1 := (st_plc P).mpr hst
      subst m1
      have eX : X' = cpr rest * (tq p).low.dx a b c /\ Y' = cpr rest * (tq p).low.dy a b c /\ Z' = cpr rest * (tq p).low.dz a b c := by
        obtain ⟨d1, d2, d3⟩ := d_mul (cpr (p :: rest)) (tq p).low a b c
        have en := P.en
        rw [Int.mul_one] at en
        have k : ∀ {u v w : Int}, w = g * u -> w = cpr (p :: rest) * v -> u = cpr rest * v := fun {u v w} h1 h2 => by
          refine canc P.pos ?_
          rw [<- h1, h2, cpr, <- en]; grind
        exact ⟨k P.ex d1, k P.ey d2, k P.ez d3⟩
      obtain ⟨e1, e2, e3⟩ := eX
      subst e1 e2 e3
      have hS := stays_q (w := .str "turn") (r := t4 p.1 p.2.1 p.2.2.1 p.2.2.2) (dplace_q hP)
      have dn : ∀ {u v w : Int}, u ∈ (tq p).low.l -> v ∈ (tq p).low.l -> w ∈ (tq p).low.l -> (dot u v w a b c).natAbs <= 2 ^ (70 + 15 * (i + 1)) := fun hu hv hw => Nat.le_trans (dot_bg (tb _ hu) (tb _ hv) (tb _ hw) ab bb cb) (Nat.pow_le_pow_right (by decide) (by omega))
      have hC2 : (cpr rest).natAbs <= 2 ^ 160 := by
        refine Nat.le_trans ?_ hCb
        rw [cpr, Int.natAbs_mul]
        exact Nat.le_mul_of_pos_left _ (by omega)
      refine ⟨_, rfl, nx_sub (s.put _ _) (ss_ifF (ev_cmp (x := .bl true) (y := .bl true) (ev_call decl_name% hS) decl_name% decl_name%) rfl (ss_nx (ex_set (d := d3 (cpr rest * (tq p).low.dx a b c) (cpr rest * (tq p).low.dy a b c) (cpr rest * (tq p).low.dz a b c)) (by exact ev_ix (ev_meth decl_name% decl_name% rfl (dplace_q hP)) decl_name% rfl rfl)) ss_nil)) fun ρ' s' => ⟨rest, (tq p).low.dx a b c, (tq p).low.dy a b c, (tq p).low.dz a b c, i + 1, true, rfl, fun q hq => hk q (List.mem_cons_of_mem _ hq), by omega, hC2, dn (by simp [T9.l]) (by simp [T9.l]) (by simp [T9.l]), dn (by simp [T9.l]) (by simp [T9.l]) (by simp [T9.l]), dn (by simp [T9.l]) (by simp [T9.l]) (by simp [T9.l]), sub_cons s'.get sub_nil⟩⟩
  . rintro ρ ⟨rest, a, b, c, i, f, hr, hk, hi, hCb, ab, bb, cb, s⟩
    exact rt_sub s decl_name%
def X_l_product : Fx := Tb [] [] BL IL ML TL noSl
def R_l_product : List D -> Rs D := runD X_l_product (defScope (top 31)) ["_law_one", "_law_other"] (defBody (top 31))
def S_l_product : List D -> Rs D := sp2 dQ dQ fun p q => .ok (dq (plnQ p q)) [bdQ p, bdQ q]
theorem S_l_product_ok : ∀ ds r, Okr (S_l_product ds) r -> Okr (R_l_product ds) r := by
  intro ds r h
  obtain ⟨p, q, rfl, h⟩ := sp2_inv h
  obtain ⟨rfl, hp, hq, _⟩ := okr_inv h
  obtain ⟨⟨a1, a2, a3, a4⟩, ⟨b1, b2, b3, b4⟩, ⟨c1, c2, c3, c4⟩, d1, d2, d3, d4⟩ := bd_mul hp hq
  exact okr_of rfl (by walk_at "ob")
def X_upright : Fx := Tb [("common_divisor", S_common_divisor), ("shortened", R_shortened)] [] BL IL ML TL noSl
def R_upright : List D -> Rs D := runD X_upright (defScope (top 11)) ["numbers"] (defBody (top 11))
theorem short_q (x y z w K : Int) (hK : divOk K) : Okr (R_shortened [t4 x y z w, .int K]) (t4 (x.fdiv K) (y.fdiv K) (z.fdiv K) (w.fdiv K)) := okr_of rfl (by walk_at "ob")
theorem upr_q {k a b c d : Int} (hk : k ≠ 0) (p : Pm a b c d) (hT : okT (([k * a, k * b, k * c, k * d] : List Int).map D.int)) (kb : k.natAbs < big) : Okr (R_upright [t4 (k * a) (k * b) (k * c) (k * d)]) (t4 a b c d) := by
  have hn : ¬ (k * a = 0 /\ k * b = 0 /\ k * c = 0 /\ k * d = 0) := fun z => p.ne ⟨(Int.mul_eq_zero.mp z.1).resolve_left hk, (Int.mul_eq_zero.mp z.2.1).resolve_left hk, (Int.mul_eq_zero.mp z.2.2.1).resolve_left hk, (Int.mul_eq_zero.mp z.2.2.2).resolve_left hk⟩
  have hg : gcdD (([k * a, k * b, k * c, k * d] : List Int).map D.int) = k.natAbs := by rw [gcdD_eq]; exact k_abs hk p
  have hl := led_at hn
  rw [led4_mul _ _ _ _ hk] at hl
  have pos := p.pos
  have fd : ∀ x : Int, (k * x).fdiv k = x := fun x => Int.mul_fdiv_cancel_left x hk
  have fin := short_q (k * a) (k * b) (k * c) (k * d) k ⟨hk, kb⟩
  rw [fd, fd, fd, fd] at fin
  have hD : Okr (S_common_divisor [t4 (k * a) (k * b) (k * c) (k * d)]) (.int (k.natAbs : Nat)) := ⟨[okT (([k * a, k * b, k * c, k * d] : List Int).map D.int)], by rw [<- hg]; rfl, hT, True.intro⟩
  have k0 : ¬ ((k.natAbs : Nat) : Int) = 0 := by omega
  refine run_i (ss_nx (ex_set (d := .int (k.natAbs : Nat)) (ev_call decl_name% hD)) (ss_ifF decl_name% ((eqD_i _ _).trans (decide_eq_false k0)) (ss_nx (ex_set (d := .int (k * led4 a b c d)) (ev_ix (k := 0) (ev_comp (out := ((([k * a, k * b, k * c, k * d] : List Int).filter fun t => !decide (t = 0)).map D.int)) (j := 0) decl_name% (ds := ([k * a, k * b, k * c, k * d] : List Int).map D.int) rfl ⟨Nat.le_of_ble_eq_true rfl, .inl rfl⟩ (compD_filter (g := D.int) (f := D.int) (c := fun t => !decide (t = 0)) (fun x _ => ?_)) (Nat.zero_le 1)) decl_name% rfl hl)) ?_)))
  . refine Okr.bnd (a := !decide (x = 0)) (evb_and (b := !decide (x = 0)) (c := !decide (x = 0)) (decl_name%.bl (by show (!eqD (.int x) (.int 0)) = _; rw [eqD_i])) (fun h => by rw [h]; exact evb_at) id) ?_
    cases decide (x = 0)
    . exact Okr.bnd decl_name% ok1
    . exact ok1
  . refine ss_rt (ex_ret (ev_call (evs_cons decl_name% (evs_cons (ev_if (r := (.int k, 0)) decl_name% (fun ht => ?_) (fun hf => ?_)) evs_nil)) fin))
    . have hlt : 0 < k * led4 a b c d := of_decide_eq_true ht
      have kp : 0 < k := by
        rcases Int.lt_or_gt_of_ne hk with q | q
        . have := Int.mul_neg_of_neg_of_pos q pos; omega
        . exact q
      exact Okr.eq decl_name% (by rw [show ((k.natAbs : Nat) : Int) = k by omega]; rfl)
    . have hge : ¬ 0 < k * led4 a b c d := of_decide_eq_false hf
      have kp : k < 0 := by
        rcases Int.lt_or_gt_of_ne hk with q | q
        . exact q
        . have := Int.mul_pos q pos; omega
      exact Okr.eq decl_name% (by show (D.int (-((k.natAbs : Nat) : Int)), 0) = _; rw [show -((k.natAbs : Nat) : Int) = k by omega])
def X_table_of : Fx := Tb [("upright", R_upright), ("lowest", R_lowest)] [] BL IL ML TL noSl
def R_table_of : List D -> Rs D := runD X_table_of (defScope (top 16)) ["numbers"] (defBody (top 16))
theorem tab_q {k a b c d : Int} (hk : k ≠ 0) (p : Pm a b c d) (hT : okT (([k * a, k * b, k * c, k * d] : List Int).map D.int)) (kb : k.natAbs < big) (ha : a.natAbs <= 2 ^ 140) (hb : b.natAbs <= 2 ^ 140) (hc : c.natAbs <= 2 ^ 140) (hd : d.natAbs <= 2 ^ 140) : Okr (R_table_of [t4 (k * a) (k * b) (k * c) (k * d)]) (tabD a b c d) := by
  have aB := big_le ha (by decide)
  have bB := big_le hb (by decide)
  have cB := big_le hc (by decide)
  have dB := big_le hd (by decide)
  have dbl : ∀ {x : Int}, x.natAbs <= 2 ^ 140 -> (2 * x).natAbs < big := fun {x} hx => big_le (m := 141) (by rw [Int.natAbs_mul, Nat.pow_succ, Nat.mul_comm]; exact Nat.mul_le_mul_right _ hx) (by decide)
  have a2 := dbl ha
  have b2 := dbl hb
  have c2 := dbl hc
  have hL := low_q (a := t40 a b c d) (b := t41 a b c d) (c := t42 a b c d) (d := t43 a b c d) (e := t44 a b c d) (f := t45 a b c d) (g := t46 a b c d) (h := t47 a b c d) (i := t48 a b c d) (n4_pos p.ne) (big_le (t_bd ha hb hc hd _ (by simp [tl4])) (by decide)) (tl_okT ha hb hc hd)
  exact run_i (ss_nx (ex_unp (ev_call decl_name% (upr_q hk p hT kb)) rfl (.inl rfl) rfl) (ss_nx (ex_set (d := .tup [d3 (t40 a b c d) (t41 a b c d) (t42 a b c d), d3 (t43 a b c d) (t44 a b c d) (t45 a b c d), d3 (t46 a b c d) (t47 a b c d) (t48 a b c d)]) decl_name%) (ss_rt (ex_ret (ev_call decl_name% hL)))))
def X_Turn___init__ : Fx := Tb [("upright", R_upright), ("table_of", R_table_of)] [] BL IL ML TL noSl
def R_Turn___init__ : List D -> Rs D := initD X_Turn___init__ (defScope (clsAt (top 21) 0)) ["self", "numbers"] (initArgs (clsAt (top 21) 0)) "Turn" ["word", "row", "fractions"]
theorem turn_q {k a b c d : Int} (hk : k ≠ 0) (p : Pm a b c d) (hT : okT (([k * a, k * b, k * c, k * d] : List Int).map D.int)) (kb : k.natAbs < big) (ha : a.natAbs <= 2 ^ 140) (hb : b.natAbs <= 2 ^ 140) (hc : c.natAbs <= 2 ^ 140) (hd : d.natAbs <= 2 ^ 140) : Okr (R_Turn___init__ [t4 (k * a) (k * b) (k * c) (k * d)]) (trnD a b c d) :=
  init_i rfl (evs_cons decl_name% (evs_cons (ev_call decl_name% (upr_q hk p hT kb)) (evs_cons (ev_call decl_name% (tab_q hk p hT kb ha hb hc hd)) evs_nil))) rfl rfl rfl
def X_plain_product : Fx := Tb [] [] BL IL ML TL noSl
def R_plain_product : List D -> Rs D := runD X_plain_product (defScope (top 5)) ["one", "other"] (defBody (top 5))
def S_plain_product : List D -> Rs D := sp2 dQ dQ fun p q => .ok (dq (plnQ p q)) [bdQ p, bdQ q]
theorem S_plain_product_ok : ∀ ds r, Okr (S_plain_product ds) r -> Okr (R_plain_product ds) r := by
  intro ds r h
  obtain ⟨p, q, rfl, h⟩ := sp2_inv h
  obtain ⟨rfl, hp, hq, _⟩ := okr_inv h
  obtain ⟨⟨a1, a2, a3, a4⟩, ⟨b1, b2, b3, b4⟩, ⟨c1, c2, c3, c4⟩, d1, d2, d3, d4⟩ := bd_mul hp hq
  exact okr_of rfl (by walk_at "ob")
def X_Turn_number : Fx := Tbo [] [] BL IL ML TL noSl [("Turn", ["row"])] []
def R_Turn_number : List D -> Rs D := runD X_Turn_number (defScope (clsAt (top 21) 1)) ["self"] (defBody (clsAt (top 21) 1))
def X_Turn_behind : Fx := Tbo [("plain_product", S_plain_product), ("Turn", R_Turn___init__)] [] BL IL ML TL noSl [("Turn", ["row"])] [("Turn", [("number", R_Turn_number)])]
def R_Turn_behind : List D -> Rs D := runD X_Turn_behind (defScope (clsAt (top 21) 3)) ["self", "first"] (defBody (clsAt (top 21) 3))
theorem tbeh_q {p q r : Qd} {m : Int} (hm : m ≠ 0) (e : plnQ p q = (m * r.1, m * r.2.1, m * r.2.2.1, m * r.2.2.2)) (pr : Pm r.1 r.2.1 r.2.2.1 r.2.2.2) (mb : m.natAbs < big) (bp : bdQ p) (bq : bdQ q) (hT : okT (([m * r.1, m * r.2.1, m * r.2.2.1, m * r.2.2.2] : List Int).map D.int)) (h1 : r.1.natAbs <= 2 ^ 140) (h2 : r.2.1.natAbs <= 2 ^ 140) (h3 : r.2.2.1.natAbs <= 2 ^ 140) (h4 : r.2.2.2.natAbs <= 2 ^ 140) : Okr (R_Turn_behind [trnD p.1 p.2.1 p.2.2.1 p.2.2.2, trnD q.1 q.2.1 q.2.2.1 q.2.2.2]) (trnD r.1 r.2.1 r.2.2.1 r.2.2.2) := by
  have hP : Okr (S_plain_product [dq p, dq q]) (dq (plnQ p q)) := decl_name%
  rw [e] at hP
  have hT' := turn_q hm pr hT mb h1 h2 h3 h4
  exact run_i (ss_rt (ex_ret (ev_call (evs_cons (ev_call (evs_cons decl_name% (evs_cons (ev_meth decl_name% decl_name% rfl (d := dq q) decl_name%) evs_nil)) hP) evs_nil) hT')))
def X_other_signed : Fx := Tb [] [] BL IL ML TL noSl
def R_other_signed : List D -> Rs D := runD X_other_signed (defScope (top 6)) ["four"] (defBody (top 6))
def S_other_signed : List D -> Rs D := sp1 dQ fun p => .ok (dq (barQ p)) []
theorem S_other_signed_ok : ∀ ds r, Okr (S_other_signed ds) r -> Okr (R_other_signed ds) r := by
  intro ds r h
  obtain ⟨p, rfl, h'⟩ := sp1_inv h
  obtain ⟨rfl, _⟩ := okr_inv h'
  exact okr_of rfl (by walk_at "ob")
def X_Turn_back : Fx := Tbo [("other_signed", S_other_signed), ("Turn", R_Turn___init__)] [] BL IL ML TL noSl [("Turn", ["row"])] []
def R_Turn_back : List D -> Rs D := runD X_Turn_back (defScope (clsAt (top 21) 2)) ["self"] (defBody (clsAt (top 21) 2))
def X_law : Fx := Tbo [("_law_spot", S_l_spot), ("corner_number", R_corner_number), ("_law_along", R_l_along), ("_law_row", R_l_row), ("behind", R_behind), ("_law_told", R_l_told), ("_law_place", R_l_place), ("_law_whole_way", R_l_whole_way), ("_law_product", S_l_product), ("_law_cell", S_l_cell), ("Turn", R_Turn___init__)] [] BL IL ML TL noSl [] [("Turn", [("table", R_Deed_table), ("behind", R_Turn_behind), ("number", R_Turn_number), ("place", R_Deed_place), ("back", R_Turn_back)])]
def R_law : List D -> Rs D := runD X_law (defScope (top 38)) ["_law_script"] (defBody (top 38))
theorem beh_k {p q r : Qd} {k : Int} {m : Nat} (hk : k ≠ 0) (pr : PmQ r) (e : plnQ p q = kq k r) (hm : m <= 400) (hp : ltQ (2 ^ m) p) (hq : ltQ (2 ^ m) q) (hr : ltQ (2 ^ 140) r) : Okr (R_Turn_behind [trnQ p, trnQ q]) (trnQ r) := by
  have hl := pln_b hp hq
  rw [e] at hl
  exact tbeh_q hk e pr (big_le (k_le pr.ne hl) (by omega)) (bd_ltQ hp (Nat.pow_lt_pow_right (by decide) (by omega))) (bd_ltQ hq (Nat.pow_lt_pow_right (by decide) (by omega))) (kq_okT (by omega) hl) hr.1 hr.2.1 hr.2.2.1 hr.2.2.2
theorem turn_j {k : Int} {q : Qd} {m : Nat} (hk : k ≠ 0) (p : PmQ q) (hm : m <= 900) (h : ltQ (2 ^ m) (kq k q)) (hq : ltQ (2 ^ 140) q) : Okr (R_Turn___init__ [dq (kq k q)]) (trnQ q) :=
  turn_q hk p (kq_okT (by omega) h) (big_le (k_le p.ne h) (by omega)) hq.1 hq.2.1 hq.2.2.1 hq.2.2.2
theorem back_k {q : Qd} (p : PmQ q) (hq : ltQ (2 ^ 140) q) : ∃ k : Int, (k = 1 \/ k = -1) /\ PmQ (kq k (bar q)) /\ ltQ (2 ^ 140) (kq k (bar q)) /\ Okr (R_Turn_back [trnQ q]) (trnQ (kq k (bar q))) := by
  obtain ⟨a, b, c, d⟩ := q
  obtain ⟨h1, h2, h3, h4⟩ := hq
  obtain ⟨k, hk, p'⟩ := prim_back p
  have k0 : k ≠ 0 := by omega
  have ka : k.natAbs = 1 := by rcases hk with rfl | rfl <;> rfl
  have kn : ∀ x : Int, (k * x).natAbs = x.natAbs := fun x => by rw [Int.natAbs_mul, ka, Nat.one_mul]
  have nn : ∀ x : Int, (k * -x).natAbs = x.natAbs := fun x => by rw [kn, Int.natAbs_neg]
  have lq : ltQ (2 ^ 140) (kq k (a, -b, -c, -d)) := ⟨by show (k * a).natAbs <= _; rw [kn]; exact h1, by show (k * -b).natAbs <= _; rw [nn]; exact h2, by show (k * -c).natAbs <= _; rw [nn]; exact h3, by show (k * -d).natAbs <= _; rw [nn]; exact h4⟩
  have kk : kq k (kq k (a, -b, -c, -d)) = (a, -b, -c, -d) := by
    rw [kq_kq, show k * k = 1 by rcases hk with rfl | rfl <;> rfl]
    unfold kq; simp
  have t := (turn_j (q := kq k (a, -b, -c, -d)) k0 p' (m := 140) (by decide) (by rw [kk]; exact ⟨h1, by show (-b).natAbs <= _; rw [Int.natAbs_neg]; exact h2, by show (-c).natAbs <= _; rw [Int.natAbs_neg]; exact h3, by show (-d).natAbs <= _; rw [Int.natAbs_neg]; exact h4⟩) lq)
  rw [kk] at t
  exact ⟨k, hk, p', lq, run_i (ss_rt (ex_ret (ev_call (evs_cons (ev_call decl_name% (v := t4 a (-b) (-c) (-d)) decl_name%) evs_nil) t)))⟩
theorem ltq_bar {k : Int} (hk : k = 1 \/ k = -1) {q : Qd} {m : Nat} (h : ltQ m q) : ltQ m (kq k (bar q)) := by
  obtain ⟨h1, h2, h3, h4⟩ := h
  have ka : k.natAbs = 1 := by rcases hk with rfl | rfl <;> rfl
  have kn : ∀ x : Int, (k * x).natAbs = x.natAbs := fun x => by rw [Int.natAbs_mul, ka, Nat.one_mul]
  exact ⟨by show (k * q.1).natAbs <= _; rw [kn]; exact h1, by show (k * -q.2.1).natAbs <= _; rw [kn, Int.natAbs_neg]; exact h2, by show (k * -q.2.2.1).natAbs <= _; rw [kn, Int.natAbs_neg]; exact h3, by show (k * -q.2.2.2).natAbs <= _; rw [kn, Int.natAbs_neg]; exact h4⟩
theorem told_k {k : Int} {q : Qd} {m : Nat} (hk : k ≠ 0) (p : PmQ q) (hm : m <= 900) (h : ltQ (2 ^ m) (kq k q)) : Okr (R_l_told [dq (kq k q)]) (dq q) := told_q hk p (kq_okT (by omega) h) (big_le (k_le p.ne h) (by omega))
theorem corner_k (q : Qd) : Okr (R_corner_number [trnQ q]) (.int (tq q).low.n) := corner_q q.1 q.2.1 q.2.2.1 q.2.2.2
abbrev fr (r : Int × Qd) : D := dq (kq r.1 r.2)
abbrev ft (r : Int × Qd) : D := trnQ r.2
abbrev okr1 (r : Int × Qd) : Prop := r.1 ≠ 0 /\ PmQ r.2 /\ ltQ (2 ^ 5) (kq r.1 r.2)
theorem bk_ex : ∃ e : Qd -> Int, ∀ p : Qd, okp p -> (e p = 1 \/ e p = -1) /\ PmQ (kq (e p) (bar p)) /\ Okr (R_Turn_back [trnQ p]) (trnQ (kq (e p) (bar p))) := by
  have key : ∀ p : Qd, ∃ k : Int, okp p -> (k = 1 \/ k = -1) /\ PmQ (kq k (bar p)) /\ Okr (R_Turn_back [trnQ p]) (trnQ (kq k (bar p))) := fun p => by
    by_cases h : okp p
    . obtain ⟨k, h1, h2, _, h4⟩ := back_k h.1 (ltQ_mono h.2 (Nat.pow_le_pow_right (by decide) (by decide)))
      exact ⟨k, fun _ => ⟨h1, h2, h4⟩⟩
    . exact ⟨1, fun z => absurd z h⟩
  exact ⟨fun p => (key p).choose, fun p => (key p).choose_spec⟩
theorem law_true (ns : List Int) (_ : ns.length <= 63) (hb : ∀ m ∈ ns, Builtin.Int.intBits m <= 2 ^ 20) : Okr (R_law [.lst (ns.map D.int)]) (.bl true) := by
  have hw : okW (ns.map D.int) := ⟨ns, rfl, hb⟩
  generalize ns.map D.int = L at *
  have hl := hw.okL
  have hS : Okr (S_l_spot [.lst L, .int 1]) (d3 (numI (cel L (1 + 1 + 0)) (cel L 1)) (numI (cel L (1 + 1 + 1)) (cel L 1)) (numI (cel L (1 + 1 + 2)) (cel L 1))) := decl_name%
  have x70 : (numI (cel L (1 + 1 + 0)) (cel L 1)).natAbs <= 2 ^ 70 := Nat.le_trans (numI_b _ _) (by decide)
  have y70 : (numI (cel L (1 + 1 + 1)) (cel L 1)).natAbs <= 2 ^ 70 := Nat.le_trans (numI_b _ _) (by decide)
  have z70 : (numI (cel L (1 + 1 + 2)) (cel L 1)).natAbs <= 2 ^ 70 := Nat.le_trans (numI_b _ _) (by decide)
  generalize numI (cel L (1 + 1 + 0)) (cel L 1) = x at *
  generalize numI (cel L (1 + 1 + 1)) (cel L 1) = y at *
  generalize numI (cel L (1 + 1 + 2)) (cel L 1) = z at *
  have n0 := Int.fmod_nonneg_of_pos (cel L 0) (show (0 : Int) < 12 by decide)
  have n1 := Int.fmod_lt_of_pos (cel L 0) (show (0 : Int) < 12 by decide)
  have hml : -4611686018427387904 <= 1 + (cel L 0).fmod 12 := by omega
  have hmm : 1 + (cel L 0).fmod 12 <= (many : Nat) := by have : ((many : Nat) : Int) = 4000 := rfl; omega
  have up : ∀ {q : Qd} {m j : Nat}, m <= j -> ltQ (2 ^ m) q -> ltQ (2 ^ j) q := fun hm h => ltQ_mono h (Nat.pow_le_pow_right (by decide) hm)
  obtain ⟨R, hR⟩ : ∃ R : Nat -> Int × Qd, ∀ i : Nat, okr1 (R i) /\ Okr (R_l_row [.lst L, .int (5 + 4 * (i : Int))]) (fr (R i)) := ⟨fun i => ((row_q hl (5 + 4 * (i : Int))).choose, (row_q hl (5 + 4 * (i : Int))).choose_spec.choose), fun i => ⟨⟨(row_q hl (5 + 4 * (i : Int))).choose_spec.choose_spec.1, (row_q hl (5 + 4 * (i : Int))).choose_spec.choose_spec.2.1, (row_q hl (5 + 4 * (i : Int))).choose_spec.choose_spec.2.2.1⟩, (row_q hl (5 + 4 * (i : Int))).choose_spec.choose_spec.2.2.2⟩⟩
  refine run_i (ss_nx (ex_set (ev_compM (l := List.range (1 + (cel L 0).fmod 12).toNat) (g := fun i => .int (i : Nat)) (f := fun i : Nat => fr (R i)) decl_name% rfl (by rw [List.length_range]; have : many = 4000 := rfl; omega) (.inr (Nat.zero_le 1)) (fun i _ => ⟨_, rfl, ev_call decl_name% (hR i).2⟩))) (ss_nx (ex_set (ev_call decl_name% hS)) ?_))
  have e : (List.range (1 + (cel L 0).fmod 12).toNat).map (fun i : Nat => fr (R i)) = ((List.range (1 + (cel L 0).fmod 12).toNat).map R).map fr := by rw [List.map_map]; rfl
  rw [e]
  have hrs : ∀ r ∈ (List.range (1 + (cel L 0).fmod 12).toNat).map R, okr1 r := by
    intro r hr
    obtain ⟨i, _, rfl⟩ := List.mem_map.mp hr
    exact (hR i).1
  have hlen : ((List.range (1 + (cel L 0).fmod 12).toNat).map R).length = (1 + (cel L 0).fmod 12).toNat := by rw [List.length_map, List.length_range]
  generalize (List.range (1 + (cel L 0).fmod 12).toNat).map R = rs at *
  have h12 : 1 <= rs.length /\ rs.length <= 12 := by omega
  clear e hlen hml hmm n0 n1 hR R
  refine ss_nx (ex_set (ev_compM (l := rs) (g := fr) (f := ft) decl_name% rfl (by have : many = 4000 := rfl; omega) (.inl (llessL_map (fun _ => rfl) rs)) (fun r hr => ⟨_, rfl, ev_call decl_name% (turn_j (hrs r hr).1 (hrs r hr).2.1 (m := 5) (by decide) (hrs r hr).2.2 (up (by decide) (q_le (hrs r hr).1 (hrs r hr).2.2)))⟩))) ?_
  obtain ⟨r0, rt, rfl⟩ : ∃ r0 rt, rs = r0 :: rt := by
    cases rs with
    | nil => exact absurd h12.1 (by decide)
    | cons a b => exact ⟨a, b, rfl⟩
  obtain ⟨h01, h02, h03⟩ := hrs r0 List.mem_cons_self
  have nz : ∀ p ∈ rt.map (·.2), nzq p := fun p hp => by
    obtain ⟨r, hr, rfl⟩ := List.mem_map.mp hp
    exact (hrs r (List.mem_cons_of_mem _ hr)).2.1.ne
  obtain ⟨V, hV⟩ := chn_ex (rt.map (·.2)) (W := r0.2) nz h02.ne
  have l0 := q_le h01 h03
  have hl12 : rt.length + 1 <= 12 := h12.2
  have at0 : ∀ f : Int × Qd -> D, L2.atI ((r0 :: rt).map f) 0 = some (f r0) := fun f => at_mid (f := f) [] r0 rt
  refine ss_nx (ex_set (d := trnQ r0.2) (ev_ix decl_name% decl_name% rfl (at0 ft))) (ss_nx (ex_set (ev_meth (ev_ix (d := trnQ r0.2) decl_name% decl_name% rfl (at0 ft)) decl_name% rfl (d := (tq r0.2).low.D) decl_name%)) (ss_nx (ex_set (d := fr r0) (ev_ix decl_name% decl_name% rfl (at0 fr))) (ss_nx (ex_set (ev_call (evs_cons (ev_ix (d := trnQ r0.2) decl_name% decl_name% rfl (at0 ft)) evs_nil) (corner_k r0.2))) ?_)))
  refine ss_forN (d := .lst (rgs 0 rt.length)) (ds := rgs 0 rt.length) (k := 0) (fun rem ρ => ∃ (dn rest : List (Int × Qd)) (W N : Qd) (c C : Int), rt = dn ++ rest /\ rem = rgs dn.length rest.length /\ Chn W (rest.map (·.2)) V /\ PmQ W /\ (tq W).n <= 2 ^ (13 * (dn.length + 1)) /\ c ≠ 0 /\ N = kq c W /\ ltQ (2 ^ 78) N /\ (tq W).low.n ∣ C /\ C * cpr (rest.map (·.2)) = cpr ((r0 :: rt).map (·.2)) /\ C.natAbs <= 2 ^ (13 * (dn.length + 1)) /\ Sub (envL [("_law_spot_here", d3 x y z, true), ("_law_rows", .lst ((r0 :: rt).map fr), true), ("_law_turns", .lst ((r0 :: rt).map ft), true), ("_law_whole_here", trnQ W, true), ("_law_table", (tq W).low.D, true), ("_law_numbers", dq N, true), ("_law_corner", .int C, true)]) ρ) (ev_itr (B := iRange) decl_name% (rng1 (n := rt.length) (by simp) (by omega))) ⟨[], rt, r0.2, kq r0.1 r0.2, r0.1, (tq r0.2).low.n, rfl, rfl, hV, h02, n_b l0, h01, rfl, up (by decide) h03, Int.dvd_refl _, rfl, low_b h02 l0, (sub_cons rfl (sub_cons rfl (sub_cons rfl (sub_cons rfl (sub_cons rfl (sub_cons rfl (sub_cons rfl sub_nil)))))))⟩ ?_ ?_
  . rintro d rem ρ ⟨dn, rest, W, N, c, C, e1, e2, hC, pW, nW, c0, eN, lN, dC, eC, Cb, s⟩
    cases rest with
    | nil => cases e2
    | cons r rest =>
      cases e2
      subst e1
      obtain ⟨m, W', hm, eW, pW', hC'⟩ := hC
      obtain ⟨r1, pr, lr⟩ := hrs r (by simp)
      have lp := q_le r1 lr
      have hd : dn.length + 2 <= 12 := by rw [List.length_append, List.length_cons] at hl12; omega
      have lW : ltQ (2 ^ 78) W := n_lt (pw13 nW (by omega))
      have nW' : (tq W').n <= 2 ^ (13 * (dn.length + 1 + 1)) := by
        refine Int.le_trans (n_le hm eW pW'.ne) ?_
        rw [show 13 * (dn.length + 1 + 1) = 13 + 13 * (dn.length + 1) by omega, Int.pow_add]
        exact Int.mul_le_mul (n_b lp) nW (by have := tq_pos pW.ne; omega) (by decide)
      have lW' : ltQ (2 ^ 78) W' := n_lt (pw13 nW' (by omega))
      have hB := beh_k hm pW' eW (m := 78) (by decide) (up (by decide) lp) lW (up (by decide) lW')
      have hT := beh_q (A := (tq W).low) (B := (tq r.2).low) (T9.lown (tq_pos pW.ne)) (T9.lown (tq_pos pr.ne)) (T9.bd_low (tq_pos pW.ne) (tq_bd lW)) (T9.bd_low (tq_pos pr.ne) (tq_bd lp)) (by decide)
      rw [tab_prod hm eW pr.ne pW.ne pW'.ne] at hT
      have ePr : plnQ (kq r.1 r.2) N = kq (r.1 * c * m) W' := by rw [eN, kq_pln, eW, kq_kq]
      have hPr : Okr (S_l_product [fr r, dq N]) (dq (kq (r.1 * c * m) W')) := by
        rw [<- ePr]
        exact ⟨[bdQ (kq r.1 r.2), bdQ N], rfl, bd_ltQ lr (Nat.pow_lt_pow_right (by decide) (by decide)), bd_ltQ lN (Nat.pow_lt_pow_right (by decide) (by decide)), True.intro⟩
      have lK : ltQ (2 ^ (78 + 78 + 2)) (kq (r.1 * c * m) W') := by
        rw [<- ePr]
        exact pln_b (up (by decide) lr) lN
      have hTo := told_k (Int.mul_ne_zero (Int.mul_ne_zero r1 c0) hm) pW' (by decide) lK
      have hat1 := at_mid1 (f := ft) r0 dn r rest
      have hat2 := at_mid1 (f := fr) r0 dn r rest
      have nB := big_le (low_b pr lp) (by decide)
      have CB := big_le Cb (by omega)
      refine ⟨_, rfl, nx_sub (s.put _ _) (ss_nx (ex_set (ev_meth (ev_ix decl_name% decl_name% rfl hat1) decl_name% rfl hB)) (ss_nx (ex_set (ev_call (evs_cons decl_name% (evs_cons (ev_meth (ev_ix decl_name% decl_name% rfl hat1) decl_name% rfl (d := (tq r.2).low.D) decl_name%) evs_nil)) hT)) (ss_nx (ex_set (ev_call (evs_cons (ev_call (evs_cons (ev_ix decl_name% decl_name% rfl hat2) (evs_cons decl_name% evs_nil)) hPr) evs_nil) hTo)) (ss_nx (ex_set (d := .int (C * (tq r.2).low.n)) (ev_bin decl_name% (ev_call (evs_cons (ev_ix decl_name% decl_name% rfl hat1) evs_nil) (corner_k r.2)) decl_name%)) ss_nil)))) fun ρ' s' => ⟨dn ++ [r], rest, W', W', 1, C * (tq r.2).low.n, by simp, by rw [List.length_append]; rfl, hC', pW', by rw [List.length_append]; exact nW', by decide, (kq_one W').symm, lW', Int.dvd_trans (corner_dvd hm eW pr pW pW') (Int.mul_dvd_mul_right _ dC), by rw [<- eC, List.map_cons, cpr, Int.mul_assoc], ?_, (sub_cons s'.get (sub_cons s'.get (sub_cons s'.get (sub_cons s'.get (sub_cons s'.get (sub_cons s'.get (sub_cons s'.get sub_nil)))))))⟩⟩
      rw [List.length_append, Int.natAbs_mul]
      show _ <= 2 ^ (13 * (dn.length + 1 + 1))
      rw [show 13 * (dn.length + 1 + 1) = 13 * (dn.length + 1) + 13 by omega, Nat.pow_add]
      exact Nat.mul_le_mul Cb (low_b pr lp)
  . rintro ρ ⟨dn, rest, W, N, c, C, e1, e2, hC, pW, nW, c0, eN, lN, dC, eC, Cb, s⟩
    have hr : rest = [] := by
      cases rest with
      | nil => rfl
      | cons _ _ => cases e2
    subst hr
    have eV : V = W := hC
    subst eV
    rw [List.append_nil] at e1
    subst e1
    have eC : C = cpr ((r0 :: rt).map (·.2)) := by rw [<- eC]; exact (Int.mul_one C).symm
    have hCh : Chn qone ((r0 :: rt).map (·.2)) V := ⟨1, r0.2, by decide, by rw [kq_one]; exact (pln_one _).1, h02, hV⟩
    have hps : ∀ p ∈ (r0 :: rt).map (·.2), okp p := fun p hp => by
      obtain ⟨r, hr, rfl⟩ := List.mem_map.mp hp
      exact ⟨(hrs r hr).2.1, q_le (hrs r hr).1 (hrs r hr).2.2⟩
    have hpl : ((r0 :: rt).map (·.2)).length <= 12 := by rw [List.length_map]; exact h12.2
    have eT : (r0 :: rt).map ft = ((r0 :: rt).map (·.2)).map trnQ := by rw [List.map_map]; rfl
    rw [eT] at s
    have lV : ltQ (2 ^ 78) V := n_lt (pw13 nW (by omega))
    have hTold : Okr (R_l_told [dq N]) (dq V) := by subst eN; exact told_k c0 pW (by decide) lN
    generalize (r0 :: rt).map (·.2) = ps at *
    have CB : C.natAbs < big := big_le Cb (by omega)
    clear hC eT hV nz hrs h12 hl12
    obtain ⟨dd, hAl, n, X, Y, Z, rfl, hF, nb, Xb, Yb, Zb⟩ := along_q hps hpl hCh (j0 := 70) (by decide) x70 y70 z70
    obtain ⟨m, P, Q, T, g, pl, ⟨mb, Pb, Qb, Tb⟩, hP⟩ := tplace (T9.lown (tq_pos pW.ne)) (T9.bd_low (tq_pos pW.ne) (tq_bd lV)) x70 y70 z70 (by decide)
    have u4 : ∀ {t : Int} {a : Nat}, a <= 400 -> t.natAbs <= 2 ^ a -> t.natAbs <= 2 ^ 400 := fun h h' => Nat.le_trans h' (Nat.pow_le_pow_right (by decide) h)
    obtain ⟨q1, q2, q3⟩ := fr_plc pW hF pl
    have hLp := lp_t pl.mpos pl.one q1 q2 q3 (u4 (by decide) mb) (u4 (by decide) Pb) (u4 (by decide) Qb) (u4 (by decide) Tb) (u4 (by decide) nb) (u4 (by decide) Xb) (u4 (by decide) Yb) (u4 (by decide) Zb)
    have hWay := way_q hps hpl x70 y70 z70 (Nat.le_trans (cpr_b hps) (Nat.pow_le_pow_right (by decide) (by omega)))
    rw [<- eC] at hWay
    obtain ⟨e, he⟩ := bk_ex
    have hbk : ∀ p ∈ (ps.map fun p => kq (e p) (bar p)).reverse, okp p := fun p hp => by
      rw [List.mem_reverse] at hp
      obtain ⟨r, hr, rfl⟩ := List.mem_map.mp hp
      obtain ⟨a1, a2, _⟩ := he r (hps r hr)
      exact ⟨a2, ltq_bar a1 (hps r hr).2⟩
    obtain ⟨V', hV'⟩ := chn_ex (ps.map fun p => kq (e p) (bar p)).reverse (W := qone) (fun p hp => (hbk p hp).1.ne) (fun h => absurd h.1 (by decide))
    obtain ⟨M1, hM1, k1⟩ := chn_prd hCh
    obtain ⟨M2, hM2, k2⟩ := chn_prd hV'
    obtain ⟨E, hE, k3⟩ := prd_back e id ps fun p hp => by rcases (he p (hps p hp)).1 with h | h <;> rw [h] <;> decide
    simp only [id_eq] at k3
    rw [List.map_id, k2, k1, bar_kq, kq_kq] at k3
    obtain ⟨d2, hA2, n2, X2, Y2, Z2, rfl, hF2, nb2, Xb2, Yb2, Zb2⟩ := along_q hbk (by rw [List.length_reverse, List.length_map]; exact hpl) hV' (j0 := 78 + 78 + 3 + 70 + 2) (by decide) Pb Qb Tb
    obtain ⟨f1, f2, f3⟩ := fr_back (V' := bar V) (k := 1) (by decide) pW.ne (kq_one _).symm (fr_plc' pW pl) (fr_prop hM2 (Int.mul_ne_zero hE hM1) k3 hF2)
    have eB : (ps.map fun p => kq (e p) (bar p)).reverse.map trnQ = ps.reverse.map fun p => trnQ (kq (e p) (bar p)) := by rw [<- List.map_reverse, List.map_map]; rfl
    rw [eB] at hA2
    have h4 : ∀ q : Qd, (!eqD (dq q) (dq q)) = false := fun q => by rw [eqD_q]; simp
    have hTC : (!eqD (tq V).low.D (tq V).low.D) = false := by rw [T9.eqD]; rfl
    have cn : (tq V).low.n ≠ 0 := by have := T9.lown (tq_pos pW.ne); omega
    have hll := llessL_map (G := trnQ) (fun _ => rfl) ps
    have xB := big_le x70 (by decide)
    have yB := big_le y70 (by decide)
    have zB := big_le z70 (by decide)
    have mB := big_le mb (by decide)
    have nB := big_le nb2 (by decide)
    refine rt_sub s (ss_ifF (ev_bop (evb_f (ev_cmp (x := dq V) (y := dq V) (ev_meth decl_name% decl_name% rfl (d := dq V) decl_name%) (ev_call decl_name% hTold) (decl_name%.eq (h4 V))) (evb_f (ev_cmp (x := (tq V).low.D) (y := (tq V).low.D) (ev_meth decl_name% decl_name% rfl (d := (tq V).low.D) decl_name%) decl_name% (decl_name%.eq hTC)) (evb_f (ev_cmp (x := .int (C.fmod (tq V).low.n)) (y := .int 0) (ev_bin decl_name% (ev_call decl_name% (corner_k V)) decl_name%) decl_name% (decl_name%.eq (by show (!eqD (.int _) (.int _)) = false; rw [eqD_i]; simp [Int.fmod_eq_zero_of_dvd dC]))) evb_of)))) rfl ?_)
    refine ss_nx (ex_unp (ev_call decl_name% hAl) rfl (.inl rfl) rfl) (ss_ifF (ev_not (ev_call (evs_cons (ev_meth decl_name% decl_name% rfl (dplace_q hP)) decl_name%) hLp)) rfl (ss_ifF (ev_not (ev_call (evs_cons decl_name% (evs_cons decl_name% evs_nil)) hWay)) rfl ?_))
    refine ss_nx (ex_unp (ev_call (evs_cons (ev_compM (l := ps.reverse) (g := trnQ) (f := fun p => trnQ (kq (e p) (bar p))) (ev_itr (B := iRev) decl_name% (rev_q hll)) (by rw [List.map_reverse]; rfl) (by rw [List.length_reverse]; have : many = 4000 := rfl; omega) (.inl (llessL_map (fun _ => rfl) _)) (fun p hp => ⟨_, rfl, ev_meth decl_name% decl_name% rfl (he p (hps p (List.mem_reverse.mp hp))).2.2⟩)) (evs_cons (ev_ix (ev_meth decl_name% decl_name% rfl (dplace_q hP)) decl_name% rfl rfl) evs_nil)) hA2) rfl (.inl rfl) rfl) ?_
    subst f1 f2 f3
    have tm : ∀ {t : Int}, t.natAbs <= 2 ^ 70 -> t.natAbs < big /\ (t * m).natAbs < big := fun h => ⟨big_le h (by decide), big_le (m := 70 + 159) (by rw [Int.natAbs_mul, Nat.pow_add]; exact Nat.mul_le_mul h mb) (by decide)⟩
    refine ss_rt (ex_ret (Okr.bl (ev_cmp (ev_compM (l := [x, y, z]) (g := D.int) (f := fun t => .int (t * m * n2)) decl_name% rfl (show 3 <= many by decide) (.inl rfl) (fun t ht => ?_)) decl_name% decl_name%) ?_))
    . have hb : t.natAbs <= 2 ^ 70 := by
        simp only [List.mem_cons, List.not_mem_nil, or_false] at ht
        rcases ht with rfl | rfl | rfl <;> assumption
      obtain ⟨tb1, tb2⟩ := tm hb
      exact ⟨_, rfl, ev_bin (ev_bin decl_name% (ev_ix (ev_meth decl_name% decl_name% rfl (dplace_q hP)) decl_name% rfl rfl) decl_name%) decl_name% decl_name%⟩
    . show (x * m * n2 == x * m * n2 && (y * m * n2 == y * m * n2 && (z * m * n2 == z * m * n2 && true))) = true
      simp
theorem sc26 : FnScope (localsOf (defScope (top 26))) ["_law_script", "_law_k"] (defScope (top 26)) := ⟨rfl, rfl, rfl, by decide +kernel, by decide +kernel, by decide +kernel, by decide +kernel⟩
theorem sc29 : FnScope (localsOf (defScope (top 29))) ["_law_cell_here", "_law_kind"] (defScope (top 29)) := ⟨rfl, rfl, rfl, by decide +kernel, by decide +kernel, by decide +kernel, by decide +kernel⟩
theorem sc33 : FnScope (localsOf (defScope (top 33))) ["_law_script", "_law_at"] (defScope (top 33)) := ⟨rfl, rfl, rfl, by decide +kernel, by decide +kernel, by decide +kernel, by decide +kernel⟩
theorem sc20_1 : FnScope (localsOf (defScope (clsAt (top 20) 1))) ["self"] (defScope (clsAt (top 20) 1)) := ⟨rfl, rfl, rfl, by decide +kernel, by decide +kernel, by decide +kernel, by decide +kernel⟩
theorem sc24 : FnScope (localsOf (defScope (top 24))) ["turn"] (defScope (top 24)) := ⟨rfl, rfl, rfl, by decide +kernel, by decide +kernel, by decide +kernel, by decide +kernel⟩
theorem sc12 : FnScope (localsOf (defScope (top 12))) ["one", "other"] (defScope (top 12)) := ⟨rfl, rfl, rfl, by decide +kernel, by decide +kernel, by decide +kernel, by decide +kernel⟩
theorem sc18 : FnScope (localsOf (defScope (top 18))) ["rows", "other"] (defScope (top 18)) := ⟨rfl, rfl, rfl, by decide +kernel, by decide +kernel, by decide +kernel, by decide +kernel⟩
theorem sc9 : FnScope (localsOf (defScope (top 9))) ["one", "other"] (defScope (top 9)) := ⟨rfl, rfl, rfl, by decide +kernel, by decide +kernel, by decide +kernel, by decide +kernel⟩
theorem sc8 : FnScope (localsOf (defScope (top 8))) ["numbers"] (defScope (top 8)) := ⟨rfl, rfl, rfl, by decide +kernel, by decide +kernel, by decide +kernel, by decide +kernel⟩
theorem sc10 : FnScope (localsOf (defScope (top 10))) ["numbers", "divisor"] (defScope (top 10)) := ⟨rfl, rfl, rfl, by decide +kernel, by decide +kernel, by decide +kernel, by decide +kernel⟩
theorem sc15 : FnScope (localsOf (defScope (top 15))) ["table", "spot"] (defScope (top 15)) := ⟨rfl, rfl, rfl, by decide +kernel, by decide +kernel, by decide +kernel, by decide +kernel⟩
theorem sc20_2 : FnScope (localsOf (defScope (clsAt (top 20) 2))) ["self", "spot"] (defScope (clsAt (top 20) 2)) := ⟨rfl, rfl, rfl, by decide +kernel, by decide +kernel, by decide +kernel, by decide +kernel⟩
theorem sc36 : FnScope (localsOf (defScope (top 36))) ["_law_turns", "_law_spot_here"] (defScope (top 36)) := ⟨rfl, rfl, rfl, by decide +kernel, by decide +kernel, by decide +kernel, by decide +kernel⟩
theorem sc35 : FnScope (localsOf (defScope (top 35))) ["_law_script", "_law_at"] (defScope (top 35)) := ⟨rfl, rfl, rfl, by decide +kernel, by decide +kernel, by decide +kernel, by decide +kernel⟩
theorem sc14 : FnScope (localsOf (defScope (top 14))) ["table"] (defScope (top 14)) := ⟨rfl, rfl, rfl, by decide +kernel, by decide +kernel, by decide +kernel, by decide +kernel⟩
theorem sc17 : FnScope (localsOf (defScope (top 17))) ["first", "second"] (defScope (top 17)) := ⟨rfl, rfl, rfl, by decide +kernel, by decide +kernel, by decide +kernel, by decide +kernel⟩
theorem sc30 : FnScope (localsOf (defScope (top 30))) ["_law_numbers"] (defScope (top 30)) := ⟨rfl, rfl, rfl, by decide +kernel, by decide +kernel, by decide +kernel, by decide +kernel⟩
theorem sc34 : FnScope (localsOf (defScope (top 34))) ["_law_numbers"] (defScope (top 34)) := ⟨rfl, rfl, rfl, by decide +kernel, by decide +kernel, by decide +kernel, by decide +kernel⟩
theorem sc27 : FnScope (localsOf (defScope (top 27))) ["_law_x"] (defScope (top 27)) := ⟨rfl, rfl, rfl, by decide +kernel, by decide +kernel, by decide +kernel, by decide +kernel⟩
theorem sc28 : FnScope (localsOf (defScope (top 28))) ["_law_found", "_law_many"] (defScope (top 28)) := ⟨rfl, rfl, rfl, by decide +kernel, by decide +kernel, by decide +kernel, by decide +kernel⟩
theorem sc32 : FnScope (localsOf (defScope (top 32))) ["_law_found", "_law_n", "_law_brought"] (defScope (top 32)) := ⟨rfl, rfl, rfl, by decide +kernel, by decide +kernel, by decide +kernel, by decide +kernel⟩
theorem sc23 : FnScope (localsOf (defScope (top 23))) ["turn", "spot"] (defScope (top 23)) := ⟨rfl, rfl, rfl, by decide +kernel, by decide +kernel, by decide +kernel, by decide +kernel⟩
theorem sc37 : FnScope (localsOf (defScope (top 37))) ["_law_turns", "_law_spot_here"] (defScope (top 37)) := ⟨rfl, rfl, rfl, by decide +kernel, by decide +kernel, by decide +kernel, by decide +kernel⟩
theorem sc31 : FnScope (localsOf (defScope (top 31))) ["_law_one", "_law_other"] (defScope (top 31)) := ⟨rfl, rfl, rfl, by decide +kernel, by decide +kernel, by decide +kernel, by decide +kernel⟩
theorem sc11 : FnScope (localsOf (defScope (top 11))) ["numbers"] (defScope (top 11)) := ⟨rfl, rfl, rfl, by decide +kernel, by decide +kernel, by decide +kernel, by decide +kernel⟩
theorem sc16 : FnScope (localsOf (defScope (top 16))) ["numbers"] (defScope (top 16)) := ⟨rfl, rfl, rfl, by decide +kernel, by decide +kernel, by decide +kernel, by decide +kernel⟩
theorem sc20_0 : FnScope (localsOf (defScope (clsAt (top 20) 0))) ["self", "word", "row", "fractions"] (defScope (clsAt (top 20) 0)) := ⟨rfl, rfl, rfl, by decide +kernel, by decide +kernel, by decide +kernel, by decide +kernel⟩
theorem sc21_0 : FnScope (localsOf (defScope (clsAt (top 21) 0))) ["self", "numbers"] (defScope (clsAt (top 21) 0)) := ⟨rfl, rfl, rfl, by decide +kernel, by decide +kernel, by decide +kernel, by decide +kernel⟩
theorem sc5 : FnScope (localsOf (defScope (top 5))) ["one", "other"] (defScope (top 5)) := ⟨rfl, rfl, rfl, by decide +kernel, by decide +kernel, by decide +kernel, by decide +kernel⟩
theorem sc21_1 : FnScope (localsOf (defScope (clsAt (top 21) 1))) ["self"] (defScope (clsAt (top 21) 1)) := ⟨rfl, rfl, rfl, by decide +kernel, by decide +kernel, by decide +kernel, by decide +kernel⟩
theorem sc21_3 : FnScope (localsOf (defScope (clsAt (top 21) 3))) ["self", "first"] (defScope (clsAt (top 21) 3)) := ⟨rfl, rfl, rfl, by decide +kernel, by decide +kernel, by decide +kernel, by decide +kernel⟩
theorem sc6 : FnScope (localsOf (defScope (top 6))) ["four"] (defScope (top 6)) := ⟨rfl, rfl, rfl, by decide +kernel, by decide +kernel, by decide +kernel, by decide +kernel⟩
theorem sc21_2 : FnScope (localsOf (defScope (clsAt (top 21) 2))) ["self"] (defScope (clsAt (top 21) 2)) := ⟨rfl, rfl, rfl, by decide +kernel, by decide +kernel, by decide +kernel, by decide +kernel⟩
theorem sc38 : FnScope (localsOf (defScope (top 38))) ["_law_script"] (defScope (top 38)) := ⟨rfl, rfl, rfl, by decide +kernel, by decide +kernel, by decide +kernel, by decide +kernel⟩
theorem BL_ok : ∀ p ∈ BL, BltP p := mem_cons_ok (Pr := BltP) (bLen_ok) (mem_cons_ok (Pr := BltP) (bTuple_ok) (mem_cons_ok (Pr := BltP) (bList_ok) (mem_cons_ok (Pr := BltP) (bAbs_ok) (mem_cons_ok (Pr := BltP) (bAll_ok) (mem_cons_ok (Pr := BltP) (bAny2_ok) (mem_cons_ok (Pr := BltP) (bSum_ok) (mem_cons_ok (Pr := BltP) (bIsi_ok) (nil_ok))))))))
theorem IL_ok : ∀ p ∈ IL, ItrP p := mem_cons_ok (Pr := ItrP) (iRange_ok) (mem_cons_ok (Pr := ItrP) (iZip_ok) (mem_cons_ok (Pr := ItrP) (iRev_ok) (nil_ok)))
theorem ML_ok : ∀ p ∈ ML, MthP p := nil_ok
theorem TL_ok : ∀ p ∈ TL, MutP p := nil_ok
theorem cL {P : Program} {w : World} {k0 : PySem.W.Frag} {mg : Str -> Option Value} {base : Heap} {j k : Nat} {g : Str} {F : List D -> Rs D} {l : List (Str × (List D -> Rs D))} (h : FnD P w k0 mg base j g F) (t : ∀ p ∈ l, FnP P w k0 mg base k p) (hj : j <= k := by decide) : ∀ p ∈ (g, F) :: l, FnP P w k0 mg base k p := mem_cons_ok (Pr := FnP P w k0 mg base k) (Or.inl (h.mono hj)) t
theorem cR {P : Program} {w : World} {k0 : PySem.W.Frag} {mg : Str -> Option Value} {base : Heap} {j k : Nat} {g : Str} {F : List D -> Rs D} {l : List (Str × (List D -> Rs D))} (h : MkD P w k0 mg base j g F) (t : ∀ p ∈ l, FnP P w k0 mg base k p) (hj : j <= k := by decide) : ∀ p ∈ (g, F) :: l, FnP P w k0 mg base k p := mem_cons_ok (Pr := FnP P w k0 mg base k) (Or.inr (h.mono hj)) t
theorem all_mk {l : PySem.W.OpenLaw} {w : World} {K : PySem.W.Frag} {h : Heap} {mg : Str -> Option Value} {fa f26 f29 f33 f20_1 f24 f12 f18 f9 f8 f10 f15 f20_2 f36 f35 f14 f17 f30 f34 f27 f28 f32 f23 f37 f31 f11 f16 f20_0 f21_0 f5 f21_1 f21_3 f6 f21_2 f38 C_Turn C_Deed : Addr} (X : K.In h) (G : h.Ns mainGlobals mg) (hfa : mg "law" = some (.ref fa))
    {od26 an26 od29 an29 od33 an33 od20_1 an20_1 od24 an24 od12 an12 od18 an18 od9 an9 od8 an8 od10 an10 od15 an15 od20_2 an20_2 od36 an36 od35 an35 od14 an14 od17 an17 od30 an30 od34 an34 od27 an27 od28 an28 od32 an32 od23 an23 od37 an37 od31 an31 od11 an11 od16 an16 od20_0 an20_0 od21_0 an21_0 od5 an5 od21_1 an21_1 od21_3 an21_3 od6 an6 od21_2 an21_2 od38 an38 : Option Addr} {sl26 sl29 sl33 sl20_1 sl24 sl12 sl18 sl9 sl8 sl10 sl15 sl20_2 sl36 sl35 sl14 sl17 sl30 sl34 sl27 sl28 sl32 sl23 sl37 sl31 sl11 sl16 sl20_0 sl21_0 sl5 sl21_1 sl21_3 sl6 sl21_2 sl38 : Array (Option Value)} {oc26 kV26 dc26 pm26 cd26 ct26 oc29 kV29 dc29 pm29 cd29 ct29 oc33 kV33 dc33 pm33 cd33 ct33 oc20_1 kV20_1 dc20_1 pm20_1 cd20_1 ct20_1 oc24 kV24 dc24 pm24 cd24 ct24 oc12 kV12 dc12 pm12 cd12 ct12 oc18 kV18 dc18 pm18 cd18 ct18 oc9 kV9 dc9 pm9 cd9 ct9 oc8 kV8 dc8 pm8 cd8 ct8 oc10 kV10 dc10 pm10 cd10 ct10 oc15 kV15 dc15 pm15 cd15 ct15 oc20_2 kV20_2 dc20_2 pm20_2 cd20_2 ct20_2 oc36 kV36 dc36 pm36 cd36 ct36 oc35 kV35 dc35 pm35 cd35 ct35 oc14 kV14 dc14 pm14 cd14 ct14 oc17 kV17 dc17 pm17 cd17 ct17 oc30 kV30 dc30 pm30 cd30 ct30 oc34 kV34 dc34 pm34 cd34 ct34 oc27 kV27 dc27 pm27 cd27 ct27 oc28 kV28 dc28 pm28 cd28 ct28 oc32 kV32 dc32 pm32 cd32 ct32 oc23 kV23 dc23 pm23 cd23 ct23 oc37 kV37 dc37 pm37 cd37 ct37 oc31 kV31 dc31 pm31 cd31 ct31 oc11 kV11 dc11 pm11 cd11 ct11 oc16 kV16 dc16 pm16 cd16 ct16 oc20_0 kV20_0 dc20_0 pm20_0 cd20_0 ct20_0 oc21_0 kV21_0 dc21_0 pm21_0 cd21_0 ct21_0 oc5 kV5 dc5 pm5 cd5 ct5 oc21_1 kV21_1 dc21_1 pm21_1 cd21_1 ct21_1 oc21_3 kV21_3 dc21_3 pm21_3 cd21_3 ct21_3 oc6 kV6 dc6 pm6 cd6 ct6 oc21_2 kV21_2 dc21_2 pm21_2 cd21_2 ct21_2 oc38 kV38 dc38 pm38 cd38 ct38 : Value}
    (cn_Turn : PySem.W.nsIn K mainGlobals "Turn" = some (some (.ref C_Turn)))
    (pg_Turn : PySem.W.plainGet K C_Turn Str.empty = true)
    (hd_Turn : PySem.W.hasDictIn K C_Turn = true)
    (po_Turn : PySem.W.plainOver K C_Turn = true)
    (sa_Turn : PySem.W.findIn K (.ref C_Turn) "__setattr__" = some (some (.builtin "object.__setattr__")))
    (mk_Turn : PySem.W.makesIn K C_Turn = true)
    (ini_Turn : PySem.W.findIn K (.ref C_Turn) "__init__" = some (some (.ref f21_0)))
    (ifn_Turn : PySem.W.isFn K (.ref f21_0) = true)
    (ckp_Turn : PySem.W.keepIn K (.ref C_Turn) = true)
    (na_Turn_word : PySem.W.findIn K (.ref C_Turn) "word" = some none)
    (na_Turn_row : PySem.W.findIn K (.ref C_Turn) "row" = some none)
    (na_Turn_fractions : PySem.W.findIn K (.ref C_Turn) "fractions" = some none)
    (mt_Turn_back : PySem.W.findIn K (.ref C_Turn) "back" = some (some (.ref f21_2))) (mf_Turn_back : PySem.W.isFn K (.ref f21_2) = true)
    (mt_Turn_behind : PySem.W.findIn K (.ref C_Turn) "behind" = some (some (.ref f21_3))) (mf_Turn_behind : PySem.W.isFn K (.ref f21_3) = true)
    (mt_Turn_number : PySem.W.findIn K (.ref C_Turn) "number" = some (some (.ref f21_1))) (mf_Turn_number : PySem.W.isFn K (.ref f21_1) = true)
    (mt_Turn_place : PySem.W.findIn K (.ref C_Turn) "place" = some (some (.ref f20_2))) (mf_Turn_place : PySem.W.isFn K (.ref f20_2) = true)
    (mt_Turn_table : PySem.W.findIn K (.ref C_Turn) "table" = some (some (.ref f20_1))) (mf_Turn_table : PySem.W.isFn K (.ref f20_1) = true)
    (cn_Deed : PySem.W.nsIn K mainGlobals "Deed" = some (some (.ref C_Deed))) (ga_Deed : PySem.W.specialIn K (.ref C_Deed) "__getattribute__" = some (some (.builtin "type.__getattribute__"))) (rd_Deed : PySem.W.readsIn K C_Deed (.type "type") = true) (fc_Deed : PySem.W.findCls K (.ref C_Deed) (.type "type") "__init__" = some (.val (.ref f20_0)))
    (a26 : PySem.W.nsIn K mainGlobals "_law_cell" = some (some (.ref f26)))    (l26 : K.lookup f26 = some ⟨oc26, od26, .func (PySem.W.fnOf "_law_cell" "_law_cell" (defArgs (top 26)) (defBody (top 26)) (defScope (top 26)) .none kV26 dc26 pm26 an26 cd26 ct26), sl26⟩) (c26 : PySem.W.codeIn K cd26 "_law_cell" = true) (k26 : PySem.W.keepIn K (.ref f26) = true)
    (a29 : PySem.W.nsIn K mainGlobals "_law_number" = some (some (.ref f29)))    (l29 : K.lookup f29 = some ⟨oc29, od29, .func (PySem.W.fnOf "_law_number" "_law_number" (defArgs (top 29)) (defBody (top 29)) (defScope (top 29)) .none kV29 dc29 pm29 an29 cd29 ct29), sl29⟩) (c29 : PySem.W.codeIn K cd29 "_law_number" = true) (k29 : PySem.W.keepIn K (.ref f29) = true)
    (a33 : PySem.W.nsIn K mainGlobals "_law_spot" = some (some (.ref f33)))    (l33 : K.lookup f33 = some ⟨oc33, od33, .func (PySem.W.fnOf "_law_spot" "_law_spot" (defArgs (top 33)) (defBody (top 33)) (defScope (top 33)) .none kV33 dc33 pm33 an33 cd33 ct33), sl33⟩) (c33 : PySem.W.codeIn K cd33 "_law_spot" = true) (k33 : PySem.W.keepIn K (.ref f33) = true)
    (l20_1 : K.lookup f20_1 = some ⟨oc20_1, od20_1, .func (PySem.W.fnOf "table" "Deed.table" (defArgs (clsAt (top 20) 1)) (defBody (clsAt (top 20) 1)) (defScope (clsAt (top 20) 1)) .none kV20_1 dc20_1 pm20_1 an20_1 cd20_1 ct20_1), sl20_1⟩) (c20_1 : PySem.W.codeIn K cd20_1 "Deed.table" = true) (k20_1 : PySem.W.keepIn K (.ref f20_1) = true)
    (a24 : PySem.W.nsIn K mainGlobals "corner_number" = some (some (.ref f24)))    (l24 : K.lookup f24 = some ⟨oc24, od24, .func (PySem.W.fnOf "corner_number" "corner_number" (defArgs (top 24)) (defBody (top 24)) (defScope (top 24)) .none kV24 dc24 pm24 an24 cd24 ct24), sl24⟩) (c24 : PySem.W.codeIn K cd24 "corner_number" = true) (k24 : PySem.W.keepIn K (.ref f24) = true)
    (a12 : PySem.W.nsIn K mainGlobals "added_products" = some (some (.ref f12)))    (l12 : K.lookup f12 = some ⟨oc12, od12, .func (PySem.W.fnOf "added_products" "added_products" (defArgs (top 12)) (defBody (top 12)) (defScope (top 12)) .none kV12 dc12 pm12 an12 cd12 ct12), sl12⟩) (c12 : PySem.W.codeIn K cd12 "added_products" = true) (k12 : PySem.W.keepIn K (.ref f12) = true)
    (a18 : PySem.W.nsIn K mainGlobals "each_with" = some (some (.ref f18)))    (l18 : K.lookup f18 = some ⟨oc18, od18, .func (PySem.W.fnOf "each_with" "each_with" (defArgs (top 18)) (defBody (top 18)) (defScope (top 18)) .none kV18 dc18 pm18 an18 cd18 ct18), sl18⟩) (c18 : PySem.W.codeIn K cd18 "each_with" = true) (k18 : PySem.W.keepIn K (.ref f18) = true)
    (a9 : PySem.W.nsIn K mainGlobals "shared_by" = some (some (.ref f9)))    (l9 : K.lookup f9 = some ⟨oc9, od9, .func (PySem.W.fnOf "shared_by" "shared_by" (defArgs (top 9)) (defBody (top 9)) (defScope (top 9)) .none kV9 dc9 pm9 an9 cd9 ct9), sl9⟩) (c9 : PySem.W.codeIn K cd9 "shared_by" = true) (k9 : PySem.W.keepIn K (.ref f9) = true)
    (a8 : PySem.W.nsIn K mainGlobals "common_divisor" = some (some (.ref f8)))    (l8 : K.lookup f8 = some ⟨oc8, od8, .func (PySem.W.fnOf "common_divisor" "common_divisor" (defArgs (top 8)) (defBody (top 8)) (defScope (top 8)) .none kV8 dc8 pm8 an8 cd8 ct8), sl8⟩) (c8 : PySem.W.codeIn K cd8 "common_divisor" = true) (k8 : PySem.W.keepIn K (.ref f8) = true)
    (a10 : PySem.W.nsIn K mainGlobals "shortened" = some (some (.ref f10)))    (l10 : K.lookup f10 = some ⟨oc10, od10, .func (PySem.W.fnOf "shortened" "shortened" (defArgs (top 10)) (defBody (top 10)) (defScope (top 10)) .none kV10 dc10 pm10 an10 cd10 ct10), sl10⟩) (c10 : PySem.W.codeIn K cd10 "shortened" = true) (k10 : PySem.W.keepIn K (.ref f10) = true)
    (a15 : PySem.W.nsIn K mainGlobals "place_by" = some (some (.ref f15)))    (l15 : K.lookup f15 = some ⟨oc15, od15, .func (PySem.W.fnOf "place_by" "place_by" (defArgs (top 15)) (defBody (top 15)) (defScope (top 15)) .none kV15 dc15 pm15 an15 cd15 ct15), sl15⟩) (c15 : PySem.W.codeIn K cd15 "place_by" = true) (k15 : PySem.W.keepIn K (.ref f15) = true)
    (l20_2 : K.lookup f20_2 = some ⟨oc20_2, od20_2, .func (PySem.W.fnOf "place" "Deed.place" (defArgs (clsAt (top 20) 2)) (defBody (clsAt (top 20) 2)) (defScope (clsAt (top 20) 2)) .none kV20_2 dc20_2 pm20_2 an20_2 cd20_2 ct20_2), sl20_2⟩) (c20_2 : PySem.W.codeIn K cd20_2 "Deed.place" = true) (k20_2 : PySem.W.keepIn K (.ref f20_2) = true)
    (a36 : PySem.W.nsIn K mainGlobals "_law_along" = some (some (.ref f36)))    (l36 : K.lookup f36 = some ⟨oc36, od36, .func (PySem.W.fnOf "_law_along" "_law_along" (defArgs (top 36)) (defBody (top 36)) (defScope (top 36)) .none kV36 dc36 pm36 an36 cd36 ct36), sl36⟩) (c36 : PySem.W.codeIn K cd36 "_law_along" = true) (k36 : PySem.W.keepIn K (.ref f36) = true)
    (a35 : PySem.W.nsIn K mainGlobals "_law_row" = some (some (.ref f35)))    (l35 : K.lookup f35 = some ⟨oc35, od35, .func (PySem.W.fnOf "_law_row" "_law_row" (defArgs (top 35)) (defBody (top 35)) (defScope (top 35)) .none kV35 dc35 pm35 an35 cd35 ct35), sl35⟩) (c35 : PySem.W.codeIn K cd35 "_law_row" = true) (k35 : PySem.W.keepIn K (.ref f35) = true)
    (a14 : PySem.W.nsIn K mainGlobals "lowest" = some (some (.ref f14)))    (l14 : K.lookup f14 = some ⟨oc14, od14, .func (PySem.W.fnOf "lowest" "lowest" (defArgs (top 14)) (defBody (top 14)) (defScope (top 14)) .none kV14 dc14 pm14 an14 cd14 ct14), sl14⟩) (c14 : PySem.W.codeIn K cd14 "lowest" = true) (k14 : PySem.W.keepIn K (.ref f14) = true)
    (a17 : PySem.W.nsIn K mainGlobals "behind" = some (some (.ref f17)))    (l17 : K.lookup f17 = some ⟨oc17, od17, .func (PySem.W.fnOf "behind" "behind" (defArgs (top 17)) (defBody (top 17)) (defScope (top 17)) .none kV17 dc17 pm17 an17 cd17 ct17), sl17⟩) (c17 : PySem.W.codeIn K cd17 "behind" = true) (k17 : PySem.W.keepIn K (.ref f17) = true)
    (a30 : PySem.W.nsIn K mainGlobals "_law_divisor" = some (some (.ref f30)))    (l30 : K.lookup f30 = some ⟨oc30, od30, .func (PySem.W.fnOf "_law_divisor" "_law_divisor" (defArgs (top 30)) (defBody (top 30)) (defScope (top 30)) .none kV30 dc30 pm30 an30 cd30 ct30), sl30⟩) (c30 : PySem.W.codeIn K cd30 "_law_divisor" = true) (k30 : PySem.W.keepIn K (.ref f30) = true)
    (a34 : PySem.W.nsIn K mainGlobals "_law_told" = some (some (.ref f34)))    (l34 : K.lookup f34 = some ⟨oc34, od34, .func (PySem.W.fnOf "_law_told" "_law_told" (defArgs (top 34)) (defBody (top 34)) (defScope (top 34)) .none kV34 dc34 pm34 an34 cd34 ct34), sl34⟩) (c34 : PySem.W.codeIn K cd34 "_law_told" = true) (k34 : PySem.W.keepIn K (.ref f34) = true)
    (a27 : PySem.W.nsIn K mainGlobals "_law_whole" = some (some (.ref f27)))    (l27 : K.lookup f27 = some ⟨oc27, od27, .func (PySem.W.fnOf "_law_whole" "_law_whole" (defArgs (top 27)) (defBody (top 27)) (defScope (top 27)) .none kV27 dc27 pm27 an27 cd27 ct27), sl27⟩) (c27 : PySem.W.codeIn K cd27 "_law_whole" = true) (k27 : PySem.W.keepIn K (.ref f27) = true)
    (a28 : PySem.W.nsIn K mainGlobals "_law_tuple" = some (some (.ref f28)))    (l28 : K.lookup f28 = some ⟨oc28, od28, .func (PySem.W.fnOf "_law_tuple" "_law_tuple" (defArgs (top 28)) (defBody (top 28)) (defScope (top 28)) .none kV28 dc28 pm28 an28 cd28 ct28), sl28⟩) (c28 : PySem.W.codeIn K cd28 "_law_tuple" = true) (k28 : PySem.W.keepIn K (.ref f28) = true)
    (a32 : PySem.W.nsIn K mainGlobals "_law_place" = some (some (.ref f32)))    (l32 : K.lookup f32 = some ⟨oc32, od32, .func (PySem.W.fnOf "_law_place" "_law_place" (defArgs (top 32)) (defBody (top 32)) (defScope (top 32)) .none kV32 dc32 pm32 an32 cd32 ct32), sl32⟩) (c32 : PySem.W.codeIn K cd32 "_law_place" = true) (k32 : PySem.W.keepIn K (.ref f32) = true)
    (a23 : PySem.W.nsIn K mainGlobals "stays" = some (some (.ref f23)))    (l23 : K.lookup f23 = some ⟨oc23, od23, .func (PySem.W.fnOf "stays" "stays" (defArgs (top 23)) (defBody (top 23)) (defScope (top 23)) .none kV23 dc23 pm23 an23 cd23 ct23), sl23⟩) (c23 : PySem.W.codeIn K cd23 "stays" = true) (k23 : PySem.W.keepIn K (.ref f23) = true)
    (a37 : PySem.W.nsIn K mainGlobals "_law_whole_way" = some (some (.ref f37)))    (l37 : K.lookup f37 = some ⟨oc37, od37, .func (PySem.W.fnOf "_law_whole_way" "_law_whole_way" (defArgs (top 37)) (defBody (top 37)) (defScope (top 37)) .none kV37 dc37 pm37 an37 cd37 ct37), sl37⟩) (c37 : PySem.W.codeIn K cd37 "_law_whole_way" = true) (k37 : PySem.W.keepIn K (.ref f37) = true)
    (a31 : PySem.W.nsIn K mainGlobals "_law_product" = some (some (.ref f31)))    (l31 : K.lookup f31 = some ⟨oc31, od31, .func (PySem.W.fnOf "_law_product" "_law_product" (defArgs (top 31)) (defBody (top 31)) (defScope (top 31)) .none kV31 dc31 pm31 an31 cd31 ct31), sl31⟩) (c31 : PySem.W.codeIn K cd31 "_law_product" = true) (k31 : PySem.W.keepIn K (.ref f31) = true)
    (a11 : PySem.W.nsIn K mainGlobals "upright" = some (some (.ref f11)))    (l11 : K.lookup f11 = some ⟨oc11, od11, .func (PySem.W.fnOf "upright" "upright" (defArgs (top 11)) (defBody (top 11)) (defScope (top 11)) .none kV11 dc11 pm11 an11 cd11 ct11), sl11⟩) (c11 : PySem.W.codeIn K cd11 "upright" = true) (k11 : PySem.W.keepIn K (.ref f11) = true)
    (a16 : PySem.W.nsIn K mainGlobals "table_of" = some (some (.ref f16)))    (l16 : K.lookup f16 = some ⟨oc16, od16, .func (PySem.W.fnOf "table_of" "table_of" (defArgs (top 16)) (defBody (top 16)) (defScope (top 16)) .none kV16 dc16 pm16 an16 cd16 ct16), sl16⟩) (c16 : PySem.W.codeIn K cd16 "table_of" = true) (k16 : PySem.W.keepIn K (.ref f16) = true)
    (l20_0 : K.lookup f20_0 = some ⟨oc20_0, od20_0, .func (PySem.W.fnOf "__init__" "Deed.__init__" (defArgs (clsAt (top 20) 0)) (defBody (clsAt (top 20) 0)) (defScope (clsAt (top 20) 0)) .none kV20_0 dc20_0 pm20_0 an20_0 cd20_0 ct20_0), sl20_0⟩) (c20_0 : PySem.W.codeIn K cd20_0 "Deed.__init__" = true) (k20_0 : PySem.W.keepIn K (.ref f20_0) = true)
    (l21_0 : K.lookup f21_0 = some ⟨oc21_0, od21_0, .func (PySem.W.fnOf "__init__" "Turn.__init__" (defArgs (clsAt (top 21) 0)) (defBody (clsAt (top 21) 0)) (defScope (clsAt (top 21) 0)) .none kV21_0 dc21_0 pm21_0 an21_0 cd21_0 ct21_0), sl21_0⟩) (c21_0 : PySem.W.codeIn K cd21_0 "Turn.__init__" = true) (k21_0 : PySem.W.keepIn K (.ref f21_0) = true)
    (a5 : PySem.W.nsIn K mainGlobals "plain_product" = some (some (.ref f5)))    (l5 : K.lookup f5 = some ⟨oc5, od5, .func (PySem.W.fnOf "plain_product" "plain_product" (defArgs (top 5)) (defBody (top 5)) (defScope (top 5)) .none kV5 dc5 pm5 an5 cd5 ct5), sl5⟩) (c5 : PySem.W.codeIn K cd5 "plain_product" = true) (k5 : PySem.W.keepIn K (.ref f5) = true)
    (l21_1 : K.lookup f21_1 = some ⟨oc21_1, od21_1, .func (PySem.W.fnOf "number" "Turn.number" (defArgs (clsAt (top 21) 1)) (defBody (clsAt (top 21) 1)) (defScope (clsAt (top 21) 1)) .none kV21_1 dc21_1 pm21_1 an21_1 cd21_1 ct21_1), sl21_1⟩) (c21_1 : PySem.W.codeIn K cd21_1 "Turn.number" = true) (k21_1 : PySem.W.keepIn K (.ref f21_1) = true)
    (l21_3 : K.lookup f21_3 = some ⟨oc21_3, od21_3, .func (PySem.W.fnOf "behind" "Turn.behind" (defArgs (clsAt (top 21) 3)) (defBody (clsAt (top 21) 3)) (defScope (clsAt (top 21) 3)) .none kV21_3 dc21_3 pm21_3 an21_3 cd21_3 ct21_3), sl21_3⟩) (c21_3 : PySem.W.codeIn K cd21_3 "Turn.behind" = true) (k21_3 : PySem.W.keepIn K (.ref f21_3) = true)
    (a6 : PySem.W.nsIn K mainGlobals "other_signed" = some (some (.ref f6)))    (l6 : K.lookup f6 = some ⟨oc6, od6, .func (PySem.W.fnOf "other_signed" "other_signed" (defArgs (top 6)) (defBody (top 6)) (defScope (top 6)) .none kV6 dc6 pm6 an6 cd6 ct6), sl6⟩) (c6 : PySem.W.codeIn K cd6 "other_signed" = true) (k6 : PySem.W.keepIn K (.ref f6) = true)
    (l21_2 : K.lookup f21_2 = some ⟨oc21_2, od21_2, .func (PySem.W.fnOf "back" "Turn.back" (defArgs (clsAt (top 21) 2)) (defBody (clsAt (top 21) 2)) (defScope (clsAt (top 21) 2)) .none kV21_2 dc21_2 pm21_2 an21_2 cd21_2 ct21_2), sl21_2⟩) (c21_2 : PySem.W.codeIn K cd21_2 "Turn.back" = true) (k21_2 : PySem.W.keepIn K (.ref f21_2) = true)
    (a38 : PySem.W.nsIn K mainGlobals "law" = some (some (.ref f38)))    (l38 : K.lookup f38 = some ⟨oc38, od38, .func (PySem.W.fnOf "law" "law" (defArgs (top 38)) (defBody (top 38)) (defScope (top 38)) .none kV38 dc38 pm38 an38 cd38 ct38), sl38⟩) (c38 : PySem.W.codeIn K cd38 "law" = true) (k38 : PySem.W.keepIn K (.ref f38) = true)
    (z0 : PySem.W.nsIn K mainGlobals "len" = some none)    (z1 : PySem.W.nsIn K mainGlobals "tuple" = some none)    (z2 : PySem.W.nsIn K mainGlobals "list" = some none)    (z3 : PySem.W.nsIn K mainGlobals "abs" = some none)    (z4 : PySem.W.nsIn K mainGlobals "all" = some none)    (z5 : PySem.W.nsIn K mainGlobals "sum" = some none)    (z6 : PySem.W.nsIn K mainGlobals "isinstance" = some none)    (z7 : PySem.W.nsIn K mainGlobals "set" = some none)    (z8 : PySem.W.nsIn K mainGlobals "int" = some none)    (z9 : PySem.W.nsIn K mainGlobals "bool" = some none)    (z10 : PySem.W.nsIn K mainGlobals "str" = some none)    (z11 : PySem.W.nsIn K mainGlobals "range" = some none)    (z12 : PySem.W.nsIn K mainGlobals "zip" = some none)    (z13 : PySem.W.nsIn K mainGlobals "enumerate" = some none)    (z14 : PySem.W.nsIn K mainGlobals "any" = some none)    (z15 : PySem.W.nsIn K mainGlobals "sorted" = some none)    (z16 : PySem.W.nsIn K mainGlobals "min" = some none)    (z17 : PySem.W.nsIn K mainGlobals "max" = some none)    (z18 : PySem.W.nsIn K mainGlobals "reversed" = some none) :
    ∃ fd : FuncData, (∀ (s : Shared) (v : Value), BindsTo s fd ⟨[v], []⟩ [("_law_script", v)]) /\ ∀ base : Heap, K.In base -> base.Ns mainGlobals mg -> FnOk l.prog w K mg base CX0 8 fa fd ["_law_script"] (spD K R_law) := by
  have e := hfa.symm.trans (PySem.W.mg_of X G a38)
  cases e
  have hbl : ∀ n ∈ bnames, mg n = none := mem_cons_ok (Pr := fun n => mg n = none) (PySem.W.mg_none_of X G z0) (mem_cons_ok (Pr := fun n => mg n = none) (PySem.W.mg_none_of X G z1) (mem_cons_ok (Pr := fun n => mg n = none) (PySem.W.mg_none_of X G z2) (mem_cons_ok (Pr := fun n => mg n = none) (PySem.W.mg_none_of X G z3) (mem_cons_ok (Pr := fun n => mg n = none) (PySem.W.mg_none_of X G z4) (mem_cons_ok (Pr := fun n => mg n = none) (PySem.W.mg_none_of X G z5) (mem_cons_ok (Pr := fun n => mg n = none) (PySem.W.mg_none_of X G z6) (mem_cons_ok (Pr := fun n => mg n = none) (PySem.W.mg_none_of X G z7) (mem_cons_ok (Pr := fun n => mg n = none) (PySem.W.mg_none_of X G z8) (mem_cons_ok (Pr := fun n => mg n = none) (PySem.W.mg_none_of X G z9) (mem_cons_ok (Pr := fun n => mg n = none) (PySem.W.mg_none_of X G z10) (mem_cons_ok (Pr := fun n => mg n = none) (PySem.W.mg_none_of X G z11) (mem_cons_ok (Pr := fun n => mg n = none) (PySem.W.mg_none_of X G z12) (mem_cons_ok (Pr := fun n => mg n = none) (PySem.W.mg_none_of X G z13) (mem_cons_ok (Pr := fun n => mg n = none) (PySem.W.mg_none_of X G z14) (mem_cons_ok (Pr := fun n => mg n = none) (PySem.W.mg_none_of X G z15) (mem_cons_ok (Pr := fun n => mg n = none) (PySem.W.mg_none_of X G z16) (mem_cons_ok (Pr := fun n => mg n = none) (PySem.W.mg_none_of X G z17) (mem_cons_ok (Pr := fun n => mg n = none) (PySem.W.mg_none_of X G z18) (nil_ok)))))))))))))))))))
  have cl_Turn : Cls K C_Turn := ⟨pg_Turn, hd_Turn, po_Turn, sa_Turn⟩
  have F26 := fun_mk (st := (top 26)) l26 c26 k26
  have b26 := F26.binds (ps := ["_law_script", "_law_k"]) fun _ _ _ _ _ _ us hl => by obtain ⟨x0, x1, rfl⟩ := len2 hl; rfl
  have F29 := fun_mk (st := (top 29)) l29 c29 k29
  have b29 := F29.binds (ps := ["_law_cell_here", "_law_kind"]) fun _ _ _ _ _ _ us hl => by obtain ⟨x0, x1, rfl⟩ := len2 hl; rfl
  have F33 := fun_mk (st := (top 33)) l33 c33 k33
  have b33 := F33.binds (ps := ["_law_script", "_law_at"]) fun _ _ _ _ _ _ us hl => by obtain ⟨x0, x1, rfl⟩ := len2 hl; rfl
  have F20_1 := fun_mk (st := (clsAt (top 20) 1)) l20_1 c20_1 k20_1
  have b20_1 := F20_1.binds (ps := ["self"]) fun _ _ _ _ _ _ us hl => by obtain ⟨x0, rfl⟩ := len1 hl; rfl
  have F24 := fun_mk (st := (top 24)) l24 c24 k24
  have b24 := F24.binds (ps := ["turn"]) fun _ _ _ _ _ _ us hl => by obtain ⟨x0, rfl⟩ := len1 hl; rfl
  have F12 := fun_mk (st := (top 12)) l12 c12 k12
  have b12 := F12.binds (ps := ["one", "other"]) fun _ _ _ _ _ _ us hl => by obtain ⟨x0, x1, rfl⟩ := len2 hl; rfl
  have F18 := fun_mk (st := (top 18)) l18 c18 k18
  have b18 := F18.binds (ps := ["rows", "other"]) fun _ _ _ _ _ _ us hl => by obtain ⟨x0, x1, rfl⟩ := len2 hl; rfl
  have F9 := fun_mk (st := (top 9)) l9 c9 k9
  have b9 := F9.binds (ps := ["one", "other"]) fun _ _ _ _ _ _ us hl => by obtain ⟨x0, x1, rfl⟩ := len2 hl; rfl
  have F8 := fun_mk (st := (top 8)) l8 c8 k8
  have b8 := F8.binds (ps := ["numbers"]) fun _ _ _ _ _ _ us hl => by obtain ⟨x0, rfl⟩ := len1 hl; rfl
  have F10 := fun_mk (st := (top 10)) l10 c10 k10
  have b10 := F10.binds (ps := ["numbers", "divisor"]) fun _ _ _ _ _ _ us hl => by obtain ⟨x0, x1, rfl⟩ := len2 hl; rfl
  have F15 := fun_mk (st := (top 15)) l15 c15 k15
  have b15 := F15.binds (ps := ["table", "spot"]) fun _ _ _ _ _ _ us hl => by obtain ⟨x0, x1, rfl⟩ := len2 hl; rfl
  have F20_2 := fun_mk (st := (clsAt (top 20) 2)) l20_2 c20_2 k20_2
  have b20_2 := F20_2.binds (ps := ["self", "spot"]) fun _ _ _ _ _ _ us hl => by obtain ⟨x0, x1, rfl⟩ := len2 hl; rfl
  have F36 := fun_mk (st := (top 36)) l36 c36 k36
  have b36 := F36.binds (ps := ["_law_turns", "_law_spot_here"]) fun _ _ _ _ _ _ us hl => by obtain ⟨x0, x1, rfl⟩ := len2 hl; rfl
  have F35 := fun_mk (st := (top 35)) l35 c35 k35
  have b35 := F35.binds (ps := ["_law_script", "_law_at"]) fun _ _ _ _ _ _ us hl => by obtain ⟨x0, x1, rfl⟩ := len2 hl; rfl
  have F14 := fun_mk (st := (top 14)) l14 c14 k14
  have b14 := F14.binds (ps := ["table"]) fun _ _ _ _ _ _ us hl => by obtain ⟨x0, rfl⟩ := len1 hl; rfl
  have F17 := fun_mk (st := (top 17)) l17 c17 k17
  have b17 := F17.binds (ps := ["first", "second"]) fun _ _ _ _ _ _ us hl => by obtain ⟨x0, x1, rfl⟩ := len2 hl; rfl
  have F30 := fun_mk (st := (top 30)) l30 c30 k30
  have b30 := F30.binds (ps := ["_law_numbers"]) fun _ _ _ _ _ _ us hl => by obtain ⟨x0, rfl⟩ := len1 hl; rfl
  have F34 := fun_mk (st := (top 34)) l34 c34 k34
  have b34 := F34.binds (ps := ["_law_numbers"]) fun _ _ _ _ _ _ us hl => by obtain ⟨x0, rfl⟩ := len1 hl; rfl
  have F27 := fun_mk (st := (top 27)) l27 c27 k27
  have b27 := F27.binds (ps := ["_law_x"]) fun _ _ _ _ _ _ us hl => by obtain ⟨x0, rfl⟩ := len1 hl; rfl
  have F28 := fun_mk (st := (top 28)) l28 c28 k28
  have b28 := F28.binds (ps := ["_law_found", "_law_many"]) fun _ _ _ _ _ _ us hl => by obtain ⟨x0, x1, rfl⟩ := len2 hl; rfl
  have F32 := fun_mk (st := (top 32)) l32 c32 k32
  have b32 := F32.binds (ps := ["_law_found", "_law_n", "_law_brought"]) fun _ _ _ _ _ _ us hl => by obtain ⟨x0, x1, x2, rfl⟩ := len3 hl; rfl
  have F23 := fun_mk (st := (top 23)) l23 c23 k23
  have b23 := F23.binds (ps := ["turn", "spot"]) fun _ _ _ _ _ _ us hl => by obtain ⟨x0, x1, rfl⟩ := len2 hl; rfl
  have F37 := fun_mk (st := (top 37)) l37 c37 k37
  have b37 := F37.binds (ps := ["_law_turns", "_law_spot_here"]) fun _ _ _ _ _ _ us hl => by obtain ⟨x0, x1, rfl⟩ := len2 hl; rfl
  have F31 := fun_mk (st := (top 31)) l31 c31 k31
  have b31 := F31.binds (ps := ["_law_one", "_law_other"]) fun _ _ _ _ _ _ us hl => by obtain ⟨x0, x1, rfl⟩ := len2 hl; rfl
  have F11 := fun_mk (st := (top 11)) l11 c11 k11
  have b11 := F11.binds (ps := ["numbers"]) fun _ _ _ _ _ _ us hl => by obtain ⟨x0, rfl⟩ := len1 hl; rfl
  have F16 := fun_mk (st := (top 16)) l16 c16 k16
  have b16 := F16.binds (ps := ["numbers"]) fun _ _ _ _ _ _ us hl => by obtain ⟨x0, rfl⟩ := len1 hl; rfl
  have F20_0 := fun_mk (st := (clsAt (top 20) 0)) l20_0 c20_0 k20_0
  have b20_0 := F20_0.binds (ps := ["self", "word", "row", "fractions"]) fun _ _ _ _ _ _ us hl => by obtain ⟨x0, x1, x2, x3, rfl⟩ := len4 hl; rfl
  have F21_0 := fun_mk (st := (clsAt (top 21) 0)) l21_0 c21_0 k21_0
  have b21_0 := F21_0.binds (ps := ["self", "numbers"]) fun _ _ _ _ _ _ us hl => by obtain ⟨x0, x1, rfl⟩ := len2 hl; rfl
  have F5 := fun_mk (st := (top 5)) l5 c5 k5
  have b5 := F5.binds (ps := ["one", "other"]) fun _ _ _ _ _ _ us hl => by obtain ⟨x0, x1, rfl⟩ := len2 hl; rfl
  have F21_1 := fun_mk (st := (clsAt (top 21) 1)) l21_1 c21_1 k21_1
  have b21_1 := F21_1.binds (ps := ["self"]) fun _ _ _ _ _ _ us hl => by obtain ⟨x0, rfl⟩ := len1 hl; rfl
  have F21_3 := fun_mk (st := (clsAt (top 21) 3)) l21_3 c21_3 k21_3
  have b21_3 := F21_3.binds (ps := ["self", "first"]) fun _ _ _ _ _ _ us hl => by obtain ⟨x0, x1, rfl⟩ := len2 hl; rfl
  have F6 := fun_mk (st := (top 6)) l6 c6 k6
  have b6 := F6.binds (ps := ["four"]) fun _ _ _ _ _ _ us hl => by obtain ⟨x0, rfl⟩ := len1 hl; rfl
  have F21_2 := fun_mk (st := (clsAt (top 21) 2)) l21_2 c21_2 k21_2
  have b21_2 := F21_2.binds (ps := ["self"]) fun _ _ _ _ _ _ us hl => by obtain ⟨x0, rfl⟩ := len1 hl; rfl
  have F38 := fun_mk (st := (top 38)) l38 c38 k38
  refine ⟨PySem.W.fnOf "law" "law" (defArgs (top 38)) (defBody (top 38)) (defScope (top 38)) .none kV38 dc38 pm38 an38 cd38 ct38, fun s v => .of_eq rfl, fun base _ _ => ?_⟩
  have D26 : FnD l.prog w K mg base 1 "_law_cell" S_l_cell := fnD_of F26 sc26 (PySem.W.mg_of X G a26) b26 (by decide +kernel) (fxo_of (nil_ok) (nil_ok) BL_ok IL_ok ML_ok TL_ok noSl_ok hbl) S_l_cell_ok
  have D29 : FnD l.prog w K mg base 1 "_law_number" S_l_number := fnD_of F29 sc29 (PySem.W.mg_of X G a29) b29 (by decide +kernel) (fxo_of (nil_ok) (nil_ok) BL_ok IL_ok ML_ok TL_ok noSl_ok hbl) S_l_number_ok
  have D33 : FnD l.prog w K mg base 2 "_law_spot" S_l_spot := fnD_of F33 sc33 (PySem.W.mg_of X G a33) b33 (by decide +kernel) (fxo_of (cL D26 (cL D29 (nil_ok))) (nil_ok) BL_ok IL_ok ML_ok TL_ok noSl_ok hbl) S_l_spot_ok
  have M_Turn_table : MethD l.prog w K mg base 1 "Turn" "table" R_Deed_table := methD_of F20_1 sc20_1 cn_Turn cl_Turn ⟨mt_Turn_table, mf_Turn_table, k20_1⟩ b20_1 (fxo_ofo (nil_ok) (nil_ok) BL_ok IL_ok ML_ok TL_ok noSl_ok (mem_cons_ok (Pr := FldP K) ((fun f hf C hC => (show ∀ C, PySem.W.nsIn K mainGlobals "Turn" = some (some (.ref C)) -> ∀ f ∈ [("fractions" : Str)], NoAttr K C f by intro C hC; cases (cn_Turn.symm.trans hC); exact mem_cons_ok (Pr := fun f => NoAttr K C_Turn f) (na_Turn_fractions) (nil_ok)) C hC f hf)) (nil_ok)) (nil_ok) hbl) Runs.self
  have D24 : FnD l.prog w K mg base 2 "corner_number" R_corner_number := fnD_of F24 sc24 (PySem.W.mg_of X G a24) b24 (by decide +kernel) (fxo_ofo (nil_ok) (nil_ok) BL_ok IL_ok ML_ok TL_ok noSl_ok (nil_ok) (mem_cons_ok (Pr := OmtP l.prog w K mg base 1) (mem_cons_ok (Pr := fun q : Str × (List D -> Rs D) => MethD l.prog w K mg base 1 "Turn" q.1 q.2) (M_Turn_table.mono (by decide)) (nil_ok)) (nil_ok)) hbl) Runs.self
  have D12 : FnD l.prog w K mg base 1 "added_products" R_added_products := fnD_of F12 sc12 (PySem.W.mg_of X G a12) b12 (by decide +kernel) (fxo_of (nil_ok) (nil_ok) BL_ok IL_ok ML_ok TL_ok noSl_ok hbl) Runs.self
  have D18 : FnD l.prog w K mg base 2 "each_with" R_each_with := fnD_of F18 sc18 (PySem.W.mg_of X G a18) b18 (by decide +kernel) (fxo_of (cL D12 (nil_ok)) (nil_ok) BL_ok IL_ok ML_ok TL_ok noSl_ok hbl) Runs.self
  have D9 : FnD l.prog w K mg base 1 "shared_by" R_shared_by := fnD_of F9 sc9 (PySem.W.mg_of X G a9) b9 (by decide +kernel) (fxo_of (nil_ok) (nil_ok) BL_ok IL_ok ML_ok TL_ok noSl_ok hbl) Runs.self
  have D8 : FnD l.prog w K mg base 2 "common_divisor" S_common_divisor := fnD_of F8 sc8 (PySem.W.mg_of X G a8) b8 (by decide +kernel) (fxo_of (cL D9 (nil_ok)) (nil_ok) BL_ok IL_ok ML_ok TL_ok noSl_ok hbl) S_common_divisor_ok
  have D10 : FnD l.prog w K mg base 1 "shortened" R_shortened := fnD_of F10 sc10 (PySem.W.mg_of X G a10) b10 (by decide +kernel) (fxo_of (nil_ok) (nil_ok) BL_ok IL_ok ML_ok TL_ok noSl_ok hbl) Runs.self
  have D15 : FnD l.prog w K mg base 3 "place_by" R_place_by := fnD_of F15 sc15 (PySem.W.mg_of X G a15) b15 (by decide +kernel) (fxo_of (cL D18 (cL D8 (cL D10 (nil_ok)))) (nil_ok) BL_ok IL_ok ML_ok TL_ok noSl_ok hbl) Runs.self
  have M_Turn_place : MethD l.prog w K mg base 4 "Turn" "place" R_Deed_place := methD_of F20_2 sc20_2 cn_Turn cl_Turn ⟨mt_Turn_place, mf_Turn_place, k20_2⟩ b20_2 (fxo_ofo (cL D15 (nil_ok)) (nil_ok) BL_ok IL_ok ML_ok TL_ok noSl_ok (mem_cons_ok (Pr := FldP K) ((fun f hf C hC => (show ∀ C, PySem.W.nsIn K mainGlobals "Turn" = some (some (.ref C)) -> ∀ f ∈ [("fractions" : Str)], NoAttr K C f by intro C hC; cases (cn_Turn.symm.trans hC); exact mem_cons_ok (Pr := fun f => NoAttr K C_Turn f) (na_Turn_fractions) (nil_ok)) C hC f hf)) (nil_ok)) (nil_ok) hbl) Runs.self
  have D36 : FnD l.prog w K mg base 5 "_law_along" R_l_along := fnD_of F36 sc36 (PySem.W.mg_of X G a36) b36 (by decide +kernel) (fxo_ofo (nil_ok) (nil_ok) BL_ok IL_ok ML_ok TL_ok noSl_ok (nil_ok) (mem_cons_ok (Pr := OmtP l.prog w K mg base 4) (mem_cons_ok (Pr := fun q : Str × (List D -> Rs D) => MethD l.prog w K mg base 4 "Turn" q.1 q.2) (M_Turn_place.mono (by decide)) (nil_ok)) (nil_ok)) hbl) Runs.self
  have D35 : FnD l.prog w K mg base 2 "_law_row" R_l_row := fnD_of F35 sc35 (PySem.W.mg_of X G a35) b35 (by decide +kernel) (fxo_of (cL D26 (nil_ok)) (nil_ok) BL_ok IL_ok ML_ok TL_ok noSl_ok hbl) Runs.self
  have D14 : FnD l.prog w K mg base 3 "lowest" R_lowest := fnD_of F14 sc14 (PySem.W.mg_of X G a14) b14 (by decide +kernel) (fxo_of (cL D8 (cL D10 (nil_ok))) (nil_ok) BL_ok IL_ok ML_ok TL_ok noSl_ok hbl) Runs.self
  have D17 : FnD l.prog w K mg base 4 "behind" R_behind := fnD_lz (fnOk_lz (pre := (defBody (top 17)).take 2) (post := (defBody (top 17)).drop 3) F17 sc17 (fxo_of (cL D14 (cL D18 (nil_ok))) (nil_ok) BL_ok IL_ok ML_ok TL_ok noSl_ok hbl) rfl rfl rfl rfl rfl rfl) (PySem.W.mg_of X G a17) k17 b17 (by decide +kernel)
  have D30 : FnD l.prog w K mg base 1 "_law_divisor" S_l_divisor := fnD_of F30 sc30 (PySem.W.mg_of X G a30) b30 (by decide +kernel) (fxo_of (nil_ok) (nil_ok) BL_ok IL_ok ML_ok TL_ok noSl_ok hbl) S_l_divisor_ok
  have D34 : FnD l.prog w K mg base 2 "_law_told" R_l_told := fnD_of F34 sc34 (PySem.W.mg_of X G a34) b34 (by decide +kernel) (fxo_of (cL D30 (nil_ok)) (nil_ok) BL_ok IL_ok ML_ok TL_ok noSl_ok hbl) Runs.self
  have D27 : FnD l.prog w K mg base 1 "_law_whole" R_l_whole := fnD_of F27 sc27 (PySem.W.mg_of X G a27) b27 (by decide +kernel) (fxo_of (nil_ok) (nil_ok) BL_ok IL_ok ML_ok TL_ok noSl_ok hbl) Runs.self
  have D28 : FnD l.prog w K mg base 2 "_law_tuple" R_l_tuple := fnD_of F28 sc28 (PySem.W.mg_of X G a28) b28 (by decide +kernel) (fxo_of (cL D27 (nil_ok)) (nil_ok) BL_ok IL_ok ML_ok TL_ok noSl_ok hbl) Runs.self
  have D32 : FnD l.prog w K mg base 3 "_law_place" R_l_place := fnD_of F32 sc32 (PySem.W.mg_of X G a32) b32 (by decide +kernel) (fxo_of (cL D27 (cL D28 (cL D30 (nil_ok)))) (nil_ok) BL_ok IL_ok ML_ok TL_ok noSl_ok hbl) Runs.self
  have D23 : FnD l.prog w K mg base 5 "stays" R_stays := fnD_of F23 sc23 (PySem.W.mg_of X G a23) b23 (by decide +kernel) (fxo_ofo (nil_ok) (nil_ok) BL_ok IL_ok ML_ok TL_ok noSl_ok (nil_ok) (mem_cons_ok (Pr := OmtP l.prog w K mg base 4) (mem_cons_ok (Pr := fun q : Str × (List D -> Rs D) => MethD l.prog w K mg base 4 "Turn" q.1 q.2) (M_Turn_place.mono (by decide)) (nil_ok)) (nil_ok)) hbl) Runs.self
  have D37 : FnD l.prog w K mg base 6 "_law_whole_way" R_l_whole_way := fnD_of F37 sc37 (PySem.W.mg_of X G a37) b37 (by decide +kernel) (fxo_ofo (cL D23 (nil_ok)) (nil_ok) BL_ok IL_ok ML_ok TL_ok noSl_ok (nil_ok) (mem_cons_ok (Pr := OmtP l.prog w K mg base 5) (mem_cons_ok (Pr := fun q : Str × (List D -> Rs D) => MethD l.prog w K mg base 5 "Turn" q.1 q.2) (M_Turn_place.mono (by decide)) (nil_ok)) (nil_ok)) hbl) Runs.self
  have D31 : FnD l.prog w K mg base 1 "_law_product" S_l_product := fnD_of F31 sc31 (PySem.W.mg_of X G a31) b31 (by decide +kernel) (fxo_of (nil_ok) (nil_ok) BL_ok IL_ok ML_ok TL_ok noSl_ok hbl) S_l_product_ok
  have D11 : FnD l.prog w K mg base 3 "upright" R_upright := fnD_of F11 sc11 (PySem.W.mg_of X G a11) b11 (by decide +kernel) (fxo_of (cL D8 (cL D10 (nil_ok))) (nil_ok) BL_ok IL_ok ML_ok TL_ok noSl_ok hbl) Runs.self
  have D16 : FnD l.prog w K mg base 4 "table_of" R_table_of := fnD_of F16 sc16 (PySem.W.mg_of X G a16) b16 (by decide +kernel) (fxo_of (cL D11 (cL D14 (nil_ok))) (nil_ok) BL_ok IL_ok ML_ok TL_ok noSl_ok hbl) Runs.self
  have B20_0 : FnOk l.prog w K mg base CX0 1 f20_0 _ ["self", "word", "row", "fractions"] (spB K ["word", "row", "fractions"]) := base_ok F20_0 rfl sc20_0 (mem_cons_ok (Pr := fun x => Vis (defScope (clsAt (top 20) 0)) x) (Or.inl rfl) (mem_cons_ok (Pr := fun x => Vis (defScope (clsAt (top 20) 0)) x) (Or.inl rfl) (mem_cons_ok (Pr := fun x => Vis (defScope (clsAt (top 20) 0)) x) (Or.inl rfl) (mem_cons_ok (Pr := fun x => Vis (defScope (clsAt (top 20) 0)) x) (Or.inl rfl) (nil_ok))))) (mem_cons_ok (Pr := fun x => okN x = true) (rfl) (mem_cons_ok (Pr := fun x => okN x = true) (rfl) (mem_cons_ok (Pr := fun x => okN x = true) (rfl) (mem_cons_ok (Pr := fun x => okN x = true) (rfl) (nil_ok))))) rfl (by decide) (by decide) (by decide)
  have N21_0 : FnOk l.prog w K mg base CX0 5 f21_0 _ ["self", "numbers"] (spI K "Turn" R_Turn___init__) := init_ok (n := "Turn") (b := "Deed") F21_0 sc21_0 (fxo_of (cL D11 (cL D16 (nil_ok))) (nil_ok) BL_ok IL_ok ML_ok TL_ok noSl_ok hbl) (B20_0.mono (by decide)) b20_0 k20_0 rfl (PySem.W.mg_of X G cn_Deed) ga_Deed rd_Deed fc_Deed rfl rfl rfl (by decide +kernel) rfl (by decide) (show ∀ C, PySem.W.nsIn K mainGlobals "Turn" = some (some (.ref C)) -> ∀ f ∈ [("word" : Str), ("row" : Str), ("fractions" : Str)], NoAttr K C f by intro C hC; cases (cn_Turn.symm.trans hC); exact mem_cons_ok (Pr := fun f => NoAttr K C_Turn f) (na_Turn_word) (mem_cons_ok (Pr := fun f => NoAttr K C_Turn f) (na_Turn_row) (mem_cons_ok (Pr := fun f => NoAttr K C_Turn f) (na_Turn_fractions) (nil_ok))))
  have D21_0 : MkD l.prog w K mg base 6 "Turn" R_Turn___init__ := mkD_of init_lless ⟨mk_Turn, ini_Turn, ifn_Turn, ckp_Turn⟩ N21_0 (PySem.W.mg_of X G cn_Turn) cn_Turn cl_Turn b21_0 (by decide +kernel)
  have D5 : FnD l.prog w K mg base 1 "plain_product" S_plain_product := fnD_of F5 sc5 (PySem.W.mg_of X G a5) b5 (by decide +kernel) (fxo_of (nil_ok) (nil_ok) BL_ok IL_ok ML_ok TL_ok noSl_ok hbl) S_plain_product_ok
  have M_Turn_number : MethD l.prog w K mg base 1 "Turn" "number" R_Turn_number := methD_of F21_1 sc21_1 cn_Turn cl_Turn ⟨mt_Turn_number, mf_Turn_number, k21_1⟩ b21_1 (fxo_ofo (nil_ok) (nil_ok) BL_ok IL_ok ML_ok TL_ok noSl_ok (mem_cons_ok (Pr := FldP K) ((fun f hf C hC => (show ∀ C, PySem.W.nsIn K mainGlobals "Turn" = some (some (.ref C)) -> ∀ f ∈ [("row" : Str)], NoAttr K C f by intro C hC; cases (cn_Turn.symm.trans hC); exact mem_cons_ok (Pr := fun f => NoAttr K C_Turn f) (na_Turn_row) (nil_ok)) C hC f hf)) (nil_ok)) (nil_ok) hbl) Runs.self
  have M_Turn_behind : MethD l.prog w K mg base 7 "Turn" "behind" R_Turn_behind := methD_of F21_3 sc21_3 cn_Turn cl_Turn ⟨mt_Turn_behind, mf_Turn_behind, k21_3⟩ b21_3 (fxo_ofo (cL D5 (cR D21_0 (nil_ok))) (nil_ok) BL_ok IL_ok ML_ok TL_ok noSl_ok (mem_cons_ok (Pr := FldP K) ((fun f hf C hC => (show ∀ C, PySem.W.nsIn K mainGlobals "Turn" = some (some (.ref C)) -> ∀ f ∈ [("row" : Str)], NoAttr K C f by intro C hC; cases (cn_Turn.symm.trans hC); exact mem_cons_ok (Pr := fun f => NoAttr K C_Turn f) (na_Turn_row) (nil_ok)) C hC f hf)) (nil_ok)) (mem_cons_ok (Pr := OmtP l.prog w K mg base 6) (mem_cons_ok (Pr := fun q : Str × (List D -> Rs D) => MethD l.prog w K mg base 6 "Turn" q.1 q.2) (M_Turn_number.mono (by decide)) (nil_ok)) (nil_ok)) hbl) Runs.self
  have D6 : FnD l.prog w K mg base 1 "other_signed" S_other_signed := fnD_of F6 sc6 (PySem.W.mg_of X G a6) b6 (by decide +kernel) (fxo_of (nil_ok) (nil_ok) BL_ok IL_ok ML_ok TL_ok noSl_ok hbl) S_other_signed_ok
  have M_Turn_back : MethD l.prog w K mg base 7 "Turn" "back" R_Turn_back := methD_of F21_2 sc21_2 cn_Turn cl_Turn ⟨mt_Turn_back, mf_Turn_back, k21_2⟩ b21_2 (fxo_ofo (cL D6 (cR D21_0 (nil_ok))) (nil_ok) BL_ok IL_ok ML_ok TL_ok noSl_ok (mem_cons_ok (Pr := FldP K) ((fun f hf C hC => (show ∀ C, PySem.W.nsIn K mainGlobals "Turn" = some (some (.ref C)) -> ∀ f ∈ [("row" : Str)], NoAttr K C f by intro C hC; cases (cn_Turn.symm.trans hC); exact mem_cons_ok (Pr := fun f => NoAttr K C_Turn f) (na_Turn_row) (nil_ok)) C hC f hf)) (nil_ok)) (nil_ok) hbl) Runs.self
  exact fnOk_of F38 sc38 (fxo_ofo (cL D33 (cL D24 (cL D36 (cL D35 (cL D17 (cL D34 (cL D32 (cL D37 (cL D31 (cL D26 (cR D21_0 (nil_ok)))))))))))) (nil_ok) BL_ok IL_ok ML_ok TL_ok noSl_ok (nil_ok) (mem_cons_ok (Pr := OmtP l.prog w K mg base 7) (mem_cons_ok (Pr := fun q : Str × (List D -> Rs D) => MethD l.prog w K mg base 7 "Turn" q.1 q.2) (M_Turn_table.mono (by decide)) (mem_cons_ok (Pr := fun q : Str × (List D -> Rs D) => MethD l.prog w K mg base 7 "Turn" q.1 q.2) (M_Turn_behind.mono (by decide)) (mem_cons_ok (Pr := fun q : Str × (List D -> Rs D) => MethD l.prog w K mg base 7 "Turn" q.1 q.2) (M_Turn_number.mono (by decide)) (mem_cons_ok (Pr := fun q : Str × (List D -> Rs D) => MethD l.prog w K mg base 7 "Turn" q.1 q.2) (M_Turn_place.mono (by decide)) (mem_cons_ok (Pr := fun q : Str × (List D -> Rs D) => MethD l.prog w K mg base 7 "Turn" q.1 q.2) (M_Turn_back.mono (by decide)) (nil_ok)))))) (nil_ok)) hbl) Runs.self
theorem walkX {q : Program} {loose : List Str} {XP : (Str -> Option Value) -> Heap -> Prop} {r : PySem.W.RowW} {d : DefRec} {kwd : List (Str × Expr)} {run : Value -> List Value -> Sem Value} {K : Params -> PySem.W.Frag} {as : List Addr} {n t : Nat}
    (e : ∀ P, as = (K P).map (·.1)) (h : PySem.W.WalkO q loose XP (PySem.W.InK K) r d kwd run) : PySem.W.WalkX q loose XP (PySem.W.X.obsZ as) (PySem.W.X.valZ K n t) r d kwd run :=
  fun w _ _ mg mb G y a o pm cd doc dV kV h1 h2 h3 h4 h5 h6 args vals as' L =>
    h w _ _ mg mb G (PySem.W.InK.keeps w _ _ (PySem.W.X.z_facts e y).2.1 L.keeps) a o pm cd doc dV kV h1 h2 h3 h4 h5 h6 args vals as'
theorem walk {l : PySem.W.OpenLaw} {q : Program} {loose : List Str} {XP : (Str -> Option Value) -> Heap -> Prop} {YP : World -> Heap -> Prop} {d : DefRec} {K : Params -> PySem.W.Frag} (hn : l.most = some 63) (hdf : d.params.defaults = [])
    (hY : ∀ (w : World) (h : Heap), YP w h -> (K w.params).In h)
    (F : ∀ (w : World) (mg : Str -> Option Value) (fa : Addr) (h : Heap), (K w.params).In h -> h.Ns mainGlobals mg -> mg d.name = some (.ref fa) ->
      ∃ fd : FuncData, (∀ (s : Shared) (u : Value), BindsTo s fd ⟨[u], []⟩ [("_law_script", u)]) /\ ∀ base : Heap, (K w.params).In base -> base.Ns mainGlobals mg -> FnOk l.prog w (K w.params) mg base CX0 8 fa fd ["_law_script"] (spD (K w.params) R_law)) :
    PySem.W.WalkO q loose XP YP l.row.toRowW d [] (fun f vs => PySem.call f vs) :=
  L2.walk_ofB (n := 63) (k := 8) (x := "_law_script") (CX := fun _ => CX0) (sp := fun w => spD (K w.params) R_law) hn (by decide) hdf ⟨rfl, by decide, by decide⟩ hY F (fun _ _ a ns hl hb hO hS => hsp_of hO hS (law_true ns hl hb)) fun _ _ _ _ _ z => z
end K
theorem PySem.W.Fast.tw9996364065435771770 : True := True.intro
theorem PySem.W.Fast.tw5334419772809824900 : True := True.intro
theorem PySem.W.Fast.tw12934854025420017303 : True := True.intro
theorem PySem.W.Fast.tw11256433184326994264 : True := True.intro
theorem PySem.W.Fast.tw9337171015207780595 : True := True.intro
theorem PySem.W.Fast.tw15775512166805653535 : True := True.intro
theorem PySem.W.Fast.tw11182094871922620793 : True := True.intro
theorem PySem.W.Fast.tw5544152671219831754 : True := True.intro
theorem PySem.W.Fast.tw11706231411093473556 : True := True.intro
theorem PySem.W.Fast.tw3592389208802299713 : True := True.intro
theorem PySem.W.Fast.tw5834737122307878141 : True := True.intro
theorem PySem.W.Fast.tw5676027937669847306 : True := True.intro
theorem PySem.W.Fast.tw3504645018414972118 : True := True.intro
theorem PySem.W.Fast.tw11315593378841679005 : True := True.intro
theorem PySem.W.Fast.tw3199095289107047158 : True := True.intro
theorem PySem.W.Fast.tw4369329551703020703 : True := True.intro
theorem PySem.W.Fast.tw6258707756414056867 : True := True.intro
theorem PySem.W.Fast.tw7842392166013267844 : True := True.intro
theorem PySem.W.Fast.tw9803316511757519448 : True := True.intro
theorem PySem.W.Fast.tw1668030016797650511 : True := True.intro
theorem PySem.W.Fast.tw7600890582087355323 : True := True.intro
theorem PySem.W.Fast.tw4372027841440232054 : True := True.intro
theorem PySem.W.Fast.tw8028765811462379957 : True := True.intro
theorem PySem.W.Fast.tw16221031082156913172 : True := True.intro
theorem PySem.W.Fast.tw13104934082972919231 : True := True.intro
theorem PySem.W.Fast.tw659206532473470028 : True := True.intro
theorem PySem.W.Fast.tw481654502986969152 : True := True.intro
theorem PySem.W.Fast.tw17638215151246636337 : True := True.intro
theorem PySem.W.Fast.tw16166480214533636641 : True := True.intro
theorem PySem.W.Fast.tw15462435259802743148 : True := True.intro
theorem PySem.W.Fast.tw1857719508370904721 : True := True.intro
theorem PySem.W.Fast.tw2925186968291715422 : True := True.intro
theorem PySem.W.Fast.tw4457887879925615195 : True := True.intro
theorem PySem.W.Fast.tw13679262384518695839 : True := True.intro
theorem PySem.W.Fast.tw2889292054354912026 : True := True.intro
theorem PySem.W.Fast.tw2163174462212118050 : True := True.intro
theorem PySem.W.Fast.tw17413899398188552028 : True := True.intro
theorem PySem.W.Fast.tw12771060357388868663 : True := True.intro
theorem PySem.W.Fast.tw15006321887097802874 : True := True.intro
theorem PySem.W.Fast.tw12335271524336918391 : True := True.intro
theorem PySem.W.Fast.tw6744771093524218642 : True := True.intro
theorem PySem.W.Fast.tw15124555786477365194 : True := True.intro
theorem PySem.W.Fast.tw1733518942339629984 : True := True.intro
theorem PySem.W.Fast.tw10711179274669018141 : True := True.intro
theorem PySem.W.Fast.tw5208491962022614366 : True := True.intro
theorem PySem.W.Fast.tw168376652973332077 : True := True.intro
theorem PySem.W.Fast.tw5727812015713658410 : True := True.intro
theorem PySem.W.Fast.tw17932841249562377671 : True := True.intro
theorem PySem.W.Fast.tw8722048716072757838 : True := True.intro
theorem PySem.W.Fast.tw16760848301566587293 : True := True.intro
theorem PySem.W.Fast.tw15357361238634502360 : True := True.intro
theorem PySem.W.Fast.tw8703872840692146095 : True := True.intro
theorem PySem.W.Fast.tw11558757520998746556 : True := True.intro
theorem PySem.W.Fast.tw1503605287351317988 : True := True.intro
theorem PySem.W.Fast.tw1352640077826611311 : True := True.intro
open PySem PySem.W PyProof.Rows
set_option maxRecDepth 100000 in
set_option maxHeartbeats 0 in
theorem PySem.Challenge.cw_spaceturns_k60_whole_chains_of_turns_holds : PySem.Challenge.rw_spaceturns_k60_whole_chains_of_turns.Holds := by
  w_on; o_law; z_head; (case hw => w_witness2)
  k_fill
  refine K.walkX (fun _ => rfl) (K.walk (l := PySem.Challenge.rw_spaceturns_k60_whole_chains_of_turns) rfl rfl (fun w h Y => Y) ?F)
  case F =>
    intro w mg fa h KX G hmg
    refine' K.all_mk KX G hmg ?_ ?_ ?_ ?_ ?_ ?_ ?_ ?_ ?_ ?_ ?_ ?_ ?_ ?_ ?_ ?_ ?_ ?_ ?_ ?_ ?_ ?_ ?_ ?_ ?_ ?_ ?_ ?_ ?_ ?_ ?_ ?_ ?_ ?_ ?_ ?_ ?_ ?_ ?_ ?_ ?_ ?_ ?_ ?_ ?_ ?_ ?_ ?_ ?_ ?_ ?_ ?_ ?_ ?_ ?_ ?_ ?_ ?_ ?_ ?_ ?_ ?_ ?_ ?_ ?_ ?_ ?_ ?_ ?_ ?_ ?_ ?_ ?_ ?_ ?_ ?_ ?_ ?_ ?_ ?_ ?_ ?_ ?_ ?_ ?_ ?_ ?_ ?_ ?_ ?_ ?_ ?_ ?_ ?_ ?_ ?_ ?_ ?_ ?_ ?_ ?_ ?_ ?_ ?_ ?_ ?_ ?_ ?_ ?_ ?_ ?_ ?_ ?_ ?_ ?_ ?_ ?_ ?_ ?_ ?_ ?_ ?_ ?_ ?_ ?_ ?_ ?_ ?_ ?_ ?_ ?_ ?_ ?_ ?_ ?_ ?_ ?_ ?_ ?_ ?_ ?_ ?_ ?_ ?_ ?_ ?_ ?_ ?_ ?_ ?_ ?_ ?_ ?_ ?_ ?_ ?_ ?_ ?_ ?_ ?_ ?_ ?_ ?_ ?_ ?_ ?_ ?_ ?_ ?_ ?_ ?_ ?_ ?_ ?_
    all_goals try first | k_is | kernel_rfl
