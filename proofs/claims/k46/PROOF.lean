import PyProof.Rows.All
import Wide.All
import OpenK.AllK
import Wide.FinOn
import Lean
import PyProof.EqAt
import PyProof.EqKinds
import PyProof.TupleCall
import PySem.Challenge.RW_sackloads_k46_whole_rounds
def PySem.W.Fast.tw17852726952882422665 : Nat := 0
def PySem.W.Fast.tw3330721021285814477 : Nat := 0
def PySem.W.Fast.tw5870344487401724406 : Nat := 0
def PySem.W.Fast.tw9033482259994628225 : Nat := 0
def PySem.W.Fast.tw8006844200624761785 : Nat := 0
def PySem.W.Fast.tw11315605278754267530 : Nat := 0
def PySem.W.Fast.tw1038242211682237010 : Nat := 0
set_option linter.all false
set_option Elab.async false
set_option maxRecDepth 100000
open List renaming mem_cons_of_mem → mM, mem_cons_self → mS_, getElem?_eq_getElem → gG, length_cons → lC_, length_map → lM_, length_append → lA_, getElem?_map → gM_, map_cons → mC_, mem_append → mA_, length_range → lR_, length_nil → lN_, size_toArray → sT_, mem_range → mR_, mem_map → mP_, map_map → mm_, replicate_succ → rS_, length_set → lS_, not_mem_nil → nN_, map_congr_left → mL_, append_assoc → aA_, getElem?_eq_some_iff → gI_, foldl_cons → fo_, mem_singleton → ms_, mem_append_right → mr_, filter_cons → ft_
namespace L2
open PySem PySem.Spec PyProof.Rows
abbrev Key := Sum Int Str
def qlW : Key -> Value -> Bool
 | .inl k, v => Value.isInt k v
 | .inr x, v => Value.isStrOf x v
def qpb (w : World) : Key -> Int
 | .inl k => hashInt k
 | .inr x => hashStr w x
theorem zE : ∀ {k : Key} {v : Value}, qlW k v = true -> (∃ i t, k = Sum.inl i /\ v = Value.int i t) \/ (∃ x t, k = Sum.inr x /\ v = Value.str x t)
 | .inl i, v, h => by
  obtain ⟨t, e⟩ := Value.isInt_shape (k := i) (v := v) h
  exact .inl ⟨i, t, rfl, e⟩
 | .inr x, v, h => by
  obtain ⟨t, e⟩ := Value.isStrOf_shape (x := x) (v := v) h
  exact .inr ⟨x, t, rfl, e⟩
theorem qlX (a b : Int) : decide ((Sum.inl a : Key) = Sum.inl b) = (a == b) := by
 by_cases e : a = b
 ·subst e; simp
 ·have h : ¬ (Sum.inl a : Key) = Sum.inl b := fun q => e (Sum.inl.inj q)
  rw [decide_eq_false h]
  exact (beq_eq_false_iff_ne.mpr e).symm
theorem qlY (a b : Str) : decide ((Sum.inr a : Key) = Sum.inr b) = decide (a = b) := by
 by_cases e : a = b
 ·subst e; simp
 ·have h : ¬ (Sum.inr a : Key) = Sum.inr b := fun q => e (Sum.inr.inj q)
  rw [decide_eq_false h, decide_eq_false e]
theorem qlZ (a : Int) (b : Str) : decide ((Sum.inl a : Key) = Sum.inr b) = false := decide_eq_false (fun q => nomatch q)
theorem ql0 (a : Str) (b : Int) : decide ((Sum.inr a : Key) = Sum.inl b) = false := decide_eq_false (fun q => nomatch q)
def qch (prog : Program) (w : World) : PySem.KeyKind prog w Key where
 is := qlW
 hash := qpb w
 inj := fun v a b ha hb => by
  rcases zE ha with ⟨i, t, rfl, rfl⟩ | ⟨x, t, rfl, rfl⟩
  ·rcases zE hb with ⟨j, u, rfl, e⟩ | ⟨y, u, rfl, e⟩
   ·injection e with e1 _; rw [e1]
   ·exact nomatch e
  ·rcases zE hb with ⟨j, u, rfl, e⟩ | ⟨y, u, rfl, e⟩
   ·exact nomatch e
   ·injection e with e1 _; rw [e1]
 byValue := fun k v h => by
  rcases zE h with ⟨i, t, rfl, rfl⟩ | ⟨x, t, rfl, rfl⟩ <;> rfl
 pyHash := fun hv h => by
  rcases zE hv with ⟨i, t, rfl, rfl⟩ | ⟨x, t, rfl, rfl⟩
  ·exact wpAny_pyHash_int h
  ·exact wpAny_pyHash_str h
 eqBool := fun hu hv h => by
  rcases zE hu with ⟨i, t, rfl, rfl⟩ | ⟨x, t, rfl, rfl⟩
  ·rcases zE hv with ⟨j, u, rfl, rfl⟩ | ⟨y, u, rfl, rfl⟩
   ·rw [qlX] at h; exact wpAny_eqBool_int h
   ·rw [qlZ] at h; exact SeqAt.EqAt.int_str i t y u _ _ _ _ h
  ·rcases zE hv with ⟨j, u, rfl, rfl⟩ | ⟨y, u, rfl, rfl⟩
   ·rw [ql0] at h; exact SeqAt.EqAt.str_int x t j u _ _ _ _ h
   ·rw [qlY] at h; exact wpAny_eqBool_str h
 «strs» := fun k x t v h => by
  rcases zE h with ⟨i, u, rfl, e⟩ | ⟨y, u, rfl, e⟩
  ·exact nomatch e
  ·injection e with e1 _
   subst e1
   cases v <;> rfl
end L2
namespace L2
open PySem PySem.Spec PyProof.Rows
inductive V where
 | non | bl (b : Bool) | int (i : Int) | str (x : Str) | byt (b : Array UInt8) | flt (b : UInt64) | ref (a : Addr) | ty (n : String)
 deriving DecidableEq
def yx : V -> Value -> Prop
 | .non, u => u = Value.none
 | .bl b, u => u = Value.bool b
 | .int i, u => ∃ t, u = Value.int i t
 | .str x, u => ∃ t, u = Value.str x t
 | .byt b, u => ∃ t, u = Value.bytes b t
 | .flt b, u => ∃ t, u = Value.float b t
 | .ref a, u => u = Value.ref a
 | .ty n, u => u = Value.type n
abbrev zD : List V -> List Value -> Prop := Paired yx
theorem zD.length {xs : List V} {us : List Value} (r : zD xs us) : xs.length = us.length := Paired.length r
theorem zD.get : ∀ {xs : List V} {us : List Value} {i : Nat} {x : V}, zD xs us -> xs[i]? = some x -> ∃ u, us[i]? = some u /\ yx x u
 | _, _, _, _, .nil, e => by simp at e
 | _, _, 0, _, .cons r _, e => by simp at e; subst e; exact ⟨_, rfl, r⟩
 | _, _, i + 1, x, .cons _ t, e => by
  obtain ⟨u, h1, h2⟩ := zD.get (i := i) (x := x) t (by simpa using e)
  exact ⟨u, by simpa using h1, h2⟩
theorem zD.set {x : V} {u : Value} (r : yx x u) : ∀ {xs : List V} {us : List Value} (i : Nat), zD xs us -> zD (xs.set i x) (us.set i u)
 | _, _, _, .nil => .nil
 | _, _, 0, .cons _ t => .cons r t
 | _, _, i + 1, .cons q t => .cons q (zD.set r i t)
theorem zD.append : ∀ {xs ys : List V} {us ws : List Value}, zD xs us -> zD ys ws -> zD (xs ++ ys) (us ++ ws)
 | _, _, _, _, .nil, s => s
 | _, _, _, _, .cons r t, s => .cons r (zD.append t s)
theorem zD.take : ∀ {xs : List V} {us : List Value} (n : Nat), zD xs us -> zD (xs.take n) (us.take n)
 | _, _, 0, _ => .nil
 | _, _, _ + 1, .nil => .nil
 | _, _, n + 1, .cons r t => .cons r (zD.take n t)
theorem zD.drop : ∀ {xs : List V} {us : List Value} (n : Nat), zD xs us -> zD (xs.drop n) (us.drop n)
 | _, _, 0, r => r
 | _, _, _ + 1, .nil => .nil
 | _, _, n + 1, .cons _ t => zD.drop n t
def qnZ : Option V -> Option Value -> Prop
 | some v, some u => yx v u
 | none, none => True
 | _, _ => False
def KV {κ : Type} : List (κ × V) -> List (κ × Value) -> Prop := Paired fun (p : κ × V) (q : κ × Value) => p.1 = q.1 /\ yx p.2 q.2
def kV : Key -> V
 | .inl i => .int i
 | .inr x => .str x
inductive HO where
 /-- a list -/
 | lst (xs : List V)
 /-- a tuple (never changes) -/
 | tup (xs : List V)
 /-- a dict whose keys are ints and texts; one whose keys are tuples of ints and texts (the empty one is both) -/
 | dK (kvs : List (Key × V)) | dT (kvs : List (List Key × V))
 /-- a set of ints: its members, its size -/
 | set (S : Int -> Bool) (n : Nat)
 /-- an instance of the class at C, its dict at dx, its attributes -/
 | ins (C dx : Addr) (fs : List (Str × V))
 /-- the dict of the instance at x -/
 | own (x : Addr)
 /-- the dict of an exception -/
 | xd (fs : List (Str × V))
 /-- a bound method, f of x -/
 | met (f x : Addr)
 /-- a range object lo, lo + 1, .. below hi -/
 | rng (lo hi : Int)
 /-- a thing that is known to the object (the script; a dict while a loop walks it): read, never written while it is so -/
 | frz (o : Obj) (u : HO)
 /-- a code object's table -/
 | tbl (ps : Array Value)
 /-- any other thing, by what is true of its one object (a def of one's own: SetO a S n := HO.ext fun h => ..) -/
 | ext (φ : Heap -> Prop)
abbrev Hp := Addr -> Option HO
def upd (H : Hp) (a : Addr) (o : HO) : Hp := fun b => if b = a then some o else H b
theorem qA {H : Hp} {a : Addr} {o : HO} : upd H a o a = some o := by unfold upd; rw [if_pos rfl]
theorem qJ {H : Hp} {a b : Addr} {o : HO} (h : b ≠ a) : upd H a o b = H b := by unfold upd; rw [if_neg h]
theorem wT {H : Hp} {a b : Addr} {o u : HO} (h : H a = some o) (h' : H b = some u) (d : o ≠ u) : a ≠ b := by
 intro e; subst e; rw [h] at h'; exact d (Option.some.inj h')
theorem zn {H : Hp} {a b : Addr} {o : HO} (h : H a = some o) (h' : H b = none) : a ≠ b := by
 intro e; subst e; rw [h] at h'; cases h'
section
variable (P : Program) (w : World)
def yY (H : Hp) (h : Heap) (a : Addr) : HO -> Prop
 | .lst xs => xs.length <= sizeLine /\ ∃ (its : List Value) (n : Nat), zD xs its /\ h.get? a = some { cls := .type "list", data := .seq its.toArray n }
 | .tup xs => xs.length <= sizeLine /\ ∃ its : List Value, zD xs its /\ IsTup h a its.toArray
 | .dK kvs => kvs.length <= sizeLine /\ (a == sysModules) = false /\ ∃ vs, KV kvs vs /\ h.DictOf (qch P w) a vs
 | .dT kvs => kvs.length <= sizeLine /\ (a == sysModules) = false /\ ∃ xs : List (List Key × Addr × Value),
   Paired (fun (p : List Key × V) (q : List Key × Addr × Value) => p.1 = q.1 /\ H q.2.1 = some (.tup (p.1.map kV)) /\ yx p.2 q.2.2) kvs xs /\
   ∃ o es ep, h.get? a = some o /\ o.ExactDict /\ o.data = .dict es ep /\ es.toList = xs.map (entryOfKey (tupleKind (qch P w))) /\ (xs.map (·.1)).Nodup
 | .set S n => h.SetOf (intKind P w) a S n
 | .ins C dx fs => H dx = some (.own a) /\ fs.length <= 1000 /\ dx ≠ a /\ h.get? a = some (PySem.W.instObj C dx) /\
   ∃ mA, h.Ns1 dx mA /\ (∀ f, qnZ (fs.lookup f) (mA f)) /\ PySem.Within mA (fs.map (·.1))
 | .own _ => ∃ o, h.get? a = some o
 | .xd fs => ∃ mA, h.Ns1 a mA /\ ∀ f, qnZ (fs.lookup f) (mA f)
 | .rng lo hi => ∃ t u v, h.get? a = some { cls := .type "range", data := .fields #[.int lo t, .int hi u, .int 1 v] }
 | .frz o u => h.get? a = some o /\ yY H h a u
 | .tbl ps => h.get? a = some { cls := .none, data := .fields ps }
 | .met f x => h.get? a = some (PySem.W.methodObj (.ref f) (.ref x))
 | .ext φ => φ h /\ (∃ o, h.get? a = some o) /\ ∀ h1 h2 : Heap, φ h1 -> (∀ o, h1.get? a = some o -> h2.get? a = some o) -> φ h2
def HOk (H : Hp) (h : Heap) : Prop := ∀ a o, H a = some o -> yY P w H h a o
end
section
variable {P : Program} {w : World} {H H' : Hp} {h h' : Heap} {a : Addr} {o : HO}
theorem yY.lt (x : yY P w H h a o) : a < h.objs.size := by
 cases o with
 | lst xs => obtain ⟨_, _, _, _, e⟩ := x; exact Heap.lt_size e
 | tup xs => obtain ⟨_, _, _, p⟩ := x; exact p.lt
 | dK kvs => obtain ⟨_, _, _, _, o, _, _, e, _⟩ := x; exact Heap.lt_size e
 | dT kvs => obtain ⟨_, _, _, _, o, _, _, e, _⟩ := x; exact Heap.lt_size e
 | set S n => obtain ⟨o, _, _, _, e, _⟩ := x; exact Heap.lt_size e
 | ins C dx fs => obtain ⟨_, _, _, e, _⟩ := x; exact Heap.lt_size e
 | own y => obtain ⟨_, e⟩ := x; exact Heap.lt_size e
 | xd fs => obtain ⟨_, ⟨_, _, _, e, _⟩, _⟩ := x; exact Heap.lt_size e
 | rng lo hi => obtain ⟨_, _, _, e⟩ := x; exact Heap.lt_size e
 | frz ob u => obtain ⟨e, _⟩ := x; exact Heap.lt_size e
 | tbl ps => exact Heap.lt_size (show h.get? a = some _ from x)
 | met f y => exact Heap.lt_size (show h.get? a = some _ from x)
 | ext φ => obtain ⟨_, ⟨_, e⟩, _⟩ := x; exact Heap.lt_size e
theorem Paired.mapP {α β : Type} {F G : α -> β -> Prop} : ∀ {l₁ : List α} {l₂ : List β}, Paired F l₁ l₂ -> (∀ a b, F a b -> G a b) -> Paired G l₁ l₂
 | _, _, .nil, _ => .nil
 | _, _, .cons r t, f => .cons (f _ _ r) (Paired.mapP t f)
theorem yY.stay (x : yY P w H h a o) (k : ∀ b u, (b = a \/ H b = some (.own a)) -> h.get? b = some u -> h'.get? b = some u)
  (ho : ∀ b, H b = some (.own a) -> H' b = some (.own a)) (ht : ∀ b xs, H b = some (.tup xs) -> H' b = some (.tup xs)) : yY P w H' h' a o := by
 induction o with
 | lst xs => obtain ⟨z, its, n, r, e⟩ := x; exact ⟨z, its, n, r, k _ _ (.inl rfl) e⟩
 | tup xs => obtain ⟨z, its, r, ob, e, c⟩ := x; exact ⟨z, its, r, ob, k _ _ (.inl rfl) e, c⟩
 | dK kvs => obtain ⟨z, y, vs, r, ob, es, ep, e, c⟩ := x; exact ⟨z, y, vs, r, ob, es, ep, k _ _ (.inl rfl) e, c⟩
 | dT kvs =>
  obtain ⟨z, y, xs, r, ob, es, ep, e, c⟩ := x
  exact ⟨z, y, xs, Paired.mapP r fun p q z => ⟨z.1, ht _ _ z.2.1, z.2.2⟩, ob, es, ep, k _ _ (.inl rfl) e, c⟩
 | set S n => obtain ⟨ob, es, ep, t, e, c⟩ := x; exact ⟨ob, es, ep, t, k _ _ (.inl rfl) e, c⟩
 | ins C dx fs =>
  obtain ⟨d, z, ne, e, mA, ⟨od, es, ep, e2, c⟩, r⟩ := x
  exact ⟨ho _ d, z, ne, k _ _ (.inl rfl) e, mA, ⟨od, es, ep, k _ _ (.inr d) e2, c⟩, r⟩
 | own y => obtain ⟨ob, e⟩ := x; exact ⟨ob, k _ _ (.inl rfl) e⟩
 | xd fs => obtain ⟨mA, ⟨od, es, ep, e, c⟩, r⟩ := x; exact ⟨mA, ⟨od, es, ep, k _ _ (.inl rfl) e, c⟩, r⟩
 | rng lo hi => obtain ⟨t, u, v, e⟩ := x; exact ⟨t, u, v, k _ _ (.inl rfl) e⟩
 | frz ob u ih => obtain ⟨e, q⟩ := x; exact ⟨k _ _ (.inl rfl) e, ih q⟩
 | tbl ps =>
  have e : h.get? a = some { cls := .none, data := .fields ps } := x
  show h'.get? a = some { cls := .none, data := .fields ps }
  exact k a _ (.inl rfl) e
 | met f y =>
  have e : h.get? a = some (PySem.W.methodObj (.ref f) (.ref y)) := x
  show h'.get? a = some (PySem.W.methodObj (.ref f) (.ref y))
  exact k a _ (.inl rfl) e
 | ext φ => obtain ⟨p, ⟨o, e⟩, st⟩ := x; exact ⟨st _ _ p fun o q => k _ _ (.inl rfl) q, ⟨o, k _ _ (.inl rfl) e⟩, st⟩
theorem HOk.lt (x : HOk P w H h) (e : H a = some o) : a < h.objs.size := (x a o e).lt
theorem HOk.fresh (x : HOk P w H h) (e : h.objs.size <= a) : H a = none := by
 cases q : H a with
 | none => rfl
 | some u => exact absurd (Nat.lt_of_lt_of_le (x.lt q) e) (Nat.lt_irrefl _)
theorem HOk.kept (x : HOk P w H h) (k : ∀ b u, h.get? b = some u -> h'.get? b = some u) : HOk P w H h' := fun a o e =>
 (x a o e).stay (fun b u _ q => k b u q) (fun _ q => q) fun _ _ q => q
theorem HOk.laid (x : HOk P w H h) (k : ∀ b u, h.get? b = some u -> h'.get? b = some u) (hp : h.objs.size <= a) (new : yY P w (upd H a o) h' a o) : HOk P w (upd H a o) h' := fun b u e => by
 have hn := x.fresh hp
 by_cases hb : b = a
 ·subst hb; rw [qA] at e; cases e; exact new
 ·rw [qJ hb] at e
  exact (x b u e).stay (fun c v _ q => k c v q) (fun c q => by rw [qJ (zn q hn)]; exact q) fun c xs q => by rw [qJ (zn q hn)]; exact q
end
def Rd (H : Hp) (a : Addr) (u : HO) : Prop := H a = some u \/ ∃ o, H a = some (.frz o u)
theorem Rd.ok {P : Program} {w : World} {H : Hp} {h : Heap} {a : Addr} {u : HO} (r : Rd H a u) (x : HOk P w H h) : yY P w H h a u := by
 rcases r with r | ⟨o, r⟩
 ·exact x a u r
 ·obtain ⟨_, q⟩ := x a _ r
  exact q
def Mut : Option HO -> Prop
 | some (.lst _) => True
 | some (.dK _) => True
 | some (.dT _) => True
 | some (.set _ _) => True
 | some (.ins _ _ _) => True
 | some (.ext _) => True
 | _ => False
section
variable {P : Program} {w : World} {H : Hp} {h h' : Heap} {x e : Addr} {o' : HO}
theorem HOk.write (ok : HOk P w H h) (mu : Mut (H x)) (he : e = x \/ H e = some (.own x)) (k : ∀ b u, b ≠ e -> h.get? b = some u -> h'.get? b = some u) (heo : ∃ u, h'.get? e = some u)
  (new : yY P w (upd H x o') h' x o') : HOk P w (upd H x o') h' := fun b u q => by
 have nown : ∀ c y, H c = some (.own y) -> c ≠ x := fun c y r z => by subst z; rw [r] at mu; exact mu
 have ntup : ∀ c xs, H c = some (.tup xs) -> c ≠ x := fun c xs r z => by subst z; rw [r] at mu; exact mu
 by_cases hb : b = x
 ·subst hb; rw [qA] at q; cases q; exact new
 ·rw [qJ hb] at q
  by_cases hbe : b = e
  ·have q' : H b = some (.own x) := by
    rcases he with z | z
    ·exact absurd (hbe.trans z) hb
    ·rw [hbe]; exact z
   rw [q] at q'; cases q'
   obtain ⟨v, hv⟩ := heo
   exact ⟨v, by rw [hbe]; exact hv⟩
  ·refine (ok b u q).stay (fun c v hc r => k c v ?_ r) (fun c r => by rw [qJ (nown c b r)]; exact r) fun c xs r => by rw [qJ (ntup c xs r)]; exact r
   rcases hc with rfl | hc
   ·exact hbe
   ·rintro rfl
    rcases he with z | z
    ·exact nown c b hc z
    ·rw [hc] at z; cases z; exact hb rfl
end
structure Un (fs ex : List Addr) (H H' : Hp) (h h' : Heap) : Prop where
 keep : ∀ b o, h.get? b = some o -> H b = none -> b ∉ fs -> b ∉ ex -> h'.get? b = some o
 slot : ∀ b o, h.get? b = some o -> H b = none -> b ∈ fs -> b ∉ ex -> ∃ sl, h'.get? b = some { o with slots := sl }
 free : ∀ b o, h.get? b = some o -> H b = none -> b ∉ ex -> H' b = none
 there : ∀ b o, h.get? b = some o -> b ∉ ex -> ∃ o', h'.get? b = some o'
 tups : ∀ b xs, H b = some (.tup xs) -> H' b = some (.tup xs)
 frzs : ∀ b o u, H b = some (.frz o u) -> H' b = some (.frz o u)
 tbls : ∀ b ps, H b = some (.tbl ps) -> ∃ more, H' b = some (.tbl (ps ++ more))
section
variable {fs fs' ex ex' : List Addr} {H H1 H2 : Hp} {h h1 h2 h' : Heap} {a x e : Addr} {o : HO}
theorem Un.any (u : Un fs ex H H1 h h1) {b : Addr} {ob : Obj} (q : h.get? b = some ob) (n : H b = none) (hx : b ∉ ex) : ∃ sl, h1.get? b = some { ob with slots := sl } := by
 by_cases hb : b ∈ fs
 ·exact u.slot b ob q n hb hx
 ·exact ⟨ob.slots, u.keep b ob q n hb hx⟩
theorem Un.trans (a : Un fs ex H H1 h h1) (b : Un fs ex H1 H2 h1 h2) : Un fs ex H H2 h h2 where
 keep := fun c ob q n hc hx => b.keep c ob (a.keep c ob q n hc hx) (a.free c ob q n hx) hc hx
 slot := fun c ob q n hc hx => by
  obtain ⟨sl, e1⟩ := a.slot c ob q n hc hx
  obtain ⟨sl', e2⟩ := b.slot c _ e1 (a.free c ob q n hx) hc hx
  exact ⟨sl', e2⟩
 free := fun c ob q n hx => by
  obtain ⟨o', e1⟩ := a.there c ob q hx
  exact b.free c o' e1 (a.free c ob q n hx) hx
 there := fun c ob q hx => by
  obtain ⟨o', e1⟩ := a.there c ob q hx
  exact b.there c o' e1 hx
 tups := fun c xs q => b.tups c xs (a.tups c xs q)
 frzs := fun c ob xs q => b.frzs c ob xs (a.frzs c ob xs q)
 tbls := fun c ps q => by
  obtain ⟨m1, e1⟩ := a.tbls c ps q
  obtain ⟨m2, e2⟩ := b.tbls c _ e1
  exact ⟨m1 ++ m2, by rw [e2, Array.append_assoc]⟩
theorem Un.kept (k : ∀ b u, h.get? b = some u -> h'.get? b = some u) : Un fs ex H H h h' :=
 ⟨fun b ob q _ _ _ => k b ob q, fun b ob q _ _ _ => ⟨ob.slots, k b ob q⟩, fun _ _ _ n _ => n, fun b ob q _ => ⟨ob, k b ob q⟩, fun _ _ q => q, fun _ _ _ q => q, fun _ ps q => ⟨#[], by rw [q]; simp⟩⟩
theorem Un.refl : Un fs ex H H h h := Un.kept fun _ _ q => q
theorem Un.laid (k : ∀ b u, h.get? b = some u -> h'.get? b = some u) (hp : h.objs.size <= a) (hn : H a = none) : Un fs ex H (upd H a o) h h' where
 keep := fun b u q _ _ _ => k b u q
 slot := fun b u q _ _ _ => ⟨u.slots, k b u q⟩
 free := fun b u q n _ => by rw [qJ (Nat.ne_of_lt (Nat.lt_of_lt_of_le (Heap.lt_size q) hp))]; exact n
 there := fun b u q _ => ⟨u, k b u q⟩
 tups := fun b xs q => by rw [qJ (zn q hn)]; exact q
 frzs := fun b u xs q => by rw [qJ (zn q hn)]; exact q
 tbls := fun b ps q => ⟨#[], by rw [qJ (zn q hn), q]; simp⟩
theorem Un.write (mu : Mut (H x)) (he : e = x \/ H e = some (.own x)) (k : ∀ b u, b ≠ e -> h.get? b = some u -> h'.get? b = some u) (heo : ∃ u, h'.get? e = some u) : Un fs ex H (upd H x o) h h' := by
 have hx : ∀ b, H b = none -> b ≠ x := fun b n z => by subst z; rw [n] at mu; exact mu
 have hb : ∀ b, H b = none -> b ≠ e := fun b n z => by
  subst z
  rcases he with r | r
  ·exact hx b n r
  ·rw [n] at r; cases r
 have hm : ∀ b u, H b = some u -> ¬ Mut (some u) -> b ≠ x := fun b u q nm z => by subst z; rw [q] at mu; exact nm mu
 refine ⟨fun b u q n _ _ => k b u (hb b n) q, fun b u q n _ _ => ⟨u.slots, k b u (hb b n) q⟩, fun b u q n _ => by rw [qJ (hx b n)]; exact n, fun b u q _ => ?_,
  fun b xs q => by rw [qJ (hm b _ q fun z => z)]; exact q, fun b u xs q => by rw [qJ (hm b _ q fun z => z)]; exact q, fun b ps q => ⟨#[], by rw [qJ (hm b _ q fun z => z), q]; simp⟩⟩
 by_cases hbe : b = e
 ·subst hbe; exact heo
 ·exact ⟨u, k b u hbe q⟩
end
def trk (h : Heap) (H : Hp) : List Addr := (List.range h.objs.size).filter fun a => (H a).isSome
def qic (h : Heap) (H : Hp) : Heap := PySem.W.hideAll h (trk h H)
theorem qgl (h : Heap) (H : Hp) : (qic h H).objs.size = h.objs.size := PySem.W.hideAll_size _ _
theorem qid {h : Heap} {H : Hp} {b : Addr} {o : Obj} (e : h.get? b = some o) (n : H b = none) : (qic h H).get? b = some o :=
 PySem.W.hideAll_get _ e fun hm => by
  have q : (H b).isSome = true := (List.mem_filter.mp hm).2
  rw [n] at q; simp at q
theorem qkk {h : Heap} {H : Hp} {b : Addr} {o : Obj} (e : (qic h H).get? b = some o) : h.get? b = some o /\ H b = none := by
 have e' : h.get? b = some o := PySem.W.of_hideAll (trk h H) e
 refine ⟨e', ?_⟩
 cases q : H b with
 | none => rfl
 | some x =>
  have hm : b ∈ trk h H := List.mem_filter.mpr ⟨mR_.mpr (Heap.lt_size e'), by simp [q]⟩
  have z : (qic h H).get? b = none := PySem.W.hideAll_none (trk h H) hm
  rw [z] at e; cases e
def qkl (g h : Heap) (L : Addr) : List (Addr × Obj) := (List.range h.objs.size).filterMap fun a => if a = L \/ (g.get? a).isSome = true then none else (h.get? a).map fun o => (a, o)
def vh (g h : Heap) (L d : Addr) : List (Addr × Obj) := (qkl g h L).filter fun p => decide (p.1 ≠ d)
end L2
namespace L2
open PySem PySem.Spec PyProof.Rows
structure Mod (K : PySem.W.Frag) (mg : Str -> Option Value) (base : Heap) : Prop where
 kin : K.In base
 glob : base.Ns mainGlobals mg
 blt : ∃ mb, base.Ns builtinsNs mb /\ ∀ x : Str, x ≠ "__name__" -> mb x = bootBuiltins x
 nolimit : base.NoLimit
structure Cx where
 prog : Program
 w : World
 K : PySem.W.Frag
 mg : Str -> Option Value
 base : Heap
 A : Around
 N : List Str
 s₀ : Shared
 H₀ : Hp
 env : Env
 outer : List Env
 stack : List Env
 ex : List Addr
 fn : Str -> Bool
 calm : Bool
 pn : List (Addr × Obj)
 xe : Value -> Shared -> Prop
def frs (l : List Env) : List Addr := l.filterMap (·.frame)
abbrev Cx.fs (X : Cx) : List Addr := frs X.outer
def Vis (sc : Scope) (x : Str) : Prop := sc.names.lookup x = some .local \/ sc.names.lookup x = some .cell \/ sc.names.lookup x = some .free
def Loc (sc : Scope) (x : Str) : Prop := sc.names.lookup x = some .local \/ sc.names.lookup x = some .cell
def qpc (env : Env) (h : Heap) (m : Str -> Option Value) (x : Str) (u : Value) : Prop :=
 (env.kindOf x = some .local /\ m x = some u) \/ ((env.kindOf x = some .cell \/ env.kindOf x = some .free) /\ ∃ c, env.cells.lookup x = some c /\ h.IsCell c (some u))
structure Cx.Ok (X : Cx) : Prop where
 mod : Mod X.K X.mg X.base
 kind : X.env.scope.kind = .function
 glob : X.env.globals = mainGlobals
 blt : X.env.builtins = builtinsNs
 above : X.s₀.heap.objs.size <= X.env.locals
 inj : ∀ x y c, X.env.cells.lookup x = some c -> X.env.cells.lookup y = some c -> x = y
 has : ∀ x, (X.env.kindOf x = some .cell \/ X.env.kindOf x = some .free) -> ∃ c, X.env.cells.lookup x = some c
 cab : ∀ x c, X.fn x = true -> X.env.cells.lookup x = some c -> X.s₀.heap.objs.size <= c
 hd : X.calm = true -> X.A.handled = none
 frames : X.A.frames = some X.stack
 stk : X.stack = X.outer \/ (X.stack = X.env :: X.outer /\ X.env.frame = some X.env.locals)
 exf : ∀ b ∈ X.ex, b ≠ X.env.locals /\ ∀ x c, X.env.cells.lookup x = some c -> c ≠ b
 bs : ∀ b o, X.base.get? b = some o -> X.s₀.heap.get? b = some o /\ X.H₀ b = none
 bsz : X.base.objs.size <= X.s₀.heap.objs.size
 noex : ∀ b o, X.base.get? b = some o -> b ∉ X.ex
 exfs : ∀ b ∈ X.ex, b ∉ X.fs
 funs : X.s₀.heap.FunFrames X.base X.outer
 frf : ∀ b ∈ X.fs, X.H₀ b = none
structure Inv (X : Cx) (pins : List (Addr × Obj)) (Z : List (Option V)) (H : Hp) (s : Shared) : Prop where
 ok : X.Ok
 os : s.os = X.s₀.os
 bare : AllBare s.gens
 base : Un X.fs X.ex X.H₀ H X.s₀.heap s.heap
 loc : ∃ m, s.heap.Ns X.env.locals m /\ ∀ (i : Nat) (x : Str) (v : V), X.N[i]? = some x -> Z[i]? = some (some v) -> Vis X.env.scope x -> ∃ u, yx v u /\ qpc X.env s.heap m x u
 cell : ∀ x c, X.env.cells.lookup x = some c -> ∃ v, s.heap.IsCell c v
 free : H X.env.locals = none
 freeC : ∀ x c, X.env.cells.lookup x = some c -> H c = none
 pin : ∀ p ∈ X.pn ++ pins, s.heap.get? p.1 = some p.2 /\ H p.1 = none /\ p.1 ≠ X.env.locals /\ p.1 ∉ X.fs /\ ∀ v, p.2.data ≠ .cell v
 hok : HOk X.prog X.w H s.heap
 len : Z.length = X.N.length
section
variable {X : Cx} {pins : List (Addr × Obj)} {Z : List (Option V)} {H H' : Hp} {s : Shared} {h' : Heap}
theorem Cx.Ok.nofr (ok : X.Ok) {b : Addr} {o : Obj} (e : X.base.get? b = some o) : b ∉ X.fs := fun hb => by
 have := (ok.funs.mem hb).1
 rw [e] at this; cases this
theorem Inv.bs (I : Inv X pins Z H s) : ∀ b o, X.base.get? b = some o -> s.heap.get? b = some o /\ H b = none := fun b o e =>
 ⟨I.base.keep b o (I.ok.bs b o e).1 (I.ok.bs b o e).2 (I.ok.nofr e) (I.ok.noex b o e), I.base.free b o (I.ok.bs b o e).1 (I.ok.bs b o e).2 (I.ok.noex b o e)⟩
theorem Inv.bk (I : Inv X pins Z H s) : ∀ b o, X.base.get? b = some o -> s.heap.get? b = some o := fun b o e => (I.bs b o e).1
theorem Inv.mod (I : Inv X pins Z H s) : Mod X.K X.mg X.base := I.ok.mod
theorem Inv.kIn (I : Inv X pins Z H s) : X.K.In s.heap := I.ok.mod.kin.keeps I.bk
theorem Inv.lt (I : Inv X pins Z H s) : X.env.locals < s.heap.objs.size := let ⟨_, hn, _⟩ := I.loc; hn.lt
theorem Inv.sz (I : Inv X pins Z H s) : X.s₀.heap.objs.size <= s.heap.objs.size := Nat.le_trans I.ok.above (Nat.le_of_lt I.lt)
theorem Inv.nofs (I : Inv X pins Z H s) {a : Addr} (h : s.heap.objs.size <= a) : a ∉ X.fs := fun hb => by
 obtain ⟨_, o, ho, _⟩ := I.ok.funs.mem hb
 exact absurd (Nat.lt_of_lt_of_le (Heap.lt_size ho) (Nat.le_trans I.sz h)) (Nat.lt_irrefl _)
theorem Inv.cne (I : Inv X pins Z H s) : ∀ x c, X.env.cells.lookup x = some c -> c ≠ X.env.locals := fun x c e z => by
 obtain ⟨v, o, ho, hd⟩ := I.cell x c e
 obtain ⟨m, ⟨o', es, ep, ho', hd', _⟩, _⟩ := I.loc
 rw [z, ho'] at ho; cases ho; rw [hd'] at hd; cases hd
theorem Inv.funs (I : Inv X pins Z H s) : s.heap.FunFrames X.base X.outer := by
 have all : ∀ (l : List Env), (∀ b ∈ frs l, b ∈ X.fs) -> X.s₀.heap.FunFrames X.base l -> s.heap.FunFrames X.base l := by
  intro l
  induction l with
  | nil => intro _ _; trivial
  | cons env r ih =>
   intro hs hl
   obtain ⟨hk, ⟨L, o, hf, hn, ho, hd⟩, hr⟩ := hl
   have hL : L ∈ X.fs := hs L (by unfold frs; rw [List.filterMap_cons, hf]; exact mS_)
   obtain ⟨sl, e⟩ := I.base.slot L o ho (I.ok.frf L hL) hL fun z => I.ok.exfs L z hL
   exact ⟨hk, ⟨L, _, hf, hn, e, hd⟩, ih (fun b hb => hs b (by unfold frs; rw [List.filterMap_cons, hf]; exact mM _ hb)) hr⟩
 exact all X.outer (fun _ hb => hb) I.ok.funs
theorem Inv.stack (I : Inv X pins Z H s) : s.heap.FunFrames X.base X.stack := by
 rcases I.ok.stk with e | ⟨e, hf⟩
 ·rw [e]; exact I.funs
 ·rw [e]
  obtain ⟨m, hn, _⟩ := I.loc
  refine .cons (by rw [I.ok.kind]; decide) hf hn ?_ I.funs
  exact Heap.get?_none_of_le (Nat.le_trans I.ok.bsz I.ok.above)
theorem Inv.stkSub (I : Inv X pins Z H s) : ∀ b ∈ frs X.stack, b ∈ X.env.locals :: X.fs := fun b hb => by
 rcases I.ok.stk with e | ⟨e, hf⟩
 ·rw [e] at hb; exact mM _ hb
 ·rw [e] at hb
  unfold frs at hb
  rw [List.filterMap_cons, hf] at hb
  exact hb
theorem Inv.stkFree (I : Inv X pins Z H s) : ∀ b ∈ frs X.stack, H b = none := fun b hb => by
 rcases List.mem_cons.mp (I.stkSub b hb) with e | hb
 ·rw [e]; exact I.free
 ·obtain ⟨_, o, ho, _⟩ := I.ok.funs.mem hb
  exact I.base.free b o ho (I.ok.frf b hb) fun z => I.ok.exfs b z hb
theorem Inv.step {g' : Array GenState} {t' : Nat} {d' : Drawn} {ch : List Addr} (I : Inv X pins Z H s)
  (hch : ∀ b ∈ ch, (b ∈ X.ex \/ X.s₀.heap.objs.size <= b) /\ b ≠ X.env.locals /\ (∀ x c, X.env.cells.lookup x = some c -> c ≠ b) /\ ∀ p ∈ X.pn ++ pins, p.1 ≠ b)
  (keep : ∀ b o, b ≠ X.env.locals -> b ∉ X.fs -> b ∉ ch -> s.heap.get? b = some o -> H b = none -> h'.get? b = some o)
  (slot : ∀ b o, b ≠ X.env.locals -> b ∈ X.fs -> b ∉ ch -> s.heap.get? b = some o -> H b = none -> ∃ sl, h'.get? b = some { o with slots := sl }) (free : ∀ b o, b ∉ ch -> s.heap.get? b = some o -> H b = none -> H' b = none)
  (there : ∀ b o, b ∉ ch -> s.heap.get? b = some o -> ∃ o', h'.get? b = some o')
  (tups : ∀ b xs, H b = some (.tup xs) -> H' b = some (.tup xs)) (frzs : ∀ b o u, H b = some (.frz o u) -> H' b = some (.frz o u)) (tbls : ∀ b ps, H b = some (.tbl ps) -> ∃ more, H' b = some (.tbl (ps ++ more)))
  (ns : ∀ m, s.heap.Ns X.env.locals m -> h'.Ns X.env.locals m) (hok : HOk X.prog X.w H' h') (hg : AllBare g') :
  Inv X pins Z H' { s with heap := h', gens := g', drawn := d', toks := t' } := by
 have neL : ∀ b o, X.s₀.heap.get? b = some o -> b ≠ X.env.locals := fun b o e => Nat.ne_of_lt (Nat.lt_of_lt_of_le (Heap.lt_size e) I.ok.above)
 have neC : ∀ b o, X.s₀.heap.get? b = some o -> b ∉ X.ex -> b ∉ ch := fun b o e hx hb => by
  rcases (hch b hb).1 with z | z
  ·exact hx z
  ·exact absurd (Nat.lt_of_lt_of_le (Heap.lt_size e) z) (Nat.lt_irrefl _)
 have cellK : ∀ x c, X.env.cells.lookup x = some c -> ∀ v, s.heap.IsCell c v -> h'.IsCell c v := fun x c e v ⟨o, ho, hd⟩ => by
  have nch : c ∉ ch := fun z => (hch c z).2.2.1 x c e rfl
  by_cases hc : c ∈ X.fs
  ·obtain ⟨sl, q⟩ := slot c o (I.cne x c e) hc nch ho (I.freeC x c e)
   exact ⟨_, q, hd⟩
  ·exact ⟨o, keep c o (I.cne x c e) hc nch ho (I.freeC x c e), hd⟩
 refine ⟨I.ok, I.os, hg, ⟨fun b o e n hb hx => ?_, fun b o e n hb hx => ?_, fun b o e n hx => ?_, fun b o e hx => ?_, fun b xs e => tups b xs (I.base.tups b xs e), fun b o xs e => frzs b o xs (I.base.frzs b o xs e), fun b ps e => ?_⟩, ?_, fun x c e => ?_, ?_, fun x c e => ?_, fun p hp => ?_, hok, I.len⟩
 ·exact keep b o (neL b o e) hb (neC b o e hx) (I.base.keep b o e n hb hx) (I.base.free b o e n hx)
 ·obtain ⟨sl, e1⟩ := I.base.slot b o e n hb hx
  obtain ⟨sl', e2⟩ := slot b _ (neL b o e) hb (neC b o e hx) e1 (I.base.free b o e n hx)
  exact ⟨sl', e2⟩
 ·obtain ⟨o', e1⟩ := I.base.there b o e hx
  exact free b o' (neC b o e hx) e1 (I.base.free b o e n hx)
 ·obtain ⟨o', e1⟩ := I.base.there b o e hx
  exact there b o' (neC b o e hx) e1
 ·obtain ⟨m1, e1⟩ := I.base.tbls b ps e
  obtain ⟨m2, e2⟩ := tbls b _ e1
  exact ⟨m1 ++ m2, by rw [e2, Array.append_assoc]⟩
 ·obtain ⟨m, hn, hl⟩ := I.loc
  refine ⟨m, ns m hn, fun i x v e1 e2 e3 => ?_⟩
  obtain ⟨u, r, l⟩ := hl i x v e1 e2 e3
  refine ⟨u, r, ?_⟩
  rcases l with l | ⟨k, c, e, z⟩
  ·exact .inl l
  ·exact .inr ⟨k, c, e, cellK x c e _ z⟩
 ·obtain ⟨v, z⟩ := I.cell x c e
  exact ⟨v, cellK x c e v z⟩
 ·obtain ⟨m, ⟨o, _, _, ho, _⟩, _⟩ := I.loc
  exact free _ o (fun z => (hch _ z).2.1 rfl) ho I.free
 ·obtain ⟨v, o, ho, hd⟩ := I.cell x c e
  exact free c o (fun z => (hch c z).2.2.1 x c e rfl) ho (I.freeC x c e)
 ·obtain ⟨e, n, ne, nf, d⟩ := I.pin p hp
  have nch : p.1 ∉ ch := fun z => (hch p.1 z).2.2.2 p hp rfl
  exact ⟨keep p.1 p.2 ne nf nch e n, free p.1 p.2 nch e n, ne, nf, d⟩
theorem Inv.un {t' : Nat} (I : Inv X pins Z H s) (u : Un X.fs [] H H' s.heap h') (hok : HOk X.prog X.w H' h') : Inv X pins Z H' { s with heap := h', toks := t' } := by
 obtain ⟨m, ⟨o, es, ep, ho, r⟩, _⟩ := id I.loc
 obtain ⟨sl, hL⟩ := u.any ho I.free (by simp)
 exact I.step (g' := s.gens) (d' := s.drawn) (ch := []) (fun _ z => nomatch z) (fun b o _ hb _ e n => u.keep b o e n hb (by simp)) (fun b o _ hb _ e n => u.slot b o e n hb (by simp)) (fun b o _ e n => u.free b o e n (by simp)) (fun b o _ e => u.there b o e (by simp)) u.tups u.frzs u.tbls (fun m' hm => by
  obtain ⟨o', es', ep', ho', r'⟩ := hm
  rw [ho] at ho'; cases ho'
  exact ⟨_, es', ep', hL, r'⟩) hok I.bare
theorem Inv.call {g' : Array GenState} {t' : Nat} {d' : Drawn} {ch : List Addr} (I : Inv X pins Z H s) (u : Un (frs X.stack) ch H H' s.heap h') (hok : HOk X.prog X.w H' h') (hg : AllBare g')
  (hch : ∀ b ∈ ch, (b ∈ X.ex \/ X.s₀.heap.objs.size <= b) /\ b ≠ X.env.locals /\ (∀ x c, X.env.cells.lookup x = some c -> c ≠ b) /\ ∀ p ∈ X.pn ++ pins, p.1 ≠ b) :
  Inv X pins Z H' { s with heap := h', gens := g', drawn := d', toks := t' } := by
 obtain ⟨m, ⟨o, es, ep, ho, r⟩, _⟩ := id I.loc
 obtain ⟨sl, hL⟩ := u.any ho I.free fun z => (hch _ z).2.1 rfl
 exact I.step (ch := ch) hch (fun b o hL hb hc e n => u.keep b o e n (fun z => (List.mem_cons.mp (I.stkSub b z)).elim hL hb) hc) (fun b o _ _ hc e n => u.any e n hc) (fun b o hc e n => u.free b o e n hc) (fun b o hc e => u.there b o e hc) u.tups u.frzs u.tbls (fun m' hm => by
  obtain ⟨o', es', ep', ho', r'⟩ := hm
  rw [ho] at ho'; cases ho'
  exact ⟨_, es', ep', hL, r'⟩) hok hg
theorem Inv.turned {t' : Nat} {it : Addr} (I : Inv X pins Z H s) (k : ∀ b o, b ≠ it -> s.heap.get? b = some o -> h'.get? b = some o) (hn : H it = none) (hL : it ≠ X.env.locals)
  (h1 : it ∈ X.ex \/ X.s₀.heap.objs.size <= it) (h2 : ∀ x c, X.env.cells.lookup x = some c -> c ≠ it) (h3 : ∀ p ∈ X.pn ++ pins, p.1 ≠ it) : Inv X pins Z H { s with heap := h', toks := t' } := by
 have nit : ∀ b u, H b = some u -> b ≠ it := fun b u e z => by rw [z, hn] at e; cases e
 refine I.step (g' := s.gens) (d' := s.drawn) (ch := [it]) (fun b hb => ?_) (fun b o _ _ hc e _ => k b o (fun z => hc (by simp [z])) e) (fun b o _ _ hc e _ => ⟨o.slots, k b o (fun z => hc (by simp [z])) e⟩) (fun _ _ _ _ n => n)
  (fun b o hc e => ⟨o, k b o (fun z => hc (by simp [z])) e⟩) (fun _ _ e => e) (fun _ _ _ e => e) (fun b ps e => ⟨#[], by rw [e]; simp⟩) (fun m hm => ?_) (fun b u e => ?_) I.bare
 ·have e : b = it := by simpa using hb
  subst e
  exact ⟨h1, hL, h2, h3⟩
 ·obtain ⟨o, es, ep, ho, r⟩ := hm
  exact ⟨o, es, ep, k _ o (Ne.symm hL) ho, r⟩
 ·refine (I.hok b u e).stay (fun c v hc q => k c v ?_ q) (fun _ q => q) fun _ _ q => q
  rcases hc with z | z
  ·rw [z]; exact nit b u e
  ·exact nit c _ z
theorem Inv.tok (I : Inv X pins Z H s) (t : Nat) : Inv X pins Z H { s with toks := t } := I.un (h' := s.heap) (t' := t) Un.refl I.hok
theorem Inv.kept {t' : Nat} (I : Inv X pins Z H s) (k : ∀ b u, s.heap.get? b = some u -> h'.get? b = some u) : Inv X pins Z H { s with heap := h', toks := t' } := I.un (Un.kept k) (I.hok.kept k)
theorem Inv.laid {a : Addr} {o : HO} {t' : Nat} (I : Inv X pins Z H s) (k : ∀ b u, s.heap.get? b = some u -> h'.get? b = some u) (hp : s.heap.objs.size <= a) (new : yY X.prog X.w (upd H a o) h' a o) :
  Inv X pins Z (upd H a o) { s with heap := h', toks := t' } := I.un (Un.laid k hp (I.hok.fresh hp)) (I.hok.laid k hp new)
theorem Inv.write {x e : Addr} {o : HO} {t' : Nat} (I : Inv X pins Z H s) (mu : Mut (H x)) (he : e = x \/ H e = some (.own x)) (k : ∀ b u, b ≠ e -> s.heap.get? b = some u -> h'.get? b = some u) (heo : ∃ u, h'.get? e = some u)
  (new : yY X.prog X.w (upd H x o) h' x o) : Inv X pins Z (upd H x o) { s with heap := h', toks := t' } := I.un (Un.write mu he k heo) (I.hok.write mu he k heo new)
theorem Inv.pins_of {pins' : List (Addr × Obj)} (I : Inv X pins Z H s) (h : ∀ p ∈ pins', s.heap.get? p.1 = some p.2 /\ H p.1 = none /\ p.1 ≠ X.env.locals /\ p.1 ∉ X.fs /\ ∀ v, p.2.data ≠ .cell v) : Inv X pins' Z H s :=
 ⟨I.ok, I.os, I.bare, I.base, I.loc, I.cell, I.free, I.freeC, fun p hp => (mA_.mp hp).elim (fun z => I.pin p (List.mem_append_left _ z)) (h p), I.hok, I.len⟩
theorem qeD {N : List Str} (hN : N.Nodup) {i j : Nat} {x : Str} (a : N[i]? = some x) (b : N[j]? = some x) : i = j := by
 obtain ⟨h1, e1⟩ := gI_.mp a
 obtain ⟨h2, e2⟩ := gI_.mp b
 exact (List.getElem_inj hN).mp (e1.trans e2.symm)
theorem qc1 {M : Model} {A : Around} {E : Value -> Shared -> Prop} {i : Nat} {x : Str} {v : V} {u : Value} {Q : Unit -> Shared -> Prop} (I : Inv X pins Z H s) (hN : X.N.Nodup) (hi : X.N[i]? = some x) (hx : Loc X.env.scope x) (r : yx v u)
  (h : ∀ s', Inv X pins (Z.set i (some v)) H s' -> (∃ a, Heap.SameBut a s.heap s'.heap /\ (a = X.env.locals \/ X.env.cells.lookup x = some a)) -> Q () s') (hf : X.fn x = true \/ X.env.scope.names.lookup x = some .local := by first | exact .inl rfl | exact .inr rfl | assumption) : wpAny M A (storeName X.env x u) Q E s := by
 obtain ⟨m, hn, hl⟩ := id I.loc
 have hcls : (X.env.scope.kind == .class || (X.env.scope.kind == .module && X.env.locals != X.env.globals)) = false := by rw [I.ok.kind]; rfl
 have hiσ : i < Z.length := by rw [I.len]; exact (gI_.mp hi).1
 have cne := I.cne
 have tracked : ∀ {a : Addr} {h' : Heap}, (∃ o, s.heap.get? a = some o /\ H a = none) -> Heap.SameBut a s.heap h' -> HOk X.prog X.w H h' := fun {a h'} ha hs b ob e => by
  obtain ⟨_, _, hfree⟩ := ha
  refine (I.hok b ob e).stay (fun c w' hc q => (hs.2 c ?_).trans q) (fun _ q => q) fun _ _ q => q
  rintro rfl
  rcases hc with rfl | hc
  ·rw [hfree] at e; cases e
  ·rw [hfree] at hc; cases hc
 rcases hx with hk | hk
 ·refine wpAny_storeName_local hk hn (fun h' hn' hs => ?_) hcls
  obtain ⟨oL, _, _, hoL, _⟩ := id hn
  refine h _ ⟨I.ok, I.os, I.bare, ⟨fun b o e n hb hx => ?_, fun b o e n hb hx => ?_, I.base.free, fun b o e hx => ?_, I.base.tups, I.base.frzs, I.base.tbls⟩, ⟨_, hn', fun j y v' e1 e2 e3 => ?_⟩, fun y c e => ?_, I.free, I.freeC, fun p hp => ?_, tracked ⟨oL, hoL, I.free⟩ hs, by simpa using I.len⟩ ⟨_, hs, .inl rfl⟩
  ·exact (hs.2 b (Nat.ne_of_lt (Nat.lt_of_lt_of_le (Heap.lt_size e) I.ok.above))).trans (I.base.keep b o e n hb hx)
  ·obtain ⟨sl, e1⟩ := I.base.slot b o e n hb hx
   exact ⟨sl, (hs.2 b (Nat.ne_of_lt (Nat.lt_of_lt_of_le (Heap.lt_size e) I.ok.above))).trans e1⟩
  ·obtain ⟨o', e1⟩ := I.base.there b o e hx
   exact ⟨o', (hs.2 b (Nat.ne_of_lt (Nat.lt_of_lt_of_le (Heap.lt_size e) I.ok.above))).trans e1⟩
  ·by_cases hj : j = i
   ·subst hj
    rw [hi] at e1; cases e1
    rw [List.getElem?_set_self hiσ] at e2
    cases e2
    exact ⟨u, r, .inl ⟨hk, by simp⟩⟩
   ·rw [List.getElem?_set_ne (Ne.symm hj)] at e2
    obtain ⟨u', r', q⟩ := hl j y v' e1 e2 e3
    refine ⟨u', r', ?_⟩
    rcases q with ⟨k, e⟩ | ⟨k, c, e, z⟩
    ·refine .inl ⟨k, ?_⟩
     have : y ≠ x := fun e => hj (qeD hN e1 (e ▸ hi))
     simp [this, e]
    ·exact .inr ⟨k, c, e, z.sameBut hs (cne y c e)⟩
  ·obtain ⟨w', z⟩ := I.cell y c e
   exact ⟨w', z.sameBut hs (cne y c e)⟩
  ·obtain ⟨e, n, ne, nf, d⟩ := I.pin p hp
   exact ⟨(hs.2 p.1 ne).trans e, n, ne, nf, d⟩
 ·have hfn : X.fn x = true := by
   rcases hf with z | z
   ·exact z
   ·rw [z] at hk; cases hk
  obtain ⟨c, hc⟩ := I.ok.has x (.inl hk)
  obtain ⟨w', z⟩ := I.cell x c hc
  refine wpAny_storeName_cell I.ok.kind hk hc z (fun h' hc' hs => ?_)
  obtain ⟨oc, hoc, hocd⟩ := id z
  refine h { s with heap := h' } ⟨I.ok, I.os, I.bare, ⟨fun b o e n hb hx => ?_, fun b o e n hb hx => ?_, I.base.free, fun b o e hx => ?_, I.base.tups, I.base.frzs, I.base.tbls⟩, ⟨m, hn.sameBut hs (Ne.symm (cne x c hc)), fun j y v' e1 e2 e3 => ?_⟩, fun y c' e => ?_, I.free, I.freeC, fun p hp => ?_, tracked ⟨oc, hoc, I.freeC x c hc⟩ hs, by simpa using I.len⟩ ⟨c, hs, .inr hc⟩
  ·exact (hs.2 b (Nat.ne_of_lt (Nat.lt_of_lt_of_le (Heap.lt_size e) (I.ok.cab x c hfn hc)))).trans (I.base.keep b o e n hb hx)
  ·obtain ⟨sl, e1⟩ := I.base.slot b o e n hb hx
   exact ⟨sl, (hs.2 b (Nat.ne_of_lt (Nat.lt_of_lt_of_le (Heap.lt_size e) (I.ok.cab x c hfn hc)))).trans e1⟩
  ·obtain ⟨o', e1⟩ := I.base.there b o e hx
   exact ⟨o', (hs.2 b (Nat.ne_of_lt (Nat.lt_of_lt_of_le (Heap.lt_size e) (I.ok.cab x c hfn hc)))).trans e1⟩
  ·by_cases hj : j = i
   ·subst hj
    rw [hi] at e1; cases e1
    rw [List.getElem?_set_self hiσ] at e2
    cases e2
    exact ⟨u, r, .inr ⟨.inl hk, c, hc, hc'⟩⟩
   ·rw [List.getElem?_set_ne (Ne.symm hj)] at e2
    obtain ⟨u', r', q⟩ := hl j y v' e1 e2 e3
    refine ⟨u', r', ?_⟩
    rcases q with q | ⟨k, c', e, z'⟩
    ·exact .inl q
    ·refine .inr ⟨k, c', e, z'.sameBut hs ?_⟩
     rintro rfl
     exact hj (qeD hN e1 (I.ok.inj _ _ _ e hc ▸ hi))
  ·by_cases hcc : c' = c
   ·subst hcc; exact ⟨_, hc'⟩
   ·obtain ⟨w2, z2⟩ := I.cell y c' e
    exact ⟨w2, z2.sameBut hs hcc⟩
  ·obtain ⟨e, n, ne, nf, d⟩ := I.pin p hp
   refine ⟨(hs.2 p.1 ?_).trans e, n, ne, nf, d⟩
   intro q
   rw [q, hoc] at e
   have q' : oc = p.2 := Option.some.inj e
   exact d w' (by rw [<- q']; exact hocd)
theorem qaQ {M : Model} {A : Around} {E : Value -> Shared -> Prop} {i : Nat} {x : Str} {v : V} {u : Value} {Q : Unit -> Shared -> Prop} (I : Inv X pins Z H s) (hN : X.N.Nodup) (hi : X.N[i]? = some x) (hx : Loc X.env.scope x) (r : yx v u)
  (h : ∀ s', Inv X pins (Z.set i (some v)) H s' -> Q () s') (hf : X.fn x = true \/ X.env.scope.names.lookup x = some .local := by first | exact .inl rfl | exact .inr rfl | assumption) : wpAny M A (storeName X.env x u) Q E s :=
 qc1 I hN hi hx r (fun s' I' _ => h s' I') hf
theorem Inv.call' {s' : Shared} {ch : List Addr} (I : Inv X pins Z H s) (ho : s'.os = s.os) (u : Un (frs X.stack) ch H H' s.heap s'.heap) (hok : HOk X.prog X.w H' s'.heap) (hg : AllBare s'.gens)
  (hch : ∀ b ∈ ch, (b ∈ X.ex \/ X.s₀.heap.objs.size <= b) /\ b ≠ X.env.locals /\ (∀ x c, X.env.cells.lookup x = some c -> c ≠ b) /\ ∀ p ∈ X.pn ++ pins, p.1 ≠ b) : Inv X pins Z H' s' := by
 obtain ⟨h', g', d', t', o'⟩ := s'
 have e : o' = s.os := ho
 subst e
 exact I.call (g' := g') (t' := t') (d' := d') u hok hg hch
end
abbrev XK := Value -> Option Addr -> Hp -> Prop
abbrev St := List (Option V)
abbrev VK := V -> Hp -> Prop
abbrev TE := St -> Hp -> VK -> Prop
abbrev TT := St -> Hp -> (Bool -> Hp -> Prop) -> Prop
abbrev TA := St -> Hp -> (List V -> Hp -> Prop) -> Prop
structure qh9 where
 nx : St -> Hp -> Prop
 rt : VK
 bk : St -> Hp -> Prop := fun _ _ => False
 ct : St -> Hp -> Prop := fun _ _ => False
abbrev TS := qh9 -> St -> Hp -> Prop
def EP (X : Cx) (pins : List (Addr × Obj)) (Z : St) (Q : VK) (u : Value) (s' : Shared) : Prop := ∃ v H', Inv X pins Z H' s' /\ yx v u /\ Q v H'
def TP (X : Cx) (pins : List (Addr × Obj)) (Z : St) (Q : Bool -> Hp -> Prop) (b : Bool) (s' : Shared) : Prop := ∃ H', Inv X pins Z H' s' /\ Q b H'
def AP (X : Cx) (pins : List (Addr × Obj)) (Z : St) (Q : List V -> Hp -> Prop) (us : List Value) (s' : Shared) : Prop := ∃ vs H', Inv X pins Z H' s' /\ zD vs us /\ Q vs H'
def SP (X : Cx) (pins : List (Addr × Obj)) (D : qh9) (f : Flow) (s' : Shared) : Prop :=
 match f with
 | .next => ∃ Z' H', Inv X pins Z' H' s' /\ D.nx Z' H'
 | .brk => ∃ Z' H', Inv X pins Z' H' s' /\ D.bk Z' H'
 | .cont => ∃ Z' H', Inv X pins Z' H' s' /\ D.ct Z' H'
 | .ret u => ∃ v Z' H', Inv X pins Z' H' s' /\ yx v u /\ D.rt v H'
def PE (X : Cx) (e : Expr) (t : TE) : Prop :=
 ∀ (pins : List (Addr × Obj)) (s : Shared) (Z : St) (H : Hp) (Q : VK), Inv X pins Z H s -> t Z H Q -> wpAny (model X.prog X.w) X.A (eval e X.env) (EP X pins Z Q) X.xe s
def PT (X : Cx) (e : Expr) (t : TT) : Prop :=
 ∀ (pins : List (Addr × Obj)) (s : Shared) (Z : St) (H : Hp) (Q : Bool -> Hp -> Prop), Inv X pins Z H s -> t Z H Q -> wpAny (model X.prog X.w) X.A (isTrue e X.env (eval e X.env)) (TP X pins Z Q) X.xe s
def PW (X : Cx) (e : Expr) (t : TT) : Prop :=
 ∀ (whole : Sem Value) (pins : List (Addr × Obj)) (s : Shared) (Z : St) (H : Hp) (Q : Bool -> Hp -> Prop), Inv X pins Z H s -> t Z H Q -> wpAny (model X.prog X.w) X.A (isTrue e X.env whole) (TP X pins Z Q) X.xe s
theorem PW.pt {X : Cx} {e : Expr} {t : TT} (h : PW X e t) : PT X e t := h _
def PA (X : Cx) (es : List Expr) (t : TA) : Prop :=
 ∀ (pos : Pos) (pins : List (Addr × Obj)) (s : Shared) (Z : St) (H : Hp) (Q : List V -> Hp -> Prop), Inv X pins Z H s -> t Z H Q -> wpAny (model X.prog X.w) X.A (spliced (backTo pos (starEach es X.env))) (AP X pins Z Q) X.xe s
def PS (X : Cx) (st : Stmt) (t : TS) : Prop :=
 ∀ (pins : List (Addr × Obj)) (s : Shared) (Z : St) (H : Hp) (D : qh9), Inv X pins Z H s -> t D Z H -> wpAny (model X.prog X.w) X.A (exec st X.env) (SP X pins D) X.xe s
def PSs (X : Cx) (st : List Stmt) (t : TS) : Prop :=
 ∀ (pins : List (Addr × Obj)) (s : Shared) (Z : St) (H : Hp) (D : qh9), Inv X pins Z H s -> t D Z H -> wpAny (model X.prog X.w) X.A (execs st X.env) (SP X pins D) X.xe s
theorem thn {α : Type} {t : Sem α} {Q Q' : α -> Shared -> Prop} {M : Model} {A : Around} {E : Value -> Shared -> Prop} {s : Shared} (h : wpAny M A t Q E s) (hQ : ∀ a s, Q a s -> Q' a s) : wpAny M A t Q' E s := wpAny_mono h hQ fun _ _ x => x
end L2
namespace L2
open PySem PySem.Spec PyProof.Rows
section
variable {X : Cx}
theorem bin {a b : Expr} {ta tb : TE} (ha : PE X a ta) (hb : PE X b tb) {pins : List (Addr × Obj)} {s : Shared} {Z : St} {H : Hp} {R : V -> V -> Hp -> Prop} (I : Inv X pins Z H s) (h : ta Z H fun x H1 => tb Z H1 fun y H2 => R x y H2)
  {α : Type} {Q : α -> Shared -> Prop} {f : Value -> Value -> Sem α}
  (hf : ∀ v u s2 x y H2, Inv X pins Z H2 s2 -> yx x v -> yx y u -> R x y H2 -> wpAny (model X.prog X.w) X.A (f v u) Q X.xe s2) :
  wpAny (model X.prog X.w) X.A (eval a X.env) (fun v s₁ => wpAny (model X.prog X.w) X.A (eval b X.env) (fun u s₂ => wpAny (model X.prog X.w) X.A (f v u) Q X.xe s₂) X.xe s₁) X.xe s := by
 refine thn (ha pins s Z H _ I h) fun v s1 ⟨x, H1, I1, r1, q1⟩ => ?_
 refine thn (hb pins s1 Z H1 _ I1 q1) fun u s2 ⟨y, H2, I2, r2, q2⟩ => ?_
 exact hf v u s2 x y H2 I2 r1 r2 q2
def qpd (i : Nat) : TE := fun Z H Q => ∃ v, Z[i]? = some (some v) /\ Q v H
def tC (v : V) : TE := fun _ H Q => Q v H
theorem qaE {i : Nat} {x : Str} {pos : Pos} (hN : X.N[i]? = some x) (hv : Vis X.env.scope x) (hd : (x == ("__debug__" : Str)) = false := by decide) (hcd : (x == ("__classdict__" : Str)) = false := by decide) : PE X (.Name x pos) (qpd i) := by
 intro pins s Z H Q I h
 obtain ⟨v, e, h⟩ := h
 obtain ⟨m, hn, hl⟩ := I.loc
 obtain ⟨u, r, l⟩ := hl i x v hN e hv
 have fin : EP X pins Z Q u s := ⟨v, H, I, r, h⟩
 rcases l with ⟨hk, hm⟩ | ⟨hk, c, hc, hcell⟩
 ·exact wpAny_Name (wpAny_loadName_local I.ok.kind hk hn hm fin) hd
 ·rcases hk with hk | hk
  ·exact wpAny_Name (wpAny_loadName_cell I.ok.kind hk hc hcell fin) hd
  ·exact wpAny_Name (wpAny_loadName_free I.ok.kind hk hc hcell fin hcd) hd
theorem qjv {i j pos} : PE X (.Constant (.int i) j pos) (tC (.int i)) := fun _ _ _ H _ I h => wpAny_Constant_int ⟨.int i, H, I.tok _, ⟨_, rfl⟩, h⟩
theorem qn0 {b j pos} : PE X (.Constant (.bool b) j pos) (tC (.bl b)) := fun _ _ _ H _ I h => Constant_bool ⟨.bl b, H, I, rfl, h⟩
theorem ql1 {j pos} : PE X (.Constant .none j pos) (tC .non) := fun _ _ _ H _ I h => Constant_none ⟨.non, H, I, rfl, h⟩
def Gl (X : Cx) (x : Str) : Prop := X.env.kindOf x = some .globalImplicit
theorem qgm {E : Value -> Shared -> Prop} {pins : List (Addr × Obj)} {s : Shared} {Z : St} {H : Hp} {x : Str} {u : Value} {pos : Pos} {Q : Value -> Shared -> Prop} (I : Inv X pins Z H s) (hg : Gl X x) (hm : X.mg x = some u) (h : Q u s)
  (hd : (x == ("__debug__" : Str)) = false := by decide) : wpAny (model X.prog X.w) X.A (eval (.Name x pos) X.env) Q E s :=
 Calls.Name_function_global I.ok.kind hg (Calls.loadGlobal_global (by rw [I.ok.glob]; exact I.mod.glob.keeps I.bk) hm h) hd
theorem wm {E : Value -> Shared -> Prop} {pins : List (Addr × Obj)} {s : Shared} {Z : St} {H : Hp} {x : Str} {u : Value} {pos : Pos} {Q : Value -> Shared -> Prop} (I : Inv X pins Z H s) (hg : Gl X x) (hm : X.mg x = none) (hv : bootBuiltins x = some u) (h : Q u s)
  (hn : x ≠ "__name__" := by decide) (hd : (x == ("__debug__" : Str)) = false := by decide) : wpAny (model X.prog X.w) X.A (eval (.Name x pos) X.env) Q E s := by
 obtain ⟨mb, h1, h2⟩ := I.mod.blt
 exact Calls.Name_function_global I.ok.kind hg (Calls.loadGlobal_builtin (by rw [I.ok.glob]; exact I.mod.glob.keeps I.bk) hm (by rw [I.ok.blt]; exact h1.keeps I.bk) ((h2 x hn).trans hv) h) hd
theorem qkm {x : Str} {v : V} {u : Value} {pos : Pos} (hg : Gl X x) (hm : X.mg x = some u) (r : yx v u) (hd : (x == ("__debug__" : Str)) = false := by decide) : PE X (.Name x pos) (tC v) :=
 fun _ _ _ H _ I h => qgm I hg hm ⟨v, H, I, r, h⟩ hd
theorem qkn {x : Str} {v : V} {u : Value} {pos : Pos} (hg : Gl X x) (hm : X.mg x = none) (hv : bootBuiltins x = some u) (r : yx v u) (hn : x ≠ "__name__" := by decide) (hd : (x == ("__debug__" : Str)) = false := by decide) : PE X (.Name x pos) (tC v) :=
 fun _ _ _ H _ I h => wm I hg hm hv ⟨v, H, I, r, h⟩ hn hd
variable {a b : Expr} {ta tb : TE} {pos : Pos}
def PC (X : Cx) (op : CmpOp) (a b : Expr) (t : TE) : Prop :=
 ∀ (pins : List (Addr × Obj)) (s : Shared) (Z : St) (H : Hp) (Q : VK), Inv X pins Z H s -> t Z H Q ->
  wpAny (model X.prog X.w) X.A (eval a X.env) (fun v s₁ => wpAny (model X.prog X.w) X.A (eval b X.env) (fun u s₂ => wpAny (model X.prog X.w) X.A (compareOp op v u) (EP X pins Z Q) X.xe s₂) X.xe s₁) X.xe s
theorem qie (b : Expr) {op : CmpOp} (h : op ≠ .In) (h2 : op ≠ .NotIn) : behindInMarks op b = false := by
 have e1 : (op == CmpOp.In) = false := by cases op <;> first | rfl | exact absurd rfl h
 have e2 : (op == CmpOp.NotIn) = false := by cases op <;> first | rfl | exact absurd rfl h2
 cases b <;> simp [behindInMarks, e1, e2]
def tB (t : TE) : TT := fun Z H Q => t Z H fun x H1 => ∃ c, x = .bl c /\ Q c H1
theorem qoO {op : CmpOp} {t : TE} (h : PC X op a b t) (h1 : behindInMarks op b = false := by first | exact qie _ (by decide) (by decide) | rfl) : PT X (.Compare a [op] [b] pos) (tB t) := by
 intro pins s Z H Q I hw
 refine wpAny_isTrue_Compare1 (thn (h pins s Z H _ I hw) fun v s1 h1 => thn h1 fun u s2 h2 => thn h2 fun c s3 ⟨x, H1, I1, r1, q1⟩ => ?_) h1
 obtain ⟨d, rfl, q⟩ := q1
 cases r1
 exact wpAny_truthy_bool ⟨H1, I1, q⟩
theorem ql2 {e : Expr} {t : TE} (h : PE X e t) (he : ∀ whole, isTrue e X.env whole = (do let v <- whole; standAt e.pos; holding [v] (truthy v)) := by intro _; rfl) : PT X e (tB t) := by
 intro pins s Z H Q I hw
 refine isTrue_plain (thn (h pins s Z H _ I hw) fun v s1 ⟨x, H1, I1, r1, q1⟩ => ?_) (he _)
 obtain ⟨d, rfl, q⟩ := q1
 cases r1
 exact wpAny_truthy_bool ⟨H1, I1, q⟩
variable {tA tB' : TT} {vh : List Expr}
def qpe (t u : TT) : TT := fun Z H Q => t Z H fun c H1 => if c = true then u Z H1 Q else Q false H1
def tOr (t u : TT) : TT := fun Z H Q => t Z H fun c H1 => if c = true then Q true H1 else u Z H1 Q
def qpf (t : TT) : TT := fun Z H Q => t Z H fun c H1 => Q (!c) H1
theorem qko (ha : PT X a tA) : PW X (.BoolOp .And [a] pos) tA := by
 intro wh pins s Z H Q I h
 refine isTrue_and (thn (ha pins s Z H Q I h) fun c s1 e => ?_)
 cases c with
 | true => exact isTrue_and_nil e
 | false => exact e
theorem ql3 (ha : PT X a tA) : PW X (.BoolOp .Or [a] pos) tA := by
 intro wh pins s Z H Q I h
 refine isTrue_or (thn (ha pins s Z H Q I h) fun c s1 e => ?_)
 cases c with
 | false => exact isTrue_or_nil e
 | true => exact e
theorem ql4 (ha : PT X a tA) (hb : PW X (.BoolOp .And (b :: vh) pos) tB') : PW X (.BoolOp .And (a :: b :: vh) pos) (qpe tA tB') := by
 intro wh pins s Z H Q I h
 refine isTrue_and (thn (ha pins s Z H _ I h) fun c s1 ⟨H1, I1, q1⟩ => ?_)
 cases c with
 | true => exact hb wh pins s1 Z H1 Q I1 q1
 | false => exact ⟨H1, I1, q1⟩
theorem qn1 (ha : PT X a tA) (hb : PW X (.BoolOp .Or (b :: vh) pos) tB') : PW X (.BoolOp .Or (a :: b :: vh) pos) (tOr tA tB') := by
 intro wh pins s Z H Q I h
 refine isTrue_or (thn (ha pins s Z H _ I h) fun c s1 ⟨H1, I1, q1⟩ => ?_)
 cases c with
 | true => exact ⟨H1, I1, q1⟩
 | false => exact hb wh pins s1 Z H1 Q I1 q1
theorem ql5 (ha : PT X a tA) : PT X (.UnaryOp .Not a pos) (qpf tA) := by
 intro pins s Z H Q I h
 exact isTrue_not (ha pins s Z H (fun c H1 => Q (!c) H1) I h)
def qn2 (ta tb : TE) : TE := fun Z H Q => ta Z H fun x H1 => ∃ c, x = .bl c /\ if c = true then tb Z H1 Q else Q (.bl false) H1
def qpg (ta tb : TE) : TE := fun Z H Q => ta Z H fun x H1 => ∃ c, x = .bl c /\ if c = true then Q (.bl true) H1 else tb Z H1 Q
def qn3 (ta : TE) : TE := fun Z H Q => ta Z H fun x H1 => ∃ c, x = .bl c /\ Q (.bl (!c)) H1
theorem ql6 {op} {t : TE} (h : PE X a t) : PE X (.BoolOp op [a] pos) t := fun pins s Z H Q I hw => BoolOp_one (h pins s Z H Q I hw)
theorem ql7 (ha : PE X a ta) (hb : PE X (.BoolOp .And (b :: vh) pos) tb) : PE X (.BoolOp .And (a :: b :: vh) pos) (qn2 ta tb) := by
 intro pins s Z H Q I h
 refine BoolOp_and (thn (ha pins s Z H _ I h) fun v s1 ⟨x, H1, I1, r1, q1⟩ => ?_)
 obtain ⟨c, rfl, q1⟩ := q1
 cases r1
 refine wpAny_truthy_bool ?_
 cases c with
 | true => exact hb pins s1 Z H1 Q I1 q1
 | false => exact ⟨.bl false, H1, I1, rfl, q1⟩
theorem qn4 (ha : PE X a ta) (hb : PE X (.BoolOp .Or (b :: vh) pos) tb) : PE X (.BoolOp .Or (a :: b :: vh) pos) (qpg ta tb) := by
 intro pins s Z H Q I h
 refine BoolOp_or (thn (ha pins s Z H _ I h) fun v s1 ⟨x, H1, I1, r1, q1⟩ => ?_)
 obtain ⟨c, rfl, q1⟩ := q1
 cases r1
 refine wpAny_truthy_bool ?_
 cases c with
 | false => exact hb pins s1 Z H1 Q I1 q1
 | true => exact ⟨.bl true, H1, I1, rfl, q1⟩
theorem ql8 (ha : PE X a ta) : PE X (.UnaryOp .Not a pos) (qn3 ta) := by
 intro pins s Z H Q I h
 refine UnaryOp_ (thn (ha pins s Z H _ I h) fun v s1 ⟨x, H1, I1, r1, q1⟩ => ?_)
 obtain ⟨c, rfl, q1⟩ := q1
 cases r1
 exact not_of (wpAny_truthy_bool ⟨.bl (!c), H1, I1, rfl, q1⟩)
def tIf (t : TT) (ta tb : TE) : TE := fun Z H Q => t Z H fun c H1 => if c = true then ta Z H1 Q else tb Z H1 Q
theorem qif {c : Expr} (hc : PT X c tA) (ha : PE X a ta) (hb : PE X b tb) : PE X (.IfExp c a b pos) (tIf tA ta tb) := by
 intro pins s Z H Q I h
 refine wpAny_IfExp (thn (hc pins s Z H _ I h) fun d s1 ⟨H1, I1, q1⟩ => ?_)
 cases d with
 | true => exact ha pins s1 Z H1 Q I1 q1
 | false => exact hb pins s1 Z H1 Q I1 q1
end
end L2
namespace L2
open PySem PySem.Spec PyProof.Rows
def SqL (K : PySem.W.Frag) (H : Hp) (a : Addr) (xs : List V) : Prop :=
 Rd H a (.lst xs) \/
  ∃ (o : Obj) (its : Array Value) (n : Nat), K.lookup a = some o /\ o.cls = .type "list" /\ o.dict = none /\ o.data = .seq its n /\ its.size <= sizeLine /\ zD xs its.toList
def SqT (K : PySem.W.Frag) (H : Hp) (a : Addr) (xs : List V) : Prop :=
 Rd H a (.tup xs) \/
  ∃ (o : Obj) (its : Array Value) (n : Nat), K.lookup a = some o /\ o.cls = .type "tuple" /\ o.data = .seq its n /\ its.size <= sizeLine /\ zD xs its.toList
def qph : Value -> Option V
 | .none => some .non
 | .bool b => some (.bl b)
 | .int i _ => some (.int i)
 | .str x _ => some (.str x)
 | .bytes b _ => some (.byt b)
 | .float b _ => some (.flt b)
 | .ref a => some (.ref a)
 | .type n => some (.ty n)
 | _ => none
theorem yx.abs {x : V} {u : Value} (r : yx x u) : qph u = some x := by
 cases x with
 | non => cases r; rfl
 | bl _ => cases r; rfl
 | int _ => obtain ⟨t, rfl⟩ := r; rfl
 | str _ => obtain ⟨t, rfl⟩ := r; rfl
 | byt _ => obtain ⟨t, rfl⟩ := r; rfl
 | flt _ => obtain ⟨t, rfl⟩ := r; rfl
 | ref _ => cases r; rfl
 | ty _ => cases r; rfl
theorem yx.inj {x y : V} {u : Value} (r : yx x u) (q : yx y u) : x = y := Option.some.inj (r.abs.symm.trans q.abs)
theorem zD.inj : ∀ {xs ys : List V} {us : List Value}, zD xs us -> zD ys us -> xs = ys
 | _, _, _, .nil, .nil => rfl
 | _, _, _, .cons r t, .cons r' t' => by rw [r.inj r', zD.inj t t']
section
variable {X : Cx} {pins : List (Addr × Obj)} {Z : St} {H : Hp} {s : Shared} {a : Addr} {xs ys : List V}
theorem SqL.of {K : PySem.W.Frag} (h : H a = some (.lst xs)) : SqL K H a xs := .inl (.inl h)
theorem Inv.list (I : Inv X pins Z H s) (h : SqL X.K H a xs) : ∃ its : List Value, zD xs its /\ PlainL s.heap a its.toArray /\ xs.length <= sizeLine := by
 rcases h with h | ⟨o, its, n, hk, hc, hd, hs, hz, r⟩
 ·obtain ⟨z, its, n, r, e⟩ := h.ok I.hok
  exact ⟨its, r, ⟨_, n, e, rfl, rfl, rfl⟩, z⟩
 ·refine ⟨its.toList, r, ⟨o, n, I.kIn a o hk, hc, hd, by simpa using hs⟩, ?_⟩
  have e := r.length
  simp only [Array.length_toList] at e
  omega
theorem Inv.tuple (I : Inv X pins Z H s) (h : SqT X.K H a xs) : ∃ its : List Value, zD xs its /\ IsTup s.heap a its.toArray /\ xs.length <= sizeLine := by
 rcases h with h | ⟨o, its, n, hk, hc, hs, hz, r⟩
 ·obtain ⟨z, its, r, p⟩ := h.ok I.hok
  exact ⟨its, r, p, z⟩
 ·refine ⟨its.toList, r, ⟨o, I.kIn a o hk, hc, n, by simpa using hs⟩, ?_⟩
  have e := r.length
  simp only [Array.length_toList] at e
  omega
theorem Inv.list_inj (I : Inv X pins Z H s) (h : SqL X.K H a xs) (h' : SqL X.K H a ys) : xs = ys := by
 obtain ⟨its, r, ⟨o, n, e, _, _, d⟩, _⟩ := I.list h
 obtain ⟨its', r', ⟨o', n', e', _, _, d'⟩, _⟩ := I.list h'
 rw [e] at e'; cases e'
 rw [d] at d'
 injection d' with d1 _
 have : its = its' := by simpa using congrArg Array.toList d1
 subst this
 exact r.inj r'
theorem Inv.tuple_inj (I : Inv X pins Z H s) (h : SqT X.K H a xs) (h' : SqT X.K H a ys) : xs = ys := by
 obtain ⟨its, r, ⟨o, e, _, n, d⟩, _⟩ := I.tuple h
 obtain ⟨its', r', ⟨o', e', _, n', d'⟩, _⟩ := I.tuple h'
 rw [e] at e'; cases e'
 rw [d] at d'
 injection d' with d1 _
 have : its = its' := by simpa using congrArg Array.toList d1
 subst this
 exact r.inj r'
end
abbrev Cx.wish (X : Cx) (E : Value -> Shared -> Prop) : Cx := { X with xe := E }
abbrev Cx.nox (X : Cx) : Cx := X.wish fun _ _ => False
theorem Cx.Ok.wish {X : Cx} (ok : X.Ok) (E : Value -> Shared -> Prop) : (X.wish E).Ok :=
 ⟨ok.mod, ok.kind, ok.glob, ok.blt, ok.above, ok.inj, ok.has, ok.cab, ok.hd, ok.frames, ok.stk, ok.exf, ok.bs, ok.bsz, ok.noex, ok.exfs, ok.funs, ok.frf⟩
theorem Cx.Ok.unwish {X : Cx} {E : Value -> Shared -> Prop} (ok : (X.wish E).Ok) : X.Ok :=
 ⟨ok.mod, ok.kind, ok.glob, ok.blt, ok.above, ok.inj, ok.has, ok.cab, ok.hd, ok.frames, ok.stk, ok.exf, ok.bs, ok.bsz, ok.noex, ok.exfs, ok.funs, ok.frf⟩
section
variable {X : Cx} {pins : List (Addr × Obj)} {Z : St} {H : Hp} {s : Shared} {E : Value -> Shared -> Prop}
theorem Inv.wish (I : Inv X pins Z H s) (E : Value -> Shared -> Prop) : Inv (X.wish E) pins Z H s := ⟨I.ok.wish E, I.os, I.bare, I.base, I.loc, I.cell, I.free, I.freeC, I.pin, I.hok, I.len⟩
theorem Inv.unwish (I : Inv (X.wish E) pins Z H s) : Inv X pins Z H s := ⟨I.ok.unwish, I.os, I.bare, I.base, I.loc, I.cell, I.free, I.freeC, I.pin, I.hok, I.len⟩
theorem SP.unwish {D : qh9} {f : Flow} {s' : Shared} (h : SP (X.wish E) pins D f s') : SP X pins D f s' := by
 cases f with
 | next => obtain ⟨Z', H', I, q⟩ := h; exact ⟨Z', H', I.unwish, q⟩
 | brk => obtain ⟨Z', H', I, q⟩ := h; exact ⟨Z', H', I.unwish, q⟩
 | cont => obtain ⟨Z', H', I, q⟩ := h; exact ⟨Z', H', I.unwish, q⟩
 | ret u => obtain ⟨v, Z', H', I, r, q⟩ := h; exact ⟨v, Z', H', I.unwish, r, q⟩
theorem PE.nox {e : Expr} {t : TE} (h : PE X.nox e t) : PE X e t := fun pins s Z H Q I hw =>
 wpAny_mono (h pins s Z H Q (I.wish _) hw) (fun _ _ ⟨v, H', I', r, q⟩ => ⟨v, H', I'.unwish, r, q⟩) fun _ _ z => False.elim z
theorem PT.nox {e : Expr} {t : TT} (h : PT X.nox e t) : PT X e t := fun pins s Z H Q I hw =>
 wpAny_mono (h pins s Z H Q (I.wish _) hw) (fun _ _ ⟨H', I', q⟩ => ⟨H', I'.unwish, q⟩) fun _ _ z => False.elim z
theorem PSs.nox {st : List Stmt} {t : TS} (h : PSs X.nox st t) : PSs X st t := fun pins s Z H D I hw =>
 wpAny_mono (h pins s Z H D (I.wish _) hw) (fun _ _ q => q.unwish) fun _ _ z => False.elim z
end
section
variable {X : Cx} {st : Stmt} {vh : List Stmt} {t u : TS} {e : Expr} {te : TE} {pos : Pos}
def qn5 : TS := fun D Z H => D.nx Z H
def qpi (t u : TS) : TS := fun D Z H => t { D with nx := u D } Z H
theorem qkp : PSs X [] qn5 := fun _ _ Z H _ I h => wpAny_execs_nil ⟨Z, H, I, h⟩
theorem qig (h1 : PS X st t) (h2 : PSs X vh u) : PSs X (st :: vh) (qpi t u) := by
 intro pins s Z H D I h
 refine wpAny_execs_cons (thn (h1 pins s Z H { D with nx := u D } I h) fun f s1 q => ?_)
 cases f with
 | next =>
  obtain ⟨Z', H', I', q⟩ := q
  exact h2 pins s1 Z' H' D I' q
 | ret v => exact q
 | brk => exact q
 | cont => exact q
theorem qkq (h1 : PS X st t) : PSs X [st] t := by
 intro pins s Z H D I h
 refine wpAny_execs_cons (thn (h1 pins s Z H D I h) fun f s1 q => ?_)
 cases f with
 | next => exact wpAny_execs_nil q
 | ret v => exact q
 | brk => exact q
 | cont => exact q
theorem Inv.quiet {pins : List (Addr × Obj)} {Z : St} {H : Hp} {s : Shared} (I : Inv X pins Z H s) : interactive X.env = false := by simp [interactive, I.ok.kind]
def qn6 (te : TE) : TS := fun D Z H => te Z H fun _ H1 => D.nx Z H1
theorem qkr (he : PE X e te) (hs : swapsWith e none pos.line X.env = pure false := by rfl) : PS X (.Expr e pos) (qn6 te) := by
 intro pins s Z H D I h
 exact wpAny_Expr_any (thn (he pins s Z H _ I h) fun v s1 ⟨x, H1, I1, r1, q1⟩ => ⟨Z, H1, I1, q1⟩) I.quiet hs
def qpj (te : TE) : TS := fun D Z H => te Z H D.rt
theorem qjw (he : PE X e te) : PS X (.Return (some e) pos) (qpj te) := by
 intro pins s Z H D I h
 exact wpAny_Return_some (thn (he pins s Z H _ I h) fun v s1 ⟨x, H1, I1, r1, q1⟩ => ⟨x, Z, H1, I1, r1, q1⟩)
def qpk (c : TT) (t u : TS) : TS := fun D Z H => c Z H fun b H1 => if b = true then t D Z H1 else u D Z H1
theorem qn7 {c : Expr} {a b : List Stmt} {tc : TT} (hc : PT X c tc) (ha : PSs X a t) (hb : PSs X b u) : PS X (.If c a b pos) (qpk tc t u) := by
 intro pins s Z H D I h
 refine wpAny_If (thn (hc pins s Z H _ I h) fun d s1 ⟨H1, I1, q1⟩ => ?_)
 cases d with
 | true => exact ha pins s1 Z H1 D I1 q1
 | false => exact hb pins s1 Z H1 D I1 q1
def ql9 : TS := fun _ _ _ => False
theorem qih : PS X st ql9 := fun _ _ _ _ _ _ h => h.elim
end
abbrev TG := V -> St -> Hp -> (St -> Hp -> Prop) -> Prop
abbrev TGs := List V -> St -> Hp -> (St -> Hp -> Prop) -> Prop
def PG (X : Cx) (target : Expr) (t : TG) : Prop :=
 ∀ (pins : List (Addr × Obj)) (s : Shared) (Z : St) (H : Hp) (v : V) (u : Value) (Q : St -> Hp -> Prop), Inv X pins Z H s -> yx v u -> t v Z H Q ->
  wpAny (model X.prog X.w) X.A (assign target X.env u) (fun _ s' => ∃ Z' H', Inv X pins Z' H' s' /\ Q Z' H') X.xe s
def PGs (X : Cx) (ts : List Expr) (t : TGs) : Prop :=
 ∀ (pins : List (Addr × Obj)) (s : Shared) (Z : St) (H : Hp) (vs : List V) (us : List Value) (Q : St -> Hp -> Prop), Inv X pins Z H s -> zD vs us -> t vs Z H Q ->
  wpAny (model X.prog X.w) X.A (assignInOrder ((assignEach ts X.env).map (·.2)) us) (fun _ s' => ∃ Z' H', Inv X pins Z' H' s' /\ Q Z' H') X.xe s
abbrev qn8 := V -> V -> V -> Hp -> (Hp -> Prop) -> Prop
def qoP (X : Cx) (t : qn8) : Prop :=
 ∀ (pins : List (Addr × Obj)) (s : Shared) (Z : St) (H : Hp) (o i v : V) (ov iv u : Value) (Q : Hp -> Prop), Inv X pins Z H s -> yx o ov -> yx i iv -> yx v u -> t o i v H Q ->
  wpAny (model X.prog X.w) X.A (setItem ov iv u) (fun _ s' => ∃ H', Inv X pins Z H' s' /\ Q H') X.xe s
section
variable {X : Cx} {pos : Pos}
def qma (i : Nat) : TG := fun v Z H Q => Q (Z.set i (some v)) H
theorem qks {i : Nat} {x : Str} (hN : X.N.Nodup) (hi : X.N[i]? = some x) (hx : Loc X.env.scope x) (hf : X.fn x = true \/ X.env.scope.names.lookup x = some .local := by first | exact .inl rfl | exact .inr rfl | assumption) : PG X (.Name x pos) (qma i) := by
 intro pins s Z H v u Q I r h
 exact wpAny_assign_Name (qaQ I hN hi hx r (fun s' I' => ⟨_, H, I', h⟩) hf)
def qpl : TGs := fun vs Z H Q => vs = [] /\ Q Z H
def qn9 (t : TG) (u : TGs) : TGs := fun vs Z H Q => ∃ v r, vs = v :: r /\ t v Z H fun Z' H' => u r Z' H' Q
theorem qkt : PGs X [] qpl := by
 intro pins s Z H vs us Q I r h
 obtain ⟨e, h⟩ := h
 subst e
 cases r
 exact assignInOrder_nil ⟨Z, H, I, h⟩
theorem qii {e : Expr} {es : List Expr} {t : TG} {u : TGs} (h1 : PG X e t) (h2 : PGs X es u)
  (hs : (assignEach (e :: es) X.env).map (·.2) = assign e X.env :: (assignEach es X.env).map (·.2) := by rfl) : PGs X (e :: es) (qn9 t u) := by
 intro pins s Z H vs us Q I r h
 obtain ⟨v, vr, e1, h⟩ := h
 subst e1
 cases r with
 | cons r rr =>
  rw [hs]
  refine assignInOrder_cons (thn (h1 pins s Z H _ _ _ I r h) fun _ s1 ⟨Z1, H1, I1, q1⟩ => ?_)
  exact h2 pins s1 Z1 H1 _ _ Q I1 rr q1
def qpm (K : PySem.W.Frag) (n : Nat) (t : TGs) : TG := fun v Z H Q => ∃ a xs, v = .ref a /\ SqT K H a xs /\ xs.length = n /\ t xs Z H Q
theorem qmb {es : List Expr} {k : Nat} {t : TGs} {n : Nat} (hc : X.calm = true) (h : PGs X es t)
  (hn : (assignEach es X.env).length = n := by rfl) (hst : (assignEach es X.env).findIdx? (·.1) = none := by rfl) : PG X (.Tuple es k pos) (qpm X.K n t) := by
 intro pins s Z H v u Q I r hw
 obtain ⟨a, xs, e1, hq, hl, hw⟩ := hw
 subst e1
 cases r
 obtain ⟨its, rv, ht, hz⟩ := I.tuple hq
 refine assign_Tuple_tuple (I.ok.hd hc) ht (by simp [hn, <- hl, rv.length]) hst fun h' hx => ?_
 have I1 : Inv X pins Z H { s with heap := h' } := I.kept (t' := s.toks) fun b o e => hx b o (Nat.ne_of_lt (Heap.lt_size e)) e
 exact h pins _ Z H xs _ Q I1 (by simpa using rv) hw
def qpn (to ti : TE) (t : qn8) : TG := fun v Z H Q => to Z H fun o H1 => ti Z H1 fun i H2 => t o i v H2 fun H3 => Q Z H3
theorem qmc {o i : Expr} {to ti : TE} {t : qn8} (ho : PE X o to) (hi : PE X i ti) (hs : qoP X t)
  (ha : ∀ v, assign (.Subscript o i pos) X.env v = (do
   let ov <- holding [v] (eval o X.env)
   let iv <- holding [v, ov] (eval i X.env)
   standAt pos
   holding [v, ov, iv] (setItem ov iv v)
   release [v, ov, iv] []) := by intro _; rfl) : PG X (.Subscript o i pos) (qpn to ti t) := by
 intro pins s Z H v u Q I r h
 rw [ha]
 refine wpAny_bind (wpAny_holding (thn (ho pins s Z H _ I h) fun ov s1 ⟨x, H1, I1, r1, q1⟩ => ?_))
 refine wpAny_bind (wpAny_holding (thn (hi pins s1 Z H1 _ I1 q1) fun iv s2 ⟨y, H2, I2, r2, q2⟩ => ?_))
 refine wpAny_bind (wpAny_standAt (wpAny_bind (wpAny_holding (thn (hs pins s2 Z H2 x y v ov iv u _ I2 r1 r2 r q2) fun _ s3 ⟨H3, I3, q3⟩ => ?_))))
 exact wpAny_release ⟨Z, H3, I3, q3⟩
def qoQ (te : TE) (g : TG) : TS := fun D Z H => te Z H fun x H1 => g x Z H1 D.nx
theorem qjx {tg e : Expr} {te : TE} {g : TG} (he : PE X e te) (hg : PG X tg g) (hs : swapsWithSole [tg] e pos.line X.env = pure false := by rfl) (hw : swappedStores [tg] e X.env = pure none := by rfl)
  (h1 : (assignEach [tg] X.env).map (·.2) = [assign tg X.env] := by rfl) : PS X (.Assign [tg] e pos) (qoQ te g) := by
 intro pins s Z H D I h
 refine wpAny_Assign_stores (thn (he pins s Z H _ I h) fun v s1 ⟨x, H1, I1, r1, q1⟩ => ?_) hs hw
 rw [h1]
 exact thn (hg pins s1 Z H1 x v _ I1 r1 q1) fun _ s2 q => q
theorem qjy {i : Nat} {x : Str} {e : Expr} {te : TE} {pos' : Pos} (hN : X.N.Nodup) (hi : X.N[i]? = some x) (hx : Loc X.env.scope x) (he : PE X e te) (hs : swapsWith e (some (.Name x pos')) pos.line X.env = pure false := by rfl) (hf : X.fn x = true \/ X.env.scope.names.lookup x = some .local := by first | exact .inl rfl | exact .inr rfl | assumption) :
  PS X (.Assign [.Name x pos'] e pos) (qoQ te (qma i)) := by
 intro pins s Z H D I h
 refine wpAny_Assign_Name (thn (he pins s Z H _ I h) fun v s1 ⟨y, H1, I1, r1, q1⟩ => ?_) hs
 exact qaQ I1 hN hi hx r1 (fun s2 I2 => ⟨_, H1, I2, q1⟩) hf
def qpo (i j : Nat) (ta : TA) : TS := fun D Z H => ta Z H fun vs H1 => ∃ v w, vs = [v, w] /\ D.nx ((Z.set i (some v)).set j (some w)) H1
theorem qmd {i j : Nat} {x y : Str} {a b : Expr} {ta : TA} {px py pt : Pos} {kt k2 pt2} (hc : X.calm = true) (hN : X.N.Nodup) (hi : X.N[i]? = some x) (hj : X.N[j]? = some y) (hij : i ≠ j)
  (hx : X.env.scope.names.lookup x = some .local) (hy : X.env.scope.names.lookup y = some .local) (ha : PA X [a, b] ta)
  (hw : swappedStores [.Tuple [.Name x px, .Name y py] kt pt] (.Tuple [a, b] k2 pt2) X.env = pure (some [x, y]))
  (hs : swapsWithSole [.Tuple [.Name x px, .Name y py] kt pt] (.Tuple [a, b] k2 pt2) pos.line X.env = pure false := by rfl) :
  PS X (.Assign [.Tuple [.Name x px, .Name y py] kt pt] (.Tuple [a, b] k2 pt2) pos) (qpo i j ta) := by
 intro pins s Z H D I h
 rw [exec_Assign_arm]
 refine wpAny_bind (wpAny_standAt ?_)
 rw [hs]
 refine wpAny_bind (wpAny_pure ?_)
 rw [if_neg (by decide)]
 refine wpAny_bind (Tuple_ (thn (ha _ pins s Z H _ I h) fun us s1 ⟨vs, H1, I1, r1, q1⟩ => ?_))
 obtain ⟨v, w, e1, q1⟩ := q1
 subst e1
 obtain ⟨u1, u2, rfl, rv, rw'⟩ : ∃ u1 u2, us = [u1, u2] /\ yx v u1 /\ yx w u2 := by
  cases r1 with
  | cons p q =>
   cases q with
   | cons p' q' =>
    cases q'
    exact ⟨_, _, rfl, p, p'⟩
 refine wpAny_newObj_type ?_ (by show 2 <= sizeLine; decide)
 have I2 : Inv X pins Z H1 { s1 with heap := s1.heap.push { cls := .type "tuple", data := .seq [u1, u2].toArray } } := I1.kept (t' := s1.toks) fun b o e => Heap.get?_push_of_some _ e
 rw [hw]
 refine wpAny_bind (wpAny_pure ?_)
 show wpAny (model X.prog X.w) X.A (do rule "assign.swapped-stores"; let items <- unpackItems (.ref s1.heap.objs.size) 2 none; assignInOrder [fun v => bindName X.env y v, fun v => bindName X.env x v] items.reverse; pure Flow.next) _ _ _
 refine wpAny_bind (wpAny_rule (wpAny_bind (unpackItems_tuple (items := #[u1, u2]) (I.ok.hd hc) (IsTup.new s1.heap _) fun h' hx' => ?_)))
 have I3 := I2.kept (h' := h') (t' := s1.toks) fun b o e => hx' b o (Nat.ne_of_lt (Heap.lt_size e)) e
 show wpAny _ _ (assignInOrder [fun v => bindName X.env y v, fun v => bindName X.env x v] [u2, u1] >>= fun _ => pure Flow.next) _ _ _
 refine wpAny_bind (assignInOrder_cons (wpAny_bindName (qaQ I3 hN hj (.inl hy) rw' (fun s2 I4 => ?_) (.inr hy))))
 refine assignInOrder_cons (wpAny_bindName (qaQ I4 hN hi (.inl hx) rv (fun s3 I5 => assignInOrder_nil (wpAny_pure ?_)) (.inr hx)))
 rw [List.set_comm _ _ (Ne.symm hij)] at I5
 exact ⟨_, H1, I5, q1⟩
end
section
variable {X : Cx} {pos : Pos}
def qme (c : TT) (tb : TS) : TS := fun D Z H => ∃ W : Nat -> St -> Hp -> Prop, (∃ m, W m Z H) /\ ∀ m Z H, W m Z H ->
 c Z H fun b H1 => if b = true then ∃ N : St -> Hp -> Prop, (∀ Z' H', N Z' H' -> ∃ m', m' < m /\ W m' Z' H') /\ tb { D with nx := N, ct := N, bk := D.nx } Z H1 else D.nx Z H1
theorem qij {c : Expr} {body : List Stmt} {tc : TT} {tb : TS} (hp : PassesOwn (model X.prog X.w) X.A X.env X.xe) (hc : PT X c tc) (hb : PSs X body tb) : PS X (.While c body [] pos) (qme tc tb) := by
 intro pins s Z H D I h
 obtain ⟨W, ⟨m0, w0⟩, turn⟩ := h
 refine wpAny_While (codeAny_whileLoop (fun n s' => ∃ Z' H', Inv X pins Z' H' s' /\ W n Z' H') ?_ m0 ⟨Z, H, I, w0⟩)
 rintro n s1 ⟨Z1, H1, I1, w1⟩
 refine wpAny_passesOwn hp (thn (hc pins s1 Z1 H1 _ I1 (turn n Z1 H1 w1)) fun b s2 ⟨H2, I2, q2⟩ => ?_)
 cases b with
 | true =>
  obtain ⟨N, hN, q2⟩ := q2
  rw [if_pos rfl]
  refine wpAny_passesOwn hp (thn (hb pins s2 Z1 H2 _ I2 q2) fun f s3 q3 => ?_)
  cases f with
  | next =>
   obtain ⟨Z3, H3, I3, n3⟩ := q3
   obtain ⟨m', hm, w3⟩ := hN Z3 H3 n3
   exact ⟨m', hm, Z3, H3, I3, w3⟩
  | cont =>
   obtain ⟨Z3, H3, I3, n3⟩ := q3
   obtain ⟨m', hm, w3⟩ := hN Z3 H3 n3
   exact ⟨m', hm, Z3, H3, I3, w3⟩
  | brk => exact q3
  | ret v => exact q3
 | false =>
  rw [if_neg Bool.false_ne_true]
  exact wpAny_execs_nil ⟨Z1, H2, I2, q2⟩
end
structure It where
 go : Nat -> Hp -> Prop
 yld : Nat -> Hp -> V -> Hp -> Prop
 stop : Nat -> Hp -> Prop
def qeE (X : Cx) (pins : List (Addr × Obj)) (H : Hp) (b : Addr) : Prop :=
 H b = none /\ b ≠ X.env.locals /\ b ∉ X.fs /\ (b ∈ X.ex \/ X.s₀.heap.objs.size <= b) /\ (∀ x c, X.env.cells.lookup x = some c -> c ≠ b) /\ ∀ p ∈ X.pn ++ pins, p.1 ≠ b
theorem Inv.fpOk {X : Cx} {pins : List (Addr × Obj)} {Z : St} {H H' : Hp} {s : Shared} {b : Addr} (I : Inv X pins Z H s) (hb : s.heap.objs.size <= b) (hn : H' b = none) : qeE X pins H' b := by
 refine ⟨hn, Nat.ne_of_gt (Nat.lt_of_lt_of_le I.lt hb), I.nofs hb, .inr (Nat.le_trans I.sz hb), fun x c e z => ?_, fun p hp z => ?_⟩
 ·obtain ⟨v, q⟩ := I.cell x c e
  exact absurd (Nat.lt_of_lt_of_le q.lt (by rw [z]; exact hb)) (Nat.lt_irrefl _)
 ·exact absurd (Nat.lt_of_lt_of_le (Heap.lt_size (I.pin p hp).1) (by rw [z]; exact hb)) (Nat.lt_irrefl _)
structure qjz (P : Program) (w : World) (K : PySem.W.Frag) (tg : Expr) (J : It) (fp : List Addr) (it : Addr) (tn : Nat -> Heap -> Prop) : Prop where
 mem : it ∈ fp
 obj : ∀ i h, tn i h -> ∀ b ∈ fp, ∃ o, h.get? b = some o /\ ∀ v, o.data ≠ .cell v
 keep : ∀ i h h', tn i h -> (∀ b ∈ fp, ∀ o, h.get? b = some o -> h'.get? b = some o) -> tn i h'
 item : ∀ (X : Cx), X.prog = P -> X.w = w -> X.K = K -> X.calm = true -> ∀ (i : Nat) (pins : List (Addr × Obj)) (s : Shared) (Z : St) (H : Hp) (E : Value -> Shared -> Prop), Inv X pins Z H s -> (∀ b ∈ fp, qeE X pins H b) -> tn i s.heap -> J.go i H ->
  wpAny (model P w) X.A (pyNext (.ref it)) (fun r s1 => ∃ u, r = some u /\
   wpAny (model P w) X.A (letOwnedTupleGo tg (.ref it) u) (fun _ s2 => ∃ x H', Inv X pins Z H' s2 /\ yx x u /\ J.yld i H x H' /\ tn (i + 1) s2.heap /\ ∀ b ∈ fp, H' b = none) E s1) E s
 done : ∀ (X : Cx), X.prog = P -> X.w = w -> X.K = K -> X.calm = true -> ∀ (i : Nat) (pins : List (Addr × Obj)) (s : Shared) (Z : St) (H : Hp) (E : Value -> Shared -> Prop), Inv X pins Z H s -> (∀ b ∈ fp, qeE X pins H b) -> tn i s.heap -> J.stop i H ->
  wpAny (model P w) X.A (pyNext (.ref it)) (fun r s1 => r = none /\ Inv X pins Z H s1) E s
 self : ∀ (A : Around) (i : Nat) (s : Shared) (Q : Value -> Shared -> Prop) (E : Value -> Shared -> Prop), tn i s.heap -> Q (.ref it) s -> wpAny (model P w) A (pyIter (.ref it)) Q E s
abbrev TI := St -> Hp -> (It -> Hp -> Prop) -> Prop
def PIE (X : Cx) (pins : List (Addr × Obj)) (Z : St) (tg : Expr) (R : It -> Hp -> Prop) (itv : Value) (s2 : Shared) : Prop :=
 ∃ (it : Addr) (fp : List Addr) (tn : Nat -> Heap -> Prop) (J : It) (H' : Hp), itv = .ref it /\ Inv X pins Z H' s2 /\ qjz X.prog X.w X.K tg J fp it tn /\ tn 0 s2.heap /\ (∀ b ∈ fp, qeE X pins H' b) /\ R J H'
def PI (X : Cx) (tg iter : Expr) (wi : TI) : Prop :=
 ∀ (pins : List (Addr × Obj)) (s : Shared) (Z : St) (H : Hp) (R : It -> Hp -> Prop), Inv X pins Z H s -> wi Z H R ->
  wpAny (model X.prog X.w) X.A (eval iter X.env) (fun v s1 => wpAny (model X.prog X.w) X.A (pyIter v) (PIE X pins Z tg R) X.xe s1) X.xe s
theorem qik {M : Model} {A : Around} {E : Value -> Shared -> Prop} {s : Shared} {tg : Expr} {it : Addr} {u : Value} {o : Obj} {n : String} {vs : Array Value} {Q : Unit -> Shared -> Prop} (ho : s.heap.get? it = some o) (hc : o.cls = .type n) (hd : o.data = .fields vs)
  (hn : ["enumerate", "zip", "dict_itemiterator", "dict_reverseitemiterator", "odict_iterator", "itertools.zip_longest", "itertools.pairwise"].contains n = false) (hQ : Q () s) : wpAny M A (letOwnedTupleGo tg (.ref it) u) Q E s := by
 unfold letOwnedTupleGo
 cases tg <;> first
  | exact wpAny_pure hQ
  | (cases u <;> first
    | exact wpAny_pure hQ
    | (refine wpAny_bind (wpAny_load ho ?_)
       rw [hc, hd]
       show wpAny M A (if (["enumerate", "zip", "dict_itemiterator", "dict_reverseitemiterator", "odict_iterator", "itertools.zip_longest", "itertools.pairwise"].contains n && vs[0]? == some (rawInt _)) = true then _ else _) Q E s
       rw [if_neg (by intro h; rw [hn, Bool.false_and] at h; cases h)]
       exact wpAny_pure hQ))
def Itl (K : PySem.W.Frag) (a : Addr) : It :=
 ⟨fun i H => ∃ xs x, SqL K H a xs /\ xs[i]? = some x, fun i H x H' => H' = H /\ ∀ xs, SqL K H a xs -> xs[i]? = some x, fun i H => ∃ xs, SqL K H a xs /\ xs.length <= i⟩
def Itt (K : PySem.W.Frag) (a : Addr) : It :=
 ⟨fun i H => ∃ xs x, SqT K H a xs /\ xs[i]? = some x, fun i H x H' => H' = H /\ ∀ xs, SqT K H a xs -> xs[i]? = some x, fun i H => ∃ xs, SqT K H a xs /\ xs.length <= i⟩
def Itr (lo : Int) (n : Nat) : It := ⟨fun i _ => i < n, fun i H x H' => H' = H /\ x = .int (lo + i), fun i _ => n <= i⟩
theorem qgn {P : Program} {w : World} {K : PySem.W.Frag} {tg : Expr} (a it : Addr) : qjz P w K tg (Itl K a) [it] it (fun i h => h.IsListIter it a i) where
 mem := by simp
 obj := fun i h st b hb => by
  have e : b = it := by simpa using hb
  subst e
  obtain ⟨o, e, c, d⟩ := st
  exact ⟨o, e, fun v z => by rw [d] at z; cases z⟩
 keep := fun i h h' st k => st.at fun o e => k it (by simp) o e
 item := by
  intro X hP hw hK hc i pins s Z H E I hf st hg
  subst hP hw hK
  obtain ⟨xs, x, hq, hx⟩ := hg
  obtain ⟨its, rv, p, hz⟩ := I.list hq
  obtain ⟨u, hu, ru⟩ := rv.get hx
  obtain ⟨f0, f1, f2, f3, f4, f5⟩ := hf it (by simp)
  refine wpAny_pyNext_list_item st p.isList (x := u) (by simpa using hu) fun h' st' sb => ?_
  have I1 : Inv X pins Z H { s with heap := h' } := I.turned (t' := s.toks) (fun b o hb e => (sb.2 b hb).trans e) f0 f1 f3 f4 f5
  obtain ⟨o, e, c, d⟩ := id st'
  exact ⟨u, rfl, qik (s := { s with heap := h' }) e c d (by decide) ⟨x, H, I1, ru, ⟨rfl, fun ys hy => by rw [I.list_inj hy hq]; exact hx⟩, st', fun b hb => (hf b hb).1⟩⟩
 done := by
  intro X hP hw hK hc i pins s Z H E I hf st hg
  subst hP hw hK
  obtain ⟨xs, hq, hx⟩ := hg
  obtain ⟨its, rv, p, hz⟩ := I.list hq
  obtain ⟨f0, f1, f2, f3, f4, f5⟩ := hf it (by simp)
  have hl := rv.length
  exact wpAny_pyNext_list_end (I.ok.hd hc) st p.isList (by simp; omega) fun h' eb => ⟨rfl, I.turned (t' := s.toks) (fun b o hb e => eb b o hb e) f0 f1 f3 f4 f5⟩
 self := fun _ _ _ _ _ st h => wpAny_pyIter_listiter st h
theorem qfC {P : Program} {w : World} {K : PySem.W.Frag} {tg : Expr} (a it : Addr) : qjz P w K tg (Itt K a) [it] it (fun i h => h.IsTupleIter it a i) where
 mem := by simp
 obj := fun i h st b hb => by
  have e : b = it := by simpa using hb
  subst e
  obtain ⟨o, e, c, d⟩ := st
  exact ⟨o, e, fun v z => by rw [d] at z; cases z⟩
 keep := fun i h h' st k => st.at fun o e => k it (by simp) o e
 item := by
  intro X hP hw hK hc i pins s Z H E I hf st hg
  subst hP hw hK
  obtain ⟨xs, x, hq, hx⟩ := hg
  obtain ⟨its, rv, p, hz⟩ := I.tuple hq
  obtain ⟨u, hu, ru⟩ := rv.get hx
  obtain ⟨f0, f1, f2, f3, f4, f5⟩ := hf it (by simp)
  refine wpAny_pyNext_tuple_item st (show s.heap.IsTuple a its.toArray from p) (x := u) (by simpa using hu) fun h' st' sb => ?_
  have I1 : Inv X pins Z H { s with heap := h' } := I.turned (t' := s.toks) (fun b o hb e => (sb.2 b hb).trans e) f0 f1 f3 f4 f5
  obtain ⟨o, e, c, d⟩ := id st'
  exact ⟨u, rfl, qik (s := { s with heap := h' }) e c d (by decide) ⟨x, H, I1, ru, ⟨rfl, fun ys hy => by rw [I.tuple_inj hy hq]; exact hx⟩, st', fun b hb => (hf b hb).1⟩⟩
 done := by
  intro X hP hw hK hc i pins s Z H E I hf st hg
  subst hP hw hK
  obtain ⟨xs, hq, hx⟩ := hg
  obtain ⟨its, rv, p, hz⟩ := I.tuple hq
  obtain ⟨f0, f1, f2, f3, f4, f5⟩ := hf it (by simp)
  have hl := rv.length
  exact wpAny_pyNext_tuple_end (I.ok.hd hc) st (show s.heap.IsTuple a its.toArray from p) (by simp; omega) fun h' eb => ⟨rfl, I.turned (t' := s.toks) (fun b o hb e => eb b o hb e) f0 f1 f3 f4 f5⟩
 self := fun _ _ _ _ _ st h => wpAny_pyIter_tupleiter st h
theorem qfD {P : Program} {w : World} {K : PySem.W.Frag} {tg : Expr} (it : Addr) (lo : Int) (n : Nat) : qjz P w K tg (Itr lo n) [it] it (fun i h => IsRangeIter h it (lo + (i : Nat) * 1) ((n : Int) - (i : Nat)) 1) where
 mem := by simp
 obj := fun i h st b hb => by
  have e : b = it := by simpa using hb
  subst e
  exact ⟨_, st, fun v z => by
   have z' : Data.fields _ = Data.cell v := z
   cases z'⟩
 keep := fun i h h' st k => k it (by simp) _ st
 item := by
  intro X hP hw hK hc i pins s Z H E I hf st hg
  subst hP hw hK
  obtain ⟨f0, f1, f2, f3, f4, f5⟩ := hf it (by simp)
  have W := Walks.range (prog := X.prog) (w := X.w) (I.ok.hd hc) it lo 1 n
  refine W.item i s _ _ hg st fun v h' tk hv st' kk => ?_
  obtain ⟨t, rfl⟩ := hv
  have I1 : Inv X pins Z H { s with heap := h', toks := tk } := I.turned (fun b o hb e => kk b o (by simpa using hb) e) f0 f1 f3 f4 f5
  refine ⟨_, rfl, qik (s := { s with heap := h', toks := tk }) (n := "range_iterator") st' rfl rfl (by decide) ⟨.int (lo + i), H, I1, ⟨t, ?_⟩, ⟨rfl, rfl⟩, st', fun b hb => (hf b hb).1⟩⟩
  rw [Int.mul_one]
 done := by
  intro X hP hw hK hc i pins s Z H E I hf st hg
  subst hP hw hK
  obtain ⟨f0, f1, f2, f3, f4, f5⟩ := hf it (by simp)
  exact wpAny_pyNext_range_end (I.ok.hd hc) st (by have : n <= i := hg; omega) fun h' eb => ⟨rfl, I.turned (t' := s.toks) (fun b o hb e => eb b o hb e) f0 f1 f3 f4 f5⟩
 self := fun _ _ _ _ _ st h => wpAny_pyIter_rangeiter st h
end L2
namespace L2
open PySem PySem.Spec PyProof.Rows
section
variable {X : Cx} {tg : Expr}
theorem qeF {pins : List (Addr × Obj)} {Z : St} {H : Hp} {s : Shared} {R : It -> Hp -> Prop} {E : Value -> Shared -> Prop} {lo hi : Int} {t u v : Tok} {tk : Nat} (I : Inv X pins Z H s) (h1 : -(2 ^ 62) <= lo) (h2 : lo < 2 ^ 62) (h3 : -(2 ^ 62) <= hi) (h4 : hi < 2 ^ 62)
  (q : R (Itr lo (hi - lo).toNat) H) : wpAny (model X.prog X.w) X.A (pyIter (.ref s.heap.objs.size)) (PIE X pins Z tg R) E { s with heap := s.heap.push { cls := .type "range", data := .fields #[.int lo t, .int hi u, .int 1 v] }, toks := tk } := by
 refine wpAny_pyIter_range (IsRange.new ..) (small_one h1 h2 h3 h4) ?_
 have I1 : Inv X pins Z H { s with heap := s.heap.push { cls := .type "range", data := .fields #[.int lo t, .int hi u, .int 1 v] }, toks := tk } := I.kept fun b o e => Heap.get?_push_of_some _ e
 refine ⟨(s.heap.push { cls := .type "range", data := .fields #[.int lo t, .int hi u, .int 1 v] }).objs.size, [(s.heap.push { cls := .type "range", data := .fields #[.int lo t, .int hi u, .int 1 v] }).objs.size], _, _, H, rfl,
  I1.kept (t' := tk) fun b o e => Heap.get?_push_of_some _ e, qfD _ lo (hi - lo).toNat, ?_, fun b hb => ?_, q⟩
 ·have e1 : lo + ((0 : Nat) : Int) * 1 = lo := by simp
  have e2 : (((hi - lo).toNat : Nat) : Int) - ((0 : Nat) : Int) = Builtin.Range.rangeSize lo hi 1 := by rw [rangeSize_one]; split <;> omega
  show IsRangeIter _ _ (lo + ((0 : Nat) : Int) * 1) ((((hi - lo).toNat : Nat) : Int) - ((0 : Nat) : Int)) 1
  rw [e1, e2]
  exact Heap.get?_push_size _ rfl
 ·have e : b = (s.heap.push { cls := .type "range", data := .fields #[.int lo t, .int hi u, .int 1 v] }).objs.size := by simpa using hb
  subst e
  exact I1.fpOk (Nat.le_refl _) (I1.hok.fresh (Nat.le_refl _))
def qoa (ta : TA) : TI := fun Z H R => ta Z H fun vs H1 => ∃ j : Int, vs = [.int j] /\ -(2 ^ 62) <= j /\ j < 2 ^ 62 /\ R (Itr 0 j.toNat) H1
def qob (ta : TA) : TI := fun Z H R => ta Z H fun vs H1 => ∃ i j : Int, vs = [.int i, .int j] /\ (-(2 ^ 62) <= i /\ i < 2 ^ 62 /\ -(2 ^ 62) <= j /\ j < 2 ^ 62) /\ R (Itr i (j - i).toNat) H1
theorem qgo {a : Expr} {ta : TA} {p pos : Pos} (hg : Gl X "range") (hm : X.mg "range" = none) (ha : PA X [a] ta) (hs : starEach [a] X.env = [(false, eval a X.env)] := by rfl) : PI X tg (.Call (.Name "range" p) [a] [] pos) (qoa ta) := by
 intro pins s Z H R I h
 refine Call_ (wm I hg hm boot_range (PyProof.Rows.callWith_type1 (thn (ha pos pins s Z H _ I h) fun us s1 ⟨vs, H1, I1, r1, q1⟩ => ?_) hs rfl))
 obtain ⟨j, e, q1, q2, q⟩ := q1
 subst e
 cases r1 with
 | cons r rr =>
  cases rr
  obtain ⟨t, rfl⟩ := r
  exact call_range_1 (qeF I1 (by omega) (by omega) q1 q2 (by simpa using q))
theorem qgp {a b : Expr} {ta : TA} {p pos : Pos} (hg : Gl X "range") (hm : X.mg "range" = none) (ha : PA X [a, b] ta) (hs : starEach [a, b] X.env = [(false, eval a X.env), (false, eval b X.env)] := by rfl) (hs2 : starEach [b] X.env = [(false, eval b X.env)] := by rfl) :
  PI X tg (.Call (.Name "range" p) [a, b] [] pos) (qob ta) := by
 intro pins s Z H R I h
 refine Call_ (wm I hg hm boot_range (PyProof.Rows.callWith_type1 (thn (ha pos pins s Z H _ I h) fun us s1 ⟨vs, H1, I1, r1, q1⟩ => ?_) (by rw [hs, hs2]) (by rw [hs2]; rfl)))
 obtain ⟨i, j, e, ⟨q1, q2, q3, q4⟩, q⟩ := q1
 subst e
 cases r1 with
 | cons r rr =>
  cases rr with
  | cons r' rr =>
   cases rr
   obtain ⟨t, rfl⟩ := r
   obtain ⟨t', rfl⟩ := r'
   exact call_range_2 (qeF I1 q1 q2 q3 q4 q)
def qpp (wi : TI) (g : TG) (tb : TS) : TS := fun D Z H => wi Z H fun J H1 => ∃ W : Nat -> Nat -> St -> Hp -> Prop, (∃ m, W 0 m Z H1) /\ ∀ i m Z H, W i m Z H ->
 (J.stop i H /\ D.nx Z H) \/ (J.go i H /\ ∃ N : St -> Hp -> Prop, (∀ Z' H', N Z' H' -> ∃ m', m' < m /\ W (i + 1) m' Z' H') /\ ∀ x H', J.yld i H x H' -> g x Z H' fun Z2 H2 => tb { D with nx := N, ct := N, bk := D.nx } Z2 H2)
def qbV (fp : List Addr) (h : Heap) : List (Addr × Obj) := fp.filterMap fun b => (h.get? b).map fun o => (b, o)
theorem yN {fp : List Addr} {h : Heap} {b : Addr} {o : Obj} (hb : b ∈ fp) (e : h.get? b = some o) : (b, o) ∈ qbV fp h := List.mem_filterMap.mpr ⟨b, hb, by rw [e]; rfl⟩
theorem qgq {fp : List Addr} {h : Heap} {p : Addr × Obj} (hp : p ∈ qbV fp h) : p.1 ∈ fp /\ h.get? p.1 = some p.2 := by
 obtain ⟨b, hb, e⟩ := List.mem_filterMap.mp hp
 cases q : h.get? b with
 | none => rw [q] at e; cases e
 | some o =>
  rw [q] at e
  have e' : (b, o) = p := Option.some.inj e
  subst e'
  exact ⟨hb, q⟩
theorem Inv.pinned {pins : List (Addr × Obj)} {Z : St} {H : Hp} {s : Shared} {fp : List Addr} (I : Inv X pins Z H s) (hf : ∀ b ∈ fp, qeE X pins H b) (ho : ∀ b ∈ fp, ∃ o, s.heap.get? b = some o /\ ∀ v, o.data ≠ .cell v) : Inv X (pins ++ qbV fp s.heap) Z H s :=
 I.pins_of fun p hp => (mA_.mp hp).elim (fun z => I.pin p (mr_ _ z)) fun z => by
  obtain ⟨hb, e⟩ := qgq z
  obtain ⟨f0, f1, f2, _⟩ := hf p.1 hb
  obtain ⟨o, e', d⟩ := ho p.1 hb
  rw [e] at e'; cases e'
  exact ⟨e, f0, f1, f2, d⟩
theorem Inv.unpinned {pins pl : List (Addr × Obj)} {Z : St} {H : Hp} {s : Shared} (I : Inv X (pins ++ pl) Z H s) : Inv X pins Z H s := I.pins_of fun p hp => I.pin p (mr_ _ (List.mem_append_left _ hp))
theorem qmf {iter : Expr} {body : List Stmt} {wi : TI} {g : TG} {tb : TS} {pos : Pos} (hp : PassesOwn (model X.prog X.w) X.A X.env X.xe) (hc : X.calm = true) (hi : PI X tg iter wi) (hg : PG X tg g) (hb : PSs X body tb)
  (hs : ∀ x, foldedSetIterable iter X.env x = pure x := by intro _; rfl) : PS X (.For tg iter body [] pos) (qpp wi g tb) := by
 intro pins s Z H D I h
 refine wpAny_For (thn (hi pins s Z H _ I h) fun v s1 h1 => thn h1 fun itv s2 h2 => ?_) hs
 obtain ⟨it, fp, tn, J, H2, e, I2, T, st2, f2, W, ⟨m0, w0⟩, turn⟩ := h2
 subst e
 have stat : ∀ {H' : Hp}, (∀ b ∈ fp, H' b = none) -> ∀ b ∈ fp, qeE X pins H' b := fun hn b hb => ⟨hn b hb, (f2 b hb).2⟩
 refine codeAny_forLoop_any (fun n s' => ∃ i Z' H', Inv X pins Z' H' s' /\ tn i s'.heap /\ (∀ b ∈ fp, H' b = none) /\ W i n Z' H') ?_ m0 ⟨0, Z, H2, I2, st2, fun b hb => (f2 b hb).1, w0⟩
 rintro n s3 ⟨i, Z3, H3, I3, st3, fr3, w3⟩
 rcases turn i n Z3 H3 w3 with ⟨stop, qn⟩ | ⟨go, N, hN, step⟩
 ·refine wpAny_passesOwn hp (thn (T.done X rfl rfl rfl hc i pins s3 Z3 H3 X.xe I3 (stat fr3) st3 stop) fun r s4 ⟨hr, I4⟩ => ?_)
  subst hr
  exact wpAny_execs_nil ⟨Z3, H3, I4, qn⟩
 ·refine wpAny_passesOwn hp (thn (T.item X rfl rfl rfl hc i pins s3 Z3 H3 X.xe I3 (stat fr3) st3 go) fun r s4 ⟨u, hr, h4⟩ => ?_)
  subst hr
  refine wpAny_passesOwn hp (thn h4 fun _ s5 ⟨x, H5, I5, r5, y5, st5, fr5⟩ => ?_)
  have I5' := I5.pinned (stat fr5) (T.obj _ _ st5)
  refine wpAny_passesOwn hp (thn (hg _ s5 Z3 H5 x u _ I5' r5 (step x H5 y5)) fun _ s6 ⟨Z6, H6, I6, q6⟩ => ?_)
  refine wpAny_passesOwn hp (thn (hb _ s6 Z6 H6 _ I6 q6) fun f s7 q7 => ?_)
  have again : ∀ {Z7 : St} {H7 : Hp}, Inv X (pins ++ qbV fp s5.heap) Z7 H7 s7 -> N Z7 H7 -> ∃ m, m < n /\ ∃ i Z' H', Inv X pins Z' H' s7 /\ tn i s7.heap /\ (∀ b ∈ fp, H' b = none) /\ W i m Z' H' := fun {Z7 H7} I7 n7 => by
   obtain ⟨m', hm, w7⟩ := hN Z7 H7 n7
   refine ⟨m', hm, i + 1, Z7, H7, I7.unpinned, T.keep _ _ _ st5 fun b hb o e => (I7.pin (b, o) (mr_ _ (mr_ _ (yN hb e)))).1, fun b hb => ?_, w7⟩
   obtain ⟨o, e, d⟩ := T.obj _ _ st5 b hb
   exact (I7.pin (b, o) (mr_ _ (mr_ _ (yN hb e)))).2.1
  cases f with
  | next => obtain ⟨Z7, H7, I7, n7⟩ := q7; exact again I7 n7
  | cont => obtain ⟨Z7, H7, I7, n7⟩ := q7; exact again I7 n7
  | brk => obtain ⟨Z7, H7, I7, q7⟩ := q7; exact ⟨Z7, H7, I7.unpinned, q7⟩
  | ret v => obtain ⟨x7, Z7, H7, I7, r7, q7⟩ := q7; exact ⟨x7, Z7, H7, I7.unpinned, r7, q7⟩
end
end L2
namespace L2
open PySem PySem.Spec PyProof.Rows
abbrev R2 := V -> V -> Hp -> VK -> Prop
def OpR (X : Cx) (f : Value -> Value -> Sem Value) (r : R2) : Prop :=
 ∀ (pins : List (Addr × Obj)) (s : Shared) (Z : St) (H : Hp) (x y : V) (v u : Value) (Q : VK), Inv X pins Z H s -> yx x v -> yx y u -> r x y H Q ->
  wpAny (model X.prog X.w) X.A (f v u) (EP X pins Z Q) X.xe s
def UnR (X : Cx) (f : Value -> Sem Value) (r : V -> Hp -> VK -> Prop) : Prop :=
 ∀ (pins : List (Addr × Obj)) (s : Shared) (Z : St) (H : Hp) (x : V) (v : Value) (Q : VK), Inv X pins Z H s -> yx x v -> r x H Q ->
  wpAny (model X.prog X.w) X.A (f v) (EP X pins Z Q) X.xe s
def yK (X : Cx) (f : Value) (r : List V -> Hp -> VK -> Prop) : Prop :=
 ∀ (pins : List (Addr × Obj)) (s : Shared) (Z : St) (H : Hp) (xs : List V) (us : List Value) (Q : VK), Inv X pins Z H s -> zD xs us -> r xs H Q ->
  wpAny (model X.prog X.w) X.A (call f us) (EP X pins Z Q) X.xe s
def tOp (r : R2) (ta tb : TE) : TE := fun Z H Q => ta Z H fun x H1 => tb Z H1 fun y H2 => r x y H2 Q
def tUn (r : V -> Hp -> VK -> Prop) (ta : TE) : TE := fun Z H Q => ta Z H fun x H1 => r x H1 Q
def rI (C : Int -> Int -> Prop) (g : Int -> Int -> V) : R2 := fun x y H Q => ∃ i j, x = .int i /\ y = .int j /\ C i j /\ Q (g i j) H
def rI0 (g : Int -> Int -> V) : R2 := fun x y H Q => ∃ i j, x = .int i /\ y = .int j /\ Q (g i j) H
def rU (g : Int -> V) : V -> Hp -> VK -> Prop := fun x H Q => ∃ i, x = .int i /\ Q (g i) H
section
variable {X : Cx} {a b c : Expr} {ta tb tc : TE} {pos : Pos}
theorem qoc (ha : PE X a ta) (hb : PE X b tb) {pins : List (Addr × Obj)} {s : Shared} {Z : St} {H : Hp} {R : V -> V -> Hp -> Prop} (I : Inv X pins Z H s)
  (h : ta Z H fun x H1 => tb Z H1 fun y H2 => R x y H2) {Q : Value -> Shared -> Prop} {f : Value -> Value -> Sem Value}
  (hf : ∀ v u s2 x y H2, Inv X pins Z H2 s2 -> yx x v -> yx y u -> R x y H2 -> wpAny (model X.prog X.w) X.A (f v u) Q X.xe s2) :
  wpAny (model X.prog X.w) X.A (eval a X.env) (fun v s₁ => wpAny (model X.prog X.w) X.A (eval b X.env) (fun u s₂ => wpAny (model X.prog X.w) X.A (f v u) Q X.xe s₂) X.xe s₁) X.xe s := by
 refine thn (ha pins s Z H _ I h) fun v s1 ⟨x, H1, I1, r1, q1⟩ => ?_
 refine thn (hb pins s1 Z H1 _ I1 q1) fun u s2 ⟨y, H2, I2, r2, q2⟩ => ?_
 exact hf v u s2 x y H2 I2 r1 r2 q2
theorem qmg {op : Operator} {r : R2} (ho : OpR X (binaryOp op) r) (ha : PE X a ta) (hb : PE X b tb) : PE X (.BinOp a op b pos) (tOp r ta tb) := by
 intro pins s Z H Q I h
 exact wpAny_BinOp (qoc ha hb I h fun v u s2 x y H2 I2 rx ry q => ho pins s2 Z H2 x y v u Q I2 rx ry q)
theorem qod {op : UnaryOp} {r : V -> Hp -> VK -> Prop} (ho : UnR X (unaryOp op) r) (ha : PE X a ta) : PE X (.UnaryOp op a pos) (tUn r ta) := by
 intro pins s Z H Q I h
 exact UnaryOp_ (thn (ha pins s Z H _ I h) fun v s1 ⟨x, H1, I1, r1, q1⟩ => ho pins s1 Z H1 x v Q I1 r1 q1)
theorem opI {f : Value -> Value -> Sem Value} {C : Int -> Int -> Prop} {g : Int -> Int -> Int}
  (rule : ∀ (i j : Int) (t u : Tok) (s : Shared) (Q : Value -> Shared -> Prop) (E : Value -> Shared -> Prop), C i j -> Q (.int (g i j) s.toks) { s with toks := s.toks + 1 } -> wpAny (model X.prog X.w) X.A (f (.int i t) (.int j u)) Q E s) :
  OpR X f (rI C fun i j => .int (g i j)) := by
 intro pins s Z H x y v u Q I rx ry h
 obtain ⟨i, j, rfl, rfl, hc, q⟩ := h
 obtain ⟨t, rfl⟩ := rx
 obtain ⟨t', rfl⟩ := ry
 exact rule i j t t' s _ _ hc ⟨.int (g i j), H, I.tok _, ⟨_, rfl⟩, q⟩
theorem qoR {f : Value -> Value -> Sem Value} {g : Int -> Int -> Int}
  (rule : ∀ (i j : Int) (t u : Tok) (s : Shared) (Q : Value -> Shared -> Prop) (E : Value -> Shared -> Prop), Q (.int (g i j) s.toks) { s with toks := s.toks + 1 } -> wpAny (model X.prog X.w) X.A (f (.int i t) (.int j u)) Q E s) :
  OpR X f (rI0 fun i j => .int (g i j)) := by
 intro pins s Z H x y v u Q I rx ry h
 obtain ⟨i, j, rfl, rfl, q⟩ := h
 obtain ⟨t, rfl⟩ := rx
 obtain ⟨t', rfl⟩ := ry
 exact rule i j t t' s _ _ ⟨.int (g i j), H, I.tok _, ⟨_, rfl⟩, q⟩
theorem qnQ {f : Value -> Value -> Sem Value} {g : Int -> Int -> Bool}
  (rule : ∀ (i j : Int) (t u : Tok) (s : Shared) (Q : Value -> Shared -> Prop) (E : Value -> Shared -> Prop), Q (.bool (g i j)) s -> wpAny (model X.prog X.w) X.A (f (.int i t) (.int j u)) Q E s) :
  OpR X f (rI0 fun i j => .bl (g i j)) := by
 intro pins s Z H x y v u Q I rx ry h
 obtain ⟨i, j, rfl, rfl, q⟩ := h
 obtain ⟨t, rfl⟩ := rx
 obtain ⟨t', rfl⟩ := ry
 exact rule i j t t' s _ _ ⟨.bl (g i j), H, I, rfl, q⟩
def qmh (i j : Int) : Prop := 0 < j /\ j < 1606938044258990275541962092341162602522202993782792835301376
theorem qoS {i j : Int} (h1 : 0 < j) (h2 : j < 1606938044258990275541962092341162602522202993782792835301376) : Builtin.divisionGoesByPylong i j = false := by
 refine PyProof.noPylong_of_log2 ?_
 have h0 : j.natAbs ≠ 0 := by omega
 have h3 : j.natAbs < 2 ^ 200 := by
   have : (2 : Nat) ^ 200 = 1606938044258990275541962092341162602522202993782792835301376 := by decide +kernel
   omega
 have := (Nat.log2_lt h0).mpr h3
 omega
def qoT (i j : Int) : Prop := 0 <= j /\ j <= 1000000 /\ i.natAbs < 2 ^ 64
def qmi (i j : Int) : Prop := (-(2 ^ 64) < i /\ i < 2 ^ 64) \/ (-(2 ^ 64) < j /\ j < 2 ^ 64)
theorem qmi.ok {i j : Int} (h : qmi i j) : IntMulOk i j := by
 rcases h with ⟨h1, h2⟩ | ⟨h1, h2⟩
 ·exact .of_left (intBits_le_64 h1 h2)
 ·exact .of_right (intBits_le_64 h1 h2)
theorem qmj : OpR X (binaryOp .Add) (rI0 fun i j => .int (i + j)) := qoR fun _ _ _ _ _ _ _ q => add_int q
theorem yI : OpR X (binaryOp .Sub) (rI0 fun i j => .int (i - j)) := qoR fun _ _ _ _ _ _ _ q => sub_int q
theorem qmk : OpR X (binaryOp .Mult) (rI qmi fun i j => .int (i * j)) := opI fun _ _ _ _ _ _ _ hc q => mul_int q hc.ok
theorem qaZ : OpR X (binaryOp .FloorDiv) (rI qmh fun i j => .int (i / j)) := opI fun i j _ _ _ _ _ hc q => by
 have h1 : (0 : Int) < j := hc.1
 have h2 : j < 1606938044258990275541962092341162602522202993782792835301376 := hc.2
 exact floordiv_int (by omega) (by rw [Int.fdiv_eq_ediv_of_nonneg i (by omega)]; exact q) (.inl (qoS h1 h2))
theorem wU : OpR X (binaryOp .Mod) (rI (fun _ j => 0 < j) fun i j => .int (i % j)) := opI fun i j _ _ _ _ _ hc q => by
 have h1 : (0 : Int) < j := hc
 exact mod_int' (by omega) (by rw [Int.fmod_eq_emod_of_nonneg i (by omega)]; exact q)
theorem qjA : OpR X (binaryOp .Pow) (rI qoT fun i j => .int (i ^ j.toNat)) := opI fun _ _ _ _ _ _ _ hc q => pow_int_small hc.1 hc.2.1 hc.2.2 q
theorem unI {f : Value -> Sem Value} {g : Int -> Int}
  (rule : ∀ (i : Int) (t : Tok) (s : Shared) (Q : Value -> Shared -> Prop) (E : Value -> Shared -> Prop), Q (.int (g i) s.toks) { s with toks := s.toks + 1 } -> wpAny (model X.prog X.w) X.A (f (.int i t)) Q E s) :
  UnR X f (rU fun i => .int (g i)) := by
 intro pins s Z H x v Q I rx h
 obtain ⟨i, rfl, q⟩ := h
 obtain ⟨t, rfl⟩ := rx
 exact rule i t s _ _ ⟨.int (g i), H, I.tok _, ⟨_, rfl⟩, q⟩
theorem qml : UnR X (unaryOp .USub) (rU fun i => .int (-i)) := unI fun _ _ _ _ _ q => neg_int q
end
def qoe : V -> V -> Bool
 | .non, .non => true | .non, .int _ => true | .int _, .non => true | .non, .bl _ => true | .bl _, .non => true | .non, .str _ => true | .str _, .non => true
 | .int _, .int _ => true | .bl _, .bl _ => true | .str _, .str _ => true | .byt _, .byt _ => true
 | .int _, .str _ => true | .str _, .int _ => true | .bl _, .str _ => true | .str _, .bl _ => true
 | _, _ => false
def rEq : R2 := fun x y H Q => qoe x y = true /\ Q (.bl (decide (x = y))) H
def rNe : R2 := fun x y H Q => qoe x y = true /\ Q (.bl (!decide (x = y))) H
theorem qgr {i j : Int} : decide (V.int i = V.int j) = (i == j) := by
 rw [Bool.eq_iff_iff]
 simp
theorem qjB {i j : Bool} : decide (V.bl i = V.bl j) = (i == j) := by
 rw [Bool.eq_iff_iff]
 simp
theorem qgs {i j : Str} : decide (V.str i = V.str j) = (i == j) := by
 rw [Bool.eq_iff_iff]
 simp
theorem qgt {i j : Array UInt8} : decide (V.byt i = V.byt j) = (i.toList == j.toList) := by
 rw [Bool.eq_iff_iff]
 cases i
 cases j
 simp
section
variable {X : Cx} {a b c : Expr} {ta tb tc : TE} {pos : Pos}
theorem zq {pins : List (Addr × Obj)} {Z : St} {H : Hp} {s : Shared} {Q : VK} {k k' : Bool} (I : Inv X pins Z H s) (q : Q (.bl k) H) (e : k = k') : EP X pins Z Q (.bool k') s := by
 subst e
 exact ⟨.bl k, H, I, rfl, q⟩
theorem qof : OpR X (compareOp .Eq) rEq := by
 intro pins s Z H x y v u Q I rx ry h
 obtain ⟨hs, q⟩ := h
 cases x with
 | non =>
  cases rx
  cases y with
  | non => cases ry; exact PySem.EqNone.eq_none_none (zq I q (by simp))
  | bl j => cases ry; exact PySem.EqNone.eq_none_bool (zq I q (by simp))
  | int j => obtain ⟨t', rfl⟩ := ry; exact PySem.EqNone.eq_none_int (zq I q (by simp))
  | str j => obtain ⟨t', rfl⟩ := ry; exact PySem.EqNone.eq_none_str (zq I q (by simp))
  | _ => exact absurd (show false = true from hs) Bool.false_ne_true
 | bl i =>
  cases rx
  cases y with
  | non => cases ry; exact PySem.EqNone.eq_bool_none (zq I q (by simp))
  | bl j => cases ry; exact eq_bool (zq I q qjB)
  | str j => obtain ⟨t', rfl⟩ := ry; exact PySem.EqMixed.eq_bool_str (zq I q (by simp))
  | _ => exact absurd (show false = true from hs) Bool.false_ne_true
 | int i =>
  obtain ⟨t, rfl⟩ := rx
  cases y with
  | non => cases ry; exact PySem.EqNone.eq_int_none (zq I q (by simp))
  | int j => obtain ⟨t', rfl⟩ := ry; exact eq_int (zq I q qgr)
  | str j => obtain ⟨t', rfl⟩ := ry; exact PySem.EqMixed.eq_int_str (zq I q (by simp))
  | _ => exact absurd (show false = true from hs) Bool.false_ne_true
 | str i =>
  obtain ⟨t, rfl⟩ := rx
  cases y with
  | non => cases ry; exact PySem.EqNone.eq_str_none (zq I q (by simp))
  | bl j => cases ry; exact PySem.EqMixed.eq_str_bool (zq I q (by simp))
  | int j => obtain ⟨t', rfl⟩ := ry; exact PySem.EqMixed.eq_str_int (zq I q (by simp))
  | str j => obtain ⟨t', rfl⟩ := ry; exact eq_str (zq I q qgs)
  | _ => exact absurd (show false = true from hs) Bool.false_ne_true
 | byt i =>
  obtain ⟨t, rfl⟩ := rx
  cases y with
  | byt j => obtain ⟨t', rfl⟩ := ry; exact PySem.W.eq_bytes (zq I q qgt)
  | _ => exact absurd (show false = true from hs) Bool.false_ne_true
 | _ => cases y <;> exact absurd (show false = true from hs) Bool.false_ne_true
theorem qog : OpR X (compareOp .NotEq) rNe := by
 intro pins s Z H x y v u Q I rx ry h
 obtain ⟨hs, q⟩ := h
 cases x with
 | non =>
  cases rx
  cases y with
  | non => cases ry; exact PySem.EqNone.ne_none_none (zq I q (by simp))
  | bl j => cases ry; exact PySem.EqNone.ne_none_bool (zq I q (by simp))
  | int j => obtain ⟨t', rfl⟩ := ry; exact PySem.EqNone.ne_none_int (zq I q (by simp))
  | str j => obtain ⟨t', rfl⟩ := ry; exact PySem.EqNone.ne_none_str (zq I q (by simp))
  | _ => exact absurd (show false = true from hs) Bool.false_ne_true
 | bl i =>
  cases rx
  cases y with
  | non => cases ry; exact PySem.EqNone.ne_bool_none (zq I q (by simp))
  | bl j => cases ry; exact ne_bool (zq I q (congrArg not qjB))
  | str j => obtain ⟨t', rfl⟩ := ry; exact PySem.EqMixed.ne_bool_str (zq I q (by simp))
  | _ => exact absurd (show false = true from hs) Bool.false_ne_true
 | int i =>
  obtain ⟨t, rfl⟩ := rx
  cases y with
  | non => cases ry; exact PySem.EqNone.ne_int_none (zq I q (by simp))
  | int j => obtain ⟨t', rfl⟩ := ry; exact ne_int (zq I q (congrArg not qgr))
  | str j => obtain ⟨t', rfl⟩ := ry; exact PySem.EqMixed.ne_int_str (zq I q (by simp))
  | _ => exact absurd (show false = true from hs) Bool.false_ne_true
 | str i =>
  obtain ⟨t, rfl⟩ := rx
  cases y with
  | non => cases ry; exact PySem.EqNone.ne_str_none (zq I q (by simp))
  | bl j => cases ry; exact PySem.EqMixed.ne_str_bool (zq I q (by simp))
  | int j => obtain ⟨t', rfl⟩ := ry; exact PySem.EqMixed.ne_str_int (zq I q (by simp))
  | str j => obtain ⟨t', rfl⟩ := ry; exact ne_str (zq I q (congrArg not qgs))
  | _ => exact absurd (show false = true from hs) Bool.false_ne_true
 | byt i =>
  obtain ⟨t, rfl⟩ := rx
  cases y with
  | byt j => obtain ⟨t', rfl⟩ := ry; exact PySem.W.ne_bytes (zq I q (congrArg not qgt))
  | _ => exact absurd (show false = true from hs) Bool.false_ne_true
 | _ => cases y <;> exact absurd (show false = true from hs) Bool.false_ne_true
theorem qfE : OpR X (compareOp .Lt) (rI0 fun i j => .bl (decide (i < j))) := qnQ fun _ _ _ _ _ _ _ q => lt_int q
theorem qil : OpR X (compareOp .LtE) (rI0 fun i j => .bl (decide (i <= j))) := qnQ fun _ _ _ _ _ _ _ q => le_int q
theorem qdY : OpR X (compareOp .Gt) (rI0 fun i j => .bl (decide (j < i))) := qnQ fun _ _ _ _ _ _ _ q => gt_int q
theorem qku : OpR X (compareOp .GtE) (rI0 fun i j => .bl (decide (j <= i))) := qnQ fun _ _ _ _ _ _ _ q => ge_int q
theorem qeG : OpR X (compareOp .Is) (fun x y H Q => y = .non /\ Q (.bl (decide (x = .non))) H) := by
 intro pins s Z H x y v u Q I rx ry h
 obtain ⟨rfl, q⟩ := h
 cases ry
 refine is_none_gen (zq I q ?_)
 cases x <;> first
  | (cases rx; rfl)
  | (obtain ⟨t, rfl⟩ := rx; rfl)
theorem OpR.or {f : Value -> Value -> Sem Value} {r r' : R2} (h : OpR X f r) (h' : OpR X f r') : OpR X f (fun x y H Q => r x y H Q \/ r' x y H Q) := by
 intro pins s Z H x y v u Q I rx ry q
 rcases q with q | q
 ·exact h pins s Z H x y v u Q I rx ry q
 ·exact h' pins s Z H x y v u Q I rx ry q
theorem qS (b : Expr) {op : CmpOp} (h : op ≠ .In := by decide) (h2 : op ≠ .NotIn := by decide) : behindInMarks op b = false := by
 have e1 : (op == CmpOp.In) = false := by cases op <;> first | rfl | exact absurd rfl h
 have e2 : (op == CmpOp.NotIn) = false := by cases op <;> first | rfl | exact absurd rfl h2
 cases b <;> simp [behindInMarks, e1, e2]
theorem qkv {op : CmpOp} {r : R2} (ho : OpR X (compareOp op) r) (ha : PE X a ta) (hb : PE X b tb) (hm : behindInMarks op b = false) : PE X (.Compare a [op] [b] pos) (tOp r ta tb) := by
 intro pins s Z H Q I h
 exact wpAny_Compare1 (qoc ha hb I h fun v u s2 x y H2 I2 rx ry q => ho pins s2 Z H2 x y v u Q I2 rx ry q) hm
def qoh (t : TE) : TT := fun Z H Q => t Z H fun x H' => ∃ k, x = .bl k /\ Q k H'
theorem qkw {op : CmpOp} {r : R2} (ho : OpR X (compareOp op) r) (ha : PE X a ta) (hb : PE X b tb) (hm : behindInMarks op b = false) : PT X (.Compare a [op] [b] pos) (qoh (tOp r ta tb)) := by
 intro pins s Z H Q I h
 refine wpAny_isTrue_Compare1 (thn (ha pins s Z H _ I h) fun v s1 ⟨x, H1, I1, r1, q1⟩ => thn (hb pins s1 Z H1 _ I1 q1) fun u s2 ⟨y, H2, I2, r2, q2⟩ =>
  thn (ho pins s2 Z H2 x y v u _ I2 r1 r2 q2) fun c s3 ⟨z, H3, I3, r3, k, e, q3⟩ => ?_) hm
 subst e
 cases r3
 exact wpAny_truthy_bool ⟨H3, I3, q3⟩
theorem qa0 : (sizeLine : Nat) < 2 ^ 63 := by rw [sizeLine_eq]; decide
theorem qfF : OpR X (binaryOp .Add) (fun x y H Q => ∃ i j, x = .str i /\ y = .str j /\ i.length + j.length <= sizeLine /\ Q (.str (i ++ j)) H) := by
 intro pins s Z H x y v u Q I rx ry h
 obtain ⟨i, j, rfl, rfl, hz, q⟩ := h
 obtain ⟨t, rfl⟩ := rx
 obtain ⟨t', rfl⟩ := ry
 exact add_str (fun t' tk => ⟨.str (i ++ j), H, I.tok _, ⟨_, rfl⟩, q⟩) hz
theorem qim {x : V} {us : List Value} (r : zD [x] us) : ∃ u, us = [u] /\ yx x u := by
 cases r with
 | cons r1 r2 => cases r2; exact ⟨_, rfl, r1⟩
theorem qkx {x y : V} {us : List Value} (r : zD [x, y] us) : ∃ u w', us = [u, w'] /\ yx x u /\ yx y w' := by
 cases r with
 | cons r1 r2 =>
  cases r2 with
  | cons r3 r4 => cases r4; exact ⟨_, _, rfl, r1, r3⟩
theorem qgu (hc : X.calm = true) : yK X (.builtin "max") (fun xs H Q => ∃ i j, xs = [.int i, .int j] /\ Q (.int (if j > i then j else i)) H) := by
 intro pins s Z H xs us Q I r h
 obtain ⟨i, j, rfl, q⟩ := h
 obtain ⟨u, w', rfl, ⟨t, rfl⟩, ⟨t', rfl⟩⟩ := qkx r
 refine max_two_ints (I.ok.hd hc) fun h' tk k => ⟨_, H, I.kept k, ?_, q⟩
 by_cases hj : j > i
 ·rw [if_pos hj, if_pos hj]; exact ⟨_, rfl⟩
 ·rw [if_neg hj, if_neg hj]; exact ⟨_, rfl⟩
theorem qa1 (hc : X.calm = true) : yK X (.builtin "min") (fun xs H Q => ∃ i j, xs = [.int i, .int j] /\ Q (.int (if j < i then j else i)) H) := by
 intro pins s Z H xs us Q I r h
 obtain ⟨i, j, rfl, q⟩ := h
 obtain ⟨u, w', rfl, ⟨t, rfl⟩, ⟨t', rfl⟩⟩ := qkx r
 refine min_two_ints (I.ok.hd hc) fun h' tk k => ⟨_, H, I.kept k, ?_, q⟩
 by_cases hj : j < i
 ·rw [if_pos hj, if_pos hj]; exact ⟨_, rfl⟩
 ·rw [if_neg hj, if_neg hj]; exact ⟨_, rfl⟩
theorem qdZ : yK X (.builtin "divmod") (fun xs H Q => ∃ i j, xs = [.int i, .int j] /\ qmh i j /\ ∀ p, H p = none -> Q (.ref p) (upd H p (.tup [.int (i / j), .int (i % j)]))) := by
 intro pins s Z H xs us Q I r h
 obtain ⟨i, j, rfl, ⟨h1, h2⟩, q⟩ := h
 obtain ⟨u, w', rfl, ⟨t, rfl⟩, ⟨t', rfl⟩⟩ := qkx r
 refine divmod_int (by omega) ?_ (.inl (qoS h1 h2))
 rw [Int.fdiv_eq_ediv_of_nonneg i (by omega), Int.fmod_eq_emod_of_nonneg i (by omega)]
 have hn : H s.heap.objs.size = none := I.hok.fresh (Nat.le_refl _)
 refine ⟨.ref s.heap.objs.size, _, ?_, rfl, q _ hn⟩
 refine I.laid (fun b o e => Heap.get?_push_of_some _ e) (Nat.le_refl _) ⟨by simp only [lC_, lN_]; rw [sizeLine_eq]; decide, [.int (i / j) s.toks, .int (i % j) (s.toks + 1)], .cons ⟨_, rfl⟩ (.cons ⟨_, rfl⟩ .nil), ?_⟩
 exact ⟨_, Heap.get?_push_size s.heap rfl, rfl, 0, rfl⟩
end
end L2
namespace L2
open PySem PySem.Spec PyProof.Rows
structure qoi (h : Heap) (x dx C : Addr) (mA : Str -> Option Value) : Prop where
 obj : h.get? x = some (PySem.W.instObj C dx)
 ns : h.Ns1 dx mA
 ne : dx ≠ x
theorem qgv {h : Heap} {dx : Addr} {mA : Str -> Option Value} (n : h.Ns1 dx mA) : ∃ od, h.get? dx = some od /\ ∀ name, PySem.W.lookIn name od = some (mA name) := by
 obtain ⟨o, es, ep, ho, hd, hk, _, hm⟩ := n
 refine ⟨o, ho, fun name => ?_⟩
 have e := hm name
 unfold nsFind findBy at e
 rw [<- Array.find?_toList] at e
 unfold PySem.W.lookIn
 rw [hd]
 dsimp only
 split
 ·rename_i y q
  rw [q] at e
  exact congrArg some e
 ·rename_i q
  rw [q] at e
  have a : es.toList.any (·.refKey) = false := by
   rw [List.any_eq_false]
   intro y hy
   obtain ⟨z, t, hkey⟩ := hk y (Array.mem_toList_iff.mp hy)
   simp [DictEntry.refKey, hkey]
  have a' : ¬ es.toList.any (·.refKey) = true := by rw [a]; exact Bool.false_ne_true
  rw [if_neg a']
  exact congrArg some e
theorem qoi.look {h : Heap} {x dx C : Addr} {mA : Str -> Option Value} (I : qoi h x dx C mA) : ∃ od, PySem.W.InstAt h x (PySem.W.instObj C dx) C (some od) /\ ∀ name, PySem.W.lookIn name od = some (mA name) :=
 let ⟨od, ho, hl⟩ := qgv I.ns
 ⟨od, ⟨I.obj, rfl, rfl, ho⟩, hl⟩
section
variable {prog : Program} {w : World} {A : Around} {E : Value -> Shared -> Prop} {s : Shared} {K : PySem.W.Frag} {x dx C f : Addr} {mA : Str -> Option Value} {name : Str} {v : Value}
end
def qpq (f : Str) (v : V) : List (Str × V) -> List (Str × V)
 | [] => [(f, v)]
 | (g, x) :: r => if g = f then (g, v) :: r else (g, x) :: qpq f v r
section
variable {P : Program} {w : World} {H H' : Hp} {h h' : Heap} {a C dx : Addr} {fs fs' : List (Str × V)}
theorem qky (hok : HOk P w H h) (e : H a = some (.ins C dx fs)) : ∃ mA, qoi h a dx C mA /\ (∀ f, qnZ (fs.lookup f) (mA f)) /\ PySem.Within mA (fs.map (·.1)) /\ fs.length <= 1000 /\ H dx = some (.own a) := by
 obtain ⟨d, z, ne, ob, mA, n, r, q⟩ := (show yY P w H h a (.ins C dx fs) from hok a _ e)
 exact ⟨mA, ⟨ob, n, ne⟩, r, q, z, d⟩
end
structure Cls (K : PySem.W.Frag) (C : Addr) : Prop where
 pg : PySem.W.plainGet K C Str.empty = true
 hd : PySem.W.hasDictIn K C = true
 po : PySem.W.plainOver K C = true
 sa : PySem.W.findIn K (.ref C) "__setattr__" = some (some (.builtin "object.__setattr__"))
theorem Cls.get {K : PySem.W.Frag} {C : Addr} (c : Cls K C) (f : Str) : PySem.W.plainGet K C f = true := c.pg
structure Con (K : PySem.W.Frag) (C : Addr) (f : Str) (v : V) (u : Value) : Prop where
 at_ : PySem.W.findIn K (.ref C) f = some (some u)
 rel : yx v u
 get : PySem.W.specialIn K u "__get__" = some none
 cp : PySem.W.copiedNames.contains f = false
structure qpN (K : PySem.W.Frag) (C : Addr) (m : Str) (f : Addr) : Prop where
 at_ : PySem.W.findIn K (.ref C) m = some (some (.ref f))
 fn : PySem.W.isFn K (.ref f) = true
 kp : PySem.W.keepIn K (.ref f) = true
section
variable {X : Cx} {pins : List (Addr × Obj)} {Z : St} {H : Hp} {s : Shared} {a C dx : Addr} {fs : List (Str × V)} {f : Str} {v : V} {A : Around} {E : Value -> Shared -> Prop}
end
section
variable {X : Cx} {o e value : Expr} {f : Str} {pos pos' tpos : Pos} {ta tv : TE}
end
section
variable {X : Cx} {pins : List (Addr × Obj)} {Z : St} {H : Hp} {s : Shared} {A : Around} {E : Value -> Shared -> Prop} {Q : Value -> Shared -> Prop} {c : Value} {b : Bool}
inductive qgj (K : PySem.W.Frag) (H : Hp) : V -> Value -> Prop where
 | non : qgj K H .non (.type "NoneType")
 | bl (x : Bool) : qgj K H (.bl x) (.type "bool")
 | int (i : Int) : qgj K H (.int i) (.type "int")
 | str (x : Str) : qgj K H (.str x) (.type "str")
 | flt (x : UInt64) : qgj K H (.flt x) (.type "float")
 | lst {a : Addr} {xs : List V} (e : H a = some (.lst xs)) : qgj K H (.ref a) (.type "list")
 | frz {a : Addr} {o : Obj} {xs : List V} (e : H a = some (.frz o (.lst xs))) : qgj K H (.ref a) (.type "list")
 | tup {a : Addr} {xs : List V} (e : H a = some (.tup xs)) : qgj K H (.ref a) (.type "tuple")
 | dK {a : Addr} {kvs : List (Key × V)} (e : H a = some (.dK kvs)) : qgj K H (.ref a) (.type "dict")
 | dT {a : Addr} {kvs : List (List Key × V)} (e : H a = some (.dT kvs)) : qgj K H (.ref a) (.type "dict")
 | ins {a C dx : Addr} {fs : List (Str × V)} (e : H a = some (.ins C dx fs)) (cl : Cls K C) (ha : PySem.W.findIn K (.ref C) "__class__" = some (some (.builtin "object.__class__")))
   (hn : PySem.W.specialIn K (.builtin "object.__class__") "__get__" = some (some (.builtin "getset_descriptor.__get__"))) (htk : PySem.W.takesIn K (.builtin "object.__class__") = some true)
   (hm : PySem.W.mroIn K C (.type "object") = some true) : qgj K H (.ref a) (.ref C)
theorem uD {x : V} {u t : Value} (I : Inv X pins Z H s) (rx : yx x u) (ty : qgj X.K H x t) (e : PySem.W.kitOne X.K t c = some b) (h : ∀ tk, Q (.bool b) { s with toks := tk }) :
  wpAny (model X.prog X.w) A (call (.builtin "isinstance") [u, c]) Q E s := by
 cases ty with
 | non => cases (show u = Value.none from rx); exact PySem.W.kia_one PySem.W.kitx_none I.kIn True.intro e (fun z => nomatch z) h
 | bl y => cases (show u = Value.bool y from rx); exact PySem.W.kia_one PySem.W.kitx_bool I.kIn True.intro e (fun z => nomatch z) h
 | int i => obtain ⟨t, q⟩ := (show ∃ t, u = Value.int i t from rx); cases q; exact PySem.W.kia_one PySem.W.kitx_int I.kIn True.intro e (fun z => nomatch z) h
 | str y => obtain ⟨t, q⟩ := (show ∃ t, u = Value.str y t from rx); cases q; exact PySem.W.kia_one PySem.W.kitx_str I.kIn True.intro e (fun z => nomatch z) h
 | flt y => obtain ⟨t, q⟩ := (show ∃ t, u = Value.float y t from rx); cases q; exact PySem.W.kia_one PySem.W.kitx_float I.kIn True.intro e (fun z => nomatch z) h
 | @lst a xs ea =>
  cases (show u = Value.ref a from rx)
  obtain ⟨_, _, n, _, h1⟩ := (show yY X.prog X.w H s.heap a (.lst xs) from I.hok a _ ea)
  exact PySem.W.kia_one PySem.W.kitx_list I.kIn ⟨_, h1, rfl⟩ e (fun z => nomatch z) h
 | @frz a ob xs ea =>
  cases (show u = Value.ref a from rx)
  obtain ⟨_, _, _, n, _, h1⟩ := (show yY X.prog X.w H s.heap a (.frz ob (.lst xs)) from I.hok a _ ea)
  exact PySem.W.kia_one PySem.W.kitx_list I.kIn ⟨_, h1, rfl⟩ e (fun z => nomatch z) h
 | @tup a xs ea =>
  cases (show u = Value.ref a from rx)
  obtain ⟨_, _, _, p⟩ := (show yY X.prog X.w H s.heap a (.tup xs) from I.hok a _ ea)
  obtain ⟨o, h1, h2, _⟩ := p
  exact PySem.W.kia_one PySem.W.kitx_tuple I.kIn ⟨o, h1, h2⟩ e (fun z => nomatch z) h
 | @dK a kvs ea =>
  cases (show u = Value.ref a from rx)
  obtain ⟨_, _, vs, _, p⟩ := (show yY X.prog X.w H s.heap a (.dK kvs) from I.hok a _ ea)
  obtain ⟨o, es, ep, h1, h2, _⟩ := p
  exact PySem.W.kia_one PySem.W.kitx_dict I.kIn ⟨o, h1, h2.1⟩ e (fun z => nomatch z) h
 | @dT a kvs ea =>
  cases (show u = Value.ref a from rx)
  obtain ⟨_, _, xs, _, o, es, ep, h1, h2, _⟩ := (show yY X.prog X.w H s.heap a (.dT kvs) from I.hok a _ ea)
  exact PySem.W.kia_one PySem.W.kitx_dict I.kIn ⟨o, h1, h2.1⟩ e (fun z => nomatch z) h
 | @ins a C dx fs ea cl ha hn htk hm =>
  cases (show u = Value.ref a from rx)
  obtain ⟨mA, O, _⟩ := qky I.hok ea
  obtain ⟨od, J, _⟩ := O.look
  exact PySem.W.kia_one (PySem.W.kitx_own (cl.get _) cl.hd ha hn htk hm) I.kIn J e (fun z => nomatch z) h
end
end L2
namespace L2
open PySem PySem.Spec PyProof.Rows
structure wn (k : Nat) (A : Around) : Prop where
 hd : A.handled = none
 dp : A.depth + 3 * k + 5 < recursionLimit
 un : A.units + 16 * k + 200 < cLine
 gd : A.guards = some []
theorem wn.mono {j k : Nat} {A : Around} (r : wn k A) (h : j <= k) : wn j A := ⟨r.hd, by have := r.dp; omega, by have := r.un; omega, r.gd⟩
theorem wn.deeper {k : Nat} {A : Around} (r : wn (k + 1) A) (env : Env) : wn k (A.deeper env) :=
 ⟨r.hd, by have := r.dp; show A.depth + 1 + 3 * k + 5 < _; omega, by have := r.un; show A.units + 3 + 16 * k + 200 < _; omega, r.gd⟩
theorem wn.depth {k : Nat} {A : Around} (r : wn k A) : A.depth < recursionLimit := by have := r.dp; omega
theorem wn.units {k : Nat} {A : Around} (r : wn k A) : A.units + 64 < cLine := by have := r.un; omega
def qoU : TA := fun _ H Q => Q [] H
def qmm (ta : TE) (tr : TA) : TA := fun Z H Q => ta Z H fun x H1 => tr Z H1 fun xs H2 => Q (x :: xs) H2
section
variable {X : Cx} {e : Expr} {es : List Expr} {te : TE} {t : TA} {pos : Pos}
theorem qbW : PA X [] qoU := fun _ _ _ _ H Q I h => Calls.spliced_nil ⟨[], H, I, .nil, h⟩
theorem uT (ha : PE X e te) (hr : PA X es t) (hs : starEach (e :: es) X.env = (false, eval e X.env) :: starEach es X.env := by rfl) : PA X (e :: es) (qmm te t) := by
 intro pos pins s Z H Q I h
 rw [hs]
 show wpAny _ _ (spliced ((false, eval e X.env) :: backTo pos (starEach es X.env))) _ _ s
 refine Calls.spliced_cons (thn (ha pins s Z H _ I h) fun u s1 ⟨x, H1, I1, r1, q1⟩ => ?_)
 exact thn (hr pos pins s1 Z H1 _ I1 q1) fun us s2 ⟨xs, H2, I2, r2, q2⟩ => ⟨x :: xs, H2, I2, .cons r1 r2, q2⟩
def qpr (t : TA) : TE := fun Z H Q => t Z H fun xs H1 => xs.length <= sizeLine /\ ∀ p, H1 p = none -> Q (.ref p) (upd H1 p (.tup xs))
def qps (t : TA) : TE := fun Z H Q => t Z H fun xs H1 => xs.length <= sizeLine /\ ∀ p, H1 p = none -> Q (.ref p) (upd H1 p (.lst xs))
theorem qmn {x1} (h : PA X es t) : PE X (.Tuple es x1 pos) (qpr t) := by
 intro pins s Z H Q I hq
 refine wpAny_Tuple_spliced (thn (h pos pins s Z H _ I hq) fun us s1 ⟨xs, H1, I1, r, z, q⟩ => ⟨by rw [<- r.length]; exact z, ?_⟩)
 have hf : H1 s1.heap.objs.size = none := I1.hok.fresh (Nat.le_refl _)
 refine ⟨.ref s1.heap.objs.size, upd H1 s1.heap.objs.size (.tup xs), I1.laid (t' := s1.toks) (fun b u e => Heap.get?_push_of_some _ e) (Nat.le_refl _) ?_, rfl, q _ hf⟩
 exact ⟨z, us, r, ⟨_, Heap.get?_push_size _ rfl, rfl, _, rfl⟩⟩
theorem qgw (h : PA X es t) : PE X (.List es pos) (qps t) := by
 intro pins s Z H Q I hq
 refine wpAny_List_spliced (thn (h pos pins s Z H _ I hq) fun us s1 ⟨xs, H1, I1, r, z, q⟩ => ⟨by rw [<- r.length]; exact z, ?_⟩)
 have hf : H1 s1.heap.objs.size = none := I1.hok.fresh (Nat.le_refl _)
 refine ⟨.ref s1.heap.objs.size, upd H1 s1.heap.objs.size (.lst xs), I1.laid (t' := s1.toks) (fun b u e => Heap.get?_push_of_some _ e) (Nat.le_refl _) ?_, rfl, q _ hf⟩
 exact ⟨z, us, 0, r, Heap.get?_push_size _ rfl⟩
end
abbrev Sp := List V -> Hp -> VK -> XK -> Prop
abbrev CXT := List Env -> Hp -> Shared -> XK -> Value -> Shared -> Prop
structure qnR (P : Program) (w : World) (K : PySem.W.Frag) (mg : Str -> Option Value) (base : Heap) (A : Around) (outer : List Env) (s : Shared) (H : Hp) : Prop where
 frames : A.frames = some outer
 mod : Mod K mg base
 bs : ∀ b o, base.get? b = some o -> s.heap.get? b = some o /\ H b = none
 bsz : base.objs.size <= s.heap.objs.size
 funs : s.heap.FunFrames base outer
 frf : ∀ b ∈ frs outer, H b = none
 hok : HOk P w H s.heap
 bare : AllBare s.gens
def CE (outer : List Env) (P : Program) (w : World) (H : Hp) (s : Shared) (Q : VK) (u : Value) (s' : Shared) : Prop :=
 ∃ v H', s'.os = s.os /\ AllBare s'.gens /\ Un (frs outer) [] H H' s.heap s'.heap /\ HOk P w H' s'.heap /\ yx v u /\ Q v H'
def CR (CX : CXT) (outer : List Env) (P : Program) (w : World) (H : Hp) (s : Shared) (Q : VK) (E : XK) (r : Result) (s' : Shared) : Prop :=
 match r with
 | .ok (.ret u) => CE outer P w H s Q u s'
 | .ok _ => False
 | .error e => CX outer H s E e s'
structure qc2 (P : Program) (w : World) (K : PySem.W.Frag) (mg : Str -> Option Value) (base : Heap) (CX : CXT) (k : Nat) (f : Addr) (fd : FuncData) (ps : List Str) (sp : Sp) : Prop where
 len : ∀ vs H Q E, sp vs H Q E -> vs.length = ps.length
 run : ∀ (A : Around) (outer : List Env) (s : Shared) (H : Hp) (args : Args) (us : List Value) (vs : List V) (Q : VK) (E : XK), wn k A -> qnR P w K mg base A outer s H -> BindsTo s fd args (ps.zip us) -> zD vs us -> sp vs H Q E ->
  codeAny (model P w) A (.call (.ref f) args) (CR CX outer P w H s Q E) s
section
variable {X : Cx} {pins : List (Addr × Obj)} {Z : St} {H : Hp} {s s' : Shared}
theorem Inv.env0 (I : Inv X pins Z H s) : qnR X.prog X.w X.K X.mg X.base X.A X.stack s H :=
 ⟨I.ok.frames, I.ok.mod, I.bs, Nat.le_trans I.ok.bsz I.sz, I.stack, I.stkFree, I.hok, I.bare⟩
theorem Inv.after {Q : VK} {u : Value} (I : Inv X pins Z H s) (h : CE X.stack X.prog X.w H s Q u s') : EP X pins Z Q u s' := by
 obtain ⟨v, H', os, bare, un, hok, r, q⟩ := h
 obtain ⟨hh, g, d, t, os'⟩ := s'
 obtain rfl : os' = s.os := os
 exact ⟨v, H', I.call (h' := hh) (g' := g) (d' := d) (t' := t) (ch := []) un hok bare (fun b z => absurd z (by simp)), r, q⟩
end
def qoj (sp : Sp) (dvs : List V) (E : XK) (t : TA) : TE := fun Z H Q => t Z H fun vs H1 => sp (vs ++ dvs) H1 Q E
def qci (K : PySem.W.Frag) (fd : FuncData) (ps : List Str) (ds : List Value) : Prop :=
 ∀ (s : Shared) (us : List Value), K.In s.heap -> (us ++ ds).length = ps.length -> BindsTo s fd ⟨us, []⟩ (ps.zip (us ++ ds))
theorem qci.all {K : PySem.W.Frag} {fd : FuncData} {ps : List Str} (h : ∀ us : List Value, us.length = ps.length -> bindArgs fd ⟨us, []⟩ = pure (ps.zip us)) : qci K fd ps [] := fun s us _ hl => by
 rw [List.append_nil] at hl |-
 exact .of_eq (h us hl)
def qgx (CX : CXT) (X : Cx) (E : XK) : Prop := ∀ (pins : List (Addr × Obj)) (Z : St) (H : Hp) (s : Shared) (e : Value) (s' : Shared), Inv X pins Z H s -> CX X.stack H s E e s' -> X.xe e s'
section
variable {X : Cx} {CX : CXT} {k : Nat} {f C : Addr} {fd : FuncData} {ps : List Str} {sp : Sp} {dvs : List V} {ds : List Value} {E : XK} {x m : Str} {p pos apos : Pos} {e o : Expr} {es : List Expr} {ta : TE} {t : TA}
theorem qmo {pins : List (Addr × Obj)} {Z : St} {H : Hp} {s : Shared} {Q : VK} {us : List Value} {vs : List V} (F : qc2 X.prog X.w X.K X.mg X.base CX k f fd ps sp) (hr : wn k X.A) (hb : qci X.K fd ps ds) (hd : zD dvs ds) (hx : qgx CX X E)
  (I : Inv X pins Z H s) (r : zD vs us) (h : sp (vs ++ dvs) H Q E) : wpAny (model X.prog X.w) X.A (call (.ref f) us) (EP X pins Z Q) X.xe s := by
 have r2 : zD (vs ++ dvs) (us ++ ds) := r.append hd
 have hl : (us ++ ds).length = ps.length := by rw [<- r2.length]; exact F.len _ _ _ _ h
 refine wpAny_call (codeAny_mono (F.run X.A X.stack s H ⟨us, []⟩ (us ++ ds) (vs ++ dvs) Q E hr I.env0 (hb s us I.kIn hl) r2 h) fun r s' hq => ?_)
 cases r with
 | error e => exact hx pins Z H s e s' I hq
 | ok fl =>
  cases fl with
  | ret u => exact I.after hq
  | next => exact False.elim hq
  | brk => exact False.elim hq
  | cont => exact False.elim hq
theorem qd0 (F : qc2 X.prog X.w X.K X.mg X.base CX k f fd ps sp) (hr : wn k X.A) (hg : Gl X x) (hm : X.mg x = some (.ref f)) (hk : PySem.W.keepIn X.K (.ref f) = true) (hb : qci X.K fd ps ds) (hd : zD dvs ds) (hx : qgx CX X E)
  (ha : PA X (e :: es) t) (hdb : (x == ("__debug__" : Str)) = false := by decide) (he : starEach (e :: es) X.env = (false, eval e X.env) :: starEach es X.env := by rfl) (hpl : (backTo pos (starEach es X.env)).any (·.1) = false := by rfl) :
  PE X (.Call (.Name x p) (e :: es) [] pos) (qoj sp dvs E t) := by
 intro pins s Z H Q I h
 refine wpAny_Call_Name_kw (qgm I hg hm ?_ hdb)
 refine PySem.W.callWith_K (h₀ := X.base) I.ok.mod.kin hk (thn (ha pos pins s Z H _ I h) fun us s1 ⟨vs, H1, I1, r, q⟩ => ⟨I1.kIn, ?_⟩) he hpl
 exact qmo F hr hb hd hx I1 r q
structure Mk (K : PySem.W.Frag) (C f : Addr) : Prop where
 makes : PySem.W.makesIn K C = true
 init : PySem.W.findIn K (.ref C) "__init__" = some (some (.ref f))
 fn : PySem.W.isFn K (.ref f) = true
 kp : PySem.W.keepIn K (.ref C) = true
end
def PK (X : Cx) (kws : List Keyword) (t : TA) : Prop :=
 ∀ (pos : Pos) (pins : List (Addr × Obj)) (s : Shared) (Z : St) (H : Hp) (Q : List V -> Hp -> Prop), Inv X pins Z H s -> t Z H Q -> wpAny (model X.prog X.w) X.A (evalAll ((backToKw pos (keywordEach kws X.env)).map (·.2))) (AP X pins Z Q) X.xe s
section
variable {X : Cx} {CX : CXT} {k : Nat} {f C : Addr} {fd : FuncData} {ps ks : List Str} {sp : Sp} {E : XK} {x m : Str} {p pos apos kpos : Pos} {e o : Expr} {es : List Expr} {kws : List Keyword} {te ta : TE} {t tk : TA} {nm : Option Str}
theorem qmp : PK X [] qoU := fun _ _ _ _ H Q I h => wpAny_evalAll_nil ⟨[], H, I, .nil, h⟩
theorem qkz (ha : PE X e te) (hr : PK X kws t) : PK X (⟨nm, e, kpos⟩ :: kws) (qmm te t) := by
 intro pos pins s Z H Q I h
 show wpAny _ _ (evalAll ((do let v <- eval e X.env; standAt pos; pure v) :: (backToKw pos (keywordEach kws X.env)).map (·.2))) _ _ s
 refine wpAny_evalAll_cons (wpAny_bind (thn (ha pins s Z H _ I h) fun u s1 ⟨x, H1, I1, r1, q1⟩ => wpAny_bind (wpAny_standAt (wpAny_pure ?_))))
 exact thn (hr pos pins s1 Z H1 _ I1 q1) fun us s2 ⟨xs, H2, I2, r2, q2⟩ => ⟨x :: xs, H2, I2, .cons r1 r2, q2⟩
variable {g : List Value -> List Value -> List Value} {gV : List V -> List V -> List V}
end
structure qr (N P : List Str) (sc : Scope) : Prop where
 kind : sc.kind = .function
 co : sc.isCoroutine = false
 gen : sc.isGenerator = false
 nd : N.Nodup
 pre : N.take P.length = P
 par : ∀ x ∈ P, sc.names.lookup x = some .local \/ sc.names.lookup x = some .cell
 nofree : ∀ y ∈ sc.names, y.2 ≠ .free
theorem qc3 {kindOf : Str -> Option NameKind} {x : Str} : ∀ {binds : List (Str × Value)} {m : Str -> Option Value}, (∀ v, (x, v) ∉ binds) -> bindL kindOf binds m x = m x
 | [], _, _ => rfl
 | (n, v) :: r, m, h => by
  unfold bindL
  rw [qc3 fun w hw => h w (mM _ hw)]
  split
  ·have : x ≠ n := by rintro rfl; exact h v mS_
   simp [this]
  ·rfl
theorem qc4 {kindOf : Str -> Option NameKind} {x : Str} : ∀ {binds : List (Str × Value)} {m : Str -> Option Value}, (∀ v, (x, v) ∉ binds) -> bindC kindOf binds m x = m x
 | [], _, _ => rfl
 | (n, v) :: r, m, h => by
  unfold bindC
  rw [qc4 fun w hw => h w (mM _ hw)]
  split
  ·rfl
  ·have : x ≠ n := by rintro rfl; exact h v mS_
   simp [this]
theorem qc5 {kindOf : Str -> Option NameKind} {x : Str} {v : Value} : ∀ {P : List Str} {vs : List Value} {i : Nat} {m : Str -> Option Value}, P.Nodup -> P[i]? = some x -> vs[i]? = some v -> kindOf x = some .local ->
  bindL kindOf (P.zip vs) m x = some v
 | [], _, _, _, _, h, _, _ => by simp at h
 | _ :: _, [], _, _, _, _, h, _ => by simp at h
 | p :: P, w :: vs, 0, m, nd, h1, h2, hk => by
  simp at h1 h2; subst h1; subst h2
  show bindL kindOf ((p, w) :: P.zip vs) m p = _
  unfold bindL
  rw [qc3 fun v hv => (List.nodup_cons.mp nd).1 (List.of_mem_zip hv).1, if_pos hk]
  simp
 | p :: P, w :: vs, i + 1, m, nd, h1, h2, hk => by
  show bindL kindOf ((p, w) :: P.zip vs) m x = _
  unfold bindL
  exact qc5 (i := i) (List.nodup_cons.mp nd).2 (by simpa using h1) (by simpa using h2) hk
theorem qc6 {kindOf : Str -> Option NameKind} {x : Str} {v : Value} : ∀ {P : List Str} {vs : List Value} {i : Nat} {m : Str -> Option Value}, P.Nodup -> P[i]? = some x -> vs[i]? = some v -> kindOf x ≠ some .local ->
  bindC kindOf (P.zip vs) m x = some v
 | [], _, _, _, _, h, _, _ => by simp at h
 | _ :: _, [], _, _, _, _, h, _ => by simp at h
 | p :: P, w :: vs, 0, m, nd, h1, h2, hk => by
  simp at h1 h2; subst h1; subst h2
  show bindC kindOf ((p, w) :: P.zip vs) m p = _
  unfold bindC
  rw [qc4 fun v hv => (List.nodup_cons.mp nd).1 (List.of_mem_zip hv).1, if_neg hk]
  simp
 | p :: P, w :: vs, i + 1, m, nd, h1, h2, hk => by
  show bindC kindOf ((p, w) :: P.zip vs) m x = _
  unfold bindC
  exact qc6 (i := i) (List.nodup_cons.mp nd).2 (by simpa using h1) (by simpa using h2) hk
def start (N : List Str) (vs : List V) : St := vs.map some ++ List.replicate (N.length - vs.length) none
def qjC (CX : CXT) (P : Program) (w : World) (K : PySem.W.Frag) (mg : Str -> Option Value) (base : Heap) (N : List Str) (qual : Str) (scope : Scope) (f : Addr) (cd : Value) (A : Around) (outer : List Env) (s : Shared) (H : Hp) (E : XK) : Cx where
 prog := P
 w := w
 K := K
 mg := mg
 base := base
 A := A.deeper (envOfC qual scope s.heap.objs.size f cd)
 N := N
 s₀ := s
 H₀ := H
 env := envOfC qual scope s.heap.objs.size f cd
 outer := outer
 stack := envOfC qual scope s.heap.objs.size f cd :: outer
 ex := []
 calm := true
 fn := fun _ => true
 pn := []
 xe := fun e s' => wpAny (model P w) (A.deeper (envOfC qual scope s.heap.objs.size f cd)) (leaving (envOfC qual scope s.heap.objs.size f cd) e) (fun _ s'' => CX outer H s E e s'') (fun e' s'' => CX outer H s E e' s'') s'
theorem qeH {sc : Scope} {n : Nat} {x : Str} (h : sc.names.lookup x = some .cell) : ∃ c, (cellsFrom n sc.names []).lookup x = some c := by
 have q := PySem.W.cellsFrom_some sc.names n [] (.inl h)
 exact Option.isSome_iff_exists.mp q
theorem qgy {CX : CXT} {P : Program} {w : World} {K : PySem.W.Frag} {mg : Str -> Option Value} {base : Heap} {N ps : List Str} {qual : Str} {scope : Scope} {f : Addr} {cd : Value} {A : Around} {outer : List Env} {s s1 : Shared} {H : Hp} {E : XK} {us : List Value} {vs : List V}
  (S : qr N ps scope) (hd : A.handled = none) (e0 : qnR P w K mg base A outer s H) (hl : vs.length = ps.length) (r : zD vs us)
  (x : InCallC s s.heap.objs.size (bindL (envOfC qual scope s.heap.objs.size f cd).kindOf (ps.zip us) fun _ => none) (cellsFrom (s.heap.objs.size + 1) scope.names []) (bindC (envOfC qual scope s.heap.objs.size f cd).kindOf (ps.zip us) fun _ => none) s1) :
  Inv (qjC CX P w K mg base N qual scope f cd A outer s H E) [] (start N vs) H s1 := by
 have hpl : ps.length <= N.length := by have := congrArg List.length S.pre; rw [List.length_take] at this; omega
 obtain ⟨h1, tk, rfl, hk⟩ := x.done
 have noA : ∀ b : Addr, b ∉ (qjC CX P w K mg base N qual scope f cd A outer s H E).ex := fun b z => absurd (show b ∈ ([] : List Addr) from z) (by simp)
 refine ⟨⟨e0.mod, S.kind, rfl, rfl, Nat.le_refl _, fun y z c h1 h2 => ?_, fun y hy => ?_, fun y c _ h => ?_, fun _ => hd, Around.frames_deeper e0.frames, .inr ⟨rfl, rfl⟩, fun b z => absurd z (noA b), e0.bs, e0.bsz, fun b _ _ => noA b, fun b z => absurd z (noA b), e0.funs, e0.frf⟩,
  rfl, e0.bare, Un.kept hk, ⟨_, x.toInCall.ns, fun i y v h1 h2 h3 => ?_⟩, fun y c h => ⟨_, x.cell y c h⟩, e0.hok.fresh (Nat.le_refl _), fun y c h => ?_, fun p hp => absurd (show p ∈ ([] : List (Addr × Obj)) from hp) (by simp), e0.hok.kept hk, ?_⟩
 ·exact name_of_addr x.apart (PySem.mem_of_lookup h1) (PySem.mem_of_lookup h2)
 ·have hy : scope.names.lookup y = some .cell \/ scope.names.lookup y = some .free := hy
  rcases hy with hy | hy
  ·exact qeH hy
  ·exact absurd rfl (S.nofree _ (PySem.mem_of_lookup hy))
 ·exact Nat.le_of_lt (x.above y c (PySem.mem_of_lookup h))
 ·have hi : i < vs.length := by
   unfold start at h2
   by_cases hi : i < vs.length
   ·exact hi
   ·rw [List.getElem?_append_right (by simpa using hi)] at h2
    rw [List.getElem?_replicate] at h2
    split at h2 <;> cases h2
  have ha : vs[i]? = some v := by
   unfold start at h2
   rw [List.getElem?_append_left (by simpa using hi), gM_] at h2
   cases e : vs[i]? with
   | none => rw [e] at h2; cases h2
   | some a => rw [e] at h2; cases h2; rfl
  obtain ⟨u, hu, rv⟩ := r.get ha
  have hp : ps[i]? = some y := by
   rw [<- S.pre, List.getElem?_take_of_lt (by omega)]; exact h1
  have ndP : ps.Nodup := by rw [<- S.pre]; exact S.nd.sublist (List.take_sublist _ _)
  refine ⟨u, rv, ?_⟩
  rcases S.par y (List.mem_of_getElem? hp) with k | k
  ·exact .inl ⟨k, qc5 ndP hp hu k⟩
  ·obtain ⟨c, e⟩ := qeH (n := s.heap.objs.size + 1) k
   refine .inr ⟨.inl k, c, e, ?_⟩
   have q := x.cell y c e
   rw [qc6 ndP hp hu (by show scope.names.lookup y ≠ _; rw [k]; decide)] at q
   exact q
 ·exact e0.hok.fresh (Nat.le_of_lt (x.above y c (PySem.mem_of_lookup h)))
 ·unfold start
  show _ = N.length
  rw [lA_, lM_, List.length_replicate]
  omega
theorem qok {CX : CXT} {P : Program} {w : World} {K : PySem.W.Frag} {mg : Str -> Option Value} {base : Heap} {k : Nat} {f : Addr} {name qual : Str} {params : Arguments} {body : List Stmt} {scope : Scope} {dV kV doc pm cdv ct oc : Value} {an od : Option Addr}
  {osl : Array (Option Value)} {N ps : List Str} {sp : Sp} (lk : K.lookup f = some ⟨oc, od, .func (PySem.W.fnOf name qual params body scope dV kV doc pm an cdv ct), osl⟩) (hcd : PySem.W.codeIn K cdv qual = true) (S : qr N ps scope)
  (len : ∀ vs H Q E, sp vs H Q E -> vs.length = ps.length)
  (hbody : ∀ (A : Around) (outer : List Env) (s : Shared) (H : Hp) (vs : List V) (Q : VK) (E : XK), wn k (A.deeper (envOfC qual scope s.heap.objs.size f cdv)) -> sp vs H Q E ->
   ∃ t, PSs (qjC CX P w K mg base N qual scope f cdv A outer s H E) body t /\ t { nx := fun _ H' => Q .non H', rt := Q } (start N vs) H) :
  qc2 P w K mg base CX (k + 1) f (PySem.W.fnOf name qual params body scope dV kV doc pm an cdv ct) ps sp := by
 refine ⟨len, fun A outer s H args us vs Q E hr e0 hb r hsp => ?_⟩
 have hl := len _ _ _ _ hsp
 have KX : K.In s.heap := e0.mod.kin.keeps fun b o e => (e0.bs b o e).1
 have lim : s.heap.NoLimit := e0.mod.nolimit.keeps fun b o e => (e0.bs b o e).1
 have hkind : ∀ y ∈ ps.zip us, scope.names.lookup y.1 = some .local \/ (scope.names.lookup y.1 = some .cell /\ ((cellsFrom (s.heap.objs.size + 1) scope.names []).lookup y.1).isSome = true) := fun ⟨n, v⟩ hy => by
  rcases S.par n (List.of_mem_zip hy).1 with q | q
  ·exact .inl q
  ·exact .inr ⟨q, PySem.W.cellsFrom_some _ _ _ (.inl q)⟩
 refine codeAny_call_function hr.depth (KX _ _ lk) rfl S.co S.gen rfl (PySem.W.codeRec_of KX hcd) (hb _ _ _ _ ?_)
 refine wpAny_newFunctionEnv_cells S.kind hkind fun env he s1 x => ?_
 subst he
 refine ⟨lim.keeps x.toInCall.keep, codeAny_func ?_⟩
 obtain ⟨t, ht, hq⟩ := hbody A outer s H vs Q E (hr.deeper _) hsp
 have I : Inv (qjC CX P w K mg base N qual scope f cdv A outer s H E) [] (start N vs) H s1 := qgy S hr.hd e0 hl r x
 refine wpAny_mono (ht [] s1 (start N vs) H _ I hq) (fun fl s' hs => ?_) fun e s' hs => hs
 have fin : ∀ {Z' : St} {H' : Hp} {v : V} {u : Value}, Inv (qjC CX P w K mg base N qual scope f cdv A outer s H E) [] Z' H' s' -> yx v u -> Q v H' -> CE outer P w H s Q u s' :=
  fun {Z' H' v u} J rv q => ⟨v, H', J.os, J.bare, J.base, J.hok, rv, q⟩
 cases fl with
 | ret u =>
  obtain ⟨v, Z', H', J, rv, q⟩ := hs
  exact fin J rv q
 | next =>
  obtain ⟨Z', H', J, q⟩ := hs
  exact fin (v := V.non) (u := Value.none) J rfl q
 | brk =>
  obtain ⟨_, _, _, q⟩ := hs
  exact False.elim q
 | cont =>
  obtain ⟨_, _, _, q⟩ := hs
  exact False.elim q
end L2
namespace L2
open PySem PySem.Spec PyProof.Rows
section
variable {X : Cx} {x : Str} {p pos : Pos} {e : Expr} {es : List Expr} {t : TA} {id T : String} {r : List V -> Hp -> VK -> Prop}
def tCB (r : List V -> Hp -> VK -> Prop) (t : TA) : TE := fun Z H Q => t Z H fun vs H1 => r vs H1 Q
theorem qeI (hc : yK X (.builtin id) r) (hg : Gl X x) (hm : X.mg x = none) (hv : bootBuiltins x = some (.builtin id)) (ha : PA X (e :: es) t) (hn : x ≠ "__name__" := by decide) (hdb : (x == ("__debug__" : Str)) = false := by decide)
  (he : starEach (e :: es) X.env = (false, eval e X.env) :: starEach es X.env := by rfl) (hpl : (backTo pos (starEach es X.env)).any (·.1) = false := by rfl) : PE X (.Call (.Name x p) (e :: es) [] pos) (tCB r t) := by
 intro pins s Z H Q I h
 refine wpAny_Call_Name_kw (wm I hg hm hv ?_ hn hdb)
 exact PyProof.Rows.callWith_builtin1 (thn (ha pos pins s Z H _ I h) fun us s1 ⟨vs, H1, I1, r1, q1⟩ => hc pins s1 Z H1 vs us Q I1 r1 q1) he hpl
theorem qa2 (hc : yK X (.type T) r) (hg : Gl X x) (hm : X.mg x = none) (hv : bootBuiltins x = some (.type T)) (ha : PA X (e :: es) t) (hn : x ≠ "__name__" := by decide) (hdb : (x == ("__debug__" : Str)) = false := by decide)
  (he : starEach (e :: es) X.env = (false, eval e X.env) :: starEach es X.env := by rfl) (hpl : (backTo pos (starEach es X.env)).any (·.1) = false := by rfl) : PE X (.Call (.Name x p) (e :: es) [] pos) (tCB r t) := by
 intro pins s Z H Q I h
 refine wpAny_Call_Name_kw (wm I hg hm hv ?_ hn hdb)
 exact PyProof.Rows.callWith_type1 (thn (ha pos pins s Z H _ I h) fun us s1 ⟨vs, H1, I1, r1, q1⟩ => hc pins s1 Z H1 vs us Q I1 r1 q1) he hpl
end
end L2
namespace HT
open PySem PyProof.Rows
def lexLt : List Int -> List Int -> Bool
 | [], [] => false
 | [], _ :: _ => true
 | _ :: _, [] => false
 | x :: xs, y :: ys => if x = y then lexLt xs ys else decide (x < y)
theorem qfG (x y : Int) (xs ys : List Int) : lexLt (x :: xs) (y :: ys) = if x = y then lexLt xs ys else decide (x < y) := rfl
theorem qcj : lexLt [] [] = false := rfl
theorem qbM (y : Int) (ys : List Int) : lexLt [] (y :: ys) = true := rfl
theorem qbN (x : Int) (xs : List Int) : lexLt (x :: xs) [] = false := rfl
theorem qin (A : Around) (s : Shared) (a : Int) (t : Tok) (c : Int) (u : Tok) : ∃ e, SeqAt.EqAt A s (.int a t) (.int c u) e /\ (e = true ↔ a = c) :=
 ⟨(a == c), SeqAt.EqAt.int_int a t c u, by simp⟩
theorem qio (A : Around) (s : Shared) (a : Int) (t : Tok) (c : Int) (u : Tok) (prog : Program) (w : World) (E : Value -> Shared -> Prop) (Q : Value -> Shared -> Prop) (h : Q (.bool (decide (a < c))) s) :
  wpAny (model prog w) A (richCompare .Lt (.int a t) (.int c u)) Q E s :=
 (PyProof.Rows.lt_int h : wpAny (model prog w) A (compareOp .Lt (.int a t) (.int c u)) Q E s)
section
open PySem.SeqAt
open PySem.AutoSeq1 (wpAny_loadPart')
open PySem.MeetsSeq PySem.MeetsSeq2 PySem.MeetsSeq3
theorem qck (l b : Addr) (items items2 : Array Value) (n n2 : Nat) (dd dd2 : Option Addr) (sl sl2 : Array (Option Value)) (ns ms : List Int) (hi : IntsAre items.toList ns) (hj : IntsAre items2.toList ms) :
  Meets (Builtin.«tuple.__lt__» ⟨[.ref l, .ref b], []⟩)
   (fun _ R s => s.heap.get? l = some { cls := .type "tuple", dict := dd, data := .seq items n, slots := sl } /\ s.heap.get? b = some { cls := .type "tuple", dict := dd2, data := .seq items2 n2, slots := sl2 } /\
    R (.ok (.ret (.bool (lexLt ns ms)))) s) :=
 .of_wp fun prog w A R s h => by
  obtain ⟨hp, g, d, tk, os⟩ := s; obtain ⟨hl, hb, h⟩ := h
  have f2 := AutoSeq1.sub_tuple_tuple
  have z1 : items.size = ns.length := by rw [<- hi.length]; simp
  have z2 : items2.size = ms.length := by rw [<- hj.length]; simp
  wp_walk using wpAny_loadPart' hl, wpAny_loadPart' hb, wpAny_forIn_list _ (fun vh b s' => b.1 = none /\ s' = ⟨hp, g, d, tk, os⟩ /\ ∃ (vs ws : List Value) (ns' ms' : List Int), vh = vs.zip ws /\
   IntsAre vs ns' /\ IntsAre ws ms' /\ ns'.length + items2.size = ms'.length + items.size /\ R (.ok (.ret (.bool (lexLt ns' ms')))) ⟨hp, g, d, tk, os⟩) _
  case turn =>
   rintro ⟨y, x⟩ vh b s' ⟨hb', rfl, vs, ws, ns', ms', hz, hvi, hwi, hlen, hR⟩
   cases hvi with
   | nil => rw [List.zip_nil_left] at hz; cases hz
   | cons a t hvi' =>
    cases hwi with
    | nil => rw [List.zip_nil_right] at hz; cases hz
    | cons c u hwi' =>
     rw [List.zip_cons_cons] at hz
     injection hz with hyx hrest
     injection hyx with hy hx
     subst hy hx
     rw [qfG] at hR
     simp only [lC_] at hlen
     obtain ⟨e, he, hiff⟩ := qin A.in1 ⟨hp, g, d, tk, os⟩ a t c u
     refine wpAny_bind (he prog w _ _ ?_)
     cases e with
     | true =>
      rw [if_pos (hiff.mp rfl)] at hR
      wp_walk
      exact ⟨rfl, rfl, _, _, _, _, hrest, hvi', hwi', by omega, hR⟩
     | false =>
      rw [if_neg (fun q => absurd (hiff.mpr q) Bool.false_ne_true)] at hR
      have hri := qio A.in1 ⟨hp, g, d, tk, os⟩ a t c u prog w
      wp_walk using hri
      exact ⟨_, rfl, by simpa using hR⟩
  case fin =>
   rintro ⟨b1, b2⟩ s' ⟨hb', rfl, vs, ws, ns', ms', hz, hvi, hwi, hlen, hR⟩
   simp only at hb'
   subst hb'
   have hv : lexLt ns' ms' = decide (items.size < items2.size) := by
    cases hvi with
    | nil =>
     cases hwi with
     | nil =>
      simp only [lN_] at hlen
      rw [qcj]
      exact (decide_eq_false (by omega)).symm
     | cons c u hw =>
      simp only [lN_, lC_] at hlen
      rw [qbM]
      exact (decide_eq_true (by omega)).symm
    | cons a t hv =>
     cases hwi with
     | nil =>
      simp only [lN_, lC_] at hlen
      rw [qbN]
      exact (decide_eq_false (by omega)).symm
     | cons c u hw =>
      rw [List.zip_cons_cons] at hz
      cases hz
   rw [hv] at hR
   wp_walk
   exact ⟨_, rfl, by simpa [Builtin.Tuple.tupleCompareSizes] using hR⟩
  case h =>
   exact ⟨rfl, rfl, items.toList, items2.toList, ns, ms, rfl, hi, hj, by omega, h⟩
end
section
variable {prog : Program} {w : World} {A : Around} {E : Value -> Shared -> Prop} {s : Shared}
theorem lt_tupInts {l b : Addr} {items items2 : Array Value} {ns ms : List Int} {Q : Value -> Shared -> Prop} (hl : IsTup s.heap l items) (hb : IsTup s.heap b items2) (hi : IntsAre items.toList ns) (hj : IntsAre items2.toList ms)
  (hu : A.units < cLine) (h : Q (.bool (lexLt ns ms)) s) : wpAny (model prog w) A (compareOp .Lt (.ref l) (.ref b)) Q E s := by
 obtain ⟨⟨cls, dd, data, sl⟩, ho, hc, n, hd⟩ := id hl
 obtain ⟨⟨cls2, dd2, data2, sl2⟩, ho2, hc2, n2, hd2⟩ := id hb
 simp only at hc hd hc2 hd2
 subst hc hd hc2 hd2
 exact richCompare_meets_room (op := .Lt) ⟨_, ho, rfl⟩ ⟨_, ho2, rfl⟩ PySem.F.slot_tuple_lt PySem.F.entry_tuple_lt (PySem.F.args_tuple_lt_2 _ _) (qck l b items items2 n n2 dd dd2 sl sl2 ns ms hi hj)
  ⟨ho, ho2, show Value.bool (lexLt ns ms) ≠ Value.notImplemented /\ Q (.bool (lexLt ns ms)) s from ⟨(fun x => nomatch x), h⟩⟩ hu
theorem cat_tup {t b : Addr} {vs ws : List Value} {Q : Value -> Shared -> Prop} (ht : IsTup s.heap t vs.toArray) (hb : IsTup s.heap b ws.toArray) (hv : vs ≠ [])
  (h1 : ws = [] -> Q (.ref t) s) (h2 : ws ≠ [] -> Q (.ref s.heap.objs.size) { s with heap := s.heap.push { cls := .type "tuple", data := .seq (vs ++ ws).toArray } })
  (hsz : vs.length + ws.length <= sizeLine) : wpAny (model prog w) A (binaryOp .Add (.ref t) (.ref b)) Q E s := by
 obtain ⟨⟨cls, dd, data, sl⟩, ho, hc, n, hd⟩ := id ht
 obtain ⟨⟨cls2, dd2, data2, sl2⟩, ho2, hc2, n2, hd2⟩ := id hb
 simp only at hc hd hc2 hd2
 subst hc hd hc2 hd2
 have e : vs.toArray ++ ws.toArray = (vs ++ ws).toArray := by simp
 by_cases hw : ws = []
 ·exact concat_meets ⟨_, ho, rfl⟩ ⟨_, ho2, rfl⟩ noFill_tuple_add seq_tuple_add PySem.F.slot_tuple_add PySem.F.entry_tuple_add (PySem.F.args_tuple_add_2 _ _)
   (tuple_addW1 t b vs.toArray ws.toArray n n2 dd dd2 sl sl2 (by simpa using hv) (by simp [hw])) ⟨ho, ho2, h1 hw⟩
 ·refine concat_meets ⟨_, ho, rfl⟩ ⟨_, ho2, rfl⟩ noFill_tuple_add seq_tuple_add PySem.F.slot_tuple_add PySem.F.entry_tuple_add (PySem.F.args_tuple_add_2 _ _)
   (tuple_addW2 t b vs.toArray ws.toArray n n2 dd dd2 sl sl2 (by simpa using hv) (by simpa using hw) (by rw [sT_, sT_]; exact hsz)) ⟨ho, ho2, ?_⟩
  rw [e]
  exact h2 hw
def sIx (n d : Nat) : Option Int -> Nat
 | none => d
 | some v => if v < 0 then (v + (n : Int)).toNat else min v.toNat n
theorem sIx_none (n d : Nat) : sIx n d none = d := rfl
theorem sIx_nat (n d k : Nat) : sIx n d (some (k : Int)) = min k n := by
 show (if (k : Int) < 0 then ((k : Int) + (n : Int)).toNat else min (k : Int).toNat n) = min k n
 rw [if_neg (by omega), Int.toNat_natCast]
theorem qmq (n d : Nat) (hd : d <= n) (o : Option Int) : sIx n d o <= n := by
 cases o with
 | none => exact hd
 | some v =>
  show (if v < 0 then (v + (n : Int)).toNat else min v.toNat n) <= n
  by_cases hv : v < 0
  ·rw [if_pos hv]; omega
  ·rw [if_neg hv]; exact Nat.min_le_right _ _
theorem qgz (v : Int) (n d : Nat) : (if v < 0 then max (v + (n : Int)) 0 else min v (n : Int)) = ((sIx n d (some v) : Nat) : Int) := by
 show (if v < 0 then max (v + (n : Int)) 0 else min v (n : Int)) = (((if v < 0 then (v + (n : Int)).toNat else min v.toNat n) : Nat) : Int)
 by_cases hv : v < 0
 ·simp only [if_pos hv]; omega
 ·simp only [if_neg hv]; omega
theorem qfH (lo hi : Option Int) (n : Nat) : Builtin.Slice.sliceAdjust lo hi 1 (n : Int) = (((sIx n 0 lo : Nat) : Int), ((sIx n n hi : Nat) : Int)) := by
 have h1 : ¬ ((1 : Int) < 0) := by omega
 unfold Builtin.Slice.sliceAdjust
 simp only [h1, if_false]
 refine Prod.ext ?_ ?_
 ·cases lo with
  | none => rfl
  | some v => exact qgz v n 0
 ·cases hi with
  | none => rfl
  | some v => exact qgz v n n
theorem qfI (i j : Nat) : Builtin.Slice.slicePlaces (i : Int) (j : Int) 1 = j - i := by
 unfold Builtin.Slice.slicePlaces
 have h1 : (1 : Int) > 0 := by omega
 simp only [h1, if_true, Int.ediv_one]
 split <;> omega
theorem qbX {v : Value} {o : Option Int} {Q : Option Int -> Shared -> Prop} (p : IsPart v o) (h : Q o s) : wpAny (model prog w) A (Builtin.Slice.slicePartIndex v) Q E s := by
 cases p with
 | none => exact slicePart_none h
 | int i t => exact slicePart_int h
theorem sliceApplied_gen {sl : Addr} {vl vu : Value} {lo hi : Option Int} {n : Nat} {Q : Int × Int × Nat -> Shared -> Prop} (hs : s.heap.IsSliceOf sl vl vu .none) (pl : IsPart vl lo) (pu : IsPart vu hi)
  (h : Q (((sIx n 0 lo : Nat) : Int), 1, sIx n n hi - sIx n 0 lo) s) : wpAny (model prog w) A (Builtin.Slice.sliceApplied (.ref sl) (pure (n : Int))) Q E s := by
 obtain ⟨os, hos, hcs, hds⟩ := id hs
 unfold Builtin.Slice.sliceApplied Builtin.Slice.sliceFields
 refine wpAny_bind (wpAny_bind (wpAny_field hos hds (x := vl) rfl (wpAny_bind (wpAny_field hos hds (x := vu) rfl (wpAny_bind (wpAny_field hos hds (x := .none) rfl (wpAny_pure ?_)))))))
 refine wpAny_bind (slicePart_none ?_)
 show wpAny _ _ (if ((1 : Int) == 0) = true then _ else _) _ _ s
 rw [if_neg (by decide)]
 refine wpAny_bind (qbX pl (wpAny_bind (qbX pu (wpAny_bind (wpAny_pure ?_)))))
 show wpAny _ _ (match Builtin.Slice.sliceAdjust lo hi 1 (n : Int) with | (lo, hi) => pure (lo, (1 : Int), Builtin.Slice.slicePlaces lo hi 1)) _ _ s
 rw [qfH lo hi n]
 show wpAny _ _ (pure (((sIx n 0 lo : Nat) : Int), (1 : Int), Builtin.Slice.slicePlaces ((sIx n 0 lo : Nat) : Int) ((sIx n n hi : Nat) : Int) 1)) _ _ s
 rw [qfI]
 exact wpAny_pure h
theorem qip (xs : Array Value) (i k : Nat) : ((List.range k).filterMap fun (m : Nat) => xs[((i : Int) + (m : Int) * 1).toNat]?).toArray = ((xs.toList.drop i).take k).toArray := by
 have e : (fun (m : Nat) => xs[((i : Int) + (m : Int) * 1).toNat]?) = fun m => xs[i + m]? := by
  funext m
  have : ((i : Int) + (m : Int) * 1).toNat = i + m := by omega
  rw [this]
 rw [e]
 have := pick_run xs i k
 rw [List.filterMap_map] at this
 have e2 : ((fun x => xs[x]?) ∘ fun x => i + x) = fun m => xs[i + m]? := rfl
 rw [e2] at this
 rw [this]
theorem getItem_tuple_cut {t sl : Addr} {items : Array Value} {vl vu : Value} {lo hi : Option Int} {Q : Value -> Shared -> Prop} (ht : IsTup s.heap t items) (hs : s.heap.IsSliceOf sl vl vu .none) (pl : IsPart vl lo) (pu : IsPart vu hi)
  (hw : ¬ (sIx items.size 0 lo = 0 /\ sIx items.size items.size hi = items.size))
  (h : Q (.ref s.heap.objs.size) { s with heap := s.heap.push { cls := .type "tuple", data := .seq ((items.toList.drop (sIx items.size 0 lo)).take (sIx items.size items.size hi - sIx items.size 0 lo)).toArray } })
  (hsz : items.size <= sizeLine) : wpAny (model prog w) A (getItem (.ref t) (.ref sl)) Q E s := by
 have htake : sizeOk (.seq ((items.toList.drop (sIx items.size 0 lo)).take (sIx items.size items.size hi - sIx items.size 0 lo)).toArray) := by
  show ((items.toList.drop (sIx items.size 0 lo)).take (sIx items.size items.size hi - sIx items.size 0 lo)).toArray.size <= sizeLine
  rw [sT_, List.length_take, List.length_drop, Array.length_toList]
  omega
 have hj : sIx items.size items.size hi <= items.size := qmq _ _ (Nat.le_refl _) hi
 obtain ⟨os, hos, hcs, hds⟩ := id hs
 have hTs : s.TypeIs (.ref sl) "slice" := ⟨os, hos, hcs⟩
 unfold getItem
 try with_reducible refine wpAny_holding ?_
 first | refine wpAny_bind (wpAny_pure ?_) | skip
 refine wpAny_bind (wpAny_sequenceKey ht.typeIs (by decide) ?_)
 refine wpAny_bind (wpAny_callSpecial?_slot (name := Str.ofString "__getitem__") ht.typeIs PyProof.Rows.slot_tuple_getitem
  (wpAny_call_entry PyProof.Rows.slot_tuple_getitem ht.typeIs entry_tuple_getitem ?_ (args_tuple_getitem _ _)))
 show wpAny _ _ (Builtin.Tuple.tupleItemsOf (.ref t) >>= _) _ _ s
 refine wpAny_bind (tupleItemsOf_ ht ?_)
 refine wpAny_bind (wpAny_typeOf hTs ?_)
 rw [if_pos (by decide)]
 refine wpAny_bind (sliceApplied_gen hs pl pu ?_)
 have hno : ¬ ((((sIx items.size 0 lo : Nat) : Int) == 0 && (1 : Int) == 1 && (sIx items.size items.size hi - sIx items.size 0 lo) == items.size) = true) := by
  intro q
  rw [Bool.and_eq_true, Bool.and_eq_true] at q
  have q1 : ((sIx items.size 0 lo : Nat) : Int) = 0 := eq_of_beq q.1.1
  have q2 : sIx items.size items.size hi - sIx items.size 0 lo = items.size := eq_of_beq q.2
  exact hw ⟨by omega, by omega⟩
 show wpAny _ _ (if (((sIx items.size 0 lo : Nat) : Int) == 0 && (1 : Int) == 1 && (sIx items.size items.size hi - sIx items.size 0 lo) == items.size) = true then _ else _) _ _ s
 rw [if_neg hno, qip]
 first
  | exact wpAny_bind (m := Builtin.Tuple.tupleExact _) (wpAny_newObj_type (wpAny_pure ⟨_, rfl, wpAny_pure h⟩) htake)
  | exact wpAny_bind (m := Builtin.Tuple.tupleExact _) (wpAny_newObj_type (wpAny_bind (wpAny_pure (wpAny_pure ⟨_, rfl, wpAny_pure h⟩))) htake)
  | exact wpAny_bind (wpAny_bind (m := Builtin.Tuple.tupleExact _) (wpAny_newObj_type (wpAny_pure (wpAny_pure ⟨_, rfl, wpAny_pure h⟩)) htake))
  | exact wpAny_bind (wpAny_bind (m := Builtin.Tuple.tupleExact _) (wpAny_newObj_type (wpAny_pure ⟨_, rfl, wpAny_pure h⟩) htake))
end
end HT
namespace L2
open PySem PySem.Spec PyProof.Rows
abbrev TO := St -> Hp -> (Option Int -> Hp -> Prop) -> Prop
def PO (X : Cx) (e : Option Expr) (t : TO) : Prop :=
 ∀ (pins : List (Addr × Obj)) (s : Shared) (Z : St) (H : Hp) (Q : Option Int -> Hp -> Prop), Inv X pins Z H s -> t Z H Q ->
  wpAny (model X.prog X.w) X.A (evalPart e X.env) (fun u s' => ∃ o H', Inv X pins Z H' s' /\ IsPart u o /\ Q o H') X.xe s
def qkA : TO := fun _ H Q => Q none H
def qol (t : TE) : TO := fun Z H Q => t Z H fun x H1 => ∃ i, x = .int i /\ Q (some i) H1
theorem uE {ns : List Int} : ∀ {us : List Value}, zD (ns.map V.int) us -> IntsAre us ns := by
 induction ns with
 | nil => intro us r; rw [List.map_nil] at r; cases r; exact .nil
 | cons n ns ih =>
  intro us r
  rw [mC_] at r
  cases r with
  | cons r1 r2 =>
   obtain ⟨t, e⟩ := r1
   subst e
   exact .cons n t (ih r2)
section
variable {X : Cx} {e : Expr} {te : TE} {lo hi : Option Expr} {tl th : TO} {pos p2 : Pos}
theorem qkB : PO X none qkA := by
 intro pins s Z H Q I h
 rw [evalPart_none]
 exact wpAny_pure ⟨none, H, I, .none, h⟩
theorem qkC (h : PE X e te) : PO X (some e) (qol te) := by
 intro pins s Z H Q I hw
 rw [evalPart_some]
 refine thn (h pins s Z H _ I hw) fun u s1 ⟨x, H1, I1, r1, q1⟩ => ?_
 obtain ⟨i, rfl, q⟩ := q1
 obtain ⟨t, rfl⟩ := r1
 exact ⟨some i, H1, I1, .int i t, q⟩
def SlR (X : Cx) (r : V -> Option Int -> Option Int -> Hp -> VK -> Prop) : Prop :=
 ∀ (pins : List (Addr × Obj)) (s : Shared) (Z : St) (H : Hp) (x : V) (v vl vu : Value) (lo hi : Option Int) (sl : Addr) (Q : VK), Inv X pins Z H s -> yx x v -> s.heap.IsSliceOf sl vl vu .none -> IsPart vl lo -> IsPart vu hi -> r x lo hi H Q ->
  ∃ T id, typeLookup (.type T) "__getitem__" = pure (some (.builtin id)) /\ s.TypeIs v T /\ wpAny (model X.prog X.w) X.A (getItem v (.ref sl)) (EP X pins Z Q) X.xe s
theorem SlR.or {r r' : V -> Option Int -> Option Int -> Hp -> VK -> Prop} (h : SlR X r) (h' : SlR X r') : SlR X (fun x lo hi H Q => r x lo hi H Q \/ r' x lo hi H Q) := by
 intro pins s Z H x v vl vu lo hi sl Q I rx hs pl pu q
 rcases q with q | q
 ·exact h pins s Z H x v vl vu lo hi sl Q I rx hs pl pu q
 ·exact h' pins s Z H x v vl vu lo hi sl Q I rx hs pl pu q
def tSl (r : V -> Option Int -> Option Int -> Hp -> VK -> Prop) (te : TE) (tl th : TO) : TE := fun Z H Q => te Z H fun x H1 => tl Z H1 fun l H2 => th Z H2 fun u H3 => r x l u H3 Q
theorem qiq {r : V -> Option Int -> Option Int -> Hp -> VK -> Prop} (hr : SlR X r) (he : PE X e te) (hl : PO X lo tl) (hu : PO X hi th) : PE X (.Subscript e (.Slice lo hi none p2) pos) (tSl r te tl th) := by
 intro pins s Z H Q I h
 refine Subscript_ (thn (he pins s Z H _ I h) fun v s1 ⟨x, H1, I1, r1, q1⟩ => ?_)
 refine wpAny_Slice (thn (hl pins s1 Z H1 _ I1 q1) fun vl s2 ⟨l, H2, I2, pl, q2⟩ => thn (hu pins s2 Z H2 _ I2 q2) fun vu s3 ⟨u, H3, I3, pu, q3⟩ => ?_)
 rw [evalPart_none]
 refine wpAny_pure ?_
 have I4 : Inv X pins Z H3 { s3 with heap := s3.heap.push { cls := .type "slice", data := .fields #[vl, vu, .none] } } := I3.kept (t' := s3.toks) fun b ob q => Heap.get?_push_of_some _ q
 obtain ⟨T, id, hT, ht, hg⟩ := hr pins { s3 with heap := s3.heap.push { cls := .type "slice", data := .fields #[vl, vu, .none] } } Z H3 x v vl vu l u s3.heap.objs.size Q I4 r1 (Heap.IsSliceOf.new ..) pl pu q3
 show wpAny (model X.prog X.w) X.A (subscriptTail e (.Slice lo hi none p2) v (.ref s3.heap.objs.size)) (EP X pins Z Q) X.xe { s3 with heap := s3.heap.push { cls := .type "slice", data := .fields #[vl, vu, .none] } }
 exact tail_any (ops := [.ref s3.heap.objs.size, v]) ht hT hg (by with_unfolding_all rfl)
def qia (xs : List V) (lo hi : Option Int) : List V := (xs.drop (HT.sIx xs.length 0 lo)).take (HT.sIx xs.length xs.length hi - HT.sIx xs.length 0 lo)
theorem qa3 (xs : List V) (lo hi : Option Int) : (qia xs lo hi).length <= xs.length := by
 unfold qia
 rw [List.length_take, List.length_drop]
 omega
def qoV (K : PySem.W.Frag) : V -> Option Int -> Option Int -> Hp -> VK -> Prop := fun x lo hi H Q => ∃ a xs, x = .ref a /\ SqT K H a xs /\
 ¬ (HT.sIx xs.length 0 lo = 0 /\ HT.sIx xs.length xs.length hi = xs.length) /\ ∀ p, H p = none -> Q (.ref p) (upd H p (.tup (qia xs lo hi)))
theorem sl_tup : SlR X (qoV X.K) := by
 intro pins s Z H x v vl vu lo hi sl Q I rx hs pl pu h
 obtain ⟨a, xs, rfl, hx, hw, q⟩ := h
 cases rx
 obtain ⟨its, r, ht, hz⟩ := I.tuple hx
 have hlen : its.toArray.size = xs.length := by rw [sT_]; exact r.length.symm
 refine ⟨"tuple", _, PyProof.Rows.slot_tuple_getitem.lookup, ht.typeIs, ?_⟩
 refine HT.getItem_tuple_cut ht hs pl pu (by rw [hlen]; exact hw) ?_ (by rw [hlen]; exact hz)
 rw [hlen]
 refine ⟨.ref s.heap.objs.size, _, I.laid (t' := s.toks) (o := .tup (qia xs lo hi)) (fun b ob q => Heap.get?_push_of_some _ q) (Nat.le_refl _) ?_, rfl, q _ (I.hok.fresh (Nat.le_refl _))⟩
 exact ⟨Nat.le_trans (qa3 xs lo hi) hz, _, (r.drop (HT.sIx xs.length 0 lo)).take (HT.sIx xs.length xs.length hi - HT.sIx xs.length 0 lo), IsTup.new _ _⟩
def qmr (K : PySem.W.Frag) : R2 := fun x y H Q => ∃ a b xs ys, x = .ref a /\ y = .ref b /\ SqT K H a xs /\ SqT K H b ys /\ xs ≠ [] /\ xs.length + ys.length <= sizeLine /\
 (ys = [] -> Q (.ref a) H) /\ (ys ≠ [] -> ∀ p, H p = none -> Q (.ref p) (upd H p (.tup (xs ++ ys))))
theorem zD.nil_iff {xs : List V} {us : List Value} (r : zD xs us) : us = [] ↔ xs = [] := by
 cases r with
 | nil => simp
 | cons _ _ => simp
theorem qkD : OpR X (binaryOp .Add) (qmr X.K) := by
 intro pins s Z H x y v u Q I rx ry h
 obtain ⟨a, b, xs, ys, rfl, rfl, ha, hb, hx, hz, q1, q2⟩ := h
 cases rx
 cases ry
 obtain ⟨its, r1, p1, _⟩ := I.tuple ha
 obtain ⟨its2, r2, p2, _⟩ := I.tuple hb
 refine HT.cat_tup p1 p2 (fun z => hx (r1.nil_iff.mp z)) (fun z => ⟨.ref a, H, I, rfl, q1 (r2.nil_iff.mp z)⟩) (fun z => ?_) (by rw [<- r1.length, <- r2.length]; exact hz)
 refine ⟨.ref s.heap.objs.size, _, I.laid (t' := s.toks) (o := .tup (xs ++ ys)) (fun b ob q => Heap.get?_push_of_some _ q) (Nat.le_refl _) ?_, rfl, q2 (fun w => z (r2.nil_iff.mpr w)) _ (I.hok.fresh (Nat.le_refl _))⟩
 exact ⟨by rw [lA_]; exact hz, _, r1.append r2, IsTup.new _ _⟩
end
end L2
namespace L2
open PySem PySem.Spec PyProof.Rows
def ixN (n : Nat) (i : Int) : Option Nat := if 0 <= i then (if i < n then some i.toNat else none) else if -(n : Int) <= i then some (i + n).toNat else none
def atI {α : Type} (xs : List α) (i : Int) : Option α := (ixN xs.length i).bind fun j => xs[j]?
theorem qgA {n : Nat} {i : Int} {j : Nat} (h : ixN n i = some j) : seqIndex? i n = some j /\ j < n /\ -(n : Int) <= i /\ i < n := by
 unfold ixN at h
 by_cases h0 : 0 <= i
 ·rw [if_pos h0] at h
  by_cases h1 : i < n
  ·rw [if_pos h1] at h
   have e : i.toNat = j := Option.some.inj h
   exact ⟨by rw [seqIndex_of h0 h1, e], by omega, by omega, h1⟩
  ·rw [if_neg h1] at h; cases h
 ·rw [if_neg h0] at h
  by_cases h1 : -(n : Int) <= i
  ·rw [if_pos h1] at h
   have e : (i + n).toNat = j := Option.some.inj h
   exact ⟨by rw [seqIndex_neg (by omega) h1, e], by omega, h1, by omega⟩
  ·rw [if_neg h1] at h; cases h
theorem qgB {α : Type} {xs : List α} {i : Int} {v : α} (h : atI xs i = some v) : ∃ j, seqIndex? i xs.length = some j /\ xs[j]? = some v /\ j < xs.length /\ -(xs.length : Int) <= i /\ i < xs.length := by
 unfold atI at h
 cases e : ixN xs.length i with
 | none => rw [e] at h; cases h
 | some j =>
  rw [e] at h
  obtain ⟨h1, h2, h3, h4⟩ := qgA e
  exact ⟨j, h1, h, h2, h3, h4⟩
def qd1 (b : Expr) : Prop := ∀ o i, subscripted b false o i = operate [o, i] (getItem o i)
def IxR (X : Cx) (r : R2) : Prop :=
 ∀ (value slice : Expr) (pins : List (Addr × Obj)) (s : Shared) (Z : St) (H : Hp) (x y : V) (v u : Value) (Q : VK), Inv X pins Z H s -> yx x v -> yx y u -> r x y H Q ->
  subscripted slice false v u = operate [v, u] (getItem v u) -> wpAny (model X.prog X.w) X.A (subscriptTail value slice v u) (EP X pins Z Q) X.xe s
def MtR (X : Cx) (id : String) (r : V -> List V -> Hp -> VK -> Prop) : Prop :=
 ∀ (pins : List (Addr × Obj)) (s : Shared) (Z : St) (H : Hp) (x : V) (xs : List V) (v : Value) (us : List Value) (Q : VK), Inv X pins Z H s -> yx x v -> zD xs us -> r x xs H Q ->
  wpAny (model X.prog X.w) X.A (call (.builtin id) (v :: us)) (EP X pins Z Q) X.xe s
section
variable {X : Cx} {a b : Expr} {ta tb : TE} {pos : Pos}
theorem IxR.or {r r' : R2} (h : IxR X r) (h' : IxR X r') : IxR X (fun x y H Q => r x y H Q \/ r' x y H Q) := by
 intro value slice pins s Z H x y v u Q I rx ry q hs
 rcases q with q | q
 ·exact h value slice pins s Z H x y v u Q I rx ry q hs
 ·exact h' value slice pins s Z H x y v u Q I rx ry q hs
theorem MtR.or {id : String} {r r' : V -> List V -> Hp -> VK -> Prop} (h : MtR X id r) (h' : MtR X id r') : MtR X id (fun x xs H Q => r x xs H Q \/ r' x xs H Q) := by
 intro pins s Z H x xs v us Q I rx rs q
 rcases q with q | q
 ·exact h pins s Z H x xs v us Q I rx rs q
 ·exact h' pins s Z H x xs v us Q I rx rs q
theorem qms {r : R2} (hr : IxR X r) (ha : PE X a ta) (hb : PE X b tb) (hs : qd1 b) : PE X (.Subscript a b pos) (tOp r ta tb) := by
 intro pins s Z H Q I h
 exact Subscript_ (qoc ha hb I h fun v u s2 x y H2 I2 rx ry q => hr a b pins s2 Z H2 x y v u Q I2 rx ry q (hs _ _))
def qom (K : PySem.W.Frag) : R2 := fun x y H Q => ∃ p xs i v, x = .ref p /\ y = .int i /\ SqL K H p xs /\ atI xs i = some v /\ Q v H
def qon (K : PySem.W.Frag) : R2 := fun x y H Q => ∃ p xs i v, x = .ref p /\ y = .int i /\ SqT K H p xs /\ atI xs i = some v /\ Q v H
theorem qgC : IxR X (qom X.K) := by
 intro value slice pins s Z H x y v u Q I rx ry h hs
 obtain ⟨p, xs, i, z, rfl, rfl, hq, he, q⟩ := h
 cases rx
 obtain ⟨t, rfl⟩ := ry
 obtain ⟨its, r, pl, hz⟩ := I.list hq
 obtain ⟨j, h1, h2, h3, h4, h5⟩ := qgB he
 obtain ⟨w, ew, rw'⟩ := r.get h2
 have hl := r.length
 have hn := qa0
 have fin : EP X pins Z Q w s := ⟨z, H, I, rw', q⟩
 by_cases h0 : 0 <= i
 ·have hj : i.toNat = j := by
   rw [seqIndex_of h0 h5] at h1
   exact Option.some.inj h1
  exact item_listR pl.isList h0 (by omega) (by rw [hj]; simpa using ew) fin hs
 ·have hj : (i + (its.toArray.size : Int)).toNat = j := by
   rw [seqIndex_neg (by omega) h4] at h1
   rw [sT_, <- hl]
   exact Option.some.inj h1
  exact subscriptTail_builtinR (x := w) pl.isList.typeIs slot_list_getitem.lookup
   (wpAny_getItem_list_neg (Q := fun r s' => r = w /\ EP X pins Z Q r s') pl.isList (by omega) (by rw [sT_] <;> omega) (by omega) (by rw [hj]; simpa using ew) ⟨rfl, fin⟩) hs
theorem qmt : IxR X (qon X.K) := by
 intro value slice pins s Z H x y v u Q I rx ry h hs
 obtain ⟨p, xs, i, z, rfl, rfl, hq, he, q⟩ := h
 cases rx
 obtain ⟨t, rfl⟩ := ry
 obtain ⟨its, r, pl, hz⟩ := I.tuple hq
 obtain ⟨j, h1, h2, h3, h4, h5⟩ := qgB he
 obtain ⟨w, ew, rw'⟩ := r.get h2
 have hl := r.length
 have hn := qa0
 have fin : EP X pins Z Q w s := ⟨z, H, I, rw', q⟩
 exact subscriptTail_builtinR (x := w) pl.typeIs slot_tuple_getitem.lookup
  (getItem_tuple (j := j) (Q := fun r s' => r = w /\ EP X pins Z Q r s') pl (by omega) (by omega) (by rw [sT_, <- hl]; exact h1) (by simpa using ew) ⟨rfl, fin⟩) hs
theorem qfJ (its : List Value) (n j : Nat) (u : Value) : Obj.mapSeq (·.setIfInBounds j u) { cls := .type "list", data := .seq its.toArray n } = { cls := .type "list", data := .seq (its.set j u).toArray n } := by
 simp [Obj.mapSeq]
theorem Inv.lst {pins : List (Addr × Obj)} {Z : St} {H : Hp} {s : Shared} {p : Addr} {xs : List V} (I : Inv X pins Z H s) (h : H p = some (.lst xs)) :
  ∃ (its : List Value) (n : Nat), zD xs its /\ s.heap.get? p = some { cls := .type "list", data := .seq its.toArray n } /\ xs.length <= sizeLine := by
 obtain ⟨z, its, n, r, e⟩ := I.hok p _ h
 exact ⟨its, n, r, e, z⟩
theorem Inv.lstUpd {pins : List (Addr × Obj)} {Z : St} {H : Hp} {s : Shared} {p : Addr} {xs ys : List V} {its its' : List Value} {n n' : Nat} {f : Obj -> Obj} (I : Inv X pins Z H s) (h : H p = some (.lst xs))
  (ho : s.heap.get? p = some { cls := .type "list", data := .seq its.toArray n }) (hf : f { cls := .type "list", data := .seq its.toArray n } = { cls := .type "list", data := .seq its'.toArray n' }) (r : zD ys its') (hz : ys.length <= sizeLine) (t : Nat) :
  Inv X pins Z (upd H p (.lst ys)) { s with heap := s.heap.update p f, toks := t } := by
 have e : (s.heap.update p f).get? p = some { cls := .type "list", data := .seq its'.toArray n' } := by
  rw [Heap.get?_update_self f ho (by rw [hf] <;> rfl), hf]
 refine I.write (x := p) (e := p) (by rw [h]; trivial) (.inl rfl) (fun b u hb q => (Heap.get?_update_other _ _ (Ne.symm hb)).trans q) ⟨_, e⟩ ?_
 exact ⟨hz, its', n', r, e⟩
def qoo : V -> V -> V -> Hp -> (Hp -> Prop) -> Prop := fun o i v H Q => ∃ p xs k j, o = .ref p /\ i = .int k /\ H p = some (.lst xs) /\ ixN xs.length k = some j /\ Q (upd H p (.lst (xs.set j v)))
theorem qir : qoP X qoo := by
 intro pins s Z H o i v ov iv u Q I ro ri rv h
 obtain ⟨p, xs, k, j, rfl, rfl, hp, hj, q⟩ := h
 cases ro
 obtain ⟨t, rfl⟩ := ri
 obtain ⟨its, n, r, ho, hz⟩ := I.lst hp
 obtain ⟨h1, h2, h3, h4⟩ := qgA hj
 have hl := r.length
 have hn := qa0
 have I' : Inv X pins Z (upd H p (.lst (xs.set j v))) { s with heap := s.heap.update p (Obj.mapSeq (·.setIfInBounds j u)) } :=
  I.lstUpd hp ho (qfJ its n j u) (r.set rv j) (by rw [lS_]; exact hz) s.toks
 by_cases h0 : 0 <= k
 ·have hk : k.toNat = j := by
   rw [seqIndex_of h0 h4] at h1
   exact Option.some.inj h1
  exact PySem.W.ki_setAt ho h0 (by omega) (by rw [sT_, <- hl]; exact h4) (by rw [hk]; exact ⟨_, I', q⟩)
 ·have hk : (k + (its.toArray.size : Int)).toNat = j := by
   rw [seqIndex_neg (by omega) h3] at h1
   rw [sT_, <- hl]
   exact Option.some.inj h1
  exact PySem.W.ki_setBack ho (by omega) (by rw [sT_, <- hl]; exact h3) (by omega) (by rw [hk]; exact ⟨_, I', q⟩)
theorem qc7 (lo hi : Option Int) (n : Nat) : (sliceBounds lo hi none n).1 = ((HT.sIx n 0 lo : Nat) : Int) /\ (sliceBounds lo hi none n).2.1 = ((HT.sIx n n hi : Nat) : Int) /\ (sliceBounds lo hi none n).2.2 = 1 := by
 refine ⟨?_, ?_, rfl⟩
 ·cases lo with
  | none => simp [sliceBounds, HT.sIx]
  | some i =>
   simp only [sliceBounds, HT.sIx, Option.getD_none, show (1 : Int) > 0 by decide, if_true]
   by_cases h : i < 0
   ·simp only [h, if_true] <;> omega
   ·simp only [h, if_false] <;> omega
 ·cases hi with
  | none => simp [sliceBounds, HT.sIx]
  | some i =>
   simp only [sliceBounds, HT.sIx, Option.getD_none, show (1 : Int) > 0 by decide, if_true]
   by_cases h : i < 0
   ·simp only [h, if_true] <;> omega
   ·simp only [h, if_false] <;> omega
theorem qcl (its : List Value) (lo hi : Option Int) : slicePick its.toArray lo hi none = ((its.drop (HT.sIx its.length 0 lo)).take (HT.sIx its.length its.length hi - HT.sIx its.length 0 lo)).toArray := by
 obtain ⟨h1, h2, h3⟩ := qc7 lo hi its.toArray.size
 unfold slicePick
 rw [h1, h2, h3]
 simp only [sliceRange_one, pick_run, sT_] <;> rfl
def qpt (K : PySem.W.Frag) : V -> Option Int -> Option Int -> Hp -> VK -> Prop := fun x lo hi H Q => ∃ a xs, x = .ref a /\ SqL K H a xs /\ ∀ p, H p = none -> Q (.ref p) (upd H p (.lst (qia xs lo hi)))
theorem qkE : SlR X (qpt X.K) := by
 intro pins s Z H x v vl vu lo hi sl Q I rx hs pl pu h
 obtain ⟨a, xs, rfl, hx, q⟩ := h
 cases rx
 obtain ⟨its, r, ht, hz⟩ := I.list hx
 have hlen := r.length
 refine ⟨"list", _, slot_list_getitem.lookup, ht.isList.typeIs, ?_⟩
 refine wpAny_getItem_list_slice ht.isList hs pl pu .none (by simp) ?_ (by rw [sT_] <;> omega)
 rw [qcl, <- hlen]
 refine ⟨.ref s.heap.objs.size, _, I.laid (t' := s.toks) (o := .lst (qia xs lo hi)) (fun b ob q => Heap.get?_push_of_some _ q) (Nat.le_refl _) ?_, rfl, q _ (I.hok.fresh (Nat.le_refl _))⟩
 exact ⟨Nat.le_trans (qa3 xs lo hi) hz, _, 0, (r.drop (HT.sIx xs.length 0 lo)).take (HT.sIx xs.length xs.length hi - HT.sIx xs.length 0 lo), Heap.get?_push_size _ rfl⟩
def qpu : V -> Bool
 | .non => true
 | .bl _ => true
 | .int _ => true
 | .str _ => true
 | _ => false
def eqV : V -> V -> Bool
 | .non, .non => true
 | .bl a, .bl b => a == b
 | .bl a, .int b => (if a then 1 else 0) == b
 | .int a, .bl b => a == (if b then 1 else 0)
 | .int a, .int b => a == b
 | .str a, .str b => a == b
 | _, _ => false
theorem qc8 : yK X (.builtin "len") (fun xs H Q => ∃ p ys, xs = [.ref p] /\ (SqL X.K H p ys \/ SqT X.K H p ys) /\ Q (.int ys.length) H) := by
 intro pins s Z H xs us Q I r h
 obtain ⟨p, ys, rfl, hq, q⟩ := h
 obtain ⟨u, rfl, rx⟩ := qim r
 cases rx
 have hn := qa0
 rcases hq with hq | hq
 ·obtain ⟨its, r', pl, hz⟩ := I.list hq
  have hlen := r'.length
  exact Calls.call_len_list pl.isList (by simp only [sT_] <;> omega) ⟨.int ys.length, H, I.tok _, ⟨s.toks + 1, by rw [sT_, hlen]⟩, q⟩
 ·obtain ⟨its, r', pl, hz⟩ := I.tuple hq
  have hlen := r'.length
  exact len_tuple pl (by simp only [sT_] <;> omega) ⟨.int ys.length, H, I.tok _, ⟨s.toks + 1, by rw [sT_, hlen]⟩, q⟩
theorem qc9 : yK X (.builtin "len") (fun xs H Q => ∃ z, xs = [.str z] /\ z.length <= sizeLine /\ Q (.int z.length) H) := by
 intro pins s Z H xs us Q I r h
 obtain ⟨z, rfl, hz, q⟩ := h
 obtain ⟨u, rfl, t, rfl⟩ := qim r
 have hn := qa0
 exact len_str (by omega) ⟨.int z.length, H, I.tok _, ⟨_, rfl⟩, q⟩
theorem yK.or {f : Value} {r r' : List V -> Hp -> VK -> Prop} (h : yK X f r) (h' : yK X f r') : yK X f (fun xs H Q => r xs H Q \/ r' xs H Q) := by
 intro pins s Z H xs us Q I rs q
 rcases q with q | q
 ·exact h pins s Z H xs us Q I rs q
 ·exact h' pins s Z H xs us Q I rs q
theorem qda : yK X (.type "list") (fun xs H Q => ∃ p ys, xs = [.ref p] /\ (SqL X.K H p ys \/ SqT X.K H p ys) /\ ∀ l, H l = none -> Q (.ref l) (upd H l (.lst ys))) := by
 intro pins s Z H xs us Q I r h
 obtain ⟨p, ys, rfl, hq, q⟩ := h
 obtain ⟨u, rfl, rx⟩ := qim r
 cases rx
 have fin : ∀ (its : List Value), zD ys its -> ys.length <= sizeLine -> ∀ (h' : Heap) (c' : Nat), (∀ b o', s.heap.get? b = some o' -> h'.get? b = some o') ->
   h'.get? s.heap.objs.size = some { cls := .type "list", dict := none, data := .seq its.toArray c', slots := #[] } -> EP X pins Z Q (.ref s.heap.objs.size) { s with heap := h' } := fun its r' hz h' c' kp e =>
  ⟨.ref s.heap.objs.size, _, I.laid (t' := s.toks) kp (Nat.le_refl _) (show yY X.prog X.w _ h' _ (.lst ys) from ⟨hz, its, c', r', e⟩), rfl, q _ (I.hok.fresh (Nat.le_refl _))⟩
 rcases hq with hq | hq
 ·obtain ⟨its, r', pl, hz⟩ := I.list hq
  have hlen := r'.length
  obtain ⟨o, ho, hc, n, hd⟩ := pl.isList
  exact call_list_seq p (.inl rfl) ho hc hd (fun h' c' kp e => fin its r' hz h' c' kp e) (by simp only [sT_] <;> omega)
 ·obtain ⟨its, r', pl, hz⟩ := I.tuple hq
  have hlen := r'.length
  obtain ⟨o, ho, hc, n, hd⟩ := pl
  exact call_list_seq p (.inr rfl) ho hc hd (fun h' c' kp e => fin its r' hz h' c' kp e) (by simp only [sT_] <;> omega)
theorem wV : yK X (.type "tuple") (fun xs H Q => ∃ p ys, xs = [.ref p] /\ ((SqL X.K H p ys /\ ∀ l, H l = none -> Q (.ref l) (upd H l (.tup ys))) \/ (SqT X.K H p ys /\ Q (.ref p) H))) := by
 intro pins s Z H xs us Q I r h
 obtain ⟨p, ys, rfl, h⟩ := h
 obtain ⟨u, rfl, rx⟩ := qim r
 cases rx
 rcases h with ⟨hq, q⟩ | ⟨hq, q⟩
 ·obtain ⟨its, r', pl, hz⟩ := I.list hq
  have hlen := r'.length
  refine call_tuple_list pl.isList (fun h' kp => ?_) (by simp only [sT_] <;> omega)
  have I1 : Inv X pins Z H { s with heap := h' } := I.kept (t' := s.toks) kp
  have I2 : Inv X pins Z (upd H h'.objs.size (.tup ys)) { s with heap := h'.push { cls := .type "tuple", data := .seq its.toArray } } :=
   I1.laid (t' := s.toks) (fun b o e => Heap.get?_push_of_some _ e) (Nat.le_refl _) (show yY X.prog X.w _ _ _ (.tup ys) from ⟨hz, its, r', IsTup.new _ _⟩)
  exact ⟨.ref h'.objs.size, _, I2, rfl, q _ (I1.hok.fresh (Nat.le_refl _))⟩
 ·obtain ⟨its, r', pl, hz⟩ := I.tuple hq
  exact call_tuple_same pl ⟨.ref p, H, I, rfl, q⟩
def tyV (K : PySem.W.Frag) (T : String) (x : V) (H : Hp) : Prop := match x with
 | .str _ => T = "str"
 | .int _ => T = "int"
 | .ref p => (T = "list" /\ ∃ xs, SqL K H p xs) \/ (T = "tuple" /\ ∃ o, K.lookup p = some o /\ o.cls = .type "tuple" /\ o.dict = none) \/
   (T = "dict" /\ ((∃ kvs, H p = some (.dK kvs)) \/ ∃ kvs, H p = some (.dT kvs))) \/ (T = "set" /\ ∃ S n, H p = some (.set S n))
 | _ => False
theorem qmu {pins : List (Addr × Obj)} {Z : St} {H : Hp} {s : Shared} {T : String} {x : V} {v : Value} (I : Inv X pins Z H s) (r : yx x v) (ty : tyV X.K T x H) :
  s.TypeIs v T /\ ∀ a, v = .ref a -> ∃ ob, s.heap.get? a = some ob /\ ob.dict = none := by
 cases x with
 | str z =>
  obtain ⟨t, rfl⟩ := r
  cases (show T = "str" from ty)
  exact ⟨typeIs_str s z t, fun _ e => nomatch e⟩
 | int i =>
  obtain ⟨t, rfl⟩ := r
  cases (show T = "int" from ty)
  exact ⟨typeIs_int s i t, fun _ e => nomatch e⟩
 | ref p =>
  cases r
  rcases ty with ⟨rfl, xs, hq⟩ | ⟨rfl, o, hk, hc, hd⟩ | ⟨rfl, hk⟩ | ⟨rfl, S, n, hk⟩
  ·obtain ⟨its, _, pl, _⟩ := I.list hq
   refine ⟨pl.isList.typeIs, fun a e => ?_⟩
   cases e
   obtain ⟨o, n, e, c, hd, _⟩ := pl
   exact ⟨o, e, hd⟩
  ·refine ⟨⟨o, I.kIn p o hk, hc⟩, fun a e => ?_⟩
   cases e
   exact ⟨o, I.kIn _ o hk, hd⟩
  ·have z : ∃ o, s.heap.get? p = some o /\ o.ExactDict := by
    rcases hk with ⟨kvs, hk⟩ | ⟨kvs, hk⟩
    ·obtain ⟨_, _, _, _, o, _, _, e, ex, _⟩ := I.hok p _ hk
     exact ⟨o, e, ex⟩
    ·obtain ⟨_, _, _, _, o, _, _, e, ex, _⟩ := I.hok p _ hk
     exact ⟨o, e, ex⟩
   obtain ⟨o, e, ex⟩ := z
   refine ⟨⟨o, e, ex.1⟩, fun a e2 => ?_⟩
   cases e2
   exact ⟨o, e, ex.2.1⟩
  ·obtain ⟨o, _, _, _, e, ex, _⟩ := I.hok p _ hk
   refine ⟨⟨o, e, ex.1⟩, fun a e2 => ?_⟩
   cases e2
   exact ⟨o, e, ex.2.1⟩
 | _ => exact False.elim ty
def tBM (K : PySem.W.Frag) (T : String) (r : V -> List V -> Hp -> VK -> Prop) (to : TE) (t : TA) : TE := fun Z H Q => to Z H fun x H1 => tyV K T x H1 /\ t Z H1 fun xs H2 => r x xs H2 Q
variable {o e : Expr} {es : List Expr} {to : TE} {t : TA} {name : Str} {apos cpos : Pos} {T id : String} {r : V -> List V -> Hp -> VK -> Prop}
theorem qkF (pa : PlainAttrs T) (slot : Slot T name id) (hty : typeOf (.builtin id) = pure (.type "method_descriptor")) (hm : MtR X id r) (ho : PE X o to) (ha : PA X (e :: es) t)
  (hbase : attributeBase o name X.env (eval o X.env) = eval o X.env := by rfl)
  (hfew : ((backTo cpos (starEach (e :: es) X.env)).all (fun x => !x.1) && (backToKw cpos (keywordEach [] X.env)).all (fun x => x.1.isSome)
   && decide ((e :: es).length + ([] : List Keyword).length + (if ([] : List Keyword).isEmpty then 0 else 1) < 30)) = true := by rfl)
  (hline : (apos.endLine == cpos.line) = true := by rfl) (hs : starEach (e :: es) X.env = (false, eval e X.env) :: starEach es X.env := by rfl) (hplain : (backTo cpos (starEach es X.env)).any (·.1) = false := by rfl) :
  PE X (.Call (.Attribute o name apos) (e :: es) [] cpos) (tBM X.K T r to t) := by
 intro pins s Z H Q I h
 refine wpAny_Call_method_late hbase hfew hline rfl (thn (ho pins s Z H _ I h) fun v s1 ⟨x, H1, I1, r1, ty, q1⟩ => ?_)
 obtain ⟨h1, h2⟩ := qmu I1 r1 ty
 refine ⟨T, id, pa, slot, hty, h1, h2, ?_⟩
 have hA := ha cpos pins s1 Z H1 _ I1 q1
 rw [hs] at hA |-
 refine Calls.callWith_builtin (by show (false || (backTo cpos (starEach es X.env)).any (·.1)) = false; rw [hplain] <;> rfl) (Calls.evalArgs_plain ?_)
 exact thn hA fun us s2 ⟨vs, H2, I2, r2, q2⟩ => hm pins s2 Z H2 x vs v us Q I2 r1 r2 q2
/- xs.append(e), list.index on a module's tuple .. are MtR facts of 06m -/
end
end L2
namespace L2
open PySem PySem.Spec PyProof.Rows
def MtM (X : Cx) (id : String) (r : V -> List V -> Hp -> VK -> Prop) : Prop :=
 ∀ (pins : List (Addr × Obj)) (s : Shared) (Z : St) (H : Hp) (x : V) (xs : List V) (v : Value) (us : List Value) (Q : VK), Inv X pins Z H s -> yx x v -> zD xs us -> r x xs H Q ->
  wpAny (model X.prog X.w) X.A (call (.builtin id) (v :: us)) (EP X pins Z Q) X.xe s
theorem zD.one : ∀ {x : V} {us : List Value}, zD [x] us -> ∃ u, us = [u] /\ yx x u
 | _, _, .cons r .nil => ⟨_, rfl, r⟩
theorem zD.two : ∀ {x y : V} {us : List Value}, zD [x, y] us -> ∃ u v, us = [u, v] /\ yx x u /\ yx y v
 | _, _, _, .cons r (.cons q .nil) => ⟨_, _, rfl, r, q⟩
theorem zD.reverse {xs : List V} {us : List Value} (h : zD xs us) : zD xs.reverse us.reverse := by
 induction h with
 | nil => exact .nil
 | cons r t ih => rw [List.reverse_cons, List.reverse_cons]; exact zD.append ih (.cons r .nil)
theorem zD.rep {xs : List V} {us : List Value} (h : zD xs us) : ∀ k : Nat, zD (List.replicate k xs).flatten (List.replicate k us).flatten
 | 0 => .nil
 | k + 1 => by
  rw [rS_, rS_, List.flatten_cons, List.flatten_cons]
  exact zD.append h (zD.rep h k)
theorem qa4 (its : List Value) : ∀ (k : Nat) (acc : List Value),
  List.foldl (fun x1 x2 => x1 ++ x2) acc.toArray (List.replicate k its.toArray) = (acc ++ (List.replicate k its).flatten).toArray
 | 0, acc => by simp
 | k + 1, acc => by
  have e : acc.toArray ++ its.toArray = (acc ++ its).toArray := by simp
  have e2 : (acc ++ its) ++ (List.replicate k its).flatten = acc ++ (List.replicate (k + 1) its).flatten := by
   rw [rS_, List.flatten_cons, aA_]
  rw [<- e2, <- qa4 its k (acc ++ its), <- e, rS_, fo_]
section
variable {X : Cx} {pins : List (Addr × Obj)} {Z : St} {H : Hp} {s : Shared} {l b : Addr} {xs ys zs : List V}
theorem Inv.lset {its its' : List Value} {n : Nat} {f : Array Value -> Array Value} {t' : Nat} (I : Inv X pins Z H s) (hH : H l = some (.lst xs))
  (e : s.heap.get? l = some { cls := .type "list", data := .seq its.toArray n }) (hf : f its.toArray = its'.toArray) (hv : zD ys its') (hz : ys.length <= sizeLine) :
  Inv X pins Z (upd H l (.lst ys)) { s with heap := s.heap.update l (Obj.mapSeq f), toks := t' } := by
 have q := PySem.IsL.update e f
 rw [hf] at q
 refine I.write (x := l) (e := l) (by rw [hH]; exact trivial) (.inl rfl) (fun b' u hb hu => (Heap.get?_update_other s.heap (Obj.mapSeq f) (Ne.symm hb)).trans hu) ⟨_, q⟩ ?_
 exact ⟨hz, its', _, hv, q⟩
theorem Inv.lnew {its : List Value} {t' : Nat} (I : Inv X pins Z H s) (hv : zD ys its) (hz : ys.length <= sizeLine) :
  Inv X pins Z (upd H s.heap.objs.size (.lst ys)) { s with heap := s.heap.push { cls := .type "list", data := .seq its.toArray }, toks := t' } :=
 I.laid (fun _ _ q => Heap.get?_push_of_some _ q) (Nat.le_refl _) ⟨hz, its, 0, hv, Heap.get?_push_size _ rfl⟩
theorem Inv.fresh (I : Inv X pins Z H s) : H s.heap.objs.size = none := I.hok.fresh (Nat.le_refl _)
theorem Inv.lstM (I : Inv X pins Z H s) (hH : H l = some (.lst xs)) : xs.length <= sizeLine /\ ∃ (its : List Value) (n : Nat), zD xs its /\ xs.length = its.length /\ s.heap.get? l = some { cls := .type "list", data := .seq its.toArray n } := by
 obtain ⟨z, its, n, r, e⟩ := I.hok l _ hH
 exact ⟨z, its, n, r, r.length, e⟩
theorem qeJ {n : Nat} (h : n <= sizeLine) : Builtin.List.listTooLong n = false := by
 unfold Builtin.List.listTooLong
 exact decide_eq_false (by omega)
end
section
variable {X : Cx}
def qkG : V -> List V -> Hp -> VK -> Prop := fun x vs H Q => ∃ l xs y, x = .ref l /\ vs = [y] /\ H l = some (.lst xs) /\ xs.length < sizeLine /\ Q .non (upd H l (.lst (xs ++ [y])))
theorem qa5 : MtM X "list.append" qkG := by
 intro pins s Z H x vs v us Q I rx rv h
 obtain ⟨l, xs, y, rfl, rfl, hH, hz, q⟩ := h
 cases rx
 obtain ⟨u, rfl, ru⟩ := rv.one
 obtain ⟨z, its, n, r, hl, e⟩ := I.lstM hH
 refine call_meets F.slot_list_append ⟨_, e, rfl⟩ F.entry_list_append (F.args_list_append_2 _ _) (PySem.list_append l its.toArray n u (by rw [sT_]; omega)) ⟨e, ?_⟩
 refine ⟨.non, _, I.lset (its' := its ++ [u]) hH e (by simp) (r.append (.cons ru .nil)) ?_, rfl, q⟩
 rw [lA_, List.length_singleton]
 omega
def qkH : V -> List V -> Hp -> VK -> Prop := fun x vs H Q => ∃ l b xs zs, x = .ref l /\ vs = [.ref b] /\ H l = some (.lst xs) /\ H b = some (.lst zs) /\ xs.length + zs.length <= sizeLine /\ Q .non (upd H l (.lst (xs ++ zs)))
theorem qmv : MtM X "list.extend" qkH := by
 intro pins s Z H x vs v us Q I rx rv h
 obtain ⟨l, b, xs, zs, rfl, rfl, hH, hB, hz, q⟩ := h
 cases rx
 obtain ⟨u, rfl, ru⟩ := rv.one
 cases ru
 obtain ⟨z, its, n, r, hl, e⟩ := I.lstM hH
 obtain ⟨z2, its2, n2, r2, hl2, e2⟩ := I.lstM hB
 have hsz : its.toArray.size + its2.toArray.size <= sizeLine := by rw [sT_, sT_]; omega
 have hlong : ¬ (!its.toArray.isEmpty && Builtin.List.listTooLong (its.toArray.size + its2.toArray.size)) = true := by
  rw [qeJ hsz, Bool.and_false]
  exact Bool.false_ne_true
 refine call_meets F.slot_list_extend ⟨_, e, rfl⟩ F.entry_list_extend (F.args_list_extend_2 _ _)
  (AutoSeq1.list_extend_list_list_0 l its.toArray n b its2.toArray n2 hlong (by rw [sT_]; omega) (by omega)) ⟨e, e2, ?_⟩
 refine ⟨.non, _, I.lset (its' := its ++ its2) hH e (by simp) (r.append r2) ?_, rfl, q⟩
 rw [lA_]
 omega
def qoW : R2 := fun x y H Q => ∃ l b xs zs, x = .ref l /\ y = .ref b /\ H l = some (.lst xs) /\ H b = some (.lst zs) /\ xs.length + zs.length <= sizeLine /\ ∀ p, H p = none -> Q (.ref p) (upd H p (.lst (xs ++ zs)))
theorem qmw : OpR X (binaryOp .Add) qoW := by
 intro pins s Z H x y v u Q I rx ry h
 obtain ⟨l, b, xs, zs, rfl, rfl, hH, hB, hz, q⟩ := h
 cases rx
 cases ry
 obtain ⟨z, its, n, r, hl, e⟩ := I.lstM hH
 obtain ⟨z2, its2, n2, r2, hl2, e2⟩ := I.lstM hB
 refine PySem.P.add_list e e2 ?_ (by rw [sT_, sT_]; omega)
 have ea : its.toArray ++ its2.toArray = (its ++ its2).toArray := by simp
 rw [ea]
 exact ⟨.ref _, _, I.lnew (t' := s.toks) (r.append r2) (by rw [lA_]; omega), rfl, q _ I.fresh⟩
def qoX : R2 := fun x y H Q => ∃ l k xs, x = .ref l /\ y = .int k /\ H l = some (.lst xs) /\ -(2 ^ 63) <= k /\ k < 2 ^ 63 /\ xs.length * k.toNat <= sizeLine /\
 ∀ p, H p = none -> Q (.ref p) (upd H p (.lst (List.replicate k.toNat xs).flatten))
theorem qd2 {α : Type} (xs : List α) (k : Nat) : (List.replicate k xs).flatten.length = k * xs.length := by
 induction k with
 | zero => simp
 | succ k ih => rw [rS_, List.flatten_cons, lA_, ih, Nat.succ_mul, Nat.add_comm]
theorem qjD : OpR X (binaryOp .Mult) qoX := by
 intro pins s Z H x y v u Q I rx ry h
 obtain ⟨l, k, xs, rfl, rfl, hH, h1, h2, hz, q⟩ := h
 cases rx
 obtain ⟨t, rfl⟩ := ry
 obtain ⟨z, its, n, r, hl, e⟩ := I.lstM hH
 have hlen : its.toArray.size * k.toNat <= sizeLine := by rw [sT_, <- hl]; exact hz
 have hcap : ¬ its.toArray.size * k.toNat > (2 ^ 63 - 1) / 8 := by
  have : (sizeLine : Nat) <= (2 ^ 63 - 1) / 8 := by decide
  omega
 have hfit : ¬ (!Builtin.List.listFitsIndex k) = true := by
  rw [fitsIndex_both h1 h2]
  exact Bool.false_ne_true
 have hlong : ¬ Builtin.List.listTooLong (its.toArray.size * k.toNat) = true := by
  rw [qeJ hlen]
  exact Bool.false_ne_true
 have hnew : List.foldl (fun x1 x2 => x1 ++ x2) #[] (List.replicate (if its.toArray.isEmpty = true then 0 else k.toNat) its.toArray) = (List.replicate k.toNat its).flatten.toArray := by
  have f0 : ∀ m : Nat, List.foldl (fun x1 x2 => x1 ++ x2) #[] (List.replicate m its.toArray) = (List.replicate m its).flatten.toArray := fun m => by
   have := qa4 its m []
   rw [List.nil_append] at this
   exact this
  rw [f0]
  cases its with
  | nil => simp
  | cons a r' => rw [if_neg (by simp)]
 refine wpAny_binaryOp_repeat_ref (T := "list") (U := "int") (by decide) ⟨_, e, rfl⟩ (fun s' => typeIs_int s' k t) noFill_list_mul F.fills_int_mul F.slot_int_rmul repeat_list F.slot_int_index.lookup
  (call_meets F.slot_int_rmul (typeIs_int s k t) F.entry_int_rmul (F.args_int_rmul_2 _ _) (int___rmul___int_list k t l its.toArray n)
   ⟨e, rfl, ⟨_, e, rfl⟩, call_meets F.slot_list_mul ⟨_, e, rfl⟩ F.entry_list_mul (F.args_list_mul_2 _ _) (AutoListH.list___mul___list_int_3 l its.toArray n k t hfit hcap hlong) ⟨e, ?_⟩⟩)
 rw [hnew]
 exact ⟨.ref _, _, I.lnew (t' := s.toks) (r.rep k.toNat) (by rw [qd2, Nat.mul_comm]; exact hz), rfl, q _ I.fresh⟩
end
section
variable {prog : Program} {w : World} {A : Around} {E : Value -> Shared -> Prop} {s : Shared}
set_option maxRecDepth 100000 in
end
section
variable {X : Cx}
end
end L2
namespace Att
open PySem PySem.W PySem.Calls PyProof.Rows
theorem qa6 {P : Params} {h : Heap} : ∀ (ns : List Int) (vs : List Value), WellAll P h vs (ns.map WData.int) -> IntsAre vs ns := by
 intro ns
 induction ns with
 | nil =>
  intro vs w
  rw [List.map_nil] at w
  cases w
  exact .nil
 | cons n ns ih =>
  intro vs w
  rw [mC_] at w
  cases w with
  | cons a b =>
   cases a
   exact .cons _ _ (ih _ b)
theorem qgD {l : OpenLaw} {n : Nat} (hn : l.most = some n) {P : Params} {h : Heap} {args : List WData} {vals : List Value}
  (hpre : l.row.toRowW.claim.pre args = true) (hwl : WellAll P h vals args) :
  ∃ a vs ns, vals = [Value.ref a] /\ args = [WData.list (ns.map WData.int)] /\ h.get? a = some { cls := .type "list", data := .seq vs.toArray } /\ IntsAre vs ns /\ ns.length <= n := by
 have hsh : WShape.hasAll [] args [.list .int] = true := (pre_splitW hpre).1
 have hc : l.pre.holds [] { args := args } = true := (pre_splitW hpre).2
 obtain ⟨d, r, rfl, h1, h2⟩ := hasAllW_cons hsh
 obtain rfl := hasAllW_nil h2
 obtain ⟨xs, rfl, h3⟩ := hasW_list h1
 obtain ⟨ns, rfl⟩ := items_int h3
 have hlen : ns.length <= n := by
  unfold OpenLaw.pre at hc
  have h4 : (WTm.not (.lt (.lit (.int (n : Int))) (.len (.arg 0)))).holds [] { args := [.list (ns.map .int)] } = true := by
   have h4 := (holds_andW hc).1
   rw [hn] at h4
   exact h4
  have h5 := condW_of h4 (w_not (w_lt w_lit (w_len_list (w_arg rfl))))
  rw [lM_] at h5
  refine Nat.le_of_not_lt fun q => ?_
  have q' : (n : Int) < ((ns.length : Nat) : Int) := by omega
  first
   | (rw [decide_eq_true q'] at h5; exact absurd h5 (by decide))
   | (simp at h5; omega)
 cases hwl with
 | cons w1 w2 =>
  cases w2
  cases w1 with
  | list ho hall => exact ⟨_, _, ns, rfl, rfl, ho, qa6 ns _ hall, hlen⟩
theorem qgE (l : OpenLaw) (args : List WData) : l.row.toRowW.claim.post args (.bool true) args = true :=
 postW_of (r := l.row.toRowW) (X := (true == true))
  (show WShape.has [] (.bool true) .bool = true by first | rfl | decide | simp [WShape.has, WShape.arms, WShape.armsAll])
  (show (WTm.eq .res (.lit (.bool true))).value [] { args := args, res := some (.bool true), after := args } = some (.bool (true == true)) from w_eq_bool (w_res rfl) w_lit) rfl
theorem attach_call {l : OpenLaw} {n : Nat} {q : Program} {loose : List Str} {XP : (Str -> Option Value) -> Heap -> Prop} {YP : World -> Heap -> Prop} {d : DefRec}
  (hn : l.most = some n) (hdf : d.params.defaults = [])
  (call : ∀ (w : World) (s₀ s₁ : Shared) (mg mb : Str -> Option Value) (fa : Addr) (o : Obj) (pm cd doc : Value) (a : Addr) (vs : List Value) (ns : List Int),
   Ground q loose [] XP w s₀ mg mb s₁.heap -> YP w s₁.heap ->
   s₁.heap.get? fa = some o -> o.data = .func (docDef d.name d.params d.body d.scope pm cd doc) -> s₁.heap.CodeRec cd d.name -> mg d.name = some (.ref fa) ->
   s₁.heap.get? a = some { cls := .type "list", data := .seq vs.toArray } -> IntsAre vs ns -> ns.length <= n -> s₁.gens = #[] ->
   codeAny (model l.prog w) callerA (.call (.ref fa) ⟨[.ref a], []⟩) (fun r s' => r = .ok (.ret (.bool true)) /\ OldK s₁.heap s'.heap /\ s'.os = s₁.os /\ AllBare s'.gens) s₁) :
  WalkO q loose XP YP l.row.toRowW d [] (fun f vs => PySem.call f vs) := by
 intro w s₀ s₁ mg mb G Y fa o pm cd doc dV kV ho hd hcd hD hmg hg args vals as hpre hlay hrd hwl hlo
 obtain rfl : dV = .none := Dflts.none hD hdf
 obtain rfl : kV = .none := Dflts.noKw hD
 obtain ⟨a, vs, ns, rfl, rfl, hobj, hints, hlen⟩ := qgD hn hpre hwl
 refine enter_call (codeAny_mono (call w s₀ s₁ mg mb fa o pm cd doc a vs ns G Y ho (fd_plain hd) hcd hmg hobj hints hlen hg) fun r s' hq => ?_)
 obtain ⟨rfl, h2, h3, h4⟩ := hq
 exact ⟨.inl ⟨.bool true, .bool true, [], rfl, fun _ => rfl, .bool true, qgE l _, fun _ => ⟨List.Pairwise.nil, fun _ hm => (nomatch hm)⟩⟩, h2, h3, h4⟩
section
variable {prog : Program} {w : World} {A : Around} {E : Value -> Shared -> Prop} {s : Shared} {K : Frag}
end
end Att
namespace L2
open PySem PySem.Spec PyProof.Rows
theorem qdb : ∀ {vs : List Value} {ns : List Int}, IntsAre vs ns -> zD (ns.map V.int) vs
 | _, _, .nil => .nil
 | _, _, .cons n t h => .cons ⟨t, rfl⟩ (qdb h)
def qnS (H : Hp) : Prop := ∀ b, H b = none \/ ∃ o xs, H b = some (.frz o (.lst xs))
theorem qis {P : Program} {w : World} {K : PySem.W.Frag} {mg mb : Str -> Option Value} {CX : CXT} {k : Nat} {fa a : Addr} {fd : FuncData} {x : Str} {sp : Sp} {s₁ : Shared} {vs : List Value} {ns : List Int}
  (KX : K.In s₁.heap) (hns : s₁.heap.Ns mainGlobals mg) (hb : s₁.heap.Ns builtinsNs mb) (hbb : ∀ x : Str, x ≠ "__name__" -> mb x = bootBuiltins x) (hlim : s₁.heap.NoLimit) (hg : s₁.gens = #[])
  (ha : s₁.heap.get? a = some { cls := .type "list", data := .seq vs.toArray }) (hi : IntsAre vs ns) (hl : ns.length <= sizeLine) (hr : wn k callerA)
  (F : ∀ base : Heap, K.In base -> base.Ns mainGlobals mg -> qc2 P w K mg base CX k fa fd [x] sp) (hbind : ∀ (s : Shared) (u : Value), BindsTo s fd ⟨[u], []⟩ [(x, u)])
  (hsp : ∀ H : Hp, qnS H -> SqL K H a (ns.map V.int) -> sp [.ref a] H (fun v _ => v = .bl true) fun _ _ _ => False)
  (hCX : ∀ H e s', CX [] H s₁ (fun _ _ _ => False) e s' -> False) :
  codeAny (model P w) callerA (.call (.ref fa) ⟨[.ref a], []⟩) (fun r s' => r = .ok (.ret (.bool true)) /\ OldK s₁.heap s'.heap /\ s'.os = s₁.os /\ AllBare s'.gens) s₁ := by
 have rv := qdb hi
 have lenV := hi.length
 have core : ∀ H : Hp, qnS H -> SqL K H a (ns.map V.int) -> HOk P w H s₁.heap -> (∀ b, H b ≠ none -> b = a) -> (H a ≠ none -> K.lookup a = none) ->
   codeAny (model P w) callerA (.call (.ref fa) ⟨[.ref a], []⟩) (fun r s' => r = .ok (.ret (.bool true)) /\ OldK s₁.heap s'.heap /\ s'.os = s₁.os /\ AllBare s'.gens) s₁ := by
  intro H hO hS hok hA hK
  have base_of : ∀ {b : Addr} {o : Obj}, s₁.heap.get? b = some o -> H b = none -> (qic s₁.heap H).get? b = some o := fun e n => qid e n
  have noA : ∀ {b : Addr} {o : Obj} {es : Array DictEntry} {ep : Nat}, s₁.heap.get? b = some o -> o.data = .dict es ep -> H b = none := fun {b o es ep} e d => by
   cases q : H b with
   | none => rfl
   | some u =>
    have e' : b = a := hA b (by rw [q]; simp)
    subst e'
    rw [ha] at e; cases e
    have d' : Data.seq vs.toArray _ = Data.dict es ep := d
    cases d'
  have nsK : ∀ {b : Addr} {m : Str -> Option Value}, s₁.heap.Ns b m -> (qic s₁.heap H).Ns b m := fun {b m} ⟨o, es, ep, e, d, r⟩ => ⟨o, es, ep, base_of e (noA e d), d, r⟩
  have hKb : K.In (qic s₁.heap H) := fun b o e => base_of (KX b o e) (by
   cases q : H b with
   | none => rfl
   | some u =>
    have e' : b = a := hA b (by rw [q]; simp)
    subst e'
    rw [hK (by rw [q]; simp)] at e; cases e)
  have hM : Mod K mg (qic s₁.heap H) := ⟨hKb, nsK hns, ⟨mb, nsK hb, hbb⟩, let ⟨mc, h1, h2⟩ := hlim; ⟨mc, nsK h1, h2⟩⟩
  have e0 : qnR P w K mg (qic s₁.heap H) callerA [] s₁ H := ⟨rfl, hM, fun b o e => qkk e, Nat.le_of_eq (qgl _ _), trivial, fun b hb => absurd (show b ∈ ([] : List Addr) from hb) (by simp), hok, .of_eq hg⟩
  refine codeAny_mono ((F _ hKb (nsK hns)).run callerA [] s₁ H ⟨[.ref a], []⟩ [.ref a] [.ref a] _ _ hr e0 (hbind s₁ (.ref a)) (.cons rfl .nil) (hsp H hO hS)) fun r s' h => ?_
  cases r with
  | error e => exact (hCX H e s' h).elim
  | ok fl =>
   cases fl with
   | next => exact False.elim h
   | brk => exact False.elim h
   | cont => exact False.elim h
   | ret u =>
    obtain ⟨v, H', os, bare, un, hok', r', q⟩ := h
    have q' : v = .bl true := q
    subst q'
    obtain rfl : u = Value.bool true := r'
    refine ⟨rfl, OldK.of_keep fun b o e => ?_, os, bare⟩
    cases q : H b with
    | none => exact un.keep b o e q (by intro z; exact absurd (show b ∈ ([] : List Addr) from z) (by simp)) (by simp)
    | some u =>
     rcases hO b with z | ⟨ob, xs, z⟩
     ·rw [q] at z; cases z
     ·have z2 := un.frzs b ob _ z
      obtain ⟨e1, _⟩ := hok b _ z
      obtain ⟨e2, _⟩ := hok' b _ z2
      rw [e] at e1; cases e1
      exact e2
 cases hk : K.lookup a with
 | some o =>
  have e := KX a o hk
  rw [ha] at e
  cases e
  refine core (fun _ => none) (fun _ => .inl rfl) (.inr ⟨_, vs.toArray, _, hk, rfl, rfl, rfl, by rw [sT_, lenV]; exact hl, by simpa using rv⟩) (fun b u z => by have z' : (none : Option HO) = some u := z; cases z') (fun b z => absurd rfl z) fun z => absurd rfl z
 | none =>
  refine core (fun b => if b = a then some (.frz { cls := .type "list", data := .seq vs.toArray } (.lst (ns.map V.int))) else none) (fun b => ?_) (.inl (.inr ⟨{ cls := .type "list", data := .seq vs.toArray }, if_pos rfl⟩)) (fun b u z => ?_) (fun b z => ?_) fun _ => hk
  ·by_cases hb : b = a
   ·exact .inr ⟨_, _, if_pos hb⟩
   ·exact .inl (if_neg hb)
  ·by_cases hb : b = a
   ·have z' := (if_pos hb).symm.trans z
    cases z'
    subst hb
    exact ⟨ha, by rw [lM_]; exact hl, vs, _, rv, ha⟩
   ·have z' := (if_neg hb).symm.trans z
    cases z'
  ·by_cases hb : b = a
   ·exact hb
   ·exact absurd (if_neg hb) z
end L2
namespace L2
open PySem PySem.Spec PyProof.Rows
theorem walk_of {l : PySem.W.OpenLaw} {n k : Nat} {q : Program} {loose : List Str} {XP : (Str -> Option Value) -> Heap -> Prop} {YP : World -> Heap -> Prop} {d : DefRec} {K : Params -> PySem.W.Frag} {CX : World -> CXT} {sp : World -> Sp} {x : Str}
  (hn : l.most = some n) (hn2 : n <= sizeLine) (hdf : d.params.defaults = []) (hr : wn k callerA)
  (hY : ∀ (w : World) (h : Heap), YP w h -> (K w.params).In h)
  (F : ∀ (w : World) (mg : Str -> Option Value) (fa : Addr) (h : Heap), (K w.params).In h -> h.Ns mainGlobals mg -> mg d.name = some (.ref fa) ->
   ∃ fd : FuncData, (∀ (s : Shared) (u : Value), BindsTo s fd ⟨[u], []⟩ [(x, u)]) /\
    ∀ base : Heap, (K w.params).In base -> base.Ns mainGlobals mg -> qc2 l.prog w (K w.params) mg base (CX w) k fa fd [x] (sp w))
  (hsp : ∀ (w : World) (H : Hp) (a : Addr) (ns : List Int), ns.length <= n -> qnS H -> SqL (K w.params) H a (ns.map V.int) -> sp w [.ref a] H (fun v _ => v = .bl true) fun _ _ _ => False)
  (hCX : ∀ (w : World) (H : Hp) (s : Shared) (e : Value) (s' : Shared), CX w [] H s (fun _ _ _ => False) e s' -> False) :
  PySem.W.WalkO q loose XP YP l.row.toRowW d [] (fun f vs => PySem.call f vs) := by
 refine Att.attach_call hn hdf fun w s₀ s₁ mg mb fa o pm cd doc a vs ns G Y ho hd hcd hmg hobj hints hlen hg => ?_
 have KX := hY w _ Y
 obtain ⟨fd, hb, hF⟩ := F w mg fa _ KX G.T.g hmg
 exact qis KX G.T.g G.T.b G.T.builtins G.T.nolimit hg hobj hints (Nat.le_trans hlen hn2) hr hF hb (fun H hO hS => hsp w H a ns hlen hO hS) fun H e s' => hCX w H s₁ e s'
end L2
/- THE LAST THEOREM (shape; LID, My.* are yours):
   My.Adr: a structure of the addresses that your layer names (classes, functions); My.Txt K t: a structure (Prop) of the equations over K;
   My.txt_mk : {K} {implicit addresses ..} (e1 : nsIn K mainGlobals "law" = some (some (.ref f))) (e2 : K.lookup f = some ⟨oc, od, .func (fnOf "law" "law" params body scope dV kV doc pm an cdv ct), sl⟩) (e3 : codeIn K cdv "law" = true) .. : ∃ t, My.Txt K t
set_option maxRecDepth 100000 in
set_option maxHeartbeats 0 in
theorem PySem.Challenge.cw_LID_holds : PySem.Challenge.rw_LID.Holds := by
 w_on; o_law; k_head; (case hw => w_witness2)
 k_fill
 refine L2.walk_of (l := PySem.Challenge.rw_LID) (n := 63) (k := 40) (x := "script") (CX := fun w => ..) (sp := fun _ => My.sp_law) rfl (by decide) rfl ⟨rfl, by decide, by decide⟩ (fun w h Y => PySem.W.kIn_of Y) ?F ?S ?C
 case F =>
  intro w mg fa h KX G hmg
  have T : ∃ t, My.Txt (L2.KOf KX) t := by
   dsimp only [L2.KOf]                          -- K must stand as «<heap const> w.params» for k_is
   refine' My.txt_mk ?e1 ?e2 ?e3 ..
   (case e1 => PySem.W.k_is)                    -- in the order: a name -> its address -> its object -> its parts
   (case e2 => PySem.W.k_is)
   ..
  obtain ⟨t, T⟩ := T
  have e0 := hmg.symm.trans (PySem.W.mg_of KX G T.law)
  cases e0                                       -- fa is the law's own address
  exact ⟨_, fun s u => .of_eq rfl, fun base kb nb => My.law_fn T kb nb⟩     -- if «.of_eq rfl» comes too early: refine' ⟨_, ?b, fun base kb nb => My.law_fn T kb nb⟩; exact fun s u => .of_eq rfl
 case S => exact fun w H a ns hl hO hS => ..
 case C => exact ..
(the tactic k_is has no namespace: write k_is) -/
namespace L2
open PySem PySem.Spec PyProof.Rows
def qt (s : Stmt) : Arguments := match s with
 | .FunctionDef _ a _ _ _ _ _ _ _ _ => a
 | _ => { posonlyargs := [], args := [], vararg := none, kwonlyargs := [], kw_defaults := [], kwarg := none, defaults := [] }
def qo (s : Stmt) : List Stmt := match s with
 | .FunctionDef _ _ b _ _ _ _ _ _ _ => b
 | _ => []
def qd (s : Stmt) : Scope := match s with
 | .FunctionDef _ _ _ _ _ _ sc _ _ _ => sc
 | _ => { kind := .function, names := [], isGenerator := false, isCoroutine := false }
abbrev CX0 : CXT := fun _ _ _ _ _ _ => False
abbrev E0 : XK := fun _ _ _ => False
theorem qkI {X : Cx} : qgx CX0 X E0 := fun _ _ _ _ _ _ _ h => h.elim
structure Fun (K : PySem.W.Frag) (x qual : Str) (st : Stmt) (f : Addr) (fd : FuncData) : Prop where
 ex : ∃ (oc : Value) (od : Option Addr) (kV doc pm : Value) (an : Option Addr) (cdv ct : Value) (osl : Array (Option Value)),
  fd = PySem.W.fnOf x qual (qt st) (qo st) (qd st) .none kV doc pm an cdv ct /\ K.lookup f = some ⟨oc, od, .func fd, osl⟩ /\ PySem.W.codeIn K cdv qual = true
 kp : PySem.W.keepIn K (.ref f) = true
section
variable {P : Program} {w : World} {K : PySem.W.Frag} {mg : Str -> Option Value} {base : Heap}
theorem Fun.ok {x qual : Str} {st : Stmt} {f : Addr} {fd : FuncData} {N ps : List Str} {k : Nat} {sp : Sp} (F : Fun K x qual st f fd) (S : qr N ps (qd st)) (len : ∀ vs H Q E, sp vs H Q E -> vs.length = ps.length)
  (hbody : ∀ (cdv : Value) (A : Around) (outer : List Env) (s : Shared) (H : Hp) (vs : List V) (Q : VK) (E : XK), wn k (A.deeper (envOfC qual (qd st) s.heap.objs.size f cdv)) -> sp vs H Q E ->
   ∃ t, PSs (qjC CX0 P w K mg base N qual (qd st) f cdv A outer s H E).nox (qo st) t /\ t { nx := fun _ H' => Q .non H', rt := Q } (start N vs) H) : qc2 P w K mg base CX0 (k + 1) f fd ps sp := by
 obtain ⟨oc, od, kV, doc, pm, an, cdv, ct, osl, rfl, lk, hcd⟩ := F.ex
 refine qok lk hcd S len fun A outer s H vs Q E hr hsp => ?_
 obtain ⟨t, h, q⟩ := hbody cdv A outer s H vs Q E hr hsp
 exact ⟨t, h.nox, q⟩
theorem Fun.binds {x qual : Str} {st : Stmt} {f : Addr} {fd : FuncData} {ps : List Str} (F : Fun K x qual st f fd)
  (h : ∀ (kV doc pm : Value) (an : Option Addr) (cdv ct : Value) (us : List Value), us.length = ps.length -> bindArgs (PySem.W.fnOf x qual (qt st) (qo st) (qd st) .none kV doc pm an cdv ct) ⟨us, []⟩ = pure (ps.zip us)) : qci K fd ps [] := by
 obtain ⟨oc, od, kV, doc, pm, an, cdv, ct, osl, rfl, lk, hcd⟩ := F.ex
 exact .all (h kV doc pm an cdv ct)
theorem qD {x qual : Str} {st : Stmt} {f : Addr} {oc : Value} {od an : Option Addr} {osl : Array (Option Value)} {kV doc pm cdv ct : Value} (l : K.lookup f = some ⟨oc, od, .func (PySem.W.fnOf x qual (qt st) (qo st) (qd st) .none kV doc pm an cdv ct), osl⟩)
  (c : PySem.W.codeIn K cdv qual = true) (k : PySem.W.keepIn K (.ref f) = true) : Fun K x qual st f (PySem.W.fnOf x qual (qt st) (qo st) (qd st) .none kV doc pm an cdv ct) := ⟨⟨oc, od, kV, doc, pm, an, cdv, ct, osl, rfl, l, c⟩, k⟩
end
section
variable {X : Cx}
end
theorem qlM {A B : Prop} (h : B) : if false = true then A else B := by
 rw [if_neg Bool.false_ne_true]
 exact h
theorem qlN {A B : Prop} (h : A) : if true = true then A else B := by
 rw [if_pos rfl]
 exact h
def jY (H H' : Hp) : Prop := ∀ b o, H b = some o -> H' b = some o
theorem jY.refl (H : Hp) : jY H H := fun _ _ h => h
theorem jY.trans {H H1 H2 : Hp} (a : jY H H1) (b : jY H1 H2) : jY H H2 := fun c o h => b c o (a c o h)
theorem jY.free {H H' : Hp} (e : jY H H') {l : Addr} (h : H' l = Option.none) : H l = Option.none := by
 cases q : H l with
 | none => rfl
 | some o =>
  rw [e l o q] at h
  cases h
end L2
namespace L2.Sk
open PySem PySem.Spec PyProof.Rows
inductive D where
 | non | bl (b : Bool) | int (i : Int) | str (x : Str) | tup (xs : List D) | lst (xs : List D) | dic (kvs : List (Key × Int)) | fz (ns : List Int)
 | exc (n : Str)
abbrev Fr0 := PySem.W.Frag
structure XK6 (K : Fr0) (D : Addr) : Prop where
 ga : PySem.W.findIn K (.ref D) "__getattribute__" = some (some (.builtin "BaseException.__getattribute__"))
 gt : PySem.W.findIn K (.ref D) "__getattr__" = some none
 cl : PySem.W.findIn K (.ref D) "__class__" = some (some (.builtin "object.__class__"))
 ob : PySem.W.mroIn K D (.type "object") = some true
 be : PySem.W.subIn K (.ref D) (.type "BaseException") = some true
 is : (PySem.W.clsIn K D).isSome = true
 no : ∀ T ∈ ["int", "bool", "str", "tuple", "list", "dict"], PySem.W.kitOne K (.ref D) (.type T) = some false
def qit (K : Fr0) (n : Str) : Option Addr := match PySem.W.nsIn K mainGlobals n with
 | some (some (.ref C)) => some C
 | _ => none
def clR (K : Fr0) (RN : List Str) (n : Str) : Option Addr := if RN.contains n then qit K n else none
def qpv (K : Fr0) (H : Hp) (a : Addr) (n : Str) : Prop := ∃ C, qit K n = some C /\ XK6 K C /\ ∃ o vs, H a = some (.frz o (.own a)) /\ o.cls = .ref C /\ o.data = .fields vs
def ur (K : Fr0) (H : Hp) (a : Addr) (xs : List V) : Prop :=
 H a = some (.tup xs) \/ ∃ (o : Obj) (its : Array Value) (n : Nat), K.lookup a = some o /\ o.cls = .type "tuple" /\ o.data = .seq its n /\ its.size <= sizeLine /\ zD xs its.toList
def qmx (K : Fr0) (H : Hp) (a : Addr) (xs : List V) : Prop :=
 (∃ o, H a = some (.frz o (.lst xs))) \/ ∃ (o : Obj) (its : Array Value) (n : Nat), K.lookup a = some o /\ o.cls = .type "list" /\ o.dict = none /\ o.data = .seq its n /\ its.size <= sizeLine /\ zD xs its.toList
theorem ur.sq {K : Fr0} {H : Hp} {a : Addr} {xs : List V} (h : ur K H a xs) : SqT K H a xs := by
 rcases h with h | h
 ·exact .inl (.inl h)
 ·exact .inr h
theorem qmx.sq {K : Fr0} {H : Hp} {a : Addr} {xs : List V} (h : qmx K H a xs) : SqL K H a xs := by
 rcases h with h | h
 ·exact .inl (.inr h)
 ·exact .inr h
mutual
def Is (K : Fr0) (A : Addr -> Prop) (H : Hp) : D -> V -> Prop
 | .non, v => v = .non
 | .bl b, v => v = .bl b
 | .int i, v => v = .int i
 | .str x, v => v = .str x
 | .tup ds, v => ∃ a xs, v = .ref a /\ ur K H a xs /\ IsL K A H ds xs
 | .lst ds, v => ∃ a xs, v = .ref a /\ A a /\ H a = some (.lst xs) /\ IsL K A H ds xs
 | .dic kvs, v => ∃ a, v = .ref a /\ A a /\ H a = some (.dK (kvs.map fun p => (p.1, V.int p.2)))
 | .fz ns, v => ∃ a, v = .ref a /\ qmx K H a (ns.map V.int)
 | .exc n, v => ∃ a, v = .ref a /\ qpv K H a n
def IsL (K : Fr0) (A : Addr -> Prop) (H : Hp) : List D -> List V -> Prop
 | [], xs => xs = []
 | d :: ds, xs => ∃ x ys, xs = x :: ys /\ Is K A H d x /\ IsL K A H ds ys
end
mutual
def imm : D -> Bool
 | .tup ds => immL ds
 | .lst _ => false
 | .dic _ => false
 | .fz _ => false
 | _ => true
def immL : List D -> Bool
 | [] => true
 | d :: ds => imm d && immL ds
end
structure Ext (A : Addr -> Prop) (H H' : Hp) : Prop where
 tup : ∀ b xs, H b = some (.tup xs) -> H' b = some (.tup xs)
 frz : ∀ b o u, H b = some (.frz o u) -> H' b = some (.frz o u)
 at_ : ∀ b o, A b -> H b = some o -> H' b = some o
theorem Ext.refl {A : Addr -> Prop} {H : Hp} : Ext A H H := ⟨fun _ _ h => h, fun _ _ _ h => h, fun _ _ _ h => h⟩
theorem Ext.of_same {A : Addr -> Prop} {H H' : Hp} (s : jY H H') : Ext A H H' := ⟨fun b xs h => s b _ h, fun b o u h => s b _ h, fun b o _ h => s b o h⟩
mutual
theorem Is.ext {K : Fr0} {A B : Addr -> Prop} {H H' : Hp} (e : Ext A H H') (hAB : ∀ a, A a -> (H a).isSome = true -> B a) : ∀ {d : D} {v : V}, Is K A H d v -> Is K B H' d v
 | .non, _, h => h
 | .bl _, _, h => h
 | .int _, _, h => h
 | .str _, _, h => h
 | .tup ds, _, ⟨a, xs, hv, h, r⟩ => ⟨a, xs, hv, h.elim (fun h => .inl (e.tup _ _ h)) .inr, IsL.ext e hAB r⟩
 | .lst ds, _, ⟨a, xs, hv, hA, h, r⟩ => ⟨a, xs, hv, hAB a hA (by rw [h]; rfl), e.at_ _ _ hA h, IsL.ext e hAB r⟩
 | .dic kvs, _, ⟨a, hv, hA, h⟩ => ⟨a, hv, hAB a hA (by rw [h]; rfl), e.at_ _ _ hA h⟩
 | .fz ns, _, ⟨a, hv, h⟩ => ⟨a, hv, h.elim (fun ⟨o, h⟩ => .inl ⟨o, e.frz _ _ _ h⟩) .inr⟩
 | .exc n, _, ⟨a, hv, C, hc, hk, o, vs, h, r⟩ => ⟨a, hv, C, hc, hk, o, vs, e.frz _ _ _ h, r⟩
theorem IsL.ext {K : Fr0} {A B : Addr -> Prop} {H H' : Hp} (e : Ext A H H') (hAB : ∀ a, A a -> (H a).isSome = true -> B a) : ∀ {ds : List D} {xs : List V}, IsL K A H ds xs -> IsL K B H' ds xs
 | [], _, h => h
 | _ :: _, _, ⟨x, ys, hx, h, r⟩ => ⟨x, ys, hx, Is.ext e hAB h, IsL.ext e hAB r⟩
end
mutual
theorem Is.imm {K : Fr0} {A B : Addr -> Prop} {H : Hp} : ∀ {d : D} {v : V}, imm d = true -> Is K A H d v -> Is K B H d v
 | .non, _, _, h => h
 | .bl _, _, _, h => h
 | .int _, _, _, h => h
 | .str _, _, _, h => h
 | .tup ds, _, i, ⟨a, xs, hv, h, r⟩ => ⟨a, xs, hv, h, IsL.imm (by simpa [Sk.imm] using i) r⟩
 | .lst _, _, i, _ => by simp [Sk.imm] at i
 | .dic _, _, i, _ => by simp [Sk.imm] at i
 | .fz _, _, i, _ => by simp [Sk.imm] at i
 | .exc _, _, _, h => h
theorem IsL.imm {K : Fr0} {A B : Addr -> Prop} {H : Hp} : ∀ {ds : List D} {xs : List V}, immL ds = true -> IsL K A H ds xs -> IsL K B H ds xs
 | [], _, _, h => h
 | d :: ds, _, i, ⟨x, ys, hx, h, r⟩ => by
  have i' : Sk.imm d = true /\ immL ds = true := by simpa [immL] using i
  exact ⟨x, ys, hx, Is.imm i'.1 h, IsL.imm i'.2 r⟩
end
theorem IsL.length {K : Fr0} {A : Addr -> Prop} {H : Hp} : ∀ {ds : List D} {xs : List V}, IsL K A H ds xs -> xs.length = ds.length
 | [], _, h => by rw [h]; rfl
 | _ :: _, _, ⟨x, ys, hx, _, r⟩ => by rw [hx, lC_, lC_, IsL.length r]
theorem IsL.get {K : Fr0} {A : Addr -> Prop} {H : Hp} : ∀ {ds : List D} {xs : List V} {i : Nat} {d : D}, IsL K A H ds xs -> ds[i]? = some d -> ∃ x, xs[i]? = some x /\ Is K A H d x
 | [], _, _, _, _, h => by simp at h
 | e :: _, _, 0, d, ⟨x, ys, hx, h, r⟩, hd => by
  have e1 : e = d := by simpa using hd
  subst e1
  exact ⟨x, by rw [hx]; rfl, h⟩
 | _ :: ds, _, i + 1, d, ⟨x, ys, hx, h, r⟩, hd => by
  obtain ⟨y, h1, h2⟩ := IsL.get (i := i) (d := d) r (by simpa using hd)
  exact ⟨y, by rw [hx]; simpa using h1, h2⟩
theorem IsL.append {K : Fr0} {A : Addr -> Prop} {H : Hp} : ∀ {ds es : List D} {xs ys : List V}, IsL K A H ds xs -> IsL K A H es ys -> IsL K A H (ds ++ es) (xs ++ ys)
 | [], _, _, _, h, g => by rw [h]; exact g
 | _ :: _, _, _, _, ⟨x, zs, hx, h, r⟩, g => ⟨x, zs ++ _, by rw [hx]; rfl, h, IsL.append r g⟩
theorem IsL.take {K : Fr0} {A : Addr -> Prop} {H : Hp} : ∀ {ds : List D} {xs : List V} (n : Nat), IsL K A H ds xs -> IsL K A H (ds.take n) (xs.take n)
 | _, _, 0, _ => by simp [IsL]
 | [], _, _ + 1, h => by rw [h]; simp [IsL]
 | _ :: _, _, n + 1, ⟨x, ys, hx, h, r⟩ => by rw [hx]; exact ⟨x, ys.take n, rfl, h, IsL.take n r⟩
theorem IsL.drop {K : Fr0} {A : Addr -> Prop} {H : Hp} : ∀ {ds : List D} {xs : List V} (n : Nat), IsL K A H ds xs -> IsL K A H (ds.drop n) (xs.drop n)
 | _, _, 0, h => h
 | [], _, _ + 1, h => by rw [h]; simp [IsL]
 | _ :: _, _, n + 1, ⟨x, ys, hx, h, r⟩ => by rw [hx]; exact IsL.drop n r
theorem IsL.one {K : Fr0} {A : Addr -> Prop} {H : Hp} {d : D} {v : V} (h : Is K A H d v) : IsL K A H [d] [v] := ⟨v, [], rfl, h, rfl⟩
theorem IsL.set {K : Fr0} {A : Addr -> Prop} {H : Hp} {d : D} {v : V} (hd : Is K A H d v) : ∀ {ds : List D} {xs : List V} (n : Nat), IsL K A H ds xs -> IsL K A H (ds.set n d) (xs.set n v)
 | [], _, _, h => by rw [h]; simp [IsL]
 | _ :: _, _, 0, ⟨x, ys, hx, h, r⟩ => by rw [hx]; exact ⟨v, ys, rfl, hd, r⟩
 | _ :: _, _, n + 1, ⟨x, ys, hx, h, r⟩ => by rw [hx]; exact ⟨x, ys.set n v, rfl, h, IsL.set hd n r⟩
abbrev Env := List (Option D)
structure Exn where
 cls : Str
 val : D
inductive R (α : Type) where
 | ok (a : α) | exc (x : Exn) (U : Env) | bad
structure Fc where
 O : List Nat
 P : List Nat
 B : Addr -> Prop
 H0 : Hp
 Io : Addr -> Prop
 E : Exn -> Hp -> Prop
 S : Nat -> Option (Option V)
def Cl (O : List Nat) (Z : St) (a : Addr) : Prop := ∀ j ∈ O, Z[j]? ≠ some (some (.ref a))
def Cn (c : Fc) (Z : St) (a : Addr) : Prop := c.B a /\ Cl c.O Z a
structure Rep (K : Fr0) (c : Fc) (U : Env) (Z : St) (H : Hp) : Prop where
 len : U.length = Z.length
 val : ∀ i d, U[i]? = some (some d) -> ∃ v, Z[i]? = some (some v) /\
  ((i ∈ c.O /\ ∃ ds a xs, d = .lst ds /\ v = .ref a /\ H a = some (.lst xs) /\ IsL K (Cn c Z) H ds xs) \/ (i ∉ c.O /\ Is K (Cn c Z) H d v))
 own : ∀ j ∈ c.O, ∀ v, Z[j]? = some (some v) -> ∃ a xs, v = .ref a /\ H a = some (.lst xs) /\ (c.H0 a = none \/ (j ∈ c.P /\ c.Io a))
 inj : ∀ i j a, i ∈ c.O -> j ∈ c.O -> Z[i]? = some (some (.ref a)) -> Z[j]? = some (some (.ref a)) -> i = j
 b0 : ∀ a, c.H0 a = none -> c.B a
 kp : ∀ b o, c.H0 b = some o -> ¬ c.Io b -> H b = some o
 dm : ∀ b, H b = none -> c.H0 b = none
 pO : ∀ j ∈ c.P, j ∈ c.O
 ps : ∀ j ∈ c.P, Z[j]? = c.S j
structure Gr (O : List Nat) (Z : St) (H H' : Hp) : Prop where
 ext : Ext (Cl O Z) H H'
 dom : ∀ b, H' b = none -> H b = none
theorem Gr.refl {O : List Nat} {Z : St} {H : Hp} : Gr O Z H H := ⟨Ext.refl, fun _ h => h⟩
theorem Gr.of_same {O : List Nat} {Z : St} {H H' : Hp} (s : jY H H') : Gr O Z H H' := ⟨Ext.of_same s, fun _ h => s.free h⟩
theorem Gr.trans {O : List Nat} {Z : St} {H H1 H2 : Hp} (a : Gr O Z H H1) (b : Gr O Z H1 H2) : Gr O Z H H2 :=
 ⟨⟨fun c xs h => b.ext.tup c xs (a.ext.tup c xs h), fun c o u h => b.ext.frz c o u (a.ext.frz c o u h), fun c o hc h => b.ext.at_ c o hc (a.ext.at_ c o hc h)⟩, fun c h => a.dom c (b.dom c h)⟩
theorem Gr.cn {c : Fc} {Z : St} {H H' : Hp} (g : Gr c.O Z H H') : Ext (Cn c Z) H H' := ⟨g.ext.tup, g.ext.frz, fun b o hb h => g.ext.at_ b o hb.2 h⟩
theorem Gr.is {K : Fr0} {c : Fc} {Z : St} {H H' : Hp} {d : D} {v : V} (g : Gr c.O Z H H') (h : Is K (Cn c Z) H d v) : Is K (Cn c Z) H' d v := Is.ext g.cn (fun _ h _ => h) h
theorem Gr.isL {K : Fr0} {c : Fc} {Z : St} {H H' : Hp} {d : List D} {v : List V} (g : Gr c.O Z H H') (h : IsL K (Cn c Z) H d v) : IsL K (Cn c Z) H' d v := IsL.ext g.cn (fun _ h _ => h) h
theorem Rep.new {K : Fr0} {c : Fc} {U : Env} {Z : St} {H : Hp} (r : Rep K c U Z H) {a : Addr} (h : H a = none) : Cn c Z a :=
 ⟨r.b0 a (r.dm a h), fun j hj e => by obtain ⟨b, xs, e1, e2, _⟩ := r.own j hj _ e; cases e1; rw [h] at e2; cases e2⟩
theorem Rep.same {K : Fr0} {c : Fc} {U : Env} {Z : St} {H H' : Hp} (r : Rep K c U Z H) (s : jY H H') : Rep K c U Z H' where
 len := r.len
 val := fun i d h => by
  obtain ⟨v, h1, h2⟩ := r.val i d h
  refine ⟨v, h1, ?_⟩
  rcases h2 with ⟨hi, ds, a, xs, h3, h5, h6, h7⟩ | ⟨hi, h3⟩
  ·exact .inl ⟨hi, ds, a, xs, h3, h5, s _ _ h6, IsL.ext (Ext.of_same s) (fun _ h _ => h) h7⟩
  ·exact .inr ⟨hi, Is.ext (Ext.of_same s) (fun _ h _ => h) h3⟩
 own := fun j hj v h => by
  obtain ⟨a, xs, h1, h2, h3⟩ := r.own j hj v h
  exact ⟨a, xs, h1, s _ _ h2, h3⟩
 inj := r.inj
 b0 := r.b0
 kp := fun b o h1 h2 => s _ _ (r.kp b o h1 h2)
 dm := fun b h => r.dm b (s.free h)
 pO := r.pO
 ps := r.ps
theorem Rep.get {K : Fr0} {c : Fc} {U : Env} {Z : St} {H : Hp} (r : Rep K c U Z H) {i : Nat} {d : D} (hi : i ∉ c.O) (h : U[i]? = some (some d)) : ∃ v, Z[i]? = some (some v) /\ Is K (Cn c Z) H d v := by
 obtain ⟨v, h1, h2⟩ := r.val i d h
 rcases h2 with ⟨h3, _⟩ | ⟨_, h3⟩
 ·exact absurd h3 hi
 ·exact ⟨v, h1, h3⟩
theorem Rep.getO {K : Fr0} {c : Fc} {U : Env} {Z : St} {H : Hp} (r : Rep K c U Z H) {i : Nat} {d : D} (hi : i ∈ c.O) (h : U[i]? = some (some d)) :
  ∃ ds a xs, d = .lst ds /\ Z[i]? = some (some (.ref a)) /\ H a = some (.lst xs) /\ IsL K (Cn c Z) H ds xs := by
 obtain ⟨v, h1, h2⟩ := r.val i d h
 rcases h2 with ⟨_, ds, a, xs, h3, h5, h6, h7⟩ | ⟨h3, _⟩
 ·subst h5; exact ⟨ds, a, xs, h3, h1, h6, h7⟩
 ·exact absurd hi h3
abbrev M (α : Type) := Env -> R (α × Env)
def Wp (K : Fr0) (c : Fc) (Z : St) (H : Hp) (Q : VK) : R (D × Env) -> Prop
 | .ok (d, U) => ∀ v H', Rep K c U Z H' -> Is K (Cn c Z) H' d v -> Gr c.O Z H H' -> Q v H'
 | .exc x U => ∀ H', Rep K c U Z H' -> Gr c.O Z H H' -> c.E x H'
 | .bad => False
def WpB (K : Fr0) (c : Fc) (Z : St) (H : Hp) (Q : Bool -> Hp -> Prop) : R (Bool × Env) -> Prop
 | .ok (b, U) => ∀ H', Rep K c U Z H' -> Gr c.O Z H H' -> Q b H'
 | .exc x U => ∀ H', Rep K c U Z H' -> Gr c.O Z H H' -> c.E x H'
 | .bad => False
def WpL (K : Fr0) (c : Fc) (Z : St) (H : Hp) (Q : List V -> Hp -> Prop) : R (List D × Env) -> Prop
 | .ok (ds, U) => ∀ vs H', Rep K c U Z H' -> IsL K (Cn c Z) H' ds vs -> Gr c.O Z H H' -> Q vs H'
 | .exc x U => ∀ H', Rep K c U Z H' -> Gr c.O Z H H' -> c.E x H'
 | .bad => False
def DE (X : Cx) (c : Fc) (e : Expr) (f : M D) : Prop := ∃ t, PE X e t /\ ∀ U Z H Q, Rep X.K c U Z H -> Wp X.K c Z H Q (f U) -> t Z H Q
def DT (X : Cx) (c : Fc) (e : Expr) (f : M Bool) : Prop := ∃ t, PT X e t /\ ∀ U Z H Q, Rep X.K c U Z H -> WpB X.K c Z H Q (f U) -> t Z H Q
def DA (X : Cx) (c : Fc) (es : List Expr) (f : M (List D)) : Prop := ∃ t, PA X es t /\ ∀ U Z H Q, Rep X.K c U Z H -> WpL X.K c Z H Q (f U) -> t Z H Q
def ret {α : Type} (a : α) : M α := fun U => .ok (a, U)
def bnd {α β : Type} (f : M α) (k : α -> M β) : M β := fun U => match f U with
 | .ok (a, U') => k a U'
 | .exc x U' => .exc x U'
 | .bad => .bad
def lift {α : Type} : Option α -> M α
 | some a => ret a
 | none => fun _ => .bad
theorem qgF {α β : Type} {f : M α} {k : α -> M β} {U U' : Env} {a : α} (h : f U = .ok (a, U')) : bnd f k U = k a U' := by unfold bnd; rw [h]
section
variable {K : Fr0} {c : Fc} {Z : St} {H H1 : Hp} {Q : VK} {QB : Bool -> Hp -> Prop} {QL : List V -> Hp -> Prop} {r : R (D × Env)}
theorem Wp.gr : ∀ {r : R (D × Env)}, Wp K c Z H Q r -> Gr c.O Z H H1 -> Wp K c Z H1 Q r
 | .ok (d, U), h, g => fun v H' hr hi hg => h v H' hr hi (g.trans hg)
 | .exc x U, h, g => fun H' hr hg => h H' hr (g.trans hg)
 | .bad, h, _ => h
theorem WpB.gr : ∀ {r : R (Bool × Env)}, WpB K c Z H QB r -> Gr c.O Z H H1 -> WpB K c Z H1 QB r
 | .ok (d, U), h, g => fun H' hr hg => h H' hr (g.trans hg)
 | .exc x U, h, g => fun H' hr hg => h H' hr (g.trans hg)
 | .bad, h, _ => h
theorem WpL.gr : ∀ {r : R (List D × Env)}, WpL K c Z H QL r -> Gr c.O Z H H1 -> WpL K c Z H1 QL r
 | .ok (d, U), h, g => fun v H' hr hi hg => h v H' hr hi (g.trans hg)
 | .exc x U, h, g => fun H' hr hg => h H' hr (g.trans hg)
 | .bad, h, _ => h
theorem Wp.bnd {f : M D} {k : D -> M D} {U : Env} {Q' : VK} (h : Wp K c Z H Q (bnd f k U)) (hQ : ∀ d U' v H', Rep K c U' Z H' -> Is K (Cn c Z) H' d v -> Gr c.O Z H H' -> Wp K c Z H' Q (k d U') -> Q' v H') : Wp K c Z H Q' (f U) := by
 unfold Sk.bnd at h
 cases e : f U with
 | ok p => rw [e] at h; exact fun v H' hr hi hg => hQ p.1 p.2 v H' hr hi hg (h.gr hg)
 | exc x U' => rw [e] at h; exact h
 | bad => rw [e] at h; exact h
theorem Wp.bndB {f : M D} {k : D -> M Bool} {U : Env} {Q' : VK} (h : WpB K c Z H QB (Sk.bnd f k U)) (hQ : ∀ d U' v H', Rep K c U' Z H' -> Is K (Cn c Z) H' d v -> Gr c.O Z H H' -> WpB K c Z H' QB (k d U') -> Q' v H') : Wp K c Z H Q' (f U) := by
 unfold Sk.bnd at h
 cases e : f U with
 | ok p => rw [e] at h; exact fun v H' hr hi hg => hQ p.1 p.2 v H' hr hi hg (h.gr hg)
 | exc x U' => rw [e] at h; exact h
 | bad => rw [e] at h; exact h
theorem Wp.bndL {f : M D} {k : D -> M (List D)} {U : Env} {Q' : VK} (h : WpL K c Z H QL (Sk.bnd f k U)) (hQ : ∀ d U' v H', Rep K c U' Z H' -> Is K (Cn c Z) H' d v -> Gr c.O Z H H' -> WpL K c Z H' QL (k d U') -> Q' v H') : Wp K c Z H Q' (f U) := by
 unfold Sk.bnd at h
 cases e : f U with
 | ok p => rw [e] at h; exact fun v H' hr hi hg => hQ p.1 p.2 v H' hr hi hg (h.gr hg)
 | exc x U' => rw [e] at h; exact h
 | bad => rw [e] at h; exact h
theorem WpB.bnd {f : M Bool} {k : Bool -> M D} {U : Env} {Q' : Bool -> Hp -> Prop} (h : Wp K c Z H Q (Sk.bnd f k U)) (hQ : ∀ d U' H', Rep K c U' Z H' -> Gr c.O Z H H' -> Wp K c Z H' Q (k d U') -> Q' d H') : WpB K c Z H Q' (f U) := by
 unfold Sk.bnd at h
 cases e : f U with
 | ok p => rw [e] at h; exact fun H' hr hg => hQ p.1 p.2 H' hr hg (h.gr hg)
 | exc x U' => rw [e] at h; exact h
 | bad => rw [e] at h; exact h
theorem WpB.bndB {f : M Bool} {k : Bool -> M Bool} {U : Env} {Q' : Bool -> Hp -> Prop} (h : WpB K c Z H QB (Sk.bnd f k U)) (hQ : ∀ d U' H', Rep K c U' Z H' -> Gr c.O Z H H' -> WpB K c Z H' QB (k d U') -> Q' d H') : WpB K c Z H Q' (f U) := by
 unfold Sk.bnd at h
 cases e : f U with
 | ok p => rw [e] at h; exact fun H' hr hg => hQ p.1 p.2 H' hr hg (h.gr hg)
 | exc x U' => rw [e] at h; exact h
 | bad => rw [e] at h; exact h
theorem WpL.bnd {f : M (List D)} {k : List D -> M D} {U : Env} {Q' : List V -> Hp -> Prop} (h : Wp K c Z H Q (Sk.bnd f k U)) (hQ : ∀ d U' v H', Rep K c U' Z H' -> IsL K (Cn c Z) H' d v -> Gr c.O Z H H' -> Wp K c Z H' Q (k d U') -> Q' v H') : WpL K c Z H Q' (f U) := by
 unfold Sk.bnd at h
 cases e : f U with
 | ok p => rw [e] at h; exact fun v H' hr hi hg => hQ p.1 p.2 v H' hr hi hg (h.gr hg)
 | exc x U' => rw [e] at h; exact h
 | bad => rw [e] at h; exact h
theorem WpL.bndL {f : M (List D)} {k : List D -> M (List D)} {U : Env} {Q' : List V -> Hp -> Prop} (h : WpL K c Z H QL (Sk.bnd f k U)) (hQ : ∀ d U' v H', Rep K c U' Z H' -> IsL K (Cn c Z) H' d v -> Gr c.O Z H H' -> WpL K c Z H' QL (k d U') -> Q' v H') : WpL K c Z H Q' (f U) := by
 unfold Sk.bnd at h
 cases e : f U with
 | ok p => rw [e] at h; exact fun v H' hr hi hg => hQ p.1 p.2 v H' hr hi hg (h.gr hg)
 | exc x U' => rw [e] at h; exact h
 | bad => rw [e] at h; exact h
theorem Wp.lift {o : Option D} {U : Env} (h : Wp K c Z H Q (Sk.lift o U)) : ∃ d, o = some d /\ ∀ v H', Rep K c U Z H' -> Is K (Cn c Z) H' d v -> Gr c.O Z H H' -> Q v H' := by
 cases o with
 | none => exact h.elim
 | some d => exact ⟨d, rfl, h⟩
end
section
variable {X : Cx} {c : Fc} {a b e : Expr} {pos : Pos}
theorem qu {i j pos} : DE X c (.Constant (.int i) j pos) (ret (.int i)) := ⟨_, qjv, fun _ _ H Q r h => h _ H r rfl .refl⟩
theorem vo {i j pos} : DE X c (.Constant (.bool i) j pos) (ret (.bl i)) := ⟨_, qn0, fun _ _ H Q r h => h _ H r rfl .refl⟩
theorem qa7 {j pos} : DE X c (.Constant .none j pos) (ret .non) := ⟨_, ql1, fun _ _ H Q r h => h _ H r rfl .refl⟩
def dv (i : Nat) : M D := fun U => match U[i]? with
 | some (some d) => .ok (d, U)
 | _ => .bad
theorem qa (i : Nat) {x : Str} (ho : i ∉ c.O := by exact of_decide_eq_false rfl) (hN : X.N[i]? = some x := by rfl) (hv : Vis X.env.scope x := by first | exact Or.inl rfl | exact Or.inr (Or.inl rfl) | exact Or.inr (Or.inr rfl)) (hd : (x == ("__debug__" : Str)) = false := by decide)
  (hcd : (x == ("__classdict__" : Str)) = false := by decide) : DE X c (.Name x pos) (dv i) := by
 refine ⟨_, qaE hN hv hd hcd, fun U Z H Q r h => ?_⟩
 unfold dv at h
 split at h
 ·rename_i d e
  obtain ⟨v, h1, h2⟩ := r.get ho e
  exact ⟨v, h1, h v H r h2 .refl⟩
 ·exact h.elim
theorem qkJ {x : Str} {v : V} {u : Value} {d : D} (hg : Gl X x) (hm : X.mg x = some u) (rv : yx v u) (hd : ∀ H A, Is X.K A H d v) (hdb : (x == ("__debug__" : Str)) = false := by decide) : DE X c (.Name x pos) (ret d) :=
 ⟨_, qkm hg hm rv hdb, fun _ _ H Q r h => h _ H r (hd _ _) .refl⟩
theorem qf : DA X c [] (ret []) := ⟨_, qbW, fun _ _ H Q r h => h _ H r rfl .refl⟩
def qb (f : M D) (g : M (List D)) : M (List D) := bnd f fun d => bnd g fun ds => ret (d :: ds)
theorem qc {es : List Expr} {f : M D} {g : M (List D)} (ha : DE X c e f) (hr : DA X c es g) (hs : starEach (e :: es) X.env = (false, eval e X.env) :: starEach es X.env := by rfl) : DA X c (e :: es) (qb f g) := by
 obtain ⟨ta, pa, wa⟩ := ha
 obtain ⟨tr, pr, wr⟩ := hr
 refine ⟨_, uT pa pr hs, fun U Z H Q r h => wa U Z H _ r (Wp.bndL h fun d U1 v H1 r1 i1 g1 h1 => wr U1 Z H1 _ r1 (WpL.bndL h1 fun ds U2 vs H2 r2 i2 g2 h2 => ?_))⟩
 exact h2 _ H2 r2 ⟨v, vs, rfl, g2.is i1, i2⟩ .refl
def qZ (n : Nat) : Bool := decide (n <= sizeLine)
def qa8 (f : M (List D)) : M D := bnd f fun ds => lift (if qZ ds.length then some (.tup ds) else none)
def qcm (f : M (List D)) : M D := bnd f fun ds => lift (if qZ ds.length then some (.lst ds) else none)
theorem qy {H : Hp} {p : Addr} (h : H p = none) (o : HO) : jY H (upd H p o) := fun b u q => by rw [qJ (zn q h)]; exact q
theorem Rep.laid {K : Fr0} {U : Env} {Z : St} {H : Hp} (r : Rep K c U Z H) {p : Addr} (h : H p = none) (o : HO) : Rep K c U Z (upd H p o) := r.same (qy h o)
theorem jN {p : Bool} {d e : D} (h : (if p then some d else none) = some e) : p = true /\ d = e := by
 cases p with
 | true => exact ⟨rfl, by simpa using h⟩
 | false => simp at h
theorem qa9 {es : List Expr} {x1} {f : M (List D)} (h : DA X c es f) : DE X c (.Tuple es x1 pos) (qa8 f) := by
 obtain ⟨t, p, w⟩ := h
 refine ⟨_, qmn p, fun U Z H Q r h => w U Z H _ r (WpL.bnd h fun ds U1 vs H1 r1 i1 g1 h1 => ?_)⟩
 obtain ⟨d, e, h2⟩ := h1.lift
 obtain ⟨e1, e2⟩ := jN e
 subst e2
 refine ⟨by rw [i1.length]; exact of_decide_eq_true e1, fun p hp => h2 _ _ (r1.laid hp _) ⟨p, vs, rfl, .inl qA, IsL.ext (Ext.of_same (qy hp _)) (fun _ h _ => h) i1⟩ (.of_same (qy hp _))⟩
theorem qba {es : List Expr} {f : M (List D)} (h : DA X c es f) : DE X c (.List es pos) (qcm f) := by
 obtain ⟨t, p, w⟩ := h
 refine ⟨_, qgw p, fun U Z H Q r h => w U Z H _ r (WpL.bnd h fun ds U1 vs H1 r1 i1 g1 h1 => ?_)⟩
 obtain ⟨d, e, h2⟩ := h1.lift
 obtain ⟨e1, e2⟩ := jN e
 subst e2
 refine ⟨by rw [i1.length]; exact of_decide_eq_true e1, fun p hp => h2 _ _ (r1.laid hp _) ⟨p, vs, rfl, r1.new hp, qA, IsL.ext (Ext.of_same (qy hp _)) (fun _ h _ => h) i1⟩ (.of_same (qy hp _))⟩
def OpS (K : Fr0) (F : D -> D -> Option D) (r : R2) : Prop := ∀ (A : Addr -> Prop) (H : Hp) (x y d : D) (v u : V) (Q : VK), (∀ a, H a = none -> A a) -> Is K A H x v -> Is K A H y u -> F x y = some d ->
 (∀ w H', jY H H' -> Is K A H' d w -> Q w H') -> r v u H Q
def d2 (F : D -> D -> Option D) (f g : M D) : M D := bnd f fun x => bnd g fun y => lift (F x y)
theorem op2 {r : R2} {F : D -> D -> Option D} {f g : M D} {ta tb : TE} (hF : OpS X.K F r) (wa : ∀ U Z H Q, Rep X.K c U Z H -> Wp X.K c Z H Q (f U) -> ta Z H Q) (wb : ∀ U Z H Q, Rep X.K c U Z H -> Wp X.K c Z H Q (g U) -> tb Z H Q) :
  ∀ U Z H Q, Rep X.K c U Z H -> Wp X.K c Z H Q (d2 F f g U) -> tOp r ta tb Z H Q := fun U Z H Q rp h => wa U Z H _ rp (Wp.bnd h fun x U1 v H1 r1 i1 g1 h1 => wb U1 Z H1 _ r1 (Wp.bnd h1 fun y U2 u H2 r2 i2 g2 h2 => by
 obtain ⟨d, e, h3⟩ := h2.lift
 exact hF _ H2 x y d v u Q (fun a ha => r2.new ha) (g2.is i1) i2 e fun w H' s i => h3 w H' (r2.same s) i (.of_same s)))
theorem qm {op : Operator} {r : R2} {F : D -> D -> Option D} {f g : M D} (ho : OpR X (binaryOp op) r) (hF : OpS X.K F r) (ha : DE X c a f) (hb : DE X c b g) : DE X c (.BinOp a op b pos) (d2 F f g) := by
 obtain ⟨ta, pa, wa⟩ := ha
 obtain ⟨tb, pb, wb⟩ := hb
 exact ⟨_, qmg ho pa pb, op2 hF wa wb⟩
theorem wp {op : CmpOp} {r : R2} {F : D -> D -> Option D} {f g : M D} (ho : OpR X (compareOp op) r) (hF : OpS X.K F r) (ha : DE X c a f) (hb : DE X c b g) (hm : behindInMarks op b = false) : DE X c (.Compare a [op] [b] pos) (d2 F f g) := by
 obtain ⟨ta, pa, wa⟩ := ha
 obtain ⟨tb, pb, wb⟩ := hb
 exact ⟨_, qkv ho pa pb hm, op2 hF wa wb⟩
def asB : D -> Option Bool
 | .bl b => some b
 | _ => none
def tst (f : M D) : M Bool := bnd f fun d => lift (asB d)
theorem qeK {K : Fr0} {Z : St} {H : Hp} {QB : Bool -> Hp -> Prop} {o : Option Bool} {U : Env} (h : WpB K c Z H QB (lift o U)) : ∃ b, o = some b /\ ∀ H', Rep K c U Z H' -> Gr c.O Z H H' -> QB b H' := by
 cases o with
 | none => exact h.elim
 | some d => exact ⟨d, rfl, h⟩
theorem qcn {d : D} {b : Bool} (h : asB d = some b) : d = .bl b := by
 cases d <;> simp [asB] at h
 subst h; rfl
theorem zB {op : CmpOp} {r : R2} {F : D -> D -> Option D} {f g : M D} (ho : OpR X (compareOp op) r) (hF : OpS X.K F r) (ha : DE X c a f) (hb : DE X c b g) (hm : behindInMarks op b = false) : DT X c (.Compare a [op] [b] pos) (tst (d2 F f g)) := by
 obtain ⟨ta, pa, wa⟩ := ha
 obtain ⟨tb, pb, wb⟩ := hb
 refine ⟨_, qkw ho pa pb hm, fun U Z H Q rp h => op2 hF wa wb U Z H _ rp (Wp.bndB h fun d U1 v H1 r1 i1 g1 h1 => ?_)⟩
 obtain ⟨b, e, h2⟩ := qeK h1
 have := qcn e
 subst this
 exact ⟨b, i1, h2 H1 r1 .refl⟩
theorem yZ {f : M D} (h : DE X c e f) (he : ∀ whole, isTrue e X.env whole = (do let v <- whole; standAt e.pos; holding [v] (truthy v)) := by intro _; rfl) : DT X c e (tst f) := by
 obtain ⟨t, p, w⟩ := h
 refine ⟨_, ql2 p he, fun U Z H Q rp h => w U Z H _ rp (Wp.bndB h fun d U1 v H1 r1 i1 g1 h1 => ?_)⟩
 obtain ⟨b, e, h2⟩ := qeK h1
 have := qcn e
 subst this
 exact ⟨b, i1, h2 H1 r1 .refl⟩
def qbb (f : M Bool) : M Bool := bnd f fun b => ret (!b)
theorem uk {f : M Bool} (h : DT X c a f) : DT X c (.UnaryOp .Not a pos) (qbb f) := by
 obtain ⟨t, p, w⟩ := h
 exact ⟨_, ql5 p, fun U Z H Q rp h => w U Z H _ rp (WpB.bndB h fun d U1 H1 r1 g1 h1 => h1 H1 r1 .refl)⟩
def DW (X : Cx) (c : Fc) (e : Expr) (f : M Bool) : Prop := ∃ t, PW X e t /\ ∀ U Z H Q, Rep X.K c U Z H -> WpB X.K c Z H Q (f U) -> t Z H Q
theorem DW.dt {f : M Bool} (h : DW X c e f) : DT X c e f := by
 obtain ⟨t, p, w⟩ := h
 exact ⟨t, p.pt, w⟩
def qfK (f g : M Bool) : M Bool := bnd f fun b => if b then g else ret false
def tor (f g : M Bool) : M Bool := bnd f fun b => if b then ret true else g
variable {vh : List Expr}
theorem qd3 {f : M Bool} (h : DT X c a f) : DW X c (.BoolOp .And [a] pos) f := by
 obtain ⟨t, p, w⟩ := h
 exact ⟨t, qko p, w⟩
theorem wv {f : M Bool} (h : DT X c a f) : DW X c (.BoolOp .Or [a] pos) f := by
 obtain ⟨t, p, w⟩ := h
 exact ⟨t, ql3 p, w⟩
theorem qgG {f g : M Bool} (ha : DT X c a f) (hb : DW X c (.BoolOp .And (b :: vh) pos) g) : DW X c (.BoolOp .And (a :: b :: vh) pos) (qfK f g) := by
 obtain ⟨ta, pa, wa⟩ := ha
 obtain ⟨tb, pb, wb⟩ := hb
 refine ⟨_, ql4 pa pb, fun U Z H Q rp h => wa U Z H _ rp (WpB.bndB h fun d U1 H1 r1 g1 h1 => ?_)⟩
 cases d with
 | true => exact qlN (wb U1 Z H1 Q r1 (by simpa using h1))
 | false => exact qlM ((by simpa using h1 : WpB X.K c Z H1 Q (ret false U1)) H1 r1 .refl)
theorem qbO {f g : M Bool} (ha : DT X c a f) (hb : DW X c (.BoolOp .Or (b :: vh) pos) g) : DW X c (.BoolOp .Or (a :: b :: vh) pos) (tor f g) := by
 obtain ⟨ta, pa, wa⟩ := ha
 obtain ⟨tb, pb, wb⟩ := hb
 refine ⟨_, qn1 pa pb, fun U Z H Q rp h => wa U Z H _ rp (WpB.bndB h fun d U1 H1 r1 g1 h1 => ?_)⟩
 cases d with
 | true => exact qlN ((by simpa using h1 : WpB X.K c Z H1 Q (ret true U1)) H1 r1 .refl)
 | false => exact qlM (wb U1 Z H1 Q r1 (by simpa using h1))
def qnT (f : M D) : M D := bnd f fun d => bnd (lift (asB d)) fun b => ret (.bl (!b))
def qiu (f g : M D) : M D := bnd f fun d => bnd (lift (asB d)) fun b => if b then g else ret (.bl false)
def dor (f g : M D) : M D := bnd f fun d => bnd (lift (asB d)) fun b => if b then ret (.bl true) else g
theorem qgH {K : Fr0} {Z : St} {H : Hp} {Q : VK} {d : D} {k : Bool -> M D} {U : Env} (h : Wp K c Z H Q (bnd (lift (asB d)) k U)) : ∃ b, d = .bl b /\ Wp K c Z H Q (k b U) := by
 unfold bnd at h
 cases e : asB d with
 | none => rw [e] at h; exact h.elim
 | some b => rw [e] at h; exact ⟨b, qcn e, h⟩
theorem qaF {op} {f : M D} (h : DE X c a f) : DE X c (.BoolOp op [a] pos) f := by
 obtain ⟨t, p, w⟩ := h
 exact ⟨t, ql6 p, w⟩
theorem qmy {f : M D} (h : DE X c a f) : DE X c (.UnaryOp .Not a pos) (qnT f) := by
 obtain ⟨t, p, w⟩ := h
 refine ⟨_, ql8 p, fun U Z H Q rp h => w U Z H _ rp (Wp.bnd h fun d U1 v H1 r1 i1 g1 h1 => ?_)⟩
 obtain ⟨b, e, h2⟩ := qgH h1
 subst e
 exact ⟨b, i1, h2 _ H1 r1 rfl .refl⟩
theorem qdc {f g : M D} (ha : DE X c a f) (hb : DE X c (.BoolOp .And (b :: vh) pos) g) : DE X c (.BoolOp .And (a :: b :: vh) pos) (qiu f g) := by
 obtain ⟨ta, pa, wa⟩ := ha
 obtain ⟨tb, pb, wb⟩ := hb
 refine ⟨_, ql7 pa pb, fun U Z H Q rp h => wa U Z H _ rp (Wp.bnd h fun d U1 v H1 r1 i1 g1 h1 => ?_)⟩
 obtain ⟨k, e, h2⟩ := qgH h1
 subst e
 refine ⟨k, i1, ?_⟩
 cases k with
 | true => exact qlN (wb U1 Z H1 Q r1 (by simpa using h2))
 | false => exact qlM ((by simpa using h2 : Wp X.K c Z H1 Q (ret (.bl false) U1)) _ H1 r1 rfl .refl)
theorem qkK {f g : M D} (ha : DE X c a f) (hb : DE X c (.BoolOp .Or (b :: vh) pos) g) : DE X c (.BoolOp .Or (a :: b :: vh) pos) (dor f g) := by
 obtain ⟨ta, pa, wa⟩ := ha
 obtain ⟨tb, pb, wb⟩ := hb
 refine ⟨_, qn4 pa pb, fun U Z H Q rp h => wa U Z H _ rp (Wp.bnd h fun d U1 v H1 r1 i1 g1 h1 => ?_)⟩
 obtain ⟨k, e, h2⟩ := qgH h1
 subst e
 refine ⟨k, i1, ?_⟩
 cases k with
 | true => exact qlN ((by simpa using h2 : Wp X.K c Z H1 Q (ret (.bl true) U1)) _ H1 r1 rfl .refl)
 | false => exact qlM (wb U1 Z H1 Q r1 (by simpa using h2))
def dif (f : M Bool) (g k : M D) : M D := bnd f fun b => if b then g else k
theorem qop {t : Expr} {f : M Bool} {g k : M D} (ht : DT X c t f) (ha : DE X c a g) (hb : DE X c b k) : DE X c (.IfExp t a b pos) (dif f g k) := by
 obtain ⟨tt, pt, wt⟩ := ht
 obtain ⟨ta, pa, wa⟩ := ha
 obtain ⟨tb, pb, wb⟩ := hb
 refine ⟨_, qif pt pa pb, fun U Z H Q rp h => wt U Z H _ rp (WpB.bnd h fun d U1 H1 r1 g1 h1 => ?_)⟩
 cases d with
 | true => exact qlN (wa U1 Z H1 Q r1 (by simpa using h1))
 | false => exact qlM (wb U1 Z H1 Q r1 (by simpa using h1))
def wW (K : Fr0) (F : List D -> Option D) (r : List V -> Hp -> VK -> Prop) : Prop := ∀ (A : Addr -> Prop) (H : Hp) (xs : List D) (d : D) (vs : List V) (Q : VK), (∀ a, H a = none -> A a) -> IsL K A H xs vs -> F xs = some d ->
 (∀ w H', jY H H' -> Is K A H' d w -> Q w H') -> r vs H Q
def qT (F : List D -> Option D) (f : M (List D)) : M D := bnd f fun ds => lift (F ds)
theorem qmz {r : List V -> Hp -> VK -> Prop} {F : List D -> Option D} {f : M (List D)} {t : TA} (hF : wW X.K F r) (w : ∀ U Z H Q, Rep X.K c U Z H -> WpL X.K c Z H Q (f U) -> t Z H Q) :
  ∀ U Z H Q, Rep X.K c U Z H -> Wp X.K c Z H Q (qT F f U) -> tCB r t Z H Q := fun U Z H Q rp h => w U Z H _ rp (WpL.bnd h fun ds U1 vs H1 r1 i1 g1 h1 => by
 obtain ⟨d, e, h3⟩ := h1.lift
 exact hF _ H1 ds d vs Q (fun a ha => r1.new ha) i1 e fun w H' s i => h3 w H' (r1.same s) i (.of_same s))
theorem qF {id : String} {x : Str} {p : Pos} {es : List Expr} {r : List V -> Hp -> VK -> Prop} {F : List D -> Option D} {f : M (List D)} (hc : yK X (.builtin id) r) (hF : wW X.K F r) (hg : Gl X x) (hm : X.mg x = none) (hv : bootBuiltins x = some (.builtin id)) (ha : DA X c (e :: es) f) (hn : x ≠ "__name__" := by decide) (hdb : (x == ("__debug__" : Str)) = false := by decide)
  (he : starEach (e :: es) X.env = (false, eval e X.env) :: starEach es X.env := by rfl) (hpl : (backTo pos (starEach es X.env)).any (·.1) = false := by rfl) : DE X c (.Call (.Name x p) (e :: es) [] pos) (qT F f) := by
 obtain ⟨t, pa, w⟩ := ha
 exact ⟨_, qeI hc hg hm hv pa hn hdb he hpl, qmz hF w⟩
theorem qgI {T : String} {x : Str} {p : Pos} {es : List Expr} {r : List V -> Hp -> VK -> Prop} {F : List D -> Option D} {f : M (List D)} (hc : yK X (.type T) r) (hF : wW X.K F r) (hg : Gl X x) (hm : X.mg x = none) (hv : bootBuiltins x = some (.type T)) (ha : DA X c (e :: es) f) (hn : x ≠ "__name__" := by decide) (hdb : (x == ("__debug__" : Str)) = false := by decide)
  (he : starEach (e :: es) X.env = (false, eval e X.env) :: starEach es X.env := by rfl) (hpl : (backTo pos (starEach es X.env)).any (·.1) = false := by rfl) : DE X c (.Call (.Name x p) (e :: es) [] pos) (qT F f) := by
 obtain ⟨t, pa, w⟩ := ha
 exact ⟨_, qa2 hc hg hm hv pa hn hdb he hpl, qmz hF w⟩
theorem qM {r : R2} {F : D -> D -> Option D} {f g : M D} (hr : IxR X r) (hF : OpS X.K F r) (ha : DE X c a f) (hb : DE X c b g) (hs : qd1 b := by intro _ _; rfl) : DE X c (.Subscript a b pos) (d2 F f g) := by
 obtain ⟨ta, pa, wa⟩ := ha
 obtain ⟨tb, pb, wb⟩ := hb
 exact ⟨_, qms hr pa pb hs, op2 hF wa wb⟩
end
inductive Fl where
 | nx (U : Env) | rt (d : D) (U : Env) | bk (U : Env) | ct (U : Env)
structure GrS (O : List Nat) (Z : St) (H : Hp) (Z' : St) (H' : Hp) : Prop where
 ext : Ext (Cl O Z) H H'
 cl : ∀ b, Cl O Z b -> (H b).isSome = true -> Cl O Z' b
 dom : ∀ b, H' b = none -> H b = none
theorem qfL {H H' : Hp} {b : Addr} (dom : H' b = none -> H b = none) (h : (H b).isSome = true) : (H' b).isSome = true := by
 cases e : H' b with
 | none => rw [dom e] at h; cases h
 | some o => rfl
theorem GrS.refl {O : List Nat} {Z : St} {H : Hp} : GrS O Z H Z H := ⟨Ext.refl, fun _ h _ => h, fun _ h => h⟩
theorem Gr.s {O : List Nat} {Z : St} {H H' : Hp} (g : Gr O Z H H') : GrS O Z H Z H' := ⟨g.ext, fun _ h _ => h, g.dom⟩
theorem GrS.trans {O : List Nat} {Z Z1 Z2 : St} {H H1 H2 : Hp} (a : GrS O Z H Z1 H1) (b : GrS O Z1 H1 Z2 H2) : GrS O Z H Z2 H2 :=
 ⟨⟨fun c xs h => b.ext.tup c xs (a.ext.tup c xs h), fun c o u h => b.ext.frz c o u (a.ext.frz c o u h), fun c o hc h => b.ext.at_ c o (a.cl c hc (by rw [h]; rfl)) (a.ext.at_ c o hc h)⟩,
  fun c hc h => b.cl c (a.cl c hc h) (qfL (a.dom c) h), fun c h => a.dom c (b.dom c h)⟩
theorem GrS.is {K : Fr0} {c : Fc} {Z Z' : St} {H H' : Hp} {d : D} {v : V} (g : GrS c.O Z H Z' H') (h : Is K (Cn c Z) H d v) : Is K (Cn c Z') H' d v :=
 Is.ext ⟨g.ext.tup, g.ext.frz, fun b o hb h => g.ext.at_ b o hb.2 h⟩ (fun a ha hs => ⟨ha.1, g.cl a ha.2 hs⟩) h
theorem GrS.isL {K : Fr0} {c : Fc} {Z Z' : St} {H H' : Hp} {d : List D} {v : List V} (g : GrS c.O Z H Z' H') (h : IsL K (Cn c Z) H d v) : IsL K (Cn c Z') H' d v :=
 IsL.ext ⟨g.ext.tup, g.ext.frz, fun b o hb h => g.ext.at_ b o hb.2 h⟩ (fun a ha hs => ⟨ha.1, g.cl a ha.2 hs⟩) h
def WpS (K : Fr0) (c : Fc) (Z : St) (H : Hp) (D : qh9) : R Fl -> Prop
 | .ok (.nx U) => ∀ Z' H', Rep K c U Z' H' -> GrS c.O Z H Z' H' -> D.nx Z' H'
 | .ok (.rt d U) => ∀ v Z' H', Rep K c U Z' H' -> Is K c.B H' d v -> GrS c.O Z H Z' H' -> D.rt v H'
 | .ok (.bk U) => ∀ Z' H', Rep K c U Z' H' -> GrS c.O Z H Z' H' -> D.bk Z' H'
 | .ok (.ct U) => ∀ Z' H', Rep K c U Z' H' -> GrS c.O Z H Z' H' -> D.ct Z' H'
 | .exc x U => ∀ Z' H', Rep K c U Z' H' -> GrS c.O Z H Z' H' -> c.E x H'
 | .bad => False
abbrev MS := Env -> R Fl
def DS (X : Cx) (c : Fc) (st : Stmt) (f : MS) : Prop := ∃ t, PS X st t /\ ∀ U Z H D, Rep X.K c U Z H -> WpS X.K c Z H D (f U) -> t D Z H
def DSs (X : Cx) (c : Fc) (st : List Stmt) (f : MS) : Prop := ∃ t, PSs X st t /\ ∀ U Z H D, Rep X.K c U Z H -> WpS X.K c Z H D (f U) -> t D Z H
theorem WpS.gr {K : Fr0} {c : Fc} {Z Z1 : St} {H H1 : Hp} {D : qh9} : ∀ {r : R Fl}, WpS K c Z H D r -> GrS c.O Z H Z1 H1 -> WpS K c Z1 H1 D r
 | .ok (.nx U), h, g => fun Z' H' hr hg => h Z' H' hr (g.trans hg)
 | .ok (.rt d U), h, g => fun v Z' H' hr hi hg => h v Z' H' hr hi (g.trans hg)
 | .ok (.bk U), h, g => fun Z' H' hr hg => h Z' H' hr (g.trans hg)
 | .ok (.ct U), h, g => fun Z' H' hr hg => h Z' H' hr (g.trans hg)
 | .exc x U, h, g => fun Z' H' hr hg => h Z' H' hr (g.trans hg)
 | .bad, h, _ => h
def sbnd {α : Type} (f : M α) (k : α -> MS) : MS := fun U => match f U with
 | .ok (a, U') => k a U'
 | .exc x U' => .exc x U'
 | .bad => .bad
section
variable {K : Fr0} {c : Fc} {Z : St} {H : Hp} {D : qh9}
theorem Wp.sbnd {f : M Sk.D} {k : Sk.D -> MS} {U : Env} {Q' : VK} (h : WpS K c Z H D (sbnd f k U)) (hQ : ∀ d U' v H', Rep K c U' Z H' -> Is K (Cn c Z) H' d v -> Gr c.O Z H H' -> WpS K c Z H' D (k d U') -> Q' v H') : Wp K c Z H Q' (f U) := by
 unfold Sk.sbnd at h
 cases e : f U with
 | ok p => rw [e] at h; exact fun v H' hr hi hg => hQ p.1 p.2 v H' hr hi hg (h.gr hg.s)
 | exc x U' => rw [e] at h; exact fun H' hr hg => h Z H' hr hg.s
 | bad => rw [e] at h; exact h
theorem WpB.sbnd {f : M Bool} {k : Bool -> MS} {U : Env} {Q' : Bool -> Hp -> Prop} (h : WpS K c Z H D (sbnd f k U)) (hQ : ∀ d U' H', Rep K c U' Z H' -> Gr c.O Z H H' -> WpS K c Z H' D (k d U') -> Q' d H') : WpB K c Z H Q' (f U) := by
 unfold Sk.sbnd at h
 cases e : f U with
 | ok p => rw [e] at h; exact fun H' hr hg => hQ p.1 p.2 H' hr hg (h.gr hg.s)
 | exc x U' => rw [e] at h; exact fun H' hr hg => h Z H' hr hg.s
 | bad => rw [e] at h; exact h
theorem WpL.sbnd {f : M (List Sk.D)} {k : List Sk.D -> MS} {U : Env} {Q' : List V -> Hp -> Prop} (h : WpS K c Z H D (sbnd f k U)) (hQ : ∀ d U' v H', Rep K c U' Z H' -> IsL K (Cn c Z) H' d v -> Gr c.O Z H H' -> WpS K c Z H' D (k d U') -> Q' v H') : WpL K c Z H Q' (f U) := by
 unfold Sk.sbnd at h
 cases e : f U with
 | ok p => rw [e] at h; exact fun v H' hr hi hg => hQ p.1 p.2 v H' hr hi hg (h.gr hg.s)
 | exc x U' => rw [e] at h; exact fun H' hr hg => h Z H' hr hg.s
 | bad => rw [e] at h; exact h
end
def qG (f g : MS) : MS := fun U => match f U with
 | .ok (.nx U') => g U'
 | r => r
theorem WpS.mono_nx {K : Fr0} {c : Fc} {Z : St} {H : Hp} {D : qh9} {f g : MS} {U : Env} {N : St -> Hp -> Prop} (h : WpS K c Z H D (qG f g U)) (hN : ∀ U' Z' H', Rep K c U' Z' H' -> GrS c.O Z H Z' H' -> WpS K c Z' H' D (g U') -> N Z' H') :
  WpS K c Z H { D with nx := N } (f U) := by
 unfold qG at h
 cases e : f U with
 | ok fl =>
  rw [e] at h
  cases fl with
  | nx U' => exact fun Z' H' hr hg => hN U' Z' H' hr hg (h.gr hg)
  | rt d U' => exact h
  | bk U' => exact h
  | ct U' => exact h
 | exc x U' => rw [e] at h; exact h
 | bad => rw [e] at h; exact h
section
variable {X : Cx} {c : Fc} {a b e : Expr} {pos : Pos} {st : Stmt} {sts : List Stmt}
theorem qkL : DSs X c [] (fun U => .ok (.nx U)) := ⟨_, qkp, fun U Z H D r h => h Z H r .refl⟩
theorem qk {f : MS} (h : DS X c st f) : DSs X c [st] f := by
 obtain ⟨t, p, w⟩ := h
 exact ⟨t, qkq p, w⟩
theorem qg {f g : MS} (h : DS X c st f) (hr : DSs X c sts g) : DSs X c (st :: sts) (qG f g) := by
 obtain ⟨t, p, w⟩ := h
 obtain ⟨t2, p2, w2⟩ := hr
 exact ⟨_, qig p p2, fun U Z H D r h => w U Z H _ r (h.mono_nx fun U' Z' H' r' g' h' => w2 U' Z' H' D r' h')⟩
def zK (f : M D) : MS := sbnd f fun d U => .ok (.rt d U)
theorem Is.cn {K : Fr0} {Z : St} {H : Hp} {d : D} {v : V} (h : Is K (Cn c Z) H d v) : Is K c.B H d v := Is.ext Ext.refl (fun _ h _ => h.1) h
theorem qz {f : M D} (h : DE X c e f) : DS X c (.Return (some e) pos) (zK f) := by
 obtain ⟨t, p, w⟩ := h
 exact ⟨_, qjw p, fun U Z H D r h => w U Z H _ r (Wp.sbnd h fun d U1 v H1 r1 i1 g1 h1 => h1 v Z H1 r1 i1.cn .refl)⟩
def jg (f : M D) : MS := sbnd f fun _ U => .ok (.nx U)
theorem zk {f : M D} (h : DE X c e f) (hs : swapsWith e none pos.line X.env = pure false := by rfl) : DS X c (.Expr e pos) (jg f) := by
 obtain ⟨t, p, w⟩ := h
 exact ⟨_, qkr p hs, fun U Z H D r h => w U Z H _ r (Wp.sbnd h fun d U1 v H1 r1 i1 g1 h1 => h1 Z H1 r1 .refl)⟩
def sif (f : M Bool) (g k : MS) : MS := sbnd f fun b => if b then g else k
theorem yk {t : Expr} {s1 s2 : List Stmt} {f : M Bool} {g k : MS} (ht : DT X c t f) (ha : DSs X c s1 g) (hb : DSs X c s2 k) : DS X c (.If t s1 s2 pos) (sif f g k) := by
 obtain ⟨tt, pt, wt⟩ := ht
 obtain ⟨ta, pa, wa⟩ := ha
 obtain ⟨tb, pb, wb⟩ := hb
 refine ⟨_, qn7 pt pa pb, fun U Z H D rp h => wt U Z H _ rp (WpB.sbnd h fun d U1 H1 r1 g1 h1 => ?_)⟩
 cases d with
 | true => exact qlN (wa U1 Z H1 D r1 (by simpa using h1))
 | false => exact qlM (wb U1 Z H1 D r1 (by simpa using h1))
theorem qiv : DS X c st (fun _ => .bad) := ⟨_, qih, fun U Z H D rp h => h.elim⟩
theorem zN {α : Type} {l : List α} {i j : Nat} {v : α} (h : j ≠ i) : (l.set i v)[j]? = l[j]? := List.getElem?_set_ne (Ne.symm h)
theorem Cl.set {O : List Nat} {Z : St} {i : Nat} {v : Option V} (hi : i ∉ O) (a : Addr) : Cl O (Z.set i v) a ↔ Cl O Z a := by
 constructor
 ·intro h j hj
  have e : j ≠ i := fun e => hi (e ▸ hj)
  have := h j hj
  rw [zN e] at this
  exact this
 ·intro h j hj
  have e : j ≠ i := fun e => hi (e ▸ hj)
  rw [zN e]
  exact h j hj
theorem Rep.set {K : Fr0} {U : Env} {Z : St} {H : Hp} {i : Nat} {d : D} {v : V} (r : Rep K c U Z H) (hi : i ∉ c.O) (h : Is K (Cn c Z) H d v) : Rep K c (U.set i (some d)) (Z.set i (some v)) H where
 len := by rw [lS_, lS_]; exact r.len
 val := fun j e hj => by
  have up : ∀ {d' : D} {v' : V}, Is K (Cn c Z) H d' v' -> Is K (Cn c (Z.set i (some v))) H d' v' := fun h => Is.ext Ext.refl (fun a ha _ => ⟨ha.1, (Cl.set hi a).mpr ha.2⟩) h
  by_cases e1 : j = i
  ·subst e1
   have hl : j < U.length := by
    have := (gI_.mp hj).1
    rwa [lS_] at this
   rw [List.getElem?_set_self hl] at hj
   cases hj
   refine ⟨v, List.getElem?_set_self (by rw [<- r.len]; exact hl), .inr ⟨hi, up h⟩⟩
  ·rw [zN e1] at hj
   obtain ⟨w, h1, h2⟩ := r.val j e hj
   refine ⟨w, by rw [zN e1]; exact h1, ?_⟩
   rcases h2 with ⟨hj2, ds, a, xs, h3, h5, h6, h7⟩ | ⟨h3, h4⟩
   ·exact .inl ⟨hj2, ds, a, xs, h3, h5, h6, IsL.ext Ext.refl (fun a ha _ => ⟨ha.1, (Cl.set hi a).mpr ha.2⟩) h7⟩
   ·exact .inr ⟨h3, up h4⟩
 own := fun j hj w h => by
  have e1 : j ≠ i := fun e => hi (e ▸ hj)
  rw [zN e1] at h
  exact r.own j hj w h
 inj := fun j k a hj hk h1 h2 => by
  have e1 : j ≠ i := fun e => hi (e ▸ hj)
  have e2 : k ≠ i := fun e => hi (e ▸ hk)
  rw [zN e1] at h1
  rw [zN e2] at h2
  exact r.inj j k a hj hk h1 h2
 b0 := r.b0
 kp := r.kp
 dm := r.dm
 pO := r.pO
 ps := fun j hj => by
  have e : j ≠ i := fun e => hi (e ▸ r.pO j hj)
  rw [zN e]; exact r.ps j hj
theorem GrS.set {O : List Nat} {Z : St} {H : Hp} {i : Nat} {v : Option V} (hi : i ∉ O) : GrS O Z H (Z.set i v) H := ⟨Ext.refl, fun b h _ => (Cl.set hi b).mpr h, fun _ h => h⟩
def zP (i : Nat) (f : M D) : MS := sbnd f fun d U => .ok (.nx (U.set i (some d)))
theorem qU {i : Nat} {x : Str} {pos' : Pos} {f : M D} (hN : X.N.Nodup) (he : DE X c e f) (ho : i ∉ c.O := by exact of_decide_eq_false rfl) (hi : X.N[i]? = some x := by rfl) (hx : Loc X.env.scope x := by first | exact Or.inl rfl | exact Or.inr rfl) (hs : swapsWith e (some (.Name x pos')) pos.line X.env = pure false := by rfl) (hf : X.fn x = true \/ X.env.scope.names.lookup x = some .local := by first | exact .inl rfl | exact .inr rfl | assumption) :
  DS X c (.Assign [.Name x pos'] e pos) (zP i f) := by
 obtain ⟨t, p, w⟩ := he
 refine ⟨_, qjy hN hi hx p hs hf, fun U Z H D r h => w U Z H _ r (Wp.sbnd h fun d U1 v H1 r1 i1 g1 h1 => ?_)⟩
 exact h1 _ H1 (r1.set ho i1) (.set ho)
def DG (X : Cx) (c : Fc) (tg : Expr) (f : D -> Env -> Option Env) : Prop := ∃ g, PG X tg g /\ ∀ U Z H d v U' (N : St -> Hp -> Prop), Rep X.K c U Z H -> Is X.K (Cn c Z) H d v -> f d U = some U' ->
 (∀ Z', Rep X.K c U' Z' H -> GrS c.O Z H Z' H -> (∀ j ∈ c.O, Z'[j]? = Z[j]?) -> N Z' H) -> g v Z H N
def qq (i : Nat) : D -> Env -> Option Env := fun d U => some (U.set i (some d))
theorem qC {i : Nat} {x : Str} (hN : X.N.Nodup) (ho : i ∉ c.O := by exact of_decide_eq_false rfl) (hi : X.N[i]? = some x := by rfl) (hx : Loc X.env.scope x := by first | exact Or.inl rfl | exact Or.inr rfl) (hf : X.fn x = true \/ X.env.scope.names.lookup x = some .local := by first | exact .inl rfl | exact .inr rfl | assumption) {p : Pos} : DG X c (.Name x p) (qq i) := by
 refine ⟨_, qks hN hi hx hf, fun U Z H d v U' N r h e k => ?_⟩
 cases e
 exact k _ (r.set ho h) (.set ho) fun j hj => zN fun e => ho (e ▸ hj)
def DGs (X : Cx) (c : Fc) (tgs : List Expr) (f : List D -> Env -> Option Env) : Prop := ∃ g, PGs X tgs g /\ ∀ U Z H ds vs U' (N : St -> Hp -> Prop), Rep X.K c U Z H -> IsL X.K (Cn c Z) H ds vs -> f ds U = some U' ->
 (∀ Z', Rep X.K c U' Z' H -> GrS c.O Z H Z' H -> (∀ j ∈ c.O, Z'[j]? = Z[j]?) -> N Z' H) -> g vs Z H N
def ww : List D -> Env -> Option Env
 | [], U => some U
 | _, _ => none
def qQ (f : D -> Env -> Option Env) (g : List D -> Env -> Option Env) : List D -> Env -> Option Env
 | d :: ds, U => (f d U).bind (g ds)
 | _, _ => none
theorem uU : DGs X c [] ww := by
 refine ⟨_, qkt, fun U Z H ds vs U' N r h e k => ?_⟩
 cases ds with
 | nil =>
  cases e
  exact ⟨h, k Z r .refl fun _ _ => rfl⟩
 | cons d ds => cases e
theorem zl {tg : Expr} {tgs : List Expr} {f : D -> Env -> Option Env} {g : List D -> Env -> Option Env} (h1 : DG X c tg f) (h2 : DGs X c tgs g)
  (hs : (assignEach (tg :: tgs) X.env).map (·.2) = assign tg X.env :: (assignEach tgs X.env).map (·.2) := by rfl) : DGs X c (tg :: tgs) (qQ f g) := by
 obtain ⟨t1, p1, w1⟩ := h1
 obtain ⟨t2, p2, w2⟩ := h2
 refine ⟨_, qii p1 p2 hs, fun U Z H ds vs U' N r h e k => ?_⟩
 cases ds with
 | nil => cases e
 | cons d ds =>
  obtain ⟨v, ws, rfl, i1, i2⟩ := h
  have e' : (f d U).bind (g ds) = some U' := e
  cases e1 : f d U with
  | none => rw [e1] at e'; cases e'
  | some U1 =>
   rw [e1] at e'
   exact ⟨v, ws, rfl, w1 U Z H d v U1 _ r i1 e1 fun Z1 r1 g1 o1 => w2 U1 Z1 H ds ws U' N r1 (g1.isL i2) e' fun Z2 r2 g2 o2 => k Z2 r2 (g1.trans g2) fun j hj => (o2 j hj).trans (o1 j hj)⟩
def wx (n : Nat) (g : List D -> Env -> Option Env) : D -> Env -> Option Env
 | .tup ds, U => if ds.length = n then g ds U else none
 | _, _ => none
theorem wX {es : List Expr} {k n : Nat} {p : Pos} {g : List D -> Env -> Option Env} (hc : X.calm = true) (h : DGs X c es g) (hn : (assignEach es X.env).length = n := by rfl) (hst : (assignEach es X.env).findIdx? (·.1) = none := by rfl) : DG X c (.Tuple es k p) (wx n g) := by
 obtain ⟨t, p, w⟩ := h
 refine ⟨_, qmb (n := n) hc p hn hst, fun U Z H d v U' N r h e q => ?_⟩
 cases d with
 | tup ds =>
  obtain ⟨a, xs, rfl, ta, il⟩ := h
  have e' : (if ds.length = n then g ds U else none) = some U' := e
  by_cases hl : ds.length = n
  ·rw [if_pos hl] at e'
   exact ⟨a, xs, rfl, ta.sq, by rw [il.length]; exact hl, w U Z H ds xs U' N r il e' q⟩
  ·rw [if_neg hl] at e'; cases e'
 | _ => cases e
def qlO (f : M D) (g : D -> Env -> Option Env) : MS := sbnd f fun d U => match g d U with
 | some U' => .ok (.nx U')
 | none => .bad
theorem qjE {tg : Expr} {f : M D} {g : D -> Env -> Option Env} (he : DE X c e f) (hg : DG X c tg g) (hs : swapsWithSole [tg] e pos.line X.env = pure false := by rfl) (hw : swappedStores [tg] e X.env = pure none := by rfl) (h1 : (assignEach [tg] X.env).map (·.2) = [assign tg X.env] := by rfl) : DS X c (.Assign [tg] e pos) (qlO f g) := by
 obtain ⟨t, p, w⟩ := he
 obtain ⟨t2, p2, w2⟩ := hg
 refine ⟨_, qjx p p2 hs hw h1, fun U Z H D r h => w U Z H _ r (Wp.sbnd h fun d U1 v H1 r1 i1 g1 h1 => ?_)⟩
 cases e : g d U1 with
 | none => rw [e] at h1; exact h1.elim
 | some U2 =>
  rw [e] at h1
  exact w2 U1 Z H1 d v U2 _ r1 i1 e fun Z' r2 g2 _ => h1 Z' H1 r2 g2
end
section
variable {K : Fr0}
def iiD (g : Int -> Int -> D) : D -> D -> Option D
 | .int i, .int j => some (g i j)
 | _, _ => none
def qgJ (C : Int -> Int -> Bool) (g : Int -> Int -> D) : D -> D -> Option D
 | .int i, .int j => if C i j then some (g i j) else none
 | _, _ => none
theorem qbc {g : Int -> Int -> V} {gD : Int -> Int -> D} (hg : ∀ A H i j, Is K A H (gD i j) (g i j)) : OpS K (iiD gD) (rI0 g) := by
 intro A H x y d v u Q hn ix iy e k
 cases x <;> cases y <;> simp only [iiD] at e <;> try (cases e; done)
 rename_i i j
 cases (Option.some.inj e)
 cases (show v = .int i from ix)
 cases (show u = .int j from iy)
 exact ⟨i, j, rfl, rfl, k _ H (jY.refl H) (hg _ _ _ _)⟩
theorem qeL {C : Int -> Int -> Prop} {CB : Int -> Int -> Bool} {g : Int -> Int -> V} {gD : Int -> Int -> D} (hC : ∀ i j, CB i j = true -> C i j) (hg : ∀ A H i j, Is K A H (gD i j) (g i j)) : OpS K (qgJ CB gD) (rI C g) := by
 intro A H x y d v u Q hn ix iy e k
 cases x <;> cases y <;> simp only [qgJ] at e <;> try (cases e; done)
 rename_i i j
 obtain ⟨e1, e2⟩ := jN e
 subst e2
 cases (show v = .int i from ix)
 cases (show u = .int j from iy)
 exact ⟨i, j, rfl, rfl, hC i j e1, k _ H (jY.refl H) (hg _ _ _ _)⟩
def vt : D -> D -> Option D := iiD fun i j => .int (i - j)
theorem jr : OpS K vt (rI0 fun i j => .int (i - j)) := qbc fun _ _ _ _ => rfl
def jA (i : Int) : Bool := decide (-(2 ^ 64) < i) && decide (i < 2 ^ 64)
theorem qdd {i : Int} (h : jA i = true) : -(2 ^ 64) < i /\ i < 2 ^ 64 := by
 unfold jA at h
 rw [Bool.and_eq_true] at h
 exact ⟨of_decide_eq_true h.1, of_decide_eq_true h.2⟩
def qd4 (i j : Int) : Bool := jA i || jA j
theorem qiw {i j : Int} (h : qd4 i j = true) : qmi i j := by
 unfold qd4 at h
 rw [Bool.or_eq_true] at h
 rcases h with h | h
 ·exact .inl (qdd h)
 ·exact .inr (qdd h)
def qfM (i j : Int) : Bool := decide (0 < j) && decide (j < 1606938044258990275541962092341162602522202993782792835301376)
theorem qeM {i j : Int} (h : qfM i j = true) : qmh i j := by
 unfold qfM at h
 rw [Bool.and_eq_true] at h
 exact ⟨of_decide_eq_true h.1, of_decide_eq_true h.2⟩
def qde : D -> D -> Option D := qgJ qfM fun i j => .int (i / j)
theorem wY : OpS K qde (rI qmh fun i j => .int (i / j)) := qeL (fun _ _ => qeM) fun _ _ _ _ => rfl
def vp : D -> D -> Option D := qgJ (fun _ j => decide (0 < j)) fun i j => .int (i % j)
theorem uV : OpS K vp (rI (fun _ j => 0 < j) fun i j => .int (i % j)) := qeL (fun _ _ h => of_decide_eq_true h) fun _ _ _ _ => rfl
def ltD : D -> D -> Option D := iiD fun i j => .bl (decide (i < j))
def leD : D -> D -> Option D := iiD fun i j => .bl (decide (i <= j))
def gtD : D -> D -> Option D := iiD fun i j => .bl (decide (j < i))
def geD : D -> D -> Option D := iiD fun i j => .bl (decide (j <= i))
theorem qbY : OpS K ltD (rI0 fun i j => .bl (decide (i < j))) := qbc fun _ _ _ _ => rfl
theorem qeN : OpS K leD (rI0 fun i j => .bl (decide (i <= j))) := qbc fun _ _ _ _ => rfl
theorem qbd : OpS K gtD (rI0 fun i j => .bl (decide (j < i))) := qbc fun _ _ _ _ => rfl
theorem qgK : OpS K geD (rI0 fun i j => .bl (decide (j <= i))) := qbc fun _ _ _ _ => rfl
def sc2 : D -> D -> Option Bool
 | .non, .non => some true | .non, .int _ => some false | .int _, .non => some false | .non, .bl _ => some false | .bl _, .non => some false | .non, .str _ => some false | .str _, .non => some false
 | .int i, .int j => some (decide (i = j)) | .bl i, .bl j => some (decide (i = j)) | .str i, .str j => some (decide (i = j))
 | .int _, .str _ => some false | .str _, .int _ => some false | .bl _, .str _ => some false | .str _, .bl _ => some false
 | _, _ => none
def eqS (x y : D) : Option D := (sc2 x y).map D.bl
def neS (x y : D) : Option D := (sc2 x y).map fun b => D.bl (!b)
theorem qjF {A : Addr -> Prop} {H : Hp} {x y : D} {v u : V} {b : Bool} (ix : Is K A H x v) (iy : Is K A H y u) (e : sc2 x y = some b) : qoe v u = true /\ decide (v = u) = b := by
 cases x <;> cases y <;> simp only [sc2] at e <;> first
  | (cases e; done)
  | (cases ix; cases iy; cases e; exact ⟨rfl, rfl⟩)
  | (cases ix; cases iy; cases e; exact ⟨rfl, by simp⟩)
  | (cases ix; cases iy; cases e; exact ⟨rfl, by rw [Bool.eq_iff_iff]; simp⟩)
theorem qkM : OpS K eqS rEq := by
 intro A H x y d v u Q hn ix iy e k
 unfold eqS at e
 cases e1 : sc2 x y with
 | none => rw [e1] at e; cases e
 | some b =>
  rw [e1] at e
  cases e
  obtain ⟨h1, h2⟩ := qjF ix iy e1
  exact ⟨h1, by rw [h2]; exact k _ H (jY.refl H) rfl⟩
theorem qkN : OpS K neS rNe := by
 intro A H x y d v u Q hn ix iy e k
 unfold neS at e
 cases e1 : sc2 x y with
 | none => rw [e1] at e; cases e
 | some b =>
  rw [e1] at e
  cases e
  obtain ⟨h1, h2⟩ := qjF ix iy e1
  exact ⟨h1, by rw [h2]; exact k _ H (jY.refl H) rfl⟩
def ul : D -> Bool
 | .non => true
 | _ => false
theorem qeO {A : Addr -> Prop} {H : Hp} {x : D} {v : V} (ix : Is K A H x v) : decide (v = V.non) = ul x := by
 cases x with
 | non => cases ix; rfl
 | bl b => cases ix; rfl
 | int i => cases ix; rfl
 | str s => cases ix; rfl
 | tup ds => obtain ⟨a, xs, rfl, _⟩ := ix; rfl
 | lst ds => obtain ⟨a, xs, rfl, _⟩ := ix; rfl
 | dic ds => obtain ⟨a, rfl, _⟩ := ix; rfl
 | fz ds => obtain ⟨a, rfl, _⟩ := ix; rfl
 | exc ds => obtain ⟨a, rfl, _⟩ := ix; rfl
def isN (x y : D) : Option D := if ul y then some (.bl (ul x)) else none
def qpw (x y : D) : Option D := if ul y then some (.bl (!ul x)) else none
theorem qco : OpS K isN (fun x y H Q => y = .non /\ Q (.bl (decide (x = .non))) H) := by
 intro A H x y d v u Q hn ix iy e k
 obtain ⟨e1, e2⟩ := jN e
 subst e2
 have h := qeO iy
 rw [e1] at h
 refine ⟨of_decide_eq_true h, ?_⟩
 rw [qeO ix]
 exact k _ H (jY.refl H) rfl
def ixD : D -> D -> Option D
 | .tup ds, .int i => atI ds i
 | .lst ds, .int i => atI ds i
 | .fz ns, .int i => (atI ns i).map D.int
 | _, _ => none
theorem IsL.atI {A : Addr -> Prop} {H : Hp} {ds : List D} {xs : List V} {i : Int} {d : D} (h : IsL K A H ds xs) (e : L2.atI ds i = some d) : ∃ v, L2.atI xs i = some v /\ Is K A H d v := by
 unfold L2.atI at e |-
 rw [h.length]
 cases e1 : ixN ds.length i with
 | none => rw [e1] at e; cases e
 | some j =>
  rw [e1] at e
  exact h.get e
theorem qw : OpS K ixD (fun x y H Q => qom K x y H Q \/ qon K x y H Q) := by
 intro A H x y d v u Q hn ix iy e k
 cases x <;> cases y <;> simp only [ixD] at e <;> try (cases e; done)
 ·rename_i ds i
  cases iy
  obtain ⟨a, xs, rfl, ta, il⟩ := ix
  obtain ⟨w, h1, h2⟩ := il.atI e
  exact .inr ⟨a, xs, i, w, rfl, rfl, ta.sq, h1, k w H (jY.refl H) h2⟩
 ·rename_i ds i
  cases iy
  obtain ⟨a, xs, rfl, _, ta, il⟩ := ix
  obtain ⟨w, h1, h2⟩ := il.atI e
  exact .inl ⟨a, xs, i, w, rfl, rfl, .inl (.inl ta), h1, k w H (jY.refl H) h2⟩
 ·rename_i ns i
  cases iy
  obtain ⟨a, rfl, ta⟩ := ix
  cases e1 : L2.atI ns i with
  | none => rw [e1] at e; cases e
  | some m =>
   rw [e1] at e
   cases e
   have h1 : L2.atI (ns.map V.int) i = some (V.int m) := by
    unfold L2.atI at e1 |-
    rw [lM_]
    cases e2 : ixN ns.length i with
    | none => rw [e2] at e1; cases e1
    | some j =>
     rw [e2] at e1
     have e3 : ns[j]? = some m := e1
     show (ns.map V.int)[j]? = some (V.int m)
     rw [gM_, e3]; rfl
   exact .inl ⟨a, _, i, .int m, rfl, rfl, ta.sq, h1, k _ H (jY.refl H) rfl⟩
theorem IsL.inv1 {A : Addr -> Prop} {H : Hp} {d : D} {vs : List V} (h : IsL K A H [d] vs) : ∃ v, vs = [v] /\ Is K A H d v := by
 obtain ⟨x, ys, e1, e2, e3⟩ := h
 have e3' : ys = [] := e3
 exact ⟨x, by rw [e1, e3'], e2⟩
theorem IsL.inv2 {A : Addr -> Prop} {H : Hp} {d d' : D} {vs : List V} (h : IsL K A H [d, d'] vs) : ∃ v w, vs = [v, w] /\ Is K A H d v /\ Is K A H d' w := by
 obtain ⟨x, ys, e1, e2, e3⟩ := h
 obtain ⟨w, e4, e5⟩ := IsL.inv1 e3
 exact ⟨x, w, by rw [e1, e4], e2, e5⟩
def qpO : List D -> Option D
 | [.int i] => some (.int (if i < 0 then -i else i))
 | _ => none
def qkO : List D -> Option D
 | [.int i, .int j] => some (.int (if j > i then j else i))
 | _ => none
def qbe : List D -> Option D
 | [.int i, .int j] => some (.int (if j < i then j else i))
 | _ => none
theorem qgL : wW K qkO (fun xs H Q => ∃ i j, xs = [.int i, .int j] /\ Q (.int (if j > i then j else i)) H) := by
 intro A H xs d vs Q hn h e k
 unfold qkO at e
 split at e
 ·rename_i i j
  obtain ⟨v, w, rfl, e2, e3⟩ := IsL.inv2 h
  cases e2; cases e3; cases e
  exact ⟨i, j, rfl, k _ H (jY.refl H) rfl⟩
 ·cases e
theorem qbf : wW K qbe (fun xs H Q => ∃ i j, xs = [.int i, .int j] /\ Q (.int (if j < i then j else i)) H) := by
 intro A H xs d vs Q hn h e k
 unfold qbe at e
 split at e
 ·rename_i i j
  obtain ⟨v, w, rfl, e2, e3⟩ := IsL.inv2 h
  cases e2; cases e3; cases e
  exact ⟨i, j, rfl, k _ H (jY.refl H) rfl⟩
 ·cases e
def qbg : List D -> Option D
 | [.int i, .int j] => if qfM i j then some (.tup [.int (i / j), .int (i % j)]) else none
 | _ => none
theorem qdf : wW K qbg (fun xs H Q => ∃ i j, xs = [.int i, .int j] /\ qmh i j /\ ∀ p, H p = none -> Q (.ref p) (upd H p (.tup [.int (i / j), .int (i % j)]))) := by
 intro A H xs d vs Q hn h e k
 unfold qbg at e
 split at e
 ·rename_i i j
  obtain ⟨v, w, rfl, e2, e3⟩ := IsL.inv2 h
  cases e2; cases e3
  obtain ⟨e6, e7⟩ := jN e
  subst e7
  exact ⟨i, j, rfl, qeM e6, fun p hp => k _ _ (qy hp _) ⟨p, _, rfl, .inl qA, _, _, rfl, rfl, _, _, rfl, rfl, rfl⟩⟩
 ·cases e
def qpx : List D -> Option D
 | [.int i] => some (.int i)
 | [.bl b] => some (.int (if b then 1 else 0))
 | _ => none
def uC : List D -> Option D
 | [.tup ds] => some (.int ds.length)
 | [.lst ds] => some (.int ds.length)
 | [.fz ns] => some (.int ns.length)
 | [.str x] => if qZ x.length then some (.int x.length) else none
 | _ => none
def qoY (K : Fr0) : List V -> Hp -> VK -> Prop := fun xs H Q => (∃ p ys, xs = [.ref p] /\ (SqL K H p ys \/ SqT K H p ys) /\ Q (.int ys.length) H) \/ (∃ z, xs = [.str z] /\ z.length <= sizeLine /\ Q (.int z.length) H)
theorem zr {X : Cx} : yK X (.builtin "len") (qoY X.K) := yK.or qc8 qc9
theorem zt : wW K uC (qoY K) := by
 intro A H xs d vs Q hn h e k
 unfold uC at e
 split at e
 ·obtain ⟨v, rfl, a, zs, rfl, ta, il⟩ := IsL.inv1 h
  cases e
  exact .inl ⟨a, zs, rfl, .inr ta.sq, by rw [il.length]; exact k _ H (jY.refl H) rfl⟩
 ·obtain ⟨v, rfl, a, zs, rfl, _, ta, il⟩ := IsL.inv1 h
  cases e
  exact .inl ⟨a, zs, rfl, .inl (.inl (.inl ta)), by rw [il.length]; exact k _ H (jY.refl H) rfl⟩
 ·obtain ⟨v, rfl, a, rfl, ta⟩ := IsL.inv1 h
  cases e
  exact .inl ⟨a, _, rfl, .inl ta.sq, by rw [lM_]; exact k _ H (jY.refl H) rfl⟩
 ·rename_i z
  obtain ⟨v, rfl, e2⟩ := IsL.inv1 h
  cases e2
  obtain ⟨e4, e5⟩ := jN e
  subst e5
  exact .inr ⟨z, rfl, of_decide_eq_true e4, k _ H (jY.refl H) rfl⟩
 ·cases e
def qgM : List D -> Option D
 | [.tup ds] => some (.tup ds)
 | [.lst ds] => some (.tup ds)
 | _ => none
theorem qd5 : wW K qgM (fun xs H Q => ∃ p ys, xs = [.ref p] /\ ((SqL K H p ys /\ ∀ l, H l = none -> Q (.ref l) (upd H l (.tup ys))) \/ (SqT K H p ys /\ Q (.ref p) H))) := by
 intro A H xs d vs Q hn h e k
 unfold qgM at e
 split at e
 ·obtain ⟨v, rfl, a, zs, rfl, ta, il⟩ := IsL.inv1 h
  cases e
  exact ⟨a, zs, rfl, .inr ⟨ta.sq, k _ H (jY.refl H) ⟨a, zs, rfl, ta, il⟩⟩⟩
 ·obtain ⟨v, rfl, a, zs, rfl, _, ta, il⟩ := IsL.inv1 h
  cases e
  exact ⟨a, zs, rfl, .inl ⟨.inl (.inl ta), fun l hl => k _ _ (qy hl _) ⟨l, zs, rfl, .inl qA, IsL.ext (Ext.of_same (qy hl _)) (fun _ h _ => h) il⟩⟩⟩
 ·cases e
end
end L2.Sk
namespace L2.Sk
open PySem PySem.Spec PySem.Calls PyProof.Rows PySem.W
def qjG (h : Heap) (a D : Addr) : Prop := ∃ o, h.get? a = some o /\ o.cls = .ref D
theorem qjG.looks {M : Model} {h : Heap} {a D : Addr} (I : qjG h a D) : Looks M h (typeOf (.ref a)) (.ref D) := by
 obtain ⟨o, h1, h2⟩ := I
 rw [<- h2]
 exact (Looks.ld h1).andThen .now
section
variable {prog : Program} {w : World} {A : Around} {E : Value -> Shared -> Prop} {K : Frag} {h : Heap} {g : Array GenState} {d : Drawn} {t : Nat} {os : OsState} {a D : Addr}
theorem qmA (hm : mroIn K D (.type "object") = some true) {tp : Value} {R : Result -> Shared -> Prop} (X : K.In h) (I : qjG h a D) (hq : R (.ok (.ret (.ref D))) ⟨h, g, d, t, os⟩) :
  codeAny (model prog w) A (.call (.builtin "getset_descriptor.__get__") ⟨[.builtin "object.__class__", .ref a, tp], []⟩) R ⟨h, g, d, t, os⟩ := by
 have L0 := I.looks (M := model prog w)
 have L1 := looks_mroIn (M := model prog w) X hm
 have hT5 : (⟨h, g, d, t, os⟩ : Shared).TypeIs (.builtin "object.__class__") "getset_descriptor" := F.typeOf_object_class
 refine codeAny_call_builtin F.slot_gs_get.plain F.entry_gs_get (F.slot_gs_get.check _ _ _ _ _ _ _ _ hT5 (F.args_gs_get _ _ _) ?_)
 have eo : ".".intercalate ("object.__class__".cutAt '.').dropLast = "object" := by decide +kernel
 repeat (any_goals (first | assumption | with_reducible refine L0.at ?_ | with_reducible refine L1.at ?_ | wp_step))
 rw [eo]
 refine L1.at ?_
 repeat (any_goals (first | assumption | with_reducible refine L0.at ?_ | wp_step))
 refine ⟨Code.quiet_builtin _ (by decide +kernel), codeAny_builtin F.entry_object_class ?_⟩
 repeat (any_goals (first | assumption | with_reducible refine L0.at ?_ | wp_step))
theorem qix (ha : findIn K (.ref D) "__class__" = some (some (.builtin "object.__class__"))) (hm : mroIn K D (.type "object") = some true) {tk : Tok} {Q : Fin -> Shared -> Prop} (X : K.In h) (I : qjG h a D) (hq : Q (.done (.ret (.ref D))) ⟨h, g, d, t, os⟩) :
  wpAny (model prog w) A (Builtin.«object.__getattribute__» ⟨[.ref a, .str "__class__" tk], []⟩) Q E ⟨h, g, d, t, os⟩ := by
 have L0 := I.looks (M := model prog w)
 have L1 := looks_findIn (M := model prog w) X ha
 have hT5 : (⟨h, g, d, t, os⟩ : Shared).TypeIs (.builtin "object.__class__") "getset_descriptor" := F.typeOf_object_class
 have f5 := F.typeOf_object_class
 have f6 := F.slot_gs_get.lookup
 have f7 := F.slot_gs_set.lookup
 repeat (any_goals (first | assumption | with_reducible refine L0.at ?_ | with_reducible refine L1.at ?_ | wp_step))
 refine qmA hm X I ?_
 repeat (any_goals (first | assumption | wp_step))
theorem qiy (hb : Looks (model prog w) h (isSubtype (.ref D) (.type "BaseException")) true) {nameV : Value} {Q : Unit -> Shared -> Prop} (I : qjG h a D) (hq : Q () ⟨h, g, d, t, os⟩) : wpAny (model prog w) A (checkBuiltinCall "BaseException.__getattribute__" ⟨[.ref a, nameV], []⟩) Q E ⟨h, g, d, t, os⟩ := by
 have hk : builtinKind "BaseException.__getattribute__" = some .slot := by decide +kernel
 have hsplit : splitId "BaseException.__getattribute__" = some ("BaseException", "__getattribute__") := by decide +kernel
 have L0 := I.looks (M := model prog w)
 have ha := F.args_bexc_ga (.ref a) nameV
 simp only [checkBuiltinCall, hk, hsplit]
 refine wpAny_bind ?_
 ·unfold isInstance
  repeat (first | with_reducible refine L0.at ?_ | with_reducible refine hb.at ?_ | wp_step)
  exact hq
theorem qoq (FA : ExcAttrFacts "ValueError") (hga : findIn K (.ref D) "__getattribute__" = some (some (.builtin "BaseException.__getattribute__"))) (hgt : findIn K (.ref D) "__getattr__" = some none) (ha : findIn K (.ref D) "__class__" = some (some (.builtin "object.__class__"))) (hm : mroIn K D (.type "object") = some true)
  (hb : Looks (model prog w) h (isSubtype (.ref D) (.type "BaseException")) true) {tk : Tok} {fill expr : Bool} {Q : Value -> Shared -> Prop} (X : K.In h) (I : qjG h a D) (hq : Q (.ref D) ⟨h, g, d, t, os⟩) :
  wpAny (model prog w) A (getAttrBy (.ref a) (.str "__class__" tk) fill expr) Q E ⟨h, g, d, t, os⟩ := by
 have L0 := I.looks (M := model prog w)
 have L1 := looks_findIn (M := model prog w) X hga
 have L2 := looks_findIn (M := model prog w) X hgt
 have f3 := FA.ga.bind (.ref a)
 have hx0 : (expr && onTheHeap (Value.builtin "BaseException.__getattribute__")) = false := by cases expr <;> rfl
 have hx2 : (Value.builtin "BaseException.__getattribute__" == Value.builtin "object.__getattribute__") = false := by decide +kernel
 have hx1 : (onTheHeap (Value.ref D) && Value.builtin "BaseException.__getattribute__" == Value.builtin "object.__getattribute__") = false := by rw [hx2]; rfl
 repeat (any_goals (first | assumption | with_reducible refine L0.at ?_ | with_reducible refine L1.at ?_ | with_reducible refine L2.at ?_ | wp_step))
 refine codeAny_call_builtin FA.ga.plain F.entry_bexc_ga (qiy hb I (qix ha hm X I ?_))
 repeat (any_goals (first | assumption | wp_step))
theorem qkP (FA : ExcAttrFacts "ValueError") (hga : findIn K (.ref D) "__getattribute__" = some (some (.builtin "BaseException.__getattribute__"))) (hgt : findIn K (.ref D) "__getattr__" = some none) (ha : findIn K (.ref D) "__class__" = some (some (.builtin "object.__class__"))) (hm : mroIn K D (.type "object") = some true)
  (hb : Looks (model prog w) h (isSubtype (.ref D) (.type "BaseException")) true) {Q : Option Value -> Shared -> Prop} (X : K.In h) (I : qjG h a D) (hq : Q (some (.ref D)) ⟨h, g, d, t + 1, os⟩) :
  wpAny (model prog w) A (getAttr? (.ref a) "__class__") Q E ⟨h, g, d, t, os⟩ := by
 unfold getAttr? getAttrBy?
 repeat (any_goals (first | assumption | with_reducible apply qoq FA hga hgt ha hm hb X I | wp_step))
end
theorem qiz {K : Frag} {a D : Addr} (c : XK6 K D) : KitX K (.ref a) (.ref D) (fun h => qjG h a D) where
 ty := fun _ _ _ I => I.looks
 it := fun _ _ X _ => by
  obtain ⟨cdD, hcD⟩ := Option.isSome_iff_exists.mp c.is
  unfold clsIn at hcD
  split at hcD
  ·rename_i c' d' cd' sl' ho
   intro A' Q' E' s' k q
   unfold isType loadHead
   exact wpAny_bind (wpAny_loadPart (k _ _ (X _ _ ho)) (wpAny_pure q))
  ·cases hcD
 ne := fun h tp dd its n sl X htp => by
  obtain ⟨cdD, hcD⟩ := Option.isSome_iff_exists.mp c.is
  refine Bool.eq_false_iff.mpr fun q => ?_
  have e : D = tp := Value.ref.inj (beq_iff_eq.mp q)
  subst e
  unfold clsIn at hcD
  split at hcD
  ·rename_i c' d' cd' sl' ho
   have z := (X _ _ ho).symm.trans htp
   cases z
  ·cases hcD
 ca := fun {prog w A E Q s} X p k => by
  have I := p
  obtain ⟨h, g, d, t, os⟩ := s
  exact qkP PySem.F.attrBase_ValueError.toExcAttrFacts c.ga c.gt c.cl c.ob (looks_subIn X c.be) X I k
theorem qfN {X : Cx} {pins : List (Addr × Obj)} {Z : St} {H : Hp} {s : Shared} {A : Around} {E : Value -> Shared -> Prop} {Q : Value -> Shared -> Prop} {a C : Addr} {c : Value} {b : Bool} (I : Inv X pins Z H s) (xc : XK6 X.K C) (hH : ∃ o vs, H a = some (.frz o (.own a)) /\ o.cls = .ref C /\ o.data = .fields vs)
  (e : kitOne X.K (.ref C) c = some b) (h : ∀ tk, Q (.bool b) { s with toks := tk }) : wpAny (model X.prog X.w) A (call (.builtin "isinstance") [.ref a, c]) Q E s := by
 obtain ⟨o, vs, h1, h2, _⟩ := hH
 obtain ⟨p, _⟩ := (show yY X.prog X.w H s.heap a (.frz o (.own a)) from I.hok a _ h1)
 exact kia_one (qiz xc) I.kIn ⟨o, p, h2⟩ e (fun z => nomatch z) h
end L2.Sk
namespace L2.Sk
open PySem PySem.Spec PyProof.Rows
def tyD : D -> String
 | .non => "NoneType"
 | .bl _ => "bool"
 | .int _ => "int"
 | .str _ => "str"
 | .tup _ => "tuple"
 | .lst _ => "list"
 | .dic _ => "dict"
 | .fz _ => "list"
 | .exc _ => "exc"
def qd6 (t T : String) : Bool := t == T || (t == "bool" && T == "int")
def qfO : List String := ["NoneType", "bool", "int", "str", "tuple", "list", "dict"]
theorem qkQ (d : D) (h : ∀ C, d ≠ .exc C) : tyD d ∈ qfO := by
 cases d <;> first | (simp [tyD, qfO]; done) | exact absurd rfl (h _)
structure qlP (K : Fr0) (T : String) : Prop where
 ok : ∀ t ∈ qfO, PySem.W.kitOne K (.type t) (.type T) = some (qd6 t T)
 ex : T ∈ ["int", "bool", "str", "tuple", "list", "dict"]
 nx : qd6 "exc" T = false
theorem qkR {K : Fr0} : qlP K "int" := ⟨fun t ht => by
 simp only [qfO, List.mem_cons, nN_, or_false] at ht
 rcases ht with rfl | rfl | rfl | rfl | rfl | rfl | rfl <;> kernel_rfl, by decide, by decide⟩
theorem qiA {K : Fr0} : qlP K "bool" := ⟨fun t ht => by
 simp only [qfO, List.mem_cons, nN_, or_false] at ht
 rcases ht with rfl | rfl | rfl | rfl | rfl | rfl | rfl <;> kernel_rfl, by decide, by decide⟩
theorem wZ {K : Fr0} : qlP K "tuple" := ⟨fun t ht => by
 simp only [qfO, List.mem_cons, nN_, or_false] at ht
 rcases ht with rfl | rfl | rfl | rfl | rfl | rfl | rfl <;> kernel_rfl, by decide, by decide⟩
section
variable {X : Cx} {pins : List (Addr × Obj)} {Z : St} {H : Hp} {s : Shared} {A : Addr -> Prop} {E : Value -> Shared -> Prop} {Q : Value -> Shared -> Prop}
theorem qmB {d : D} {v : V} {u : Value} {T : String} (I : Inv X pins Z H s) (h : Is X.K A H d v) (rv : yx v u) (kt : qlP X.K T) (hQ : ∀ tk, Q (.bool (qd6 (tyD d) T)) { s with toks := tk }) :
  wpAny (model X.prog X.w) X.A (call (.builtin "isinstance") [u, .type T]) Q E s := by
 by_cases hx : ∃ C, d = .exc C
 ·obtain ⟨C, rfl⟩ := hx
  obtain ⟨a, rfl, xa⟩ := h
  cases (show u = Value.ref a from rv)
  have q : ∀ tk, Q (.bool false) { s with toks := tk } := fun tk => by
   have := hQ tk
   rw [show tyD (.exc C) = "exc" from rfl, kt.nx] at this
   exact this
  obtain ⟨D0, h0, h1, h2⟩ := xa
  exact qfN I h1 h2 (h1.no T kt.ex) q
 have e := kt.ok (tyD d) (qkQ d fun C hC => hx ⟨C, hC⟩)
 cases d with
 | exc C => exact absurd ⟨C, rfl⟩ hx
 | non => cases h; exact uD I rv .non e hQ
 | bl b => cases h; exact uD I rv (.bl b) e hQ
 | int i => cases h; exact uD I rv (.int i) e hQ
 | str x => cases h; exact uD I rv (.str x) e hQ
 | tup ds =>
  obtain ⟨a, xs, rfl, ta, il⟩ := h
  cases (show u = Value.ref a from rv)
  obtain ⟨its, r, p, z⟩ := I.tuple ta.sq
  obtain ⟨o, h1, h2, _⟩ := p
  exact PySem.W.kia_one PySem.W.kitx_tuple I.kIn ⟨o, h1, h2⟩ e (fun z => nomatch z) hQ
 | lst ds =>
  obtain ⟨a, xs, rfl, hA, ta, il⟩ := h
  exact uD I rv (.lst ta) e hQ
 | dic kvs =>
  obtain ⟨a, rfl, hA, ta⟩ := h
  exact uD I rv (.dK ta) e hQ
 | fz ns =>
  obtain ⟨a, rfl, ta⟩ := h
  cases (show u = Value.ref a from rv)
  obtain ⟨its, r, p, z⟩ := I.list ta.sq
  obtain ⟨o, h1, h2, _⟩ := p.isList
  exact PySem.W.kia_one PySem.W.kitx_list I.kIn ⟨o, h1, h2⟩ e (fun z => nomatch z) hQ
end
def qiB (T : String) (f : M D) : M D := bnd f fun d => ret (.bl (qd6 (tyD d) T))
section
variable {X : Cx} {c : Fc} {a b e : Expr} {pos : Pos}
def qpy (K : Fr0) (T : String) : List V -> Hp -> VK -> Prop := fun xs H Q => ∃ v d A, xs = [v, .ty T] /\ Is K A H d v /\ Q (.bl (qd6 (tyD d) T)) H
theorem qiC {T : String} (kt : qlP X.K T) : yK X (.builtin "isinstance") (qpy X.K T) := by
 intro pins s Z H xs us Q I r h
 obtain ⟨v, d, A, rfl, hi, q⟩ := h
 obtain ⟨u, w, rfl, r1, r2⟩ := zD.two r
 cases (show w = Value.type T from r2)
 exact qmB I hi r1 kt fun tk => ⟨.bl _, H, I.tok tk, rfl, q⟩
theorem qbZ {T : String} {x : Str} {p p2 : Pos} {f : M D} (kt : qlP X.K T) (hg : Gl X "isinstance") (hm : X.mg "isinstance" = none) (hg2 : Gl X x) (hm2 : X.mg x = none) (hv2 : bootBuiltins x = some (.type T)) (ha : DE X c a f)
  (hv : bootBuiltins "isinstance" = some (.builtin "isinstance") := by first | rfl | exact PySem.boot_isinstance) (hn2 : x ≠ "__name__" := by decide) (hdb2 : (x == ("__debug__" : Str)) = false := by decide)
  (he : starEach [a, .Name x p2] X.env = (false, eval a X.env) :: starEach [.Name x p2] X.env := by rfl) (hpl : (backTo pos (starEach [.Name x p2] X.env)).any (·.1) = false := by rfl) : DE X c (.Call (.Name "isinstance" p) [a, .Name x p2] [] pos) (qiB T f) := by
 obtain ⟨t, pa, w⟩ := ha
 refine ⟨_, qeI (qiC kt) hg hm hv (uT pa (uT (qkn (v := .ty T) hg2 hm2 hv2 rfl hn2 hdb2) qbW (by rfl)) he) (by decide) (by decide) he hpl, fun U Z H Q r h => w U Z H _ r (Wp.bnd h fun d U1 v H1 r1 i1 g1 h1 => ?_)⟩
 exact ⟨v, d, _, rfl, i1, h1 _ H1 r1 rfl .refl⟩
end
def vi : List D -> Option (List Bool)
 | [] => some []
 | .bl b :: r => (vi r).map (b :: ·)
 | _ => none
def vq : List D -> Option (List Int)
 | [] => some []
 | .int i :: r => (vq r).map (i :: ·)
 | _ => none
theorem qbh {K : Fr0} {A : Addr -> Prop} {H : Hp} : ∀ {ds : List D} {xs : List V} {bs : List Bool}, IsL K A H ds xs -> vi ds = some bs -> xs = bs.map V.bl
 | [], _, _, h, e => by cases e; exact h
 | .bl b :: r, _, bs, ⟨x, ys, hx, h1, h2⟩, e => by
  cases h1
  cases e1 : vi r with
  | none => simp [vi, e1] at e
  | some l =>
   simp [vi, e1] at e
   subst e
   rw [hx, qbh h2 e1]; rfl
 | .non :: _, _, _, _, e => by cases e
 | .int _ :: _, _, _, _, e => by cases e
 | .str _ :: _, _, _, _, e => by cases e
 | .tup _ :: _, _, _, _, e => by cases e
 | .lst _ :: _, _, _, _, e => by cases e
 | .dic _ :: _, _, _, _, e => by cases e
 | .fz _ :: _, _, _, _, e => by cases e
 | .exc _ :: _, _, _, _, e => by cases e
theorem yO {K : Fr0} {A : Addr -> Prop} {H : Hp} : ∀ {ds : List D} {xs : List V} {bs : List Int}, IsL K A H ds xs -> vq ds = some bs -> xs = bs.map V.int
 | [], _, _, h, e => by cases e; exact h
 | .int b :: r, _, bs, ⟨x, ys, hx, h1, h2⟩, e => by
  cases h1
  cases e1 : vq r with
  | none => simp [vq, e1] at e
  | some l =>
   simp [vq, e1] at e
   subst e
   rw [hx, yO h2 e1]; rfl
 | .non :: _, _, _, _, e => by cases e
 | .bl _ :: _, _, _, _, e => by cases e
 | .str _ :: _, _, _, _, e => by cases e
 | .tup _ :: _, _, _, _, e => by cases e
 | .lst _ :: _, _, _, _, e => by cases e
 | .dic _ :: _, _, _, _, e => by cases e
 | .fz _ :: _, _, _, _, e => by cases e
 | .exc _ :: _, _, _, _, e => by cases e
theorem qiD {bs : List Bool} : ∀ {us : List Value}, zD (bs.map V.bl) us -> LSm.BoolsAre us bs := by
 induction bs with
 | nil => intro us r; rw [List.map_nil] at r; cases r; exact .nil
 | cons b bs ih =>
  intro us r
  rw [mC_] at r
  cases r with
  | cons r1 r2 =>
   cases (show _ = Value.bool b from r1)
   exact .cons b (ih r2)
section
variable {X : Cx}
theorem qaR (hc : X.calm = true) : yK X (.builtin "all") (fun xs H Q => ∃ (p : Addr) (bs : List Bool), xs = [.ref p] /\ H p = some (.lst (bs.map V.bl)) /\ Q (.bl (bs.all id)) H) := by
 intro pins s Z H xs us Q I r h
 obtain ⟨p, bs, rfl, hp, q⟩ := h
 obtain ⟨u, rfl, ru⟩ := zD.one r
 cases ru
 obtain ⟨its, rv, pl, hz⟩ := I.list (SqL.of hp)
 have hl := pl.isList
 have hb := qiD rv
 have hlt : p < s.heap.objs.size := by obtain ⟨_, e, _⟩ := hl; exact Heap.lt_size e
 refine call_all_walk (wpAny_pyIter_list hl ?_)
 refine ⟨s.heap.objs.size, [s.heap.objs.size, p], [s.heap.objs.size], its.toArray.size, _, _, fun i => (bs[i]?).getD true, rfl, Walks.list (A := X.A.in1) (I.ok.hd hc) _ p (Nat.ne_of_lt hlt) its.toArray,
  ⟨⟨_, Heap.get?_push_size _ rfl, rfl, rfl⟩, hl.push _⟩, fun i v s' Q' E' hP hQ => ?_, fun h' tk hk => ?_⟩
 ·obtain ⟨b, e, rfl⟩ := hb.get i v (by simpa using hP)
  simp only [e, Option.getD_some] at hQ
  exact wpAny_truthy_bool hQ
 ·have e : ((List.range its.toArray.size).all fun i => (bs[i]?).getD true) = bs.all id := by
   rw [sT_, hb.length]; exact LSm.range_all bs
  rw [e]
  exact ⟨.bl _, H, I.kept (LSm.kept_iter hk), rfl, q⟩
theorem qiE (hc : X.calm = true) : yK X (.builtin "sum") (fun xs H Q => ∃ (p : Addr) (ns : List Int), xs = [.ref p] /\ H p = some (.lst (ns.map V.int)) /\ Q (.int ns.sum) H) := by
 intro pins s Z H xs us Q I r h
 obtain ⟨p, ns, rfl, hp, q⟩ := h
 obtain ⟨u, rfl, ru⟩ := zD.one r
 cases ru
 obtain ⟨its, rv, pl, hz⟩ := I.list (SqL.of hp)
 have hl := pl.isList
 have hi : IntsAre its ns := uE rv
 obtain ⟨zs, hx⟩ := hi.allInts.items
 have hl' : s.heap.IsList p (intItems zs) := hx ▸ hl
 refine sum_intListG (I.ok.hd hc) hl' fun h' tk t' hk => ?_
 have e1 : ns = zs.toList.map (·.1) := by
  rw [<- nums_intItems, <- hx]
  exact (show numsOf its.toArray.toList = ns from hi.numsOf).symm
 have e2 : preSum (numAt zs) zs.size = ns.sum := by
  rw [preSum_eq, List.take_of_length_le (by simp), e1]
 rw [e2]
 exact ⟨.int _, H, I.kept hk, ⟨_, rfl⟩, q⟩
end
def qeP : List D -> Option D
 | [.lst ds] => (vi ds).map fun bs => .bl (bs.all id)
 | _ => none
def qmC : List D -> Option D
 | [.lst ds] => (vq ds).map fun bs => .int bs.sum
 | _ => none
section
variable {K : Fr0}
theorem w5 : wW K qeP (fun xs H Q => ∃ (p : Addr) (bs : List Bool), xs = [.ref p] /\ H p = some (.lst (bs.map V.bl)) /\ Q (.bl (bs.all id)) H) := by
 intro A H xs d vs Q hn h e k
 unfold qeP at e
 split at e
 ·obtain ⟨v, rfl, a, zs, rfl, _, ta, il⟩ := IsL.inv1 h
  obtain ⟨bs, h1, h2⟩ := Option.map_eq_some_iff.mp e
  subst h2
  rw [qbh il h1] at ta
  exact ⟨a, bs, rfl, ta, k _ H (jY.refl H) rfl⟩
 ·cases e
theorem qgN : wW K qmC (fun xs H Q => ∃ (p : Addr) (ns : List Int), xs = [.ref p] /\ H p = some (.lst (ns.map V.int)) /\ Q (.int ns.sum) H) := by
 intro A H xs d vs Q hn h e k
 unfold qmC at e
 split at e
 ·obtain ⟨v, rfl, a, zs, rfl, _, ta, il⟩ := IsL.inv1 h
  obtain ⟨bs, h1, h2⟩ := Option.map_eq_some_iff.mp e
  subst h2
  rw [yO il h1] at ta
  exact ⟨a, bs, rfl, ta, k _ H (jY.refl H) rfl⟩
 ·cases e
end
section
variable {X : Cx}
def qjH (K : Fr0) : R2 := fun x y H Q => ∃ a b ys, x = .ref a /\ y = .ref b /\ SqT K H a [] /\ SqT K H b ys /\ Q (.ref b) H
theorem qiF : OpR X (binaryOp .Add) (qjH X.K) := by
 intro pins s Z H x y v u Q I rx ry h
 obtain ⟨a, b, ys, rfl, rfl, ha, hb, q⟩ := h
 cases rx
 cases ry
 obtain ⟨its, r1, p1, _⟩ := I.tuple ha
 obtain ⟨its2, r2, p2, _⟩ := I.tuple hb
 cases r1
 obtain ⟨⟨cls, dd, data, sl⟩, ho, hc, n, hd⟩ := id p1
 obtain ⟨⟨cls2, dd2, data2, sl2⟩, ho2, hc2, n2, hd2⟩ := id p2
 simp only at hc hd hc2 hd2
 subst hc hd hc2 hd2
 exact concat_meets ⟨_, ho, rfl⟩ ⟨_, ho2, rfl⟩ noFill_tuple_add seq_tuple_add PySem.F.slot_tuple_add PySem.F.entry_tuple_add (PySem.F.args_tuple_add_2 _ _)
   (tuple_addW0 a b [].toArray its2.toArray n n2 dd dd2 sl sl2 (by simp)) ⟨ho, ho2, ⟨.ref b, H, I, rfl, q⟩⟩
def qmD (K : Fr0) : R2 := fun x y H Q => (∃ i j, x = .int i /\ y = .int j /\ Q (.int (i + j)) H) \/ ((∃ i j, x = .str i /\ y = .str j /\ i.length + j.length <= sizeLine /\ Q (.str (i ++ j)) H) \/ (qjH K x y H Q \/ (qmr K x y H Q \/ qoW x y H Q)))
theorem qH : OpR X (binaryOp .Add) (qmD X.K) := OpR.or qmj (OpR.or qfF (OpR.or qiF (OpR.or qkD qmw)))
end
def qW : D -> D -> Option D
 | .int i, .int j => some (.int (i + j))
 | .str x, .str y => if qZ (x.length + y.length) then some (.str (x ++ y)) else none
 | .tup xs, .tup ys => if qZ (xs.length + ys.length) then some (.tup (xs ++ ys)) else none
 | .lst xs, .lst ys => if qZ (xs.length + ys.length) then some (.lst (xs ++ ys)) else none
 | _, _ => none
theorem qI {K : Fr0} : OpS K qW (qmD K) := by
 intro A H x y d v u Q hn ix iy e k
 cases x <;> cases y <;> simp only [qW] at e <;> try (cases e; done)
 ·rename_i i j
  cases ix; cases iy; cases e
  exact .inl ⟨i, j, rfl, rfl, k _ H (jY.refl H) rfl⟩
 ·rename_i i j
  cases ix; cases iy
  obtain ⟨e1, e2⟩ := jN e
  subst e2
  exact .inr (.inl ⟨i, j, rfl, rfl, of_decide_eq_true e1, k _ H (jY.refl H) rfl⟩)
 ·rename_i ds es
  obtain ⟨a, xs, rfl, ta, il⟩ := ix
  obtain ⟨b, ys, rfl, tb, jl⟩ := iy
  obtain ⟨e1, e2⟩ := jN e
  subst e2
  have hs : xs.length + ys.length <= sizeLine := by rw [il.length, jl.length]; exact of_decide_eq_true e1
  refine .inr (.inr ?_)
  cases ds with
  | nil =>
   have hx : xs = [] := il
   subst hx
   exact .inl ⟨a, b, ys, rfl, rfl, ta.sq, tb.sq, k _ H (jY.refl H) ⟨b, ys, rfl, tb, jl⟩⟩
  | cons d0 ds =>
   refine .inr (.inl ⟨a, b, xs, ys, rfl, rfl, ta.sq, tb.sq, ?_, hs, fun hy => ?_, fun hy p hp => ?_⟩)
   ·obtain ⟨x, zs, hx, _⟩ := il
    rw [hx]; simp
   ·subst hy
    cases es with
    | nil => rw [List.append_nil] at k; exact k _ H (jY.refl H) ⟨a, xs, rfl, ta, il⟩
    | cons e0 es => obtain ⟨_, _, hx, _⟩ := jl; cases hx
   ·exact k _ _ (qy hp _) ⟨p, xs ++ ys, rfl, .inl qA, IsL.ext (Ext.of_same (qy hp _)) (fun _ h _ => h) (IsL.append il jl)⟩
 ·rename_i ds es
  obtain ⟨a, xs, rfl, hA, ta, il⟩ := ix
  obtain ⟨b, ys, rfl, hB, tb, jl⟩ := iy
  obtain ⟨e1, e2⟩ := jN e
  subst e2
  have hs : xs.length + ys.length <= sizeLine := by rw [il.length, jl.length]; exact of_decide_eq_true e1
  exact .inr (.inr (.inr (.inr ⟨a, b, xs, ys, rfl, rfl, ta, tb, hs, fun p hp => k _ _ (qy hp _) ⟨p, xs ++ ys, rfl, hn p hp, qA, IsL.ext (Ext.of_same (qy hp _)) (fun _ h _ => h) (IsL.append il jl)⟩⟩)))
section
variable {X : Cx}
def qoZ (K : Fr0) : V -> Option Int -> Option Int -> Hp -> VK -> Prop := fun x lo hi H Q => ∃ a xs, x = .ref a /\ SqT K H a xs /\ (HT.sIx xs.length 0 lo = 0 /\ HT.sIx xs.length xs.length hi = xs.length) /\ Q (.ref a) H
theorem wE {prog : Program} {w : World} {A : Around} {E : Value -> Shared -> Prop} {s : Shared} {t sl : Addr} {items : Array Value} {vl vu : Value} {lo hi : Option Int} {Q : Value -> Shared -> Prop} (ht : IsTup s.heap t items) (hs : s.heap.IsSliceOf sl vl vu .none) (pl : IsPart vl lo) (pu : IsPart vu hi)
  (hw : HT.sIx items.size 0 lo = 0 /\ HT.sIx items.size items.size hi = items.size) (h : Q (.ref t) s) : wpAny (model prog w) A (getItem (.ref t) (.ref sl)) Q E s := by
 obtain ⟨os, hos, hcs, hds⟩ := id hs
 have hTs : s.TypeIs (.ref sl) "slice" := ⟨os, hos, hcs⟩
 unfold getItem
 try with_reducible refine wpAny_holding ?_
 first | refine wpAny_bind (wpAny_pure ?_) | skip
 refine wpAny_bind (wpAny_sequenceKey ht.typeIs (by decide) ?_)
 refine wpAny_bind (wpAny_callSpecial?_slot (name := Str.ofString "__getitem__") ht.typeIs PyProof.Rows.slot_tuple_getitem
  (wpAny_call_entry PyProof.Rows.slot_tuple_getitem ht.typeIs entry_tuple_getitem ?_ (args_tuple_getitem _ _)))
 show wpAny _ _ (Builtin.Tuple.tupleItemsOf (.ref t) >>= _) _ _ s
 refine wpAny_bind (tupleItemsOf_ ht ?_)
 refine wpAny_bind (wpAny_typeOf hTs ?_)
 rw [if_pos (by decide)]
 refine wpAny_bind (HT.sliceApplied_gen hs pl pu ?_)
 have hyes : (((HT.sIx items.size 0 lo : Nat) : Int) == 0 && (1 : Int) == 1 && (HT.sIx items.size items.size hi - HT.sIx items.size 0 lo) == items.size) = true := by
  rw [hw.1, hw.2]; simp
 show wpAny _ _ (if (((HT.sIx items.size 0 lo : Nat) : Int) == 0 && (1 : Int) == 1 && (HT.sIx items.size items.size hi - HT.sIx items.size 0 lo) == items.size) = true then _ else _) _ _ s
 rw [if_pos hyes]
 refine wpAny_bind (m := Builtin.Tuple.tupleIsExact (.ref t)) ?_
 unfold Builtin.Tuple.tupleIsExact
 refine wpAny_bind (wpAny_typeOf ht.typeIs ?_)
 refine wpAny_pure ?_
 rw [if_pos (by decide)]
 exact wpAny_bind (wpAny_rule (wpAny_pure ⟨_, rfl, wpAny_pure h⟩))
theorem qiG : SlR X (qoZ X.K) := by
 intro pins s Z H x v vl vu lo hi sl Q I rx hs pl pu h
 obtain ⟨a, xs, rfl, hx, hw, q⟩ := h
 cases rx
 obtain ⟨its, r, ht, hz⟩ := I.tuple hx
 have hlen : its.toArray.size = xs.length := by rw [sT_]; exact r.length.symm
 refine ⟨"tuple", _, PyProof.Rows.slot_tuple_getitem.lookup, ht.typeIs, ?_⟩
 exact wE ht hs pl pu (by rw [hlen]; exact hw) ⟨.ref a, H, I, rfl, q⟩
theorem qmE : SlR X (fun x lo hi H Q => qoZ X.K x lo hi H Q \/ qoV X.K x lo hi H Q) := SlR.or qiG sl_tup
end
def qgO (xs : List D) (lo hi : Option Int) : List D := (xs.drop (HT.sIx xs.length 0 lo)).take (HT.sIx xs.length xs.length hi - HT.sIx xs.length 0 lo)
def slD (x : D) (lo hi : Option Int) : Option D := match x with
 | .tup ds => some (.tup (qgO ds lo hi))
 | _ => none
section
variable {X : Cx} {c : Fc} {a b e : Expr} {pos p2 : Pos}
def DO (X : Cx) (c : Fc) (e : Option Expr) (f : M (Option Int)) : Prop := ∃ t, PO X e t /\ ∀ U Z H Q, Rep X.K c U Z H -> (∀ o U', f U = .ok (o, U') -> ∀ H', Rep X.K c U' Z H' -> Gr c.O Z H H' -> Q o H') -> (∀ x U', f U = .exc x U' -> ∀ H', Rep X.K c U' Z H' -> Gr c.O Z H H' -> c.E x H') -> f U ≠ .bad -> t Z H Q
theorem qkS : DO X c none (ret none) := ⟨_, qkB, fun U Z H Q r h _ _ => h none U rfl H r .refl⟩
def asI : D -> Option Int
 | .int i => some i
 | _ => none
def qfP (f : M D) : M (Option Int) := bnd f fun d => match d with
 | .int i => ret (some i)
 | _ => fun _ => .bad
theorem qkT {f : M D} (h : DE X c e f) : DO X c (some e) (qfP f) := by
 obtain ⟨t, p, w⟩ := h
 refine ⟨_, qkC p, fun U Z H Q r h1 h2 h3 => w U Z H _ r ?_⟩
 unfold qfP bnd at h1 h2 h3
 cases e1 : f U with
 | ok q =>
  obtain ⟨d, U'⟩ := q
  rw [e1] at h1 h2 h3
  intro v H' r' i' g'
  cases d <;> simp only [ret] at h1 h2 h3 <;> try (exact absurd rfl h3)
  rename_i i
  exact ⟨i, i', h1 (some i) U' rfl H' r' g'⟩
 | exc x U' => rw [e1] at h2; exact fun H' r' g' => h2 x U' rfl H' r' g'
 | bad => rw [e1] at h3; exact absurd rfl h3
def dsl (f : M D) (g k : M (Option Int)) : M D := bnd f fun d => bnd g fun l => bnd k fun u => lift (slD d l u)
end
def z4 (X : Cx) (scope : Scope) (N' : List Str) (fp : List Addr) (cl : List (Str × Addr)) (C : Addr) (s₀ : Shared) (H₀ : Hp) (pn : List (Addr × Obj)) : Cx where
 prog := X.prog
 w := X.w
 K := X.K
 mg := X.mg
 base := X.base
 A := X.A
 N := N'
 s₀ := s₀
 H₀ := H₀
 env := compEnvC scope cl C X.env
 outer := X.stack
 stack := X.stack
 ex := fp
 fn := fun _ => false
 calm := X.calm
 pn := pn
 xe := fun _ _ => False
def PF (X : Cx) (ifs : List Expr) (t : TT) : Prop := ∀ (pins : List (Addr × Obj)) (s : Shared) (Z : St) (H : Hp) (Q : Bool -> Hp -> Prop), Inv X pins Z H s -> t Z H Q ->
 wpAny (model X.prog X.w) X.A (forIn ifs true fun c r => if r = true then do let ok <- isTrue c X.env (eval c X.env); pure (ForInStep.yield ok) else pure (ForInStep.yield r)) (TP X pins Z Q) X.xe s
theorem qmF {X : Cx} : PF X [] (fun _ H Q => Q true H) := fun pins s Z H Q I h => wpAny_tests_nil ⟨H, I, h⟩
theorem qmG {X : Cx} {e : Expr} {t : TT} (h : PT X e t) : PF X [e] t := fun pins s Z H Q I hw => wpAny_tests_one (h pins s Z H Q I hw)
structure ym (X : Cx) (scope : Scope) (N' : List Str) (nt : Nat) (fr : List Nat) : Prop where
 kind : scope.kind = .function
 nocell : ∀ y ∈ scope.names, y.2 ≠ .cell
 names : ∀ y ∈ scope.names, y.2 = .local -> scope.names.lookup y.1 = some .local
 frees : ∀ y ∈ scope.names, y.2 = .free -> X.env.kindOf y.1 = some .cell
 len : N'.length = nt + fr.length
 slot : ∀ i j, fr[i]? = some j -> ∃ x, N'[nt + i]? = some x /\ X.N[j]? = some x /\ scope.names.lookup x = some .free
theorem qaj {env : PySem.Env} : ∀ (names : List (Str × NameKind)) (cs : List (Str × Addr)), (∀ y ∈ names, y.2 = .free -> ∃ a, env.cells.lookup y.1 = some a) -> (∀ n a, cs.lookup n = some a -> env.cells.lookup n = some a) ->
  ∃ cl, (forIn names cs fun x r => match x with | (name, kind) => if (kind == NameKind.free) = true then do let a <- cellOf env name; pure (ForInStep.yield ((name, a) :: r)) else pure (ForInStep.yield r) : Sem (List (Str × Addr))) = pure cl /\
   (∀ n a, cl.lookup n = some a -> env.cells.lookup n = some a) /\ (∀ n, (∃ a, cs.lookup n = some a) -> ∃ a, cl.lookup n = some a) /\ ∀ y ∈ names, y.2 = .free -> ∃ a, cl.lookup y.1 = some a
 | [], cs, _, h => ⟨cs, rfl, h, fun _ h => h, fun y hy => by cases hy⟩
 | (n, k) :: r, cs, hf, h => by
  have hr : ∀ y ∈ r, y.2 = .free -> ∃ a, env.cells.lookup y.1 = some a := fun y hy => hf y (mM _ hy)
  rw [List.forIn_cons]
  by_cases hk : k = .free
  ·subst hk
   obtain ⟨a, ha⟩ := hf (n, .free) mS_ rfl
   have ha' : env.cells.lookup n = some a := ha
   have hcell : cellOf env n = pure a := by unfold cellOf; rw [ha']
   obtain ⟨cl, e1, e2, e3, e4⟩ := qaj r ((n, a) :: cs) hr (fun m b hm => by
    rw [List.lookup_cons] at hm
    cases e : m == n with
    | true => rw [e] at hm; cases hm; rw [eq_of_beq e]; exact ha'
    | false => rw [e] at hm; exact h m b hm)
   refine ⟨cl, ?_, e2, fun m ⟨b, hm⟩ => e3 m ?_, fun y hy hyf => ?_⟩
   ·show ((if (NameKind.free == NameKind.free) = true then _ else _) >>= _) = _
    rw [if_pos (by rfl), hcell]
    exact e1
   ·rw [List.lookup_cons]
    cases e : m == n with
    | true => exact ⟨a, rfl⟩
    | false => exact ⟨b, hm⟩
   ·rcases List.mem_cons.mp hy with rfl | hy
    ·exact e3 n ⟨a, by rw [List.lookup_cons]; simp⟩
    ·exact e4 y hy hyf
  ·have hb : (k == NameKind.free) = false := by simpa using hk
   obtain ⟨cl, e1, e2, e3, e4⟩ := qaj r cs hr h
   refine ⟨cl, ?_, e2, e3, fun y hy hyf => ?_⟩
   ·show ((if (k == NameKind.free) = true then _ else _) >>= _) = _
    rw [hb, if_neg Bool.false_ne_true]
    exact e1
   ·rcases List.mem_cons.mp hy with rfl | hy
    ·exact absurd hyf hk
    ·exact e4 y hy hyf
theorem w6 {env : PySem.Env} {scope : Scope} (hf : ∀ y ∈ scope.names, y.2 = .free -> ∃ a, env.cells.lookup y.1 = some a) :
  ∃ cl, closureFor scope env = pure cl /\ (∀ n a, cl.lookup n = some a -> env.cells.lookup n = some a) /\ ∀ y ∈ scope.names, y.2 = .free -> ∃ a, cl.lookup y.1 = some a := by
 obtain ⟨cl, e1, e2, _, e4⟩ := qaj scope.names [] hf (fun n a h => by cases h)
 refine ⟨cl, ?_, e2, e4⟩
 unfold closureFor
 show (forIn scope.names [] _ >>= _) = _
 have e5 : (forIn scope.names [] fun x r => match x with | (name, kind) => if (kind == NameKind.free) = true then do let a <- cellOf env name; pure (ForInStep.yield ((name, a) :: r)) else pure (ForInStep.yield r) : Sem (List (Str × Addr))) = pure cl := e1
 first
  | (rw [e5]; rfl)
  | (simp only [bind_pure_comp, e5]; rfl)
theorem y1 {env : PySem.Env} : ∀ {names : List (Str × NameKind)} {x : Str}, names.lookup x = some .free -> env.scope.kind = .function -> env.kindOf x = some .cell ->
  (names.map fun (n, k) => if (k == NameKind.free && env.scope.kind == .function && env.kindOf n == some .cell) then (n, NameKind.cell) else (n, k)).lookup x = some .cell
 | [], _, h, _, _ => by simp at h
 | (n, k) :: r, x, h, hk, hx => by
  have ih := @y1 env r x
  show List.lookup x ((if (k == NameKind.free && env.scope.kind == .function && env.kindOf n == some .cell) = true then (n, NameKind.cell) else (n, k)) :: _) = _
  cases hxn : x == n with
  | true =>
   have e : x = n := eq_of_beq hxn
   subst e
   simp only [List.lookup_cons, hxn] at h
   cases h
   rw [if_pos (by rw [hk, hx]; rfl)]
   simp only [List.lookup_cons, hxn]
  | false =>
   simp only [List.lookup_cons, hxn] at h
   by_cases hc : (k == NameKind.free && env.scope.kind == .function && env.kindOf n == some .cell) = true
   ·rw [if_pos hc]; simp only [List.lookup_cons, hxn]; exact ih h hk hx
   ·rw [if_neg hc]; simp only [List.lookup_cons, hxn]; exact ih h hk hx
theorem jZ {env : PySem.Env} : ∀ {names : List (Str × NameKind)} {x : Str} {q : NameKind}, (names.map fun (n, k) => if (k == NameKind.free && env.scope.kind == .function && env.kindOf n == some .cell) then (n, NameKind.cell) else (n, k)).lookup x = some q ->
  q = .cell \/ q = .free -> (∀ y ∈ names, y.2 ≠ .cell) -> ∃ k, (x, k) ∈ names /\ k = .free
 | [], _, _, h, _, _ => by simp at h
 | (n, k) :: r, x, q, h, hq, hc => by
  have ih := @jZ env r x q
  have h' : List.lookup x ((if (k == NameKind.free && env.scope.kind == .function && env.kindOf n == some .cell) = true then (n, NameKind.cell) else (n, k)) :: (r.map fun (n, k) => if (k == NameKind.free && env.scope.kind == .function && env.kindOf n == some .cell) then (n, NameKind.cell) else (n, k))) = some q := h
  have hr : ∀ y ∈ r, y.2 ≠ .cell := fun y hy => hc y (mM _ hy)
  by_cases hcd : (k == NameKind.free && env.scope.kind == .function && env.kindOf n == some .cell) = true
  ·rw [if_pos hcd] at h'
   cases hxn : x == n with
   | true =>
    have e : x = n := eq_of_beq hxn
    subst e
    refine ⟨k, mS_, ?_⟩
    rw [Bool.and_eq_true, Bool.and_eq_true] at hcd
    exact eq_of_beq hcd.1.1
   | false =>
    simp only [List.lookup_cons, hxn] at h'
    obtain ⟨k', m, e⟩ := ih h' hq hr
    exact ⟨k', mM _ m, e⟩
  ·rw [if_neg hcd] at h'
   cases hxn : x == n with
   | true =>
    have e : x = n := eq_of_beq hxn
    subst e
    simp only [List.lookup_cons, hxn] at h'
    cases h'
    rcases hq with rfl | rfl
    ·exact absurd rfl (hc (x, .cell) mS_)
    ·exact ⟨.free, mS_, rfl⟩
   | false =>
    simp only [List.lookup_cons, hxn] at h'
    obtain ⟨k', m, e⟩ := ih h' hq hr
    exact ⟨k', mM _ m, e⟩
def qP (nt : Nat) (fr : List Nat) (Z : St) : St := List.replicate nt none ++ fr.map fun j => (Z[j]?).join
def qkU (X : Cx) (tg : Expr) (ifs : List Expr) (elt : Expr) (scope : Scope) (N' : List Str) (wi : TI) (nt : Nat) (fr : List Nat) : TE := fun Z H Q => wi Z H fun J H1 => ∀ acc fp cl C s₀ H₀ pn, H1 acc = none ->
 ∃ (g : TG) (tt : TT) (te : TE), PG (z4 X scope N' fp cl C s₀ H₀ pn) tg g /\ PF (z4 X scope N' fp cl C s₀ H₀ pn) ifs tt /\ PE (z4 X scope N' fp cl C s₀ H₀ pn) elt te /\
 ∃ W : Nat -> Nat -> St -> Hp -> Prop, (∃ m, W 0 m (qP nt fr Z) (upd H1 acc (.lst []))) /\
 ∀ i m Z' H', W i m Z' H' -> (J.stop i H' /\ Q (.ref acc) H') \/ (J.go i H' /\ ∀ x H'', J.yld i H' x H'' -> g x Z' H'' fun Z2 H2 => tt Z2 H2 fun b H3 =>
  if b = true then te Z2 H3 fun y H4 => ∃ ys, H4 acc = some (.lst ys) /\ ys.length < sizeLine /\ ∃ m', m' < m /\ W (i + 1) m' Z2 (upd H4 acc (.lst (ys ++ [y]))) else ∃ m', m' < m /\ W (i + 1) m' Z2 H3)
section
variable {X : Cx} {tg iter elt : Expr} {ifs : List Expr} {scope : Scope} {pos : Pos} {wi : TI} {N' : List Str} {nt : Nat} {fr : List Nat}
theorem qbi {prog : Program} {w : World} {A : Around} {R : Result -> Shared -> Prop} {s : Shared} {it acc : Value} {env : PySem.Env} (I : Nat -> Shared -> Prop)
  (turn : ∀ n s, I n s -> wpAny (model prog w) A (pyNext it) (fun r s₁ => match r with
   | none => R (.ok .next) s₁
   | some v => wpAny (model prog w) A (letOwnedTupleGo tg it v) (fun _ s₁' => wpAny (model prog w) A (assign tg env v) (fun _ s₂ =>
     wpAny (model prog w) A (forIn ifs true fun c r => if r = true then do let ok <- isTrue c env (eval c env); pure (ForInStep.yield ok) else pure (ForInStep.yield r)) (fun ok s₃ =>
      if ok = true then wpAny (model prog w) A (eval elt env) (fun x s₄ =>
       wpAny (model prog w) A (call (.builtin "list.append") [acc, x]) (fun _ s₅ => ∃ m, m < n /\ I m s₅) (fun _ _ => False) s₄) (fun _ _ => False) s₃
      else ∃ m, m < n /\ I m s₃) (fun _ _ => False) s₂) (fun _ _ => False) s₁') (fun _ _ => False) s₁) (fun _ _ => False) s)
  (n : Nat) (h : I n s) : codeAny (model prog w) A (.compLoop (.ListComp elt [⟨tg, iter, ifs, 0⟩] scope pos) 0 it acc env) R s := by
 refine codeAny_loop rfl I (fun n s hI => ?_) n h
 show wpAny _ A ((compTurn (.ListComp elt [⟨tg, iter, ifs, 0⟩] scope pos) 0 it acc env).onRaise (fun x => do noteFrame x env; theTreesLotGoes x)) _ _ s
 refine wpAny_noted ?_
 rw [compTurn_list]
 refine wpAny_bind (wpAny_standAt (wpAny_bind (wpAny_mono (turn n s hI) (fun r s₁ h₁ => ?_) fun _ _ h' => h'.elim)))
 cases r with
 | none => exact wpAny_pure h₁
 | some v =>
  refine wpAny_bind (wpAny_mono h₁ (fun _ s₁' h₁' => ?_) fun _ _ h' => h'.elim)
  refine wpAny_bind (wpAny_mono h₁' (fun _ s₂ h₂ => wpAny_bind (wpAny_mono h₂ (fun ok s₃ h₃ => ?_) fun _ _ h' => h'.elim)) fun _ _ h' => h'.elim)
  cases ok with
  | false => exact wpAny_pure ⟨rfl, h₃⟩
  | true =>
   exact wpAny_bind (wpAny_bind (wpAny_mono h₃ (fun x s₄ h₄ => wpAny_bind (wpAny_mono h₄ (fun _ s₅ h₅ => wpAny_pure (wpAny_pure ⟨rfl, h₅⟩)) fun _ _ h' => h'.elim)) fun _ _ h' => h'.elim))
theorem qb0 {pins : List (Addr × Obj)} {Z : St} {H : Hp} {s : Shared} {h₁ : Heap} {tk : Nat} {fp : List Addr} {cl : List (Str × Addr)} (S : ym X scope N' nt fr) (I : Inv X pins Z H s) (hfp : ∀ b ∈ fp, qeE X pins H b)
  (hex : ∀ b ∈ fp, ∃ o, s.heap.get? b = some o) (cl1 : ∀ n a, cl.lookup n = some a -> X.env.cells.lookup n = some a) (cl2 : ∀ y ∈ scope.names, y.2 = .free -> ∃ a, cl.lookup y.1 = some a)
  (hns : ∃ m, h₁.Ns s.heap.objs.size m) (old : ∀ b o, s.heap.get? b = some o -> h₁.get? b = some o) :
  Inv (z4 X scope N' fp cl s.heap.objs.size s H (X.pn ++ pins)) [] (qP nt fr Z) H { s with heap := h₁, toks := tk } := by
 have stkB : ∀ b ∈ frs X.stack, b = X.env.locals \/ b ∈ X.fs := fun b hb => List.mem_cons.mp (I.stkSub b hb)
 have hC : ∀ b o, s.heap.get? b = some o -> b ≠ s.heap.objs.size := fun b o e => Nat.ne_of_lt (Heap.lt_size e)
 obtain ⟨m, hn⟩ := hns
 refine ⟨⟨I.ok.mod, S.kind, I.ok.glob, I.ok.blt, Nat.le_refl _, fun x y c h1 h2 => I.ok.inj x y c (cl1 x c h1) (cl1 y c h2), fun x hx => ?_, fun x c hx => ?_, I.ok.hd, I.ok.frames, .inl rfl, fun b hb => ⟨?_, fun x c hx => (hfp b hb).2.2.2.2.1 x c (cl1 x c hx)⟩, I.bs, Nat.le_trans I.ok.bsz I.sz, fun b o e hb => ?_, fun b hb hb2 => ?_, I.stack, I.stkFree⟩,
  rfl, I.bare, Un.kept old, ⟨m, hn, fun i x v h1 h2 h3 => ?_⟩, fun x c hx => ?_, I.hok.fresh (Nat.le_refl _), fun x c hx => I.freeC x c (cl1 x c hx), fun p hp => ?_, I.hok.kept old, ?_⟩
 ·have hx' : ∃ k, (x, k) ∈ scope.names /\ k = .free := by
   rcases hx with hx | hx
   ·exact jZ (env := X.env) (q := .cell) hx (.inl rfl) S.nocell
   ·exact jZ (env := X.env) (q := .free) hx (.inr rfl) S.nocell
  obtain ⟨k, m, rfl⟩ := hx'
  exact cl2 (x, .free) m rfl
 ·have hx' : false = true := hx
  cases hx'
 ·obtain ⟨o, e⟩ := hex b hb
  exact hC b o e
 ·obtain ⟨f0, f1, f2, f3, f4, f5⟩ := hfp b hb
  rcases f3 with z | z
  ·exact I.ok.noex b o e z
  ·exact absurd (Nat.lt_of_lt_of_le (Heap.lt_size e) (Nat.le_trans I.ok.bsz z)) (Nat.lt_irrefl _)
 ·obtain ⟨f0, f1, f2, f3, f4, f5⟩ := hfp b hb
  rcases stkB b hb2 with z | z
  ·exact f1 z
  ·exact f2 z
 ·-- names
  have hi : nt <= i := by
   apply Nat.le_of_not_lt
   intro hlt
   unfold qP at h2
   rw [List.getElem?_append_left (by simpa using hlt), List.getElem?_replicate] at h2
   split at h2 <;> cases h2
  have h2' : (fr.map fun j => (Z[j]?).join)[i - nt]? = some (some v) := by
   unfold qP at h2
   rw [List.getElem?_append_right (by simpa using hi), List.length_replicate] at h2
   exact h2
  rw [gM_] at h2'
  cases ej : fr[i - nt]? with
  | none => rw [ej] at h2'; cases h2'
  | some j =>
   rw [ej] at h2'
   have hσ : (Z[j]?).join = some v := by simpa using h2'
   have hσ' : Z[j]? = some (some v) := by
    cases e : Z[j]? with
    | none => rw [e] at hσ; cases hσ
    | some o =>
     rw [e] at hσ
     have : o = some v := hσ
     rw [this]
   obtain ⟨y, hy1, hy2, hy3⟩ := S.slot (i - nt) j ej
   have hii : nt + (i - nt) = i := by omega
   rw [hii] at hy1
   have exy : y = x := by
    have h1' : N'[i]? = some x := h1
    rw [h1'] at hy1
    exact (Option.some.inj hy1).symm
   subst exy
   have hmem : (y, NameKind.free) ∈ scope.names := PySem.mem_of_lookup hy3
   have hcellk : X.env.kindOf y = some .cell := S.frees (y, .free) hmem rfl
   obtain ⟨m0, hn0, hl0⟩ := I.loc
   obtain ⟨u, ru, lk⟩ := hl0 j y v hy2 hσ' (.inr (.inl hcellk))
   refine ⟨u, ru, .inr ⟨.inl (y1 hy3 I.ok.kind hcellk), ?_⟩⟩
   rcases lk with ⟨k1, _⟩ | ⟨_, c, e, z⟩
   ·rw [hcellk] at k1; cases k1
   ·obtain ⟨a, ea⟩ := cl2 (y, .free) hmem rfl
    have ea' := cl1 y a ea
    rw [e] at ea'
    cases ea'
    obtain ⟨o, ho, hd⟩ := z
    exact ⟨c, ea, o, old _ _ ho, hd⟩
 ·obtain ⟨v, o, ho, hd⟩ := I.cell x c (cl1 x c hx)
  exact ⟨v, o, old _ _ ho, hd⟩
 ·have hp' : p ∈ X.pn ++ pins := by
   rcases mA_.mp (show p ∈ (X.pn ++ pins) ++ [] from hp) with z | z
   ·exact z
   ·cases z
  obtain ⟨e, n, ne, nf, d⟩ := I.pin p hp'
  refine ⟨old _ _ e, n, hC _ _ e, fun z => ?_, d⟩
  rcases stkB p.1 z with z | z
  ·exact ne z
  ·exact nf z
 ·show (qP nt fr Z).length = N'.length
  unfold qP
  rw [lA_, List.length_replicate, lM_, S.len]
theorem qeQ {pins : List (Addr × Obj)} {Z Z' : St} {H H' : Hp} {s s' : Shared} {h' : Heap} {fp : List Addr} {cl : List (Str × Addr)} (I : Inv X pins Z H s) (hfp : ∀ b ∈ fp, qeE X pins H b)
  (J : Inv (z4 X scope N' fp cl s.heap.objs.size s H (X.pn ++ pins)) [] Z' H' s') (sb : Heap.SameBut s.heap.objs.size s'.heap h') : Inv X pins Z H' { s' with heap := h' } := by
 have hC : H' s.heap.objs.size = none := J.free
 have u := J.base
 have big : ∀ b o, s.heap.get? b = some o -> b ≠ s.heap.objs.size := fun b o e => Nat.ne_of_lt (Heap.lt_size e)
 have get' : ∀ b, b ≠ s.heap.objs.size -> h'.get? b = s'.heap.get? b := fun b hb => sb.2 b hb
 have u2 : Un (frs X.stack) fp H H' s.heap h' :=
  ⟨fun b o e n hb hx => (get' b (big b o e)).trans (u.keep b o e n hb hx), fun b o e n hb hx => by
   obtain ⟨sl, q⟩ := u.slot b o e n hb hx
   exact ⟨sl, (get' b (big b o e)).trans q⟩, u.free, fun b o e hx => by
   obtain ⟨o', q⟩ := u.there b o e hx
   exact ⟨o', (get' b (big b o e)).trans q⟩, u.tups, u.frzs, u.tbls⟩
 refine I.call' (s' := { s' with heap := h' }) (ch := fp) J.os u2 (fun b o e => ?_) J.bare (fun b hb => ?_)
 ·refine (J.hok b o e).stay (fun c v hc q => ?_) (fun _ q => q) fun _ _ q => q
  refine (get' c ?_).trans q
  rintro rfl
  rcases hc with hc | hc
  ·rw [<- hc, hC] at e; cases e
  ·rw [hC] at hc; cases hc
 ·obtain ⟨f0, f1, f2, f3, f4, f5⟩ := hfp b hb
  exact ⟨f3, f1, f4, f5⟩
theorem qkV (hc : X.calm = true) (hi : PI X tg iter wi) (S : ym X scope N' nt fr)
  (hs : ∀ x, foldedSetIterable iter X.env x = pure x := by intro _; rfl) : PE X (.ListComp elt [⟨tg, iter, ifs, 0⟩] scope pos) (qkU X tg ifs elt scope N' wi nt fr) := by
 intro pins s Z H Q I hw
 obtain ⟨cl, hcl, cl1, cl2⟩ := w6 (env := X.env) (scope := scope) (fun y hy hf => I.ok.has y.1 (.inl (S.frees y hy hf)))
 rw [eval_ListComp]
 refine wpAny_comprehension_free (use := none) rfl hs hcl S.kind S.names (thn (hi pins s Z H _ I hw) fun v s1 h1 => thn h1 fun itv s2 h2 => ?_)
 obtain ⟨it, fp, tn, J, H2, e, I2, T, st2, f2, hR⟩ := h2
 subst e
 have hacc : H2 s2.heap.objs.size = none := I2.hok.fresh (Nat.le_refl _)
 refine wpAny_newObj_type (wpAny_newFunctionEnv S.nocell (by intro y hy; simp at hy) (fun h₁ hns₁ hsb₁ => ?_) S.kind)
 dsimp only at hns₁ hsb₁ |-
 have I3 : Inv X pins Z (upd H2 s2.heap.objs.size (.lst [])) { s2 with heap := s2.heap.push { cls := .type "list", dict := none, data := .seq ([] : List Value).toArray } } :=
  I2.lnew (t' := s2.toks) (its := []) .nil (Nat.zero_le _)
 generalize hs3 : ({ s2 with heap := s2.heap.push { cls := .type "list", dict := none, data := .seq ([] : List Value).toArray } } : Shared) = s3 at I3
 have hh3 : s2.heap.push { cls := .type "list", dict := none, data := .seq ([] : List Value).toArray } = s3.heap := by rw [<- hs3]
 rw [hh3] at hns₁ hsb₁
 have old : ∀ b o, s3.heap.get? b = some o -> h₁.get? b = some o := fun b o q => hsb₁.extBut b o (Nat.ne_of_lt (Heap.lt_size q)) (Heap.get?_push_of_some _ q)
 have objs2 : ∀ b ∈ fp, ∃ o, s2.heap.get? b = some o := fun b hb => by
  obtain ⟨o, q, _⟩ := T.obj 0 _ st2 b hb
  exact ⟨o, q⟩
 have keep23 : ∀ b o, s2.heap.get? b = some o -> s3.heap.get? b = some o := fun b o q => by rw [<- hh3]; exact Heap.get?_push_of_some _ q
 have fpne : ∀ b ∈ fp, b ≠ s2.heap.objs.size := fun b hb => by
  obtain ⟨o, q⟩ := objs2 b hb
  exact Nat.ne_of_lt (Heap.lt_size q)
 have f3 : ∀ b ∈ fp, qeE X pins (upd H2 s2.heap.objs.size (.lst [])) b := fun b hb => ⟨by rw [qJ (fpne b hb)]; exact (f2 b hb).1, (f2 b hb).2⟩
 have J0 : Inv (z4 X scope N' fp cl s3.heap.objs.size s3 (upd H2 s2.heap.objs.size (.lst [])) (X.pn ++ pins)) [] (qP nt fr Z) (upd H2 s2.heap.objs.size (.lst [])) { s3 with heap := h₁, toks := s3.toks } :=
  qb0 S I3 f3 (fun b hb => (objs2 b hb).imp fun o q => keep23 b o q) cl1 cl2 ⟨_, hns₁⟩ old
 obtain ⟨g, tt, te, hg, hf, he, W, ⟨m0, w0⟩, turn⟩ := hR s2.heap.objs.size fp cl s3.heap.objs.size s3 (upd H2 s2.heap.objs.size (.lst [])) (X.pn ++ pins) hacc
 have T0 : tn 0 h₁ := T.keep 0 _ _ st2 fun b hb o q => old b o (keep23 b o q)
 have s3e : ∀ tk : Nat, ({ s2 with heap := h₁, toks := tk } : Shared) = { s3 with heap := h₁, toks := tk } := fun tk => by rw [<- hs3]
 have loop : ∀ tk : Nat, codeAny (model X.prog X.w) X.A (.compLoop (.ListComp elt [⟨tg, iter, ifs, 0⟩] scope pos) 0 (.ref it) (.ref s2.heap.objs.size) (compEnvC scope cl s3.heap.objs.size X.env))
   (compPost (model X.prog X.w) X.A X.xe none (EP X pins Z Q) (.ref s2.heap.objs.size) s3.heap.objs.size) { s3 with heap := h₁, toks := tk } := fun tk => by
  have stat : ∀ {H' : Hp}, (∀ b ∈ fp, H' b = none) -> ∀ b ∈ fp, qeE (z4 X scope N' fp cl s3.heap.objs.size s3 (upd H2 s2.heap.objs.size (.lst [])) (X.pn ++ pins)) [] H' b := fun {H'} hn b hb => by
   obtain ⟨o, q⟩ := objs2 b hb
   have hbC : b ≠ s3.heap.objs.size := Nat.ne_of_lt (Heap.lt_size (keep23 b o q))
   refine ⟨hn b hb, hbC, fun z => ?_, .inl hb, fun x c hx => (f2 b hb).2.2.2.2.1 x c (cl1 x c hx), fun p hp => ?_⟩
   ·rcases List.mem_cons.mp (I2.stkSub b z) with z | z
    ·exact (f2 b hb).2.1 z
    ·exact (f2 b hb).2.2.1 z
   ·have hp' : p ∈ X.pn ++ pins := by
     rcases mA_.mp (show p ∈ (X.pn ++ pins) ++ [] from hp) with z | z
     ·exact z
     ·cases z
    exact (f2 b hb).2.2.2.2.2 p hp'
  have fr0 : ∀ b ∈ fp, upd H2 s2.heap.objs.size (.lst []) b = none := fun b hb => (f3 b hb).1
  refine qbi (fun n s' => ∃ i Z' H', Inv (z4 X scope N' fp cl s3.heap.objs.size s3 (upd H2 s2.heap.objs.size (.lst [])) (X.pn ++ pins)) [] Z' H' s' /\ tn i s'.heap /\ (∀ b ∈ fp, H' b = none) /\ W i n Z' H') ?_ m0
   ⟨0, qP nt fr Z, _, J0.tok tk, T0, fr0, w0⟩
  rintro n s4 ⟨i, Z4, H4, J4, st4, fr4, w4⟩
  rcases turn i n Z4 H4 w4 with ⟨stop, qn⟩ | ⟨go, step⟩
  ·refine thn (T.done (z4 X scope N' fp cl s3.heap.objs.size s3 (upd H2 s2.heap.objs.size (.lst [])) (X.pn ++ pins)) rfl rfl rfl hc i [] s4 Z4 H4 _ J4 (stat fr4) st4 stop) fun r s5 ⟨hr, J5⟩ => ?_
   subst hr
   obtain ⟨m5, n5, _⟩ := J5.loc
   refine ⟨m5, n5, fun h' sb => ⟨.ref s2.heap.objs.size, H4, qeQ I3 f3 J5 sb, rfl, qn⟩⟩
  ·refine thn (T.item (z4 X scope N' fp cl s3.heap.objs.size s3 (upd H2 s2.heap.objs.size (.lst [])) (X.pn ++ pins)) rfl rfl rfl hc i [] s4 Z4 H4 _ J4 (stat fr4) st4 go) fun r s5 ⟨u, hr, h5⟩ => ?_
   subst hr
   refine thn h5 fun _ s6 ⟨x, H6, J6, r6, y6, st6, fr6⟩ => ?_
   have J6' := J6.pinned (stat fr6) (T.obj _ _ st6)
   have again : ∀ {Z7 : St} {H7 : Hp} {s7 : Shared}, Inv (z4 X scope N' fp cl s3.heap.objs.size s3 (upd H2 s2.heap.objs.size (.lst [])) (X.pn ++ pins)) ([] ++ qbV fp s6.heap) Z7 H7 s7 -> (∃ m', m' < n /\ W (i + 1) m' Z7 H7) ->
     ∃ m, m < n /\ ∃ i Z' H', Inv (z4 X scope N' fp cl s3.heap.objs.size s3 (upd H2 s2.heap.objs.size (.lst [])) (X.pn ++ pins)) [] Z' H' s7 /\ tn i s7.heap /\ (∀ b ∈ fp, H' b = none) /\ W i m Z' H' := fun {Z7 H7 s7} I7 hm => by
    obtain ⟨m', hm, w7⟩ := hm
    refine ⟨m', hm, i + 1, Z7, H7, I7.unpinned, T.keep _ _ _ st6 fun b hb o q => (I7.pin (b, o) (mr_ _ (mr_ _ (yN hb q)))).1, fun b hb => ?_, w7⟩
    obtain ⟨o, q, d⟩ := T.obj _ _ st6 b hb
    exact (I7.pin (b, o) (mr_ _ (mr_ _ (yN hb q)))).2.1
   refine thn (hg _ s6 Z4 H6 x u _ J6' r6 (step x H6 y6)) fun _ s7 ⟨Z7, H7, J7, q7⟩ => ?_
   refine thn (hf _ s7 Z7 H7 _ J7 q7) fun ok s8 ⟨H8, J8, q8⟩ => ?_
   cases ok with
   | false =>
    rw [if_neg Bool.false_ne_true] at q8 |-
    exact again J8 q8
   | true =>
    rw [if_pos rfl] at q8 |-
    refine thn (he _ s8 Z7 H8 _ J8 q8) fun z s9 ⟨y, H9, J9, r9, ys, hys, hz, hm⟩ => ?_
    refine thn (qa5 _ s9 Z7 H9 (.ref s2.heap.objs.size) [y] (.ref s2.heap.objs.size) [z] (fun _ H' => H' = upd H9 s2.heap.objs.size (.lst (ys ++ [y]))) J9 rfl (.cons r9 .nil) ⟨_, ys, y, rfl, rfl, hys, hz, rfl⟩) fun _ s10 ⟨_, H10, J10, _, e10⟩ => ?_
    subst e10
    exact again J10 hm
 have start : ∀ tk : Nat, codeAny (model X.prog X.w) X.A (.compStart (.ListComp elt [⟨tg, iter, ifs, 0⟩] scope pos) 0 (.ref it) (.ref s2.heap.objs.size) (compEnvC scope cl s3.heap.objs.size X.env))
   (compPost (model X.prog X.w) X.A X.xe none (EP X pins Z Q) (.ref s2.heap.objs.size) s3.heap.objs.size) { s3 with heap := h₁, toks := tk } := fun tk =>
  codeAny_compStart_list (loop tk) (T.self X.A 0 _ _ _ T0 (loop tk))
 have fin := start (s2.toks + ([] : List (Str × Value)).length)
 rw [<- s3e] at fin
 rw [<- hh3] at fin
 rw [hh3] at fin |-
 exact fin
end
structure qgP (K : Fr0) (A : Addr -> Prop) (H : Hp) (ds : List D) (J : It) : Prop where
 go : ∀ H' i d, Ext A H H' -> ds[i]? = some d -> J.go i H'
 yl : ∀ H' i d x H'', Ext A H H' -> ds[i]? = some d -> J.yld i H' x H'' -> jY H' H'' /\ Is K A H'' d x
 stop : ∀ H', Ext A H H' -> J.stop ds.length H'
def CnT (c : Fc) (Z : St) (H : Hp) (a : Addr) : Prop := Cn c Z a /\ (H a).isSome = true
def WpI (K : Fr0) (c : Fc) (Z : St) (H : Hp) (Q : It -> Hp -> Prop) : R (List D × Env) -> Prop
 | .ok (ds, U) => ∀ J H', Rep K c U Z H' -> qgP K (CnT c Z H') H' ds J -> Gr c.O Z H H' -> Q J H'
 | .exc x U => ∀ H', Rep K c U Z H' -> Gr c.O Z H H' -> c.E x H'
 | .bad => False
def DI (X : Cx) (c : Fc) (tg it : Expr) (f : M (List D)) : Prop := ∃ w, PI X tg it w /\ ∀ U Z H Q, Rep X.K c U Z H -> WpI X.K c Z H Q (f U) -> w Z H Q
section
variable {X : Cx} {c : Fc} {tg a b e : Expr} {pos : Pos}
def qpz (K : Fr0) (tl : TE) : TI := fun Z H R => tl Z H fun x H1 => (∃ a, x = .ref a /\ (∃ xs, SqL K H1 a xs) /\ R (Itl K a) H1) \/ (∃ a, x = .ref a /\ (∃ xs, SqT K H1 a xs) /\ R (Itt K a) H1)
theorem qmH {tl : TE} (hl : PE X e tl) : PI X tg e (qpz X.K tl) := by
 intro pins s Z H R I h
 refine thn (hl pins s Z H _ I h) fun v s1 ⟨x, H1, I1, r1, q1⟩ => ?_
 rcases q1 with ⟨a, e, ⟨xs, hq⟩, q⟩ | ⟨a, e, ⟨xs, hq⟩, q⟩
 ·subst e
  cases r1
  obtain ⟨its, rv, p, hz⟩ := I1.list hq
  refine wpAny_pyIter_list p.isList ?_
  refine ⟨s1.heap.objs.size, [s1.heap.objs.size], _, _, H1, rfl, I1.kept (t' := s1.toks) fun b o e => Heap.get?_push_of_some _ e, qgn a _, ⟨_, Heap.get?_push_size _ rfl, rfl, rfl⟩, fun b hb => ?_, q⟩
  have e : b = s1.heap.objs.size := by simpa using hb
  subst e
  exact I1.fpOk (Nat.le_refl _) (I1.hok.fresh (Nat.le_refl _))
 ·subst e
  cases r1
  obtain ⟨its, rv, p, hz⟩ := I1.tuple hq
  refine wpAny_pyIter_tuple (show s1.heap.IsTuple a its.toArray from p) ?_
  refine ⟨s1.heap.objs.size, [s1.heap.objs.size], _, _, H1, rfl, I1.kept (t' := s1.toks) fun b o e => Heap.get?_push_of_some _ e, qfC a _, ⟨_, Heap.get?_push_size _ rfl, rfl, rfl⟩, fun b hb => ?_, q⟩
  have e : b = s1.heap.objs.size := by simpa using hb
  subst e
  exact I1.fpOk (Nat.le_refl _) (I1.hok.fresh (Nat.le_refl _))
def qmI : D -> Option (List D)
 | .tup ds => some ds
 | .lst ds => some ds
 | .fz ns => some (ns.map .int)
 | _ => none
theorem SqL.inj {K : Fr0} {H : Hp} {a : Addr} {xs ys : List V} (h : H a = some (.lst xs)) (q : SqL K H a ys) (hk : ∀ o, K.lookup a = some o -> False) : ys = xs := by
 rcases q with (q | ⟨o, q⟩) | ⟨o, _, _, q, _⟩
 ·rw [h] at q; cases q; rfl
 ·rw [h] at q; cases q
 ·exact (hk o q).elim
theorem qcp {K : Fr0} {A : Addr -> Prop} {H : Hp} : ∀ ns : List Int, IsL K A H (ns.map .int) (ns.map V.int)
 | [] => rfl
 | n :: ns => ⟨.int n, ns.map V.int, rfl, rfl, qcp ns⟩
theorem qgQ {K : Fr0} {A : Addr -> Prop} {H : Hp} {ds : List D} {xs : List V} {a : Addr} (hs : ∀ H', Ext A H H' -> SqL K H' a xs) (il : IsL K A H ds xs) : qgP K A H ds (Itl K a) where
 go := fun H' i d ex hd => by
  obtain ⟨x, h1, h2⟩ := il.get hd
  exact ⟨xs, x, hs H' ex, h1⟩
 yl := fun H' i d x H'' ex hd y => by
  obtain ⟨e, y⟩ := y
  subst e
  obtain ⟨x', h1, h2⟩ := il.get hd
  have h3 := y xs (hs _ ex)
  rw [h1] at h3
  cases h3
  exact ⟨jY.refl _, Is.ext ex (fun _ h _ => h) h2⟩
 stop := fun H' ex => ⟨xs, hs H' ex, by rw [il.length]; exact Nat.le_refl _⟩
theorem qmJ {K : Fr0} {A : Addr -> Prop} {H : Hp} {ds : List D} {xs : List V} {a : Addr} (hs : ur K H a xs) (il : IsL K A H ds xs) : qgP K A H ds (Itt K a) where
 go := fun H' i d ex hd => by
  obtain ⟨x, h1, h2⟩ := il.get hd
  exact ⟨xs, x, (hs.elim (fun h => .inl (ex.tup _ _ h)) .inr : ur K H' a xs).sq, h1⟩
 yl := fun H' i d x H'' ex hd y => by
  obtain ⟨e, y⟩ := y
  subst e
  obtain ⟨x', h1, h2⟩ := il.get hd
  have h3 := y xs (hs.elim (fun h => .inl (ex.tup _ _ h)) .inr : ur K _ a xs).sq
  rw [h1] at h3
  cases h3
  exact ⟨jY.refl _, Is.ext ex (fun _ h _ => h) h2⟩
 stop := fun H' ex => ⟨xs, (hs.elim (fun h => .inl (ex.tup _ _ h)) .inr : ur K H' a xs).sq, by rw [il.length]; exact Nat.le_refl _⟩
def v9 (f : M D) : M (List D) := bnd f fun d => lift (qmI d)
theorem uW {K : Fr0} {Z : St} {H : Hp} {Q : It -> Hp -> Prop} {o : Option (List D)} {U : Env} (h : WpI K c Z H Q (lift o U)) : ∃ ds, o = some ds /\ ∀ J H', Rep K c U Z H' -> qgP K (CnT c Z H') H' ds J -> Gr c.O Z H H' -> Q J H' := by
 cases o with
 | none => exact h.elim
 | some d => exact ⟨d, rfl, h⟩
theorem WpI.gr {K : Fr0} {Z : St} {H H1 : Hp} {Q : It -> Hp -> Prop} : ∀ {r : R (List D × Env)}, WpI K c Z H Q r -> Gr c.O Z H H1 -> WpI K c Z H1 Q r
 | .ok (d, U), h, g => fun v H' hr hi hg => h v H' hr hi (g.trans hg)
 | .exc x U, h, g => fun H' hr hg => h H' hr (g.trans hg)
 | .bad, h, _ => h
theorem Wp.bndI {K : Fr0} {Z : St} {H : Hp} {Q : It -> Hp -> Prop} {f : M D} {k : D -> M (List D)} {U : Env} {Q' : VK} (h : WpI K c Z H Q (Sk.bnd f k U)) (hQ : ∀ d U' v H', Rep K c U' Z H' -> Is K (Cn c Z) H' d v -> Gr c.O Z H H' -> WpI K c Z H' Q (k d U') -> Q' v H') : Wp K c Z H Q' (f U) := by
 unfold Sk.bnd at h
 cases e : f U with
 | ok p => rw [e] at h; exact fun v H' hr hi hg => hQ p.1 p.2 v H' hr hi hg (h.gr hg)
 | exc x U' => rw [e] at h; exact h
 | bad => rw [e] at h; exact h
theorem WpL.bndI {K : Fr0} {Z : St} {H : Hp} {Q : It -> Hp -> Prop} {f : M (List D)} {k : List D -> M (List D)} {U : Env} {Q' : List V -> Hp -> Prop} (h : WpI K c Z H Q (Sk.bnd f k U)) (hQ : ∀ d U' v H', Rep K c U' Z H' -> IsL K (Cn c Z) H' d v -> Gr c.O Z H H' -> WpI K c Z H' Q (k d U') -> Q' v H') : WpL K c Z H Q' (f U) := by
 unfold Sk.bnd at h
 cases e : f U with
 | ok p => rw [e] at h; exact fun v H' hr hi hg => hQ p.1 p.2 v H' hr hi hg (h.gr hg)
 | exc x U' => rw [e] at h; exact h
 | bad => rw [e] at h; exact h
theorem Is.tr {K : Fr0} {A : Addr -> Prop} {H : Hp} {d : D} {v : V} (h : Is K A H d v) : Is K (fun a => A a /\ (H a).isSome = true) H d v := Is.ext Ext.refl (fun a h1 h2 => ⟨h1, h2⟩) h
theorem vj {f : M D} (h : DE X c e f) : DI X c tg e (v9 f) := by
 obtain ⟨t, p, w⟩ := h
 refine ⟨_, qmH p, fun U Z H Q r h => w U Z H _ r (Wp.bndI h fun d U1 v H1 r1 i1 g1 h1 => ?_)⟩
 obtain ⟨ds, e, h2⟩ := uW h1
 have i2 : Is X.K (CnT c Z H1) H1 d v := i1.tr
 cases d <;> simp only [qmI] at e <;> try (cases e; done)
 ·cases e
  obtain ⟨a, xs, rfl, ta, il⟩ := i2
  exact .inr ⟨a, rfl, ⟨xs, ta.sq⟩, h2 _ H1 r1 (qmJ ta il) .refl⟩
 ·cases e
  obtain ⟨a, xs, rfl, hA, ta, il⟩ := i2
  exact .inl ⟨a, rfl, ⟨xs, .inl (.inl ta)⟩, h2 _ H1 r1 (qgQ (fun H' ex => .inl (.inl (ex.at_ _ _ hA ta))) il) .refl⟩
 ·cases e
  obtain ⟨a, rfl, ta⟩ := i2
  exact .inl ⟨a, rfl, ⟨_, ta.sq⟩, h2 _ H1 r1 (qgQ (fun H' ex => (ta.elim (fun ⟨o, h⟩ => .inl ⟨o, ex.frz _ _ _ h⟩) .inr : qmx X.K H' a _).sq) (qcp _)) .refl⟩
def qaK (lo : Int) (n : Nat) : List D := (List.range n).map fun i => .int (lo + (i : Nat))
theorem qjI {K : Fr0} {A : Addr -> Prop} {H : Hp} (lo : Int) (n : Nat) : qgP K A H (qaK lo n) (Itr lo n) where
 go := fun H' i d ex hd => by
  have : i < (qaK lo n).length := (gI_.mp hd).1
  show i < n
  simpa [qaK] using this
 yl := fun H' i d x H'' ex hd y => by
  obtain ⟨e, y⟩ := y
  subst e
  subst y
  refine ⟨jY.refl _, ?_⟩
  unfold qaK at hd
  rw [gM_] at hd
  cases e2 : (List.range n)[i]? with
  | none => rw [e2] at hd; cases hd
  | some j =>
   rw [e2] at hd
   have hj : j = i := by
    have := (gI_.mp e2).2
    simpa using this.symm
   subst hj
   cases hd
   rfl
 stop := fun H' ex => by show n <= (qaK lo n).length; simp [qaK]
def qjJ : List D -> Option (List D)
 | [.int j] => if decide (-(2 ^ 62) <= j) && decide (j < 2 ^ 62) then some (qaK 0 j.toNat) else none
 | _ => none
def uF (f : M (List D)) : M (List D) := bnd f fun ds => lift (qjJ ds)
theorem yn {f : M (List D)} {p : Pos} (hg : Gl X "range") (hm : X.mg "range" = none) (ha : DA X c [a] f) (hs : starEach [a] X.env = [(false, eval a X.env)] := by rfl) : DI X c tg (.Call (.Name "range" p) [a] [] pos) (uF f) := by
 obtain ⟨t, p, w⟩ := ha
 refine ⟨_, qgo hg hm p hs, fun U Z H Q r h => w U Z H _ r (WpL.bndI h fun ds U1 vs H1 r1 i1 g1 h1 => ?_)⟩
 obtain ⟨es, e, h2⟩ := uW h1
 unfold qjJ at e
 split at e
 ·rename_i j
  obtain ⟨v, rfl, e2⟩ := IsL.inv1 i1
  cases e2
  by_cases hb : (decide (-(2 ^ 62) <= j) && decide (j < 2 ^ 62)) = true
  ·rw [if_pos hb] at e
   cases e
   rw [Bool.and_eq_true] at hb
   exact ⟨j, rfl, of_decide_eq_true hb.1, of_decide_eq_true hb.2, h2 _ H1 r1 (qjI 0 _) .refl⟩
  ·rw [if_neg hb] at e
   cases e
 ·cases e
def yy (g : D -> Env -> Option Env) (b : MS) : List D -> MS
 | [], U => .ok (.nx U)
 | d :: ds, U => match g d U with
  | none => .bad
  | some U1 => match b U1 with
   | .ok (.nx U2) => yy g b ds U2
   | .ok (.ct U2) => yy g b ds U2
   | .ok (.bk U2) => .ok (.nx U2)
   | .ok (.rt r U2) => .ok (.rt r U2)
   | .exc x U2 => .exc x U2
   | .bad => .bad
def qbP (f : M (List D)) (g : D -> Env -> Option Env) (b : MS) : MS := sbnd f fun ds => yy g b ds
theorem WpI.sbnd {K : Fr0} {Z : St} {H : Hp} {D' : qh9} {f : M (List D)} {k : List D -> MS} {U : Env} {Q' : It -> Hp -> Prop} (h : WpS K c Z H D' (Sk.sbnd f k U))
  (hQ : ∀ ds U' J H', Rep K c U' Z H' -> qgP K (CnT c Z H') H' ds J -> Gr c.O Z H H' -> WpS K c Z H' D' (k ds U') -> Q' J H') : WpI K c Z H Q' (f U) := by
 unfold Sk.sbnd at h
 cases e : f U with
 | ok p => rw [e] at h; exact fun v H' hr hi hg => hQ p.1 p.2 v H' hr hi hg (h.gr hg.s)
 | exc x U' => rw [e] at h; exact fun H' hr hg => h Z H' hr hg.s
 | bad => rw [e] at h; exact h
theorem GrS.extT {Z Z' : St} {H H' : Hp} (g : GrS c.O Z H Z' H') : Ext (CnT c Z H) H H' := ⟨g.ext.tup, g.ext.frz, fun b o hb h => g.ext.at_ b o hb.1.2 h⟩
theorem GrS.cnT {Z Z' : St} {H H' : Hp} (g : GrS c.O Z H Z' H') {a : Addr} (h : CnT c Z H a) : Cn c Z' a := ⟨h.1.1, g.cl a h.1.2 h.2⟩
theorem qak {α : Type} {l : List α} {i : Nat} (h : i < l.length) : l.drop i = l[i] :: l.drop (i + 1) := List.drop_eq_getElem_cons h
theorem vv {it : Expr} {body : List Stmt} {f : M (List D)} {g : D -> Env -> Option Env} {b : MS} (hp : PassesOwn (model X.prog X.w) X.A X.env X.xe) (hc : X.calm = true) (hi : DI X c tg it f) (hg : DG X c tg g) (hb : DSs X c body b)
  (hs : ∀ x, foldedSetIterable it X.env x = pure x := by intro _; rfl) : DS X c (.For tg it body [] pos) (qbP f g b) := by
 obtain ⟨wi, pi, wI⟩ := hi
 obtain ⟨tg', pg, wg⟩ := hg
 obtain ⟨tb, pb, wb⟩ := hb
 refine ⟨_, qmf hp hc pi pg pb hs, fun U Z H D' r h => wI U Z H _ r (WpI.sbnd h fun ds U1 J H1 r1 iok g1 h1 => ?_)⟩
 refine ⟨fun i m Z' H' => m = ds.length - i /\ i <= ds.length /\ ∃ U', Rep X.K c U' Z' H' /\ GrS c.O Z H1 Z' H' /\ WpS X.K c Z' H' D' (yy g b (ds.drop i) U'), ⟨ds.length, by simp, Nat.zero_le _, U1, r1, .refl, by simpa using h1⟩, ?_⟩
 rintro i m Z' H' ⟨rfl, hi, U', r', gs, w⟩
 by_cases hlt : i < ds.length
 ·refine .inr ⟨iok.go H' i ds[i] gs.extT (by simp [hlt]), fun Z2 H2 => ∃ U2, Rep X.K c U2 Z2 H2 /\ GrS c.O Z H1 Z2 H2 /\ WpS X.K c Z2 H2 D' (yy g b (ds.drop (i + 1)) U2), fun Z2 H2 n => ⟨ds.length - (i + 1), by omega, rfl, hlt, n⟩, fun x H'' y => ?_⟩
  obtain ⟨sm, ix⟩ := iok.yl H' i ds[i] x H'' gs.extT (by simp [hlt]) y
  rw [qak hlt] at w
  unfold yy at w
  have gs2 : GrS c.O Z H1 Z' H'' := gs.trans (Gr.of_same sm).s
  have ix2 : Is X.K (Cn c Z') H'' ds[i] x := Is.ext Ext.refl (fun a ha _ => gs2.cnT ha) ix
  cases e1 : g ds[i] U' with
  | none => simp only [e1] at w; exact w.elim
  | some U2 =>
   simp only [e1] at w
   refine wg U' Z' H'' ds[i] x U2 _ (r'.same sm) ix2 e1 fun Z2 r2 g2 _ => wb U2 Z2 H'' _ r2 ?_
   have w2 := w.gr ((Gr.of_same sm).s.trans g2)
   have gs3 : GrS c.O Z H1 Z2 H'' := gs2.trans g2
   cases e2 : b U2 with
   | ok fl =>
    cases fl with
    | nx U3 => simp only [e2] at w2; exact fun Z3 H3 r3 g3 => ⟨U3, r3, gs3.trans g3, w2.gr g3⟩
    | ct U3 => simp only [e2] at w2; exact fun Z3 H3 r3 g3 => ⟨U3, r3, gs3.trans g3, w2.gr g3⟩
    | bk U3 => simp only [e2] at w2; exact w2
    | rt d U3 => simp only [e2] at w2; exact w2
   | exc x U3 => simp only [e2] at w2; exact w2
   | bad => simp only [e2] at w2; exact w2
 ·have hie : i = ds.length := by omega
  subst hie
  rw [List.drop_of_length_le (Nat.le_refl _)] at w
  exact .inl ⟨iok.stop H' gs.extT, w Z' H' r' .refl⟩
end
def cin (B0 : Addr -> Prop) (H1 : Hp) (O' : List Nat) (Io' : Addr -> Prop) (acc : Addr) (S' : Nat -> Option (Option V)) : Fc where
 O := O'
 P := O'
 B := fun a => B0 a /\ a ≠ acc
 H0 := upd H1 acc (.lst [])
 Io := fun a => Io' a \/ a = acc
 E := fun _ _ => False
 S := S'
def zL (g : D -> Env -> Option Env) (t : M Bool) (e : M D) : List D -> List D -> Env -> R (List D × Env)
 | [], acc, U => .ok (acc, U)
 | d :: ds, acc, U => match g d U with
  | none => .bad
  | some U1 => match t U1 with
   | .ok (true, U2) => match e U2 with
    | .ok (y, U3) => if qZ (acc.length + 1) then zL g t e ds (acc ++ [y]) U3 else .bad
    | _ => .bad
   | .ok (false, U2) => zL g t e ds acc U2
   | _ => .bad
def jX (nt : Nat) (fr : List Nat) (U : Env) : Env := List.replicate nt none ++ fr.map fun j => (U[j]?).join
def qlQ (fo : Option (Nat × Nat)) (Ue U : Env) : Env := match fo with
 | none => U
 | some (i, j) => U.set j (Ue[i]?).join
def zM (nt : Nat) (fr : List Nat) (fo : Option (Nat × Nat)) (f : M (List D)) (g : D -> Env -> Option Env) (t : M Bool) (e : M D) : M D := bnd f fun ds U => match zL g t e ds [] (jX nt fr U) with
 | .ok (ys, Ue) => .ok (.lst ys, qlQ fo Ue U)
 | _ => .bad
def DF (X : Cx) (c : Fc) (ifs : List Expr) (f : M Bool) : Prop := ∃ t, PF X ifs t /\ ∀ U Z H Q, Rep X.K c U Z H -> WpB X.K c Z H Q (f U) -> t Z H Q
def foO (fo : Option (Nat × Nat)) : List Nat := match fo with
 | none => []
 | some (i, _) => [i]
section
variable {X : Cx} {c : Fc} {tg a b e : Expr} {pos : Pos}
theorem uG : DF X c [] (ret true) := ⟨_, qmF, fun U Z H Q r h => h H r .refl⟩
theorem qgR {f : M Bool} (h : DT X c e f) : DF X c [e] f := by
 obtain ⟨t, p, w⟩ := h
 exact ⟨_, qmG p, w⟩
theorem WpI.bnd {K : Fr0} {Z : St} {H : Hp} {Q : VK} {f : M (List D)} {k : List D -> M D} {U : Env} {Q' : It -> Hp -> Prop} (h : Wp K c Z H Q (Sk.bnd f k U))
  (hQ : ∀ ds U' J H', Rep K c U' Z H' -> qgP K (CnT c Z H') H' ds J -> Gr c.O Z H H' -> Wp K c Z H' Q (k ds U') -> Q' J H') : WpI K c Z H Q' (f U) := by
 unfold Sk.bnd at h
 cases e : f U with
 | ok p => rw [e] at h; exact fun v H' hr hi hg => hQ p.1 p.2 v H' hr hi hg (h.gr hg)
 | exc x U' => rw [e] at h; exact h
 | bad => rw [e] at h; exact h
theorem Rep.grow {K : Fr0} {B0 : Addr -> Prop} {H1 : Hp} {O' : List Nat} {Io' : Addr -> Prop} {acc : Addr} {S' : Nat -> Option (Option V)} {U : Env} {Z : St} {H : Hp} {xs ys : List V} (r : Rep K (cin B0 H1 O' Io' acc S') U Z H) (h : H acc = some (.lst xs)) (ho : ∀ j ∈ O', Z[j]? ≠ some (some (.ref acc))) :
  Rep K (cin B0 H1 O' Io' acc S') U Z (upd H acc (.lst ys)) := by
 have ext : Ext (fun a => a ≠ acc) H (upd H acc (.lst ys)) := ⟨fun b zs hb => by rw [qJ (wT hb h (by intro z; cases z))]; exact hb, fun b o u hb => by rw [qJ (wT hb h (by intro z; cases z))]; exact hb, fun b o hb hq => by rw [qJ hb]; exact hq⟩
 have cnext : Ext (Cn (cin B0 H1 O' Io' acc S') Z) H (upd H acc (.lst ys)) := ⟨ext.tup, ext.frz, fun b o hb hq => ext.at_ b o hb.1.2 hq⟩
 refine ⟨r.len, fun i d hd => ?_, fun j hj v hv => ?_, r.inj, r.b0, fun b o hb hio => ?_, fun b hb => ?_, r.pO, r.ps⟩
 ·obtain ⟨v, h1, h2⟩ := r.val i d hd
  refine ⟨v, h1, ?_⟩
  rcases h2 with ⟨hi, ds, a, zs, h3, h5, h6, h7⟩ | ⟨hi, h3⟩
  ·subst h5
   have ne : a ≠ acc := fun e => ho i hi (by rw [h1, e])
   exact .inl ⟨hi, ds, a, zs, h3, rfl, by rw [qJ ne]; exact h6, IsL.ext cnext (fun _ h _ => h) h7⟩
  ·exact .inr ⟨hi, Is.ext cnext (fun _ h _ => h) h3⟩
 ·obtain ⟨a, zs, h1, h2, h3⟩ := r.own j hj v hv
  subst h1
  have ne : a ≠ acc := fun e => ho j hj (by rw [hv, e])
  exact ⟨a, zs, rfl, by rw [qJ ne]; exact h2, h3⟩
 ·have ne : b ≠ acc := fun e => hio (.inr e)
  rw [qJ ne]
  exact r.kp b o hb hio
 ·by_cases e : b = acc
  ·subst e; rw [qA] at hb; cases hb
  ·rw [qJ e] at hb; exact r.dm b hb
theorem qbj {α : Type} {o : Option (Option α)} {a : α} (h : o.join = some a) : o = some (some a) := by
 cases o with
 | none => cases h
 | some x => have : x = some a := h; rw [this]
def qkW (c : Fc) (nt : Nat) (fr : List Nat) (fo : Option (Nat × Nat)) : Prop := match fo with
 | none => ∀ j ∈ fr, j ∉ c.O
 | some (i, j) => j ∈ c.O /\ nt <= i /\ fr[i - nt]? = some j /\ ∀ k j', fr[k]? = some j' -> nt + k ≠ i -> j' ∉ c.O
def qc0 (Z : St) (fo : Option (Nat × Nat)) (a : Addr) : Prop := match fo with
 | none => False
 | some (_, j) => Z[j]? = some (some (.ref a))
theorem qal {nt : Nat} {fr : List Nat} {Z : St} {k j : Nat} (h : fr[k]? = some j) : (qP nt fr Z)[nt + k]? = some (Z[j]?).join := by
 unfold qP
 rw [List.getElem?_append_right (by simp), List.length_replicate, gM_, show nt + k - nt = k by omega, h]
 rfl
theorem qfQ {nt : Nat} {fr : List Nat} {U : Env} {i : Nat} {d : D} (hd : (jX nt fr U)[i]? = some (some d)) : ∃ k j, i = nt + k /\ fr[k]? = some j /\ U[j]? = some (some d) := by
 have hi : nt <= i := by
  apply Nat.le_of_not_lt
  intro hlt
  unfold jX at hd
  rw [List.getElem?_append_left (by simpa using hlt), List.getElem?_replicate] at hd
  split at hd <;> cases hd
 unfold jX at hd
 rw [List.getElem?_append_right (by simpa using hi), List.length_replicate, gM_] at hd
 cases ej : fr[i - nt]? with
 | none => rw [ej] at hd; cases hd
 | some j =>
  rw [ej] at hd
  exact ⟨i - nt, j, by omega, ej, qbj (by simpa using hd)⟩
theorem yP {nt : Nat} {fr : List Nat} {Z : St} {i : Nat} {d : V} (hd : (qP nt fr Z)[i]? = some (some d)) : ∃ k j, i = nt + k /\ fr[k]? = some j /\ Z[j]? = some (some d) := by
 have hi : nt <= i := by
  apply Nat.le_of_not_lt
  intro hlt
  unfold qP at hd
  rw [List.getElem?_append_left (by simpa using hlt), List.getElem?_replicate] at hd
  split at hd <;> cases hd
 unfold qP at hd
 rw [List.getElem?_append_right (by simpa using hi), List.length_replicate, gM_] at hd
 cases ej : fr[i - nt]? with
 | none => rw [ej] at hd; cases hd
 | some j =>
  rw [ej] at hd
  exact ⟨i - nt, j, by omega, ej, qbj (by simpa using hd)⟩
theorem Rep.entry {K : Fr0} {nt : Nat} {fr : List Nat} {fo : Option (Nat × Nat)} {acc : Addr} {U : Env} {Z : St} {H : Hp} (r : Rep K c U Z H) (hn : H acc = none) (hfo : qkW c nt fr fo) :
  Rep K (cin (Cn c Z) H (foO fo) (qc0 Z fo) acc fun j => (qP nt fr Z)[j]?) (jX nt fr U) (qP nt fr Z) (upd H acc (.lst [])) := by
 have sm : jY H (upd H acc (.lst [])) := qy hn _
 have ownI : ∀ i ∈ foO fo, ∀ v, (qP nt fr Z)[i]? = some (some v) -> ∃ j, fo = some (i, j) /\ j ∈ c.O /\ Z[j]? = some (some v) := fun i hi v hv => by
  cases fo with
  | none => cases hi
  | some p =>
   obtain ⟨i', j'⟩ := p
   have e : i = i' := by simpa [foO] using hi
   subst e
   obtain ⟨h1, h2, h3, h4⟩ := hfo
   obtain ⟨k, j, e1, e2, e3⟩ := yP hv
   have hk : k = i - nt := by omega
   subst hk
   rw [h3] at e2
   cases e2
   exact ⟨j', rfl, h1, e3⟩
 have clI : ∀ a, Cl c.O Z a -> Cl (foO fo) (qP nt fr Z) a := fun a ha i hi e => by
  obtain ⟨j, _, hj, e2⟩ := ownI i hi _ e
  exact ha j hj e2
 refine ⟨by simp [jX, qP], fun i d hd => ?_, fun i hi v hv => ?_, fun i j a hi hj h1 h2 => ?_, fun a ha => ?_, fun b o hb hio => ?_, fun b hb => ?_, fun _ h => h, fun _ _ => rfl⟩
 ·obtain ⟨k, j, e1, e2, e3⟩ := qfQ hd
  subst e1
  by_cases hO : nt + k ∈ foO fo
  ·obtain ⟨v, hv⟩ : ∃ v, Z[j]? = some (some v) := by
    obtain ⟨v, h1, _⟩ := r.val j d e3
    exact ⟨v, h1⟩
   have hc : (qP nt fr Z)[nt + k]? = some (some v) := by rw [qal e2, hv]; rfl
   obtain ⟨j', f1, f2, f3⟩ := ownI _ hO v hc
   subst f1
   obtain ⟨g1, g2, g3, g4⟩ := hfo
   rw [show nt + k - nt = k by omega, e2] at g3
   cases g3
   obtain ⟨ds, a, xs, h1, h3, h4, h5⟩ := r.getO g1 e3
   rw [hv] at h3
   cases h3
   exact ⟨.ref a, hc, .inl ⟨hO, ds, a, xs, h1, rfl, sm _ _ h4, IsL.ext (Ext.of_same sm) (fun b hb hs => ⟨⟨hb, fun e => by subst e; rw [hn] at hs; cases hs⟩, clI b hb.2⟩) h5⟩⟩
  ·have hj : j ∉ c.O := by
    cases fo with
    | none => exact hfo j (List.mem_of_getElem? e2)
    | some p =>
     obtain ⟨i', j'⟩ := p
     exact hfo.2.2.2 k j e2 (fun e => hO (by simp [foO, e]))
   obtain ⟨v, h1, h2⟩ := r.get hj e3
   refine ⟨v, by rw [qal e2, h1]; rfl, .inr ⟨hO, ?_⟩⟩
   refine Is.ext (Ext.of_same sm) (fun a ha hs => ⟨⟨ha, fun e => ?_⟩, clI a ha.2⟩) h2
   subst e; rw [hn] at hs; cases hs
 ·obtain ⟨j, f1, f2, f3⟩ := ownI i hi v hv
  obtain ⟨a, xs, h1, h2, h3⟩ := r.own j f2 v f3
  subst h1 f1
  exact ⟨a, xs, rfl, sm _ _ h2, .inr ⟨hi, .inl f3⟩⟩
 ·cases fo with
  | none => cases hi
  | some p =>
   obtain ⟨i', j'⟩ := p
   have e : i = i' := by simpa [foO, cin] using hi
   have e2 : j = i' := by simpa [foO, cin] using hj
   rw [e, e2]
 ·have ha' : upd H acc (.lst []) a = none := ha
  by_cases e : a = acc
  ·subst e; rw [qA] at ha'; cases ha'
  ·rw [qJ e] at ha'; exact ⟨r.new ha', e⟩
 ·exact hb
 ·exact hb
theorem Rep.leave {K : Fr0} {nt : Nat} {fr : List Nat} {fo : Option (Nat × Nat)} {acc : Addr} {U Ue : Env} {Z Ze : St} {H H' : Hp} (r : Rep K c U Z H) (hn : H acc = none) (hfo : qkW c nt fr fo) (hf : ∀ i j, fo = some (i, j) -> Ze[i]? = (qP nt fr Z)[i]?)
  (q : Rep K (cin (Cn c Z) H (foO fo) (qc0 Z fo) acc fun j => (qP nt fr Z)[j]?) Ue Ze H') : Rep K c (qlQ fo Ue U) Z H' /\ Gr c.O Z H H' := by
 have kp : ∀ b o, H b = some o -> ¬ qc0 Z fo b -> H' b = some o := fun b o hb hio => q.kp b o (by show upd H acc (.lst []) b = some o; rw [qJ (zn hb hn)]; exact hb) fun z => z.elim hio fun e => absurd e (zn hb hn)
 have clean : ∀ b, Cl c.O Z b -> ¬ qc0 Z fo b := fun b hb hio => by
  cases fo with
  | none => exact hio
  | some p => exact hb p.2 hfo.1 hio
 have dom : ∀ b, H' b = none -> H b = none := fun b hb => by
  have := q.dm b hb
  by_cases e : b = acc
  ·subst e; exact hn
  ·have this : upd H acc (.lst []) b = none := this
   rw [qJ e] at this; exact this
 have notT : ∀ b xs, H b = some (.tup xs) -> ¬ qc0 Z fo b := fun b xs hb hio => by
  cases fo with
  | none => exact hio
  | some p =>
   obtain ⟨a, ys, e1, e2, _⟩ := r.own p.2 hfo.1 _ hio
   cases e1; rw [hb] at e2; cases e2
 have notF : ∀ b o u, H b = some (.frz o u) -> ¬ qc0 Z fo b := fun b o u hb hio => by
  cases fo with
  | none => exact hio
  | some p =>
   obtain ⟨a, ys, e1, e2, _⟩ := r.own p.2 hfo.1 _ hio
   cases e1; rw [hb] at e2; cases e2
 have gr : Gr c.O Z H H' := ⟨⟨fun b xs hb => kp b _ hb (notT b xs hb), fun b o u hb => kp b _ hb (notF b o u hb), fun b o hc hb => kp b o hb (clean b hc)⟩, dom⟩
 refine ⟨⟨?_, fun k d hd => ?_, fun j hj v hv => ?_, r.inj, r.b0, fun b o hb hio => ?_, fun b hb => r.dm b (dom b hb), r.pO, r.ps⟩, gr⟩
 ·cases fo with
  | none => exact r.len
  | some p => show (U.set _ _).length = _; rw [lS_]; exact r.len
 ·-- an old slot, or the one that came qlQ
  have oldSlot : U[k]? = some (some d) -> (∀ i, fo ≠ some (i, k)) -> ∃ v, Z[k]? = some (some v) /\ ((k ∈ c.O /\ ∃ ds a xs, d = .lst ds /\ v = .ref a /\ H' a = some (.lst xs) /\ IsL K (Cn c Z) H' ds xs) \/ (k ∉ c.O /\ Is K (Cn c Z) H' d v)) := fun hk hne => by
   obtain ⟨v, h1, h2⟩ := r.val k d hk
   refine ⟨v, h1, ?_⟩
   rcases h2 with ⟨hi, ds, a, xs, h3, h5, h6, h7⟩ | ⟨hi, h3⟩
   ·subst h5
    refine .inl ⟨hi, ds, a, xs, h3, rfl, kp a _ h6 (fun hio => ?_), gr.isL h7⟩
    cases fo with
    | none => exact hio
    | some p =>
     obtain ⟨i', j'⟩ := p
     have e := r.inj k j' a hi hfo.1 h1 hio
     exact hne i' (by rw [e])
   ·exact .inr ⟨hi, gr.is h3⟩
  cases fo with
  | none => exact oldSlot hd (fun i e => by cases e)
  | some p =>
   obtain ⟨i', j'⟩ := p
   have hd' : (U.set j' (Ue[i']?).join)[k]? = some (some d) := hd
   by_cases e : k = j'
   ·subst e
    have hl : k < U.length := by
     have := (gI_.mp hd').1
     rwa [lS_] at this
    rw [List.getElem?_set_self hl] at hd'
    have he : Ue[i']? = some (some d) := qbj (Option.some.inj hd')
    obtain ⟨ds, a, xs, h1, h3, h4, h5⟩ := q.getO (show i' ∈ foO (some (i', k)) by simp [foO]) he
    have h3' := hf i' k rfl
    rw [h3] at h3'
    obtain ⟨k2, j2, e1, e2, e3⟩ := yP h3'.symm
    have hk2 : k2 = i' - nt := by omega
    subst hk2
    rw [hfo.2.2.1] at e2
    cases e2
    exact ⟨.ref a, e3, .inl ⟨hfo.1, ds, a, xs, h1, rfl, h4, IsL.ext Ext.refl (fun b hb _ => hb.1.1) h5⟩⟩
   ·rw [zN e] at hd'
    exact oldSlot hd' (fun i e2 => e (by cases e2; rfl))
 ·obtain ⟨a, xs, h1, h2, h3⟩ := r.own j hj v hv
  subst h1
  by_cases hio : qc0 Z fo a
  ·cases fo with
   | none => exact hio.elim
   | some p =>
    obtain ⟨i', j'⟩ := p
    have hc : (qP nt fr Z)[i']? = some (some (.ref a)) := by
     have := qal (Z := Z) (nt := nt) hfo.2.2.1
     rw [show nt + (i' - nt) = i' by have := hfo.2.1; omega] at this
     rw [this]
     have hio' : Z[j']? = some (some (.ref a)) := hio
     rw [hio']; rfl
    have h3' := hf i' j' rfl
    rw [hc] at h3'
    obtain ⟨a', ys, e1, e2, _⟩ := q.own i' (by simp [foO, cin]) _ h3'
    cases e1
    exact ⟨a, ys, rfl, e2, h3⟩
  ·exact ⟨a, xs, rfl, kp a _ h2 hio, h3⟩
 ·by_cases hio2 : qc0 Z fo b
  ·cases fo with
   | none => exact hio2.elim
   | some p =>
    obtain ⟨a, ys, e1, e2, e3⟩ := r.own p.2 hfo.1 _ hio2
    cases e1
    rcases e3 with e3 | e3
    ·rw [hb] at e3; cases e3
    ·exact absurd e3.2 hio
  ·exact kp b o (r.kp b o hb hio) hio2
theorem j4 {it elt : Expr} {ifs : List Expr} {scope : Scope} {N' : List Str} {nt : Nat} {fr : List Nat} {fo : Option (Nat × Nat)} {f : M (List D)} {g : D -> Env -> Option Env} {t : M Bool} {k : M D} (hc : X.calm = true) (hi : DI X c tg it f) (S : ym X scope N' nt fr)
  (hfo : qkW c nt fr fo)
  (hb : ∀ fp cl C s₀ H₀ pn B0 H1 Io' acc S', DG (z4 X scope N' fp cl C s₀ H₀ pn) (cin B0 H1 (foO fo) Io' acc S') tg g /\ DF (z4 X scope N' fp cl C s₀ H₀ pn) (cin B0 H1 (foO fo) Io' acc S') ifs t /\ DE (z4 X scope N' fp cl C s₀ H₀ pn) (cin B0 H1 (foO fo) Io' acc S') elt k)
  (hs : ∀ x, foldedSetIterable it X.env x = pure x := by intro _; rfl) : DE X c (.ListComp elt [⟨tg, it, ifs, 0⟩] scope pos) (zM nt fr fo f g t k) := by
 obtain ⟨wi, pi, wI⟩ := hi
 refine ⟨_, qkV hc pi S hs, fun U Z H Q r h => wI U Z H _ r (WpI.bnd h fun ds U1 J H1 r1 iok g1 h1 => ?_)⟩
 intro acc fp cl C s₀ H₀ pn hn
 obtain ⟨⟨tg', pg, wg⟩, ⟨tt, pt, wt⟩, ⟨te, pe, we⟩⟩ := hb fp cl C s₀ H₀ pn (Cn c Z) H1 (qc0 Z fo) acc fun j => (qP nt fr Z)[j]?
 refine ⟨tg', tt, te, pg, pt, pe, ?_⟩
 cases ew : zL g t k ds [] (jX nt fr U1) with
 | exc x U' => rw [ew] at h1; exact h1.elim
 | bad => rw [ew] at h1; exact h1.elim
 | ok p =>
  rw [ew] at h1
  obtain ⟨ys, Ue⟩ := p
  have h1 : ∀ v H', Rep X.K c (qlQ fo Ue U1) Z H' -> Is X.K (Cn c Z) H' (.lst ys) v -> Gr c.O Z H1 H' -> Q v H' := h1
  have accO : ∀ j ∈ foO fo, (qP nt fr Z)[j]? ≠ some (some (.ref acc)) := fun j hj e => by
   have r0 := r1.entry (acc := acc) hn hfo
   cases fo with
   | none => cases hj
   | some p =>
    obtain ⟨i', j'⟩ := p
    have e2 : j = i' := by simpa [foO] using hj
    subst e2
    obtain ⟨k2, j2, e1, e2, e3⟩ := yP e
    have hk2 : k2 = j - nt := by omega
    subst hk2
    rw [hfo.2.2.1] at e2
    cases e2
    obtain ⟨a, us, e4, e5, _⟩ := r1.own j' hfo.1 _ e3
    cases e4; rw [hn] at e5; cases e5
  refine ⟨fun i m Z' H' => m = ds.length - i /\ i <= ds.length /\ ∃ U' zs xs, Rep X.K (cin (Cn c Z) H1 (foO fo) (qc0 Z fo) acc fun j => (qP nt fr Z)[j]?) U' Z' H' /\ (∀ j ∈ foO fo, Z'[j]? = (qP nt fr Z)[j]?) /\ H' acc = some (.lst xs) /\ IsL X.K (Cn (cin (Cn c Z) H1 (foO fo) (qc0 Z fo) acc fun j => (qP nt fr Z)[j]?) Z') H' zs xs /\ zL g t k (ds.drop i) zs U' = .ok (ys, Ue),
   ⟨ds.length, by simp, Nat.zero_le _, jX nt fr U1, [], [], r1.entry hn hfo, fun _ _ => rfl, qA, rfl, by simpa using ew⟩, ?_⟩
  rintro i m Z' H' ⟨rfl, hi, U', zs, xs, r', so, ha, iz, w⟩
  obtain ⟨_, gr⟩ := r1.leave hn hfo (fun i j e => so i (by rw [e]; simp [foO])) r'
  have ex : Ext (CnT c Z H1) H1 H' := ⟨gr.ext.tup, gr.ext.frz, fun b o hb hq => gr.ext.at_ b o hb.1.2 hq⟩
  have accC : ∀ τ : St, (∀ j ∈ foO fo, τ[j]? = (qP nt fr Z)[j]?) -> Cl (foO fo) τ acc := fun τ hτ j hj e => accO j hj (by rw [<- hτ j hj]; exact e)
  by_cases hlt : i < ds.length
  ·refine .inr ⟨iok.go H' i ds[i] ex (by simp [hlt]), fun x H'' y => ?_⟩
   obtain ⟨sm, ix⟩ := iok.yl H' i ds[i] x H'' ex (by simp [hlt]) y
   rw [qak hlt] at w
   unfold zL at w
   have ix2 : Is X.K (Cn (cin (Cn c Z) H1 (foO fo) (qc0 Z fo) acc fun j => (qP nt fr Z)[j]?) Z') H'' ds[i] x := Is.ext Ext.refl (fun a ha _ => ⟨⟨ha.1, fun e => by
    have := ha.2
    rw [e, hn] at this; cases this⟩, fun j hj e => by
     rw [so j hj] at e
     cases fo with
     | none => cases hj
     | some p =>
      obtain ⟨i', j'⟩ := p
      have e2 : j = i' := by simpa [foO, cin] using hj
      subst e2
      obtain ⟨k2, j2, e1, e2, e3⟩ := yP e
      have hk2 : k2 = j - nt := by omega
      subst hk2
      rw [hfo.2.2.1] at e2
      cases e2
      exact ha.1.2 j' hfo.1 e3⟩) ix
   cases e1 : g ds[i] U' with
   | none => simp only [e1] at w; cases w
   | some U2 =>
    simp only [e1] at w
    refine wg U' Z' H'' ds[i] x U2 _ (r'.same sm) ix2 e1 fun Z2 r2 g2 o2 => ?_
    have so2 : ∀ j ∈ foO fo, Z2[j]? = (qP nt fr Z)[j]? := fun j hj => (o2 j hj).trans (so j hj)
    have ha2 : H'' acc = some (.lst xs) := sm _ _ ha
    have iz2 := g2.isL (IsL.ext (Ext.of_same sm) (fun _ h _ => h) iz)
    cases e2 : t U2 with
    | exc x U3 => simp only [e2] at w; cases w
    | bad => simp only [e2] at w; cases w
    | ok p2 =>
     obtain ⟨bb, U3⟩ := p2
     refine wt U2 Z2 H'' _ r2 ?_
     rw [e2]
     intro H3 r3 g3
     have ha3 : H3 acc = some (.lst xs) := g3.ext.at_ _ _ (accC Z2 so2) ha2
     have iz3 := g3.isL iz2
     cases bb with
     | false =>
      rw [if_neg Bool.false_ne_true]
      simp only [e2] at w
      exact ⟨ds.length - (i + 1), by omega, rfl, hlt, U3, zs, xs, r3, so2, ha3, iz3, w⟩
     | true =>
      rw [if_pos rfl]
      simp only [e2] at w
      cases e3 : k U3 with
      | exc x U4 => simp only [e3] at w; cases w
      | bad => simp only [e3] at w; cases w
      | ok p3 =>
       obtain ⟨d4, U4⟩ := p3
       simp only [e3] at w
       refine we U3 Z2 H3 _ r3 ?_
       rw [e3]
       intro y4 H4 r4 i4 g4
       have ha4 : H4 acc = some (.lst xs) := g4.ext.at_ _ _ (accC Z2 so2) ha3
       have hsz : qZ (zs.length + 1) = true := by
        cases e5 : qZ (zs.length + 1) with
        | true => rfl
        | false => rw [e5] at w; simp at w
       rw [if_pos hsz] at w
       have hsz' : zs.length + 1 <= sizeLine := of_decide_eq_true hsz
       have r5 := r4.grow (ys := xs ++ [y4]) ha4 (fun j hj e => accC Z2 so2 j hj e)
       have ext5 : Ext (Cn (cin (Cn c Z) H1 (foO fo) (qc0 Z fo) acc fun j => (qP nt fr Z)[j]?) Z2) H4 (upd H4 acc (.lst (xs ++ [y4]))) := ⟨fun b us hb => by rw [qJ (wT hb ha4 (by intro z; cases z))]; exact hb, fun b o u hb => by rw [qJ (wT hb ha4 (by intro z; cases z))]; exact hb, fun b o hb hq => by rw [qJ hb.1.2]; exact hq⟩
       refine ⟨xs, ha4, by rw [iz3.length]; omega, ds.length - (i + 1), by omega, rfl, hlt, U4, zs ++ [d4], xs ++ [y4], r5, so2, qA, ?_, w⟩
       exact IsL.append (IsL.ext ext5 (fun _ h _ => h) (g4.isL iz3)) (IsL.one (Is.ext ext5 (fun _ h _ => h) i4))
  ·have hie : i = ds.length := by omega
   subst hie
   rw [List.drop_of_length_le (Nat.le_refl _)] at w
   unfold zL at w
   cases w
   obtain ⟨r6, g6⟩ := r1.leave hn hfo (fun i j e => so i (by rw [e]; simp [foO])) r'
   exact .inl ⟨iok.stop H' ex, h1 _ H' r6 ⟨acc, xs, rfl, r1.new hn, ha, IsL.ext Ext.refl (fun a ha hs => ha.1.1) iz⟩ g6⟩
end
theorem Rep.io {K : Fr0} {c : Fc} {U : Env} {Z : St} {H H' : Hp} {i : Nat} {a : Addr} {bs : List D} {xs : List V} (r : Rep K c U Z H) (hi : i ∈ c.O) (hs : Z[i]? = some (some (.ref a))) (kp : ∀ b o, b ≠ a -> H b = some o -> H' b = some o)
  (ha : H' a = some (.lst xs)) (him : True) (il : IsL K (Cn c Z) H' bs xs) (dm : ∀ b, H' b = none -> H b = none) : Rep K c (U.set i (some (.lst bs))) Z H' /\ Gr c.O Z H H' := by
 obtain ⟨a', xs0, e0, h0, hown⟩ := r.own i hi _ hs
 cases e0
 have gr : Gr c.O Z H H' := ⟨⟨fun b us hb => kp b _ (wT hb h0 (by intro z; cases z)) hb, fun b o u hb => kp b _ (wT hb h0 (by intro z; cases z)) hb, fun b o hc hb => kp b o (fun e => hc i hi (by rw [hs, e])) hb⟩, dm⟩
 refine ⟨⟨by rw [lS_]; exact r.len, fun k d hk => ?_, fun j hj v hv => ?_, r.inj, r.b0, fun b o hb hio => ?_, fun b hb => r.dm b (dm b hb), r.pO, r.ps⟩, gr⟩
 ·by_cases e : k = i
  ·subst e
   have hl : k < U.length := by
    have := (gI_.mp hk).1
    rwa [lS_] at this
   rw [List.getElem?_set_self hl] at hk
   cases hk
   exact ⟨.ref a, hs, .inl ⟨hi, bs, a, xs, rfl, rfl, ha, il⟩⟩
  ·rw [zN e] at hk
   obtain ⟨v, h1, h2⟩ := r.val k d hk
   refine ⟨v, h1, ?_⟩
   rcases h2 with ⟨hk2, ds, b, ys, h3, h5, h6, h7⟩ | ⟨hk2, h3⟩
   ·subst h5
    have ne : b ≠ a := fun e2 => e (r.inj k i a hk2 hi (by rw [h1, e2]) hs)
    exact .inl ⟨hk2, ds, b, ys, h3, rfl, kp b _ ne h6, gr.isL h7⟩
   ·exact .inr ⟨hk2, gr.is h3⟩
 ·obtain ⟨b, ys, h1, h2, h3⟩ := r.own j hj v hv
  subst h1
  by_cases e : b = a
  ·subst e; exact ⟨b, xs, rfl, ha, h3⟩
  ·exact ⟨b, ys, rfl, kp b _ e h2, h3⟩
 ·have ne : b ≠ a := fun e => by
   subst e
   rcases hown with z | z
   ·rw [hb] at z; cases z
   ·exact hio z.2
  exact kp b o ne (r.kp b o hb hio)
def z0 (i : Nat) (U : Env) : Option (List D) := match U[i]? with
 | some (some (.lst ds)) => some ds
 | _ => none
theorem qgS {i : Nat} {U : Env} {ds : List D} (h : z0 i U = some ds) : U[i]? = some (some (.lst ds)) := by
 unfold z0 at h
 split at h
 ·rename_i e; cases h; exact e
 ·cases h
theorem Rep.getLO {K : Fr0} {c : Fc} {U : Env} {Z : St} {H : Hp} (r : Rep K c U Z H) {i : Nat} {ds : List D} (hi : i ∈ c.O) (h : z0 i U = some ds) :
  ∃ a xs, True /\ Z[i]? = some (some (.ref a)) /\ H a = some (.lst xs) /\ IsL K (Cn c Z) H ds xs := by
 obtain ⟨ds', a, xs, h1, h3, h4, h5⟩ := r.getO hi (qgS h)
 cases h1
 exact ⟨a, xs, trivial, h3, h4, h5⟩
theorem z5 {H : Hp} {a b : Addr} {o u : HO} (h : b ≠ a) (hb : H b = some o) : upd H a u b = some o := by rw [qJ h]; exact hb
theorem qd7 {H : Hp} {a b : Addr} {u : HO} (h : upd H a u b = none) : H b = none := by
 by_cases e : b = a
 ·subst e; rw [qA] at h; cases h
 ·rw [qJ e] at h; exact h
section
variable {X : Cx} {c : Fc} {a b e : Expr} {pos : Pos}
def ut (i : Nat) (f : M D) : M D := fun U => match z0 i U with
 | none => .bad
 | some _ => (bnd f fun d U => match z0 i U with
  | some ds => if imm d && qZ (ds.length + 1) then .ok (.non, U.set i (some (.lst (ds ++ [d])))) else .bad
  | none => .bad) U
theorem qdg {i : Nat} {x : Str} {p1 apos : Pos} {f : M D} (he : DE X c e f) (ho : i ∈ c.O := by exact of_decide_eq_true rfl) (hN : X.N[i]? = some x := by rfl) (hv : Vis X.env.scope x := by first | exact Or.inl rfl | exact Or.inr (Or.inl rfl) | exact Or.inr (Or.inr rfl)) (hd : (x == ("__debug__" : Str)) = false := by decide) (hcd : (x == ("__classdict__" : Str)) = false := by decide)
  (hbase : attributeBase (.Name x p1) "append" X.env (eval (.Name x p1) X.env) = eval (.Name x p1) X.env := by rfl)
  (hfew : ((backTo pos (starEach [e] X.env)).all (fun x => !x.1) && (backToKw pos (keywordEach [] X.env)).all (fun x => x.1.isSome)
   && decide ([e].length + ([] : List Keyword).length + (if ([] : List Keyword).isEmpty then 0 else 1) < 30)) = true := by rfl)
  (hline : (apos.endLine == pos.line) = true := by rfl) (hs : starEach [e] X.env = (false, eval e X.env) :: starEach [] X.env := by rfl) (hplain : (backTo pos (starEach [] X.env)).any (·.1) = false := by rfl) :
  DE X c (.Call (.Attribute (.Name x p1) "append" apos) [e] [] pos) (ut i f) := by
 obtain ⟨t, p, w⟩ := he
 refine ⟨_, qkF PySem.F.plainAttrs_list PySem.F.slot_list_append PySem.F.type_list_append qa5 (qaE hN hv hd hcd) (uT p qbW hs) hbase hfew hline hs hplain, fun U Z H Q r h => ?_⟩
 unfold ut at h
 cases e0 : z0 i U with
 | none => rw [e0] at h; exact h.elim
 | some ds0 =>
  simp only [e0] at h
  obtain ⟨l, xs0, _, hl, hH, _⟩ := r.getLO ho e0
  refine ⟨.ref l, hl, .inl ⟨rfl, xs0, .inl (.inl hH)⟩, w U Z H _ r (Wp.bnd h fun d U1 v H1 r1 i1 g1 h1 => ?_)⟩
  cases e1 : z0 i U1 with
  | none => simp only [e1] at h1; exact h1.elim
  | some ds =>
   simp only [e1] at h1
   by_cases hb : (imm d && qZ (ds.length + 1)) = true
   ·rw [if_pos hb] at h1
    rw [Bool.and_eq_true] at hb
    obtain ⟨l', xs, him, hl', hH', il⟩ := r1.getLO ho e1
    rw [hl] at hl'
    cases hl'
    have hsz : ds.length + 1 <= sizeLine := of_decide_eq_true hb.2
    have ext : Ext (Cn c Z) H1 (upd H1 l (.lst (xs ++ [v]))) := ⟨fun b us hb => z5 (wT hb hH' (by intro z; cases z)) hb, fun b o u hb => z5 (wT hb hH' (by intro z; cases z)) hb, fun b o hb hq => z5 (fun e => hb.2 i ho (by rw [hl, e])) hq⟩
    obtain ⟨r2, g2⟩ := r1.io (H' := upd H1 l (.lst (xs ++ [v]))) (bs := ds ++ [d]) ho hl (fun b o hb ho => z5 hb ho) qA trivial
     (IsL.append (IsL.ext ext (fun _ h _ => h) il) (IsL.one (Is.ext ext (fun _ h _ => h) i1))) (fun b hb => qd7 hb)
    exact ⟨l, xs, v, rfl, rfl, hH', by rw [il.length]; omega, h1 _ _ r2 rfl g2⟩
   ·rw [if_neg hb] at h1; exact h1.elim
def qam (i : Nat) (k f : M D) : MS := sbnd f fun d U => match z0 i U with
 | none => .bad
 | some _ => (sbnd k fun j U => match j, z0 i U with
  | .int n, some ds => match ixN ds.length n with
   | some q => if imm d then .ok (.nx (U.set i (some (.lst (ds.set q d))))) else .bad
   | none => .bad
  | _, _ => .bad) U
theorem qcq {i : Nat} {x : Str} {p1 p2 : Pos} {ke : Expr} {f k : M D} (he : DE X c e f) (hk : DE X c ke k) (ho : i ∈ c.O := by exact of_decide_eq_true rfl) (hN : X.N[i]? = some x := by rfl) (hv : Vis X.env.scope x := by first | exact Or.inl rfl | exact Or.inr (Or.inl rfl) | exact Or.inr (Or.inr rfl)) (hd : (x == ("__debug__" : Str)) = false := by decide) (hcd : (x == ("__classdict__" : Str)) = false := by decide)
  (ha : ∀ v, assign (.Subscript (.Name x p1) ke p2) X.env v = (do
   let ov <- holding [v] (eval (.Name x p1) X.env)
   let iv <- holding [v, ov] (eval ke X.env)
   standAt p2
   holding [v, ov, iv] (setItem ov iv v)
   release [v, ov, iv] []) := by intro _; rfl)
  (hs : swapsWithSole [.Subscript (.Name x p1) ke p2] e pos.line X.env = pure false := by rfl) (hw : swappedStores [.Subscript (.Name x p1) ke p2] e X.env = pure none := by rfl) (h1 : (assignEach [.Subscript (.Name x p1) ke p2] X.env).map (·.2) = [assign (.Subscript (.Name x p1) ke p2) X.env] := by rfl) :
  DS X c (.Assign [.Subscript (.Name x p1) ke p2] e pos) (qam i k f) := by
 obtain ⟨t, p, w⟩ := he
 obtain ⟨tk, pk, wk⟩ := hk
 refine ⟨_, qjx p (qmc (qaE hN hv hd hcd) pk qir ha) hs hw h1, fun U Z H D r h => w U Z H _ r (Wp.sbnd h fun d U1 v H1 r1 i1 g1 h1 => ?_)⟩
 cases e0 : z0 i U1 with
 | none => simp only [e0] at h1; exact h1.elim
 | some ds0 =>
  simp only [e0] at h1
  obtain ⟨l, xs0, _, hl, hH, _⟩ := r1.getLO ho e0
  refine ⟨.ref l, hl, wk U1 Z H1 _ r1 (Wp.sbnd h1 fun j U2 u H2 r2 i2 g2 h2 => ?_)⟩
  cases j with
  | int n =>
   cases e1 : z0 i U2 with
   | none => simp only [e1] at h2; exact h2.elim
   | some ds =>
    simp only [e1] at h2
    cases e2 : ixN ds.length n with
    | none => simp only [e2] at h2; exact h2.elim
    | some q =>
     simp only [e2] at h2
     by_cases hb : imm d = true
     ·rw [if_pos hb] at h2
      obtain ⟨l', xs, him, hl', hH', il⟩ := r2.getLO ho e1
      rw [hl] at hl'
      cases hl'
      cases i2
      have i3 := g2.is i1
      have ext : Ext (Cn c Z) H2 (upd H2 l (.lst (xs.set q v))) := ⟨fun b us hb => z5 (wT hb hH' (by intro z; cases z)) hb, fun b o u hb => z5 (wT hb hH' (by intro z; cases z)) hb, fun b o hb hq => z5 (fun e => hb.2 i ho (by rw [hl, e])) hq⟩
      obtain ⟨r3, g3⟩ := r2.io (H' := upd H2 l (.lst (xs.set q v))) (bs := ds.set q d) ho hl (fun b o hb ho => z5 hb ho) qA trivial
       (IsL.set (Is.ext ext (fun _ h _ => h) i3) q (IsL.ext ext (fun _ h _ => h) il)) (fun b hb => qd7 hb)
      exact ⟨l, xs, n, q, rfl, rfl, hH', by rw [il.length]; exact e2, h2 Z _ r3 g3.s⟩
     ·rw [if_neg hb] at h2; exact h2.elim
  | _ => exact h2.elim
structure qiH (K : Fr0) (c : Fc) (U : Env) (Z : St) (H : Hp) (a : Addr) : Prop where
 val : ∀ i d v, U[i]? = some (some d) -> i ∉ c.O -> Z[i]? = some (some v) -> Is K (fun b => Cn c Z b /\ b ≠ a) H d v
 cont : ∀ i ds b xs, U[i]? = some (some (.lst ds)) -> i ∈ c.O -> Z[i]? = some (some (.ref b)) -> H b = some (.lst xs) -> IsL K (Cn c Z) H ds xs -> IsL K (fun b => Cn c Z b /\ b ≠ a) H ds xs
 own : ∀ j ∈ c.O, Z[j]? ≠ some (some (.ref a))
 new : c.H0 a = none
theorem Is.fresh {K : Fr0} {A : Addr -> Prop} {H : Hp} {d : D} {v : V} {a : Addr} (h : Is K A H d v) (hn : H a = none) : Is K (fun b => A b /\ b ≠ a) H d v := Is.ext Ext.refl (fun b h1 h2 => ⟨h1, fun e => by rw [e, hn] at h2; cases h2⟩) h
theorem Rep.apart {K : Fr0} {U : Env} {Z : St} {H : Hp} {a : Addr} {o : HO} (r : Rep K c U Z H) (hn : H a = none) : qiH K c U Z (upd H a o) a where
 val := fun i d v h1 h2 h3 => by
  obtain ⟨w, h4, h5⟩ := r.get h2 h1
  rw [h3] at h4
  cases h4
  exact Is.ext (Ext.of_same (qy hn _)) (fun _ h _ => h) (h5.fresh hn)
 cont := fun i ds b xs h1 h2 h3 h4 _ => by
  obtain ⟨ds', a', ys, e1, e2, e3, e4⟩ := r.getO h2 h1
  cases e1
  rw [h3] at e2
  cases e2
  have := qy hn o _ _ e3
  rw [h4] at this
  cases this
  exact IsL.ext (Ext.of_same (qy hn _)) (fun b hb hs => ⟨hb, fun e => by rw [e, hn] at hs; cases hs⟩) e4
 own := fun j hj e => (r.new hn).2 j hj e
 new := r.dm a hn
theorem Rep.apart_same {K : Fr0} {U : Env} {Z : St} {H H' : Hp} {a : Addr} (r : Rep K c U Z H) (hn : H a = none) (sm : jY H H') : qiH K c U Z H' a where
 val := fun i d v h1 h2 h3 => by
  obtain ⟨w, h4, h5⟩ := r.get h2 h1
  rw [h3] at h4
  cases h4
  exact Is.ext (Ext.of_same sm) (fun _ h _ => h) (h5.fresh hn)
 cont := fun i ds b xs h1 h2 h3 h4 _ => by
  obtain ⟨ds', a', ys, e1, e2, e3, e4⟩ := r.getO h2 h1
  cases e1
  rw [h3] at e2
  cases e2
  have := sm _ _ e3
  rw [h4] at this
  cases this
  exact IsL.ext (Ext.of_same sm) (fun b hb hs => ⟨hb, fun e => by rw [e, hn] at hs; cases hs⟩) e4
 own := fun j hj e => (r.new hn).2 j hj e
 new := r.dm a hn
def WpN (K : Fr0) (c : Fc) (Z : St) (H : Hp) (Q : VK) : R (List D × Env) -> Prop
 | .ok (ds, U) => ∀ a xs H', H a = none -> Rep K c U Z H' -> qiH K c U Z H' a -> H' a = some (.lst xs) -> True -> IsL K (fun b => Cn c Z b /\ b ≠ a) H' ds xs -> Gr c.O Z H H' -> Q (.ref a) H'
 | .exc x U => ∀ H', Rep K c U Z H' -> Gr c.O Z H H' -> c.E x H'
 | .bad => False
def DN (X : Cx) (c : Fc) (e : Expr) (f : M (List D)) : Prop := ∃ t, PE X e t /\ ∀ U Z H Q, Rep X.K c U Z H -> WpN X.K c Z H Q (f U) -> t Z H Q
theorem WpN.gr {K : Fr0} {Z : St} {H H1 : Hp} {Q : VK} : ∀ {r : R (List D × Env)}, WpN K c Z H Q r -> Gr c.O Z H H1 -> WpN K c Z H1 Q r
 | .ok (d, U), h, g => fun a xs H' hn h1 h2 h3 h4 h5 hg => h a xs H' (g.dom a hn) h1 h2 h3 h4 h5 (g.trans hg)
 | .exc x U, h, g => fun H' hr hg => h H' hr (g.trans hg)
 | .bad, h, _ => h
theorem WpL.bndN {K : Fr0} {Z : St} {H : Hp} {Q : VK} {f : M (List D)} {k : List D -> M (List D)} {U : Env} {Q' : List V -> Hp -> Prop} (h : WpN K c Z H Q (Sk.bnd f k U)) (hQ : ∀ d U' v H', Rep K c U' Z H' -> IsL K (Cn c Z) H' d v -> Gr c.O Z H H' -> WpN K c Z H' Q (k d U') -> Q' v H') : WpL K c Z H Q' (f U) := by
 unfold Sk.bnd at h
 cases e : f U with
 | ok p => rw [e] at h; exact fun v H' hr hi hg => hQ p.1 p.2 v H' hr hi hg (h.gr hg)
 | exc x U' => rw [e] at h; exact h
 | bad => rw [e] at h; exact h
def qmK (f : M (List D)) : M (List D) := bnd f fun ds => lift (if immL ds && qZ ds.length then some ds else none)
theorem qjK {es : List Expr} {f : M (List D)} (h : DA X c es f) : DN X c (.List es pos) (qmK f) := by
 obtain ⟨t, p, w⟩ := h
 refine ⟨_, qgw p, fun U Z H Q r h => w U Z H _ r (WpL.bndN h fun ds U1 vs H1 r1 i1 g1 h1 => ?_)⟩
 by_cases hb : (immL ds && qZ ds.length) = true
 ·rw [if_pos hb] at h1
  rw [Bool.and_eq_true] at hb
  refine ⟨by rw [i1.length]; exact of_decide_eq_true hb.2, fun p hp => ?_⟩
  exact h1 p vs _ hp (r1.laid hp _) (r1.apart hp) qA trivial (IsL.ext (Ext.of_same (qy hp _)) (fun b h hs => ⟨h, fun e => by rw [e, hp] at hs; cases hs⟩) i1) (.of_same (qy hp _))
 ·rw [if_neg hb] at h1; exact h1.elim
theorem Cl.setO {O : List Nat} {Z : St} {i : Nat} {a b : Addr} (h : Cl O Z b) (hb : b ≠ a) : Cl O (Z.set i (some (.ref a))) b := fun j hj e => by
 by_cases hji : j = i
 ·subst hji
  have hl : j < Z.length := by
   have := (gI_.mp e).1
   rwa [lS_] at this
  rw [List.getElem?_set_self hl] at e
  cases e
  exact hb rfl
 ·rw [zN hji] at e
  exact h j hj e
theorem Rep.setO {K : Fr0} {U : Env} {Z : St} {H : Hp} {i : Nat} {a : Addr} {ds : List D} {xs : List V} (r : Rep K c U Z H) (hi : i ∈ c.O) (hP : i ∉ c.P) (ap : qiH K c U Z H a) (ha : H a = some (.lst xs)) (him : True) (il : IsL K (fun b => Cn c Z b /\ b ≠ a) H ds xs) :
  Rep K c (U.set i (some (.lst ds))) (Z.set i (some (.ref a))) H where
 len := by rw [lS_, lS_]; exact r.len
 val := fun j e hj => by
  by_cases e1 : j = i
  ·subst e1
   have hl : j < U.length := by
    have := (gI_.mp hj).1
    rwa [lS_] at this
   rw [List.getElem?_set_self hl] at hj
   cases hj
   exact ⟨.ref a, List.getElem?_set_self (by rw [<- r.len]; exact hl), .inl ⟨hi, ds, a, xs, rfl, rfl, ha, IsL.ext Ext.refl (fun b hb _ => ⟨hb.1.1, hb.1.2.setO hb.2⟩) il⟩⟩
  ·rw [zN e1] at hj
   obtain ⟨w, h1, h2⟩ := r.val j e hj
   refine ⟨w, by rw [zN e1]; exact h1, ?_⟩
   rcases h2 with ⟨g1, ds', b', xs', g3, g5, g6, g7⟩ | ⟨h3, h4⟩
   ·subst g3 g5
    exact .inl ⟨g1, ds', b', xs', rfl, rfl, g6, IsL.ext Ext.refl (fun b hb _ => ⟨hb.1.1, hb.1.2.setO hb.2⟩) (ap.cont j ds' b' xs' hj g1 h1 g6 g7)⟩
   ·exact .inr ⟨h3, Is.ext Ext.refl (fun b hb _ => ⟨hb.1.1, hb.1.2.setO hb.2⟩) (ap.val j e w hj h3 h1)⟩
 own := fun j hj w h => by
  by_cases e1 : j = i
  ·subst e1
   have hl : j < Z.length := by
    have := (gI_.mp h).1
    rwa [lS_] at this
   rw [List.getElem?_set_self hl] at h
   cases h
   exact ⟨a, xs, rfl, ha, .inl ap.new⟩
  ·rw [zN e1] at h
   exact r.own j hj w h
 inj := fun j k b hj hk h1 h2 => by
  by_cases e1 : j = i
  ·by_cases e2 : k = i
   ·rw [e1, e2]
   ·subst e1
    have hl : j < Z.length := by
     have := (gI_.mp h1).1
     rwa [lS_] at this
    rw [List.getElem?_set_self hl] at h1
    cases h1
    rw [zN e2] at h2
    exact absurd h2 (ap.own k hk)
  ·by_cases e2 : k = i
   ·subst e2
    have hl : k < Z.length := by
     have := (gI_.mp h2).1
     rwa [lS_] at this
    rw [List.getElem?_set_self hl] at h2
    cases h2
    rw [zN e1] at h1
    exact absurd h1 (ap.own j hj)
   ·rw [zN e1] at h1
    rw [zN e2] at h2
    exact r.inj j k b hj hk h1 h2
 b0 := r.b0
 kp := r.kp
 dm := r.dm
 pO := r.pO
 ps := fun j hj => by
  have e : j ≠ i := fun e => hP (e ▸ hj)
  rw [zN e]; exact r.ps j hj
def qan (i : Nat) (f : M (List D)) : MS := sbnd f fun ds U => .ok (.nx (U.set i (some (.lst ds))))
theorem qao {i : Nat} {x : Str} {pos' : Pos} {f : M (List D)} (hN : X.N.Nodup) (he : DN X c e f) (ho : i ∈ c.O := by exact of_decide_eq_true rfl) (hP : i ∉ c.P := by exact of_decide_eq_false rfl) (hi : X.N[i]? = some x := by rfl) (hx : Loc X.env.scope x := by first | exact Or.inl rfl | exact Or.inr rfl) (hs : swapsWith e (some (.Name x pos')) pos.line X.env = pure false := by rfl) (hf : X.fn x = true \/ X.env.scope.names.lookup x = some .local := by first | exact .inl rfl | exact .inr rfl | assumption) :
  DS X c (.Assign [.Name x pos'] e pos) (qan i f) := by
 obtain ⟨t, p, w⟩ := he
 refine ⟨_, qjy hN hi hx p hs hf, fun U Z H D r h => w U Z H _ r ?_⟩
 unfold qan sbnd at h
 cases ef : f U with
 | bad => rw [ef] at h; exact h
 | exc z U' => rw [ef] at h; exact fun H' hr hg => h Z H' hr hg.s
 | ok q =>
  rw [ef] at h
  intro a xs H' hn r' ap ha him il g'
  exact h _ H' (r'.setO ho hP ap ha him il) ⟨g'.ext, fun b hb hs => hb.setO (fun e => by rw [e, hn] at hs; exact absurd hs (by simp)), g'.dom⟩
def qmL (i : Nat) : M D := fun U => match z0 i U with
 | some ds => .ok (.int ds.length, U)
 | none => .bad
def qfR (i : Nat) : M D := fun U => match z0 i U with
 | some ds => .ok (.tup ds, U)
 | none => .bad
theorem qgT {i : Nat} {x : Str} {p p1 : Pos} (hg : Gl X "tuple") (hm : X.mg "tuple" = none) (hb : bootBuiltins "tuple" = some (.type "tuple") := by first | rfl | exact PySem.boot_tuple) (ho : i ∈ c.O := by exact of_decide_eq_true rfl) (hN : X.N[i]? = some x := by rfl) (hv : Vis X.env.scope x := by first | exact Or.inl rfl | exact Or.inr (Or.inl rfl) | exact Or.inr (Or.inr rfl)) (hd : (x == ("__debug__" : Str)) = false := by decide) (hcd : (x == ("__classdict__" : Str)) = false := by decide) :
  DE X c (.Call (.Name "tuple" p) [.Name x p1] [] pos) (qfR i) := by
 refine ⟨_, qa2 wV hg hm hb (uT (qaE hN hv hd hcd) qbW), fun U Z H Q r h => ?_⟩
 unfold qfR at h
 cases e0 : z0 i U with
 | none => simp only [e0] at h; exact h.elim
 | some ds =>
  simp only [e0] at h
  obtain ⟨l, xs, him, hl, hH, il⟩ := r.getLO ho e0
  refine ⟨.ref l, hl, l, xs, rfl, .inl ⟨.inl (.inl hH), fun p hp => h _ _ (r.laid hp _) ⟨p, xs, rfl, .inl qA, ?_⟩ (.of_same (qy hp _))⟩⟩
  exact IsL.ext (Ext.of_same (qy hp _)) (fun _ h _ => h) il
def qaL (i : Nat) (g : M D) : M D := fun U => match z0 i U with
 | none => .bad
 | some _ => (bnd g fun k U => match k, z0 i U with
  | .int n, some ds => match atI ds n with
   | some d => .ok (d, U)
   | none => .bad
  | _, _ => .bad) U
theorem qb1 {i : Nat} {x : Str} {p1 : Pos} {g : M D} (hb : DE X c b g) (hs : qd1 b := by intro _ _; rfl) (ho : i ∈ c.O := by exact of_decide_eq_true rfl) (hN : X.N[i]? = some x := by rfl) (hv : Vis X.env.scope x := by first | exact Or.inl rfl | exact Or.inr (Or.inl rfl) | exact Or.inr (Or.inr rfl)) (hd : (x == ("__debug__" : Str)) = false := by decide) (hcd : (x == ("__classdict__" : Str)) = false := by decide) :
  DE X c (.Subscript (.Name x p1) b pos) (qaL i g) := by
 obtain ⟨tb, pb, wb⟩ := hb
 refine ⟨_, qms qgC (qaE hN hv hd hcd) pb hs, fun U Z H Q r h => ?_⟩
 unfold qaL at h
 cases e0 : z0 i U with
 | none => simp only [e0] at h; exact h.elim
 | some ds0 =>
  simp only [e0] at h
  obtain ⟨l, xs0, _, hl, hH, _⟩ := r.getLO ho e0
  refine ⟨.ref l, hl, wb U Z H _ r (Wp.bnd h fun k U1 v H1 r1 i1 g1 h1 => ?_)⟩
  cases k with
  | int n =>
   cases e1 : z0 i U1 with
   | none => simp only [e1] at h1; exact h1.elim
   | some ds =>
    simp only [e1] at h1
    cases e2 : atI ds n with
    | none => simp only [e2] at h1; exact h1.elim
    | some d =>
     simp only [e2] at h1
     obtain ⟨l', xs, him, hl', hH', il⟩ := r1.getLO ho e1
     rw [hl] at hl'
     cases hl'
     cases i1
     obtain ⟨w, h3, h4⟩ := il.atI e2
     exact ⟨l, xs, n, w, rfl, rfl, .inl (.inl hH'), h3, h1 w H1 r1 h4 .refl⟩
  | _ => exact h1.elim
def qgU (i : Nat) : MS := fun U => match z0 i U with
 | some ds => .ok (.rt (.lst ds) U)
 | none => .bad
theorem qd8 {i : Nat} {x : Str} {p1 : Pos} (ho : i ∈ c.O := by exact of_decide_eq_true rfl) (hP : i ∉ c.P := by exact of_decide_eq_false rfl) (hN : X.N[i]? = some x := by rfl) (hv : Vis X.env.scope x := by first | exact Or.inl rfl | exact Or.inr (Or.inl rfl) | exact Or.inr (Or.inr rfl)) (hd : (x == ("__debug__" : Str)) = false := by decide) (hcd : (x == ("__classdict__" : Str)) = false := by decide) :
  DS X c (.Return (some (.Name x p1)) pos) (qgU i) := by
 refine ⟨_, qjw (qaE hN hv hd hcd), fun U Z H D r h => ?_⟩
 unfold qgU at h
 cases e0 : z0 i U with
 | none => simp only [e0] at h; exact h.elim
 | some ds =>
  simp only [e0] at h
  obtain ⟨l, xs, him, hl, hH, il⟩ := r.getLO ho e0
  obtain ⟨a, ys, e1, e2, e3⟩ := r.own i ho _ hl
  cases e1
  have hB : c.B l := by
   rcases e3 with z | z
   ·exact r.b0 l z
   ·exact absurd z.1 hP
  exact ⟨.ref l, hl, h (.ref l) Z H r ⟨l, xs, rfl, hB, hH, IsL.ext Ext.refl (fun _ h _ => h.1) il⟩ .refl⟩
end
def cfn (O P : List Nat) (A : Addr -> Prop) (H : Hp) (Io : Addr -> Prop) (E : Exn -> Hp -> Prop) (S : Nat -> Option (Option V)) : Fc where
 O := O
 P := P
 B := fun a => A a \/ H a = none
 H0 := H
 Io := Io
 E := E
 S := S
def wd (n : Nat) (ds : List D) : Env := ds.map some ++ List.replicate (n - ds.length) none
def spD (K : Fr0) (F : List D -> R D) : Sp := fun vs H Q _ => ∃ ds A, IsL K A H ds vs /\ (∀ a, A a -> True) /\ match F ds with
 | .ok d => ∀ v H', jY H H' -> Is K (fun a => A a \/ H a = none) H' d v -> Q v H'
 | _ => False
def qjL (K : Fr0) (F : List D -> List D -> R (D × List D)) : Sp := fun vs H Q _ => ∃ (bs ds : List D) (A : Addr -> Prop) (a : Addr) (xs vs' : List V), vs = .ref a :: vs' /\ H a = some (.lst xs) /\ True /\ IsL K A H bs xs /\ ¬ A a /\ IsL K A H ds vs' /\ match F bs ds with
 | .ok (d, bs') => ∀ v H' xs', (∀ b o, b ≠ a -> H b = some o -> H' b = some o) -> (∀ b, H' b = none -> H b = none) -> H' a = some (.lst xs') -> True -> IsL K (fun b => A b \/ H b = none) H' bs' xs' -> Is K (fun b => A b \/ H b = none) H' d v -> Q v H'
 | _ => False
def dfn (n p : Nat) (body : MS) (ds : List D) : R D := if ds.length = p then match body (wd n ds) with
 | .ok (.rt d _) => .ok d
 | .ok (.nx _) => .ok .non
 | _ => .bad else .bad
def qcr (n p : Nat) (body : MS) (bs ds : List D) : R (D × List D) := if ds.length + 1 = p then match body (wd n (.lst bs :: ds)) with
 | .ok (.rt d U) => match z0 0 U with
  | some bs' => .ok (d, bs')
  | none => .bad
 | .ok (.nx U) => match z0 0 U with
  | some bs' => .ok (.non, bs')
  | none => .bad
 | _ => .bad else .bad
theorem w8 {N : List Str} {vs : List V} {i : Nat} {v : V} (h : (start N vs)[i]? = some (some v)) : vs[i]? = some v := by
 unfold start at h
 by_cases hi : i < vs.length
 ·rw [List.getElem?_append_left (by simpa using hi), gM_] at h
  cases e : vs[i]? with
  | none => rw [e] at h; cases h
  | some w => rw [e] at h; cases h; rfl
 ·rw [List.getElem?_append_right (by simpa using hi), List.getElem?_replicate] at h
  split at h <;> cases h
theorem qaS {N : List Str} {vs : List V} {i : Nat} {v : V} (h : vs[i]? = some v) : (start N vs)[i]? = some (some v) := by
 unfold start
 have hi : i < vs.length := (gI_.mp h).1
 rw [List.getElem?_append_left (by simpa using hi), gM_, h]; rfl
theorem qdh {n : Nat} {ds : List D} {i : Nat} {d : D} (h : (wd n ds)[i]? = some (some d)) : ds[i]? = some d := by
 unfold wd at h
 by_cases hi : i < ds.length
 ·rw [List.getElem?_append_left (by simpa using hi), gM_] at h
  cases e : ds[i]? with
  | none => rw [e] at h; cases h
  | some w => rw [e] at h; cases h; rfl
 ·rw [List.getElem?_append_right (by simpa using hi), List.getElem?_replicate] at h
  split at h <;> cases h
theorem qgV {K : Fr0} {N : List Str} {O : List Nat} {A : Addr -> Prop} {H : Hp} {E : Exn -> Hp -> Prop} {ds : List D} {vs : List V} (il : IsL K A H ds vs) (hO : ∀ i ∈ O, ds.length <= i) :
  Rep K (cfn O [] A H (fun _ => False) E fun _ => none) (wd N.length ds) (start N vs) H where
 len := by unfold wd start; simp [il.length]
 val := fun i d h => by
  have h1 := qdh h
  obtain ⟨v, h2, h3⟩ := il.get h1
  have hi : i ∉ O := fun z => by
   have := (gI_.mp h1).1
   have := hO i z
   omega
  refine ⟨v, qaS h2, .inr ⟨hi, Is.ext Ext.refl (fun a ha _ => ⟨.inl ha, fun j hj e => ?_⟩) h3⟩⟩
  have := (gI_.mp (w8 e)).1
  have := hO j hj
  rw [il.length] at *
  omega
 own := fun j hj v h => by
  have := (gI_.mp (w8 h)).1
  have := hO j hj
  rw [il.length] at *
  omega
 inj := fun i j a hi hj h1 h2 => by
  have := (gI_.mp (w8 h1)).1
  have := hO i hi
  rw [il.length] at *
  omega
 b0 := fun a h => .inr h
 kp := fun b o h _ => h
 dm := fun b h => h
 pO := fun j hj => by cases hj
 ps := fun j hj => by cases hj
section
variable {P : Program} {w : World} {K : PySem.W.Frag} {mg : Str -> Option Value} {base : Heap}
theorem qv {x qual : Str} {st : Stmt} {f : Addr} {fd : FuncData} {N ps : List Str} {k : Nat} {O : List Nat} {body : MS} (F : Fun K x qual st f fd) (S : qr N ps (qd st)) (hO : ∀ i ∈ O, ps.length <= i)
  (hb : ∀ (cdv : Value) (A : Around) (outer : List PySem.Env) (s : Shared) (H : Hp) (E : XK) (B : Addr -> Prop), wn k (A.deeper (envOfC qual (qd st) s.heap.objs.size f cdv)) ->
   DSs (qjC CX0 P w K mg base N qual (qd st) f cdv A outer s H E).nox (cfn O [] B H (fun _ => False) (fun _ _ => False) fun _ => none) (qo st) body) :
  qc2 P w K mg base CX0 (k + 1) f fd ps (spD K (dfn N.length ps.length body)) := by
 refine F.ok S (fun vs H Q E h => ?_) (fun cdv A outer s H vs Q E hr h => ?_)
 ·obtain ⟨ds, B, il, _, h⟩ := h
  unfold dfn at h
  by_cases e : ds.length = ps.length
  ·rw [il.length]; exact e
  ·rw [if_neg e] at h; exact h.elim
 ·obtain ⟨ds, B, il, _, h⟩ := h
  obtain ⟨t, p, wt⟩ := hb cdv A outer s H E B hr
  refine ⟨t, p, ?_⟩
  unfold dfn at h
  by_cases e : ds.length = ps.length
  ·rw [if_pos e] at h
   refine wt (wd N.length ds) (start N vs) H _ (qgV il (fun i hi => by rw [e]; exact hO i hi)) ?_
   have same : ∀ {U : Env} {Z : St} {H' : Hp}, Rep K (cfn O [] B H (fun _ => False) (fun _ _ => False) fun _ => none) U Z H' -> jY H H' := fun r b o hb => r.kp b o hb fun z => z
   cases eb : body (wd N.length ds) with
   | bad => rw [eb] at h; exact h.elim
   | exc z U => rw [eb] at h; exact h.elim
   | ok fl =>
    rw [eb] at h
    cases fl with
    | nx U => exact fun Z' H' r' _ => h .non H' (same r') rfl
    | rt d U => exact fun v Z' H' r' i' _ => h v H' (same r') i'
    | bk U => exact h.elim
    | ct U => exact h.elim
  ·rw [if_neg e] at h; exact h.elim
theorem qmM {x qual : Str} {st : Stmt} {f : Addr} {fd : FuncData} {N ps : List Str} {k : Nat} {O : List Nat} {body : MS} (F : Fun K x qual st f fd) (S : qr N ps (qd st)) (hO : ∀ i ∈ O, i = 0 \/ ps.length <= i) (h0 : 0 ∈ O)
  (hb : ∀ (cdv : Value) (A : Around) (outer : List PySem.Env) (s : Shared) (H : Hp) (E : XK) (B Io : Addr -> Prop) (S : Nat -> Option (Option V)), wn k (A.deeper (envOfC qual (qd st) s.heap.objs.size f cdv)) ->
   DSs (qjC CX0 P w K mg base N qual (qd st) f cdv A outer s H E).nox (cfn O [0] B H Io (fun _ _ => False) S) (qo st) body) :
  qc2 P w K mg base CX0 (k + 1) f fd ps (qjL K (qcr N.length ps.length body)) := by
 refine F.ok S (fun vs H Q E h => ?_) (fun cdv A outer s H vs Q E hr h => ?_)
 ·obtain ⟨bs, ds, B, a, xs, vs', rfl, ha, him, ib, nA, il, h⟩ := h
  unfold qcr at h
  by_cases e : ds.length + 1 = ps.length
  ·rw [lC_, il.length]; exact e
  ·rw [if_neg e] at h; exact h.elim
 ·obtain ⟨bs, ds, B, a, xs, vs', rfl, ha, him, ib, nA, il, h⟩ := h
  obtain ⟨t, p, wt⟩ := hb cdv A outer s H E B (fun b => b = a) (fun j => (start N (.ref a :: vs'))[j]?) hr
  refine ⟨t, p, ?_⟩
  unfold qcr at h
  by_cases e : ds.length + 1 = ps.length
  ·rw [if_pos e] at h
   have only : ∀ j ∈ O, ∀ v, (start N (.ref a :: vs'))[j]? = some (some v) -> j = 0 /\ v = .ref a := fun j hj v hv => by
    have h1 := w8 hv
    rcases hO j hj with z | z
    ·subst z; cases h1; exact ⟨rfl, rfl⟩
    ·have := (gI_.mp h1).1
     rw [lC_, il.length] at this
     omega
   have r0 : Rep K (cfn O [0] B H (fun b => b = a) (fun _ _ => False) fun j => (start N (.ref a :: vs'))[j]?) (wd N.length (.lst bs :: ds)) (start N (.ref a :: vs')) H := by
    refine ⟨by unfold wd start; simp [il.length], fun i d hd => ?_, fun j hj v hv => ?_, fun i j b hi hj h1 h2 => ?_, fun b hb => .inr hb, fun b o hb _ => hb, fun b hb => hb, fun j hj => ?_, fun _ _ => rfl⟩
    ·have h1 := qdh hd
     cases i with
     | zero =>
      cases h1
      exact ⟨.ref a, qaS rfl, .inl ⟨h0, bs, a, xs, rfl, rfl, ha, IsL.ext Ext.refl (fun b hb _ => ⟨.inl hb, fun j hj e2 => by obtain ⟨_, e3⟩ := only j hj _ e2; cases e3; exact nA hb⟩) ib⟩⟩
     | succ i =>
      have h1' : ds[i]? = some d := by simpa using h1
      obtain ⟨v, h2, h3⟩ := il.get h1'
      have hi : i + 1 ∉ O := fun z => by
       have h4 := (gI_.mp h1').1
       rcases hO _ z with q | q
       ·cases q
       ·omega
      refine ⟨v, qaS (by simpa using h2), .inr ⟨hi, Is.ext Ext.refl (fun b hb _ => ⟨.inl hb, fun j hj e2 => ?_⟩) h3⟩⟩
      obtain ⟨_, e3⟩ := only j hj _ e2
      cases e3
      exact nA hb
    ·obtain ⟨rfl, rfl⟩ := only j hj v hv
     exact ⟨a, xs, rfl, ha, .inr ⟨by simp [cfn], rfl⟩⟩
    ·rw [(only i hi _ h1).1, (only j hj _ h2).1]
    ·have : j = 0 := by simpa [cfn] using hj
     rw [this]; exact h0
   refine wt _ _ H _ r0 ?_
   have fin : ∀ {U : Env} {Z : St} {H' : Hp} {bs' : List D}, Rep K (cfn O [0] B H (fun b => b = a) (fun _ _ => False) fun j => (start N (.ref a :: vs'))[j]?) U Z H' -> z0 0 U = some bs' ->
     ∃ xs', H' a = some (.lst xs') /\ True /\ IsL K (fun b => B b \/ H b = none) H' bs' xs' := fun {U Z H' bs'} r e1 => by
    obtain ⟨l, ys, h1, h2, h3, h4⟩ := r.getLO h0 e1
    have h5 := r.ps 0 (by simp [cfn])
    have h6 : (cfn O [0] B H (fun b => b = a) (fun _ _ => False) fun j => (start N (.ref a :: vs'))[j]?).S 0 = some (some (.ref a)) := qaS rfl
    rw [h2, h6] at h5
    cases h5
    exact ⟨ys, h3, h1, IsL.ext Ext.refl (fun b hb _ => hb.1) h4⟩
   have kps : ∀ {U : Env} {Z : St} {H' : Hp}, Rep K (cfn O [0] B H (fun b => b = a) (fun _ _ => False) fun j => (start N (.ref a :: vs'))[j]?) U Z H' -> ∀ b o, b ≠ a -> H b = some o -> H' b = some o := fun r b o hb ho => r.kp b o ho hb
   cases eb : body (wd N.length (.lst bs :: ds)) with
   | bad => rw [eb] at h; exact h.elim
   | exc z U => rw [eb] at h; exact h.elim
   | ok fl =>
    rw [eb] at h
    cases fl with
    | nx U =>
     cases eg : z0 0 U with
     | none => simp only [eg] at h
     | some bs' =>
      simp only [eg] at h
      exact fun Z' H' r' _ => by
       obtain ⟨xs', h1, h2, h3⟩ := fin r' eg
       exact h .non H' xs' (kps r') (fun b hb => r'.dm b hb) h1 h2 h3 rfl
    | rt d U =>
     cases eg : z0 0 U with
     | none => simp only [eg] at h
     | some bs' =>
      simp only [eg] at h
      exact fun v Z' H' r' i' _ => by
       obtain ⟨xs', h1, h2, h3⟩ := fin r' eg
       exact h v H' xs' (kps r') (fun b hb => r'.dm b hb) h1 h2 h3 i'
    | bk U => exact h.elim
    | ct U => exact h.elim
  ·rw [if_neg e] at h; exact h.elim
end
section
variable {X : Cx} {c : Fc} {a b e : Expr} {pos : Pos}
def qh (F : List D -> R D) (g : M (List D)) : M D := bnd g fun ds U => match F ds with
 | .ok d => .ok (d, U)
 | _ => .bad
theorem qkX {k : Nat} {f : Addr} {fd : FuncData} {ps : List Str} {F : List D -> R D} {x : Str} {p : Pos} {es : List Expr} {g : M (List D)} (G : qc2 X.prog X.w X.K X.mg X.base CX0 k f fd ps (spD X.K F)) (hr : wn k X.A) (hg : Gl X x) (hm : X.mg x = some (.ref f)) (hk : PySem.W.keepIn X.K (.ref f) = true) (hb : qci X.K fd ps [])
  (ha : DA X c (e :: es) g) (hd : (x == ("__debug__" : Str)) = false := by decide) (he : starEach (e :: es) X.env = (false, eval e X.env) :: starEach es X.env := by rfl) (hpl : (backTo pos (starEach es X.env)).any (·.1) = false := by rfl) : DE X c (.Call (.Name x p) (e :: es) [] pos) (qh F g) := by
 obtain ⟨t, pa, w⟩ := ha
 refine ⟨_, qd0 G hr hg hm hk hb .nil qkI pa hd he hpl, fun U Z H Q r h => w U Z H _ r (WpL.bnd h fun ds U1 vs H1 r1 i1 g1 h1 => ?_)⟩
 rw [List.append_nil]
 refine ⟨ds, Cn c Z, i1, fun _ _ => trivial, ?_⟩
 cases ef : F ds with
 | bad => simp only [ef] at h1; exact h1.elim
 | exc z U' => simp only [ef] at h1; exact h1.elim
 | ok d =>
  simp only [ef] at h1
  exact fun v H' sm i => h1 v H' (r1.same sm) (Is.ext Ext.refl (fun a ha _ => ha.elim id r1.new) i) (.of_same sm)
def qN (F : List D -> List D -> R (D × List D)) (i : Nat) (g : M (List D)) : M D := fun U => match z0 i U with
 | none => .bad
 | some _ => (bnd g fun ds U => match z0 i U with
  | none => .bad
  | some bs => match F bs ds with
   | .ok (d, bs') => .ok (d, U.set i (some (.lst bs')))
   | _ => .bad) U
theorem qgW {k i : Nat} {f : Addr} {fd : FuncData} {ps : List Str} {F : List D -> List D -> R (D × List D)} {x y : Str} {p p1 : Pos} {es : List Expr} {g : M (List D)} (G : qc2 X.prog X.w X.K X.mg X.base CX0 k f fd ps (qjL X.K F)) (hr : wn k X.A) (hg : Gl X x) (hm : X.mg x = some (.ref f)) (hk : PySem.W.keepIn X.K (.ref f) = true) (hb : qci X.K fd ps [])
  (ha : DA X c es g) (ho : i ∈ c.O := by exact of_decide_eq_true rfl) (hN : X.N[i]? = some y := by rfl) (hv : Vis X.env.scope y := by first | exact Or.inl rfl | exact Or.inr (Or.inl rfl) | exact Or.inr (Or.inr rfl)) (hdy : (y == ("__debug__" : Str)) = false := by decide) (hcd : (y == ("__classdict__" : Str)) = false := by decide)
  (hd : (x == ("__debug__" : Str)) = false := by decide) (he : starEach (.Name y p1 :: es) X.env = (false, eval (.Name y p1) X.env) :: starEach es X.env := by rfl) (hpl : (backTo pos (starEach es X.env)).any (·.1) = false := by rfl) : DE X c (.Call (.Name x p) (.Name y p1 :: es) [] pos) (qN F i g) := by
 obtain ⟨t, pa, w⟩ := ha
 refine ⟨_, qd0 G hr hg hm hk hb .nil qkI (uT (qaE hN hv hdy hcd) pa he) hd he hpl, fun U Z H Q r h => ?_⟩
 unfold qN at h
 cases e0 : z0 i U with
 | none => simp only [e0] at h; exact h.elim
 | some ds0 =>
  simp only [e0] at h
  obtain ⟨l, xs0, _, hl, hH, _⟩ := r.getLO ho e0
  refine ⟨.ref l, hl, w U Z H _ r (WpL.bnd h fun ds U1 vs H1 r1 i1 g1 h1 => ?_)⟩
  show qjL X.K F (.ref l :: vs ++ []) H1 Q E0
  rw [List.append_nil]
  cases e1 : z0 i U1 with
  | none => simp only [e1] at h1; exact h1.elim
  | some bs =>
   simp only [e1] at h1
   obtain ⟨l', xs, him, hl', hH', il⟩ := r1.getLO ho e1
   rw [hl] at hl'
   cases hl'
   refine ⟨bs, ds, Cn c Z, l, xs, vs, rfl, hH', him, il, fun hc => hc.2 i ho hl, i1, ?_⟩
   cases ef : F bs ds with
   | bad => simp only [ef] at h1; exact h1.elim
   | exc z U' => simp only [ef] at h1; exact h1.elim
   | ok q =>
    obtain ⟨d, bs'⟩ := q
    simp only [ef] at h1
    intro v H' xs' kp dm ha2 him2 il2 i2
    obtain ⟨r2, g2⟩ := r1.io (bs := bs') ho hl kp ha2 him2 (IsL.ext Ext.refl (fun a ha _ => ha.elim id r1.new) il2) dm
    exact h1 v H' r2 (Is.ext Ext.refl (fun a ha _ => ha.elim id r1.new) i2) g2
end
def qiI : Key -> PyData
 | .inl i => .int i
 | .inr x => .str x
mutual
def jL : D -> PyData
 | .non => .none
 | .bl b => .bool b
 | .int i => .int i
 | .str x => .str x
 | .tup ds => .tuple (toPDs ds)
 | .lst ds => .list (toPDs ds)
 | .dic kvs => .dict (kvs.map fun p => (qiI p.1, .int p.2))
 | .fz ns => .list (ns.map .int)
 | .exc _ => .dict [(.int (2 ^ 2000), .none)]
def toPDs : List D -> List PyData
 | [] => []
 | d :: ds => jL d :: toPDs ds
end
mutual
def noL : D -> Bool
 | .tup ds => noLs ds
 | .lst _ => false
 | .fz _ => false
 | _ => true
def noLs : List D -> Bool
 | [] => true
 | d :: ds => noL d && noLs ds
end
mutual
def noX : D -> Bool
 | .tup ds => noXs ds
 | .lst ds => noXs ds
 | .exc _ => false
 | _ => true
def noXs : List D -> Bool
 | [] => true
 | d :: ds => noX d && noXs ds
end
mutual
theorem qgX : ∀ {d : D}, (jL d).canLay0 = true -> noX d = true
 | .non, _ => rfl
 | .bl _, _ => rfl
 | .int _, _ => rfl
 | .str _, _ => rfl
 | .tup ds, h => by unfold noX; exact noXs_lay (by simpa [jL, PyData.canLay0] using h)
 | .lst ds, h => by unfold noX; exact noXs_lay (by simpa [jL, PyData.canLay0] using h)
 | .dic _, _ => rfl
 | .fz _, _ => rfl
 | .exc _, h => by simp [jL, PyData.canLay0] at h
theorem noXs_lay : ∀ {ds : List D}, PyData.canLayAll0 (toPDs ds) = true -> noXs ds = true
 | [], _ => rfl
 | d :: ds, h => by
  have h' : (jL d).canLay0 = true /\ PyData.canLayAll0 (toPDs ds) = true := by simpa [toPDs, PyData.canLayAll0] using h
  unfold noXs
  rw [qgX h'.1, noXs_lay h'.2]; rfl
end
theorem w9 {h : Heap} : ∀ {ns : List Int} {us : List Value}, zD (ns.map V.int) us -> ∃ as, ReadsAll h us (ns.map .int) as
 | [], us, r => by
  rw [List.map_nil] at r; cases r; exact ⟨[], .nil⟩
 | n :: ns, us, r => by
  rw [mC_] at r
  cases r with
  | cons r1 r2 =>
   obtain ⟨t, e⟩ := r1
   subst e
   obtain ⟨as, q⟩ := w9 (ns := ns) r2
   exact ⟨[] ++ as, .cons (.int n t) q⟩
theorem qd9 {α : Type} {x : α} {l l' : List α} (h1 : x ∉ l) (h2 : x ∉ l') : x ∉ l ++ l' := fun h => (mA_.mp h).elim h1 h2
theorem qbk {P : Program} {w : World} {h : Heap} : ∀ {kvs : List (Key × Int)} {es : List DictEntry} {vs : List (Key × Value)}, KV (kvs.map fun p => (p.1, V.int p.2)) vs -> Pairs (qch P w) es vs ->
  ReadsAll h (es.map (·.key)) ((kvs.map fun p => (qiI p.1, PyData.int p.2)).map (·.1)) [] /\ ReadsAll h (es.map (·.val)) ((kvs.map fun p => (qiI p.1, PyData.int p.2)).map (·.2)) []
 | [], es, vs, r, p => by
  have r' : KV ([] : List (Key × V)) vs := r
  unfold KV at r'
  cases r'
  cases p
  exact ⟨.nil, .nil⟩
 | (k, i) :: kvs, es, vs, r, p => by
  have r' : KV ((k, V.int i) :: kvs.map fun p => (p.1, V.int p.2)) vs := r
  unfold KV at r'
  cases r' with
  | cons r1 r2 =>
   cases p with
   | cons p1 p2 p3 =>
    obtain ⟨q1, q2⟩ := qbk (h := h) (kvs := kvs) r2 p3
    obtain ⟨e1, t, e2⟩ := r1
    have hk : ∀ {e : DictEntry} {kv : Key × Value}, k = kv.1 -> (qch P w).is kv.1 e.key = true -> Reads h e.key (qiI k) [] := fun {e kv} hk hi => by
     subst hk
     rcases zE hi with ⟨i, t, e1, e2⟩ | ⟨x, t, e1, e2⟩
     ·rw [e1, e2]; exact .int i t
     ·rw [e1, e2]; exact .str x t
    refine ⟨.cons (as := []) (bs := []) (hk e1 p1) q1, .cons (as := []) (bs := []) ?_ q2⟩
    show Reads h _ (.int i) []
    dsimp only
    rw [p2, e2]
    exact .int i t
section
variable {X : Cx} {pins : List (Addr × Obj)} {Z : St} {H : Hp} {s : Shared} {A : Addr -> Prop}
mutual
theorem uX (I : Inv X pins Z H s) : ∀ {d : D} {v : V} {u : Value}, noX d = true -> Is X.K A H d v -> yx v u -> ∃ as, Reads s.heap u (jL d) as /\ (noL d = true -> sysModules ∉ as)
 | .non, _, _, _, h, r => by cases h; cases r; exact ⟨[], .none, by simp⟩
 | .bl b, _, _, _, h, r => by cases h; cases r; exact ⟨[], .bool b, by simp⟩
 | .int i, _, _, _, h, r => by cases h; obtain ⟨t, rfl⟩ := r; exact ⟨[], .int i t, by simp⟩
 | .str x, _, _, _, h, r => by cases h; obtain ⟨t, rfl⟩ := r; exact ⟨[], .str x t, by simp⟩
 | .tup ds, _, _, nx, ⟨a, xs, hv, ta, il⟩, r => by
  subst hv
  cases r
  obtain ⟨its, rv, p, _⟩ := I.tuple ta.sq
  obtain ⟨o, h1, h2, n, h3⟩ := p
  obtain ⟨as, q, nl⟩ := readsL_of I (by simpa [noX] using nx) il rv
  exact ⟨as, .tuple h1 h2 h3 (by simpa using q), fun z => nl (by simpa [noL] using z)⟩
 | .lst ds, _, _, nx, ⟨a, xs, hv, _, ta, il⟩, r => by
  subst hv
  cases r
  obtain ⟨its, rv, p, _⟩ := I.list (SqL.of ta)
  obtain ⟨o, h1, h2, n, h3⟩ := p.isList
  obtain ⟨as, q, nl⟩ := readsL_of I (by simpa [noX] using nx) il rv
  exact ⟨a :: as, .list h1 h2 h3 (by simpa using q), fun z => by simp [noL] at z⟩
 | .dic kvs, _, _, _, ⟨a, hv, _, ta⟩, r => by
  subst hv
  cases r
  obtain ⟨hz, hS, vs, rk, o, es, ep, h1, h2, h3, h4, h5, h6⟩ := (show yY X.prog X.w H s.heap a (.dK _) from I.hok a _ ta)
  obtain ⟨q1, q2⟩ := qbk (h := s.heap) rk h5
  refine ⟨_, Reads.dict (as := []) (bs := []) h1 h2.1 h3 q1 q2, fun _ hm => ?_⟩
  have : sysModules = a := by simpa using hm
  rw [<- this] at hS
  simp at hS
 | .exc _, _, _, nx, _, _ => by simp [noX] at nx
 | .fz ns, _, _, _, ⟨a, hv, ta⟩, r => by
  subst hv
  cases r
  obtain ⟨its, rv, p, _⟩ := I.list ta.sq
  obtain ⟨o, h1, h2, n, h3⟩ := p.isList
  obtain ⟨as, q⟩ := w9 rv
  exact ⟨a :: as, .list h1 h2 h3 (by simpa using q), fun z => by simp [noL] at z⟩
theorem readsL_of (I : Inv X pins Z H s) : ∀ {ds : List D} {xs : List V} {us : List Value}, noXs ds = true -> IsL X.K A H ds xs -> zD xs us -> ∃ as, ReadsAll s.heap us (toPDs ds) as /\ (noLs ds = true -> sysModules ∉ as)
 | [], _, _, _, h, r => by cases h; cases r; exact ⟨[], .nil, by simp⟩
 | d :: ds, _, _, nx, ⟨x, ys, hx, h1, h2⟩, r => by
  subst hx
  cases r with
  | cons r1 r2 =>
   have nx' : noX d = true /\ noXs ds = true := by simpa [noXs] using nx
   obtain ⟨as, q1, n1⟩ := uX I nx'.1 h1 r1
   obtain ⟨bs, q2, n2⟩ := readsL_of I nx'.2 h2 r2
   exact ⟨as ++ bs, .cons q1 q2, fun z => by
    have z' : noL d = true /\ noLs ds = true := by simpa [noLs] using z
    exact qd9 (n1 z'.1) (n2 z'.2)⟩
end
end
def qmN (d : D) : Bool := (jL d).showable && decide ((jL d).shown.length <= sizeLine) && decide ((jL d).depth <= 50) && (!(jL d).hasDict || noL d)
section
variable {X : Cx}
end
def qpA : List D -> Option D
 | [d] => if qmN d then some (.str (jL d).shown) else none
 | _ => none
def wR (d : D) : Bool := (jL d).canLay0 && decide ((jL d).depth <= 50)
def qjM (K : Fr0) (neg : Bool) : R2 := fun x y H Q => ∃ d e A, Is K A H d x /\ Is K A H e y /\ wR d = true /\ wR e = true /\ Q (.bl (if neg then !PyData.eqv (jL d) (jL e) else PyData.eqv (jL d) (jL e))) H
section
variable {X : Cx}
theorem qcs {d : D} (h : wR d = true) : SeqAt.shaped (jL d) = true := by
 unfold wR at h
 unfold SeqAt.shaped
 simp only [Bool.and_eq_true, decide_eq_true_eq] at h |-
 exact ⟨h.1, by omega⟩
theorem qb2 {d : D} (h : wR d = true) : noX d = true := by
 unfold wR at h
 rw [Bool.and_eq_true] at h
 exact qgX h.1
theorem qmO {k : Nat} (hr : wn k X.A) : OpR X (compareOp .Eq) (qjM X.K false) := by
 intro pins s Z H x y v u Q I rx ry h
 obtain ⟨d, e, A, h1, h2, o1, o2, q⟩ := h
 obtain ⟨as, r1, _⟩ := uX I (qb2 o1) h1 rx
 obtain ⟨bs, r2, _⟩ := uX I (qb2 o2) h2 ry
 exact SeqAt.compareEq_shaped r1 r2 (qcs o1) (qcs o2) hr.units ⟨.bl _, H, I, rfl, by simpa using q⟩
theorem qmP {k : Nat} (hr : wn k X.A) : OpR X (compareOp .NotEq) (qjM X.K true) := by
 intro pins s Z H x y v u Q I rx ry h
 obtain ⟨d, e, A, h1, h2, o1, o2, q⟩ := h
 obtain ⟨as, r1, _⟩ := uX I (qb2 o1) h1 rx
 obtain ⟨bs, r2, _⟩ := uX I (qb2 o2) h2 ry
 exact SeqAt.compareNe_shaped r1 r2 (qcs o1) (qcs o2) hr.units ⟨.bl _, H, I, rfl, by simpa using q⟩
end
def eqA (x y : D) : Option D := if wR x && wR y then some (.bl (PyData.eqv (jL x) (jL y))) else none
def neA (x y : D) : Option D := if wR x && wR y then some (.bl (!PyData.eqv (jL x) (jL y))) else none
theorem qkY {K : Fr0} : OpS K eqA (qjM K false) := by
 intro A H x y d v u Q hn ix iy e k
 obtain ⟨e1, e2⟩ := jN e
 rw [Bool.and_eq_true] at e1
 subst e2
 exact ⟨x, y, A, ix, iy, e1.1, e1.2, k _ H (jY.refl H) rfl⟩
theorem qkZ {K : Fr0} : OpS K neA (qjM K true) := by
 intro A H x y d v u Q hn ix iy e k
 obtain ⟨e1, e2⟩ := jN e
 rw [Bool.and_eq_true] at e1
 subst e2
 exact ⟨x, y, A, ix, iy, e1.1, e1.2, k _ H (jY.refl H) rfl⟩
section
variable {X : Cx} {c : Fc} {a b e : Expr} {pos : Pos}
def qo0 (i : Nat) (g : M D) : M D := fun U => match z0 i U with
 | none => .bad
 | some _ => (bnd g fun y U => match z0 i U with
  | none => .bad
  | some ds => lift (neA (.lst ds) y) U) U
end
section
variable {prog : Program} {w : World} {A : Around} {E : Value -> Shared -> Prop} {s : Shared}
theorem qk0 {it tu : Addr} {k : Nat} {arr : Array Value} {x : Value} {Q : Value -> Shared -> Prop} (hI : s.heap.IsTupleIter it tu k) (hT : s.heap.IsTuple tu arr) (hx : arr[k]? = some x)
  (q : ∀ h', h'.IsTupleIter it tu (k + 1) -> Heap.SameBut it s.heap h' -> Q x { s with heap := h' }) : wpAny (model prog w) A (Builtin.SmallTypes.nextOf (.ref it)) Q E s := by
 obtain ⟨ob, e1, e2, e3⟩ := id hI
 obtain ⟨ot, f1, _, m, f2⟩ := hT
 unfold Builtin.SmallTypes.nextOf
 refine wpAny_bind (wpAny_callSpecial?_slot (name := Str.ofString "__next__") hI.typeIs F.slot_tuple_iterator_next (wpAny_call_entry F.slot_tuple_iterator_next hI.typeIs F.entry_tuple_iterator_next ?_ (F.args_tuple_iterator_next_1 _)))
 show wpAny (model prog w) _ (field (Value.ref it) 0 >>= _) _ _ s
 refine wpAny_bind (wpAny_field e1 e3 (x := Value.ref tu) rfl ?_)
 show wpAny (model prog w) _ (if (Value.ref tu == Value.none) = true then _ else _) _ _ s
 rw [if_neg (show ¬ ((Value.ref tu == Value.none) = true) from Bool.false_ne_true)]
 show wpAny (model prog w) _ (field (Value.ref it) 1 >>= _) _ _ s
 refine wpAny_bind (wpAny_field e1 e3 (x := Value.int k 0) rfl ?_)
 show wpAny (model prog w) _ (seqItems? (Value.ref tu) >>= _) _ _ s
 refine wpAny_bind (wpAny_seqItems f1 f2 ?_)
 simp only [Int.toNat_natCast, hx]
 refine wpAny_bind (wpAny_setField e1 e3 (by simp) (wpAny_pure ⟨x, rfl, wpAny_pure (q _ ?_ (Heap.SameBut.update ..))⟩))
 exact ⟨_, Heap.get?_update_self _ e1 (Obj.isFreed_of_fields (Obj.data_mapFields e3 _)), (Obj.cls_mapFields ..).trans e2, by rw [Obj.data_mapFields e3]; simp [rawInt]⟩
theorem qk1 {it tu : Addr} {k : Nat} {arr : Array Value} {Q : Value -> Shared -> Prop} (hh : A.handled = none) (hI : s.heap.IsTupleIter it tu k) (hT : s.heap.IsTuple tu arr) (hx : arr[k]? = none)
  (q : ∀ h' e, Heap.ExtBut it s.heap h' -> (∃ o, h'.get? e = some o /\ o.cls = .type "StopIteration") -> E (.ref e) { s with heap := h' }) : wpAny (model prog w) A (Builtin.SmallTypes.nextOf (.ref it)) Q E s := by
 obtain ⟨ob, e1, e2, e3⟩ := id hI
 obtain ⟨ot, f1, _, m, f2⟩ := hT
 unfold Builtin.SmallTypes.nextOf
 refine wpAny_bind (wpAny_callSpecial?_slot (name := Str.ofString "__next__") hI.typeIs F.slot_tuple_iterator_next (wpAny_call_entry F.slot_tuple_iterator_next hI.typeIs F.entry_tuple_iterator_next ?_ (F.args_tuple_iterator_next_1 _)))
 show wpAny (model prog w) _ (field (Value.ref it) 0 >>= _) _ _ s
 refine wpAny_bind (wpAny_field e1 e3 (x := Value.ref tu) rfl ?_)
 show wpAny (model prog w) _ (if (Value.ref tu == Value.none) = true then _ else _) _ _ s
 rw [if_neg (show ¬ ((Value.ref tu == Value.none) = true) from Bool.false_ne_true)]
 show wpAny (model prog w) _ (field (Value.ref it) 1 >>= _) _ _ s
 refine wpAny_bind (wpAny_field e1 e3 (x := Value.int k 0) rfl ?_)
 show wpAny (model prog w) _ (seqItems? (Value.ref tu) >>= _) _ _ s
 refine wpAny_bind (wpAny_seqItems f1 f2 ?_)
 simp only [Int.toNat_natCast, hx]
 refine wpAny_bind (wpAny_rule (wpAny_bind (wpAny_setField e1 e3 (by simp) ?_)))
 show wpAny (model prog w) _ (newExc (Value.type "StopIteration") [] >>= _) _ _ _
 refine wpAny_bind ?_
 simp only [newExc, newTuple]
 refine wpAny_bind (wpAny_newObj_type ?_ (by size_fits))
 refine wpAny_bind (m := firstArgMember _ _) (wpAny_of_eq (a := Value.none) (by first | rfl | (simp only [firstArgMember]; rfl)) ?_)
 refine wpAny_newObj_type ?_ (by size_fits)
 simp only [raiseNew]
 refine wpAny_bind (wpAny_handled ?_)
 first | rw [show A.in1.handled = none from hh] | rw [hh]
 exact wpAny_bind (wpAny_pure (wpAny_throw (q _ _ (((Heap.SameBut.update ..).extBut.push _).push _) ⟨_, Heap.get?_push_size _ rfl, rfl⟩)))
end
theorem vX {prog : Program} {w : World} {A : Around} (hh : A.handled = none) (it tu : Addr) (hne : tu ≠ it) (arr : Array Value) :
  Draws prog w A it [it, tu] arr.size (fun i x => arr[i]? = some x) (fun i h => h.IsTupleIter it tu i /\ h.IsTuple tu arr) where
 live := fun i h st => by obtain ⟨⟨o, e, _⟩, _⟩ := st; exact ⟨o, e⟩
 frame := fun i h h' st k => by
  obtain ⟨h1, o, e, r⟩ := st
  exact ⟨h1.at fun o q => k it (by simp) o q, o, k tu (by simp) o e, r⟩
 item := fun i s Q E hi st q => qk0 st.1 st.2 (Array.getElem?_eq_getElem hi) fun h' h1 sb => q _ h' s.toks (Array.getElem?_eq_getElem hi) ⟨h1, by
  obtain ⟨o, e, r⟩ := st.2
  exact ⟨o, sb.extBut _ _ hne e, r⟩⟩ sb
 done := fun s Q E st q => qk1 hh st.1 st.2 (Array.getElem?_eq_none (Nat.le_refl _)) q
structure ZAp (z TI TO i1 i2 : Addr) (fp1 fp2 : List Addr) : Prop where
 zTI : z ≠ TI
 zTO : z ≠ TO
 zi1 : z ≠ i1
 zi2 : z ≠ i2
 IO : TI ≠ TO
 Ii1 : TI ≠ i1
 Ii2 : TI ≠ i2
 Oi1 : TO ≠ i1
 Oi2 : TO ≠ i2
 ii : i1 ≠ i2
 z1 : z ∉ fp1
 z2 : z ∉ fp2
 O1 : TO ∉ fp1
 O2 : TO ∉ fp2
 i21 : i2 ∉ fp1
 i12 : i1 ∉ fp2
section
variable {prog : Program} {w : World} {A : Around} {E : Value -> Shared -> Prop} {s : Shared} {z TI TO i1 i2 : Addr} {fp1 fp2 : List Addr} {n1 n2 k : Nat} {P1 P2 : Nat -> Value -> Prop} {S1 S2 : Nat -> Heap -> Prop}
theorem yz {fp : List Addr} {a : Addr} {h h' : Heap} (sb : Heap.SameBut a h h') (ha : a ∉ fp) : ∀ b ∈ fp, ∀ o, h.get? b = some o -> h'.get? b = some o := fun b hb o e => sb.extBut _ _ (fun q => ha (q ▸ hb)) e
theorem qmQ (D1 : Draws prog w A i1 fp1 n1 P1 S1) (D2 : Draws prog w A i2 fp2 n2 P2 S2) (ap : ZAp z TI TO i1 i2 fp1 fp2) {p q : Value} (zz : IsZip s.heap z TI TO .none) (zI : IsPair s.heap TI (.ref i1) (.ref i2)) (zO : IsPair s.heap TO p q)
  (t1 : S1 k s.heap) (t2 : S2 k s.heap) (l1 : k < n1) (l2 : k < n2) {Q : Value -> Shared -> Prop}
  (fin : ∀ x y h' tk, P1 k x -> P2 k y -> IsZip h' z TI TO (rawInt s.heap.objs.size) -> IsPair h' TO x y -> S1 (k + 1) h' -> S2 (k + 1) h' -> IsPair h' s.heap.objs.size x y ->
   (∀ c o, c ≠ z -> c ≠ TO -> c ≠ i1 -> c ≠ i2 -> s.heap.get? c = some o -> h'.get? c = some o) -> Q (.ref s.heap.objs.size) { s with heap := h', toks := tk }) :
  wpAny (model prog w) A (Builtin.«zip.__next__» ⟨[.ref z], []⟩) (fun r s' => ∃ v, r = .done (.ret v) /\ Q v s') E s := by
 show wpAny (model prog w) A (field (Value.ref z) 2 >>= _) _ _ _
 refine wpAny_bind (wpAny_field zz rfl (x := Value.bool false) rfl ?_)
 show wpAny (model prog w) A (field (Value.ref z) 3 >>= _) _ _ _
 refine wpAny_bind (wpAny_field zz rfl (x := Value.ref TI) rfl (wpAny_bind (wpAny_seqItems zI rfl ?_)))
 show wpAny (model prog w) A (Builtin.SmallTypes.ownedTupleIsFree (Value.ref z) >>= _) _ _ _
 refine wpAny_bind ?_
 unfold Builtin.SmallTypes.ownedTupleIsFree
 refine wpAny_bind (wpAny_field zz rfl (x := Value.none) rfl (wpAny_pure ?_))
 simp only [if_true]
 refine wpAny_bind (wpAny_rule (wpAny_bind (wpAny_field zz rfl (x := Value.ref TO) rfl (wpAny_bind (wpAny_setField_rec zz (by simp) fun h1 zz1 b1 => ?_)))))
 replace zz1 : IsZip h1 z TI TO .ellipsis := zz1
 refine wpAny_bind ?_
 simp only [List.zipIdx_cons, List.zipIdx_nil, List.forIn_cons, List.forIn_nil]
 refine wpAny_bind (wpAny_bind (wpAny_onRaise ?_))
 show wpAny (model prog w) A (Builtin.SmallTypes.nextOf (Value.ref i1) >>= _) _ _ _
 refine wpAny_bind (D1.item k _ _ _ l1 (D1.frame _ _ _ t1 (yz b1 ap.z1)) fun x h2 tk2 px u1 b2 => wpAny_pure ?_)
 have zO2 : IsPair h2 TO p q := b2.extBut _ _ ap.Oi1 (b1.extBut _ _ ap.zTO.symm zO)
 refine wpAny_bind (wpAny_seqItems zO2 rfl (wpAny_bind (wpAny_updateSeq_pair zO2 fun h3 zO3 b3 => ?_)))
 replace zO3 : IsPair h3 TO x q := zO3
 refine wpAny_bind (wpAny_letGo (wpAny_pure (wpAny_bind (wpAny_bind (wpAny_onRaise ?_)))))
 show wpAny (model prog w) A (Builtin.SmallTypes.nextOf (Value.ref i2) >>= _) _ _ _
 have t2' : S2 k h3 := D2.frame _ _ _ (D2.frame _ _ _ (D2.frame _ _ _ t2 (yz b1 ap.z2)) (yz b2 ap.i12)) (yz b3 ap.O2)
 refine wpAny_bind (D2.item k _ _ _ l2 t2' fun y h4 tk4 py u2 b4 => wpAny_pure ?_)
 have zO4 : IsPair h4 TO x q := b4.extBut _ _ ap.Oi2 zO3
 refine wpAny_bind (wpAny_seqItems zO4 rfl (wpAny_bind (wpAny_updateSeq_pair zO4 fun h5 zO5 b5 => ?_)))
 replace zO5 : IsPair h5 TO x y := zO5
 refine wpAny_bind (wpAny_letGo (wpAny_pure (wpAny_pure (wpAny_bind (wpAny_seqItems zO5 rfl (wpAny_bind (wpAny_newTuple ?_)))))))
 have sz : h5.objs.size = s.heap.objs.size := by rw [b5.1, b4.1, b3.1, b2.1, b1.1]
 have zz5 : IsZip h5 z TI TO .ellipsis := b5.extBut _ _ ap.zTO (b4.extBut _ _ ap.zi2 (b3.extBut _ _ ap.zTO (b2.extBut _ _ ap.zi1 zz1)))
 have keep5 : ∀ c o, c ≠ z -> c ≠ TO -> c ≠ i1 -> c ≠ i2 -> s.heap.get? c = some o -> h5.get? c = some o := fun c o c1 c2 c3 c4 e => b5.extBut _ _ c2 (b4.extBut _ _ c4 (b3.extBut _ _ c2 (b2.extBut _ _ c3 (b1.extBut _ _ c1 e))))
 have v1 : S1 (k + 1) h5 := D1.frame _ _ _ (D1.frame _ _ _ (D1.frame _ _ _ u1 (yz b3 ap.O1)) (yz b4 ap.i21)) (yz b5 ap.O1)
 have v2 : S2 (k + 1) h5 := D2.frame _ _ _ u2 (yz b5 ap.O2)
 have lz : z < h5.objs.size := Heap.lt_size zz5
 show wpAny (model prog w) A (Builtin.SmallTypes.ownedTupleHandOut (Value.ref z) (Value.ref h5.objs.size) >>= _) _ _ _
 refine wpAny_bind ?_
 unfold Builtin.SmallTypes.ownedTupleHandOut
 have zz6 : IsZip (h5.push { cls := .type "tuple", data := .seq #[x, y] }) z TI TO .ellipsis := Heap.get?_push_of_some _ zz5
 refine wpAny_bind (wpAny_setField_rec zz6 (by simp) fun h7 zz7 b7 => ?_)
 replace zz7 : IsZip h7 z TI TO (rawInt h5.objs.size) := zz7
 refine wpAny_setField_rec zz7 (by simp) fun h8 zz8 b8 => ?_
 replace zz8 : IsZip h8 z TI TO (rawInt h5.objs.size) := zz8
 have up : ∀ c o, c ≠ z -> h5.get? c = some o -> h8.get? c = some o := fun c o c1 e => b8.extBut _ _ c1 (b7.extBut _ _ c1 (Heap.get?_push_of_some _ e))
 have new8 : IsPair h8 h5.objs.size x y := b8.extBut _ _ (Nat.ne_of_gt lz) (b7.extBut _ _ (Nat.ne_of_gt lz) (Heap.get?_push_size _ rfl))
 rw [sz] at zz8 new8
 refine wpAny_pure ⟨_, rfl, ?_⟩
 show Q (Value.ref h5.objs.size) _
 rw [sz]
 exact fin x y h8 tk4 px py zz8 (up _ _ ap.zTO.symm zO5) (D1.frame _ _ _ v1 fun b hb o e => up b o (fun q => ap.z1 (q ▸ hb)) e) (D2.frame _ _ _ v2 fun b hb o e => up b o (fun q => ap.z2 (q ▸ hb)) e) new8 fun c o c1 c2 c3 c4 e => up c o c1 (keep5 c o c1 c2 c3 c4 e)
theorem qiJ (hh : A.handled = none) (D1 : Draws prog w A i1 fp1 n1 P1 S1) (D2 : Draws prog w A i2 fp2 n2 P2 S2) (ap : ZAp z TI TO i1 i2 fp1 fp2) {p q : Value} (zz : IsZip s.heap z TI TO .none) (zI : IsPair s.heap TI (.ref i1) (.ref i2)) (zO : IsPair s.heap TO p q)
  (t1 : S1 k s.heap) (t2 : S2 k s.heap) (hk : k = min n1 n2) {Q : Fin -> Shared -> Prop}
  (fin : ∀ h' tk e, (∀ c o, c ≠ z -> c ≠ TO -> c ≠ i1 -> c ≠ i2 -> s.heap.get? c = some o -> h'.get? c = some o) -> (∃ o, h'.get? e = some o /\ o.cls = .type "StopIteration") -> E (.ref e) { s with heap := h', toks := tk }) :
  wpAny (model prog w) A (Builtin.«zip.__next__» ⟨[.ref z], []⟩) Q E s := by
 show wpAny (model prog w) A (field (Value.ref z) 2 >>= _) _ _ _
 refine wpAny_bind (wpAny_field zz rfl (x := Value.bool false) rfl ?_)
 show wpAny (model prog w) A (field (Value.ref z) 3 >>= _) _ _ _
 refine wpAny_bind (wpAny_field zz rfl (x := Value.ref TI) rfl (wpAny_bind (wpAny_seqItems zI rfl ?_)))
 show wpAny (model prog w) A (Builtin.SmallTypes.ownedTupleIsFree (Value.ref z) >>= _) _ _ _
 refine wpAny_bind ?_
 unfold Builtin.SmallTypes.ownedTupleIsFree
 refine wpAny_bind (wpAny_field zz rfl (x := Value.none) rfl (wpAny_pure ?_))
 simp only [if_true]
 refine wpAny_bind (wpAny_rule (wpAny_bind (wpAny_field zz rfl (x := Value.ref TO) rfl (wpAny_bind (wpAny_setField_rec zz (by simp) fun h1 zz1 b1 => ?_)))))
 replace zz1 : IsZip h1 z TI TO .ellipsis := zz1
 refine wpAny_bind ?_
 simp only [List.zipIdx_cons, List.zipIdx_nil, List.forIn_cons, List.forIn_nil]
 refine wpAny_bind (wpAny_bind (wpAny_onRaise ?_))
 show wpAny (model prog w) A (Builtin.SmallTypes.nextOf (Value.ref i1) >>= _) _ _ _
 have t1' : S1 k h1 := D1.frame _ _ _ t1 (yz b1 ap.z1)
 by_cases h12 : n1 <= n2
 ·have e1 : k = n1 := by rw [hk]; exact Nat.min_eq_left h12
  rw [e1] at t1'
  refine wpAny_bind (D1.done _ _ _ t1' fun h2 e b2 he => ?_)
  obtain ⟨oe, f1, f2⟩ := he
  have zz2 : IsZip h2 z TI TO .ellipsis := b2 _ _ ap.zi1 zz1
  have ez : e ≠ z := fun x => by subst x; rw [zz2] at f1; cases f1; simp at f2
  refine wpAny_setField_rec zz2 (by simp) fun h3 _ b3 => ?_
  exact fin h3 s.toks e (fun c o c1 _ c3 _ x => b3.extBut _ _ c1 (b2 _ _ c3 (b1.extBut _ _ c1 x))) ⟨oe, b3.extBut _ _ ez f1, f2⟩
 ·have e1 : k = n2 := by rw [hk]; exact Nat.min_eq_right (by omega)
  refine wpAny_bind (D1.item k _ _ _ (by omega) t1' fun x h2 tk2 px u1 b2 => wpAny_pure ?_)
  have zO2 : IsPair h2 TO p q := b2.extBut _ _ ap.Oi1 (b1.extBut _ _ ap.zTO.symm zO)
  refine wpAny_bind (wpAny_seqItems zO2 rfl (wpAny_bind (wpAny_updateSeq_pair zO2 fun h3 zO3 b3 => ?_)))
  refine wpAny_bind (wpAny_letGo (wpAny_pure (wpAny_bind (wpAny_bind (wpAny_onRaise ?_)))))
  show wpAny (model prog w) A (Builtin.SmallTypes.nextOf (Value.ref i2) >>= _) _ _ _
  have t2' : S2 k h3 := D2.frame _ _ _ (D2.frame _ _ _ (D2.frame _ _ _ t2 (yz b1 ap.z2)) (yz b2 ap.i12)) (yz b3 ap.O2)
  rw [e1] at t2'
  refine wpAny_bind (D2.done _ _ _ t2' fun h4 e b4 he => ?_)
  obtain ⟨oe, f1, f2⟩ := he
  have zz4 : IsZip h4 z TI TO .ellipsis := b4 _ _ ap.zi2 (b3.extBut _ _ ap.zTO (b2.extBut _ _ ap.zi1 zz1))
  have ez : e ≠ z := fun x => by subst x; rw [zz4] at f1; cases f1; simp at f2
  refine wpAny_setField_rec zz4 (by simp) fun h5 _ b5 => ?_
  exact fin h5 tk2 e (fun c o c1 c2 c3 c4 x => b5.extBut _ _ c1 (b4 _ _ c4 (b3.extBut _ _ c2 (b2.extBut _ _ c3 (b1.extBut _ _ c1 x))))) ⟨oe, b5.extBut _ _ ez f1, f2⟩
theorem qiK {l1 l2 : Addr} {xs ys : Array Value} {Q : Value -> Shared -> Prop} (t1 : s.heap.IsTuple l1 xs) (t2 : s.heap.IsTuple l2 ys)
  (fin : ∀ h', IsZip h' (s.heap.objs.size + 4) (s.heap.objs.size + 2) (s.heap.objs.size + 3) .none -> IsPair h' (s.heap.objs.size + 2) (.ref s.heap.objs.size) (.ref (s.heap.objs.size + 1)) -> IsPair h' (s.heap.objs.size + 3) .none .none ->
   h'.IsTupleIter s.heap.objs.size l1 0 -> h'.IsTupleIter (s.heap.objs.size + 1) l2 0 -> (∀ c o, s.heap.get? c = some o -> h'.get? c = some o) -> Q (.ref (s.heap.objs.size + 4)) { s with heap := h' }) :
  wpAny (model prog w) A (call (.type "zip") [.ref l1, .ref l2]) Q E s := by
 have meets : Meets (Builtin.«zip.__new__» ⟨[.type "zip", .ref l1, .ref l2], []⟩) (fun _ R s => s.heap.IsTuple l1 xs /\ s.heap.IsTuple l2 ys /\
   R (.ok (.ret (.ref (s.heap.objs.size + 4)))) { s with heap := ((((s.heap.push { cls := .type "tuple_iterator", data := .fields #[.ref l1, .int 0 0] }).push { cls := .type "tuple_iterator", data := .fields #[.ref l2, .int 0 0] }).push { cls := .type "tuple", data := .seq #[.ref s.heap.objs.size, .ref (s.heap.objs.size + 1)] }).push { cls := .type "tuple", data := .seq #[.none, .none] }).push { cls := .type "zip", data := .fields #[.none, .bool false, .bool false, .ref (s.heap.objs.size + 2), .ref (s.heap.objs.size + 3)] } }) :=
  .of_wp fun prog w A R s h => by
   obtain ⟨hp, g, d, tk, os⟩ := s
   obtain ⟨ha, hb, h⟩ := h
   have hsub := sub_zip
   have hA : Heap.IsTuple (Shared.heap ⟨hp, g, d, tk, os⟩) l1 xs := ha
   have hB : Heap.IsTuple (Shared.heap ⟨hp.push { cls := .type "tuple_iterator", data := .fields #[.ref l1, .int 0 0] }, g, d, tk, os⟩) l2 ys := by
    obtain ⟨o, e, r⟩ := hb
    exact ⟨o, Heap.get?_push_of_some _ e, r⟩
   wp_walk using wpAny_pyIter_tuple hA, wpAny_pyIter_tuple hB
   simp only [Heap.size_push] at *
   exact ⟨_, rfl, h⟩
 refine callType_new F.called_zip (by decide) (F.typeCall_zip_2 _ _) (F.newCall_zip_2 _ _) (fun obj => F.args_object_init_3 obj _ _) F.entry_zip_new meets ⟨t1, t2, ?_⟩
 generalize e1 : s.heap.push { cls := .type "tuple_iterator", data := .fields #[.ref l1, .int 0 0] } = m1
 have s1 : m1.objs.size = s.heap.objs.size + 1 := by rw [<- e1, Heap.size_push]
 have q1 : m1.get? s.heap.objs.size = some { cls := .type "tuple_iterator", data := .fields #[.ref l1, .int 0 0] } := by rw [<- e1]; exact Heap.get?_push_size _ rfl
 have k1 : ∀ c o, s.heap.get? c = some o -> m1.get? c = some o := fun c o x => by rw [<- e1]; exact Heap.get?_push_of_some _ x
 generalize e2 : m1.push { cls := .type "tuple_iterator", data := .fields #[.ref l2, .int 0 0] } = m2
 have s2 : m2.objs.size = s.heap.objs.size + 2 := by rw [<- e2, Heap.size_push, s1]
 have q2 : m2.get? (s.heap.objs.size + 1) = some { cls := .type "tuple_iterator", data := .fields #[.ref l2, .int 0 0] } := by rw [<- e2, <- s1]; exact Heap.get?_push_size _ rfl
 have k2 : ∀ c o, m1.get? c = some o -> m2.get? c = some o := fun c o x => by rw [<- e2]; exact Heap.get?_push_of_some _ x
 generalize e3 : m2.push { cls := .type "tuple", data := .seq #[.ref s.heap.objs.size, .ref (s.heap.objs.size + 1)] } = m3
 have s3 : m3.objs.size = s.heap.objs.size + 3 := by rw [<- e3, Heap.size_push, s2]
 have q3 : m3.get? (s.heap.objs.size + 2) = some { cls := .type "tuple", data := .seq #[.ref s.heap.objs.size, .ref (s.heap.objs.size + 1)] } := by rw [<- e3, <- s2]; exact Heap.get?_push_size _ rfl
 have k3 : ∀ c o, m2.get? c = some o -> m3.get? c = some o := fun c o x => by rw [<- e3]; exact Heap.get?_push_of_some _ x
 generalize e4 : m3.push { cls := .type "tuple", data := .seq #[.none, .none] } = m4
 have s4 : m4.objs.size = s.heap.objs.size + 4 := by rw [<- e4, Heap.size_push, s3]
 have q4 : m4.get? (s.heap.objs.size + 3) = some { cls := .type "tuple", data := .seq #[.none, .none] } := by rw [<- e4, <- s3]; exact Heap.get?_push_size _ rfl
 have k4 : ∀ c o, m3.get? c = some o -> m4.get? c = some o := fun c o x => by rw [<- e4]; exact Heap.get?_push_of_some _ x
 generalize e5 : m4.push { cls := .type "zip", data := .fields #[.none, .bool false, .bool false, .ref (s.heap.objs.size + 2), .ref (s.heap.objs.size + 3)] } = m5
 have q5 : m5.get? (s.heap.objs.size + 4) = some { cls := .type "zip", data := .fields #[.none, .bool false, .bool false, .ref (s.heap.objs.size + 2), .ref (s.heap.objs.size + 3)] } := by rw [<- e5, <- s4]; exact Heap.get?_push_size _ rfl
 have k5 : ∀ c o, m4.get? c = some o -> m5.get? c = some o := fun c o x => by rw [<- e5]; exact Heap.get?_push_of_some _ x
 show _ /\ _
 exact ⟨⟨_, q5, rfl⟩, fin m5 q5 (k5 _ _ (k4 _ _ q3)) (k5 _ _ q4) ⟨_, k5 _ _ (k4 _ _ (k3 _ _ (k2 _ _ q1))), rfl, rfl⟩ ⟨_, k5 _ _ (k4 _ _ (k3 _ _ q2)), rfl, rfl⟩ fun c o x => k5 _ _ (k4 _ _ (k3 _ _ (k2 _ _ (k1 _ _ x))))⟩
end
section
variable {X : Cx} {pins : List (Addr × Obj)} {Z : St} {H : Hp} {s : Shared} {h' : Heap}
theorem qea {ch : List Addr} {T : Addr} {o : HO} {t' : Nat} (I : Inv X pins Z H s) (k : ∀ b u, b ∉ ch -> s.heap.get? b = some u -> h'.get? b = some u) (hf : ∀ b ∈ ch, qeE X pins H b) (hT : s.heap.objs.size <= T) (new : yY X.prog X.w (upd H T o) h' T o) :
  Inv X pins Z (upd H T o) { s with heap := h', toks := t' } := by
 have hn : H T = none := I.hok.fresh hT
 have nch : ∀ b u, H b = some u -> b ∉ ch := fun b u e z => by rw [(hf b z).1] at e; cases e
 refine I.step (g' := s.gens) (d' := s.drawn) (ch := ch) (fun b hb => ⟨(hf b hb).2.2.2.1, (hf b hb).2.1, (hf b hb).2.2.2.2.1, (hf b hb).2.2.2.2.2⟩) (fun b u _ _ hc e _ => k b u hc e) (fun b u _ _ hc e _ => ⟨u.slots, k b u hc e⟩) (fun b u hc e n => ?_)
  (fun b u hc e => ⟨u, k b u hc e⟩) (fun b xs e => by rw [qJ (zn e hn)]; exact e) (fun b u xs e => by rw [qJ (zn e hn)]; exact e) (fun b ps e => ⟨#[], by rw [qJ (zn e hn), e]; simp⟩) (fun m hm => ?_) (fun b u e => ?_) I.bare
 ·rw [qJ (Nat.ne_of_lt (Nat.lt_of_lt_of_le (Heap.lt_size e) hT))]; exact n
 ·obtain ⟨ob, es, ep, ho, r⟩ := hm
  exact ⟨ob, es, ep, k _ ob (fun z => (hf _ z).2.1 rfl) ho, r⟩
 ·by_cases hb : b = T
  ·subst hb; rw [qA] at e; cases e; exact new
  ·rw [qJ hb] at e
   refine (I.hok b u e).stay (fun c v hc q => k c v ?_ q) (fun c q => by rw [qJ (zn q hn)]; exact q) fun c xs q => by rw [qJ (zn q hn)]; exact q
   rcases hc with z | z
   ·rw [z]; exact nch b u e
   ·exact nch c _ z
theorem qeb {ch : List Addr} {t' : Nat} (I : Inv X pins Z H s) (k : ∀ b u, b ∉ ch -> s.heap.get? b = some u -> h'.get? b = some u) (hf : ∀ b ∈ ch, qeE X pins H b) : Inv X pins Z H { s with heap := h', toks := t' } := by
 have nch : ∀ b u, H b = some u -> b ∉ ch := fun b u e z => by rw [(hf b z).1] at e; cases e
 refine I.step (g' := s.gens) (d' := s.drawn) (ch := ch) (fun b hb => ⟨(hf b hb).2.2.2.1, (hf b hb).2.1, (hf b hb).2.2.2.2.1, (hf b hb).2.2.2.2.2⟩) (fun b u _ _ hc e _ => k b u hc e) (fun b u _ _ hc e _ => ⟨u.slots, k b u hc e⟩) (fun b u hc e n => n)
  (fun b u hc e => ⟨u, k b u hc e⟩) (fun b xs e => e) (fun b u xs e => e) (fun b ps e => ⟨#[], by rw [e]; simp⟩) (fun m hm => ?_) (fun b u e => ?_) I.bare
 ·obtain ⟨ob, es, ep, ho, r⟩ := hm
  exact ⟨ob, es, ep, k _ ob (fun z => (hf _ z).2.1 rfl) ho, r⟩
 ·refine (I.hok b u e).stay (fun c v hc q => k c v ?_ q) (fun c q => q) fun c xs q => q
  rcases hc with z | z
  ·rw [z]; exact nch b u e
  ·exact nch c _ z
end
def Itz (K : Fr0) (a1 a2 : Addr) (xs ys : List V) : It :=
 ⟨fun i H => i < min xs.length ys.length /\ SqT K H a1 xs /\ SqT K H a2 ys, fun i H x H' => ∃ p u v, H p = none /\ xs[i]? = some u /\ ys[i]? = some v /\ x = .ref p /\ H' = upd H p (.tup [u, v]), fun i H => i = min xs.length ys.length /\ SqT K H a1 xs /\ SqT K H a2 ys⟩
def ZSt (z TI TO i1 i2 a1 a2 : Addr) (i : Nat) (h : Heap) : Prop := IsZip h z TI TO .none /\ IsPair h TI (.ref i1) (.ref i2) /\ (∃ p q, IsPair h TO p q) /\ h.IsTupleIter i1 a1 i /\ h.IsTupleIter i2 a2 i
theorem qiL {P : Program} {w : World} {K : Fr0} {es : List Expr} {kk : Nat} {pos : Pos} {z TI TO i1 i2 a1 a2 : Addr} {xs ys : List V} (ap : ZAp z TI TO i1 i2 [i1, a1] [i2, a2]) (n1 : a1 ≠ i1) (n2 : a2 ≠ i2) :
  qjz P w K (.Tuple es kk pos) (Itz K a1 a2 xs ys) [z, TI, TO, i1, i2] z (ZSt z TI TO i1 i2 a1 a2) where
 mem := by simp
 obj := fun i h st b hb => by
  obtain ⟨h1, h2, ⟨p, q, h3⟩, ⟨o4, h4, c4, d4⟩, ⟨o5, h5, c5, d5⟩⟩ := st
  simp only [List.mem_cons, nN_, or_false] at hb
  rcases hb with rfl | rfl | rfl | rfl | rfl
  ·exact ⟨_, h1, fun v e => by cases (show Data.fields _ = Data.cell v from e)⟩
  ·exact ⟨_, h2, fun v e => by cases (show Data.seq _ _ = Data.cell v from e)⟩
  ·exact ⟨_, h3, fun v e => by cases (show Data.seq _ _ = Data.cell v from e)⟩
  ·exact ⟨_, h4, fun v e => by rw [d4] at e; cases e⟩
  ·exact ⟨_, h5, fun v e => by rw [d5] at e; cases e⟩
 keep := fun i h h' st k => by
  obtain ⟨h1, h2, ⟨p, q, h3⟩, h4, h5⟩ := st
  exact ⟨k z (by simp) _ h1, k TI (by simp) _ h2, ⟨p, q, k TO (by simp) _ h3⟩, h4.at fun o e => k i1 (by simp) o e, h5.at fun o e => k i2 (by simp) o e⟩
 item := by
  intro X hP hw hK hc i pins s Z H E I hf st hg
  subst hP hw hK
  obtain ⟨hlt, hx, hy⟩ := hg
  obtain ⟨h1, h2, ⟨p, q, h3⟩, h4, h5⟩ := st
  obtain ⟨it1, r1, p1, z1⟩ := I.tuple hx
  obtain ⟨it2, r2, p2, z2⟩ := I.tuple hy
  have l1 : i < it1.toArray.size := by rw [sT_, <- r1.length]; omega
  have l2 : i < it2.toArray.size := by rw [sT_, <- r2.length]; omega
  have hT : s.TypeIs (.ref z) "zip" := ⟨_, h1, rfl⟩
  have hh : X.A.in1.handled = none := I.ok.hd hc
  unfold pyNext
  refine wpAny_bind (wpAny_attempt (wpAny_callSpecial?_slot (name := Str.ofString "__next__") hT F.slot_zip_next (wpAny_call_entry F.slot_zip_next hT F.entry_zip_next
   (qmQ (vX hh i1 a1 n1 it1.toArray) (vX hh i2 a2 n2 it2.toArray) ap h1 h2 h3 ⟨h4, p1⟩ ⟨h5, p2⟩ l1 l2 fun x y h' tk px py zz zO u1 u2 new kp => wpAny_pure ?_) (F.args_zip_next_1 _))))
  refine ⟨.ref s.heap.objs.size, rfl, wpAny_letOwnedTupleGo_zip zz fun h2' zz2 sb => ?_⟩
  obtain ⟨xv, hxv⟩ : ∃ v, xs[i]? = some v := ⟨xs[i]'(by omega), gG (by omega)⟩
  obtain ⟨yv, hyv⟩ : ∃ v, ys[i]? = some v := ⟨ys[i]'(by omega), gG (by omega)⟩
  obtain ⟨x', ex, rx⟩ := r1.get hxv
  obtain ⟨y', ey, ry⟩ := r2.get hyv
  have exx : x' = x := by
   have : it1.toArray[i]? = some x := px
   rw [List.getElem?_toArray, ex] at this
   exact Option.some.inj this
  have eyy : y' = y := by
   have : it2.toArray[i]? = some y := py
   rw [List.getElem?_toArray, ey] at this
   exact Option.some.inj this
  subst exx eyy
  have lz : z < s.heap.objs.size := Heap.lt_size h1
  have keep : ∀ b u, b ∉ [z, TI, TO, i1, i2] -> s.heap.get? b = some u -> h2'.get? b = some u := fun b u hb e => by
   simp only [List.mem_cons, nN_, or_false, not_or] at hb
   exact sb.extBut _ _ hb.1 (kp b u hb.1 hb.2.2.1 hb.2.2.2.1 hb.2.2.2.2 e)
  have I2 : Inv X pins Z (upd H s.heap.objs.size (.tup [xv, yv])) { s with heap := h2', toks := tk } :=
   qea I keep hf (Nat.le_refl _) ⟨by show 2 <= sizeLine; decide, [x', y'], .cons rx (.cons ry .nil), ⟨_, sb.extBut _ _ (Nat.ne_of_gt lz) new, rfl, _, rfl⟩⟩
  refine ⟨.ref s.heap.objs.size, upd H s.heap.objs.size (.tup [xv, yv]), I2, rfl, ⟨s.heap.objs.size, xv, yv, I.hok.fresh (Nat.le_refl _), hxv, hyv, rfl, rfl⟩, ?_, fun b hb => ?_⟩
  ·exact ⟨zz2, sb.extBut _ _ ap.zTI.symm (kp _ _ ap.zTI.symm ap.IO ap.Ii1 ap.Ii2 h2), ⟨_, _, sb.extBut _ _ ap.zTO.symm zO⟩, u1.1.at fun o e => sb.extBut _ _ ap.zi1.symm e, u2.1.at fun o e => sb.extBut _ _ ap.zi2.symm e⟩
  ·have hb1 : b ≠ s.heap.objs.size := by
    simp only [List.mem_cons, nN_, or_false] at hb
    obtain ⟨o4, g4, _⟩ := h4
    obtain ⟨o5, g5, _⟩ := h5
    rcases hb with rfl | rfl | rfl | rfl | rfl
    ·exact Nat.ne_of_lt (Heap.lt_size h1)
    ·exact Nat.ne_of_lt (Heap.lt_size h2)
    ·exact Nat.ne_of_lt (Heap.lt_size h3)
    ·exact Nat.ne_of_lt (Heap.lt_size g4)
    ·exact Nat.ne_of_lt (Heap.lt_size g5)
   rw [qJ hb1]
   exact (hf b hb).1
 done := by
  intro X hP hw hK hc i pins s Z H E I hf st hg
  subst hP hw hK
  obtain ⟨hlt, hx, hy⟩ := hg
  obtain ⟨h1, h2, ⟨p, q, h3⟩, h4, h5⟩ := st
  obtain ⟨it1, r1, p1, z1⟩ := I.tuple hx
  obtain ⟨it2, r2, p2, z2⟩ := I.tuple hy
  have hT : s.TypeIs (.ref z) "zip" := ⟨_, h1, rfl⟩
  have hh : X.A.in1.handled = none := I.ok.hd hc
  unfold pyNext
  refine wpAny_bind (wpAny_attempt (wpAny_callSpecial?_slot (name := Str.ofString "__next__") hT F.slot_zip_next (wpAny_call_entry F.slot_zip_next hT F.entry_zip_next
   (qiJ hh (vX hh i1 a1 n1 it1.toArray) (vX hh i2 a2 n2 it2.toArray) ap h1 h2 h3 ⟨h4, p1⟩ ⟨h5, p2⟩ (by rw [sT_, sT_, <- r1.length, <- r2.length]; exact hlt) fun h' tk e kp he => ?_) (F.args_zip_next_1 _))))
  obtain ⟨o, ho, hcl⟩ := he
  refine wpAny_bind (wpAny_isInstance (T := "StopIteration") (b := true) ⟨o, ho, hcl⟩ isSubtype_stop (wpAny_pure ⟨rfl, qeb I (fun b u hb e => ?_) hf⟩))
  simp only [List.mem_cons, nN_, or_false, not_or] at hb
  exact kp b u hb.1 hb.2.2.1 hb.2.2.2.1 hb.2.2.2.2 e
 self := fun A i s Q E st h => wpAny_pyIter_zip st.1 h
section
variable {X : Cx} {c : Fc} {a b e : Expr} {pos : Pos} {es : List Expr} {kk : Nat} {tp : Pos}
theorem qk2 (n l1 l2 : Nat) (h1 : l1 < n) (h2 : l2 < n) : ZAp (n + 4) (n + 2) (n + 3) n (n + 1) [n, l1] [n + 1, l2] := by
 refine ⟨?_, ?_, ?_, ?_, ?_, ?_, ?_, ?_, ?_, ?_, ?_, ?_, ?_, ?_, ?_, ?_⟩ <;> simp only [List.mem_cons, nN_, or_false, not_or, ne_eq] <;> (unfold Addr at *) <;> omega
def qpB (K : Fr0) (ta : TA) : TI := fun Z H R => ta Z H fun vs H1 => ∃ a1 a2 xs ys, vs = [.ref a1, .ref a2] /\ SqT K H1 a1 xs /\ SqT K H1 a2 ys /\ R (Itz K a1 a2 xs ys) H1
theorem qmR {ta : TA} {p : Pos} (hg : Gl X "zip") (hm : X.mg "zip" = none) (ha : PA X [a, b] ta) (hs : starEach [a, b] X.env = [(false, eval a X.env), (false, eval b X.env)] := by rfl) (hs2 : starEach [b] X.env = [(false, eval b X.env)] := by rfl) :
  PI X (.Tuple es kk tp) (.Call (.Name "zip" p) [a, b] [] pos) (qpB X.K ta) := by
 intro pins s Z H R I h
 refine Call_ (wm I hg hm PyProof.Rows.boot_zip (PyProof.Rows.callWith_type1 (thn (ha pos pins s Z H _ I h) fun us s1 ⟨vs, H1, I1, r1, q1⟩ => ?_) (by rw [hs, hs2]) (by rw [hs2]; rfl)))
 obtain ⟨a1, a2, xs, ys, e1, hx, hy, q⟩ := q1
 subst e1
 obtain ⟨u1, u2, rfl, ru1, ru2⟩ := zD.two r1
 cases (show u1 = Value.ref a1 from ru1)
 cases (show u2 = Value.ref a2 from ru2)
 obtain ⟨it1, v1, p1, z1⟩ := I1.tuple hx
 obtain ⟨it2, v2, p2, z2⟩ := I1.tuple hy
 refine qiK (show s1.heap.IsTuple a1 it1.toArray from p1) (show s1.heap.IsTuple a2 it2.toArray from p2) fun h' zz zI zO g1 g2 kp => ?_
 refine wpAny_pyIter_zip zz ?_
 have la1 : a1 < s1.heap.objs.size := by obtain ⟨o, e, _⟩ := p1; exact Heap.lt_size e
 have la2 : a2 < s1.heap.objs.size := by obtain ⟨o, e, _⟩ := p2; exact Heap.lt_size e
 have ap : ZAp (s1.heap.objs.size + 4) (s1.heap.objs.size + 2) (s1.heap.objs.size + 3) s1.heap.objs.size (s1.heap.objs.size + 1) [s1.heap.objs.size, a1] [s1.heap.objs.size + 1, a2] := by
  exact qk2 _ _ _ la1 la2
 refine ⟨s1.heap.objs.size + 4, [s1.heap.objs.size + 4, s1.heap.objs.size + 2, s1.heap.objs.size + 3, s1.heap.objs.size, s1.heap.objs.size + 1], _, _, H1, rfl, I1.kept (t' := s1.toks) kp, qiL (xs := xs) (ys := ys) ap (Nat.ne_of_lt la1) (Nat.ne_of_lt (Nat.lt_succ_of_lt la2)), ⟨zz, zI, ⟨_, _, zO⟩, g1, g2⟩, fun b hb => ?_, q⟩
 simp only [List.mem_cons, nN_, or_false] at hb
 have hb2 : s1.heap.objs.size <= b := by
  rcases hb with e | e | e | e | e <;> rw [e]
  ·exact Nat.le_add_right _ _
  ·exact Nat.le_add_right _ _
  ·exact Nat.le_add_right _ _
  ·exact Nat.le_refl _
  ·exact Nat.le_add_right _ _
 exact I1.fpOk hb2 (I1.hok.fresh hb2)
def qaT : List D -> List D -> List D
 | x :: xs, y :: ys => .tup [x, y] :: qaT xs ys
 | _, _ => []
theorem qeR : ∀ {xs ys : List D} {i : Nat} {d : D}, (qaT xs ys)[i]? = some d -> ∃ x y, xs[i]? = some x /\ ys[i]? = some y /\ d = .tup [x, y]
 | [], _, _, _, h => by simp [qaT] at h
 | _ :: _, [], _, _, h => by simp [qaT] at h
 | x :: xs, y :: ys, 0, d, h => by
  have : D.tup [x, y] = d := by simpa [qaT] using h
  exact ⟨x, y, rfl, rfl, this.symm⟩
 | x :: xs, y :: ys, i + 1, d, h => by
  obtain ⟨u, v, h1, h2, h3⟩ := qeR (xs := xs) (ys := ys) (i := i) (d := d) (by simpa [qaT] using h)
  exact ⟨u, v, by simpa using h1, by simpa using h2, h3⟩
theorem qct : ∀ (xs ys : List D), (qaT xs ys).length = min xs.length ys.length
 | [], ys => by simp [qaT]
 | _ :: _, [] => by simp [qaT]
 | x :: xs, y :: ys => by simp [qaT, qct xs ys]
theorem qmS {K : Fr0} {A : Addr -> Prop} {H : Hp} {ds es : List D} {xs ys : List V} {a1 a2 : Addr} (t1 : ur K H a1 xs) (t2 : ur K H a2 ys) (i1 : IsL K A H ds xs) (i2 : IsL K A H es ys) : qgP K A H (qaT ds es) (Itz K a1 a2 xs ys) where
 go := fun H' i d ex hd => by
  have hl : i < (qaT ds es).length := (gI_.mp hd).1
  rw [qct, <- i1.length, <- i2.length] at hl
  exact ⟨hl, (t1.elim (fun h => .inl (ex.tup _ _ h)) .inr : ur K H' a1 xs).sq, (t2.elim (fun h => .inl (ex.tup _ _ h)) .inr : ur K H' a2 ys).sq⟩
 yl := fun H' i d x H'' ex hd y => by
  obtain ⟨p, u, v, hp, hu, hv, rfl, rfl⟩ := y
  obtain ⟨dx, dy, h1, h2, rfl⟩ := qeR hd
  obtain ⟨u', g1, g2⟩ := i1.get h1
  obtain ⟨v', g3, g4⟩ := i2.get h2
  rw [hu] at g1
  rw [hv] at g3
  cases g1
  cases g3
  have sm := qy hp (.tup [u, v])
  exact ⟨sm, p, [u, v], rfl, .inl qA, u, [v], rfl, Is.ext (Ext.of_same sm) (fun _ h _ => h) (Is.ext ex (fun _ h _ => h) g2), v, [], rfl, Is.ext (Ext.of_same sm) (fun _ h _ => h) (Is.ext ex (fun _ h _ => h) g4), rfl⟩
 stop := fun H' ex => ⟨by rw [qct, i1.length, i2.length], (t1.elim (fun h => .inl (ex.tup _ _ h)) .inr : ur K H' a1 xs).sq, (t2.elim (fun h => .inl (ex.tup _ _ h)) .inr : ur K H' a2 ys).sq⟩
def qlR : List D -> Option (List D)
 | [.tup xs, .tup ys] => some (qaT xs ys)
 | _ => none
def qlS (f : M (List D)) : M (List D) := bnd f fun ds => lift (qlR ds)
theorem qjN {f : M (List D)} {p : Pos} (hg : Gl X "zip") (hm : X.mg "zip" = none) (ha : DA X c [a, b] f) (hs : starEach [a, b] X.env = [(false, eval a X.env), (false, eval b X.env)] := by rfl) (hs2 : starEach [b] X.env = [(false, eval b X.env)] := by rfl) :
  DI X c (.Tuple es kk tp) (.Call (.Name "zip" p) [a, b] [] pos) (qlS f) := by
 obtain ⟨t, pa, w⟩ := ha
 refine ⟨_, qmR hg hm pa hs hs2, fun U Z H Q r h => w U Z H _ r (WpL.bndI h fun ds U1 vs H1 r1 i1 g1 h1 => ?_)⟩
 obtain ⟨es', e, h2⟩ := uW h1
 unfold qlR at e
 split at e
 ·obtain ⟨v, u, rfl, j1, j2⟩ := IsL.inv2 i1
  cases e
  obtain ⟨a1, xs, rfl, t1, il1⟩ := Is.tr j1
  obtain ⟨a2, ys, rfl, t2, il2⟩ := Is.tr j2
  exact ⟨a1, a2, xs, ys, rfl, t1.sq, t2.sq, h2 _ H1 r1 (qmS t1 t2 il1 il2) .refl⟩
 ·cases e
end
theorem qcu : fillsNumberSlot (.type "tuple") "mul" = pure false := by
 first | kernel_rfl | (unfold fillsNumberSlot; kernel_rfl) | decide +kernel
theorem qfS : seqRepeat? (.type "tuple") = pure (some (.builtin "tuple.__mul__")) := by
 first | kernel_rfl | (unfold seqRepeat?; kernel_rfl) | decide +kernel
theorem qdi (a : Int) (t : Tok) (l : Addr) (dd : Option Addr) (items : Array Value) (n : Nat) (sl : Array (Option Value)) :
  Meets (Builtin.«int.__rmul__» ⟨[.int a t, .ref l], []⟩) (fun _ R s => s.heap.get? l = some { cls := .type "tuple", dict := dd, data := .seq items n, slots := sl } /\ R (.ok (.ret .notImplemented)) s) :=
 .of_wp fun prog w A R s h => by
  obtain ⟨hp, g, d, tk, os⟩ := s
  obtain ⟨hl, h⟩ := h
  wp_walk using wpAny_loadPart' hl
  exact ⟨_, rfl, h⟩
theorem qmT (l : Addr) (dd : Option Addr) (items : Array Value) (n : Nat) (sl : Array (Option Value)) (k : Int) (t : Tok) (h0 : ¬ items.isEmpty = true) (h1 : ¬ (k == 1) = true) (h2 : ¬ k <= 0) (h3 : ¬ (decide (k < -(2 ^ 63)) || decide (k >= 2 ^ 63)) = true)
  (h4 : ¬ (items.size : Int) * k > (2 ^ 63 - 1) / 8) (h5 : ¬ Builtin.Tuple.tupleTooMany ((items.size : Int) * k) = true) (h6 : ((List.replicate k.toNat items).foldl (· ++ ·) #[]).size <= sizeLine) :
  Meets (Builtin.«tuple.__mul__» ⟨[.ref l, .int k t], []⟩) (fun _ R s => s.heap.get? l = some { cls := .type "tuple", dict := dd, data := .seq items n, slots := sl } /\
   R (.ok (.ret (.ref s.heap.objs.size))) { s with heap := s.heap.push { cls := .type "tuple", data := .seq ((List.replicate k.toNat items).foldl (· ++ ·) #[]) } }) :=
 .of_wp fun prog w A R s h => by
  obtain ⟨hp, g, d, tk, os⟩ := s
  obtain ⟨hl, h⟩ := h
  have f1 := AutoSeq1.idx_int
  have f2 := AutoSeq1.sub_tuple_tuple
  have h01 : ¬ (items.isEmpty || k == 1) = true := by simp only [Bool.or_eq_true, not_or]; exact ⟨h0, h1⟩
  have h02 : ¬ (decide (k <= 0) || items.isEmpty) = true := by simp only [Bool.or_eq_true, decide_eq_true_eq, not_or]; exact ⟨h2, h0⟩
  wp_walk using wpAny_loadPart' hl
  rw [if_neg h3]
  wp_walk using wpAny_loadPart' hl
  rw [if_neg h4]
  wp_walk using wpAny_loadPart' hl
  exact ⟨_, rfl, h⟩
section
variable {X : Cx}
def qmU (K : Fr0) : R2 := fun x y H Q => ∃ a xs k, x = .ref a /\ y = .int k /\ SqT K H a xs /\ xs ≠ [] /\ 2 <= k /\ xs.length * k.toNat <= sizeLine /\ ∀ p, H p = none -> Q (.ref p) (upd H p (.tup (List.replicate k.toNat xs).flatten))
theorem qk3 : OpR X (binaryOp .Mult) (qmU X.K) := by
 intro pins s Z H x y v u Q I rx ry h
 obtain ⟨a, xs, k, rfl, rfl, hx, hne, hk, hz, q⟩ := h
 cases rx
 obtain ⟨t, rfl⟩ := ry
 obtain ⟨its, r, p1, _⟩ := I.tuple hx
 obtain ⟨⟨cls, dd, data, sl⟩, ho, hc, n, hd⟩ := id p1
 simp only at hc hd
 subst hc hd
 have hl := r.length
 have hnew : List.foldl (fun x1 x2 => x1 ++ x2) #[] (List.replicate k.toNat its.toArray) = (List.replicate k.toNat its).flatten.toArray := by
  have := qa4 its k.toNat []
  rw [List.nil_append] at this
  exact this
 have hlen : (List.replicate k.toNat its).flatten.length = k.toNat * its.length := qd2 its k.toNat
 have hsl : (sizeLine : Nat) = 16777216 := sizeLine_eq
 have e0 : ¬ its.toArray.isEmpty = true := by
  intro e
  have : its = [] := by simpa using e
  rw [this] at hl
  exact hne (List.length_eq_zero_iff.mp hl)
 have pos1 : 1 <= its.length := by
  cases its with
  | nil => simp at e0
  | cons z zs => simp
 have kk : ((k.toNat : Nat) : Int) = k := Int.toNat_of_nonneg (by omega)
 have mm : (its.toArray.size : Int) * k = ((its.length * k.toNat : Nat) : Int) := by rw [sT_, Int.natCast_mul, kk]
 have zz : its.length * k.toNat <= sizeLine := by rw [<- hl]; exact hz
 have kle : k.toNat <= its.length * k.toNat := Nat.le_mul_of_pos_left _ pos1
 have T1 : s.TypeIs (.ref a) "tuple" := ⟨_, ho, rfl⟩
 refine wpAny_binaryOp_repeat_ref (T := "tuple") (U := "int") (by decide) T1 (fun s' => typeIs_int s' k t) qcu F.fills_int_mul F.slot_int_rmul qfS F.slot_int_index.lookup
  (call_meets F.slot_int_rmul (typeIs_int s k t) F.entry_int_rmul (F.args_int_rmul_2 _ _) (qdi k t a dd its.toArray n sl)
   ⟨ho, rfl, T1, call_meets F.slot_tuple_mul T1 F.entry_tuple_mul (F.args_tuple_mul_2 _ _) (qmT a dd its.toArray n sl k t e0 (by simp; omega) (by omega) (by simp; omega) (by rw [mm]; omega) ?_ (by rw [hnew, sT_, hlen, Nat.mul_comm]; exact zz)) ⟨ho, ?_⟩⟩)
 ·rw [mm]
  show ¬ decide (((its.length * k.toNat : Nat) : Int) > (sizeLine : Int)) = true
  rw [decide_eq_true_eq]
  omega
 ·rw [hnew]
  refine ⟨.ref s.heap.objs.size, _, I.laid (t' := s.toks) (o := .tup (List.replicate k.toNat xs).flatten) (fun b ob q => Heap.get?_push_of_some _ q) (Nat.le_refl _) ?_, rfl, q _ (I.hok.fresh (Nat.le_refl _))⟩
  exact ⟨by rw [qd2, Nat.mul_comm]; exact hz, _, r.rep k.toNat, IsTup.new _ _⟩
def qiM (K : Fr0) : R2 := fun x y H Q => (rI qmi (fun i j => .int (i * j))) x y H Q \/ (qmU K x y H Q \/ qoX x y H Q)
theorem jb : OpR X (binaryOp .Mult) (qiM X.K) := OpR.or qmk (OpR.or qk3 qjD)
end
def y2 : D -> D -> Option D
 | .int i, .int j => if qd4 i j then some (.int (i * j)) else none
 | .tup ds, .int k => if (!ds.isEmpty && decide (2 <= k)) && qZ (ds.length * k.toNat) then some (.tup (List.replicate k.toNat ds).flatten) else none
 | .lst ds, .int k => if (decide (-(2 ^ 62) <= k) && decide (k < 2 ^ 62)) && qZ (ds.length * k.toNat) then some (.lst (List.replicate k.toNat ds).flatten) else none
 | _, _ => none
theorem IsL.rep {K : Fr0} {A : Addr -> Prop} {H : Hp} {ds : List D} {xs : List V} (h : IsL K A H ds xs) : ∀ k : Nat, IsL K A H (List.replicate k ds).flatten (List.replicate k xs).flatten
 | 0 => by simp [IsL]
 | k + 1 => by
  rw [rS_, rS_, List.flatten_cons, List.flatten_cons]
  exact IsL.append h (IsL.rep h k)
theorem zA {K : Fr0} : OpS K y2 (qiM K) := by
 intro A H x y d v u Q hn ix iy e k
 cases x <;> cases y <;> simp only [y2] at e <;> try (cases e; done)
 ·rename_i i j
  obtain ⟨e1, e2⟩ := jN e
  subst e2
  cases ix; cases iy
  exact .inl ⟨i, j, rfl, rfl, qiw e1, k _ H (jY.refl H) rfl⟩
 ·rename_i ds j
  obtain ⟨a, xs, rfl, ta, il⟩ := ix
  cases iy
  obtain ⟨e1, e2⟩ := jN e
  subst e2
  rw [Bool.and_eq_true, Bool.and_eq_true] at e1
  obtain ⟨⟨e3, e4⟩, e5⟩ := e1
  refine .inr (.inl ⟨a, xs, j, rfl, rfl, ta.sq, fun z => ?_, of_decide_eq_true e4, by rw [il.length]; exact of_decide_eq_true e5, fun p hp => k _ _ (qy hp _) ⟨p, _, rfl, .inl qA, IsL.ext (Ext.of_same (qy hp _)) (fun _ h _ => h) (IsL.rep il _)⟩⟩)
  have := il.length
  rw [z] at this
  have : ds = [] := List.length_eq_zero_iff.mp this.symm
  rw [this] at e3
  simp at e3
 ·rename_i ds j
  obtain ⟨a, xs, rfl, _, ta, il⟩ := ix
  cases iy
  obtain ⟨e1, e2⟩ := jN e
  subst e2
  rw [Bool.and_eq_true, Bool.and_eq_true] at e1
  obtain ⟨⟨e3, e4⟩, e5⟩ := e1
  have e3' := of_decide_eq_true e3
  have e4' := of_decide_eq_true e4
  refine .inr (.inr ⟨a, j, xs, rfl, rfl, ta, by omega, by omega, by rw [il.length]; exact of_decide_eq_true e5, fun p hp => k _ _ (qy hp _) ⟨p, _, rfl, hn p hp, qA, IsL.ext (Ext.of_same (qy hp _)) (fun _ h _ => h) (IsL.rep il _)⟩⟩)
def qnU : D -> Option D
 | .int i => some (.int (-i))
 | _ => none
def d1 (F : D -> Option D) (f : M D) : M D := bnd f fun x => lift (F x)
def qk4 (i j : Int) : Bool := decide (0 <= j) && decide (j <= 1000000) && decide (i.natAbs < 2 ^ 64)
def qiN : D -> D -> Option D := qgJ qk4 fun i j => .int (i ^ j.toNat)
theorem qgY {K : Fr0} : OpS K qiN (rI qoT fun i j => .int (i ^ j.toNat)) := qeL (fun i j h => by
 unfold qk4 at h
 rw [Bool.and_eq_true, Bool.and_eq_true] at h
 exact ⟨of_decide_eq_true h.1.1, of_decide_eq_true h.1.2, of_decide_eq_true h.2⟩) fun _ _ _ _ => rfl
section
variable {X : Cx} {c : Fc} {a b e : Expr} {pos : Pos}
theorem qmV {f : M D} (h : DE X c a f) : DE X c (.UnaryOp .USub a pos) (d1 qnU f) := by
 obtain ⟨t, p, w⟩ := h
 refine ⟨_, qod qml p, fun U Z H Q r h => w U Z H _ r (Wp.bnd h fun d U1 v H1 r1 i1 g1 h1 => ?_)⟩
 obtain ⟨d', e, h2⟩ := h1.lift
 cases d <;> simp only [qnU] at e <;> try (cases e; done)
 rename_i i
 cases e
 cases i1
 exact ⟨i, rfl, h2 _ H1 r1 rfl .refl⟩
def qlT (i j : Nat) (f : M (List D)) : MS := sbnd f fun ds U => match ds with
 | [d, e] => .ok (.nx ((U.set i (some d)).set j (some e)))
 | _ => .bad
theorem qmW {i j : Nat} {x y : Str} {f : M (List D)} {px py pt : Pos} {kt k2 pt2} (hN : X.N.Nodup) (ha : DA X c [a, b] f) (hw : swappedStores [.Tuple [.Name x px, .Name y py] kt pt] (.Tuple [a, b] k2 pt2) X.env = pure (some [x, y])) (hc : X.calm = true := by rfl) (hi : X.N[i]? = some x := by rfl) (hj : X.N[j]? = some y := by rfl) (hij : i ≠ j := by decide)
  (hx : X.env.scope.names.lookup x = some .local := by rfl) (hy : X.env.scope.names.lookup y = some .local := by rfl) (ho : i ∉ c.O := by exact of_decide_eq_false rfl) (hp : j ∉ c.O := by exact of_decide_eq_false rfl)
  (hs : swapsWithSole [.Tuple [.Name x px, .Name y py] kt pt] (.Tuple [a, b] k2 pt2) pos.line X.env = pure false := by rfl) :
  DS X c (.Assign [.Tuple [.Name x px, .Name y py] kt pt] (.Tuple [a, b] k2 pt2) pos) (qlT i j f) := by
 obtain ⟨t, p, w⟩ := ha
 refine ⟨_, qmd hc hN hi hj hij hx hy p hw hs, fun U Z H D r h => w U Z H _ r (WpL.sbnd h fun ds U1 vs H1 r1 i1 g1 h1 => ?_)⟩
 match ds, i1, h1 with
 | [], _, h1 => exact h1.elim
 | [_], _, h1 => exact h1.elim
 | [d, e], i1, h1 =>
  obtain ⟨v, u, rfl, j1, j2⟩ := IsL.inv2 i1
  refine ⟨v, u, rfl, h1 _ H1 ((r1.set ho j1).set hp ?_) ((GrS.set ho).trans (GrS.set hp))⟩
  exact (GrS.set (H := H1) ho).is j2
 | _ :: _ :: _ :: _, _, h1 => exact h1.elim
mutual
def immF : D -> Bool
 | .tup ds => immFs ds
 | .lst _ => false
 | .dic _ => false
 | _ => true
def immFs : List D -> Bool
 | [] => true
 | d :: ds => immF d && immFs ds
end
mutual
theorem Is.immF {K : Fr0} {A B : Addr -> Prop} {H : Hp} : ∀ {d : D} {v : V}, immF d = true -> Is K A H d v -> Is K B H d v
 | .non, _, _, h => h
 | .bl _, _, _, h => h
 | .int _, _, _, h => h
 | .str _, _, _, h => h
 | .tup ds, _, i, ⟨a, xs, hv, h, r⟩ => ⟨a, xs, hv, h, IsL.immF (by simpa [Sk.immF] using i) r⟩
 | .lst _, _, i, _ => by simp [Sk.immF] at i
 | .dic _, _, i, _ => by simp [Sk.immF] at i
 | .fz _, _, _, h => h
 | .exc _, _, _, h => h
theorem IsL.immF {K : Fr0} {A B : Addr -> Prop} {H : Hp} : ∀ {ds : List D} {xs : List V}, immFs ds = true -> IsL K A H ds xs -> IsL K B H ds xs
 | [], _, _, h => h
 | d :: ds, _, i, ⟨x, ys, hx, h, r⟩ => by
  have i' : Sk.immF d = true /\ immFs ds = true := by simpa [immFs] using i
  exact ⟨x, ys, hx, Is.immF i'.1 h, IsL.immF i'.2 r⟩
end
def qfT (F : List D -> R D) (g : M (List D)) : M (List D) := bnd g fun ds U => if immFs ds then match F ds with
 | .ok (.lst bs) => if immL bs then .ok (bs, U) else .bad
 | _ => .bad else .bad
theorem qk5 {k : Nat} {f : Addr} {fd : FuncData} {ps : List Str} {F : List D -> R D} {x : Str} {p : Pos} {es : List Expr} {g : M (List D)} (G : qc2 X.prog X.w X.K X.mg X.base CX0 k f fd ps (spD X.K F)) (hr : wn k X.A) (hg : Gl X x) (hm : X.mg x = some (.ref f)) (hk : PySem.W.keepIn X.K (.ref f) = true) (hb : qci X.K fd ps [])
  (ha : DA X c (e :: es) g) (hd : (x == ("__debug__" : Str)) = false := by decide) (he : starEach (e :: es) X.env = (false, eval e X.env) :: starEach es X.env := by rfl) (hpl : (backTo pos (starEach es X.env)).any (·.1) = false := by rfl) : DN X c (.Call (.Name x p) (e :: es) [] pos) (qfT F g) := by
 obtain ⟨t, pa, w⟩ := ha
 refine ⟨_, qd0 G hr hg hm hk hb .nil qkI pa hd he hpl, fun U Z H Q r h => w U Z H _ r (WpL.bndN h fun ds U1 vs H1 r1 i1 g1 h1 => ?_)⟩
 rw [List.append_nil]
 by_cases him : immFs ds = true
 ·rw [if_pos him] at h1
  refine ⟨ds, fun _ => False, IsL.immF him i1, fun _ _ => trivial, ?_⟩
  cases ef : F ds with
  | bad => simp only [ef] at h1; exact h1.elim
  | exc z U' => simp only [ef] at h1; exact h1.elim
  | ok d =>
   cases d with
   | lst bs =>
    simp only [ef] at h1
    by_cases hb2 : immL bs = true
    ·rw [if_pos hb2] at h1
     intro v H' sm i
     obtain ⟨a, xs, rfl, hA, ha2, il⟩ := i
     have hn : H1 a = none := hA.elim False.elim id
     exact h1 a xs H' hn (r1.same sm) (r1.apart_same hn sm) ha2 trivial (IsL.imm hb2 il) (.of_same sm)
    ·rw [if_neg hb2] at h1; exact h1.elim
   | _ => simp only [ef] at h1; exact h1.elim
 ·rw [if_neg him] at h1; exact h1.elim
end
structure qk6 (outer : Scope) (N : List Str) (scope : Scope) (N' : List Str) (nt : Nat) (fr : List Nat) : Prop where
 kind : scope.kind = .function
 nocell : ∀ y ∈ scope.names, y.2 ≠ .cell
 names : ∀ y ∈ scope.names, y.2 = .local -> scope.names.lookup y.1 = some .local
 frees : ∀ y ∈ scope.names, y.2 = .free -> outer.names.lookup y.1 = some .cell
 len : N'.length = nt + fr.length
 slots : ∀ p ∈ fr.zipIdx, N'[nt + p.2]? = N[p.1]? /\ ((N[p.1]?).bind fun x => scope.names.lookup x) = some .free
theorem qk6.ok {X : Cx} {outer : Scope} {N : List Str} {scope : Scope} {N' : List Str} {nt : Nat} {fr : List Nat} (S : qk6 outer N scope N' nt fr) (h1 : X.env.scope = outer) (h2 : X.N = N) : ym X scope N' nt fr := by
 subst h1 h2
 refine ⟨S.kind, S.nocell, S.names, S.frees, S.len, fun i j h => ?_⟩
 have hm : (j, i) ∈ fr.zipIdx := by
  rw [List.mem_iff_getElem?]
  refine ⟨i, ?_⟩
  rw [List.getElem?_zipIdx, h]
  simp
 obtain ⟨h3, h4⟩ := S.slots (j, i) hm
 cases e : X.N[j]? with
 | none =>
  have h4' : ((X.N[j]?).bind fun x => scope.names.lookup x) = some .free := h4
  rw [e] at h4'; cases h4'
 | some x =>
  have h4' : ((X.N[j]?).bind fun x => scope.names.lookup x) = some .free := h4
  rw [e] at h4'
  exact ⟨x, by
    have h3' : N'[nt + i]? = X.N[j]? := h3
    rw [h3', e], rfl, h4'⟩
structure qB (P : Program) (w : World) (K : PySem.W.Frag) (mg : Str -> Option Value) (base : Heap) (k : Nat) (x : Str) (ps : List Str) (sp : Sp) : Prop where
 ex : ∃ f fd, qc2 P w K mg base CX0 k f fd ps sp /\ mg x = some (.ref f) /\ PySem.W.keepIn K (.ref f) = true /\ qci K fd ps []
theorem y3 : bootBuiltins "len" = some (.builtin "len") := by decide +kernel
theorem qdj : bootBuiltins "max" = some (.builtin "max") := by decide +kernel
theorem qeS : bootBuiltins "min" = some (.builtin "min") := by decide +kernel
theorem qeT : bootBuiltins "all" = some (.builtin "all") := by decide +kernel
theorem qmX : bootBuiltins "sum" = some (.builtin "sum") := by decide +kernel
theorem qgZ : bootBuiltins "divmod" = some (.builtin "divmod") := by decide +kernel
theorem qmY : bootBuiltins "int" = some (.type "int") := by decide +kernel
theorem qk7 : bootBuiltins "bool" = some (.type "bool") := by decide +kernel
theorem uY : bootBuiltins "tuple" = some (.type "tuple") := by decide +kernel
theorem jk : bootBuiltins "isinstance" = some (.builtin "isinstance") := by decide +kernel
def yA : MS := fun U => .ok (.nx U)
def qbl : MS := fun _ => .bad
theorem qK {X : Cx} {c : Fc} : DSs X c [] yA := qkL
theorem uH {X : Cx} {c : Fc} {st : Stmt} : DS X c st qbl := qiv
theorem qx {X : Cx} : IxR X (fun x y H Q => qom X.K x y H Q \/ qon X.K x y H Q) := qgC.or qmt
theorem qk8 {c : Fc} {nt : Nat} {fr : List Nat} {i j : Nat} (h1 : j ∈ c.O) (h2 : nt <= i) (h3 : fr[i - nt]? = some j) (h4 : ∀ p ∈ fr.zipIdx, nt + p.2 ≠ i -> p.1 ∉ c.O) : qkW c nt fr (some (i, j)) :=
 ⟨h1, h2, h3, fun k j' h hk => h4 (j', k) (by rw [List.mem_iff_getElem?]; exact ⟨k, by rw [List.getElem?_zipIdx, h]; simp⟩) hk⟩
def eqB (x y : D) : Option D := match sc2 x y with
 | some b => some (.bl b)
 | none => eqA x y
def neB (x y : D) : Option D := match sc2 x y with
 | some b => some (.bl (!b))
 | none => neA x y
theorem qb3 {X : Cx} {k : Nat} (hr : wn k X.A) : OpR X (compareOp .Eq) (fun x y H Q => rEq x y H Q \/ qjM X.K false x y H Q) := OpR.or qof (qmO hr)
theorem wy {X : Cx} {k : Nat} (hr : wn k X.A) : OpR X (compareOp .NotEq) (fun x y H Q => rNe x y H Q \/ qjM X.K true x y H Q) := OpR.or qog (qmP hr)
theorem qap {K : Fr0} : OpS K eqB (fun x y H Q => rEq x y H Q \/ qjM K false x y H Q) := by
 intro A H x y d v u Q hn ix iy e k
 unfold eqB at e
 cases e1 : sc2 x y with
 | some b => simp only [e1] at e; exact .inl (qkM A H x y d v u Q hn ix iy (by unfold eqS; rw [e1]; exact e) k)
 | none => simp only [e1] at e; exact .inr (qkY A H x y d v u Q hn ix iy e k)
theorem uu {K : Fr0} : OpS K neB (fun x y H Q => rNe x y H Q \/ qjM K true x y H Q) := by
 intro A H x y d v u Q hn ix iy e k
 unfold neB at e
 cases e1 : sc2 x y with
 | some b => simp only [e1] at e; exact .inl (qkN A H x y d v u Q hn ix iy (by unfold neS; rw [e1]; exact e) k)
 | none => simp only [e1] at e; exact .inr (qkZ A H x y d v u Q hn ix iy e k)
end L2.Sk
namespace L2.Sk
section
variable {α β : Type} {U : Env} {f g k : M D} {t u : M Bool} {l m : M (List D)} {p q r : MS}
theorem qec (a : α) : ret a U = .ok (a, U) := rfl
theorem qg0 (o : Option α) : lift o U = match o with | some a => .ok (a, U) | none => .bad := by cases o <;> rfl
theorem qor {f : M α} {k : α -> M β} : bnd f k U = match f U with | .ok (a, U') => k a U' | .exc x U' => .exc x U' | .bad => .bad := rfl
theorem qos (i : Nat) : dv i U = match U[i]? with | some (some d) => .ok (d, U) | _ => .bad := rfl
theorem jO : qb f l U = match f U with | .ok (d, U1) => (match l U1 with | .ok (ds, U2) => .ok (d :: ds, U2) | .exc x U' => .exc x U' | .bad => .bad) | .exc x U' => .exc x U' | .bad => .bad := by
 simp only [qb, bnd, sbnd]
 cases f U with
 | ok z =>
  obtain ⟨z1, U1⟩ := z
  simp only [ret]
  cases l U1 with
  | ok z => obtain ⟨z2, U2⟩ := z; rfl
  | exc x U' => rfl
  | bad => rfl
 | exc x U' => rfl
 | bad => rfl
theorem qeU : qa8 l U = match l U with | .ok (ds, U1) => (if qZ ds.length then .ok (.tup ds, U1) else .bad) | .exc x U' => .exc x U' | .bad => .bad := by
 simp only [qa8, bnd, sbnd]
 cases l U with
 | ok z =>
  obtain ⟨z1, U1⟩ := z
  cases h : qZ z1.length <;> simp [h, lift, ret]
 | exc x U' => rfl
 | bad => rfl
theorem qg1 : qcm l U = match l U with | .ok (ds, U1) => (if qZ ds.length then .ok (.lst ds, U1) else .bad) | .exc x U' => .exc x U' | .bad => .bad := by
 simp only [qcm, bnd, sbnd]
 cases l U with
 | ok z =>
  obtain ⟨z1, U1⟩ := z
  cases h : qZ z1.length <;> simp [h, lift, ret]
 | exc x U' => rfl
 | bad => rfl
theorem qjO : qmK l U = match l U with | .ok (ds, U1) => (if immL ds && qZ ds.length then .ok (ds, U1) else .bad) | .exc x U' => .exc x U' | .bad => .bad := by
 simp only [qmK, bnd, sbnd]
 cases l U with
 | ok z =>
  obtain ⟨z1, U1⟩ := z
  cases h : (immL z1 && qZ z1.length) <;> simp [h, lift, ret]
 | exc x U' => rfl
 | bad => rfl
theorem qot (F : D -> D -> Option D) : d2 F f g U = match f U with | .ok (x, U1) => (match g U1 with | .ok (y, U2) => (match F x y with | some d => .ok (d, U2) | none => .bad) | .exc x U' => .exc x U' | .bad => .bad) | .exc x U' => .exc x U' | .bad => .bad := by
 simp only [d2, bnd, sbnd]
 cases f U with
 | ok z =>
  obtain ⟨z1, U1⟩ := z
  dsimp only <;>
  cases g U1 with
  | ok z => obtain ⟨z2, U2⟩ := z; (dsimp only; cases F z1 z2 <;> rfl)
  | exc x U' => rfl
  | bad => rfl
 | exc x U' => rfl
 | bad => rfl
theorem qou (F : D -> Option D) : d1 F f U = match f U with | .ok (x, U1) => (match F x with | some d => .ok (d, U1) | none => .bad) | .exc x U' => .exc x U' | .bad => .bad := by
 simp only [d1, bnd, sbnd]
 cases f U with
 | ok z =>
  obtain ⟨z1, U1⟩ := z
  (dsimp only; cases F z1 <;> rfl)
 | exc x U' => rfl
 | bad => rfl
theorem qaq (F : List D -> Option D) : qT F l U = match l U with | .ok (xs, U1) => (match F xs with | some d => .ok (d, U1) | none => .bad) | .exc x U' => .exc x U' | .bad => .bad := by
 simp only [qT, bnd, sbnd]
 cases l U with
 | ok z =>
  obtain ⟨z1, U1⟩ := z
  (dsimp only; cases F z1 <;> rfl)
 | exc x U' => rfl
 | bad => rfl
theorem vY (F : List D -> R D) : qh F l U = match l U with | .ok (xs, U1) => (match F xs with | .ok d => .ok (d, U1) | _ => .bad) | .exc x U' => .exc x U' | .bad => .bad := by
 simp only [qh, bnd, sbnd]
 cases l U with
 | ok z =>
  obtain ⟨z1, U1⟩ := z
  cases F z1 <;> rfl
 | exc x U' => rfl
 | bad => rfl
theorem qjP (T : String) : qiB T f U = match f U with | .ok (d, U1) => .ok (.bl (qd6 (tyD d) T), U1) | .exc x U' => .exc x U' | .bad => .bad := by
 simp only [qiB, bnd, sbnd]
 cases f U with
 | ok z =>
  obtain ⟨z1, U1⟩ := z
  rfl
 | exc x U' => rfl
 | bad => rfl
theorem qiO : tst f U = match f U with | .ok (d, U1) => (match asB d with | some b => .ok (b, U1) | none => .bad) | .exc x U' => .exc x U' | .bad => .bad := by
 simp only [tst, bnd, sbnd]
 cases f U with
 | ok z =>
  obtain ⟨z1, U1⟩ := z
  (dsimp only; cases asB z1 <;> rfl)
 | exc x U' => rfl
 | bad => rfl
theorem uI (b : Bool) : asB (.bl b) = some b := rfl
theorem qeV : qbb t U = match t U with | .ok (b, U1) => .ok (!b, U1) | .exc x U' => .exc x U' | .bad => .bad := by
 simp only [qbb, bnd, sbnd]
 cases t U with
 | ok z =>
  obtain ⟨z1, U1⟩ := z
  rfl
 | exc x U' => rfl
 | bad => rfl
theorem qeW : qfK t u U = match t U with | .ok (b, U1) => (bif b then u U1 else .ok (false, U1)) | .exc x U' => .exc x U' | .bad => .bad := by
 simp only [qfK, bnd, sbnd]
 cases t U with
 | ok z =>
  obtain ⟨z1, U1⟩ := z
  cases z1 <;> rfl
 | exc x U' => rfl
 | bad => rfl
theorem qiP : tor t u U = match t U with | .ok (b, U1) => (bif b then .ok (true, U1) else u U1) | .exc x U' => .exc x U' | .bad => .bad := by
 simp only [tor, bnd, sbnd]
 cases t U with
 | ok z =>
  obtain ⟨z1, U1⟩ := z
  cases z1 <;> rfl
 | exc x U' => rfl
 | bad => rfl
theorem qg2 : qiu f g U = match f U with | .ok (d, U1) => (match asB d with | some b => (bif b then g U1 else .ok (.bl false, U1)) | none => .bad) | .exc x U' => .exc x U' | .bad => .bad := by
 simp only [qiu, bnd, sbnd]
 cases f U with
 | ok z =>
  obtain ⟨z1, U1⟩ := z
  simp only [qg0]
  cases asB z1 with
  | none => rfl
  | some b => cases b <;> rfl
 | exc x U' => rfl
 | bad => rfl
theorem qiQ : dor f g U = match f U with | .ok (d, U1) => (match asB d with | some b => (bif b then .ok (.bl true, U1) else g U1) | none => .bad) | .exc x U' => .exc x U' | .bad => .bad := by
 simp only [dor, bnd, sbnd]
 cases f U with
 | ok z =>
  obtain ⟨z1, U1⟩ := z
  simp only [qg0]
  cases asB z1 with
  | none => rfl
  | some b => cases b <;> rfl
 | exc x U' => rfl
 | bad => rfl
theorem qjQ : qnT f U = match f U with | .ok (d, U1) => (match asB d with | some b => .ok (.bl (!b), U1) | none => .bad) | .exc x U' => .exc x U' | .bad => .bad := by
 simp only [qnT, bnd, sbnd]
 cases f U with
 | ok z =>
  obtain ⟨z1, U1⟩ := z
  simp only [qg0]
  cases asB z1 with
  | none => rfl
  | some b => cases b <;> rfl
 | exc x U' => rfl
 | bad => rfl
theorem qk9 : dif t f g U = match t U with | .ok (b, U1) => (bif b then f U1 else g U1) | .exc x U' => .exc x U' | .bad => .bad := by
 simp only [dif, bnd, sbnd]
 cases t U with
 | ok z =>
  obtain ⟨z1, U1⟩ := z
  cases z1 <;> rfl
 | exc x U' => rfl
 | bad => rfl
theorem qg3 : sif t p q U = match t U with | .ok (b, U1) => (bif b then p U1 else q U1) | .exc x U' => .exc x U' | .bad => .bad := by
 simp only [sif, bnd, sbnd]
 cases t U with
 | ok z =>
  obtain ⟨z1, U1⟩ := z
  cases z1 <;> rfl
 | exc x U' => rfl
 | bad => rfl
theorem qjR : qG p q U = match p U with | .ok (.nx U') => q U' | z => z := by
 unfold qG
 cases p U with
 | ok z => cases z <;> rfl
 | exc x U' => rfl
 | bad => rfl
theorem qbm : zK f U = match f U with | .ok (d, U1) => .ok (.rt d U1) | .exc x U' => .exc x U' | .bad => .bad := by
 simp only [zK, bnd, sbnd]
 cases f U with
 | ok z =>
  obtain ⟨z1, U1⟩ := z
  rfl
 | exc x U' => rfl
 | bad => rfl
theorem qb4 (i : Nat) : zP i f U = match f U with | .ok (d, U1) => .ok (.nx (U1.set i (some d))) | .exc x U' => .exc x U' | .bad => .bad := by
 simp only [zP, bnd, sbnd]
 cases f U with
 | ok z =>
  obtain ⟨z1, U1⟩ := z
  rfl
 | exc x U' => rfl
 | bad => rfl
theorem qbn (i : Nat) : qan i l U = match l U with | .ok (ds, U1) => .ok (.nx (U1.set i (some (.lst ds)))) | .exc x U' => .exc x U' | .bad => .bad := by
 simp only [qan, bnd, sbnd]
 cases l U with
 | ok z =>
  obtain ⟨z1, U1⟩ := z
  rfl
 | exc x U' => rfl
 | bad => rfl
theorem vw : jg f U = match f U with | .ok (_, U1) => .ok (.nx U1) | .exc x U' => .exc x U' | .bad => .bad := by
 simp only [jg, bnd, sbnd]
 cases f U with
 | ok z =>
  obtain ⟨z1, U1⟩ := z
  rfl
 | exc x U' => rfl
 | bad => rfl
theorem qg4 : yA U = .ok (.nx U) := rfl
theorem qg5 (i j : Nat) : qlT i j l U = match l U with | .ok ([d, e], U1) => .ok (.nx ((U1.set i (some d)).set j (some e))) | .ok _ => .bad | .exc x U' => .exc x U' | .bad => .bad := by
 simp only [qlT, bnd, sbnd]
 cases l U with
 | ok z =>
  obtain ⟨z1, U1⟩ := z
  match z1 with
  | [] => rfl
  | [_] => rfl
  | [_, _] => rfl
  | _ :: _ :: _ :: _ => rfl
 | exc x U' => rfl
 | bad => rfl
theorem qg6 (G : D -> Env -> Option Env) : qlO f G U = match f U with | .ok (d, U1) => (match G d U1 with | some U2 => .ok (.nx U2) | none => .bad) | .exc x U' => .exc x U' | .bad => .bad := by
 simp only [qlO, bnd, sbnd]
 cases f U with
 | ok z =>
  obtain ⟨z1, U1⟩ := z
  dsimp only <;>
  cases G z1 U1 <;> rfl
 | exc x U' => rfl
 | bad => rfl
theorem uJ (G : D -> Env -> Option Env) (b : MS) : qbP l G b U = match l U with | .ok (ds, U1) => yy G b ds U1 | .exc x U' => .exc x U' | .bad => .bad := by
 simp only [qbP, bnd, sbnd]
 cases l U with
 | ok z =>
  obtain ⟨z1, U1⟩ := z
  rfl
 | exc x U' => rfl
 | bad => rfl
theorem qjS : v9 f U = match f U with | .ok (d, U1) => (match qmI d with | some ds => .ok (ds, U1) | none => .bad) | .exc x U' => .exc x U' | .bad => .bad := by
 simp only [v9, bnd, sbnd]
 cases f U with
 | ok z =>
  obtain ⟨z1, U1⟩ := z
  (dsimp only; cases qmI z1 <;> rfl)
 | exc x U' => rfl
 | bad => rfl
theorem qg7 : uF l U = match l U with | .ok (d, U1) => (match qjJ d with | some ds => .ok (ds, U1) | none => .bad) | .exc x U' => .exc x U' | .bad => .bad := by
 simp only [uF, bnd, sbnd]
 cases l U with
 | ok z =>
  obtain ⟨z1, U1⟩ := z
  (dsimp only; cases qjJ z1 <;> rfl)
 | exc x U' => rfl
 | bad => rfl
theorem qeX : qlS l U = match l U with | .ok (d, U1) => (match qlR d with | some ds => .ok (ds, U1) | none => .bad) | .exc x U' => .exc x U' | .bad => .bad := by
 simp only [qlS, bnd, sbnd]
 cases l U with
 | ok z =>
  obtain ⟨z1, U1⟩ := z
  (dsimp only; cases qlR z1 <;> rfl)
 | exc x U' => rfl
 | bad => rfl
theorem qbo {nt : Nat} {fr : List Nat} {fo : Option (Nat × Nat)} {G : D -> Env -> Option Env} {e : M D} : zM nt fr fo l G t e U = match l U with
  | .ok (ds, U1) => (match zL G t e ds [] (jX nt fr U1) with | .ok (ys, Ue) => .ok (.lst ys, qlQ fo Ue U1) | _ => .bad) | .exc x U' => .exc x U' | .bad => .bad := by
 simp only [zM, bnd, sbnd]
 cases l U with
 | ok z =>
  obtain ⟨z1, U1⟩ := z
  dsimp only <;>
  cases zL G t e z1 [] (jX nt fr U1) with
  | ok z => obtain ⟨z2, U2⟩ := z; rfl
  | exc x U' => rfl
  | bad => rfl
 | exc x U' => rfl
 | bad => rfl
theorem qdk (F : List D -> List D -> R (D × List D)) (i : Nat) : qN F i l U = match z0 i U with
  | none => .bad
  | some _ => (match l U with
   | .ok (ds, U1) => (match z0 i U1 with
    | none => .bad
    | some bs => (match F bs ds with | .ok (d, bs') => .ok (d, U1.set i (some (.lst bs'))) | _ => .bad))
   | .exc x U' => .exc x U' | .bad => .bad) := by
 simp only [qN, bnd]
 cases z0 i U with
 | none => rfl
 | some _ =>
  dsimp only <;>
  cases l U with
  | ok z =>
   obtain ⟨z1, U1⟩ := z
   dsimp only <;>
   cases z0 i U1 with
   | none => rfl
   | some bs =>
    dsimp only <;>
    cases F bs z1 with
    | ok z => obtain ⟨z2, z3⟩ := z; rfl
    | exc x U' => rfl
    | bad => rfl
  | exc x U' => rfl
  | bad => rfl
theorem qg8 (F : List D -> R D) : qfT F l U = match l U with
  | .ok (ds, U1) => (if immFs ds then (match F ds with | .ok (.lst bs) => (if immL bs then .ok (bs, U1) else .bad) | _ => .bad) else .bad) | .exc x U' => .exc x U' | .bad => .bad := by
 simp only [qfT, bnd, sbnd]
 cases l U with
 | ok z =>
  obtain ⟨z1, U1⟩ := z
  dsimp only <;>
  cases immFs z1 with
  | false => rfl
  | true =>
   simp only [if_true]
   cases F z1 with
   | ok z => cases z <;> rfl
   | exc x U' => rfl
   | bad => rfl
 | exc x U' => rfl
 | bad => rfl
theorem qdl (i : Nat) : qaL i f U = match z0 i U with
  | none => .bad
  | some _ => (match f U with
   | .ok (k, U1) => (match k, z0 i U1 with
    | .int n, some ds => (match atI ds n with | some d => .ok (d, U1) | none => .bad)
    | _, _ => .bad)
   | .exc x U' => .exc x U' | .bad => .bad) := by
 simp only [qaL, bnd]
 cases z0 i U with
 | none => rfl
 | some _ =>
  dsimp only <;>
  cases f U with
  | ok z =>
   obtain ⟨z1, U1⟩ := z
   dsimp only <;>
   cases z1 <;> cases z0 i U1 <;> try rfl
  | exc x U' => rfl
  | bad => rfl
theorem qed (i : Nat) : qam i k f U = match f U with
  | .ok (d, U1) => (match z0 i U1 with
   | none => .bad
   | some _ => (match k U1 with
    | .ok (j, U2) => (match j, z0 i U2 with
     | .int n, some ds => (match ixN ds.length n with
      | some q => if imm d then .ok (.nx (U2.set i (some (.lst (ds.set q d))))) else .bad
      | none => .bad)
     | _, _ => .bad)
    | .exc x U' => .exc x U' | .bad => .bad))
  | .exc x U' => .exc x U' | .bad => .bad := by
 simp only [qam, bnd, sbnd]
 cases f U with
 | ok z =>
  obtain ⟨z1, U1⟩ := z
  dsimp only <;>
  cases z0 i U1 with
  | none => rfl
  | some _ =>
   dsimp only <;>
   cases k U1 with
   | ok z =>
    obtain ⟨z2, U2⟩ := z
    dsimp only <;>
    cases z2 <;> cases z0 i U2 <;> try rfl
   | exc x U' => rfl
   | bad => rfl
 | exc x U' => rfl
 | bad => rfl
theorem qg9 (i : Nat) : qmL i U = match z0 i U with | some ds => .ok (.int ds.length, U) | none => .bad := by
 unfold qmL
 cases z0 i U <;> rfl
theorem qha (i : Nat) : qfR i U = match z0 i U with | some ds => .ok (.tup ds, U) | none => .bad := by
 unfold qfR
 cases z0 i U <;> rfl
theorem qjT (i : Nat) : qo0 i f U = match z0 i U with
  | none => .bad
  | some _ => (match f U with
   | .ok (y, U1) => (match z0 i U1 with
    | none => .bad
    | some ds => (match neA (.lst ds) y with | some d => .ok (d, U1) | none => .bad))
   | .exc x U' => .exc x U' | .bad => .bad) := by
 simp only [qo0, bnd]
 cases z0 i U with
 | none => rfl
 | some _ =>
  dsimp only <;>
  cases f U with
  | ok z =>
   obtain ⟨z1, U1⟩ := z
   dsimp only <;>
   cases z0 i U1 with
   | none => rfl
   | some ds => (dsimp only; cases neA (.lst ds) z1 <;> rfl)
  | exc x U' => rfl
  | bad => rfl
theorem qbp (i : Nat) : ut i f U = match z0 i U with
  | none => .bad
  | some _ => (match f U with
   | .ok (d, U1) => (match z0 i U1 with
    | some ds => if imm d && qZ (ds.length + 1) then .ok (.non, U1.set i (some (.lst (ds ++ [d])))) else .bad
    | none => .bad)
   | .exc x U' => .exc x U' | .bad => .bad) := by
 simp only [ut, bnd]
 cases z0 i U with
 | none => rfl
 | some _ =>
  dsimp only <;>
  cases f U with
  | ok z =>
   obtain ⟨z1, U1⟩ := z
   dsimp only <;>
   cases z0 i U1 <;> rfl
  | exc x U' => rfl
  | bad => rfl
theorem qmZ {g k : M (Option Int)} : dsl f g k U = match f U with
  | .ok (d, U1) => (match g U1 with
   | .ok (lo, U2) => (match k U2 with
    | .ok (hi, U3) => (match slD d lo hi with | some x => .ok (x, U3) | none => .bad)
    | .exc x U' => .exc x U' | .bad => .bad)
   | .exc x U' => .exc x U' | .bad => .bad)
  | .exc x U' => .exc x U' | .bad => .bad := by
 simp only [dsl, bnd, sbnd]
 cases f U with
 | ok z =>
  obtain ⟨z1, U1⟩ := z
  dsimp only <;>
  cases g U1 with
  | ok z =>
   obtain ⟨z2, U2⟩ := z
   dsimp only <;>
   cases k U2 with
   | ok z => obtain ⟨z3, U3⟩ := z; (dsimp only; cases slD z1 z2 z3 <;> rfl)
   | exc x U' => rfl
   | bad => rfl
  | exc x U' => rfl
  | bad => rfl
 | exc x U' => rfl
 | bad => rfl
theorem qee : qfP f U = match f U with | .ok (.int i, U1) => .ok (some i, U1) | .ok _ => .bad | .exc x U' => .exc x U' | .bad => .bad := by
 simp only [qfP, bnd, sbnd]
 cases f U with
 | ok z =>
  obtain ⟨z1, U1⟩ := z
  cases z1 <;> rfl
 | exc x U' => rfl
 | bad => rfl
end
theorem yB {n : Nat} (h : n <= 1000000) : qZ n = true := by
 unfold qZ
 exact decide_eq_true (Nat.le_trans h (by rw [PySem.sizeLine_eq]; decide))
theorem qla {n p : Nat} {body : MS} {ds : List D} {d : D} {U : Env} (h : ds.length = p) (e : body (wd n ds) = .ok (.rt d U)) : dfn n p body ds = .ok d := by
 unfold dfn; rw [if_pos h, e]
theorem qjU {n p : Nat} {body : MS} {bs ds bs' : List D} {d : D} {U : Env} (h : ds.length + 1 = p) (e : body (wd n (.lst bs :: ds)) = .ok (.rt d U)) (g : z0 0 U = some bs') : qcr n p body bs ds = .ok (d, bs') := by
 unfold qcr; rw [if_pos h, e]; simp only [g]
end L2.Sk
namespace L2.Sk
open PySem PySem.Spec PyProof.Rows
section
variable {prog : Program} {w : World} {A : Around} {E : Value -> Shared -> Prop} {s : Shared}
theorem qhb {l : Addr} {xs : Array Value} {Q : Value -> Shared -> Prop} (t1 : s.heap.IsTuple l xs)
  (fin : ∀ h', IsEnum h' (s.heap.objs.size + 1) s.heap.objs.size 0 .none -> h'.IsTupleIter s.heap.objs.size l 0 -> (∀ c o, s.heap.get? c = some o -> h'.get? c = some o) -> Q (.ref (s.heap.objs.size + 1)) { s with heap := h' }) :
  wpAny (model prog w) A (call (.type "enumerate") [.ref l]) Q E s := by
 have meets : Meets (Builtin.«enumerate.__new__» ⟨[.type "enumerate", .ref l], []⟩) (fun _ R s => s.heap.IsTuple l xs /\
   R (.ok (.ret (.ref (s.heap.objs.size + 1)))) { s with heap := (s.heap.push { cls := .type "tuple_iterator", data := .fields #[.ref l, .int 0 0] }).push { cls := .type "enumerate", data := .fields #[.none, .bool false, .ref s.heap.objs.size, rawInt 0, .none, .none] } }) :=
  .of_wp fun prog w A R s h => by
   obtain ⟨hp, g, d, tk, os⟩ := s
   obtain ⟨ha, h⟩ := h
   have hsub := sub_enumerate
   have hA : Heap.IsTuple (Shared.heap ⟨hp, g, d, tk, os⟩) l xs := ha
   obtain ⟨o, ho, _⟩ := id ha
   have ho' : hp.get? l = some o := ho
   wp_walk using AutoSeq1.wpAny_loadPart' ho'
   refine wpAny_stack_any fun st => wpAny_pure ?_
   split
   ·rename_i c _ _ _ _ _
    cases (c == Value.type "enumerate")
    ·wp_walk using AutoSeq1.wpAny_loadPart' ho', wpAny_pyIter_tuple hA
     simp only [Heap.size_push] at *
     exact ⟨_, rfl, h⟩
    ·wp_walk using AutoSeq1.wpAny_loadPart' ho', wpAny_pyIter_tuple hA
     simp only [Heap.size_push] at *
     exact ⟨_, rfl, h⟩
   ·wp_walk using AutoSeq1.wpAny_loadPart' ho', wpAny_pyIter_tuple hA
    simp only [Heap.size_push] at *
    exact ⟨_, rfl, h⟩
 refine callType_new F.called_enumerate (by decide) (F.typeCall_enumerate_1 _) (F.newCall_enumerate_1 _) (fun obj => F.args_object_init_2 obj _) F.entry_enumerate_new meets ⟨t1, ?_⟩
 generalize e1 : s.heap.push { cls := .type "tuple_iterator", data := .fields #[.ref l, .int 0 0] } = m1
 have s1 : m1.objs.size = s.heap.objs.size + 1 := by rw [<- e1, Heap.size_push]
 have q1 : m1.get? s.heap.objs.size = some { cls := .type "tuple_iterator", data := .fields #[.ref l, .int 0 0] } := by rw [<- e1]; exact Heap.get?_push_size _ rfl
 have k1 : ∀ c o, s.heap.get? c = some o -> m1.get? c = some o := fun c o x => by rw [<- e1]; exact Heap.get?_push_of_some _ x
 generalize e2 : m1.push { cls := .type "enumerate", data := .fields #[.none, .bool false, .ref s.heap.objs.size, rawInt 0, .none, .none] } = m2
 have q2 : m2.get? (s.heap.objs.size + 1) = some { cls := .type "enumerate", data := .fields #[.none, .bool false, .ref s.heap.objs.size, rawInt 0, .none, .none] } := by rw [<- e2, <- s1]; exact Heap.get?_push_size _ rfl
 have k2 : ∀ c o, m1.get? c = some o -> m2.get? c = some o := fun c o x => by rw [<- e2]; exact Heap.get?_push_of_some _ x
 show _ /\ _
 exact ⟨⟨_, q2, rfl⟩, fin m2 q2 ⟨_, k2 _ _ q1, rfl, rfl⟩ fun c o x => k2 _ _ (k1 _ _ x)⟩
end
def Ite (K : Fr0) (a : Addr) (xs : List V) : It :=
 ⟨fun i H => i < xs.length /\ SqT K H a xs, fun i H x H' => ∃ p u, H p = none /\ xs[i]? = some u /\ x = .ref p /\ H' = upd H p (.tup [.int i, u]), fun i H => i = xs.length /\ SqT K H a xs⟩
def ESt (z i1 a1 : Addr) (i : Nat) (h : Heap) : Prop := (∃ old, IsEnum h z i1 i old) /\ h.IsTupleIter i1 a1 i
theorem qhc {P : Program} {w : World} {K : Fr0} {es : List Expr} {kk : Nat} {pos : Pos} {z i1 a1 : Addr} {xs : List V} (zi : z ≠ i1) (za : z ≠ a1) (n1 : a1 ≠ i1) :
  qjz P w K (.Tuple es kk pos) (Ite K a1 xs) [z, i1] z (ESt z i1 a1) where
 mem := by simp
 obj := fun i h st b hb => by
  obtain ⟨⟨old, h1⟩, ⟨o4, h4, c4, d4⟩⟩ := st
  simp only [List.mem_cons, nN_, or_false] at hb
  rcases hb with rfl | rfl
  ·exact ⟨_, h1, fun v e => by cases (show Data.fields _ = Data.cell v from e)⟩
  ·exact ⟨_, h4, fun v e => by rw [d4] at e; cases e⟩
 keep := fun i h h' st k => by
  obtain ⟨⟨old, h1⟩, h4⟩ := st
  exact ⟨⟨old, k z (by simp) _ h1⟩, h4.at fun o e => k i1 (by simp) o e⟩
 item := by
  intro X hP hw hK hc i pins s Z H E I hf st hg
  subst hP hw hK
  obtain ⟨hlt, hx⟩ := hg
  obtain ⟨⟨old, h1⟩, h4⟩ := st
  obtain ⟨it1, r1, p1, z1⟩ := I.tuple hx
  have l1 : i < it1.toArray.size := by rw [sT_, <- r1.length]; omega
  have hh : X.A.in1.handled = none := I.ok.hd hc
  refine wpAny_pyNext_enum_itemD (vX hh i1 a1 n1 it1.toArray) h1 ⟨h4, p1⟩ l1 zi (by simp [zi, za]) fun x h' tk px ho u1 new hsz kp => ?_
  refine ⟨.ref s.heap.objs.size, rfl, wpAny_letOwnedTupleGo_enum ho fun h2' zz2 sb => ?_⟩
  obtain ⟨xv, hxv⟩ : ∃ v, xs[i]? = some v := ⟨xs[i]'(by omega), gG (by omega)⟩
  obtain ⟨x', ex, rx⟩ := r1.get hxv
  have exx : x' = x := by
   have : it1.toArray[i]? = some x := px
   rw [List.getElem?_toArray, ex] at this
   exact Option.some.inj this
  subst exx
  have lz : z < s.heap.objs.size := Heap.lt_size h1
  have keep : ∀ b u, b ∉ [z, i1] -> s.heap.get? b = some u -> h2'.get? b = some u := fun b u hb e => by
   simp only [List.mem_cons, nN_, or_false, not_or] at hb
   exact (sb.2 b hb.1).trans (kp b u hb.1 hb.2 e)
  have I2 : Inv X pins Z (upd H s.heap.objs.size (.tup [.int i, xv])) { s with heap := h2', toks := tk + 1 } :=
   qea I keep hf (Nat.le_refl _) ⟨by show 2 <= sizeLine; decide, [.int i tk, x'], .cons ⟨tk, rfl⟩ (.cons rx .nil), ⟨_, (sb.2 _ (Nat.ne_of_gt lz)).trans new, rfl, _, rfl⟩⟩
  refine ⟨.ref s.heap.objs.size, upd H s.heap.objs.size (.tup [.int i, xv]), I2, rfl, ⟨s.heap.objs.size, xv, I.hok.fresh (Nat.le_refl _), hxv, rfl, rfl⟩, ?_, fun b hb => ?_⟩
  ·exact ⟨⟨_, by simpa using zz2⟩, u1.1.at fun o e => (sb.2 i1 zi.symm).trans e⟩
  ·have hb1 : b ≠ s.heap.objs.size := by
    simp only [List.mem_cons, nN_, or_false] at hb
    obtain ⟨o4, g4, _⟩ := h4
    rcases hb with rfl | rfl
    ·exact Nat.ne_of_lt (Heap.lt_size h1)
    ·exact Nat.ne_of_lt (Heap.lt_size g4)
   rw [qJ hb1]
   exact (hf b hb).1
 done := by
  intro X hP hw hK hc i pins s Z H E I hf st hg
  subst hP hw hK
  obtain ⟨hlt, hx⟩ := hg
  obtain ⟨⟨old, h1⟩, h4⟩ := st
  obtain ⟨it1, r1, p1, z1⟩ := I.tuple hx
  have hh : X.A.in1.handled = none := I.ok.hd hc
  have e : i = it1.toArray.size := by rw [sT_, <- r1.length]; exact hlt
  subst e
  refine wpAny_pyNext_enum_endD (vX hh i1 a1 n1 it1.toArray) h1 ⟨h4, p1⟩ fun h' kp => ⟨rfl, qeb (t' := s.toks) I (fun b u hb e => ?_) hf⟩
  simp only [List.mem_cons, nN_, or_false, not_or] at hb
  exact kp b u hb.2 e
 self := fun A i s Q E st h => by
  obtain ⟨⟨old, h1⟩, _⟩ := st
  exact wpAny_pyIter_enum h1 h
section
variable {X : Cx} {c : Fc} {a b e : Expr} {pos : Pos} {es : List Expr} {kk : Nat} {tp : Pos}
def qov (K : Fr0) (ta : TA) : TI := fun Z H R => ta Z H fun vs H1 => ∃ a1 xs, vs = [.ref a1] /\ SqT K H1 a1 xs /\ R (Ite K a1 xs) H1
theorem qlb {ta : TA} {p : Pos} (hg : Gl X "enumerate") (hm : X.mg "enumerate" = none) (ha : PA X [a] ta) (hs : starEach [a] X.env = [(false, eval a X.env)] := by rfl) :
  PI X (.Tuple es kk tp) (.Call (.Name "enumerate" p) [a] [] pos) (qov X.K ta) := by
 intro pins s Z H R I h
 refine Call_ (wm I hg hm PyProof.Rows.boot_enumerate (PyProof.Rows.callWith_type1 (thn (ha pos pins s Z H _ I h) fun us s1 ⟨vs, H1, I1, r1, q1⟩ => ?_) (by rw [hs]; rfl) (by rfl)))
 obtain ⟨a1, xs, e1, hx, q⟩ := q1
 subst e1
 obtain ⟨u1, rfl, ru1⟩ := zD.one r1
 cases (show u1 = Value.ref a1 from ru1)
 obtain ⟨it1, v1, p1, z1⟩ := I1.tuple hx
 refine qhb (show s1.heap.IsTuple a1 it1.toArray from p1) fun h' zz g1 kp => ?_
 refine wpAny_pyIter_enum zz ?_
 have la1 : a1 < s1.heap.objs.size := by obtain ⟨o, e, _⟩ := p1; exact Heap.lt_size e
 refine ⟨s1.heap.objs.size + 1, [s1.heap.objs.size + 1, s1.heap.objs.size], _, _, H1, rfl, I1.kept (t' := s1.toks) kp, qhc (xs := xs) (Nat.succ_ne_self _) (Nat.ne_of_gt (Nat.lt_succ_of_lt la1)) (Nat.ne_of_lt la1), ⟨⟨_, zz⟩, g1⟩, fun b hb => ?_, q⟩
 simp only [List.mem_cons, nN_, or_false] at hb
 have hb2 : s1.heap.objs.size <= b := by
  rcases hb with e | e <;> rw [e]
  ·exact Nat.le_add_right _ _
  ·exact Nat.le_refl _
 exact I1.fpOk hb2 (I1.hok.fresh hb2)
def uv (k : Nat) : List D -> List D
 | [] => []
 | x :: xs => .tup [.int (k : Nat), x] :: uv (k + 1) xs
theorem vx : ∀ (k : Nat) (xs : List D), (uv k xs).length = xs.length
 | _, [] => rfl
 | k, x :: xs => by simp [uv, vx (k + 1) xs]
theorem qbq : ∀ {xs : List D} {k i : Nat} {d : D}, (uv k xs)[i]? = some d -> ∃ x, xs[i]? = some x /\ d = .tup [.int ((k + i : Nat) : Int), x]
 | [], _, _, _, h => by simp [uv] at h
 | x :: xs, k, 0, d, h => by
  have : D.tup [.int (k : Nat), x] = d := by simpa [uv] using h
  exact ⟨x, rfl, this.symm⟩
 | x :: xs, k, i + 1, d, h => by
  obtain ⟨y, h1, h2⟩ := qbq (xs := xs) (k := k + 1) (i := i) (d := d) (by simpa [uv] using h)
  exact ⟨y, by simpa using h1, by rw [h2]; congr 4; omega⟩
theorem qlc {K : Fr0} {A : Addr -> Prop} {H : Hp} {ds : List D} {xs : List V} {a1 : Addr} (t1 : ur K H a1 xs) (i1 : IsL K A H ds xs) : qgP K A H (uv 0 ds) (Ite K a1 xs) where
 go := fun H' i d ex hd => by
  have hl : i < (uv 0 ds).length := (gI_.mp hd).1
  rw [vx, <- i1.length] at hl
  exact ⟨hl, (t1.elim (fun h => .inl (ex.tup _ _ h)) .inr : ur K H' a1 xs).sq⟩
 yl := fun H' i d x H'' ex hd y => by
  obtain ⟨p, u, hp, hu, rfl, rfl⟩ := y
  obtain ⟨dx, h1, rfl⟩ := qbq hd
  obtain ⟨u', g1, g2⟩ := i1.get h1
  rw [hu] at g1
  cases g1
  have sm := qy hp (.tup [.int i, u])
  exact ⟨sm, p, [.int i, u], rfl, .inl qA, .int i, [u], rfl, by rw [Nat.zero_add]; rfl, u, [], rfl, Is.ext (Ext.of_same sm) (fun _ h _ => h) (Is.ext ex (fun _ h _ => h) g2), rfl⟩
 stop := fun H' ex => ⟨by rw [vx, i1.length], (t1.elim (fun h => .inl (ex.tup _ _ h)) .inr : ur K H' a1 xs).sq⟩
def qiR : List D -> Option (List D)
 | [.tup xs] => some (uv 0 xs)
 | _ => none
def qcv (f : M (List D)) : M (List D) := bnd f fun ds => lift (qiR ds)
theorem qhd {f : M (List D)} {p : Pos} (hg : Gl X "enumerate") (hm : X.mg "enumerate" = none) (ha : DA X c [a] f) (hs : starEach [a] X.env = [(false, eval a X.env)] := by rfl) :
  DI X c (.Tuple es kk tp) (.Call (.Name "enumerate" p) [a] [] pos) (qcv f) := by
 obtain ⟨t, pa, w⟩ := ha
 refine ⟨_, qlb hg hm pa hs, fun U Z H Q r h => w U Z H _ r (WpL.bndI h fun ds U1 vs H1 r1 i1 g1 h1 => ?_)⟩
 obtain ⟨es', e, h2⟩ := uW h1
 unfold qiR at e
 split at e
 ·obtain ⟨v, rfl, j1⟩ := IsL.inv1 i1
  cases e
  obtain ⟨a1, xs, rfl, t1, il1⟩ := Is.tr j1
  exact ⟨a1, xs, rfl, t1.sq, h2 _ H1 r1 (qlc t1 il1) .refl⟩
 ·cases e
end
def vD : D -> V
 | .bl b => .bl b
 | .int i => .int i
 | .str x => .str x
 | _ => .non
def flD : D -> Bool
 | .non => true
 | .bl _ => true
 | .int _ => true
 | .str _ => true
 | _ => false
def sqD : D -> Option (List D)
 | .tup ds => some ds
 | .lst ds => some ds
 | _ => none
def inD (x y : D) : Option D := match sqD y with
 | some ds => if flD x && ds.all flD then some (.bl (ds.any fun d => eqV (vD d) (vD x))) else none
 | none => none
theorem qcw {l : M (List D)} {U : Env} : qcv l U = match l U with | .ok (d, U1) => (match qiR d with | some ds => .ok (ds, U1) | none => .bad) | .exc x U' => .exc x U' | .bad => .bad := by
 simp only [qcv, bnd]
 cases l U with
 | ok z => obtain ⟨z1, U1⟩ := z; (dsimp only; cases qiR z1 <;> rfl)
 | exc x U' => rfl
 | bad => rfl
section
variable {X : Cx} {tg iter elt : Expr} {ifs : List Expr} {scope : Scope} {pos : Pos} {wi : TI} {N' : List Str} {nt : Nat} {fr : List Nat}
theorem qld {i : Nat} {x : Str} {pos' spos : Pos} (hN : X.N.Nodup) (hix : X.N[i]? = some x) (hx : Loc X.env.scope x) (hfx : X.fn x = true \/ X.env.scope.names.lookup x = some .local) (hc : X.calm = true) (hi : PI X tg iter wi) (S : ym X scope N' nt fr)
  (hsw : swapsWith (.ListComp elt [⟨tg, iter, ifs, 0⟩] scope pos) (some (.Name x pos')) spos.line X.env = pure true)
  (hs : ∀ x, foldedSetIterable iter X.env x = pure x := by intro _; rfl) : PS X (.Assign [.Name x pos'] (.ListComp elt [⟨tg, iter, ifs, 0⟩] scope pos) spos) (fun D Z H => qkU X tg ifs elt scope N' wi nt fr Z H fun v H' => D.nx (Z.set i (some v)) H') := by
 intro pins s Z H D I hw
 obtain ⟨cl, hcl, cl1, cl2⟩ := w6 (env := X.env) (scope := scope) (fun y hy hf => I.ok.has y.1 (.inl (S.frees y hy hf)))
 rw [exec_Assign_Name_used _ _ _ _ hsw]
 refine wpAny_bind (wpAny_standAt (wpAny_bind ?_))
 show wpAny (model X.prog X.w) X.A (comprehension (.ListComp elt [⟨tg, iter, ifs, 0⟩] scope pos) scope X.env _ (newList []) false (eval iter X.env) (some (assign (.Name x pos') X.env)) >>= fun _ => pure ()) _ _ s
 refine wpAny_bind (thn (Q := fun _ s' => SP X pins D .next s') ?_ fun _ s' q => wpAny_pure (wpAny_pure q))
 refine wpAny_comprehension_free (use := some (assign (.Name x pos') X.env)) rfl hs hcl S.kind S.names (thn (hi pins s Z H _ I hw) fun v s1 h1 => thn h1 fun itv s2 h2 => ?_)
 obtain ⟨it, fp, tn, J, H2, e, I2, T, st2, f2, hR⟩ := h2
 subst e
 have hacc : H2 s2.heap.objs.size = none := I2.hok.fresh (Nat.le_refl _)
 refine wpAny_newObj_type (wpAny_newFunctionEnv S.nocell (by intro y hy; simp at hy) (fun h₁ hns₁ hsb₁ => ?_) S.kind)
 dsimp only at hns₁ hsb₁ |-
 have I3 : Inv X pins Z (upd H2 s2.heap.objs.size (.lst [])) { s2 with heap := s2.heap.push { cls := .type "list", dict := none, data := .seq ([] : List Value).toArray } } :=
  I2.lnew (t' := s2.toks) (its := []) .nil (Nat.zero_le _)
 generalize hs3 : ({ s2 with heap := s2.heap.push { cls := .type "list", dict := none, data := .seq ([] : List Value).toArray } } : Shared) = s3 at I3
 have hh3 : s2.heap.push { cls := .type "list", dict := none, data := .seq ([] : List Value).toArray } = s3.heap := by rw [<- hs3]
 rw [hh3] at hns₁ hsb₁
 have old : ∀ b o, s3.heap.get? b = some o -> h₁.get? b = some o := fun b o q => hsb₁.extBut b o (Nat.ne_of_lt (Heap.lt_size q)) (Heap.get?_push_of_some _ q)
 have objs2 : ∀ b ∈ fp, ∃ o, s2.heap.get? b = some o := fun b hb => by
  obtain ⟨o, q, _⟩ := T.obj 0 _ st2 b hb
  exact ⟨o, q⟩
 have keep23 : ∀ b o, s2.heap.get? b = some o -> s3.heap.get? b = some o := fun b o q => by rw [<- hh3]; exact Heap.get?_push_of_some _ q
 have fpne : ∀ b ∈ fp, b ≠ s2.heap.objs.size := fun b hb => by
  obtain ⟨o, q⟩ := objs2 b hb
  exact Nat.ne_of_lt (Heap.lt_size q)
 have f3 : ∀ b ∈ fp, qeE X pins (upd H2 s2.heap.objs.size (.lst [])) b := fun b hb => ⟨by rw [qJ (fpne b hb)]; exact (f2 b hb).1, (f2 b hb).2⟩
 have J0 : Inv (z4 X scope N' fp cl s3.heap.objs.size s3 (upd H2 s2.heap.objs.size (.lst [])) (X.pn ++ pins)) [] (qP nt fr Z) (upd H2 s2.heap.objs.size (.lst [])) { s3 with heap := h₁, toks := s3.toks } :=
  qb0 S I3 f3 (fun b hb => (objs2 b hb).imp fun o q => keep23 b o q) cl1 cl2 ⟨_, hns₁⟩ old
 obtain ⟨g, tt, te, hg, hf, he, W, ⟨m0, w0⟩, turn⟩ := hR s2.heap.objs.size fp cl s3.heap.objs.size s3 (upd H2 s2.heap.objs.size (.lst [])) (X.pn ++ pins) hacc
 have T0 : tn 0 h₁ := T.keep 0 _ _ st2 fun b hb o q => old b o (keep23 b o q)
 have s3e : ∀ tk : Nat, ({ s2 with heap := h₁, toks := tk } : Shared) = { s3 with heap := h₁, toks := tk } := fun tk => by rw [<- hs3]
 have loop : ∀ tk : Nat, codeAny (model X.prog X.w) X.A (.compLoop (.ListComp elt [⟨tg, iter, ifs, 0⟩] scope pos) 0 (.ref it) (.ref s2.heap.objs.size) (compEnvC scope cl s3.heap.objs.size X.env))
   (compPost (model X.prog X.w) X.A X.xe (some (assign (.Name x pos') X.env)) (fun _ s' => SP X pins D .next s') (.ref s2.heap.objs.size) s3.heap.objs.size) { s3 with heap := h₁, toks := tk } := fun tk => by
  have stat : ∀ {H' : Hp}, (∀ b ∈ fp, H' b = none) -> ∀ b ∈ fp, qeE (z4 X scope N' fp cl s3.heap.objs.size s3 (upd H2 s2.heap.objs.size (.lst [])) (X.pn ++ pins)) [] H' b := fun {H'} hn b hb => by
   obtain ⟨o, q⟩ := objs2 b hb
   have hbC : b ≠ s3.heap.objs.size := Nat.ne_of_lt (Heap.lt_size (keep23 b o q))
   refine ⟨hn b hb, hbC, fun z => ?_, .inl hb, fun x c hx => (f2 b hb).2.2.2.2.1 x c (cl1 x c hx), fun p hp => ?_⟩
   ·rcases List.mem_cons.mp (I2.stkSub b z) with z | z
    ·exact (f2 b hb).2.1 z
    ·exact (f2 b hb).2.2.1 z
   ·have hp' : p ∈ X.pn ++ pins := by
     rcases mA_.mp (show p ∈ (X.pn ++ pins) ++ [] from hp) with z | z
     ·exact z
     ·cases z
    exact (f2 b hb).2.2.2.2.2 p hp'
  have fr0 : ∀ b ∈ fp, upd H2 s2.heap.objs.size (.lst []) b = none := fun b hb => (f3 b hb).1
  refine qbi (fun n s' => ∃ i Z' H', Inv (z4 X scope N' fp cl s3.heap.objs.size s3 (upd H2 s2.heap.objs.size (.lst [])) (X.pn ++ pins)) [] Z' H' s' /\ tn i s'.heap /\ (∀ b ∈ fp, H' b = none) /\ W i n Z' H') ?_ m0
   ⟨0, qP nt fr Z, _, J0.tok tk, T0, fr0, w0⟩
  rintro n s4 ⟨i, Z4, H4, J4, st4, fr4, w4⟩
  rcases turn i n Z4 H4 w4 with ⟨stop, qn⟩ | ⟨go, step⟩
  ·refine thn (T.done (z4 X scope N' fp cl s3.heap.objs.size s3 (upd H2 s2.heap.objs.size (.lst [])) (X.pn ++ pins)) rfl rfl rfl hc i [] s4 Z4 H4 _ J4 (stat fr4) st4 stop) fun r s5 ⟨hr, J5⟩ => ?_
   subst hr
   obtain ⟨m5, n5, _⟩ := J5.loc
   have I5 : Inv X pins Z H4 s5 := qeQ I3 f3 J5 (Heap.SameBut.refl ..)
   have lC : X.env.locals ≠ s3.heap.objs.size := Nat.ne_of_lt I3.lt
   have cC : ∀ y c, X.env.cells.lookup y = some c -> c ≠ s3.heap.objs.size := fun y c hy => by
    obtain ⟨v, o, ho, _⟩ := I3.cell y c hy
    exact Nat.ne_of_lt (Heap.lt_size ho)
   have pC : ∀ p ∈ X.pn ++ pins, p.1 ≠ s3.heap.objs.size := fun p hp => Nat.ne_of_lt (Heap.lt_size (I3.pin p hp).1)
   refine wpAny_assign_Name (qc1 (v := .ref s2.heap.objs.size) I5 hN hix hx rfl (fun s'' I6 ⟨a, sb, ha⟩ => ?_) hfx)
   have aC : s3.heap.objs.size ≠ a := by
    rcases ha with rfl | ha
    ·exact lC.symm
    ·exact (cC _ _ ha).symm
   exact ⟨m5, n5.sameBut sb aC, fun h' sb' => ⟨_, H4, I6.turned (t' := s''.toks) (fun b o hb q => (sb'.2 b hb).trans q) J5.free lC.symm (.inr I3.sz) cC pC, qn⟩⟩
  ·refine thn (T.item (z4 X scope N' fp cl s3.heap.objs.size s3 (upd H2 s2.heap.objs.size (.lst [])) (X.pn ++ pins)) rfl rfl rfl hc i [] s4 Z4 H4 _ J4 (stat fr4) st4 go) fun r s5 ⟨u, hr, h5⟩ => ?_
   subst hr
   refine thn h5 fun _ s6 ⟨x, H6, J6, r6, y6, st6, fr6⟩ => ?_
   have J6' := J6.pinned (stat fr6) (T.obj _ _ st6)
   have again : ∀ {Z7 : St} {H7 : Hp} {s7 : Shared}, Inv (z4 X scope N' fp cl s3.heap.objs.size s3 (upd H2 s2.heap.objs.size (.lst [])) (X.pn ++ pins)) ([] ++ qbV fp s6.heap) Z7 H7 s7 -> (∃ m', m' < n /\ W (i + 1) m' Z7 H7) ->
     ∃ m, m < n /\ ∃ i Z' H', Inv (z4 X scope N' fp cl s3.heap.objs.size s3 (upd H2 s2.heap.objs.size (.lst [])) (X.pn ++ pins)) [] Z' H' s7 /\ tn i s7.heap /\ (∀ b ∈ fp, H' b = none) /\ W i m Z' H' := fun {Z7 H7 s7} I7 hm => by
    obtain ⟨m', hm, w7⟩ := hm
    refine ⟨m', hm, i + 1, Z7, H7, I7.unpinned, T.keep _ _ _ st6 fun b hb o q => (I7.pin (b, o) (mr_ _ (mr_ _ (yN hb q)))).1, fun b hb => ?_, w7⟩
    obtain ⟨o, q, d⟩ := T.obj _ _ st6 b hb
    exact (I7.pin (b, o) (mr_ _ (mr_ _ (yN hb q)))).2.1
   refine thn (hg _ s6 Z4 H6 x u _ J6' r6 (step x H6 y6)) fun _ s7 ⟨Z7, H7, J7, q7⟩ => ?_
   refine thn (hf _ s7 Z7 H7 _ J7 q7) fun ok s8 ⟨H8, J8, q8⟩ => ?_
   cases ok with
   | false =>
    rw [if_neg Bool.false_ne_true] at q8 |-
    exact again J8 q8
   | true =>
    rw [if_pos rfl] at q8 |-
    refine thn (he _ s8 Z7 H8 _ J8 q8) fun z s9 ⟨y, H9, J9, r9, ys, hys, hz, hm⟩ => ?_
    refine thn (qa5 _ s9 Z7 H9 (.ref s2.heap.objs.size) [y] (.ref s2.heap.objs.size) [z] (fun _ H' => H' = upd H9 s2.heap.objs.size (.lst (ys ++ [y]))) J9 rfl (.cons r9 .nil) ⟨_, ys, y, rfl, rfl, hys, hz, rfl⟩) fun _ s10 ⟨_, H10, J10, _, e10⟩ => ?_
    subst e10
    exact again J10 hm
 have start : ∀ tk : Nat, codeAny (model X.prog X.w) X.A (.compStart (.ListComp elt [⟨tg, iter, ifs, 0⟩] scope pos) 0 (.ref it) (.ref s2.heap.objs.size) (compEnvC scope cl s3.heap.objs.size X.env))
   (compPost (model X.prog X.w) X.A X.xe (some (assign (.Name x pos') X.env)) (fun _ s' => SP X pins D .next s') (.ref s2.heap.objs.size) s3.heap.objs.size) { s3 with heap := h₁, toks := tk } := fun tk =>
  codeAny_compStart_list (loop tk) (T.self X.A 0 _ _ _ T0 (loop tk))
 have fin := start (s2.toks + ([] : List (Str × Value)).length)
 rw [<- s3e] at fin
 rw [<- hh3] at fin
 rw [hh3] at fin |-
 exact fin
end
section
variable {X : Cx} {c : Fc}
def DC (X : Cx) (c : Fc) (tg it elt : Expr) (ifs : List Expr) (scope : Scope) (N' : List Str) (nt : Nat) (fr : List Nat) (f : M D) : Prop := ∃ wi, PI X tg it wi /\ ∀ U Z H Q, Rep X.K c U Z H -> Wp X.K c Z H Q (f U) -> qkU X tg ifs elt scope N' wi nt fr Z H Q
theorem qef {it elt tg : Expr} {ifs : List Expr} {scope : Scope} {N' : List Str} {nt : Nat} {fr : List Nat} {fo : Option (Nat × Nat)} {f : M (List D)} {g : D -> Env -> Option Env} {t : M Bool} {k : M D} (hc : X.calm = true) (hi : DI X c tg it f) (S : ym X scope N' nt fr)
  (hfo : qkW c nt fr fo)
  (hb : ∀ fp cl C s₀ H₀ pn B0 H1 Io' acc S', DG (z4 X scope N' fp cl C s₀ H₀ pn) (cin B0 H1 (foO fo) Io' acc S') tg g /\ DF (z4 X scope N' fp cl C s₀ H₀ pn) (cin B0 H1 (foO fo) Io' acc S') ifs t /\ DE (z4 X scope N' fp cl C s₀ H₀ pn) (cin B0 H1 (foO fo) Io' acc S') elt k)
  : DC X c tg it elt ifs scope N' nt fr (zM nt fr fo f g t k) := by
 obtain ⟨wi, pi, wI⟩ := hi
 refine ⟨wi, pi, fun U Z H Q r h => wI U Z H _ r (WpI.bnd h fun ds U1 J H1 r1 iok g1 h1 => ?_)⟩
 intro acc fp cl C s₀ H₀ pn hn
 obtain ⟨⟨tg', pg, wg⟩, ⟨tt, pt, wt⟩, ⟨te, pe, we⟩⟩ := hb fp cl C s₀ H₀ pn (Cn c Z) H1 (qc0 Z fo) acc fun j => (qP nt fr Z)[j]?
 refine ⟨tg', tt, te, pg, pt, pe, ?_⟩
 cases ew : zL g t k ds [] (jX nt fr U1) with
 | exc x U' => rw [ew] at h1; exact h1.elim
 | bad => rw [ew] at h1; exact h1.elim
 | ok p =>
  rw [ew] at h1
  obtain ⟨ys, Ue⟩ := p
  have h1 : ∀ v H', Rep X.K c (qlQ fo Ue U1) Z H' -> Is X.K (Cn c Z) H' (.lst ys) v -> Gr c.O Z H1 H' -> Q v H' := h1
  have accO : ∀ j ∈ foO fo, (qP nt fr Z)[j]? ≠ some (some (.ref acc)) := fun j hj e => by
   have r0 := r1.entry (acc := acc) hn hfo
   cases fo with
   | none => cases hj
   | some p =>
    obtain ⟨i', j'⟩ := p
    have e2 : j = i' := by simpa [foO] using hj
    subst e2
    obtain ⟨k2, j2, e1, e2, e3⟩ := yP e
    have hk2 : k2 = j - nt := by omega
    subst hk2
    rw [hfo.2.2.1] at e2
    cases e2
    obtain ⟨a, us, e4, e5, _⟩ := r1.own j' hfo.1 _ e3
    cases e4; rw [hn] at e5; cases e5
  refine ⟨fun i m Z' H' => m = ds.length - i /\ i <= ds.length /\ ∃ U' zs xs, Rep X.K (cin (Cn c Z) H1 (foO fo) (qc0 Z fo) acc fun j => (qP nt fr Z)[j]?) U' Z' H' /\ (∀ j ∈ foO fo, Z'[j]? = (qP nt fr Z)[j]?) /\ H' acc = some (.lst xs) /\ IsL X.K (Cn (cin (Cn c Z) H1 (foO fo) (qc0 Z fo) acc fun j => (qP nt fr Z)[j]?) Z') H' zs xs /\ zL g t k (ds.drop i) zs U' = .ok (ys, Ue),
   ⟨ds.length, by simp, Nat.zero_le _, jX nt fr U1, [], [], r1.entry hn hfo, fun _ _ => rfl, qA, rfl, by simpa using ew⟩, ?_⟩
  rintro i m Z' H' ⟨rfl, hi, U', zs, xs, r', so, ha, iz, w⟩
  obtain ⟨_, gr⟩ := r1.leave hn hfo (fun i j e => so i (by rw [e]; simp [foO])) r'
  have ex : Ext (CnT c Z H1) H1 H' := ⟨gr.ext.tup, gr.ext.frz, fun b o hb hq => gr.ext.at_ b o hb.1.2 hq⟩
  have accC : ∀ τ : St, (∀ j ∈ foO fo, τ[j]? = (qP nt fr Z)[j]?) -> Cl (foO fo) τ acc := fun τ hτ j hj e => accO j hj (by rw [<- hτ j hj]; exact e)
  by_cases hlt : i < ds.length
  ·refine .inr ⟨iok.go H' i ds[i] ex (by simp [hlt]), fun x H'' y => ?_⟩
   obtain ⟨sm, ix⟩ := iok.yl H' i ds[i] x H'' ex (by simp [hlt]) y
   rw [qak hlt] at w
   unfold zL at w
   have ix2 : Is X.K (Cn (cin (Cn c Z) H1 (foO fo) (qc0 Z fo) acc fun j => (qP nt fr Z)[j]?) Z') H'' ds[i] x := Is.ext Ext.refl (fun a ha _ => ⟨⟨ha.1, fun e => by
    have := ha.2
    rw [e, hn] at this; cases this⟩, fun j hj e => by
     rw [so j hj] at e
     cases fo with
     | none => cases hj
     | some p =>
      obtain ⟨i', j'⟩ := p
      have e2 : j = i' := by simpa [foO, cin] using hj
      subst e2
      obtain ⟨k2, j2, e1, e2, e3⟩ := yP e
      have hk2 : k2 = j - nt := by omega
      subst hk2
      rw [hfo.2.2.1] at e2
      cases e2
      exact ha.1.2 j' hfo.1 e3⟩) ix
   cases e1 : g ds[i] U' with
   | none => simp only [e1] at w; cases w
   | some U2 =>
    simp only [e1] at w
    refine wg U' Z' H'' ds[i] x U2 _ (r'.same sm) ix2 e1 fun Z2 r2 g2 o2 => ?_
    have so2 : ∀ j ∈ foO fo, Z2[j]? = (qP nt fr Z)[j]? := fun j hj => (o2 j hj).trans (so j hj)
    have ha2 : H'' acc = some (.lst xs) := sm _ _ ha
    have iz2 := g2.isL (IsL.ext (Ext.of_same sm) (fun _ h _ => h) iz)
    cases e2 : t U2 with
    | exc x U3 => simp only [e2] at w; cases w
    | bad => simp only [e2] at w; cases w
    | ok p2 =>
     obtain ⟨bb, U3⟩ := p2
     refine wt U2 Z2 H'' _ r2 ?_
     rw [e2]
     intro H3 r3 g3
     have ha3 : H3 acc = some (.lst xs) := g3.ext.at_ _ _ (accC Z2 so2) ha2
     have iz3 := g3.isL iz2
     cases bb with
     | false =>
      rw [if_neg Bool.false_ne_true]
      simp only [e2] at w
      exact ⟨ds.length - (i + 1), by omega, rfl, hlt, U3, zs, xs, r3, so2, ha3, iz3, w⟩
     | true =>
      rw [if_pos rfl]
      simp only [e2] at w
      cases e3 : k U3 with
      | exc x U4 => simp only [e3] at w; cases w
      | bad => simp only [e3] at w; cases w
      | ok p3 =>
       obtain ⟨d4, U4⟩ := p3
       simp only [e3] at w
       refine we U3 Z2 H3 _ r3 ?_
       rw [e3]
       intro y4 H4 r4 i4 g4
       have ha4 : H4 acc = some (.lst xs) := g4.ext.at_ _ _ (accC Z2 so2) ha3
       have hsz : qZ (zs.length + 1) = true := by
        cases e5 : qZ (zs.length + 1) with
        | true => rfl
        | false => rw [e5] at w; simp at w
       rw [if_pos hsz] at w
       have hsz' : zs.length + 1 <= sizeLine := of_decide_eq_true hsz
       have r5 := r4.grow (ys := xs ++ [y4]) ha4 (fun j hj e => accC Z2 so2 j hj e)
       have ext5 : Ext (Cn (cin (Cn c Z) H1 (foO fo) (qc0 Z fo) acc fun j => (qP nt fr Z)[j]?) Z2) H4 (upd H4 acc (.lst (xs ++ [y4]))) := ⟨fun b us hb => by rw [qJ (wT hb ha4 (by intro z; cases z))]; exact hb, fun b o u hb => by rw [qJ (wT hb ha4 (by intro z; cases z))]; exact hb, fun b o hb hq => by rw [qJ hb.1.2]; exact hq⟩
       refine ⟨xs, ha4, by rw [iz3.length]; omega, ds.length - (i + 1), by omega, rfl, hlt, U4, zs ++ [d4], xs ++ [y4], r5, so2, qA, ?_, w⟩
       exact IsL.append (IsL.ext ext5 (fun _ h _ => h) (g4.isL iz3)) (IsL.one (Is.ext ext5 (fun _ h _ => h) i4))
  ·have hie : i = ds.length := by omega
   subst hie
   rw [List.drop_of_length_le (Nat.le_refl _)] at w
   unfold zL at w
   cases w
   obtain ⟨r6, g6⟩ := r1.leave hn hfo (fun i j e => so i (by rw [e]; simp [foO])) r'
   exact .inl ⟨iok.stop H' ex, h1 _ H' r6 ⟨acc, xs, rfl, r1.new hn, ha, IsL.ext Ext.refl (fun a ha hs => ha.1.1) iz⟩ g6⟩
theorem qeg {i : Nat} {x : Str} {pos' spos pos : Pos} {tg it elt : Expr} {ifs : List Expr} {scope : Scope} {N' : List Str} {nt : Nat} {fr : List Nat} {f : M D} (hN : X.N.Nodup) (h : DC X c tg it elt ifs scope N' nt fr f) (hc : X.calm = true) (S : ym X scope N' nt fr)
  (ho : i ∉ c.O := by exact of_decide_eq_false rfl) (hix : X.N[i]? = some x := by rfl) (hx : Loc X.env.scope x := by first | exact Or.inl rfl | exact Or.inr rfl) (hfx : X.fn x = true \/ X.env.scope.names.lookup x = some .local := by first | exact .inl rfl | exact .inr rfl | assumption)
  (hsw : swapsWith (.ListComp elt [⟨tg, it, ifs, 0⟩] scope pos) (some (.Name x pos')) spos.line X.env = pure true := by rfl) (hs : ∀ x, foldedSetIterable it X.env x = pure x := by intro _; rfl) :
  DS X c (.Assign [.Name x pos'] (.ListComp elt [⟨tg, it, ifs, 0⟩] scope pos) spos) (zP i f) := by
 obtain ⟨wi, pi, w⟩ := h
 refine ⟨_, qld hN hix hx hfx hc pi S hsw hs, fun U Z H D r h => w U Z H _ r (Wp.sbnd h fun d U1 v H1 r1 i1 g1 h1 => ?_)⟩
 exact h1 _ H1 (r1.set ho i1) (.set ho)
end
def qbL : List Int -> Int
 | [] => 0
 | [n] => n
 | n :: m :: ns => max n (qbL (m :: ns))
def qhe : List Int -> Int
 | [] => 0
 | [n] => n
 | n :: m :: ns => min n (qhe (m :: ns))
theorem qaU : ∀ (n : Int) (ns : List Int), qbL (n :: ns) ∈ n :: ns
 | n, [] => mS_
 | n, m :: ns => by
  have h := qaU m ns
  show max n (qbL (m :: ns)) ∈ _
  rw [Int.max_def]
  split
  ·exact mM _ h
  ·exact mS_
theorem qeh : ∀ (n : Int) (ns : List Int), ∀ k ∈ n :: ns, k <= qbL (n :: ns)
 | n, [] => fun k hk => by
  have : k = n := by simpa using hk
  rw [this]; exact Int.le_refl _
 | n, m :: ns => fun k hk => by
  have h := qeh m ns
  show k <= max n (qbL (m :: ns))
  rcases List.mem_cons.mp hk with rfl | hk
  ·exact Int.le_max_left ..
  ·exact Int.le_trans (h k hk) (Int.le_max_right ..)
theorem qeY : ∀ (n : Int) (ns : List Int), qhe (n :: ns) ∈ n :: ns
 | n, [] => mS_
 | n, m :: ns => by
  have h := qeY m ns
  show min n (qhe (m :: ns)) ∈ _
  rw [Int.min_def]
  split
  ·exact mS_
  ·exact mM _ h
theorem qhf : ∀ (n : Int) (ns : List Int), ∀ k ∈ n :: ns, qhe (n :: ns) <= k
 | n, [] => fun k hk => by
  have : k = n := by simpa using hk
  rw [this]; exact Int.le_refl _
 | n, m :: ns => fun k hk => by
  have h := qhf m ns
  show min n (qhe (m :: ns)) <= k
  rcases List.mem_cons.mp hk with rfl | hk
  ·exact Int.min_le_left ..
  ·exact Int.le_trans (Int.min_le_right ..) (h k hk)
theorem qcx {ns : List Int} {z : Int} (h1 : z ∈ ns) (h2 : ∀ n ∈ ns, n <= z) : qbL ns = z := by
 cases ns with
 | nil => cases h1
 | cons n ns => exact Int.le_antisymm (h2 _ (qaU n ns)) (qeh n ns z h1)
theorem qle {ns : List Int} {z : Int} (h1 : z ∈ ns) (h2 : ∀ n ∈ ns, z <= n) : qhe ns = z := by
 cases ns with
 | nil => cases h1
 | cons n ns => exact Int.le_antisymm (qhf n ns z h1) (h2 _ (qeY n ns))
theorem uK {zs : Array (Int × Tok)} {i : Nat} (h : i < zs.size) : (zs.toList.map (·.1))[i]? = some (numAt zs i) := by
 have h' : i < zs.toList.length := by simpa using h
 rw [gM_, gG h']
 simp [numAt, h]
section
variable {X : Cx}
theorem qdm (hc : X.calm = true) : yK X (.builtin "max") (fun xs H Q => ∃ (p : Addr) (ns : List Int), xs = [.ref p] /\ H p = some (.lst (ns.map V.int)) /\ ns ≠ [] /\ Q (.int (qbL ns)) H) := by
 intro pins s Z H xs us Q I r h
 obtain ⟨p, ns, rfl, hp, hne, q⟩ := h
 obtain ⟨u, rfl, ru⟩ := zD.one r
 cases ru
 obtain ⟨its, rv, pl, hz⟩ := I.list (SqL.of hp)
 have hl := pl.isList
 have hi : IntsAre its ns := uE rv
 obtain ⟨zs, hx⟩ := hi.allInts.items
 have hl' : s.heap.IsList p (intItems zs) := hx ▸ hl
 have e1 : ns = zs.toList.map (·.1) := by
  rw [<- nums_intItems, <- hx]
  exact (show numsOf its.toArray.toList = ns from hi.numsOf).symm
 have hsz : 0 < zs.size := by
  cases hzz : zs.toList with
  | nil => rw [hzz] at e1; exact absurd e1 hne
  | cons a b =>
   have : zs.size = zs.toList.length := by simp
   rw [this, hzz]; simp
 refine max_intList (I.ok.hd hc) hl' hsz fun v h' tk hv hk => ?_
 obtain ⟨t, rfl⟩ := intItems_at hv
 obtain ⟨b1, b2⟩ := argBest_gt (numAt zs) (zs.size - 1)
 have e2 : qbL ns = numAt zs (argBest (fun i j => decide (numAt zs i > numAt zs j)) (zs.size - 1)) := by
  refine qcx ?_ fun n hn => ?_
  ·rw [e1]
   exact List.mem_of_getElem? (uK (by omega))
  ·rw [e1] at hn
   obtain ⟨j, hj⟩ := List.mem_iff_getElem?.mp hn
   have hj2 : j < zs.size := by
    have := (gI_.mp hj).1
    simpa using this
   rw [uK hj2] at hj
   cases hj
   exact b2 j (by omega)
 rw [<- e2]
 exact ⟨.int _, H, I.kept hk, ⟨_, rfl⟩, q⟩
theorem qhg (hc : X.calm = true) : yK X (.builtin "min") (fun xs H Q => ∃ (p : Addr) (ns : List Int), xs = [.ref p] /\ H p = some (.lst (ns.map V.int)) /\ ns ≠ [] /\ Q (.int (qhe ns)) H) := by
 intro pins s Z H xs us Q I r h
 obtain ⟨p, ns, rfl, hp, hne, q⟩ := h
 obtain ⟨u, rfl, ru⟩ := zD.one r
 cases ru
 obtain ⟨its, rv, pl, hz⟩ := I.list (SqL.of hp)
 have hl := pl.isList
 have hi : IntsAre its ns := uE rv
 obtain ⟨zs, hx⟩ := hi.allInts.items
 have hl' : s.heap.IsList p (intItems zs) := hx ▸ hl
 have e1 : ns = zs.toList.map (·.1) := by
  rw [<- nums_intItems, <- hx]
  exact (show numsOf its.toArray.toList = ns from hi.numsOf).symm
 have hsz : 0 < zs.size := by
  cases hzz : zs.toList with
  | nil => rw [hzz] at e1; exact absurd e1 hne
  | cons a b =>
   have : zs.size = zs.toList.length := by simp
   rw [this, hzz]; simp
 refine min_intList (I.ok.hd hc) hl' hsz fun v h' tk hv hk => ?_
 obtain ⟨t, rfl⟩ := intItems_at hv
 obtain ⟨b1, b2⟩ := argBest_lt (numAt zs) (zs.size - 1)
 have e2 : qhe ns = numAt zs (argBest (fun i j => decide (numAt zs i < numAt zs j)) (zs.size - 1)) := by
  refine qle ?_ fun n hn => ?_
  ·rw [e1]
   exact List.mem_of_getElem? (uK (by omega))
  ·rw [e1] at hn
   obtain ⟨j, hj⟩ := List.mem_iff_getElem?.mp hn
   have hj2 : j < zs.size := by
    have := (gI_.mp hj).1
    simpa using this
   rw [uK hj2] at hj
   cases hj
   exact b2 j (by omega)
 rw [<- e2]
 exact ⟨.int _, H, I.kept hk, ⟨_, rfl⟩, q⟩
end
def qdn : List D -> Option D
 | [.lst ds] => match vq ds with
  | some (n :: ns) => some (.int (qbL (n :: ns)))
  | _ => none
 | _ => none
def qhh : List D -> Option D
 | [.lst ds] => match vq ds with
  | some (n :: ns) => some (.int (qhe (n :: ns)))
  | _ => none
 | _ => none
theorem qb5 {K : Fr0} : wW K qdn (fun xs H Q => ∃ (p : Addr) (ns : List Int), xs = [.ref p] /\ H p = some (.lst (ns.map V.int)) /\ ns ≠ [] /\ Q (.int (qbL ns)) H) := by
 intro A H xs d vs Q hn h e k
 unfold qdn at e
 split at e
 ·obtain ⟨v, rfl, a, zs, rfl, _, ta, il⟩ := IsL.inv1 h
  split at e
  ·rename_i n ns hi
   cases e
   rw [yO il hi] at ta
   exact ⟨a, n :: ns, rfl, ta, by simp, k _ H (jY.refl H) rfl⟩
  ·cases e
 ·cases e
theorem qfU {K : Fr0} : wW K qhh (fun xs H Q => ∃ (p : Addr) (ns : List Int), xs = [.ref p] /\ H p = some (.lst (ns.map V.int)) /\ ns ≠ [] /\ Q (.int (qhe ns)) H) := by
 intro A H xs d vs Q hn h e k
 unfold qhh at e
 split at e
 ·obtain ⟨v, rfl, a, zs, rfl, _, ta, il⟩ := IsL.inv1 h
  split at e
  ·rename_i n ns hi
   cases e
   rw [yO il hi] at ta
   exact ⟨a, n :: ns, rfl, ta, by simp, k _ H (jY.refl H) rfl⟩
  ·cases e
 ·cases e
def yC (t : M Bool) (b : MS) : Nat -> MS
 | 0, _ => .bad
 | n + 1, U => match t U with
  | .ok (true, U1) => match b U1 with
   | .ok (.nx U2) => yC t b n U2
   | .ok (.ct U2) => yC t b n U2
   | .ok (.bk U2) => .ok (.nx U2)
   | .ok (.rt d U2) => .ok (.rt d U2)
   | .exc x U2 => .exc x U2
   | .bad => .bad
  | .ok (false, U1) => .ok (.nx U1)
  | .exc x U1 => .exc x U1
  | .bad => .bad
open Classical in
noncomputable def qbr (t : M Bool) (b : MS) : MS := fun U => if h : ∃ n, yC t b n U ≠ .bad then yC t b h.choose U else .bad
theorem vZ {t : M Bool} {b : MS} : ∀ {n : Nat} {U : Env} (k : Nat), yC t b n U ≠ .bad -> yC t b (n + k) U = yC t b n U
 | 0, U, k, h => absurd rfl h
 | n + 1, U, k, h => by
  have e : n + 1 + k = (n + k) + 1 := by omega
  rw [e]
  unfold yC at h |-
  cases et : t U with
  | ok p =>
   obtain ⟨v, U1⟩ := p
   rw [et] at h
   cases v with
   | false => rfl
   | true =>
    dsimp only at h |-
    cases eb : b U1 with
    | ok fl =>
     rw [eb] at h
     cases fl with
     | nx U2 => exact vZ k h
     | ct U2 => exact vZ k h
     | bk U2 => rfl
     | rt d U2 => rfl
    | exc x U2 => rfl
    | bad => rfl
  | exc x U1 => rfl
  | bad => rfl
theorem qdo {t : M Bool} {b : MS} {n : Nat} {U : Env} {r : R Fl} (h : yC t b n U = r) (hb : r ≠ .bad) : qbr t b U = r := by
 have hx : ∃ n, yC t b n U ≠ .bad := ⟨n, by rw [h]; exact hb⟩
 unfold qbr
 rw [dif_pos hx]
 have hc := hx.choose_spec
 generalize hx.choose = m at hc
 rcases Nat.le_total m n with hl | hl
 ·obtain ⟨k, rfl⟩ := Nat.exists_eq_add_of_le hl
  rw [<- vZ k hc]; exact h
 ·obtain ⟨k, rfl⟩ := Nat.exists_eq_add_of_le hl
  rw [vZ k (by rw [h]; exact hb)]; exact h
theorem qfV {t : M Bool} {b : MS} {U : Env} : ∃ n, qbr t b U = yC t b n U := by
 unfold qbr
 split
 ·exact ⟨_, rfl⟩
 ·exact ⟨0, rfl⟩
section
variable {X : Cx} {c : Fc} {pos : Pos}
theorem qeZ {e : Expr} {body : List Stmt} {t : M Bool} {b : MS} (hp : PassesOwn (model X.prog X.w) X.A X.env X.xe) (ht : DT X c e t) (hb : DSs X c body b) : DS X c (.While e body [] pos) (qbr t b) := by
 obtain ⟨tc, pc, wc⟩ := ht
 obtain ⟨tb, pb, wb⟩ := hb
 refine ⟨_, qij hp pc pb, fun U Z H D' r h => ?_⟩
 obtain ⟨n, en⟩ := qfV (t := t) (b := b) (U := U)
 rw [en] at h
 refine ⟨fun m Z' H' => ∃ U', Rep X.K c U' Z' H' /\ WpS X.K c Z' H' D' (yC t b m U'), ⟨n, U, r, h⟩, ?_⟩
 rintro m Z' H' ⟨U', r', w⟩
 cases m with
 | zero => exact w.elim
 | succ m =>
  unfold yC at w
  refine wc U' Z' H' _ r' ?_
  cases et : t U' with
  | bad => rw [et] at w; exact w
  | exc x U1 => rw [et] at w; exact fun H1 r1 g1 => w Z' H1 r1 g1.s
  | ok p =>
   obtain ⟨v, U1⟩ := p
   rw [et] at w
   intro H1 r1 g1
   cases v with
   | false =>
    rw [if_neg Bool.false_ne_true]
    exact w Z' H1 r1 g1.s
   | true =>
    rw [if_pos rfl]
    dsimp only at w
    refine ⟨fun Z2 H2 => ∃ U2, Rep X.K c U2 Z2 H2 /\ WpS X.K c Z2 H2 D' (yC t b m U2), fun Z2 H2 q => ⟨m, Nat.lt_succ_self m, q⟩, wb U1 Z' H1 _ r1 ?_⟩
    have w2 := w.gr g1.s
    cases e2 : b U1 with
    | ok fl =>
     cases fl with
     | nx U3 => simp only [e2] at w2; exact fun Z3 H3 r3 g3 => ⟨U3, r3, w2.gr g3⟩
     | ct U3 => simp only [e2] at w2; exact fun Z3 H3 r3 g3 => ⟨U3, r3, w2.gr g3⟩
     | bk U3 => simp only [e2] at w2; exact w2
     | rt d U3 => simp only [e2] at w2; exact w2
    | exc x U3 => simp only [e2] at w2; exact w2
    | bad => simp only [e2] at w2; exact w2
end
end L2.Sk
namespace L2.Sk
open PySem PySem.Spec PyProof.Rows
section
variable {M : Model} {A : Around} {E : Value -> Shared -> Prop} {s : Shared}
end
section
variable {X : Cx} {pins : List (Addr × Obj)} {Z : St} {H : Hp} {s : Shared}
end
section
variable {X : Cx} {c : Fc} {e : Expr} {es : List Expr} {pos cpos np : Pos}
def qm0 (x : Str) (f : M (List D)) : MS := fun U => match f U with
 | .ok (ds, U') => if qZ ds.length then .exc ⟨x, .non⟩ U' else .bad
 | .exc z U' => .exc z U'
 | .bad => .bad
def spX (K : Fr0) (cl : Str -> Option Addr) (F : List D -> R D) : Sp := fun vs H Q E => ∃ ds A, IsL K A H ds vs /\ (∀ a, A a -> True) /\ match F ds with
 | .ok d => ∀ v H', jY H H' -> Is K (fun a => A a \/ H a = none) H' d v -> Q v H'
 | .exc x _ => ∃ C, cl x.cls = some C /\ ∀ H', jY H H' -> E (.ref C) none H'
 | .bad => False
def qjV (RN : List Str) (F : List D -> R D) (g : M (List D)) : M D := bnd g fun ds U => match F ds with
 | .ok d => .ok (d, U)
 | .exc x _ => if RN.contains x.cls then .exc x U else .bad
 | .bad => .bad
def qjW (F : List D -> R D) (g : M (List D)) : M D := bnd g fun ds U => match F ds with
 | .ok d => .ok (d, U)
 | _ => .bad
end
section
variable {P : Program} {w : World} {K : PySem.W.Frag} {mg : Str -> Option Value} {base : Heap}
end
section
variable {M : Model} {A : Around} {E : Value -> Shared -> Prop}
variable {nm q nm' q' : Str} {C S N N' : Addr} {bs bm bs' bm' : List Value} {hdct hdct' : Bool} {sn sn' : List Str} {sub sub' : List Value} {ab ab' : Bool} {col col' : Option Bool} {dd dd' : Option Addr} {k0 k1 k2 k3 k5 j0 j1 j2 j3 j5 : Option Value} {newId newId' : String}
end
end L2.Sk
namespace L2
open PySem PySem.Spec PyProof.Rows
section
variable {X : Cx} {CX : CXT} {k : Nat} {f C : Addr} {fd : FuncData} {ps : List Str} {sp : Sp} {dvs : List V} {ds : List Value} {E : XK} {x m : Str} {p pos apos : Pos} {e o : Expr} {es : List Expr} {ta : TE} {t : TA}
end
end L2
namespace L2.Sk
open PySem PySem.Spec PyProof.Rows
def isT (b : Bool) : Value -> Bool
 | .bool a => a == b
 | _ => false
section
variable {X : Cx}
end
def qo1 (x : D) (ys : List D) : Option D := match x, ys with
 | .lst ds, [.bl b] => (vi ds).map fun bs => .int (bs.countP (· == b))
 | _, _ => none
def qiS (F : D -> List D -> Option D) (f : M D) (g : M (List D)) : M D := bnd f fun x => match x with
 | .lst ds => bnd g fun ys => lift (F (.lst ds) ys)
 | _ => fun _ => .bad
def qm1 (K : Fr0) (F : D -> List D -> Option D) (r : V -> List V -> Hp -> VK -> Prop) : Prop := ∀ A H x ys d v vs (Q : VK), (∀ a, H a = none -> A a) -> Is K A H x v -> IsL K A H ys vs -> F x ys = some d -> (∀ u H', jY H H' -> Is K A H' d u -> Q u H') -> r v vs H Q
section
variable {X : Cx} {c : Fc} {o e : Expr} {es : List Expr} {apos cpos : Pos}
theorem qlf {id : String} {name : Str} {r : V -> List V -> Hp -> VK -> Prop} {F : D -> List D -> Option D} {f : M D} {g : M (List D)} (slot : Slot "list" name id) (hty : typeOf (.builtin id) = pure (.type "method_descriptor")) (hm : MtR X id r) (hF : qm1 X.K F r)
  (ho : DE X c o f) (ha : DA X c (e :: es) g)
  (hbase : attributeBase o name X.env (eval o X.env) = eval o X.env := by rfl)
  (hfew : ((backTo cpos (starEach (e :: es) X.env)).all (fun x => !x.1) && (backToKw cpos (keywordEach [] X.env)).all (fun x => x.1.isSome)
   && decide ((e :: es).length + ([] : List Keyword).length + (if ([] : List Keyword).isEmpty then 0 else 1) < 30)) = true := by rfl)
  (hline : (apos.endLine == cpos.line) = true := by rfl) (hs : starEach (e :: es) X.env = (false, eval e X.env) :: starEach es X.env := by rfl) (hplain : (backTo cpos (starEach es X.env)).any (·.1) = false := by rfl) :
  DE X c (.Call (.Attribute o name apos) (e :: es) [] cpos) (qiS F f g) := by
 obtain ⟨to, po, wo⟩ := ho
 obtain ⟨t, pa, wa⟩ := ha
 refine ⟨_, qkF PySem.F.plainAttrs_list slot hty hm po pa hbase hfew hline hs hplain, fun U Z H Q r0 h => wo U Z H _ r0 (Wp.bnd h fun x U1 v H1 r1 i1 g1 h1 => ?_)⟩
 cases x with
 | lst ds =>
  obtain ⟨a, xs, rfl, ha, hH, il⟩ := i1
  refine ⟨.inl ⟨rfl, xs, .inl (.inl hH)⟩, wa U1 Z H1 _ r1 (WpL.bnd h1 fun ys U2 vs H2 r2 i2 g2 h2 => ?_)⟩
  obtain ⟨d, ed, h3⟩ := h2.lift
  exact hF (Cn c Z) H2 (.lst ds) ys d (.ref a) vs Q (fun a ha => r2.new ha) (g2.is ⟨a, xs, rfl, ha, hH, il⟩) i2 ed fun u H' sm i => h3 u H' (r2.same sm) i (.of_same sm)
 | _ => exact h1.elim
end
def isI (b : Int) : Value -> Bool
 | .int a _ => a == b
 | _ => false
section
variable {X : Cx}
end
def qo2 (x : D) (ys : List D) : Option D := match x, ys with
 | .lst ds, [.int b] => (vq ds).map fun ns => .int (ns.countP (· == b))
 | _, _ => none
section
variable {X : Cx} {pins : List (Addr × Obj)} {Z : St} {H : Hp} {s : Shared} {xe : Value -> Shared -> Prop}
end
section
variable {X : Cx} {c : Fc} {pos np hpos p1 p2 p3 p4 : Pos} {body : List Stmt}
end
end L2.Sk
namespace L2.Sk
open PySem PySem.Spec PyProof.Rows PySem.W
def bmV : List Value := [.type "ValueError", .type "Exception", .type "BaseException", .type "object"]
def qow (K : Fr0) (C S : Addr) : Bool := match K.lookup C with
 | some ⟨_, _, .cls cd, _⟩ => cd.mro.contains (.ref S)
 | _ => false
def qox (K : Fr0) (D : Addr) : Bool :=
 findIn K (.ref D) "__getattribute__" == some (some (.builtin "BaseException.__getattribute__")) && findIn K (.ref D) "__getattr__" == some none &&
 findIn K (.ref D) "__class__" == some (some (.builtin "object.__class__")) && mroIn K D (.type "object") == some true && subIn K (.ref D) (.type "BaseException") == some true && (clsIn K D).isSome &&
 (["int", "bool", "str", "tuple", "list", "dict"].all fun T => kitOne K (.ref D) (.type T) == some false)
def qlg (n m : Str) : Bool := n == m || m == "SackError"
def qpP (K : Fr0) (S : Addr) (TN : List Str) (n : Str) : Bool := match qit K n with
 | some C => excIn K C bmV "ValueError.__new__" && qow K C S && qox K C && kitOne K (.ref C) (.type "ValueError") == some true &&
  TN.all fun m => match qit K m with
   | some Cm => kitOne K (.ref C) (.ref Cm) == some (qlg n m)
   | none => false
 | none => false
section
variable {K : Fr0} {mg : Str -> Option Value} {RN TN : List Str}
end
theorem qiT : typeOf (.builtin "list.index") = pure (.type "method_descriptor") := by kernel_rfl
def qo3 (RN : List Str) (m : Str) (f : M D) : M D := bnd f fun d => match d with
 | .exc n => if RN.contains n then ret (.bl (m == "ValueError" || qlg n m)) else fun _ => .bad
 | _ => fun _ => .bad
section
variable {X : Cx} {c : Fc} {a b e : Expr} {pos : Pos} {RN TN : List Str}
end
section
variable {P : Program} {w : World} {K : PySem.W.Frag} {mg : Str -> Option Value} {base : Heap}
end
end L2.Sk
namespace L2.Sk
open PySem PySem.Spec PyProof.Rows
section
variable {U : Env} {f g : M D} {l : M (List D)} {p q : MS} {RN : List Str}
theorem qe0 (F : List D -> R D) : qjV RN F l U = match l U with | .ok (xs, U1) => (match F xs with | .ok d => .ok (d, U1) | .exc x _ => (if RN.contains x.cls then .exc x U1 else .bad) | .bad => .bad) | .exc x U' => .exc x U' | .bad => .bad := by
 simp only [qjV, bnd]
 cases l U with
 | ok z => obtain ⟨z1, U1⟩ := z; cases F z1 <;> rfl
 | exc x U' => rfl
 | bad => rfl
theorem qe1 (F : List D -> R D) : qjW F l U = match l U with | .ok (xs, U1) => (match F xs with | .ok d => .ok (d, U1) | _ => .bad) | .exc x U' => .exc x U' | .bad => .bad := by
 simp only [qjW, bnd]
 cases l U with
 | ok z => obtain ⟨z1, U1⟩ := z; cases F z1 <;> rfl
 | exc x U' => rfl
 | bad => rfl
theorem qe2 (x : Str) : qm0 x l U = match l U with | .ok (ds, U') => (if qZ ds.length then .exc ⟨x, .non⟩ U' else .bad) | .exc z U' => .exc z U' | .bad => .bad := rfl
theorem qjX (m : Str) : qo3 RN m f U = match f U with | .ok (.exc n, U1) => (if RN.contains n then .ok (.bl (m == "ValueError" || qlg n m), U1) else .bad) | .ok _ => .bad | .exc x U' => .exc x U' | .bad => .bad := by
 simp only [qo3, bnd]
 cases f U with
 | ok z =>
  obtain ⟨z1, U1⟩ := z
  cases z1 <;> first | rfl | (dsimp only; split <;> rfl)
 | exc x U' => rfl
 | bad => rfl
theorem qei (F : D -> List D -> Option D) : qiS F f l U = match f U with
  | .ok (.lst ds, U1) => (match l U1 with | .ok (ys, U2) => (match F (.lst ds) ys with | some d => .ok (d, U2) | none => .bad) | .exc x U' => .exc x U' | .bad => .bad)
  | .ok _ => .bad | .exc x U' => .exc x U' | .bad => .bad := by
 simp only [qiS, bnd]
 cases f U with
 | ok z =>
  obtain ⟨z1, U1⟩ := z
  cases z1 with
  | lst ds =>
   show bnd l (fun ys => lift (F (D.lst ds) ys)) U1 = (match l U1 with | .ok (ys, U2) => (match F (.lst ds) ys with | some d => .ok (d, U2) | none => .bad) | .exc x U' => .exc x U' | .bad => .bad)
   unfold bnd
   cases l U1 with
   | ok z => obtain ⟨z2, U2⟩ := z; (dsimp only; cases F (.lst ds) z2 <;> rfl)
   | exc x U' => rfl
   | bad => rfl
  | _ => rfl
 | exc x U' => rfl
 | bad => rfl
end
open Classical in
noncomputable def qoy (f : M D) : M D := fun U => match f U with
 | .ok (d, U') => if imm d = true /\ U' = U then .ok (d, U) else .bad
 | .exc x U' => if U' = U then .exc x U else .bad
 | .bad => .bad
open Classical in
open Classical in
section
variable {X : Cx} {c : Fc} {e : Expr} {pos : Pos}
def qoz : List D -> Option (List D)
 | [.int i, .int j] => if decide (-(2 ^ 62) <= i) && decide (i < 2 ^ 62) && decide (-(2 ^ 62) <= j) && decide (j < 2 ^ 62) then some (qaK i (j - i).toNat) else none
 | _ => none
def qhi (f : M (List D)) : M (List D) := bnd f fun ds => lift (qoz ds)
theorem qhj {tg a b : Expr} {f : M (List D)} {p : Pos} (hg : Gl X "range") (hm : X.mg "range" = none) (ha : DA X c [a, b] f) (hs : starEach [a, b] X.env = [(false, eval a X.env), (false, eval b X.env)] := by rfl) (hs2 : starEach [b] X.env = [(false, eval b X.env)] := by rfl) : DI X c tg (.Call (.Name "range" p) [a, b] [] pos) (qhi f) := by
 obtain ⟨t, p, w⟩ := ha
 refine ⟨_, qgp hg hm p hs hs2, fun U Z H Q r h => w U Z H _ r (WpL.bndI h fun ds U1 vs H1 r1 i1 g1 h1 => ?_)⟩
 obtain ⟨es, e, h2⟩ := uW h1
 unfold qoz at e
 split at e
 ·rename_i i j
  obtain ⟨v, u, rfl, e2, e3⟩ := IsL.inv2 i1
  cases e2
  cases e3
  split at e
  ·rename_i hb
   cases e
   simp only [Bool.and_eq_true] at hb
   exact ⟨i, j, rfl, ⟨of_decide_eq_true hb.1.1.1, of_decide_eq_true hb.1.1.2, of_decide_eq_true hb.1.2, of_decide_eq_true hb.2⟩, h2 _ H1 r1 (qjI i _) .refl⟩
  ·cases e
 ·cases e
def qjY (i n : Nat) (g : D -> Env -> Option Env) (b : MS) : Nat -> MS
 | 0, U => match z0 i U with
  | some ds => if ds.length <= n then .ok (.nx U) else .bad
  | none => .bad
 | m + 1, U => match z0 i U with
  | some ds => match ds[n - (m + 1)]? with
   | none => .bad
   | some d => match g d U with
    | none => .bad
    | some U1 => match b U1 with
     | .ok (.nx U2) => qjY i n g b m U2
     | .ok (.ct U2) => qjY i n g b m U2
     | .ok (.bk U2) => .ok (.nx U2)
     | .ok (.rt r U2) => .ok (.rt r U2)
     | .exc x U2 => .exc x U2
     | .bad => .bad
  | none => .bad
end
section
variable {U : Env} {f : M D} {t : M Bool} {n : M (List D)}
open Classical in
theorem qoA : qoy f U = match f U with | .ok (d, U') => (if imm d = true /\ U' = U then .ok (d, U) else .bad) | .exc x U' => (if U' = U then .exc x U else .bad) | .bad => .bad := rfl
open Classical in
open Classical in
end
theorem qhk {l : M (List D)} {U U1 : Env} {i j : Int} (h : l U = .ok ([.int i, .int j], U1)) (h1 : -1000000000 <= i) (h2 : i < 1000000000) (h3 : -1000000000 <= j) (h4 : j < 1000000000) : qhi l U = .ok (qaK i (j - i).toNat, U1) := by
 unfold qhi
 rw [qgF h]
 unfold qoz
 have a1 : decide (-(2 ^ 62 : Int) <= i) = true := decide_eq_true (by omega)
 have a2 : decide (i < (2 ^ 62 : Int)) = true := decide_eq_true (by omega)
 have a3 : decide (-(2 ^ 62 : Int) <= j) = true := decide_eq_true (by omega)
 have a4 : decide (j < (2 ^ 62 : Int)) = true := decide_eq_true (by omega)
 simp only [a1, a2, a3, a4, Bool.and_self, if_true]
 rfl
def inA (x y : D) : Option D := match sqD y with
 | some ds => if wR x && wR y then some (.bl ((toPDs ds).any fun y => PyData.eqv y (jL x))) else none
 | none => none
section
variable {X : Cx}
theorem qcy {d : D} (h : wR d = true) : (jL d).canLay0 = true /\ (jL d).depth <= 50 := by
 unfold wR at h
 rw [Bool.and_eq_true, decide_eq_true_eq] at h
 exact h
end
section
variable {prog : Program} {w : World} {A : Around} {R : Result -> Shared -> Prop} {I : Addr} {fp wr : List Addr} {n : Nat} {P : Nat -> Value -> Prop} {St : Nat -> Heap -> Prop}
structure qm2 (prog : Program) (w : World) (A : Around) (P : Nat -> Value -> Prop) (bt : Nat -> Nat -> Bool) (Ok : Heap -> Prop) (wr : List Addr) (Z : Addr) : Prop where
 cmp : ∀ (i j : Nat) (x y : Value) (s : Shared) (Q E : Value -> Shared -> Prop), P i x -> P j y -> Ok s.heap -> Q (.bool (bt i j)) s -> wpAny (model prog w) A (richCompare .Lt x y) Q E s
 old : ∀ h h' : Heap, Ok h -> (∀ b o, b ∉ wr -> b ≠ Z -> h.get? b = some o -> h'.get? b = some o) -> Ok h'
theorem qfW (W : Walks prog w A.in1 I fp wr n P St) {bt : Nat -> Nat -> Bool} {Ok : Heap -> Prop} {Z : Addr} (gZ : Z ∉ fp) (C : qm2 prog w A.in1 P bt Ok wr Z) :
  ∀ (m q : Nat) (s : Shared) (best : Value) (z : Nat), n = q + 1 + m -> St (q + 1) s.heap -> P (argBest bt q) best -> Ok s.heap ->
  s.heap.get? Z = some { cls := .type "list", dict := none, data := .seq #[best, best] z, slots := #[] } ->
  (∀ y h2 t2, P (argBest bt (n - 1)) y -> (∀ b o, b ∉ wr -> b ≠ Z -> s.heap.get? b = some o -> h2.get? b = some o) -> R (.ok (.ret y)) { s with heap := h2, toks := t2 }) ->
  codeAny (model prog w) A (.builtin "min.loop" ⟨[.ref I, .none, .ref Z], []⟩) R s := by
 have gw : Z ∉ wr := fun e => gZ (W.sub _ e)
 have nm : (toString "min" ++ toString ".loop" : String) = "min.loop" := by decide
 intro m
 induction m with
 | zero =>
  intro q s best z en est eP eO eZ fin
  have eq1 : q + 1 = n := by omega
  have st' : St n s.heap := eq1 ▸ est
  refine codeAny_builtin PySem.F.entry_min_loop (by
   rw [Around.under_plainId PySem.F.plain_min_loop _]
   refine wpAny_bind (wpAny_seqItems eZ rfl ?_)
   refine wpAny_bind (wpAny_tryCatch (W.done s _ _ st' fun h1 t1 k1 => ?_))
   have eZ1 := k1 Z _ gw eZ
   refine wpAny_bind (wpAny_updateSeq eZ1 rfl (wpAny_bind (wpAny_letGo (wpAny_pure ?_))))
   exact fin best _ t1 (by rw [<- eq1]; exact eP) fun b o nb nz g => (Heap.get?_update_other _ _ (Ne.symm nz)).trans (k1 b o nb g))
 | succ m ih =>
  intro q s best z en est eP eO eZ fin
  have lt1 : q + 1 < n := by omega
  refine codeAny_builtin PySem.F.entry_min_loop (by
   rw [Around.under_plainId PySem.F.plain_min_loop _]
   refine wpAny_bind (wpAny_seqItems eZ rfl ?_)
   refine wpAny_bind (wpAny_tryCatch (W.item (q + 1) s _ _ lt1 est fun x h1 t1 eP1 est1 k1 => ?_))
   have eZ1 := k1 Z _ gw eZ
   have eO1 : Ok h1 := C.old _ _ eO fun b o nb _ g => k1 b o nb g
   refine wpAny_bind (wpAny_pure (wpAny_bind (wpAny_tryCatch (wpAny_holding (wpAny_bind (C.cmp (q + 1) (argBest bt q) x best _ _ _ eP1 eP eO1 ?_))))))
   refine wpAny_bind (wpAny_holding (wpAny_truthy_bool (wpAny_bind (wpAny_letGo (wpAny_pure ?_)))))
   cases less : bt (q + 1) (argBest bt q) with
   | true =>
    refine wpAny_bind (wpAny_updateSeq eZ1 rfl (wpAny_bind (wpAny_letGo ?_)))
    rw [nm]
    refine wpAny_pure ⟨plainId_quiet PySem.F.plain_min_loop _, ?_⟩
    refine ih (q + 1) _ x _ (by omega) (W.frame _ _ _ est1 fun b nb o g => ?_) (by simp only [argBest, less, if_true]; exact eP1) (C.old _ _ eO1 fun b o _ nz g => ?_) (Heap.get?_update_self _ eZ1 rfl) fun y h2 t2 eP2 k2 => ?_
    ·exact (Heap.get?_update_other _ _ (fun e : Z = b => gZ (by rw [e]; exact nb))).trans g
    ·exact (Heap.get?_update_other _ _ (Ne.symm nz)).trans g
    ·exact fin y h2 t2 eP2 fun b o nb nz g => k2 b o nb nz ((Heap.get?_update_other _ _ (Ne.symm nz)).trans (k1 b o nb g))
   | false =>
    refine wpAny_bind (wpAny_letGo ?_)
    rw [nm]
    refine wpAny_pure ⟨plainId_quiet PySem.F.plain_min_loop _, ?_⟩
    refine ih (q + 1) _ best z (by omega) est1 (by simp only [argBest, less, Bool.false_eq_true, if_false]; exact eP) eO1 eZ1 fun y h2 t2 eP2 k2 => ?_
    exact fin y h2 t2 eP2 fun b o nb nz g => k2 b o nb nz (k1 b o nb g))
theorem qej (W : Walks prog w A.in1 I fp wr n P St) {bt : Nat -> Nat -> Bool} {Ok : Heap -> Prop} {Z : Addr} (gZ : Z ∉ fp) (C : qm2 prog w A.in1 P bt Ok wr Z) {s : Shared} {z : Nat} (hn : 0 < n) (est : St 0 s.heap) (eO : Ok s.heap)
  (eZ : s.heap.get? Z = some { cls := .type "list", dict := none, data := .seq #[] z, slots := #[] })
  (fin : ∀ y h2 t2, P (argBest bt (n - 1)) y -> (∀ b o, b ∉ wr -> b ≠ Z -> s.heap.get? b = some o -> h2.get? b = some o) -> R (.ok (.ret y)) { s with heap := h2, toks := t2 }) :
  codeAny (model prog w) A (.builtin "min.loop" ⟨[.ref I, .none, .ref Z], []⟩) R s := by
 have gw : Z ∉ wr := fun e => gZ (W.sub _ e)
 have nm : (toString "min" ++ toString ".loop" : String) = "min.loop" := by decide
 refine codeAny_builtin PySem.F.entry_min_loop (by
  rw [Around.under_plainId PySem.F.plain_min_loop _]
  refine wpAny_bind (wpAny_seqItems eZ rfl ?_)
  refine wpAny_bind (wpAny_tryCatch (W.item 0 s _ _ hn est fun x h1 t1 eP1 est1 k1 => ?_))
  have eZ1 := k1 Z _ gw eZ
  have eO1 : Ok h1 := C.old _ _ eO fun b o nb _ g => k1 b o nb g
  refine wpAny_bind (wpAny_pure (wpAny_bind (wpAny_updateSeq eZ1 rfl ?_)))
  rw [nm]
  refine wpAny_pure ⟨plainId_quiet PySem.F.plain_min_loop _, ?_⟩
  refine qfW W gZ C (n - 1) 0 _ x _ (by omega) (W.frame _ _ _ est1 fun b nb o g => ?_) eP1 (C.old _ _ eO1 fun b o _ nz g => ?_) (Heap.get?_update_self _ eZ1 rfl) fun y h2 t2 eP2 k2 => ?_
  ·exact (Heap.get?_update_other _ _ (fun e : Z = b => gZ (by rw [e]; exact nb))).trans g
  ·exact (Heap.get?_update_other _ _ (Ne.symm nz)).trans g
  ·exact fin y h2 t2 eP2 fun b o nb nz g => k2 b o nb nz ((Heap.get?_update_other _ _ (Ne.symm nz)).trans (k1 b o nb g)))
end
section
variable {prog : Program} {w : World} {A : Around} {E : Value -> Shared -> Prop} {s : Shared}
theorem qfX {l : Addr} {its : Array Value} {bt : Nat -> Nat -> Bool} {Q : Value -> Shared -> Prop} (hh : A.handled = none) (hl : s.heap.IsList l its) (hne : 0 < its.size)
  (hc : ∀ (i j : Nat) (x y : Value) (s1 : Shared) (Q E : Value -> Shared -> Prop), its[i]? = some x -> its[j]? = some y -> (∀ b o, s.heap.get? b = some o -> s1.heap.get? b = some o) -> Q (.bool (bt i j)) s1 -> wpAny (model prog w) A.in1 (richCompare .Lt x y) Q E s1)
  (fin : ∀ y h' tk, its[argBest bt (its.size - 1)]? = some y -> (∀ b o, s.heap.get? b = some o -> h'.get? b = some o) -> Q y { s with heap := h', toks := tk }) :
  wpAny (model prog w) A (call (.builtin "min") [.ref l]) Q E s := by
 have nm : (toString "min" ++ toString ".loop" : String) = "min.loop" := by decide
 refine call_function_tree PySem.F.kind_min PySem.F.plain_min PySem.F.entry_min (PySem.F.args_min1 _) ?_
 refine wpAny_bind (wpAny_of_eq (show Builtin.Builtins.bindParams "min" ["key", "default"] 0 ⟨[], []⟩ = pure [none, none] from rfl) (wpAny_bind (wpAny_pure ?_)))
 refine wpAny_bind (wpAny_pyIter_list hl ?_)
 have la : l < s.heap.objs.size := by obtain ⟨o, e, _⟩ := hl; exact Heap.lt_size e
 have W := Walks.list (prog := prog) (w := w) (A := A.in1) hh s.heap.objs.size l (Nat.ne_of_lt la) its
 refine wpAny_bind (wpAny_newObj_type ?_)
 rw [nm]
 refine wpAny_pure ⟨plainId_quiet PySem.F.plain_min_loop _, ?_⟩
 have up : ∀ b o, s.heap.get? b = some o -> ((s.heap.push { cls := .type "list_iterator", data := .fields #[.ref l, .int 0 0] }).push { cls := .type "list", data := .seq #[] }).get? b = some o := fun b o g => Heap.get?_push_of_some _ (Heap.get?_push_of_some _ g)
 have sz : (s.heap.push { cls := .type "list_iterator", data := .fields #[.ref l, .int 0 0] }).objs.size = s.heap.objs.size + 1 := by simp [Heap.push]
 refine qej (Ok := fun h => ∀ b o, s.heap.get? b = some o -> h.get? b = some o) (bt := bt) W (fun z => ?_) ⟨fun i j x y s1 Q E p1 p2 ok q => hc i j x y s1 Q E p1 p2 ok q, fun h h' ok k b o g => k b o (fun z => ?_) (fun z => ?_) (ok b o g)⟩ hne ⟨?_, ?_⟩ up (Heap.get?_push_size _ rfl) fun y h2 t2 p k => ?_
 ·have z' : (s.heap.push { cls := .type "list_iterator", data := .fields #[.ref l, .int 0 0] }).objs.size = s.heap.objs.size \/ (s.heap.push { cls := .type "list_iterator", data := .fields #[.ref l, .int 0 0] }).objs.size = l := by simpa using z
  rw [sz] at z'
  rcases z' with e | e
  ·exact absurd e (Nat.succ_ne_self _)
  ·exact absurd (e ▸ la) (Nat.not_lt.mpr (Nat.le_succ _))
 ·have z' : b = s.heap.objs.size := by simpa using z
  exact Nat.ne_of_lt (Heap.lt_size g) z'
 ·have g' := Heap.lt_size g
  have z' : b = (s.heap.push { cls := .type "list_iterator", data := .fields #[.ref l, .int 0 0] }).objs.size := z
  rw [sz] at z'
  exact absurd (z' ▸ g') (Nat.not_lt.mpr (Nat.le_succ _))
 ·exact ⟨_, Heap.get?_push_of_some _ (Heap.get?_push_size _ rfl), rfl, rfl⟩
 ·exact hl.at fun o e => up l o e
 ·refine fin y h2 t2 p fun b o g => k b o (fun z => ?_) (fun z => ?_) (up b o g)
  ·have z' : b = s.heap.objs.size := by simpa using z
   exact Nat.ne_of_lt (Heap.lt_size g) z'
  ·have g' := Heap.lt_size g
   have z' : b = (s.heap.push { cls := .type "list_iterator", data := .fields #[.ref l, .int 0 0] }).objs.size := z
   rw [sz] at z'
   exact absurd (z' ▸ g') (Nat.not_lt.mpr (Nat.le_succ _))
end
def qek : List D -> Option (List (List Int))
 | [] => some []
 | .tup ts :: r => match vq ts, qek r with
  | some n, some ns => some (n :: ns)
  | _, _ => none
 | _ => none
def qgk (ns : List (List Int)) (i : Nat) : List Int := (ns[i]?).getD []
def qbQ (ns : List (List Int)) : Nat := argBest (fun i j => HT.lexLt (qgk ns i) (qgk ns j)) (ns.length - 1)
def qhl : List D -> Option D
 | [.lst ds] => match qek ds with
  | some (n :: ns) => some (.tup ((qgk (n :: ns) (qbQ (n :: ns))).map .int))
  | _ => none
 | _ => none
theorem uL (bt : Nat -> Nat -> Bool) : ∀ n, argBest bt n <= n
 | 0 => Nat.le_refl _
 | n + 1 => by
  have := uL bt n
  show (if bt (n + 1) (argBest bt n) then n + 1 else argBest bt n) <= n + 1
  split <;> omega
theorem qiU {n : List Int} {ns : List (List Int)} : qbQ (n :: ns) < (n :: ns).length := by
 have := uL (fun i j => HT.lexLt (qgk (n :: ns) i) (qgk (n :: ns) j)) ((n :: ns).length - 1)
 show argBest _ ((n :: ns).length - 1) < (n :: ns).length
 simp only [lC_] at this |-
 omega
theorem qlh {K : Fr0} {A : Addr -> Prop} {H : Hp} (ds : List D) : ∀ {xs : List V} {ns : List (List Int)}, IsL K A H ds xs -> qek ds = some ns -> xs.length = ns.length /\ ∀ i, i < ns.length -> ∃ a, xs[i]? = some (.ref a) /\ ur K H a ((qgk ns i).map V.int) := by
 induction ds with
 | nil =>
  intro xs ns h e
  have e1 : xs = [] := h
  have e2 : ns = [] := by unfold qek at e; exact (Option.some.inj e).symm
  subst e1 e2
  exact ⟨rfl, fun i hi => absurd hi (Nat.not_lt_zero _)⟩
 | cons d r ih =>
  intro xs ns h e
  obtain ⟨x, ys, hx, h1, h2⟩ := h
  subst hx
  unfold qek at e
  split at e
  ·rename_i heq
   cases heq
  ·rename_i ts r' heq
   cases heq
   obtain ⟨a, zs, hv, ta, il⟩ := h1
   subst hv
   split at e
   ·rename_i n ms e1 e2
    have e3 : n :: ms = ns := Option.some.inj e
    subst e3
    obtain ⟨l1, l2⟩ := ih h2 e2
    rw [yO il e1] at ta
    refine ⟨by rw [lC_, lC_, l1], fun i hi => ?_⟩
    cases i with
    | zero => exact ⟨a, rfl, ta⟩
    | succ i =>
     obtain ⟨b, g1, g2⟩ := l2 i (by simpa using hi)
     exact ⟨b, by simpa using g1, g2⟩
   ·cases e
  ·cases e
section
variable {X : Cx}
def qiV (K : Fr0) : List V -> Hp -> VK -> Prop := fun xs H Q => ∃ (p : Addr) (vs : List V) (ns : List (List Int)), xs = [.ref p] /\ H p = some (.lst vs) /\ vs.length = ns.length /\ ns ≠ [] /\ (∀ i, i < ns.length -> ∃ a, vs[i]? = some (.ref a) /\ ur K H a ((qgk ns i).map V.int)) /\ ∀ v, vs[qbQ ns]? = some v -> Q v H
theorem qhm {k : Nat} (hr : wn k X.A) : yK X (.builtin "min") (qiV X.K) := by
 intro pins s Z H xs us Q I r h
 obtain ⟨p, vs, ns, rfl, hp, hlen, hne, hat, q⟩ := h
 obtain ⟨u, rfl, ru⟩ := zD.one r
 cases ru
 obtain ⟨its, rv, pl, hz⟩ := I.list (SqL.of hp)
 have hl := pl.isList
 have l2 : its.length = ns.length := by rw [<- rv.length]; exact hlen
 have hsz : 0 < its.toArray.size := by
  rw [sT_, l2]
  exact List.length_pos_iff.mpr hne
 have at_ : ∀ (i : Nat) (x : Value), its.toArray[i]? = some x -> ∃ a items, x = .ref a /\ IsTup s.heap a items /\ IntsAre items.toList (qgk ns i) := fun i x hx => by
  have hx' : its[i]? = some x := by simpa using hx
  have hi : i < ns.length := by rw [<- l2]; exact (gI_.mp hx').1
  obtain ⟨a, h1, h2⟩ := hat i hi
  obtain ⟨u2, h3, h4⟩ := rv.get h1
  rw [hx'] at h3
  cases h3
  cases h4
  obtain ⟨its2, r2, p2, _⟩ := I.tuple h2.sq
  exact ⟨a, its2.toArray, rfl, p2, uE r2⟩
 refine qfX (bt := fun i j => HT.lexLt (qgk ns i) (qgk ns j)) hr.hd hl hsz (fun i j x y s1 Q E hx hy kp q => ?_) fun y h' tk hy kp => ?_
 ·obtain ⟨a, i1, rfl, t1, n1⟩ := at_ i x hx
  obtain ⟨b, i2, rfl, t2, n2⟩ := at_ j y hy
  have t1' : IsTup s1.heap a i1 := by obtain ⟨o, g, r⟩ := t1; exact ⟨o, kp a o g, r⟩
  have t2' : IsTup s1.heap b i2 := by obtain ⟨o, g, r⟩ := t2; exact ⟨o, kp b o g, r⟩
  have hu : X.A.in1.units < cLine := by have := hr.units; show X.A.units + 1 < cLine; omega
  exact HT.lt_tupInts t1' t2' n1 n2 hu q
 ·have hy' : its[qbQ ns]? = some y := by
   have e : its.toArray.size - 1 = ns.length - 1 := by rw [sT_, l2]
   rw [e] at hy
   simpa [qbQ] using hy
  have hb : qbQ ns < vs.length := by
   have := (gI_.mp hy').1
   rw [rv.length]; exact this
  obtain ⟨u2, h3, h4⟩ := rv.get (gG hb)
  rw [hy'] at h3
  cases h3
  exact ⟨vs[qbQ ns], H, I.kept kp, h4, q _ (gG hb)⟩
end
theorem qfY {K : Fr0} : wW K qhl (qiV K) := by
 intro A H xs d vs Q hn h e k
 unfold qhl at e
 split at e
 ·rename_i ds
  obtain ⟨v, rfl, a, zs, rfl, _, ta, il⟩ := IsL.inv1 h
  split at e
  ·rename_i n ns hi
   cases e
   obtain ⟨l1, l2⟩ := qlh _ il hi
   refine ⟨a, zs, n :: ns, rfl, ta, l1, by simp, l2, fun v hv => ?_⟩
   obtain ⟨b, h1, h2⟩ := l2 (qbQ (n :: ns)) qiU
   rw [hv] at h1
   cases h1
   exact k _ H (jY.refl H) ⟨b, _, rfl, h2, qcp _⟩
  ·cases e
 ·cases e
def qm3 (xs : List D) : Option D := (qhh xs).or (qhl xs)
def qm4 : List V -> Hp -> VK -> Prop := fun xs H Q => ∃ (p : Addr) (ns : List Int), xs = [.ref p] /\ H p = some (.lst (ns.map V.int)) /\ ns ≠ [] /\ Q (.int (qhe ns)) H
theorem qhn {X : Cx} {k : Nat} (hr : wn k X.A) (hc : X.calm = true) : yK X (.builtin "min") (fun xs H Q => qm4 xs H Q \/ qiV X.K xs H Q) := by
 intro pins s Z H xs us Q I r h
 rcases h with h | h
 ·exact qhg hc pins s Z H xs us Q I r h
 ·exact qhm hr pins s Z H xs us Q I r h
theorem qfZ {K : Fr0} : wW K qm3 (fun xs H Q => qm4 xs H Q \/ qiV K xs H Q) := by
 intro A H xs d vs Q hn h e k
 unfold qm3 at e
 cases e1 : qhh xs with
 | some b => rw [e1] at e; exact .inl (qfU A H xs d vs Q hn h (by rw [e1]; exact e) k)
 | none => rw [e1] at e; exact .inr (qfY A H xs d vs Q hn h e k)
def qho (K : Fr0) : V -> List V -> Hp -> VK -> Prop := fun x vs H Q => ∃ (l : Addr) (xs : List V) (ds : List D) (d : D) (y : V) (A : Addr -> Prop) (j : Nat), x = .ref l /\ vs = [y] /\ H l = some (.lst xs) /\ IsL K A H ds xs /\ Is K A H d y /\ ds.all wR = true /\ wR d = true /\ ds.findIdx? (fun e => PyData.eqv (jL e) (jL d)) = some j /\ Q (.int j) H
theorem qhp {X : Cx} {k : Nat} (hr : wn k X.A) : MtR X "list.index" (qho X.K) := by
 intro pins s Z H x vs v us Q I rx rv h
 obtain ⟨l, xs, ds, d, y, A, j, rfl, rfl, hH, il, id', ok1, ok2, hj, q⟩ := h
 cases rx
 obtain ⟨u, rfl, ru⟩ := zD.one rv
 obtain ⟨z, its, n, r, hl, e⟩ := I.lstM hH
 obtain ⟨bs, rd, _⟩ := uX I (qb2 ok2) id' ru
 have c2 := qcy ok2
 have hlen : its.length = ds.length := by rw [<- r.length]; exact il.length
 have rds : ∀ m (hm : m < ds.length), ∃ as, Reads s.heap (its[m]'(by omega)) (jL ds[m]) as /\ (jL ds[m]).canLay0 = true /\ (jL ds[m]).depth <= 50 := fun m hm => by
  obtain ⟨x1, h1, h2⟩ := il.get (gG hm)
  obtain ⟨u1, h3, h4⟩ := r.get h1
  rw [gG (show m < its.length by omega)] at h3
  cases h3
  have ok := List.all_eq_true.mp ok1 ds[m] (List.getElem_mem hm)
  obtain ⟨as, ra, _⟩ := uX I (qb2 ok) h2 h4
  exact ⟨as, ra, qcy ok⟩
 rw [List.findIdx?_eq_some_iff_getElem] at hj
 obtain ⟨h1, h2, h3⟩ := hj
 have hz : ds.length <= sizeLine := by rw [<- il.length]; exact z
 rw [sizeLine_eq] at hz
 have hu := hr.units
 have val : ∀ m (hm : m < ds.length), PyData.eqv (SeqAt.readOf s.heap (its[m]'(by omega))) (jL d) = PyData.eqv (jL ds[m]) (jL d) := fun m hm => by
  obtain ⟨as, ra, c1, _⟩ := rds m hm
  rw [SeqAt.readOf_eq c1 ra]
 refine call_meets PySem.F.slot_list_index ⟨_, e, rfl⟩ PySem.F.entry_list_index (PySem.F.args_list_index_2 _ _) (SeqAt.list_indexAt l its.toArray n none #[] u (fun y => PyData.eqv (SeqAt.readOf s.heap y) (jL d)) j (by simpa [hlen] using h1) (by omega) ?_ ?_) ⟨e, fun y hy => ?_, ?_⟩
 ·simp only [List.getElem_toArray]
  rw [val j h1]
  exact h2
 ·intro m hm hmj
  have hm' : m < ds.length := by omega
  simp only [List.getElem_toArray]
  rw [val m hm']
  have := h3 m hmj
  simpa using this
 ·have hy' : y ∈ its := by simpa using hy
  obtain ⟨i, hi⟩ := List.mem_iff_getElem?.mp hy'
  obtain ⟨hi1, hi2⟩ := gI_.mp hi
  subst hi2
  obtain ⟨as, ra, c1, d1⟩ := rds i (by omega)
  show SeqAt.EqAt _ _ _ _ (PyData.eqv (SeqAt.readOf s.heap its[i]) (jL d))
  rw [SeqAt.readOf_eq c1 ra]
  exact SeqAt.eqAt_reads _ _ _ _ _ _ _ _ ra rd c1 c2.1 (by show X.A.units + 1 + min _ _ < cLine; omega)
 ·exact ⟨.int _, H, I.tok _, ⟨s.toks, rfl⟩, q⟩
def qdp (x : D) (ys : List D) : Option D := match x, ys with
 | .lst ds, [d] => if ds.all wR && wR d then (ds.findIdx? fun e => PyData.eqv (jL e) (jL d)).map fun j => .int j else none
 | _, _ => none
theorem qdq {K : Fr0} : qm1 K qdp (qho K) := by
 intro A H x ys d v vs Q hn ix iy e k
 unfold qdp at e
 split at e
 ·rename_i ds y
  obtain ⟨u, rfl, e2⟩ := IsL.inv1 iy
  obtain ⟨a, xs, rfl, _, ta, il⟩ := ix
  split at e
  ·rename_i hok
   rw [Bool.and_eq_true] at hok
   cases ej : ds.findIdx? (fun e => PyData.eqv (jL e) (jL y)) with
   | none => rw [ej] at e; cases e
   | some j =>
    rw [ej] at e
    cases e
    exact ⟨a, xs, ds, y, u, A, j, rfl, rfl, ta, il, e2, hok.1, hok.2, ej, k _ H (jY.refl H) rfl⟩
  ·cases e
 ·cases e
theorem qe3 {prog : Program} {w : World} {A : Around} (hh : A.handled = none) (it tu : Addr) (hne : tu ≠ it) (arr : Array Value) :
  Draws prog w A it [it, tu] arr.size (fun i x => arr[i]? = some x) (fun i h => h.IsListIter it tu i /\ h.IsList tu arr) where
 live := fun i h st => by obtain ⟨⟨o, e, _⟩, _⟩ := st; exact ⟨o, e⟩
 frame := fun i h h' st k => by
  obtain ⟨h1, o, e, r⟩ := st
  exact ⟨h1.at fun o q => k it (by simp) o q, o, k tu (by simp) o e, r⟩
 item := fun i s Q E hi st q => wpAny_nextOf_list_item st.1 st.2 (Array.getElem?_eq_getElem hi) fun h' h1 sb => q _ h' s.toks (Array.getElem?_eq_getElem hi) ⟨h1, by
  obtain ⟨o, e, r⟩ := st.2
  exact ⟨o, sb.extBut _ _ hne e, r⟩⟩ sb
 done := fun s Q E st q => wpAny_nextOf_list_end hh st.1 st.2 (Array.getElem?_eq_none (Nat.le_refl _)) q
section
variable {prog : Program} {w : World} {A : Around} {E : Value -> Shared -> Prop} {s : Shared}
theorem qf0 {l : Addr} {xs : Array Value} {Q : Value -> Shared -> Prop} (t1 : s.heap.IsList l xs)
  (fin : ∀ h', IsEnum h' (s.heap.objs.size + 1) s.heap.objs.size 0 .none -> h'.IsListIter s.heap.objs.size l 0 -> (∀ c o, s.heap.get? c = some o -> h'.get? c = some o) -> Q (.ref (s.heap.objs.size + 1)) { s with heap := h' }) :
  wpAny (model prog w) A (call (.type "enumerate") [.ref l]) Q E s := by
 have meets : Meets (Builtin.«enumerate.__new__» ⟨[.type "enumerate", .ref l], []⟩) (fun _ R s => s.heap.IsList l xs /\
   R (.ok (.ret (.ref (s.heap.objs.size + 1)))) { s with heap := (s.heap.push { cls := .type "list_iterator", data := .fields #[.ref l, .int 0 0] }).push { cls := .type "enumerate", data := .fields #[.none, .bool false, .ref s.heap.objs.size, rawInt 0, .none, .none] } }) :=
  .of_wp fun prog w A R s h => by
   obtain ⟨hp, g, d, tk, os⟩ := s
   obtain ⟨ha, h⟩ := h
   have hsub := sub_enumerate
   have hA : Heap.IsList (Shared.heap ⟨hp, g, d, tk, os⟩) l xs := ha
   obtain ⟨o, ho, _⟩ := id ha
   have ho' : hp.get? l = some o := ho
   wp_walk using AutoSeq1.wpAny_loadPart' ho'
   refine wpAny_stack_any fun st => wpAny_pure ?_
   split
   ·rename_i c _ _ _ _ _
    cases (c == Value.type "enumerate")
    ·wp_walk using AutoSeq1.wpAny_loadPart' ho', wpAny_pyIter_list hA
     simp only [Heap.size_push] at *
     exact ⟨_, rfl, h⟩
    ·wp_walk using AutoSeq1.wpAny_loadPart' ho', wpAny_pyIter_list hA
     simp only [Heap.size_push] at *
     exact ⟨_, rfl, h⟩
   ·wp_walk using AutoSeq1.wpAny_loadPart' ho', wpAny_pyIter_list hA
    simp only [Heap.size_push] at *
    exact ⟨_, rfl, h⟩
 refine callType_new F.called_enumerate (by decide) (F.typeCall_enumerate_1 _) (F.newCall_enumerate_1 _) (fun obj => F.args_object_init_2 obj _) F.entry_enumerate_new meets ⟨t1, ?_⟩
 generalize e1 : s.heap.push { cls := .type "list_iterator", data := .fields #[.ref l, .int 0 0] } = m1
 have s1 : m1.objs.size = s.heap.objs.size + 1 := by rw [<- e1, Heap.size_push]
 have q1 : m1.get? s.heap.objs.size = some { cls := .type "list_iterator", data := .fields #[.ref l, .int 0 0] } := by rw [<- e1]; exact Heap.get?_push_size _ rfl
 have k1 : ∀ c o, s.heap.get? c = some o -> m1.get? c = some o := fun c o x => by rw [<- e1]; exact Heap.get?_push_of_some _ x
 generalize e2 : m1.push { cls := .type "enumerate", data := .fields #[.none, .bool false, .ref s.heap.objs.size, rawInt 0, .none, .none] } = m2
 have q2 : m2.get? (s.heap.objs.size + 1) = some { cls := .type "enumerate", data := .fields #[.none, .bool false, .ref s.heap.objs.size, rawInt 0, .none, .none] } := by rw [<- e2, <- s1]; exact Heap.get?_push_size _ rfl
 have k2 : ∀ c o, m1.get? c = some o -> m2.get? c = some o := fun c o x => by rw [<- e2]; exact Heap.get?_push_of_some _ x
 show _ /\ _
 exact ⟨⟨_, q2, rfl⟩, fin m2 q2 ⟨_, k2 _ _ q1, rfl, rfl⟩ fun c o x => k2 _ _ (k1 _ _ x)⟩
end
def qoB (K : Fr0) (a : Addr) (xs : List V) : It :=
 ⟨fun i H => i < xs.length /\ SqL K H a xs, fun i H x H' => ∃ p u, H p = none /\ xs[i]? = some u /\ x = .ref p /\ H' = upd H p (.tup [.int i, u]), fun i H => i = xs.length /\ SqL K H a xs⟩
def qpC (z i1 a1 : Addr) (i : Nat) (h : Heap) : Prop := (∃ old, IsEnum h z i1 i old) /\ h.IsListIter i1 a1 i
theorem qf1 {P : Program} {w : World} {K : Fr0} {es : List Expr} {kk : Nat} {pos : Pos} {z i1 a1 : Addr} {xs : List V} (zi : z ≠ i1) (za : z ≠ a1) (n1 : a1 ≠ i1) :
  qjz P w K (.Tuple es kk pos) (qoB K a1 xs) [z, i1] z (qpC z i1 a1) where
 mem := by simp
 obj := fun i h st b hb => by
  obtain ⟨⟨old, h1⟩, ⟨o4, h4, c4, d4⟩⟩ := st
  simp only [List.mem_cons, nN_, or_false] at hb
  rcases hb with rfl | rfl
  ·exact ⟨_, h1, fun v e => by cases (show Data.fields _ = Data.cell v from e)⟩
  ·exact ⟨_, h4, fun v e => by rw [d4] at e; cases e⟩
 keep := fun i h h' st k => by
  obtain ⟨⟨old, h1⟩, h4⟩ := st
  exact ⟨⟨old, k z (by simp) _ h1⟩, h4.at fun o e => k i1 (by simp) o e⟩
 item := by
  intro X hP hw hK hc i pins s Z H E I hf st hg
  subst hP hw hK
  obtain ⟨hlt, hx⟩ := hg
  obtain ⟨⟨old, h1⟩, h4⟩ := st
  obtain ⟨it1, r1, p1, z1⟩ := I.list hx
  have l1 : i < it1.toArray.size := by rw [sT_, <- r1.length]; omega
  have hh : X.A.in1.handled = none := I.ok.hd hc
  refine wpAny_pyNext_enum_itemD (qe3 hh i1 a1 n1 it1.toArray) h1 ⟨h4, p1.isList⟩ l1 zi (by simp [zi, za]) fun x h' tk px ho u1 new hsz kp => ?_
  refine ⟨.ref s.heap.objs.size, rfl, wpAny_letOwnedTupleGo_enum ho fun h2' zz2 sb => ?_⟩
  obtain ⟨xv, hxv⟩ : ∃ v, xs[i]? = some v := ⟨xs[i]'(by omega), gG (by omega)⟩
  obtain ⟨x', ex, rx⟩ := r1.get hxv
  have exx : x' = x := by
   have : it1.toArray[i]? = some x := px
   rw [List.getElem?_toArray, ex] at this
   exact Option.some.inj this
  subst exx
  have lz : z < s.heap.objs.size := Heap.lt_size h1
  have keep : ∀ b u, b ∉ [z, i1] -> s.heap.get? b = some u -> h2'.get? b = some u := fun b u hb e => by
   simp only [List.mem_cons, nN_, or_false, not_or] at hb
   exact (sb.2 b hb.1).trans (kp b u hb.1 hb.2 e)
  have I2 : Inv X pins Z (upd H s.heap.objs.size (.tup [.int i, xv])) { s with heap := h2', toks := tk + 1 } :=
   qea I keep hf (Nat.le_refl _) ⟨by show 2 <= sizeLine; decide, [.int i tk, x'], .cons ⟨tk, rfl⟩ (.cons rx .nil), ⟨_, (sb.2 _ (Nat.ne_of_gt lz)).trans new, rfl, _, rfl⟩⟩
  refine ⟨.ref s.heap.objs.size, upd H s.heap.objs.size (.tup [.int i, xv]), I2, rfl, ⟨s.heap.objs.size, xv, I.hok.fresh (Nat.le_refl _), hxv, rfl, rfl⟩, ?_, fun b hb => ?_⟩
  ·exact ⟨⟨_, by simpa using zz2⟩, u1.1.at fun o e => (sb.2 i1 zi.symm).trans e⟩
  ·have hb1 : b ≠ s.heap.objs.size := by
    simp only [List.mem_cons, nN_, or_false] at hb
    obtain ⟨o4, g4, _⟩ := h4
    rcases hb with rfl | rfl
    ·exact Nat.ne_of_lt (Heap.lt_size h1)
    ·exact Nat.ne_of_lt (Heap.lt_size g4)
   rw [qJ hb1]
   exact (hf b hb).1
 done := by
  intro X hP hw hK hc i pins s Z H E I hf st hg
  subst hP hw hK
  obtain ⟨hlt, hx⟩ := hg
  obtain ⟨⟨old, h1⟩, h4⟩ := st
  obtain ⟨it1, r1, p1, z1⟩ := I.list hx
  have hh : X.A.in1.handled = none := I.ok.hd hc
  have e : i = it1.toArray.size := by rw [sT_, <- r1.length]; exact hlt
  subst e
  refine wpAny_pyNext_enum_endD (qe3 hh i1 a1 n1 it1.toArray) h1 ⟨h4, p1.isList⟩ fun h' kp => ⟨rfl, qeb (t' := s.toks) I (fun b u hb e => ?_) hf⟩
  simp only [List.mem_cons, nN_, or_false, not_or] at hb
  exact kp b u hb.2 e
 self := fun A i s Q E st h => by
  obtain ⟨⟨old, h1⟩, _⟩ := st
  exact wpAny_pyIter_enum h1 h
section
variable {X : Cx} {c : Fc} {a b e : Expr} {pos : Pos} {es : List Expr} {kk : Nat} {tp : Pos}
def qm5 (K : Fr0) (ta : TA) : TI := fun Z H R => ta Z H fun vs H1 => ∃ a1 xs, vs = [.ref a1] /\ SqL K H1 a1 xs /\ R (qoB K a1 xs) H1
theorem qiW {ta : TA} {p : Pos} (hg : Gl X "enumerate") (hm : X.mg "enumerate" = none) (ha : PA X [a] ta) (hs : starEach [a] X.env = [(false, eval a X.env)] := by rfl) :
  PI X (.Tuple es kk tp) (.Call (.Name "enumerate" p) [a] [] pos) (qm5 X.K ta) := by
 intro pins s Z H R I h
 refine Call_ (wm I hg hm PyProof.Rows.boot_enumerate (PyProof.Rows.callWith_type1 (thn (ha pos pins s Z H _ I h) fun us s1 ⟨vs, H1, I1, r1, q1⟩ => ?_) (by rw [hs]; rfl) (by rfl)))
 obtain ⟨a1, xs, e1, hx, q⟩ := q1
 subst e1
 obtain ⟨u1, rfl, ru1⟩ := zD.one r1
 cases (show u1 = Value.ref a1 from ru1)
 obtain ⟨it1, v1, p1, z1⟩ := I1.list hx
 refine qf0 (show s1.heap.IsList a1 it1.toArray from p1.isList) fun h' zz g1 kp => ?_
 refine wpAny_pyIter_enum zz ?_
 have la1 : a1 < s1.heap.objs.size := by obtain ⟨o, e, _⟩ := p1.isList; exact Heap.lt_size e
 refine ⟨s1.heap.objs.size + 1, [s1.heap.objs.size + 1, s1.heap.objs.size], _, _, H1, rfl, I1.kept (t' := s1.toks) kp, qf1 (xs := xs) (Nat.succ_ne_self _) (Nat.ne_of_gt (Nat.lt_succ_of_lt la1)) (Nat.ne_of_lt la1), ⟨⟨_, zz⟩, g1⟩, fun b hb => ?_, q⟩
 simp only [List.mem_cons, nN_, or_false] at hb
 have hb2 : s1.heap.objs.size <= b := by
  rcases hb with e | e <;> rw [e]
  ·exact Nat.le_add_right _ _
  ·exact Nat.le_refl _
 exact I1.fpOk hb2 (I1.hok.fresh hb2)
end
section
variable {X : Cx} {c : Fc} {a b e : Expr} {pos : Pos} {es : List Expr} {kk : Nat} {tp : Pos}
theorem qiX {K : Fr0} {A : Addr -> Prop} {H : Hp} {ds : List D} {xs : List V} {a1 : Addr} (hA : A a1) (t1 : H a1 = some (.lst xs)) (i1 : IsL K A H ds xs) : qgP K A H (uv 0 ds) (qoB K a1 xs) where
 go := fun H' i d ex hd => by
  have hl : i < (uv 0 ds).length := (gI_.mp hd).1
  rw [vx, <- i1.length] at hl
  exact ⟨hl, SqL.of (ex.at_ _ _ hA t1)⟩
 yl := fun H' i d x H'' ex hd y => by
  obtain ⟨p, u, hp, hu, rfl, rfl⟩ := y
  obtain ⟨dx, h1, rfl⟩ := qbq hd
  obtain ⟨u', g1, g2⟩ := i1.get h1
  rw [hu] at g1
  cases g1
  have sm := qy hp (.tup [.int i, u])
  exact ⟨sm, p, [.int i, u], rfl, .inl qA, .int i, [u], rfl, by rw [Nat.zero_add]; rfl, u, [], rfl, Is.ext (Ext.of_same sm) (fun _ h _ => h) (Is.ext ex (fun _ h _ => h) g2), rfl⟩
 stop := fun H' ex => ⟨by rw [vx, i1.length], SqL.of (ex.at_ _ _ hA t1)⟩
def qjZ : List D -> Option (List D)
 | [.lst xs] => some (uv 0 xs)
 | _ => none
def qe4 (f : M (List D)) : M (List D) := bnd f fun ds => lift (qjZ ds)
theorem qiY {f : M (List D)} {p : Pos} (hg : Gl X "enumerate") (hm : X.mg "enumerate" = none) (ha : DA X c [a] f) (hs : starEach [a] X.env = [(false, eval a X.env)] := by rfl) :
  DI X c (.Tuple es kk tp) (.Call (.Name "enumerate" p) [a] [] pos) (qe4 f) := by
 obtain ⟨t, pa, w⟩ := ha
 refine ⟨_, qiW hg hm pa hs, fun U Z H Q r h => w U Z H _ r (WpL.bndI h fun ds U1 vs H1 r1 i1 g1 h1 => ?_)⟩
 obtain ⟨es', e, h2⟩ := uW h1
 unfold qjZ at e
 split at e
 ·obtain ⟨v, rfl, j1⟩ := IsL.inv1 i1
  cases e
  obtain ⟨a1, xs, rfl, hA, t1, il1⟩ := Is.tr j1
  exact ⟨a1, xs, rfl, SqL.of t1, h2 _ H1 r1 (qiX hA t1 il1) .refl⟩
 ·cases e
end
section
variable {X : Cx} {c : Fc} {pos : Pos}
end
section
variable {prog : Program} {w : World} {A : Around} {E : Value -> Shared -> Prop} {s : Shared}
end
end L2.Sk
namespace L2
open PySem PySem.Spec PyProof.Rows L2.Sk
section
variable {X : Cx} {tg : Expr}
end
end L2
namespace L2.Sk
open PySem PySem.Spec PyProof.Rows
section
variable {X : Cx} {tg iter elt : Expr} {ifs : List Expr} {scope : Scope} {pos : Pos} {wi : TI} {N' : List Str} {nt : Nat} {fr : List Nat}
end
section
variable {X : Cx} {c : Fc} {tg a b e : Expr} {pos : Pos}
end
section
variable {X : Cx} {c : Fc} {e : Expr} {es : List Expr} {pos : Pos}
end
theorem qdr (a d : Value) : argsOk "min" ⟨[a], [(("default" : Str), d)]⟩ := by unfold argsOk; kernel_rfl
theorem qds (a d : Value) : argsOk "max" ⟨[a], [(("default" : Str), d)]⟩ := by unfold argsOk; kernel_rfl
theorem zW {prog : Program} {w : World} {A : Around} {E : Value -> Shared -> Prop} {s : Shared} {id : String} {b : Builtin} {args : List Value} {kw : List (Str × Value)} {Q : Value -> Shared -> Prop} (hk : builtinKind id = none) (hp : plainId id = true) (hb : entryFor table id = some b) (ha : argsOk id ⟨args, kw⟩)
  (hc : wpAny (model prog w) A.in1 (b ⟨args, kw⟩) (fun fin s2 => match fin with
   | .done f => (match (Except.ok f : Result) with | .ok (.ret v) => Q v s2 | .ok _ => False | .error e => E e s2)
   | .again c2 => c2.quiet = true /\ codeAny (model prog w) A c2 (fun r s3 => match r with | .ok (.ret v) => Q v s3 | .ok _ => False | .error e => E e s3) s2) E s) :
  wpAny (model prog w) A (call (.builtin id) args kw) Q E s := by
 refine wpAny_call (codeAny_call_builtin hp hb ?_)
 simp only [checkBuiltinCall, hk]
 cases es : Manifest.signature? id with
 | none => exact wpAny_pure hc
 | some sg =>
  simp only [argsOk, es] at ha
  have h2 : Bind.checkArgs id sg ⟨args, kw⟩ = pure () := ha
  show wpAny _ A.in1 (Bind.checkArgs id sg ⟨args, kw⟩) _ _ s
  rw [h2]
  exact wpAny_pure hc
def qhq (X : Cx) (f : Value) (ks : List Str) (r : List V -> List V -> Hp -> VK -> Prop) : Prop := ∀ (pins : List (Addr × Obj)) (s : Shared) (Z : St) (H : Hp) (xs : List V) (us : List Value) (zs : List V) (ws : List Value) (Q : VK), Inv X pins Z H s -> zD xs us -> zD zs ws -> r xs zs H Q ->
 wpAny (model X.prog X.w) X.A (call f us (ks.zip ws)) (EP X pins Z Q) X.xe s
theorem qhr {X : Cx} {x : Str} {p pos : Pos} {e : Expr} {es : List Expr} {kws : List Keyword} {t tk : TA} {id : String} {ks : List Str} {r : List V -> List V -> Hp -> VK -> Prop} (hc : qhq X (.builtin id) ks r) (hg : Gl X x) (hm : X.mg x = none) (hv : bootBuiltins x = some (.builtin id)) (ha : PA X (e :: es) t) (hkw : PK X kws tk)
  (hall : (backToKw pos (keywordEach kws X.env)).all (·.1.isSome) = true := by rfl) (hks : (backToKw pos (keywordEach kws X.env)).filterMap (·.1) = ks := by rfl) (hn : x ≠ "__name__" := by decide) (hdb : (x == ("__debug__" : Str)) = false := by decide)
  (he : starEach (e :: es) X.env = (false, eval e X.env) :: starEach es X.env := by rfl) (hpl : ((backTo pos (starEach (e :: es) X.env)).any (·.1) || (backToKw pos (keywordEach kws X.env)).any (·.1.isNone)) = false := by rfl) :
  PE X (.Call (.Name x p) (e :: es) kws pos) (fun Z H Q => t Z H fun vs H1 => tk Z H1 fun zs H2 => r vs zs H2 Q) := by
 intro pins s Z H Q I h
 refine wpAny_Call_Name_kw (wm I hg hm hv ?_ hn hdb)
 refine PySem.W.callWith_of (P := fun _ => True) hpl (fun _ _ => ⟨.machine, .inr (.inl rfl), .now⟩) (evalArgs_kw2 hall (thn (ha pos pins s Z H _ I h) fun us s1 ⟨vs, H1, I1, r1, q1⟩ => ?_) he)
 refine thn (hkw pos pins s1 Z H1 _ I1 q1) fun ws s2 ⟨zs, H2, I2, rz, q2⟩ => ⟨trivial, ?_⟩
 rw [hks, List.nil_append]
 exact hc pins s2 Z H2 vs us zs ws Q I2 r1 rz q2
section
variable {prog : Program} {w : World} {A : Around} {R : Result -> Shared -> Prop} {I : Addr} {fp wr : List Addr} {n : Nat} {P : Nat -> Value -> Prop} {St : Nat -> Heap -> Prop} {dv : Value}
structure qdt (prog : Program) (w : World) (A : Around) (P : Nat -> Value -> Prop) (bt : Nat -> Nat -> Bool) (Ok : Heap -> Prop) (wr : List Addr) (Z : Addr) : Prop where
 cmp : ∀ (i j : Nat) (x y : Value) (s : Shared) (Q E : Value -> Shared -> Prop), P i x -> P j y -> Ok s.heap -> Q (.bool (bt i j)) s -> wpAny (model prog w) A (richCompare .Lt x y) Q E s
 old : ∀ h h' : Heap, Ok h -> (∀ b o, b ∉ wr -> b ≠ Z -> h.get? b = some o -> h'.get? b = some o) -> Ok h'
theorem qhs (W : Walks prog w A.in1 I fp wr n P St) {bt : Nat -> Nat -> Bool} {Ok : Heap -> Prop} {Z : Addr} (gZ : Z ∉ fp) (C : qdt prog w A.in1 P bt Ok wr Z) :
  ∀ (m q : Nat) (s : Shared) (best : Value) (z : Nat), n = q + 1 + m -> St (q + 1) s.heap -> P (argBest bt q) best -> Ok s.heap ->
  s.heap.get? Z = some { cls := .type "list", dict := none, data := .seq #[best, best] z, slots := #[] } ->
  (∀ y h2 t2, P (argBest bt (n - 1)) y -> (∀ b o, b ∉ wr -> b ≠ Z -> s.heap.get? b = some o -> h2.get? b = some o) -> R (.ok (.ret y)) { s with heap := h2, toks := t2 }) ->
  codeAny (model prog w) A (.builtin "min.loop" ⟨[.ref I, .none, .ref Z], [(("default" : Str), dv)]⟩) R s := by
 have gw : Z ∉ wr := fun e => gZ (W.sub _ e)
 have nm : (toString "min" ++ toString ".loop" : String) = "min.loop" := by decide
 intro m
 induction m with
 | zero =>
  intro q s best z en est eP eO eZ fin
  have eq1 : q + 1 = n := by omega
  have st' : St n s.heap := eq1 ▸ est
  refine codeAny_builtin PySem.F.entry_min_loop (by
   rw [Around.under_plainId PySem.F.plain_min_loop _]
   refine wpAny_bind (wpAny_seqItems eZ rfl ?_)
   refine wpAny_bind (wpAny_tryCatch (W.done s _ _ st' fun h1 t1 k1 => ?_))
   have eZ1 := k1 Z _ gw eZ
   refine wpAny_bind (wpAny_updateSeq eZ1 rfl (wpAny_bind (wpAny_letGo (wpAny_pure ?_))))
   exact fin best _ t1 (by rw [<- eq1]; exact eP) fun b o nb nz g => (Heap.get?_update_other _ _ (Ne.symm nz)).trans (k1 b o nb g))
 | succ m ih =>
  intro q s best z en est eP eO eZ fin
  have lt1 : q + 1 < n := by omega
  refine codeAny_builtin PySem.F.entry_min_loop (by
   rw [Around.under_plainId PySem.F.plain_min_loop _]
   refine wpAny_bind (wpAny_seqItems eZ rfl ?_)
   refine wpAny_bind (wpAny_tryCatch (W.item (q + 1) s _ _ lt1 est fun x h1 t1 eP1 est1 k1 => ?_))
   have eZ1 := k1 Z _ gw eZ
   have eO1 : Ok h1 := C.old _ _ eO fun b o nb _ g => k1 b o nb g
   refine wpAny_bind (wpAny_pure (wpAny_bind (wpAny_tryCatch (wpAny_holding (wpAny_bind (C.cmp (q + 1) (argBest bt q) x best _ _ _ eP1 eP eO1 ?_))))))
   refine wpAny_bind (wpAny_holding (wpAny_truthy_bool (wpAny_bind (wpAny_letGo (wpAny_pure ?_)))))
   cases less : bt (q + 1) (argBest bt q) with
   | true =>
    refine wpAny_bind (wpAny_updateSeq eZ1 rfl (wpAny_bind (wpAny_letGo ?_)))
    rw [nm]
    refine wpAny_pure ⟨plainId_quiet PySem.F.plain_min_loop _, ?_⟩
    refine ih (q + 1) _ x _ (by omega) (W.frame _ _ _ est1 fun b nb o g => ?_) (by simp only [argBest, less, if_true]; exact eP1) (C.old _ _ eO1 fun b o _ nz g => ?_) (Heap.get?_update_self _ eZ1 rfl) fun y h2 t2 eP2 k2 => ?_
    ·exact (Heap.get?_update_other _ _ (fun e : Z = b => gZ (by rw [e]; exact nb))).trans g
    ·exact (Heap.get?_update_other _ _ (Ne.symm nz)).trans g
    ·exact fin y h2 t2 eP2 fun b o nb nz g => k2 b o nb nz ((Heap.get?_update_other _ _ (Ne.symm nz)).trans (k1 b o nb g))
   | false =>
    refine wpAny_bind (wpAny_letGo ?_)
    rw [nm]
    refine wpAny_pure ⟨plainId_quiet PySem.F.plain_min_loop _, ?_⟩
    refine ih (q + 1) _ best z (by omega) est1 (by simp only [argBest, less, Bool.false_eq_true, if_false]; exact eP) eO1 eZ1 fun y h2 t2 eP2 k2 => ?_
    exact fin y h2 t2 eP2 fun b o nb nz g => k2 b o nb nz (k1 b o nb g))
theorem qf2 (W : Walks prog w A.in1 I fp wr n P St) {bt : Nat -> Nat -> Bool} {Ok : Heap -> Prop} {Z : Addr} (gZ : Z ∉ fp) (C : qdt prog w A.in1 P bt Ok wr Z) {s : Shared} {z : Nat} (hn : 0 < n) (est : St 0 s.heap) (eO : Ok s.heap)
  (eZ : s.heap.get? Z = some { cls := .type "list", dict := none, data := .seq #[] z, slots := #[] })
  (fin : ∀ y h2 t2, P (argBest bt (n - 1)) y -> (∀ b o, b ∉ wr -> b ≠ Z -> s.heap.get? b = some o -> h2.get? b = some o) -> R (.ok (.ret y)) { s with heap := h2, toks := t2 }) :
  codeAny (model prog w) A (.builtin "min.loop" ⟨[.ref I, .none, .ref Z], [(("default" : Str), dv)]⟩) R s := by
 have gw : Z ∉ wr := fun e => gZ (W.sub _ e)
 have nm : (toString "min" ++ toString ".loop" : String) = "min.loop" := by decide
 refine codeAny_builtin PySem.F.entry_min_loop (by
  rw [Around.under_plainId PySem.F.plain_min_loop _]
  refine wpAny_bind (wpAny_seqItems eZ rfl ?_)
  refine wpAny_bind (wpAny_tryCatch (W.item 0 s _ _ hn est fun x h1 t1 eP1 est1 k1 => ?_))
  have eZ1 := k1 Z _ gw eZ
  have eO1 : Ok h1 := C.old _ _ eO fun b o nb _ g => k1 b o nb g
  refine wpAny_bind (wpAny_pure (wpAny_bind (wpAny_updateSeq eZ1 rfl ?_)))
  rw [nm]
  refine wpAny_pure ⟨plainId_quiet PySem.F.plain_min_loop _, ?_⟩
  refine qhs W gZ C (n - 1) 0 _ x _ (by omega) (W.frame _ _ _ est1 fun b nb o g => ?_) eP1 (C.old _ _ eO1 fun b o _ nz g => ?_) (Heap.get?_update_self _ eZ1 rfl) fun y h2 t2 eP2 k2 => ?_
  ·exact (Heap.get?_update_other _ _ (fun e : Z = b => gZ (by rw [e]; exact nb))).trans g
  ·exact (Heap.get?_update_other _ _ (Ne.symm nz)).trans g
  ·exact fin y h2 t2 eP2 fun b o nb nz g => k2 b o nb nz ((Heap.get?_update_other _ _ (Ne.symm nz)).trans (k1 b o nb g)))
end
section
variable {prog : Program} {w : World} {A : Around} {E : Value -> Shared -> Prop} {s : Shared}
theorem qm6 {l : Addr} {dv : Value} {its : Array Value} {bt : Nat -> Nat -> Bool} {Q : Value -> Shared -> Prop} (hh : A.handled = none) (hl : s.heap.IsList l its) (hne : 0 < its.size)
  (hc : ∀ (i j : Nat) (x y : Value) (s1 : Shared) (Q E : Value -> Shared -> Prop), its[i]? = some x -> its[j]? = some y -> (∀ b o, s.heap.get? b = some o -> s1.heap.get? b = some o) -> Q (.bool (bt i j)) s1 -> wpAny (model prog w) A.in1 (richCompare .Lt x y) Q E s1)
  (fin : ∀ y h' tk, its[argBest bt (its.size - 1)]? = some y -> (∀ b o, s.heap.get? b = some o -> h'.get? b = some o) -> Q y { s with heap := h', toks := tk }) :
  wpAny (model prog w) A (call (.builtin "min") [.ref l] [(("default" : Str), dv)]) Q E s := by
 have nm : (toString "min" ++ toString ".loop" : String) = "min.loop" := by decide
 refine zW PySem.F.kind_min PySem.F.plain_min PySem.F.entry_min (qdr _ _) ?_
 refine wpAny_bind (wpAny_of_eq (show Builtin.Builtins.bindParams "min" ["key", "default"] 0 ⟨[], [(("default" : Str), dv)]⟩ = pure [none, some dv] from rfl) (wpAny_bind (wpAny_pure ?_)))
 refine wpAny_bind (wpAny_pyIter_list hl ?_)
 have la : l < s.heap.objs.size := by obtain ⟨o, e, _⟩ := hl; exact Heap.lt_size e
 have W := Walks.list (prog := prog) (w := w) (A := A.in1) hh s.heap.objs.size l (Nat.ne_of_lt la) its
 refine wpAny_bind (wpAny_newObj_type ?_)
 rw [nm]
 refine wpAny_pure ⟨plainId_quiet PySem.F.plain_min_loop _, ?_⟩
 have up : ∀ b o, s.heap.get? b = some o -> ((s.heap.push { cls := .type "list_iterator", data := .fields #[.ref l, .int 0 0] }).push { cls := .type "list", data := .seq #[] }).get? b = some o := fun b o g => Heap.get?_push_of_some _ (Heap.get?_push_of_some _ g)
 have sz : (s.heap.push { cls := .type "list_iterator", data := .fields #[.ref l, .int 0 0] }).objs.size = s.heap.objs.size + 1 := by simp [Heap.push]
 refine qf2 (Ok := fun h => ∀ b o, s.heap.get? b = some o -> h.get? b = some o) (bt := bt) W (fun z => ?_) ⟨fun i j x y s1 Q E p1 p2 ok q => hc i j x y s1 Q E p1 p2 ok q, fun h h' ok k b o g => k b o (fun z => ?_) (fun z => ?_) (ok b o g)⟩ hne ⟨?_, ?_⟩ up (Heap.get?_push_size _ rfl) fun y h2 t2 p k => ?_
 ·have z' : (s.heap.push { cls := .type "list_iterator", data := .fields #[.ref l, .int 0 0] }).objs.size = s.heap.objs.size \/ (s.heap.push { cls := .type "list_iterator", data := .fields #[.ref l, .int 0 0] }).objs.size = l := by simpa using z
  rw [sz] at z'
  rcases z' with e | e
  ·exact absurd e (Nat.succ_ne_self _)
  ·exact absurd (e ▸ la) (Nat.not_lt.mpr (Nat.le_succ _))
 ·have z' : b = s.heap.objs.size := by simpa using z
  exact Nat.ne_of_lt (Heap.lt_size g) z'
 ·have g' := Heap.lt_size g
  have z' : b = (s.heap.push { cls := .type "list_iterator", data := .fields #[.ref l, .int 0 0] }).objs.size := z
  rw [sz] at z'
  exact absurd (z' ▸ g') (Nat.not_lt.mpr (Nat.le_succ _))
 ·exact ⟨_, Heap.get?_push_of_some _ (Heap.get?_push_size _ rfl), rfl, rfl⟩
 ·exact hl.at fun o e => up l o e
 ·refine fin y h2 t2 p fun b o g => k b o (fun z => ?_) (fun z => ?_) (up b o g)
  ·have z' : b = s.heap.objs.size := by simpa using z
   exact Nat.ne_of_lt (Heap.lt_size g) z'
  ·have g' := Heap.lt_size g
   have z' : b = (s.heap.push { cls := .type "list_iterator", data := .fields #[.ref l, .int 0 0] }).objs.size := z
   rw [sz] at z'
   exact absurd (z' ▸ g') (Nat.not_lt.mpr (Nat.le_succ _))
end
section
variable {prog : Program} {w : World} {A : Around} {R : Result -> Shared -> Prop} {I : Addr} {fp wr : List Addr} {n : Nat} {P : Nat -> Value -> Prop} {St : Nat -> Heap -> Prop} {dv : Value}
structure qdu (prog : Program) (w : World) (A : Around) (P : Nat -> Value -> Prop) (bt : Nat -> Nat -> Bool) (Ok : Heap -> Prop) (wr : List Addr) (Z : Addr) : Prop where
 cmp : ∀ (i j : Nat) (x y : Value) (s : Shared) (Q E : Value -> Shared -> Prop), P i x -> P j y -> Ok s.heap -> Q (.bool (bt i j)) s -> wpAny (model prog w) A (richCompare .Gt x y) Q E s
 old : ∀ h h' : Heap, Ok h -> (∀ b o, b ∉ wr -> b ≠ Z -> h.get? b = some o -> h'.get? b = some o) -> Ok h'
theorem qht (W : Walks prog w A.in1 I fp wr n P St) {bt : Nat -> Nat -> Bool} {Ok : Heap -> Prop} {Z : Addr} (gZ : Z ∉ fp) (C : qdu prog w A.in1 P bt Ok wr Z) :
  ∀ (m q : Nat) (s : Shared) (best : Value) (z : Nat), n = q + 1 + m -> St (q + 1) s.heap -> P (argBest bt q) best -> Ok s.heap ->
  s.heap.get? Z = some { cls := .type "list", dict := none, data := .seq #[best, best] z, slots := #[] } ->
  (∀ y h2 t2, P (argBest bt (n - 1)) y -> (∀ b o, b ∉ wr -> b ≠ Z -> s.heap.get? b = some o -> h2.get? b = some o) -> R (.ok (.ret y)) { s with heap := h2, toks := t2 }) ->
  codeAny (model prog w) A (.builtin "max.loop" ⟨[.ref I, .none, .ref Z], [(("default" : Str), dv)]⟩) R s := by
 have gw : Z ∉ wr := fun e => gZ (W.sub _ e)
 have nm : (toString "max" ++ toString ".loop" : String) = "max.loop" := by decide
 intro m
 induction m with
 | zero =>
  intro q s best z en est eP eO eZ fin
  have eq1 : q + 1 = n := by omega
  have st' : St n s.heap := eq1 ▸ est
  refine codeAny_builtin PySem.F.entry_max_loop (by
   rw [Around.under_plainId PySem.F.plain_max_loop _]
   refine wpAny_bind (wpAny_seqItems eZ rfl ?_)
   refine wpAny_bind (wpAny_tryCatch (W.done s _ _ st' fun h1 t1 k1 => ?_))
   have eZ1 := k1 Z _ gw eZ
   refine wpAny_bind (wpAny_updateSeq eZ1 rfl (wpAny_bind (wpAny_letGo (wpAny_pure ?_))))
   exact fin best _ t1 (by rw [<- eq1]; exact eP) fun b o nb nz g => (Heap.get?_update_other _ _ (Ne.symm nz)).trans (k1 b o nb g))
 | succ m ih =>
  intro q s best z en est eP eO eZ fin
  have lt1 : q + 1 < n := by omega
  refine codeAny_builtin PySem.F.entry_max_loop (by
   rw [Around.under_plainId PySem.F.plain_max_loop _]
   refine wpAny_bind (wpAny_seqItems eZ rfl ?_)
   refine wpAny_bind (wpAny_tryCatch (W.item (q + 1) s _ _ lt1 est fun x h1 t1 eP1 est1 k1 => ?_))
   have eZ1 := k1 Z _ gw eZ
   have eO1 : Ok h1 := C.old _ _ eO fun b o nb _ g => k1 b o nb g
   refine wpAny_bind (wpAny_pure (wpAny_bind (wpAny_tryCatch (wpAny_holding (wpAny_bind (C.cmp (q + 1) (argBest bt q) x best _ _ _ eP1 eP eO1 ?_))))))
   refine wpAny_bind (wpAny_holding (wpAny_truthy_bool (wpAny_bind (wpAny_letGo (wpAny_pure ?_)))))
   cases less : bt (q + 1) (argBest bt q) with
   | true =>
    refine wpAny_bind (wpAny_updateSeq eZ1 rfl (wpAny_bind (wpAny_letGo ?_)))
    rw [nm]
    refine wpAny_pure ⟨plainId_quiet PySem.F.plain_max_loop _, ?_⟩
    refine ih (q + 1) _ x _ (by omega) (W.frame _ _ _ est1 fun b nb o g => ?_) (by simp only [argBest, less, if_true]; exact eP1) (C.old _ _ eO1 fun b o _ nz g => ?_) (Heap.get?_update_self _ eZ1 rfl) fun y h2 t2 eP2 k2 => ?_
    ·exact (Heap.get?_update_other _ _ (fun e : Z = b => gZ (by rw [e]; exact nb))).trans g
    ·exact (Heap.get?_update_other _ _ (Ne.symm nz)).trans g
    ·exact fin y h2 t2 eP2 fun b o nb nz g => k2 b o nb nz ((Heap.get?_update_other _ _ (Ne.symm nz)).trans (k1 b o nb g))
   | false =>
    refine wpAny_bind (wpAny_letGo ?_)
    rw [nm]
    refine wpAny_pure ⟨plainId_quiet PySem.F.plain_max_loop _, ?_⟩
    refine ih (q + 1) _ best z (by omega) est1 (by simp only [argBest, less, Bool.false_eq_true, if_false]; exact eP) eO1 eZ1 fun y h2 t2 eP2 k2 => ?_
    exact fin y h2 t2 eP2 fun b o nb nz g => k2 b o nb nz (k1 b o nb g))
theorem qf3 (W : Walks prog w A.in1 I fp wr n P St) {bt : Nat -> Nat -> Bool} {Ok : Heap -> Prop} {Z : Addr} (gZ : Z ∉ fp) (C : qdu prog w A.in1 P bt Ok wr Z) {s : Shared} {z : Nat} (hn : 0 < n) (est : St 0 s.heap) (eO : Ok s.heap)
  (eZ : s.heap.get? Z = some { cls := .type "list", dict := none, data := .seq #[] z, slots := #[] })
  (fin : ∀ y h2 t2, P (argBest bt (n - 1)) y -> (∀ b o, b ∉ wr -> b ≠ Z -> s.heap.get? b = some o -> h2.get? b = some o) -> R (.ok (.ret y)) { s with heap := h2, toks := t2 }) :
  codeAny (model prog w) A (.builtin "max.loop" ⟨[.ref I, .none, .ref Z], [(("default" : Str), dv)]⟩) R s := by
 have gw : Z ∉ wr := fun e => gZ (W.sub _ e)
 have nm : (toString "max" ++ toString ".loop" : String) = "max.loop" := by decide
 refine codeAny_builtin PySem.F.entry_max_loop (by
  rw [Around.under_plainId PySem.F.plain_max_loop _]
  refine wpAny_bind (wpAny_seqItems eZ rfl ?_)
  refine wpAny_bind (wpAny_tryCatch (W.item 0 s _ _ hn est fun x h1 t1 eP1 est1 k1 => ?_))
  have eZ1 := k1 Z _ gw eZ
  have eO1 : Ok h1 := C.old _ _ eO fun b o nb _ g => k1 b o nb g
  refine wpAny_bind (wpAny_pure (wpAny_bind (wpAny_updateSeq eZ1 rfl ?_)))
  rw [nm]
  refine wpAny_pure ⟨plainId_quiet PySem.F.plain_max_loop _, ?_⟩
  refine qht W gZ C (n - 1) 0 _ x _ (by omega) (W.frame _ _ _ est1 fun b nb o g => ?_) eP1 (C.old _ _ eO1 fun b o _ nz g => ?_) (Heap.get?_update_self _ eZ1 rfl) fun y h2 t2 eP2 k2 => ?_
  ·exact (Heap.get?_update_other _ _ (fun e : Z = b => gZ (by rw [e]; exact nb))).trans g
  ·exact (Heap.get?_update_other _ _ (Ne.symm nz)).trans g
  ·exact fin y h2 t2 eP2 fun b o nb nz g => k2 b o nb nz ((Heap.get?_update_other _ _ (Ne.symm nz)).trans (k1 b o nb g)))
end
section
variable {prog : Program} {w : World} {A : Around} {E : Value -> Shared -> Prop} {s : Shared}
theorem qhu {l : Addr} {dv : Value} {its : Array Value} {bt : Nat -> Nat -> Bool} {Q : Value -> Shared -> Prop} (hh : A.handled = none) (hl : s.heap.IsList l its) (hne : 0 < its.size)
  (hc : ∀ (i j : Nat) (x y : Value) (s1 : Shared) (Q E : Value -> Shared -> Prop), its[i]? = some x -> its[j]? = some y -> (∀ b o, s.heap.get? b = some o -> s1.heap.get? b = some o) -> Q (.bool (bt i j)) s1 -> wpAny (model prog w) A.in1 (richCompare .Gt x y) Q E s1)
  (fin : ∀ y h' tk, its[argBest bt (its.size - 1)]? = some y -> (∀ b o, s.heap.get? b = some o -> h'.get? b = some o) -> Q y { s with heap := h', toks := tk }) :
  wpAny (model prog w) A (call (.builtin "max") [.ref l] [(("default" : Str), dv)]) Q E s := by
 have nm : (toString "max" ++ toString ".loop" : String) = "max.loop" := by decide
 refine zW PySem.F.kind_max PySem.F.plain_max PySem.F.entry_max (qds _ _) ?_
 refine wpAny_bind (wpAny_of_eq (show Builtin.Builtins.bindParams "max" ["key", "default"] 0 ⟨[], [(("default" : Str), dv)]⟩ = pure [none, some dv] from rfl) (wpAny_bind (wpAny_pure ?_)))
 refine wpAny_bind (wpAny_pyIter_list hl ?_)
 have la : l < s.heap.objs.size := by obtain ⟨o, e, _⟩ := hl; exact Heap.lt_size e
 have W := Walks.list (prog := prog) (w := w) (A := A.in1) hh s.heap.objs.size l (Nat.ne_of_lt la) its
 refine wpAny_bind (wpAny_newObj_type ?_)
 rw [nm]
 refine wpAny_pure ⟨plainId_quiet PySem.F.plain_max_loop _, ?_⟩
 have up : ∀ b o, s.heap.get? b = some o -> ((s.heap.push { cls := .type "list_iterator", data := .fields #[.ref l, .int 0 0] }).push { cls := .type "list", data := .seq #[] }).get? b = some o := fun b o g => Heap.get?_push_of_some _ (Heap.get?_push_of_some _ g)
 have sz : (s.heap.push { cls := .type "list_iterator", data := .fields #[.ref l, .int 0 0] }).objs.size = s.heap.objs.size + 1 := by simp [Heap.push]
 refine qf3 (Ok := fun h => ∀ b o, s.heap.get? b = some o -> h.get? b = some o) (bt := bt) W (fun z => ?_) ⟨fun i j x y s1 Q E p1 p2 ok q => hc i j x y s1 Q E p1 p2 ok q, fun h h' ok k b o g => k b o (fun z => ?_) (fun z => ?_) (ok b o g)⟩ hne ⟨?_, ?_⟩ up (Heap.get?_push_size _ rfl) fun y h2 t2 p k => ?_
 ·have z' : (s.heap.push { cls := .type "list_iterator", data := .fields #[.ref l, .int 0 0] }).objs.size = s.heap.objs.size \/ (s.heap.push { cls := .type "list_iterator", data := .fields #[.ref l, .int 0 0] }).objs.size = l := by simpa using z
  rw [sz] at z'
  rcases z' with e | e
  ·exact absurd e (Nat.succ_ne_self _)
  ·exact absurd (e ▸ la) (Nat.not_lt.mpr (Nat.le_succ _))
 ·have z' : b = s.heap.objs.size := by simpa using z
  exact Nat.ne_of_lt (Heap.lt_size g) z'
 ·have g' := Heap.lt_size g
  have z' : b = (s.heap.push { cls := .type "list_iterator", data := .fields #[.ref l, .int 0 0] }).objs.size := z
  rw [sz] at z'
  exact absurd (z' ▸ g') (Nat.not_lt.mpr (Nat.le_succ _))
 ·exact ⟨_, Heap.get?_push_of_some _ (Heap.get?_push_size _ rfl), rfl, rfl⟩
 ·exact hl.at fun o e => up l o e
 ·refine fin y h2 t2 p fun b o g => k b o (fun z => ?_) (fun z => ?_) (up b o g)
  ·have z' : b = s.heap.objs.size := by simpa using z
   exact Nat.ne_of_lt (Heap.lt_size g) z'
  ·have g' := Heap.lt_size g
   have z' : b = (s.heap.push { cls := .type "list_iterator", data := .fields #[.ref l, .int 0 0] }).objs.size := z
   rw [sz] at z'
   exact absurd (z' ▸ g') (Nat.not_lt.mpr (Nat.le_succ _))
end
section
variable {prog : Program} {w : World} {A : Around} {E : Value -> Shared -> Prop} {s : Shared}
theorem qhv {nm : String} {b : Builtin} {l : Addr} {its : Array Value} {dv : Value} {Q : Value -> Shared -> Prop} (hh : A.handled = none) (hl : s.heap.IsList l its) (he : its.size = 0)
  (hk : nm = "min" \/ nm = "max") (fin : ∀ h' tk, (∀ b o, s.heap.get? b = some o -> h'.get? b = some o) -> Q dv { s with heap := h', toks := tk }) :
  wpAny (model prog w) A (call (.builtin nm) [.ref l] [(("default" : Str), dv)]) Q E s := by
 have la : l < s.heap.objs.size := by obtain ⟨o, e, _⟩ := hl; exact Heap.lt_size e
 have W := Walks.list (prog := prog) (w := w) (A := A.in1) hh s.heap.objs.size l (Nat.ne_of_lt la) its
 have up : ∀ b o, s.heap.get? b = some o -> ((s.heap.push { cls := .type "list_iterator", data := .fields #[.ref l, .int 0 0] }).push { cls := .type "list", data := .seq #[] }).get? b = some o := fun b o g => Heap.get?_push_of_some _ (Heap.get?_push_of_some _ g)
 have st : Heap.IsListIter ((s.heap.push { cls := .type "list_iterator", data := .fields #[.ref l, .int 0 0] }).push { cls := .type "list", data := .seq #[] }) s.heap.objs.size l 0 := ⟨_, Heap.get?_push_of_some _ (Heap.get?_push_size _ rfl), rfl, rfl⟩
 have hl2 := hl.at fun o e => up l o e
 rcases hk with rfl | rfl
 ·have nm : (toString "min" ++ toString ".loop" : String) = "min.loop" := by decide
  refine zW PySem.F.kind_min PySem.F.plain_min PySem.F.entry_min (qdr _ _) ?_
  refine wpAny_bind (wpAny_of_eq (show Builtin.Builtins.bindParams "min" ["key", "default"] 0 ⟨[], [(("default" : Str), dv)]⟩ = pure [none, some dv] from rfl) (wpAny_bind (wpAny_pure ?_)))
  refine wpAny_bind (wpAny_pyIter_list hl (wpAny_bind (wpAny_newObj_type ?_)))
  rw [nm]
  refine wpAny_pure ⟨plainId_quiet PySem.F.plain_min_loop _, codeAny_builtin PySem.F.entry_min_loop ?_⟩
  rw [Around.under_plainId PySem.F.plain_min_loop _]
  refine wpAny_bind (wpAny_seqItems (Heap.get?_push_size _ rfl) rfl ?_)
  refine wpAny_bind (wpAny_tryCatch (W.done _ _ _ ⟨by rw [he]; exact st, hl2⟩ fun h1 t1 k1 => ?_))
  exact wpAny_bind (wpAny_rule (wpAny_pure (fin h1 t1 fun b o g => k1 b o (fun z => by
   have z' : b = s.heap.objs.size := by simpa using z
   exact Nat.ne_of_lt (Heap.lt_size g) z') (up b o g))))
 ·have nm : (toString "max" ++ toString ".loop" : String) = "max.loop" := by decide
  refine zW PySem.F.kind_max PySem.F.plain_max PySem.F.entry_max (qds _ _) ?_
  refine wpAny_bind (wpAny_of_eq (show Builtin.Builtins.bindParams "max" ["key", "default"] 0 ⟨[], [(("default" : Str), dv)]⟩ = pure [none, some dv] from rfl) (wpAny_bind (wpAny_pure ?_)))
  refine wpAny_bind (wpAny_pyIter_list hl (wpAny_bind (wpAny_newObj_type ?_)))
  rw [nm]
  refine wpAny_pure ⟨plainId_quiet PySem.F.plain_max_loop _, codeAny_builtin PySem.F.entry_max_loop ?_⟩
  rw [Around.under_plainId PySem.F.plain_max_loop _]
  refine wpAny_bind (wpAny_seqItems (Heap.get?_push_size _ rfl) rfl ?_)
  refine wpAny_bind (wpAny_tryCatch (W.done _ _ _ ⟨by rw [he]; exact st, hl2⟩ fun h1 t1 k1 => ?_))
  exact wpAny_bind (wpAny_rule (wpAny_pure (fin h1 t1 fun b o g => k1 b o (fun z => by
   have z' : b = s.heap.objs.size := by simpa using z
   exact Nat.ne_of_lt (Heap.lt_size g) z') (up b o g))))
end
section
variable {X : Cx}
def qm7 : List V -> List V -> Hp -> VK -> Prop := fun xs zs H Q => ∃ (p : Addr) (ns : List Int) (z : V), xs = [.ref p] /\ zs = [z] /\ H p = some (.lst (ns.map V.int)) /\ Q (if ns = [] then z else .int (qbL ns)) H
theorem qdv (hc : X.calm = true) : qhq X (.builtin "max") ["default"] qm7 := by
 intro pins s Z H xs us zs0 ws Q I r rz h
 obtain ⟨p, ns, z, rfl, rfl, hp, q⟩ := h
 obtain ⟨u, rfl, ru⟩ := zD.one r
 obtain ⟨w, rfl, rw0⟩ := zD.one rz
 cases ru
 obtain ⟨its, rv, pl, hz⟩ := I.list (SqL.of hp)
 have hl := pl.isList
 have hi : IntsAre its ns := uE rv
 obtain ⟨zs, hx⟩ := hi.allInts.items
 have hl' : s.heap.IsList p (intItems zs) := hx ▸ hl
 have e1 : ns = zs.toList.map (·.1) := by
  rw [<- nums_intItems, <- hx]
  exact (show numsOf its.toArray.toList = ns from hi.numsOf).symm
 by_cases hne : ns = []
 ·rw [if_pos hne] at q
  have hsz : (intItems zs).size = 0 := by
   have : zs.size = zs.toList.length := by simp
   rw [hne] at e1
   have e2 : zs.toList = [] := List.map_eq_nil_iff.mp e1.symm
   simp [intItems, this, e2]
  exact qhv (b := fun _ => pure default) (I.ok.hd hc) hl' hsz (.inr rfl) fun h' tk kp => ⟨z, H, I.kept kp, rw0, q⟩
 ·rw [if_neg hne] at q
  have hsz : 0 < zs.size := by
   cases hzz : zs.toList with
   | nil => rw [hzz] at e1; exact absurd e1 hne
   | cons a b =>
    have : zs.size = zs.toList.length := by simp
    rw [this, hzz]; simp
  refine qhu (bt := fun i j => decide (numAt zs i > numAt zs j)) (I.ok.hd hc) hl' (by simpa [intItems] using hsz) (fun i j x y s1 Q E h1 h2 _ q => CmpOf.ints_gt (numAt zs) (fun _ _ => intItems_at) i j x y s1 Q E h1 h2 q) fun v h' tk hv hk => ?_
  have hv' : (intItems zs)[argBest (fun i j => decide (numAt zs i > numAt zs j)) (zs.size - 1)]? = some v := by simpa [intItems] using hv
  obtain ⟨t, rfl⟩ := intItems_at hv'
  obtain ⟨b1, b2⟩ := argBest_gt (numAt zs) (zs.size - 1)
  have e2 : qbL ns = numAt zs (argBest (fun i j => decide (numAt zs i > numAt zs j)) (zs.size - 1)) := by
   refine qcx ?_ fun n hn => ?_
   ·rw [e1]
    exact List.mem_of_getElem? (uK (by omega))
   ·rw [e1] at hn
    obtain ⟨j, hj⟩ := List.mem_iff_getElem?.mp hn
    have hj2 : j < zs.size := by
     have := (gI_.mp hj).1
     simpa using this
    rw [uK hj2] at hj
    cases hj
    exact b2 j (by omega)
  rw [<- e2]
  exact ⟨.int _, H, I.kept hk, ⟨_, rfl⟩, q⟩
end
def DK (X : Cx) (c : Fc) (kws : List Keyword) (f : M (List D)) : Prop := ∃ t, PK X kws t /\ ∀ U Z H Q, Rep X.K c U Z H -> WpL X.K c Z H Q (f U) -> t Z H Q
section
variable {X : Cx} {c : Fc} {a b e : Expr} {pos : Pos}
theorem qj0 : DK X c [] (ret []) := ⟨_, qmp, fun _ _ H Q r h => h _ H r rfl .refl⟩
theorem qhw {kws : List Keyword} {nm : Option Str} {kpos : Pos} {f : M D} {g : M (List D)} (ha : DE X c e f) (hr : DK X c kws g) : DK X c (⟨nm, e, kpos⟩ :: kws) (qb f g) := by
 obtain ⟨ta, pa, wa⟩ := ha
 obtain ⟨tr, pr, wr⟩ := hr
 refine ⟨_, qkz pa pr, fun U Z H Q r h => wa U Z H _ r (Wp.bndL h fun d U1 v H1 r1 i1 g1 h1 => wr U1 Z H1 _ r1 (WpL.bndL h1 fun ds U2 vs H2 r2 i2 g2 h2 => ?_))⟩
 exact h2 _ H2 r2 ⟨v, vs, rfl, g2.is i1, i2⟩ .refl
def qaa (F : List D -> List D -> Option D) (f g : M (List D)) : M D := bnd f fun xs => bnd g fun zs => lift (F xs zs)
def qj1 (K : Fr0) (F : List D -> List D -> Option D) (r : List V -> List V -> Hp -> VK -> Prop) : Prop := ∀ A H xs zs d vs ws (Q : VK), (∀ a, H a = none -> A a) -> IsL K A H xs vs -> IsL K A H zs ws -> F xs zs = some d -> (∀ u H', jY H H' -> Is K A H' d u -> Q u H') -> r vs ws H Q
theorem qdw {x : Str} {p : Pos} {es : List Expr} {kws : List Keyword} {id : String} {ks : List Str} {r : List V -> List V -> Hp -> VK -> Prop} {F : List D -> List D -> Option D} {f g : M (List D)} (hc : qhq X (.builtin id) ks r) (hF : qj1 X.K F r) (hg : Gl X x) (hm : X.mg x = none) (hv : bootBuiltins x = some (.builtin id)) (ha : DA X c (e :: es) f) (hkw : DK X c kws g)
  (hall : (backToKw pos (keywordEach kws X.env)).all (·.1.isSome) = true := by rfl) (hks : (backToKw pos (keywordEach kws X.env)).filterMap (·.1) = ks := by rfl) (hn : x ≠ "__name__" := by decide) (hdb : (x == ("__debug__" : Str)) = false := by decide)
  (he : starEach (e :: es) X.env = (false, eval e X.env) :: starEach es X.env := by rfl) (hpl : ((backTo pos (starEach (e :: es) X.env)).any (·.1) || (backToKw pos (keywordEach kws X.env)).any (·.1.isNone)) = false := by rfl) :
  DE X c (.Call (.Name x p) (e :: es) kws pos) (qaa F f g) := by
 obtain ⟨t, pa, wa⟩ := ha
 obtain ⟨tk, pk, wk⟩ := hkw
 refine ⟨_, qhr hc hg hm hv pa pk hall hks hn hdb he hpl, fun U Z H Q r0 h => wa U Z H _ r0 (WpL.bnd h fun xs U1 vs H1 r1 i1 g1 h1 => wk U1 Z H1 _ r1 (WpL.bnd h1 fun zs U2 ws H2 r2 i2 g2 h2 => ?_))⟩
 obtain ⟨d, ed, h3⟩ := h2.lift
 exact hF (Cn c Z) H2 xs zs d vs ws Q (fun a ha => r2.new ha) (g2.isL i1) i2 ed fun u H' sm i => h3 u H' (r2.same sm) i (.of_same sm)
end
def qaM (xs zs : List D) : Option D := match xs, zs with
 | [.lst ds], [z] => (vq ds).map fun ns => if ns = [] then z else .int (qbL ns)
 | _, _ => none
theorem qb6 {K : Fr0} : qj1 K qaM qm7 := by
 intro A H xs zs d vs ws Q hn ix iz e k
 unfold qaM at e
 split at e
 ·rename_i ds z
  obtain ⟨v, rfl, a, ys, rfl, _, ta, il⟩ := IsL.inv1 ix
  obtain ⟨w, rfl, iw⟩ := IsL.inv1 iz
  cases eb : vq ds with
  | none => rw [eb] at e; cases e
  | some ns =>
   rw [eb] at e
   have e' : (if ns = [] then z else D.int (qbL ns)) = d := Option.some.inj e
   rw [yO il eb] at ta
   refine ⟨a, ns, w, rfl, rfl, ta, k _ H (jY.refl H) ?_⟩
   rw [<- e']
   by_cases hne : ns = []
   ·rw [if_pos hne, if_pos hne]; exact iw
   ·rw [if_neg hne, if_neg hne]; rfl
 ·cases e
def slB (x : D) (lo hi : Option Int) : Option D := match x with
 | .tup ds => some (.tup (qgO ds lo hi))
 | .lst ds => some (.lst (qgO ds lo hi))
 | _ => none
def qnV (f : M D) (g k : M (Option Int)) : M D := bnd f fun d => bnd g fun l => bnd k fun u => lift (slB d l u)
section
variable {X : Cx} {c : Fc} {a b e : Expr} {pos p2 : Pos}
theorem qhx {lo hi : Option Expr} {f : M D} {g k : M (Option Int)} (ha : DE X c a f) (hl : DO X c lo g) (hu : DO X c hi k) : DE X c (.Subscript a (.Slice lo hi none p2) pos) (qnV f g k) := by
 obtain ⟨ta, pa, wa⟩ := ha
 obtain ⟨tl, pl, wl⟩ := hl
 obtain ⟨tu, pu, wu⟩ := hu
 refine ⟨_, qiq (SlR.or qmE qkE) pa pl pu, fun U Z H Q r h => wa U Z H _ r (Wp.bnd h fun d U1 v H1 r1 i1 g1 h1 => ?_)⟩
 refine wl U1 Z H1 _ r1 (fun l U2 e2 H2 r2 g2 => ?_) (fun x U2 e2 H2 r2 g2 => ?_) (fun e2 => ?_)
 ·rw [qgF e2] at h1
  have h1 := h1.gr g2
  refine wu U2 Z H2 _ r2 (fun u U3 e3 H3 r3 g3 => ?_) (fun x U3 e3 H3 r3 g3 => ?_) (fun e3 => ?_)
  ·rw [qgF e3] at h1
   obtain ⟨d', e4, h4⟩ := h1.lift
   have i3 := g3.is (g2.is i1)
   clear h1
   cases d <;> simp only [slB] at e4 <;> try (cases e4; done)
   ·rename_i ds
    cases e4
    obtain ⟨a, xs, rfl, ta, il⟩ := i3
    refine .inl ?_
    by_cases hw : HT.sIx xs.length 0 l = 0 /\ HT.sIx xs.length xs.length u = xs.length
    ·refine .inl ⟨a, xs, rfl, ta.sq, hw, h4 _ H3 r3 ⟨a, xs, rfl, ta, ?_⟩ g3⟩
     have e5 : qgO ds l u = ds := by
      unfold qgO
      rw [<- il.length, hw.1, hw.2]
      simp [il.length]
     rw [e5]; exact il
    ·refine .inr ⟨a, xs, rfl, ta.sq, hw, fun p hp => h4 _ _ (r3.laid hp _) ⟨p, qia xs l u, rfl, .inl qA, ?_⟩ (g3.trans (.of_same (qy hp _)))⟩
     refine IsL.ext (Ext.of_same (qy hp _)) (fun _ h _ => h) ?_
     unfold qgO qia
     rw [<- il.length]
     exact IsL.take _ (IsL.drop _ il)
   ·rename_i ds
    cases e4
    obtain ⟨a, xs, rfl, hA, ta, il⟩ := i3
    refine .inr ⟨a, xs, rfl, .inl (.inl ta), fun p hp => h4 _ _ (r3.laid hp _) ⟨p, qia xs l u, rfl, r3.new hp, qA, ?_⟩ (g3.trans (.of_same (qy hp _)))⟩
    refine IsL.ext (Ext.of_same (qy hp _)) (fun _ h _ => h) ?_
    unfold qgO qia
    rw [<- il.length]
    exact IsL.take _ (IsL.drop _ il)
  ·unfold bnd at h1; rw [e3] at h1; exact h1 H3 r3 g3
  ·unfold bnd at h1; rw [e3] at h1; exact h1
 ·unfold bnd at h1; rw [e2] at h1; exact h1 H2 r2 g2
 ·unfold bnd at h1; rw [e2] at h1; exact h1
theorem Wp.bndN {K : Fr0} {Z : St} {H : Hp} {Q : VK} {f : M D} {k : D -> M (List D)} {U : Env} {Q' : VK} (h : WpN K c Z H Q (Sk.bnd f k U)) (hQ : ∀ d U' v H', Rep K c U' Z H' -> Is K (Cn c Z) H' d v -> Gr c.O Z H H' -> WpN K c Z H' Q (k d U') -> Q' v H') : Wp K c Z H Q' (f U) := by
 unfold Sk.bnd at h
 cases e : f U with
 | ok p => rw [e] at h; exact fun v H' hr hi hg => hQ p.1 p.2 v H' hr hi hg (h.gr hg)
 | exc x U' => rw [e] at h; exact h
 | bad => rw [e] at h; exact h
def qli (x y : D) : Option (List D) := match x, y with
 | .lst ds, .int k => if (decide (-(2 ^ 62) <= k) && decide (k < 2 ^ 62)) && (qZ (ds.length * k.toNat) && immL ds) then some (List.replicate k.toNat ds).flatten else none
 | _, _ => none
def qlU (f g : M D) : M (List D) := bnd f fun x => bnd g fun y => lift (qli x y)
theorem qe5 {K : Fr0} {Z : St} {H : Hp} {Q : VK} {o : Option (List D)} {U : Env} (h : WpN K c Z H Q (lift o U)) : ∃ ds, o = some ds /\ WpN K c Z H Q (.ok (ds, U)) := by
 cases o with
 | none => exact h.elim
 | some d => exact ⟨d, rfl, h⟩
theorem qm8 {f g : M D} (ha : DE X c a f) (hb : DE X c b g) : DN X c (.BinOp a .Mult b pos) (qlU f g) := by
 obtain ⟨ta, pa, wa⟩ := ha
 obtain ⟨tb, pb, wb⟩ := hb
 refine ⟨_, qmg qjD pa pb, fun U Z H Q r h => wa U Z H _ r (Wp.bndN h fun x U1 v H1 r1 i1 g1 h1 => wb U1 Z H1 _ r1 (Wp.bndN h1 fun y U2 u H2 r2 i2 g2 h2 => ?_))⟩
 obtain ⟨ds', e, h3⟩ := qe5 h2
 have i1' := g2.is i1
 unfold qli at e
 split at e
 ·rename_i ds k
  obtain ⟨p, xs, rfl, hA, hp, il⟩ := i1'
  have iu : u = V.int k := i2
  subst iu
  split at e
  ·rename_i hb
   simp only [Bool.and_eq_true, decide_eq_true_eq] at hb
   obtain ⟨⟨b1, b2⟩, b3, b4⟩ := hb
   have b3 : ds.length * k.toNat <= sizeLine := of_decide_eq_true b3
   cases e
   refine ⟨p, k, xs, rfl, rfl, hp, by omega, by omega, by rw [il.length]; exact b3, fun q hq => ?_⟩
   exact h3 q _ _ hq (r2.laid hq _) (r2.apart hq) qA trivial (IsL.ext (Ext.of_same (qy hq _)) (fun _ h _ => h) (IsL.rep (IsL.imm b4 il) _)) (.of_same (qy hq _))
  ·cases e
 ·cases e
def qlj (f : M D) : M (List D) := bnd f fun x => lift (match x with
 | .lst ds => if immL ds then some ds else none
 | .tup ds => if immL ds then some ds else none
 | _ => none)
theorem qlk {p : Pos} {f : M D} (hg : Gl X "list") (hm : X.mg "list" = none) (ha : DE X c a f) (hv : bootBuiltins "list" = some (.type "list") := by first | rfl | exact PySem.boot_list)
  (he : starEach [a] X.env = (false, eval a X.env) :: starEach [] X.env := by rfl) (hpl : (backTo pos (starEach [] X.env)).any (·.1) = false := by rfl) : DN X c (.Call (.Name "list" p) [a] [] pos) (qlj f) := by
 obtain ⟨ta, pa, wa⟩ := ha
 refine ⟨_, qa2 qda hg hm hv (uT pa qbW he) (by decide) (by decide) he hpl, fun U Z H Q r h => wa U Z H _ r (Wp.bndN h fun x U1 v H1 r1 i1 g1 h1 => ?_)⟩
 obtain ⟨ds', e, h3⟩ := qe5 h1
 split at e
 ·rename_i ds
  obtain ⟨p, xs, rfl, hA, hp, il⟩ := i1
  split at e
  ·rename_i him
   cases e
   exact ⟨p, xs, rfl, .inl (.inl (.inl hp)), fun q hq => h3 q _ _ hq (r1.laid hq _) (r1.apart hq) qA trivial (IsL.ext (Ext.of_same (qy hq _)) (fun _ h _ => h) (IsL.imm him il)) (.of_same (qy hq _))⟩
  ·cases e
 ·rename_i ds
  obtain ⟨p, xs, rfl, hp, il⟩ := i1
  split at e
  ·rename_i him
   cases e
   exact ⟨p, xs, rfl, .inr hp.sq, fun q hq => h3 q _ _ hq (r1.laid hq _) (r1.apart hq) qA trivial (IsL.ext (Ext.of_same (qy hq _)) (fun _ h _ => h) (IsL.imm him il)) (.of_same (qy hq _))⟩
  ·cases e
 ·cases e
def qhy (i : Nat) (f : M D) : M D := fun U => match z0 i U with
 | none => .bad
 | some _ => (bnd f fun d U => match d, z0 i U with
  | .lst es, some ds => if immL es && qZ (ds.length + es.length) then .ok (.non, U.set i (some (.lst (ds ++ es)))) else .bad
  | _, _ => .bad) U
theorem qoC {tg it : Expr} {f g h : M (List D)} (h1 : DI X c tg it f) (h2 : DI X c tg it g) (hh : ∀ U, h U = f U \/ h U = g U) : DI X c tg it h := by
 obtain ⟨w1, p1, k1⟩ := h1
 obtain ⟨w2, p2, k2⟩ := h2
 refine ⟨fun Z H R => w1 Z H R \/ w2 Z H R, fun pins s Z H R I hw => hw.elim (p1 pins s Z H R I) (p2 pins s Z H R I), fun U Z H Q r hw => ?_⟩
 rcases hh U with e | e
 ·exact .inl (k1 U Z H Q r (by rw [<- e]; exact hw))
 ·exact .inr (k2 U Z H Q r (by rw [<- e]; exact hw))
def qbs (f : M (List D)) : M (List D) := fun U => match f U with
 | .ok ([.tup _], _) => qcv f U
 | _ => qe4 f U
theorem qe6 {es : List Expr} {kk : Nat} {tp p : Pos} {f : M (List D)} (hg : Gl X "enumerate") (hm : X.mg "enumerate" = none) (ha : DA X c [a] f) (hs : starEach [a] X.env = [(false, eval a X.env)] := by rfl) :
  DI X c (.Tuple es kk tp) (.Call (.Name "enumerate" p) [a] [] pos) (qbs f) := qoC (qhd hg hm ha hs) (qiY hg hm ha hs) (fun U => by
 unfold qbs
 split
 ·exact .inl rfl
 ·exact .inr rfl)
end
section
variable {U : Env} {f g : M D} {l k : M (List D)}
theorem qe7 (F : List D -> List D -> Option D) : qaa F l k U = match l U with | .ok (xs, U1) => (match k U1 with | .ok (zs, U2) => (match F xs zs with | some d => .ok (d, U2) | none => .bad) | .exc x U' => .exc x U' | .bad => .bad) | .exc x U' => .exc x U' | .bad => .bad := by
 simp only [qaa, bnd]
 cases l U with
 | ok z =>
  obtain ⟨z1, U1⟩ := z
  dsimp only
  cases k U1 with
  | ok z => obtain ⟨z2, U2⟩ := z; (dsimp only; cases F z1 z2 <;> rfl)
  | exc x U' => rfl
  | bad => rfl
 | exc x U' => rfl
 | bad => rfl
theorem qm9 : qlU f g U = match f U with | .ok (x, U1) => (match g U1 with | .ok (y, U2) => (match qli x y with | some ds => .ok (ds, U2) | none => .bad) | .exc x U' => .exc x U' | .bad => .bad) | .exc x U' => .exc x U' | .bad => .bad := by
 simp only [qlU, bnd]
 cases f U with
 | ok z =>
  obtain ⟨z1, U1⟩ := z
  dsimp only
  cases g U1 with
  | ok z => obtain ⟨z2, U2⟩ := z; (dsimp only; cases qli z1 z2 <;> rfl)
  | exc x U' => rfl
  | bad => rfl
 | exc x U' => rfl
 | bad => rfl
theorem qna (i : Nat) : qhy i f U = match z0 i U with
  | none => .bad
  | some _ => (match f U with | .ok (d, U1) => (match d, z0 i U1 with | .lst es, some ds => (if immL es && qZ (ds.length + es.length) then .ok (.non, U1.set i (some (.lst (ds ++ es)))) else .bad) | _, _ => .bad) | .exc x U' => .exc x U' | .bad => .bad) := by
 unfold qhy
 cases z0 i U with
 | none => rfl
 | some z =>
  simp only [bnd]
  cases f U with
  | ok z => obtain ⟨z1, U1⟩ := z; rfl
  | exc x U' => rfl
  | bad => rfl
theorem qnb (p q : M (Option Int)) : qnV f p q U = match f U with | .ok (d, U1) => (match p U1 with | .ok (l, U2) => (match q U2 with | .ok (u, U3) => (match slB d l u with | some r => .ok (r, U3) | none => .bad) | .exc x U' => .exc x U' | .bad => .bad) | .exc x U' => .exc x U' | .bad => .bad) | .exc x U' => .exc x U' | .bad => .bad := by
 simp only [qnV, bnd]
 cases f U with
 | ok z =>
  obtain ⟨z1, U1⟩ := z
  dsimp only
  cases p U1 with
  | ok z =>
   obtain ⟨z2, U2⟩ := z
   dsimp only
   cases q U2 with
   | ok z => obtain ⟨z3, U3⟩ := z; (dsimp only; cases slB z1 z2 z3 <;> rfl)
   | exc x U' => rfl
   | bad => rfl
  | exc x U' => rfl
  | bad => rfl
 | exc x U' => rfl
 | bad => rfl
end
section
variable {X : Cx} {c : Fc} {e : Expr} {es : List Expr} {pos : Pos}
theorem dC {k j : Nat} {ps : List Str} {F : List D -> R D} {x : Str} {p : Pos} {g : M (List D)} (C : qB X.prog X.w X.K X.mg X.base k x ps (spD X.K F)) (hr : wn j X.A) (ha : DA X c (e :: es) g)
  (hk : k <= j := by decide) (hg : Gl X x := by rfl) (hd : (x == ("__debug__" : Str)) = false := by decide) (he : starEach (e :: es) X.env = (false, eval e X.env) :: starEach es X.env := by rfl) (hpl : (backTo pos (starEach es X.env)).any (·.1) = false := by rfl) : DE X c (.Call (.Name x p) (e :: es) [] pos) (qh F g) := by
 obtain ⟨f, fd, G, m, kk, b⟩ := C.ex
 exact qkX G (hr.mono hk) hg m kk b ha hd he hpl
theorem nC {k j : Nat} {ps : List Str} {F : List D -> R D} {x : Str} {p : Pos} {g : M (List D)} (C : qB X.prog X.w X.K X.mg X.base k x ps (spD X.K F)) (hr : wn j X.A) (ha : DA X c (e :: es) g)
  (hk : k <= j := by decide) (hg : Gl X x := by rfl) (hd : (x == ("__debug__" : Str)) = false := by decide) (he : starEach (e :: es) X.env = (false, eval e X.env) :: starEach es X.env := by rfl) (hpl : (backTo pos (starEach es X.env)).any (·.1) = false := by rfl) : DN X c (.Call (.Name x p) (e :: es) [] pos) (qfT F g) := by
 obtain ⟨f, fd, G, m, kk, b⟩ := C.ex
 exact qk5 G (hr.mono hk) hg m kk b ha hd he hpl
theorem iC {k j i : Nat} {ps : List Str} {F : List D -> List D -> R (D × List D)} {x y : Str} {p p1 : Pos} {g : M (List D)} (C : qB X.prog X.w X.K X.mg X.base k x ps (qjL X.K F)) (hr : wn j X.A) (ha : DA X c es g)
  (hk : k <= j := by decide) (hg : Gl X x := by rfl) (ho : i ∈ c.O := by exact of_decide_eq_true rfl) (hN : X.N[i]? = some y := by rfl) (hv : Vis X.env.scope y := by first | exact Or.inl rfl | exact Or.inr (Or.inl rfl) | exact Or.inr (Or.inr rfl)) (hdy : (y == ("__debug__" : Str)) = false := by decide) (hcd : (y == ("__classdict__" : Str)) = false := by decide)
  (hd : (x == ("__debug__" : Str)) = false := by decide) (he : starEach (.Name y p1 :: es) X.env = (false, eval (.Name y p1) X.env) :: starEach es X.env := by rfl) (hpl : (backTo pos (starEach es X.env)).any (·.1) = false := by rfl) : DE X c (.Call (.Name x p) (.Name y p1 :: es) [] pos) (qN F i g) := by
 obtain ⟨f, fd, G, m, kk, b⟩ := C.ex
 exact qgW G (hr.mono hk) hg m kk b ha ho hN hv hdy hcd hd he hpl
theorem gI {x : Str} {i : Int} (h : ∃ t, X.mg x = some (.int i t)) (hg : Gl X x := by rfl) (hd : (x == ("__debug__" : Str)) = false := by decide) : DE X c (.Name x pos) (ret (.int i)) := by
 obtain ⟨t, h⟩ := h
 exact qkJ (v := .int i) (d := .int i) hg h ⟨_, rfl⟩ (fun _ _ => rfl) hd
end
theorem nd (N : List Str) (h : N.Nodup := by decide +kernel) : N.Nodup := h
theorem cs {X : Cx} (N N' : List Str) (nt : Nat) (fr : List Nat) (outer : Scope) {scope : Scope} (h0 : scope.kind = .function := by rfl) (h1 : ∀ y ∈ scope.names, y.2 ≠ .cell := by decide +kernel) (h2 : ∀ y ∈ scope.names, y.2 = .local -> scope.names.lookup y.1 = some .local := by decide +kernel)
  (h3 : ∀ y ∈ scope.names, y.2 = .free -> outer.names.lookup y.1 = some .cell := by decide +kernel) (h4 : N'.length = nt + fr.length := by rfl) (h5 : ∀ p ∈ fr.zipIdx, N'[nt + p.2]? = N[p.1]? /\ ((N[p.1]?).bind fun x => scope.names.lookup x) = some .free := by decide +kernel)
  (h6 : X.env.scope = outer := by rfl) (h7 : X.N = N := by rfl) : ym X scope N' nt fr := qk6.ok (outer := outer) (N := N) ⟨h0, h1, h2, h3, h4, h5⟩ h6 h7
theorem f0 {c : Fc} {nt : Nat} (fr O : List Nat) (e : c.O = O := by rfl) (h : ∀ j ∈ fr, j ∉ O := by decide) : qkW c nt fr none := fun j hj => by rw [e]; exact h j hj
theorem f1 {c : Fc} (nt : Nat) (fr O : List Nat) (i j : Nat) (e : c.O = O := by rfl) (h1 : j ∈ O := by decide) (h2 : nt <= i := by decide) (h3 : fr[i - nt]? = some j := by rfl) (h4 : ∀ p ∈ fr.zipIdx, nt + p.2 ≠ i -> p.1 ∉ O := by decide) : qkW c nt fr (some (i, j)) :=
 qk8 (by rw [e]; exact h1) h2 h3 (by rw [e]; exact h4)
section
variable {X : Cx} {c : Fc}
end
def qf4 (i : Int) : Bool := decide (i.natAbs < 2 ^ 2000)
def qiZ (i j : Int) : Prop := i.natAbs < 2 ^ 2000 /\ j.natAbs < 2 ^ 2000
theorem qhz {i : Int} (h : i.natAbs < 2 ^ 2000) : Builtin.Int.intBits i <= 2000 := by
 unfold Builtin.Int.intBits
 split
 ·omega
 ·rename_i h0
  have hz : i.natAbs ≠ 0 := by
   intro z
   exact h0 (by simpa using z)
  have := (Nat.log2_lt hz).mpr h
  omega
theorem qll {X : Cx} : OpR X (binaryOp .Mult) (rI qiZ fun i j => .int (i * j)) := opI fun _ _ _ _ _ _ _ hc q => mul_int q (IntMulOk.of_le (qhz hc.1) (qhz hc.2) (by omega))
theorem qcz {X : Cx} : OpR X (binaryOp .Mult) (fun x y H Q => qiM X.K x y H Q \/ rI qiZ (fun i j => .int (i * j)) x y H Q) := OpR.or jb qll
def qf5 (x y : D) : Option D := match y2 x y with
 | some d => some d
 | none => qgJ (fun i j => qf4 i && qf4 j) (fun i j => .int (i * j)) x y
theorem qi0 {K : Fr0} : OpS K (qgJ (fun i j => qf4 i && qf4 j) fun i j => .int (i * j)) (rI qiZ fun i j => .int (i * j)) := qeL (fun _ _ h => by
 rw [Bool.and_eq_true] at h
 exact ⟨of_decide_eq_true h.1, of_decide_eq_true h.2⟩) fun _ _ _ _ => rfl
theorem qaV {K : Fr0} : OpS K qf5 (fun x y H Q => qiM K x y H Q \/ rI qiZ (fun i j => .int (i * j)) x y H Q) := by
 intro A H x y d v u Q hn ix iy e k
 unfold qf5 at e
 cases e1 : y2 x y with
 | some d1 =>
  rw [e1] at e
  cases e
  exact .inl (zA A H x y _ v u Q hn ix iy e1 k)
 | none =>
  rw [e1] at e
  exact .inr (qi0 A H x y d v u Q hn ix iy e k)
theorem qhA {i j : Int} (h1 : i.natAbs < 2 ^ 2000) (h2 : j.natAbs < 2 ^ 2000) : qf5 (.int i) (.int j) = some (.int (i * j)) := by
 unfold qf5
 cases e : y2 (.int i) (.int j) with
 | some d =>
  have e' : (if qd4 i j = true then some (D.int (i * j)) else none) = some d := e
  by_cases hc : qd4 i j = true
  ·rw [if_pos hc] at e'
   exact e'.symm
  ·rw [if_neg hc] at e'
   cases e'
 | none =>
  have b1 : qf4 i = true := decide_eq_true h1
  have b2 : qf4 j = true := decide_eq_true h2
  simp only [qgJ, b1, b2, Bool.and_self, if_true]
def qi1 : V -> List V -> Hp -> VK -> Prop := fun x vs H Q => ∃ l xs y, x = .ref l /\ vs = [.int 0, y] /\ H l = some (.lst xs) /\ xs.length < sizeLine /\ Q .non (upd H l (.lst (y :: xs)))
theorem qf6 {X : Cx} : MtM X "list.insert" qi1 := by
 intro pins s Z H x vs v us Q I rx rv h
 obtain ⟨l, xs, y, rfl, rfl, hH, hz, q⟩ := h
 cases rx
 obtain ⟨u0, u, rfl, r0, ru⟩ := rv.two
 obtain ⟨tk, rfl⟩ := r0
 obtain ⟨z, its, n, r, hl, e⟩ := I.lstM hH
 refine call_meets PySem.F.slot_list_insert ⟨_, e, rfl⟩ PySem.F.entry_list_insert (PySem.F.args_list_insert_3 _ _ _) (PySem.AutoSeq1.list_insert_list_int_val_1 l its.toArray n 0 _ u (by decide) (by rw [sT_]; omega)) ⟨e, ?_⟩
 refine ⟨.non, _, I.lset (its' := u :: its) (ys := y :: xs) hH e ?_ (.cons ru r) ?_, rfl, q⟩
 ·simp
 ·rw [lC_]
  omega
section
variable {X : Cx} {c : Fc} {a b e : Expr} {pos : Pos}
def vy (i : Nat) (f : M D) : M D := fun U => match z0 i U with
 | none => .bad
 | some _ => (bnd f fun d U => match z0 i U with
  | some ds => if qZ (ds.length + 1) then .ok (.non, U.set i (some (.lst (d :: ds)))) else .bad
  | none => .bad) U
theorem qhB {i : Nat} {x : Str} {p1 apos cp : Pos} {cj : Nat} {f : M D} (he : DE X c e f) (ho : i ∈ c.O := by exact of_decide_eq_true rfl) (hN : X.N[i]? = some x := by rfl) (hv : Vis X.env.scope x := by first | exact Or.inl rfl | exact Or.inr (Or.inl rfl) | exact Or.inr (Or.inr rfl)) (hd : (x == ("__debug__" : Str)) = false := by decide) (hcd : (x == ("__classdict__" : Str)) = false := by decide)
  (hbase : attributeBase (.Name x p1) "insert" X.env (eval (.Name x p1) X.env) = eval (.Name x p1) X.env := by rfl)
  (hfew : ((backTo pos (starEach [.Constant (.int 0) cj cp, e] X.env)).all (fun x => !x.1) && (backToKw pos (keywordEach [] X.env)).all (fun x => x.1.isSome)
   && decide ([Expr.Constant (.int 0) cj cp, e].length + ([] : List Keyword).length + (if ([] : List Keyword).isEmpty then 0 else 1) < 30)) = true := by rfl)
  (hline : (apos.endLine == pos.line) = true := by rfl) (hs : starEach [.Constant (.int 0) cj cp, e] X.env = (false, eval (.Constant (.int 0) cj cp) X.env) :: starEach [e] X.env := by rfl) (hs2 : starEach [e] X.env = (false, eval e X.env) :: starEach [] X.env := by rfl) (hplain : (backTo pos (starEach [e] X.env)).any (·.1) = false := by rfl) :
  DE X c (.Call (.Attribute (.Name x p1) "insert" apos) [.Constant (.int 0) cj cp, e] [] pos) (vy i f) := by
 obtain ⟨t, p, w⟩ := he
 refine ⟨_, qkF PySem.F.plainAttrs_list PySem.F.slot_list_insert PySem.F.type_list_insert qf6 (qaE hN hv hd hcd) (uT qjv (uT p qbW hs2) hs) hbase hfew hline hs hplain, fun U Z H Q r h => ?_⟩
 unfold vy at h
 cases e0 : z0 i U with
 | none => rw [e0] at h; exact h.elim
 | some ds0 =>
  simp only [e0] at h
  obtain ⟨l, xs0, _, hl, hH, _⟩ := r.getLO ho e0
  refine ⟨.ref l, hl, .inl ⟨rfl, xs0, .inl (.inl hH)⟩, w U Z H _ r (Wp.bnd h fun d U1 v H1 r1 i1 g1 h1 => ?_)⟩
  cases e1 : z0 i U1 with
  | none => simp only [e1] at h1; exact h1.elim
  | some ds =>
   simp only [e1] at h1
   by_cases hb : qZ (ds.length + 1) = true
   ·rw [if_pos hb] at h1
    obtain ⟨l', xs, him, hl', hH', il⟩ := r1.getLO ho e1
    rw [hl] at hl'
    cases hl'
    have hsz : ds.length + 1 <= sizeLine := of_decide_eq_true hb
    have ext : Ext (Cn c Z) H1 (upd H1 l (.lst (v :: xs))) := ⟨fun b us hb => z5 (wT hb hH' (by intro z; cases z)) hb, fun b o u hb => z5 (wT hb hH' (by intro z; cases z)) hb, fun b o hb hq => z5 (fun e => hb.2 i ho (by rw [hl, e])) hq⟩
    obtain ⟨r2, g2⟩ := r1.io (H' := upd H1 l (.lst (v :: xs))) (bs := d :: ds) ho hl (fun b o hb ho => z5 hb ho) qA trivial
     ⟨v, xs, rfl, Is.ext ext (fun _ h _ => h) i1, IsL.ext ext (fun _ h _ => h) il⟩ (fun b hb => qd7 hb)
    exact ⟨l, xs, v, rfl, rfl, hH', by rw [il.length]; omega, h1 _ _ r2 rfl g2⟩
   ·rw [if_neg hb] at h1; exact h1.elim
def qi2 (f : M (List D)) : M (List D) := bnd f fun ds => lift (if qZ ds.length then some ds else none)
theorem qlm {es : List Expr} {f : M (List D)} (h : DA X c es f) : DN X c (.List es pos) (qi2 f) := by
 obtain ⟨t, p, w⟩ := h
 refine ⟨_, qgw p, fun U Z H Q r h => w U Z H _ r (WpL.bndN h fun ds U1 vs H1 r1 i1 g1 h1 => ?_)⟩
 by_cases hb : qZ ds.length = true
 ·rw [if_pos hb] at h1
  refine ⟨by rw [i1.length]; exact of_decide_eq_true hb, fun p hp => ?_⟩
  exact h1 p vs _ hp (r1.laid hp _) (r1.apart hp) qA trivial (IsL.ext (Ext.of_same (qy hp _)) (fun b h hs => ⟨h, fun e => by rw [e, hp] at hs; cases hs⟩) i1) (.of_same (qy hp _))
 ·rw [if_neg hb] at h1; exact h1.elim
end
theorem qcA : Slot "reversed" "__init__" "object.__init__" :=
 .of (owner := "object") (n := "__init__") (by rw [typeLookup_type, builtinLookup_eq_fast]; kernel_rfl) (by decide +kernel) (by decide +kernel) (by decide +kernel) (by first | exact Or.inl (by kernel_rfl) | exact Or.inr (by kernel_rfl)) (by rw [isSubtype_type]; kernel_rfl)
theorem qf7 : TypeCalled "reversed" "reversed.__new__" "object.__init__" := ⟨by decide +kernel, F.create_reversed, ⟨_, _, F.mro_reversed⟩, F.made_reversed, F.plain_reversed_new, F.sub_reversed_self, qcA⟩
theorem jP : Slot "reversed" "__next__" "reversed.__next__" :=
 .of (owner := "reversed") (n := "__next__") (by rw [typeLookup_type, builtinLookup_eq_fast]; kernel_rfl) (by decide +kernel) (by decide +kernel) (by decide +kernel) (by first | exact Or.inl (by kernel_rfl) | exact Or.inr (by kernel_rfl)) (by rw [isSubtype_type]; kernel_rfl)
theorem wz : entryFor table "reversed.__next__" = some Builtin.«reversed.__next__» := entryFor_of_tree (by kernel_rfl)
theorem qj2 : typeLookup (.type "tuple") (Str.ofString "__reversed__") = pure none := by rw [typeLookup_type, builtinLookup_eq_fast]; kernel_rfl
theorem qcB : typeLookup (.type "tuple") (Str.ofString "__getitem__") = pure (some (.builtin "tuple.__getitem__")) := by rw [typeLookup_type, builtinLookup_eq_fast]; kernel_rfl
theorem qe8 : isSubtype (.type "tuple") (.type "dict") = pure false := by rw [isSubtype_type]; kernel_rfl
theorem qhC {l : Addr} {xs : Array Value} (hz : xs.size <= sizeLine) : Meets (Builtin.«reversed.__new__» ⟨[.type "reversed", .ref l], []⟩) (fun _ R s => s.heap.IsTuple l xs /\
   R (.ok (.ret (.ref s.heap.objs.size))) { s with heap := s.heap.push { cls := .type "reversed", data := .fields #[.ref l, rawInt ((xs.size : Int) - 1)] }, toks := s.toks + 1 + 1 }) :=
 .of_wp fun prog w A R s h => by
  obtain ⟨hp, g, d, tk, os⟩ := s
  obtain ⟨ha, h⟩ := h
  have hsub := F.sub_reversed_self
  have f1 := qj2
  have f2 := qcB
  have f3 := qe8
  have hA : Heap.IsTuple (Shared.heap ⟨hp, g, d, tk, os⟩) l xs := ha
  obtain ⟨o, e1, hc, m, hd⟩ := ha
  unfold Builtin.«reversed.__new__»
  refine wpAny_bind ?_
  wp_walk
  rw [hc]
  refine wpAny_of_eq (a := none) qj2 ?_
  dsimp only
  refine wpAny_bind ?_
  show wpAny (model prog w) A.in1 (isInstance (Value.ref l) (Value.type "dict") >>= _) _ _ _
  refine wpAny_bind (wpAny_isInstance (T := "tuple") (b := false) ⟨o, e1, hc⟩ qe8 ?_)
  show wpAny (model prog w) A.in1 (specialOf (Value.ref l) (Str.ofString "__getitem__") >>= _) _ _ _
  refine wpAny_bind ?_
  wp_walk
  rw [hc]
  refine wpAny_of_eq (a := some (.builtin "tuple.__getitem__")) qcB ?_
  dsimp only
  rw [if_pos (by decide +kernel)]
  refine wpAny_pure ?_
  rw [if_neg (by decide)]
  have hfit : (xs.size : Int) < 2 ^ 63 := by have := qa0; omega
  refine wpAny_bind (len_tuple hA hfit ?_)
  wp_walk
  exact ⟨_, rfl, h⟩
def qpD (l : Addr) (i : Int) : Obj := { cls := .type "reversed", data := .fields #[.ref l, rawInt i] }
def qbR (h : Heap) (z l : Addr) (i : Int) : Prop := h.get? z = some (qpD l i)
section
variable {prog : Program} {w : World} {A : Around} {E : Value -> Shared -> Prop} {s : Shared}
theorem qi3 {l : Addr} {xs : Array Value} {Q : Value -> Shared -> Prop} (t1 : s.heap.IsTuple l xs) (hz : xs.size <= sizeLine)
  (fin : ∀ h', qbR h' s.heap.objs.size l ((xs.size : Int) - 1) -> (∀ c o, s.heap.get? c = some o -> h'.get? c = some o) -> Q (.ref s.heap.objs.size) { s with heap := h', toks := s.toks + 1 + 1 }) :
  wpAny (model prog w) A (call (.type "reversed") [.ref l]) Q E s := by
 refine callType_new qf7 (by decide) (F.typeCall_reversed_1 _) (F.newCall_reversed_1 _) (fun obj => F.args_object_init_2 obj _) F.entry_reversed_new (qhC hz) ⟨t1, ?_⟩
 exact ⟨⟨_, Heap.get?_push_size _ rfl, rfl⟩, fin _ (Heap.get?_push_size _ rfl) fun c o x => Heap.get?_push_of_some _ x⟩
theorem qab (a : Value) : argsOk "reversed.__next__" ⟨[a], []⟩ := by
 unfold argsOk; kernel_rfl
theorem qnc {z l : Addr} {xs : Array Value} {i : Nat} {x : Value} {Q : Value -> Shared -> Prop} (zz : qbR s.heap z l (i : Int)) (t1 : s.heap.IsTuple l xs) (hx : xs[i]? = some x) (hz : xs.size <= sizeLine)
  (fin : ∀ h' tk, qbR h' z l ((i : Int) - 1) -> Heap.SameBut z s.heap h' -> Q x { s with heap := h', toks := tk }) :
  wpAny (model prog w) A (Builtin.«reversed.__next__» ⟨[.ref z], []⟩) (fun r s' => ∃ v, r = .done (.ret v) /\ Q v s') E s := by
 have hT : s.TypeIs (.ref l) "tuple" := by obtain ⟨o, e, hc, _⟩ := t1; exact ⟨o, e, hc⟩
 unfold Builtin.«reversed.__next__»
 refine wpAny_bind (wpAny_of_eq (a := (Value.ref z, [])) rfl ?_)
 dsimp only
 refine wpAny_bind (wpAny_field zz rfl (x := Value.ref l) rfl ?_)
 refine wpAny_bind (wpAny_field zz rfl (x := rawInt (i : Int)) rfl ?_)
 show wpAny (model prog w) A (if ((i : Nat) : Int) < 0 then _ else _) _ _ s
 rw [if_neg (by omega)]
 refine wpAny_bind (wpAny_specialOf hT qcB ?_)
 show wpAny (model prog w) A (if (false : Bool) = true then _ else _) _ _ s
 rw [if_neg (by decide)]
 refine wpAny_bind (wpAny_mkInt ?_)
 have hi : i < xs.size := (Array.getElem?_eq_some_iff.mp hx).1
 have hl63 := qa0
 have hsq : seqIndex? (i : Int) xs.size = some i := by
  unfold seqIndex?
  simp only []
  first
   | (rw [if_neg (by omega)]; simp; omega)
   | (simp; omega)
   | (split <;> simp_all <;> omega)
 refine wpAny_bind (wpAny_attempt (PyProof.Rows.getItem_tuple (j := i) t1 (by omega) (by omega) hsq hx ?_))
 dsimp only
 refine wpAny_bind (wpAny_field zz rfl (x := rawInt (i : Int)) rfl ?_)
 refine wpAny_bind (wpAny_setField_rec zz (by simp) fun h' zz' b' => ?_)
 exact wpAny_pure ⟨x, rfl, fin h' _ zz' b'⟩
theorem qi4 (hh : A.handled = none) {z l : Addr} {Q : Fin -> Shared -> Prop} (zz : qbR s.heap z l (-1))
  (fin : ∀ h' e, Heap.ExtBut z s.heap h' -> (∃ o, h'.get? e = some o /\ o.cls = .type "StopIteration") -> E (.ref e) { s with heap := h' }) :
  wpAny (model prog w) A (Builtin.«reversed.__next__» ⟨[.ref z], []⟩) Q E s := by
 unfold Builtin.«reversed.__next__»
 refine wpAny_bind (wpAny_of_eq (a := (Value.ref z, [])) rfl ?_)
 dsimp only
 refine wpAny_bind (wpAny_field zz rfl (x := Value.ref l) rfl ?_)
 refine wpAny_bind (wpAny_field zz rfl (x := rawInt (-1)) rfl ?_)
 show wpAny (model prog w) A (if (-1 : Int) < 0 then _ else _) _ _ s
 rw [if_pos (by decide)]
 refine wpAny_bind (wpAny_rule (wpAny_bind ?_))
 show wpAny (model prog w) A (setField (Value.ref z) 1 (rawInt (-1)) >>= fun _ => setField (Value.ref z) 0 Value.none) _ _ _
 refine wpAny_bind (wpAny_setField_rec zz (by simp) fun h1 zz1 b1 => wpAny_setField_rec zz1 (by simp) fun h2 zz2 b2 => ?_)
 refine wpAny_bind ?_
 show wpAny (model prog w) _ (newExc (Value.type "StopIteration") [] >>= _) _ _ _
 refine wpAny_bind ?_
 simp only [newExc, newTuple]
 refine wpAny_bind (wpAny_newObj_type ?_ (by size_fits))
 refine wpAny_bind (m := firstArgMember _ _) (wpAny_of_eq (a := Value.none) (by first | rfl | (simp only [firstArgMember]; rfl)) ?_)
 refine wpAny_newObj_type ?_ (by size_fits)
 simp only [raiseNew]
 refine wpAny_bind (wpAny_handled ?_)
 rw [hh]
 exact wpAny_bind (wpAny_pure (wpAny_throw (fin _ _ (fun b o hb e => Heap.get?_push_of_some _ (Heap.get?_push_of_some _ (b2.extBut b o hb (b1.extBut b o hb e)))) ⟨_, Heap.get?_push_size _ rfl, rfl⟩)))
end
theorem qac : Slot "reversed" "__iter__" "reversed.__iter__" :=
 .of (owner := "reversed") (n := "__iter__") (by rw [typeLookup_type, builtinLookup_eq_fast]; kernel_rfl) (by decide +kernel) (by decide +kernel) (by decide +kernel) (by first | exact Or.inl (by kernel_rfl) | exact Or.inr (by kernel_rfl)) (by rw [isSubtype_type]; kernel_rfl)
theorem qcC (a : Value) : argsOk "reversed.__iter__" ⟨[a], []⟩ := by
 unfold argsOk; kernel_rfl
theorem qbS : entryFor table "reversed.__iter__" = some Builtin.«dict_keyiterator.__iter__» := by
 refine entryFor_alias (id' := "dict_keyiterator.__iter__") ?_ ?_ ?_ ?_
 ·kernel_rfl
 ·first | rfl | decide +kernel
 ·decide +kernel
 ·kernel_rfl
theorem qe9 {prog : Program} {w : World} {A : Around} {E : Value -> Shared -> Prop} {s : Shared} {z l : Addr} {i : Int} {Q : Value -> Shared -> Prop} (zz : qbR s.heap z l i) (h : Q (.ref z) s) : wpAny (model prog w) A (pyIter (.ref z)) Q E s := by
 have hT : s.TypeIs (.ref z) "reversed" := ⟨_, zz, rfl⟩
 refine wpAny_pyIter_slot hT qac (wpAny_call_entry qac hT qbS ?_ (qcC _))
 show wpAny _ _ (PySem.ret (Value.ref z)) _ _ s
 exact wpAny_pure ⟨_, rfl, "reversed", _, hT, jP.lookup, h⟩
def Itv (K : Fr0) (a : Addr) (xs : List V) : It :=
 ⟨fun i H => i < xs.length /\ SqT K H a xs, fun i H x H' => H' = H /\ xs.reverse[i]? = some x, fun i H => i = xs.length /\ SqT K H a xs⟩
theorem qi5 {P : Program} {w : World} {K : Fr0} {tg : Expr} {z a : Addr} {xs : List V} (hne : a ≠ z) : qjz P w K tg (Itv K a xs) [z] z (fun i h => qbR h z a ((xs.length : Int) - 1 - (i : Nat))) where
 mem := by simp
 obj := fun i h st b hb => by
  have e : b = z := by simpa using hb
  subst e
  exact ⟨_, st, fun v e => by cases (show Data.fields _ = Data.cell v from e)⟩
 keep := fun i h h' st k => k z (by simp) _ st
 item := by
  intro X hP hw hK hc i pins s Z H E I hf st hg
  subst hP hw hK
  obtain ⟨hlt, hx⟩ := hg
  obtain ⟨f0, f1, f2, f3, f4, f5⟩ := hf z (by simp)
  obtain ⟨its, r1, p1, z1⟩ := I.tuple hx
  have hlen := r1.length
  have ei : ((xs.length : Int) - 1 - (i : Nat)) = ((xs.length - 1 - i : Nat) : Int) := by omega
  have st' : qbR s.heap z a ((xs.length - 1 - i : Nat) : Int) := by rw [<- ei]; exact st
  obtain ⟨xv, hxv⟩ : ∃ v, xs[xs.length - 1 - i]? = some v := ⟨xs[xs.length - 1 - i]'(by omega), gG (by omega)⟩
  obtain ⟨x', ex, rx⟩ := r1.get hxv
  have hT : s.TypeIs (.ref z) "reversed" := ⟨_, st, rfl⟩
  unfold pyNext
  refine wpAny_bind (wpAny_attempt (wpAny_callSpecial?_slot (name := Str.ofString "__next__") hT jP (wpAny_call_entry jP hT wz
   (qnc st' p1 (x := x') (by rw [List.getElem?_toArray]; exact ex) (by rw [sT_, <- hlen]; exact z1) fun h' tk zz' sb => wpAny_pure ?_) (qab _))))
  have I1 : Inv X pins Z H { s with heap := h', toks := tk } := I.turned (fun b o hb e => sb.extBut b o hb e) f0 f1 f3 f4 f5
  have st2 : qbR h' z a ((xs.length : Int) - 1 - ((i + 1 : Nat) : Int)) := by
   have e2 : ((xs.length - 1 - i : Nat) : Int) - 1 = (xs.length : Int) - 1 - ((i + 1 : Nat) : Int) := by omega
   rw [<- e2]; exact zz'
  refine ⟨x', rfl, qik (s := { s with heap := h', toks := tk }) (n := "reversed") st2 rfl rfl (by decide) ⟨xv, H, I1, rx, ⟨rfl, ?_⟩, st2, fun b hb => (hf b hb).1⟩⟩
  rw [List.getElem?_reverse hlt]
  exact hxv
 done := by
  intro X hP hw hK hc i pins s Z H E I hf st hg
  subst hP hw hK
  obtain ⟨hlt, hx⟩ := hg
  obtain ⟨f0, f1, f2, f3, f4, f5⟩ := hf z (by simp)
  have ei : ((xs.length : Int) - 1 - (i : Nat)) = -1 := by omega
  have st' : qbR s.heap z a (-1) := by rw [<- ei]; exact st
  have hT : s.TypeIs (.ref z) "reversed" := ⟨_, st, rfl⟩
  have hh : X.A.in1.handled = none := I.ok.hd hc
  unfold pyNext
  refine wpAny_bind (wpAny_attempt (wpAny_callSpecial?_slot (name := Str.ofString "__next__") hT jP (wpAny_call_entry jP hT wz
   (qi4 hh st' fun h' e kp he => ?_) (qab _))))
  obtain ⟨o, ho, hcl⟩ := he
  exact wpAny_bind (wpAny_isInstance (T := "StopIteration") (b := true) ⟨o, ho, hcl⟩ isSubtype_stop (wpAny_pure ⟨rfl, I.turned (t' := s.toks) (fun b o hb e => kp b o hb e) f0 f1 f3 f4 f5⟩))
 self := fun A i s Q E st h => qe9 st h
section
variable {X : Cx} {c : Fc} {a e : Expr} {pos : Pos} {tg : Expr}
def qpE (K : Fr0) (ta : TA) : TI := fun Z H R => ta Z H fun vs H1 => ∃ b xs, vs = [.ref b] /\ SqT K H1 b xs /\ R (Itv K b xs) H1
theorem qnd {ta : TA} {p : Pos} (hg : Gl X "reversed") (hm : X.mg "reversed" = none) (ha : PA X [a] ta) (hs : starEach [a] X.env = [(false, eval a X.env)] := by rfl) :
  PI X tg (.Call (.Name "reversed" p) [a] [] pos) (qpE X.K ta) := by
 intro pins s Z H R I h
 refine Call_ (wm I hg hm PyProof.Rows.boot_reversed (PyProof.Rows.callWith_type1 (thn (ha pos pins s Z H _ I h) fun us s1 ⟨vs, H1, I1, r1, q1⟩ => ?_) hs rfl))
 obtain ⟨b, xs, e1, hx, q⟩ := q1
 subst e1
 obtain ⟨u1, rfl, ru1⟩ := zD.one r1
 cases (show u1 = Value.ref b from ru1)
 obtain ⟨its, v1, p1, z1⟩ := I1.tuple hx
 have hlen := v1.length
 refine qi3 (show s1.heap.IsTuple b its.toArray from p1) (by rw [sT_, <- hlen]; exact z1) fun h' zz kp => ?_
 refine qe9 zz ?_
 have lb : b < s1.heap.objs.size := by obtain ⟨o, e, _⟩ := p1; exact Heap.lt_size e
 have zz' : qbR h' s1.heap.objs.size b ((xs.length : Int) - 1 - ((0 : Nat) : Int)) := by
  have e : ((its.toArray.size : Nat) : Int) - 1 = (xs.length : Int) - 1 - ((0 : Nat) : Int) := by rw [sT_, hlen]; omega
  rw [<- e]; exact zz
 refine ⟨s1.heap.objs.size, [s1.heap.objs.size], _, _, H1, rfl, I1.kept (t' := s1.toks + 1 + 1) kp, qi5 (xs := xs) (Nat.ne_of_lt lb), zz', fun d hd => ?_, q⟩
 have e : d = s1.heap.objs.size := by simpa using hd
 subst e
 exact I1.fpOk (Nat.le_refl _) (I1.hok.fresh (Nat.le_refl _))
theorem qne {K : Fr0} {A : Addr -> Prop} {H : Hp} {ds : List D} {xs : List V} {b : Addr} (t1 : ur K H b xs) (i1 : IsL K A H ds xs) : qgP K A H ds.reverse (Itv K b xs) where
 go := fun H' i d ex hd => by
  have hl : i < ds.reverse.length := (gI_.mp hd).1
  rw [List.length_reverse, <- i1.length] at hl
  exact ⟨hl, (t1.elim (fun h => .inl (ex.tup _ _ h)) .inr : ur K H' b xs).sq⟩
 yl := fun H' i d x H'' ex hd y => by
  obtain ⟨rfl, hy⟩ := y
  have hl : i < ds.length := by
   have := (gI_.mp hd).1
   rwa [List.length_reverse] at this
  rw [List.getElem?_reverse hl] at hd
  rw [List.getElem?_reverse (by rw [i1.length]; exact hl), i1.length] at hy
  obtain ⟨x', g1, g2⟩ := i1.get hd
  rw [hy] at g1
  cases g1
  exact ⟨fun _ _ h => h, Is.ext ex (fun _ h _ => h) g2⟩
 stop := fun H' ex => ⟨by rw [List.length_reverse, i1.length], (t1.elim (fun h => .inl (ex.tup _ _ h)) .inr : ur K H' b xs).sq⟩
def qnW : List D -> Option (List D)
 | [.tup xs] => some xs.reverse
 | _ => none
def qnf (f : M (List D)) : M (List D) := bnd f fun ds => lift (qnW ds)
theorem qng {f : M (List D)} {p : Pos} (hg : Gl X "reversed") (hm : X.mg "reversed" = none) (ha : DA X c [a] f) (hs : starEach [a] X.env = [(false, eval a X.env)] := by rfl) :
  DI X c tg (.Call (.Name "reversed" p) [a] [] pos) (qnf f) := by
 obtain ⟨t, pa, w⟩ := ha
 refine ⟨_, qnd hg hm pa hs, fun U Z H Q r h => w U Z H _ r (WpL.bndI h fun ds U1 vs H1 r1 i1 g1 h1 => ?_)⟩
 obtain ⟨es', e, h2⟩ := uW h1
 unfold qnW at e
 split at e
 ·obtain ⟨v, rfl, j1⟩ := IsL.inv1 i1
  cases e
  obtain ⟨a1, xs, rfl, t1, il1⟩ := Is.tr j1
  exact ⟨a1, xs, rfl, t1.sq, h2 _ H1 r1 (qne t1 il1) .refl⟩
 ·cases e
theorem qnh {l : M (List D)} {U : Env} : qnf l U = match l U with | .ok (d, U1) => (match qnW d with | some ds => .ok (ds, U1) | none => .bad) | .exc x U' => .exc x U' | .bad => .bad := by
 simp only [qnf, bnd]
 cases l U with
 | ok z => obtain ⟨z1, U1⟩ := z; (dsimp only; cases qnW z1 <;> rfl)
 | exc x U' => rfl
 | bad => rfl
theorem qhD {f : M D} {U : Env} (i : Nat) : vy i f U = match z0 i U with
  | none => .bad
  | some _ => (match f U with
   | .ok (d, U1) => (match z0 i U1 with | some ds => (if qZ (ds.length + 1) then .ok (.non, U1.set i (some (.lst (d :: ds)))) else .bad) | none => .bad)
   | .exc x U' => .exc x U' | .bad => .bad) := by
 unfold vy
 cases z0 i U with
 | none => rfl
 | some z =>
  simp only [bnd]
  cases f U with
  | ok z => obtain ⟨z1, U1⟩ := z; rfl
  | exc x U' => rfl
  | bad => rfl
end
end L2.Sk
namespace HT
open PySem PySem.Spec PyProof.Rows
section
variable {prog : Program} {w : World} {A : Around} {E : Value -> Shared -> Prop} {s : Shared}
end
end HT
namespace L2
open PySem PySem.Spec PyProof.Rows
section
variable {X : Cx} {e : Expr} {te : TE} {ste : Expr} {ts : TO} {pos p2 : Pos}
end
end L2
namespace L2.Sk
open PySem PySem.Spec PyProof.Rows
def qoD : D -> Option D
 | .tup ds => some (.tup ds.reverse)
 | .lst ds => some (.lst ds.reverse)
 | _ => none
def qni (f : M D) : M D := bnd f fun d => lift (qoD d)
section
variable {X : Cx} {c : Fc} {a : Expr} {pos p2 p3 p4 : Pos} {cj : Nat}
theorem qoE {f : M D} {U : Env} : qni f U = match f U with | .ok (d, U1) => (match qoD d with | some x => .ok (x, U1) | none => .bad) | .exc x U' => .exc x U' | .bad => .bad := by
 simp only [qni, bnd]
 cases f U with
 | ok z => obtain ⟨z1, U1⟩ := z; (dsimp only; cases qoD z1 <;> rfl)
 | exc x U' => rfl
 | bad => rfl
end
section
variable {X : Cx} {c : Fc}
end
end L2.Sk
namespace L2.Sk
namespace Law
open PySem PySem.Spec PyProof.Rows
set_option maxHeartbeats 4000000
theorem qhE (ds : List D) (r : Env) : z0 0 (some (.lst ds) :: r) = some ds := rfl
theorem qhF (i : Nat) (o : Option D) (r : Env) : z0 (i + 1) (o :: r) = z0 i r := rfl
theorem ix0 (a b c : D) : ixD (.tup [a, b, c]) (.int 0) = some a := rfl
theorem ix1 (a b c : D) : ixD (.tup [a, b, c]) (.int 1) = some b := rfl
theorem ix2 (a b c : D) : ixD (.tup [a, b, c]) (.int 2) = some c := rfl
theorem vz (i j : Int) : neB (.int i) (.int j) = some (.bl (!decide (i = j))) := rfl
theorem wF (i j : Int) : eqB (.int i) (.int j) = some (.bl (decide (i = j))) := rfl
theorem wG (ds : List D) : qd6 (tyD (.tup ds)) "tuple" = true := rfl
theorem uZ (ds : List D) : uC [.tup ds] = some (.int ds.length) := rfl
theorem qb7 (d : D) : isN d .non = some (.bl (ul d)) := rfl
theorem qhG (d : D) : qpw d .non = some (.bl (!ul d)) := rfl
theorem yD (i j : Int) : gtD (.int i) (.int j) = some (.bl (decide (j < i))) := rfl
theorem vA (i j : Int) : ltD (.int i) (.int j) = some (.bl (decide (i < j))) := rfl
theorem qbt (i j : Int) : leD (.int i) (.int j) = some (.bl (decide (i <= j))) := rfl
local macro_rules | `(tactic| push_cast [$xs,*]) => `(tactic| simp only [wd, qec, qos, jO, qeU, qg1, qjO, qot, qou, qaq, vY, qjP, qiO, uI, qeV, qeW, qiP, qg2, qiQ, qjQ, qk9, qg3, qbm, qb4, qbn, vw, qg4, qg5, qg6, uJ, qjS, qg7, qeX, qdk, qg8, qdl, qed, qg9, qha, qjT, qbp, qmZ, qee, lC_, lN_, mC_, List.map_nil, List.replicate, List.nil_append, List.cons_append, List.append_nil, List.getElem?_cons_zero, List.getElem?_cons_succ, List.set_cons_zero, List.set_cons_succ, Nat.reduceAdd, Nat.reduceSub, Nat.sub_self, Nat.zero_add, reduceIte, Bool.not_true, Bool.not_false, Bool.false_eq_true, if_true, if_false, ite_true, ite_false, cond_true, cond_false, decide_true, decide_false, ix0, ix1, ix2, wG, uZ, vz, wF, qb7, qhG, yD, vA, qbt, qhE, qhF, qe0, qe1, qe2, qjX, qei, qcw, $xs,*])
theorem uw {n p : Nat} {body : MS} {ds : List D} {d : D} (h : ds.length = p) (e : ∃ U, body (wd n ds) = .ok (.rt d U)) : dfn n p body ds = .ok d := by
 obtain ⟨U, e⟩ := e
 exact qla h e
def qln : D -> Bool
 | .int _ => true
 | _ => false
def jQ : D -> Bool
 | .int i => decide (0 <= i)
 | _ => false
def qhH : D -> Bool
 | .int i => decide (0 < i)
 | _ => false
def vk : D -> Bool
 | .tup [a, b, c] => qhH a && jQ b && (ul c || jQ c)
 | _ => false
theorem qo4 {ds : List D} (h : ds.length = 3) : ∃ a b c, ds = [a, b, c] := by
 match ds, h with
 | [a, b, c], _ => exact ⟨a, b, c, rfl⟩
theorem qb8 {ds : List D} (h : ds.length ≠ 3) : vk (.tup ds) = false := by
 match ds, h with
 | [], _ => rfl
 | [_], _ => rfl
 | [_, _], _ => rfl
 | [a, b, c], h => exact absurd rfl h
 | _ :: _ :: _ :: _ :: _, _ => rfl
theorem ql {p q : MS} {U U' : Env} (h : p U = .ok (.nx U')) : qG p q U = q U' := by rw [qjR, h]
theorem qbu {p q : MS} {U U' : Env} {d : D} (h : p U = .ok (.rt d U')) : qG p q U = .ok (.rt d U') := by rw [qjR, h]
theorem qnj {e : M D} {f : D -> D} : ∀ (ds acc : List D) (o : Option D), (∀ d ∈ ds, e [some d] = .ok (f d, [some d])) -> acc.length + ds.length <= 1000 -> ∃ U', zL (qq 0) (ret true) e ds acc [o] = .ok (acc ++ ds.map f, U')
 | [], acc, o, _, _ => ⟨[o], by simp [zL]⟩
 | d :: ds, acc, o, h, hl => by
  have hl' : acc.length + (ds.length + 1) <= 1000 := hl
  obtain ⟨U', q⟩ := qnj ds (acc ++ [f d]) (some d) (fun x hx => h x (mM _ hx)) (by rw [lA_, List.length_singleton]; omega)
  refine ⟨U', ?_⟩
  unfold zL
  simp only [qq, List.set_cons_zero, ret, h d mS_, yB (show acc.length + 1 <= 1000000 by omega), if_true, q]
  simp
theorem qdx (f : D -> Bool) : ∀ ds : List D, vi (ds.map fun d => D.bl (f d)) = some (ds.map f)
 | [] => rfl
 | d :: ds => by simp [vi, qdx f ds]
theorem all_map {ds : List D} {f : D -> Bool} : qeP [.lst (ds.map fun d => D.bl (f d))] = some (.bl (ds.all f)) := by
 simp only [qeP, qdx, Option.map_some]
 congr 2
 rw [List.all_map]
 rfl
theorem qlo {F : List D -> R D} {f : D -> Bool} {xs : M (List D)} {ds : List D} {U : Env} (hx : xs U = .ok (ds, U)) (hF : ∀ d ∈ ds, F [d] = .ok (.bl (f d))) (hl : ds.length <= 1000) :
  qT qeP (qb (zM 1 [] none xs (qq 0) (ret true) (qh F (qb (dv 0) (ret [])))) (ret [])) U = .ok (.bl (ds.all f), U) := by
 obtain ⟨U', q⟩ := qnj (e := qh F (qb (dv 0) (ret []))) (f := fun d => D.bl (f d)) ds [] none (fun x hm => by push_cast []; rw [hF x hm]) (by simpa using hl)
 have q' : zL (qq 0) (ret true) (qh F (qb (dv 0) (ret []))) ds [] (jX 1 [] U) = .ok ([] ++ ds.map fun d => D.bl (f d), U') := q
 simp only [qaq, jO, qbo, hx, q', qec, List.nil_append, all_map]
 rfl
def vB : D -> Bool
 | .tup ds => decide (ds.length <= 12) && ds.all vk
 | _ => false
def leI : D -> D -> Bool
 | .int i, .int j => decide (i <= j)
 | _, _ => false
def qf8 (k x : D) : Bool := match k with
 | .tup [_, _, m] => jQ x && (ul m || leI x m)
 | _ => false
def u3 : List D -> List D -> Bool
 | k :: ks, x :: xs => qf8 k x && u3 ks xs
 | _, _ => true
def qfa : D -> D -> Bool
 | .tup xs, .tup ks => decide (xs.length = ks.length) && u3 ks xs
 | _, _ => false
theorem qfb {e : M D} {f : D -> D -> Bool} : ∀ (ks xs acc : List D) (o o' : Option D), (∀ k ∈ ks, ∀ x, e [some k, some x] = .ok (.bl (f k x), [some k, some x])) -> acc.length + ks.length <= 1000 ->
  ∃ (bs : List Bool) (U' : Env), zL (wx 2 (qQ (qq 0) (qQ (qq 1) ww))) (ret true) e (qaT ks xs) acc [o, o'] = .ok (acc ++ bs.map D.bl, U') /\ bs.all id = (qaT ks xs).all fun p => match p with | .tup [k, x] => f k x | _ => false
 | [], xs, acc, o, o', _, _ => ⟨[], [o, o'], by simp [qaT, zL], rfl⟩
 | k :: ks, [], acc, o, o', _, _ => ⟨[], [o, o'], by simp [qaT, zL], rfl⟩
 | k :: ks, x :: xs, acc, o, o', h, hl => by
  have hl' : acc.length + (ks.length + 1) <= 1000 := hl
  obtain ⟨bs, U', q, r⟩ := qfb ks xs (acc ++ [.bl (f k x)]) (some k) (some x) (fun y hy => h y (mM _ hy)) (by rw [lA_, List.length_singleton]; omega)
  refine ⟨f k x :: bs, U', ?_, ?_⟩
  ·unfold qaT zL
   simp only [wx, qQ, qq, ww, lC_, lN_, Nat.reduceAdd, Nat.zero_add, if_true, Option.bind_some, List.set_cons_zero, List.set_cons_succ, ret, h k mS_, yB (show acc.length + 1 <= 1000000 by omega), q]
   simp
  ·unfold qaT
   rw [List.all_cons, List.all_cons, r]
   rfl
theorem qcD : ∀ bs : List Bool, vi (bs.map D.bl) = some bs
 | [] => rfl
 | b :: bs => by simp [vi, qcD bs]
theorem qaG : ∀ (ks xs : List D), ((qaT ks xs).all fun p => match p with | .tup [k, x] => qf8 k x | _ => false) = u3 ks xs
 | [], _ => rfl
 | _ :: _, [] => rfl
 | k :: ks, x :: xs => by
  unfold qaT u3
  rw [List.all_cons, qaG ks xs]
theorem qnk {ds : List D} {i : Nat} {d : D} (h : ds[i]? = some d) : ixD (.tup ds) (.int (i : Nat)) = some d := by
 have hi : i < ds.length := (gI_.mp h).1
 show atI ds (i : Int) = some d
 unfold atI ixN
 rw [if_pos (by omega), if_pos (by omega)]
 simpa using h
theorem um {l : M (List D)} {U U1 : Env} {j : Int} (e : l U = .ok ([.int j], U1)) (h0 : 0 <= j) (h : j <= 1000000) : uF l U = .ok (qaK 0 j.toNat, U1) := by
 have h1 : (-(2 ^ 62) <= j) := by omega
 have h2 : (j < 2 ^ 62) := by omega
 have e2 : qjJ [.int j] = some (qaK 0 j.toNat) := by
  simp only [qjJ, h1, h2, decide_true, Bool.and_self, if_true]
 have e3 : uF l U = lift (qjJ [.int j]) U1 := by
  show bnd l (fun ds => lift (qjJ ds)) U = _
  rw [qor, e]
 rw [e3, e2]
 rfl
theorem qhI {n m : Int} (h0 : 0 < m) (h1 : m < 1606938044258990275541962092341162602522202993782792835301376) : qbg [.int n, .int m] = some (.tup [.int (n / m), .int (n % m)]) := by
 simp only [qbg, qfM, h0, h1, decide_true, Bool.and_self, if_true]
theorem at0 (d : D) (r : List D) : atI (d :: r) 0 = some d := by
 unfold atI ixN
 rw [if_pos (by omega), if_pos (by simp)]
 rfl
theorem qpF : ixN 1 0 = some 0 := by decide
theorem qO (i j : Int) : qW (.int i) (.int j) = some (.int (i + j)) := rfl
theorem zX (i j : Int) : vt (.int i) (.int j) = some (.int (i - j)) := rfl
theorem qnl {ds : List D} {k : Int} (h0 : 0 <= k) (h1 : k < ds.length) : ∃ d ∈ ds, ixD (.lst ds) (.int k) = some d := by
 obtain ⟨i, rfl⟩ := Int.eq_ofNat_of_zero_le h0
 have hi : i < ds.length := by omega
 refine ⟨ds[i], List.getElem_mem hi, ?_⟩
 show atI ds (i : Int) = _
 unfold atI ixN
 rw [if_pos (by omega), if_pos (by omega)]
 show ds[(i : Int).toNat]? = _
 rw [Int.toNat_natCast, gG hi]
theorem qfc (j : Nat) : (qaK 0 j).length = j := by simp [qaK]
theorem u4 {i j : Int} (h : 0 < j) : vp (.int i) (.int j) = some (.int (i % j)) := by
 simp only [vp, qgJ, h, decide_true, if_true]
theorem vC {i j : Int} (h : 0 < j) (h1 : j < 1606938044258990275541962092341162602522202993782792835301376) : qde (.int i) (.int j) = some (.int (i / j)) := by
 simp only [qde, qgJ, qfM, h, h1, decide_true, Bool.and_self, if_true]
theorem qcE {i j : Int} (h : jA i = true) : y2 (.int i) (.int j) = some (.int (i * j)) := by
 simp only [y2, qd4, h, Bool.true_or, if_true]
theorem qel {i j : Int} (h : jA j = true) : y2 (.int i) (.int j) = some (.int (i * j)) := by
 simp only [y2, qd4, h, Bool.or_true, if_true]
def facts : List Int := [48271, 69621, 16807, 39373, 30269, 40014, 40692, 50021, 61687, 71993, 83869, 95561, 30307]
structure qpQ (w e : Nat) (d : D) : Prop where
 lv : (jL d).leavesShort 40 = true
 sh : (jL d).showable = true
 wt : (jL d).weight <= w
 dp : (jL d).depth <= e
def plain (d : D) : Bool := !(jL d).hasDict && noL d
theorem neg_int (i : Int) : qnU (.int i) = some (.int (-i)) := rfl
theorem qi6 {xs ys : List D} (h : xs.length + ys.length <= 1000000) : qW (.lst xs) (.lst ys) = some (.lst (xs ++ ys)) := by
 simp only [qW, yB h, if_true]
theorem qi7 {xs ys : List D} (h : xs.length + ys.length <= 1000000) : qW (.tup xs) (.tup ys) = some (.tup (xs ++ ys)) := by
 simp only [qW, yB h, if_true]
def pt (p : Int) : D -> Int
 | .tup [.int a, .int b, _] => if p = 0 then a else b
 | _ => 0
def num : D -> Int
 | .int x => x
 | _ => 0
def qoF (p : Int) : List D -> List D -> List Int
 | k :: ks, x :: xs => (pt p k * num x) :: qoF p ks xs
 | _, _ => []
theorem v0 : ∀ ns : List Int, vq (ns.map D.int) = some ns
 | [] => rfl
 | n :: ns => by simp [vq, v0 ns]
theorem qhJ (lo : Int) (n : Nat) : qaK lo (n + 1) = .int lo :: qaK (lo + 1) n := by
 unfold qaK
 rw [List.range_succ_eq_map, mC_, mm_]
 congr 1
 ·simp
 ·apply mL_
  intro i _
  show D.int _ = D.int _
  congr 1
  show lo + ((i + 1 : Nat) : Int) = _
  omega
theorem qoG {F : List D -> R D} {f g h : M D} {U : Env} {a b c d : D} (hf : f U = .ok (a, U)) (hg : g U = .ok (b, U)) (hh : h U = .ok (c, U)) (e : F [a, b, c] = .ok d) : qh F (qb f (qb g (qb h (ret [])))) U = .ok (d, U) := by
 have e1 : qb h (ret []) U = .ok ([c], U) := by rw [jO, hh]; rfl
 have e2 : qb g (qb h (ret [])) U = .ok ([b, c], U) := by rw [jO, hg]; dsimp only; rw [e1]
 have e3 : qb f (qb g (qb h (ret []))) U = .ok ([a, b, c], U) := by rw [jO, hf]; dsimp only; rw [e2]
 rw [vY, e3]
 dsimp only
 rw [e]
theorem y7 {F : List D -> Option D} {f : M D} {U : Env} {a d : D} (hf : f U = .ok (a, U)) (e : F [a] = some d) : qT F (qb f (ret [])) U = .ok (d, U) := by
 have e0 : qb f (ret []) U = .ok ([a], U) := by rw [jO, hf]; rfl
 rw [qaq, e0]
 dsimp only
 rw [e]
theorem qi8 (i j : Int) : qbe [.int i, .int j] = some (.int (if j < i then j else i)) := rfl
theorem sl_tup (xs : List D) (a b : Option Int) : slD (.tup xs) a b = some (.tup (qgO xs a b)) := rfl
theorem qnm : qiN (.int 10) (.int 20) = some (.int 100000000000000000000) := by
 have h : qk4 10 20 = true := by decide +kernel
 have e : (10 : Int) ^ (20 : Int).toNat = 100000000000000000000 := by decide +kernel
 simp only [qiN, qgJ, h, if_true, e]
theorem qi9 {α : Type} {e : M D} {t : M Bool} {k f : α -> D} {p : α -> Bool} {r : Env} : ∀ (as : List α) (acc : List D) (o : Option D), (∀ a ∈ as, t (some (k a) :: r) = .ok (p a, some (k a) :: r)) -> (∀ a ∈ as, p a = true -> e (some (k a) :: r) = .ok (f a, some (k a) :: r)) -> acc.length + as.length <= 1000000 ->
  ∃ o', zL (qq 0) t e (as.map k) acc (o :: r) = .ok (acc ++ (as.filter p).map f, o' :: r)
 | [], acc, o, _, _, _ => ⟨o, by simp [zL]⟩
 | a :: as, acc, o, ht, he, hl => by
  have hl' : acc.length + (as.length + 1) <= 1000000 := hl
  have h1 := ht a mS_
  rw [mC_]
  unfold zL
  simp only [qq, List.set_cons_zero, h1]
  cases hp : p a with
  | false =>
   obtain ⟨o', q⟩ := qi9 as acc (some (k a)) (fun x hx => ht x (mM _ hx)) (fun x hx => he x (mM _ hx)) (by omega)
   refine ⟨o', ?_⟩
   simp only [q, ft_, hp, Bool.false_eq_true, if_false]
  | true =>
   obtain ⟨o', q⟩ := qi9 as (acc ++ [f a]) (some (k a)) (fun x hx => ht x (mM _ hx)) (fun x hx => he x (mM _ hx)) (by rw [lA_, List.length_singleton]; omega)
   refine ⟨o', ?_⟩
   simp only [he a mS_ hp, yB (show acc.length + 1 <= 1000000 by omega), if_true, q, ft_, hp, mC_, aA_, List.singleton_append]
theorem qhK {α : Type} {e : M D} {t : M Bool} {k : α -> D} {xs : M (List D)} {U r : Env} {fr : List Nat} (as : List α) (p : α -> Bool) (f : α -> D) (hx : xs U = .ok (as.map k, U)) (hr : jX 1 fr U = none :: r) (hl : as.length <= 1000000)
  (ht : ∀ a ∈ as, t (some (k a) :: r) = .ok (p a, some (k a) :: r)) (he : ∀ a ∈ as, p a = true -> e (some (k a) :: r) = .ok (f a, some (k a) :: r)) : zM 1 fr none xs (qq 0) t e U = .ok (.lst ((as.filter p).map f), U) := by
 obtain ⟨o', q⟩ := qi9 as [] none ht he (by simpa using hl)
 rw [qbo, hx]
 simp only [hr, q, List.nil_append]
 rfl
theorem u5 {α : Type} (as : List α) : as.filter (fun _ => true) = as := by simp
theorem qaH {α : Type} {e : M D} {k : α -> D} {xs : M (List D)} {U r : Env} {fr : List Nat} (as : List α) (f : α -> D) (hx : xs U = .ok (as.map k, U)) (hr : jX 1 fr U = none :: r) (hl : as.length <= 1000000)
  (he : ∀ a ∈ as, e (some (k a) :: r) = .ok (f a, some (k a) :: r)) : zM 1 fr none xs (qq 0) (ret true) e U = .ok (.lst (as.map f), U) := by
 rw [qhK as (fun _ => true) f hx hr hl (fun _ _ => rfl) fun a ha _ => he a ha, u5]
theorem qbv {α β : Type} {G : D -> Env -> Option Env} {b : MS} {k : α -> D} {step : β -> α -> β} {Inv : Nat -> β -> Env -> Prop} : ∀ (as : List α) (n : Nat) (s : β) (U : Env), Inv n s U ->
  (∀ a ∈ as, ∀ m s U, n <= m -> m < n + as.length -> Inv m s U -> ∃ U1 U2, G (k a) U = some U1 /\ b U1 = .ok (.nx U2) /\ Inv (m + 1) (step s a) U2) ->
  ∃ U', yy G b (as.map k) U = .ok (.nx U') /\ Inv (n + as.length) (as.foldl step s) U'
 | [], n, s, U, h, _ => ⟨U, rfl, h⟩
 | a :: as, n, s, U, h, H => by
  obtain ⟨U1, U2, h1, h2, h3⟩ := H a mS_ n s U (Nat.le_refl _) (by rw [lC_]; omega) h
  obtain ⟨U', q, w⟩ := qbv as (n + 1) (step s a) U2 h3 fun x hx m s U m1 m2 => H x (mM _ hx) m s U (by omega) (by rw [lC_]; omega)
  refine ⟨U', ?_, ?_⟩
  ·rw [mC_]
   unfold yy
   simp only [h1, h2]
   exact q
  ·rw [lC_, show n + (as.length + 1) = n + 1 + as.length by omega]
   exact w
theorem vE {f : M D} {U : Env} {a : D} (hf : f U = .ok (a, U)) : qb f (ret []) U = .ok ([a], U) := by rw [jO, hf]; rfl
theorem qf9 {f g : M D} {U : Env} {a b : D} (hf : f U = .ok (a, U)) (hg : g U = .ok (b, U)) : qb f (qb g (ret [])) U = .ok ([a, b], U) := by rw [jO, hf]; simp only [vE hg]
theorem qnn {f g h : M D} {U : Env} {a b c : D} (hf : f U = .ok (a, U)) (hg : g U = .ok (b, U)) (hh : h U = .ok (c, U)) : qb f (qb g (qb h (ret []))) U = .ok ([a, b, c], U) := by rw [jO, hf]; simp only [qf9 hg hh]
theorem qoH {f g : M D} {U : Env} {a b : D} (hf : f U = .ok (a, U)) (hg : g U = .ok (b, U)) : qa8 (qb f (qb g (ret []))) U = .ok (.tup [a, b], U) := by rw [qeU, qf9 hf hg]; simp only [lC_, lN_, yB (show 0 + 1 + 1 <= 1000000 by omega), if_true]
theorem qpG {f g h : M D} {U : Env} {a b c : D} (hf : f U = .ok (a, U)) (hg : g U = .ok (b, U)) (hh : h U = .ok (c, U)) : qa8 (qb f (qb g (qb h (ret [])))) U = .ok (.tup [a, b, c], U) := by rw [qeU, qnn hf hg hh]; simp only [lC_, lN_, yB (show 0 + 1 + 1 + 1 <= 1000000 by omega), if_true]
theorem qR {F : List D -> R D} {f : M D} {U : Env} {a d : D} (hf : f U = .ok (a, U)) (e : F [a] = .ok d) : qh F (qb f (ret [])) U = .ok (d, U) := by rw [vY, vE hf]; simp only [e]
theorem zC {F : List D -> R D} {f g : M D} {U : Env} {a b d : D} (hf : f U = .ok (a, U)) (hg : g U = .ok (b, U)) (e : F [a, b] = .ok d) : qh F (qb f (qb g (ret []))) U = .ok (d, U) := by rw [vY, qf9 hf hg]; simp only [e]
theorem qi {F : D -> D -> Option D} {f g : M D} {U : Env} {a b d : D} (hf : f U = .ok (a, U)) (hg : g U = .ok (b, U)) (e : F a b = some d) : d2 F f g U = .ok (d, U) := by rw [qot, hf]; simp only [hg, e]
theorem zc {f : M D} {U : Env} {b : Bool} (hf : f U = .ok (.bl b, U)) : tst f U = .ok (b, U) := by rw [qiO, hf]; rfl
theorem qo5 {t : M Bool} {p q : MS} {U : Env} (h : t U = .ok (true, U)) : sif t p q U = p U := by rw [qg3, h]; rfl
theorem qdy {t : M Bool} {p q : MS} {U : Env} (h : t U = .ok (false, U)) : sif t p q U = q U := by rw [qg3, h]; rfl
theorem qdz {i : Nat} {f : M D} {U : Env} {ds : List D} {d : D} (h : z0 i U = some ds) (hf : f U = .ok (d, U)) (hi : imm d = true) (hl : ds.length < 1000000) : jg (ut i f) U = .ok (.nx (U.set i (some (.lst (ds ++ [d]))))) := by
 simp only [vw, qbp, h, hf, hi, yB (show ds.length + 1 <= 1000000 by omega), Bool.and_self, if_true]
theorem uM {G : D -> Env -> Option Env} {b : MS} {d : D} {ds : List D} {U U1 U2 : Env} (h1 : G d U = some U1) (h2 : b U1 = .ok (.nx U2)) : yy G b (d :: ds) U = yy G b ds U2 := by
 show (match G d U with | none => R.bad | some U1 => _) = _
 rw [h1]
 simp only [h2]
theorem qpH {i j : Nat} {f g : M D} {U U1 U2 : Env} {a b : D} (hf : f U = .ok (a, U1)) (hg : g U1 = .ok (b, U2)) : qlT i j (qb f (qb g (ret []))) U = .ok (.nx ((U2.set i (some a)).set j (some b))) := by
 rw [qg5, jO, hf]
 simp only [jO, hg, qec]
def mD : Option Int -> D
 | none => .non
 | some j => .int j
abbrev Kd := Int × Int × Option Int
def kD (x : Kd) : D := .tup [.int x.1, .int x.2.1, mD x.2.2]
theorem qfd {α : Type} {f : α -> D} : ∀ {as : List α}, (∀ a ∈ as, imm (f a) = true) -> immL (as.map f) = true
 | [], _ => rfl
 | a :: as, h => by simp only [mC_, immL, h a mS_, qfd fun x hx => h x (mM _ hx), Bool.and_self]
def okK (x : Kd) : Prop := 0 < x.1 /\ 0 <= x.2.1 /\ (∀ j, x.2.2 = some j -> 0 <= j)
theorem qhL {x : Kd} (h : okK x) : vk (kD x) = true := by
 obtain ⟨a, b, m⟩ := x
 obtain ⟨h1, h2, h3⟩ := h
 have e1 : qhH (.int a) = true := decide_eq_true h1
 have e2 : jQ (.int b) = true := decide_eq_true h2
 cases m with
 | none => simp only [kD, mD, vk, e1, e2, ul, Bool.true_and, Bool.true_or]
 | some j =>
  have e3 : jQ (.int j) = true := decide_eq_true (h3 j rfl)
  simp only [kD, mD, vk, e1, e2, e3, Bool.true_and, Bool.or_true]
theorem v3 {ks : List Kd} (h : ∀ x ∈ ks, okK x) (hl : ks.length <= 12) : vB (.tup (ks.map kD)) = true := by
 have : (ks.map kD).all vk = true := by
  rw [List.all_map]
  exact List.all_eq_true.mpr fun x hx => qhL (h x hx)
 simp only [vB, lM_, hl, decide_true, this, Bool.true_and]
theorem yE (x : Kd) : ixD (kD x) (.int 0) = some (.int x.1) := rfl
theorem qaN (x : Kd) : ixD (kD x) (.int 1) = some (.int x.2.1) := rfl
theorem qno (x : Kd) : ixD (kD x) (.int 2) = some (mD x.2.2) := rfl
theorem qja (m : Option Int) : ul (mD m) = m.isNone := by cases m <;> rfl
theorem qaI {α : Type} {ds : List α} {n : Nat} {d : α} (h : ds[n]? = some d) : atI ds (n : Int) = some d := by
 unfold atI ixN
 have hl := (gI_.mp h).1
 rw [if_pos (by omega), if_pos (by omega)]
 show ds[(n : Int).toNat]? = _
 rw [Int.toNat_natCast]; exact h
theorem qjb (lo : Int) (n : Nat) : qaK lo n = (List.range n).map fun i => D.int (lo + (i : Nat)) := rfl
theorem qfe {α : Type} {as : List α} {f : α -> Bool} : qeP [.lst (as.map fun a => D.bl (f a))] = some (.bl (as.all f)) := by
 have : vi (as.map fun a => D.bl (f a)) = some (as.map f) := by
  have := qcD (as.map f)
  rw [mm_] at this
  exact this
 simp only [qeP, this, Option.map_some]
 congr 2
 rw [List.all_map]
 rfl
theorem qjc {α : Type} {as : List α} {f : α -> Int} : qmC [.lst (as.map fun a => D.int (f a))] = some (.int (as.map f).sum) := by
 have : vq (as.map fun a => D.int (f a)) = some (as.map f) := by
  have := v0 (as.map f)
  rw [mm_] at this
  exact this
 simp only [qmC, this, Option.map_some]
theorem qdA {ns : List Int} : wR (.tup (ns.map D.int)) = true := by
 have h : ∀ ns : List Int, PyData.canLayAll0 (toPDs (ns.map D.int)) = true /\ PyData.depthAll (toPDs (ns.map D.int)) = 0 := fun ns => by
  induction ns with
  | nil => exact ⟨rfl, rfl⟩
  | cons n ns ih => exact ⟨by simp only [mC_, toPDs, jL, PyData.canLayAll0, PyData.canLay0, ih.1, Bool.and_self], by simp only [mC_, toPDs, jL, PyData.depthAll, PyData.depth, ih.2]; rfl⟩
 obtain ⟨h1, h2⟩ := h ns
 simp only [wR, jL, PyData.canLay0, PyData.depth, h1, h2]
 rfl
theorem qjd : ∀ ns ms : List Int, PyData.eqv (.tuple (toPDs (ns.map D.int))) (.tuple (toPDs (ms.map D.int))) = decide (ns = ms) := by
 have h : ∀ ns ms : List Int, PyData.eqvAll (toPDs (ns.map D.int)) (toPDs (ms.map D.int)) = decide (ns = ms) := fun ns => by
  induction ns with
  | nil => intro ms; cases ms <;> rfl
  | cons n ns ih =>
   intro ms
   cases ms with
   | nil => rfl
   | cons m ms =>
    simp only [mC_, toPDs, jL, PyData.eqvAll, PyData.eqv, ih ms, List.cons.injEq, Bool.decide_and]
    rfl
 intro ns ms
 simp only [PyData.eqv, h]
theorem qhM {α : Type} {e : M D} {t : M Bool} {u v f : α -> D} {p : α -> Bool} {r : Env} : ∀ (as : List α) (acc : List D) (o o' : Option D), (∀ a ∈ as, t (some (u a) :: some (v a) :: r) = .ok (p a, some (u a) :: some (v a) :: r)) -> (∀ a ∈ as, p a = true -> e (some (u a) :: some (v a) :: r) = .ok (f a, some (u a) :: some (v a) :: r)) -> acc.length + as.length <= 1000000 ->
  ∃ o1 o2, zL (wx 2 (qQ (qq 0) (qQ (qq 1) ww))) t e (as.map fun a => .tup [u a, v a]) acc (o :: o' :: r) = .ok (acc ++ (as.filter p).map f, o1 :: o2 :: r)
 | [], acc, o, o', _, _, _ => ⟨o, o', by simp [zL]⟩
 | a :: as, acc, o, o', ht, he, hl => by
  have hl' : acc.length + (as.length + 1) <= 1000000 := hl
  have h1 := ht a mS_
  rw [mC_]
  unfold zL
  have hg : wx 2 (qQ (qq 0) (qQ (qq 1) ww)) (.tup [u a, v a]) (o :: o' :: r) = some (some (u a) :: some (v a) :: r) := rfl
  simp only [hg, h1]
  cases hp : p a with
  | false =>
   obtain ⟨o1, o2, q⟩ := qhM as acc (some (u a)) (some (v a)) (fun x hx => ht x (mM _ hx)) (fun x hx => he x (mM _ hx)) (by omega)
   refine ⟨o1, o2, ?_⟩
   simp only [q, ft_, hp, Bool.false_eq_true, if_false]
  | true =>
   obtain ⟨o1, o2, q⟩ := qhM as (acc ++ [f a]) (some (u a)) (some (v a)) (fun x hx => ht x (mM _ hx)) (fun x hx => he x (mM _ hx)) (by rw [lA_, List.length_singleton]; omega)
   refine ⟨o1, o2, ?_⟩
   simp only [he a mS_ hp, yB (show acc.length + 1 <= 1000000 by omega), if_true, q, ft_, hp, mC_, aA_, List.singleton_append]
theorem qhN {α : Type} {e : M D} {t : M Bool} {u v : α -> D} {xs : M (List D)} {U r : Env} {fr : List Nat} (as : List α) (p : α -> Bool) (f : α -> D) (hx : xs U = .ok (as.map fun a => .tup [u a, v a], U)) (hr : jX 2 fr U = none :: none :: r) (hl : as.length <= 1000000)
  (ht : ∀ a ∈ as, t (some (u a) :: some (v a) :: r) = .ok (p a, some (u a) :: some (v a) :: r)) (he : ∀ a ∈ as, p a = true -> e (some (u a) :: some (v a) :: r) = .ok (f a, some (u a) :: some (v a) :: r)) : zM 2 fr none xs (wx 2 (qQ (qq 0) (qQ (qq 1) ww))) t e U = .ok (.lst ((as.filter p).map f), U) := by
 obtain ⟨o1, o2, q⟩ := qhM as [] none none ht he (by simpa using hl)
 rw [qbo, hx]
 simp only [hr, q, List.nil_append]
 rfl
def kAt (ks : List Kd) (p : Nat) : Kd := (ks[p]?).getD (1, 0, none)
theorem vF {ks : List Kd} {p : Nat} (h : p < ks.length) : ks[p]? = some (kAt ks p) := by
 unfold kAt
 rw [gG h]
 rfl
theorem vG {ks : List Kd} {p : Nat} (h : p < ks.length) : kAt ks p ∈ ks := List.mem_of_getElem? (vF h)
theorem qdB {ks : List Kd} {p : Nat} (h : p < ks.length) : ixD (.tup (ks.map kD)) (.int (p : Nat)) = some (kD (kAt ks p)) := qnk (by rw [gM_, vF h]; rfl)
theorem qnX (n : Nat) : qaK 0 n = (List.range n).map fun i => D.int (i : Nat) := by
 unfold qaK
 refine mL_ fun i _ => ?_
 rw [Int.zero_add]
theorem qdC {ks : List Kd} : ∀ (l : List Kd) (k : Nat), (∀ i, i < l.length -> l[i]? = ks[k + i]?) -> uv k (l.map kD) = (List.range l.length).map fun i => .tup [.int ((k + i : Nat) : Int), kD (kAt ks (k + i))]
 | [], _, _ => rfl
 | x :: l, k, h => by
  have h0 := h 0 (by simp)
  have e0 : kAt ks (k + 0) = x := by unfold kAt; rw [<- h0]; rfl
  rw [mC_, lC_, List.range_succ_eq_map, mC_, mm_, e0]
  show D.tup [.int (k : Nat), kD x] :: uv (k + 1) (l.map kD) = _
  rw [qdC l (k + 1) fun i hi => by
   have := h (i + 1) (by rw [lC_]; omega)
   rw [show k + 1 + i = k + (i + 1) by omega, <- this]
   rfl]
  congr 1
  refine mL_ fun i _ => ?_
  show D.tup [.int ((k + 1 + i : Nat) : Int), kD (kAt ks (k + 1 + i))] = D.tup [.int ((k + (i + 1) : Nat) : Int), kD (kAt ks (k + (i + 1)))]
  rw [show k + 1 + i = k + (i + 1) by omega]
theorem qnp (ks : List Kd) : uv 0 (ks.map kD) = (List.range ks.length).map fun i => .tup [.int (i : Nat), kD (kAt ks i)] := by
 rw [qdC (ks := ks) ks 0 fun i _ => by rw [Nat.zero_add]]
 refine mL_ fun i _ => ?_
 rw [Nat.zero_add]
theorem qnq {t u : M Bool} {U : Env} (h1 : t U = .ok (false, U)) (h2 : u U = .ok (false, U)) : tor t u U = .ok (false, U) := by rw [qiP, h1]; exact h2
theorem qlp {t u : M Bool} {U : Env} (h1 : t U = .ok (false, U)) : qfK t u U = .ok (false, U) := by rw [qeW, h1]; rfl
theorem qlq {t u : M Bool} {U : Env} {b : Bool} (h1 : t U = .ok (true, U)) (h2 : u U = .ok (b, U)) : qfK t u U = .ok (b, U) := by rw [qeW, h1]; exact h2
theorem qad {F : List D -> R D} {f g h : M D} {U : Env} {a b c d : D} (hf : f U = .ok (a, U)) (hg : g U = .ok (b, U)) (hh : h U = .ok (c, U)) (e : F [a, b, c] = .ok d) : qh F (qb f (qb g (qb h (ret [])))) U = .ok (d, U) := qoG hf hg hh e
theorem qnr {F : List D -> Option D} {f g : M D} {U : Env} {a b d : D} (hf : f U = .ok (a, U)) (hg : g U = .ok (b, U)) (e : F [a, b] = some d) : qT F (qb f (qb g (ret []))) U = .ok (d, U) := by
 rw [qaq, qf9 hf hg]
 simp only [e]
theorem qje (xs : List D) (j : Nat) (h : j <= xs.length) : qgO xs none (some (j : Int)) = xs.take j := by
 unfold qgO
 rw [HT.sIx_none, HT.sIx_nat, Nat.min_eq_left h]
 simp
theorem zT {i : Nat} {f : M D} {U U1 : Env} {d : D} (h : f U = .ok (d, U1)) : zP i f U = .ok (.nx (U1.set i (some d))) := by rw [qb4, h]
theorem z6 {f : M D} {U U1 : Env} {d : D} (h : f U = .ok (d, U1)) : zK f U = .ok (.rt d U1) := by rw [qbm, h]
theorem jh {f : M D} {U U1 : Env} {d : D} (h : f U = .ok (d, U1)) : jg f U = .ok (.nx U1) := by rw [vw, h]
end Law
end L2.Sk
namespace L2.Sk.Law
theorem qj3 : ∀ (n : Nat) (f : Nat -> Nat), (∀ i, i <= n -> f i < n) -> ∃ i j, i < j /\ j <= n /\ f i = f j
 | 0, f, h => absurd (h 0 (Nat.le_refl _)) (Nat.not_lt_zero _)
 | n + 1, f, h => by
  by_cases hv : ∃ i, i < n + 1 /\ f i = f (n + 1)
  ·obtain ⟨i, hi, e⟩ := hv
   exact ⟨i, n + 1, hi, Nat.le_refl _, e⟩
  ·have ne : ∀ i, i <= n -> f i ≠ f (n + 1) := fun i hi e => hv ⟨i, by omega, e⟩
   obtain ⟨i, j, h1, h2, e⟩ := qj3 n (fun i => if f (n + 1) < f i then f i - 1 else f i) fun i hi => by
    have a := h i (by omega)
    have b := h (n + 1) (Nat.le_refl _)
    have c := ne i hi
    show (if f (n + 1) < f i then f i - 1 else f i) < n
    split <;> omega
   refine ⟨i, j, h1, by omega, ?_⟩
   have c1 := ne i (by omega)
   have c2 := ne j h2
   have e' : (if f (n + 1) < f i then f i - 1 else f i) = (if f (n + 1) < f j then f j - 1 else f j) := e
   split at e' <;> split at e' <;> omega
theorem qcF {a x y z : Nat} (ha : 0 < a) (h : (x + z) % a = (y + z) % a) : x % a = y % a := by
 have h1 : (x + z) % a = ((y + z) % a) := h
 have h2 : ((x + z) + (a - z % a)) % a = ((y + z) + (a - z % a)) % a := by
  rw [Nat.add_mod (x + z), Nat.add_mod (y + z), h1]
 have hz := Nat.mod_lt z ha
 have hd := Nat.div_add_mod z a
 have e : ∀ w : Nat, (w + z) + (a - z % a) = w + a * (z / a + 1) := fun w => by
  have : a * (z / a + 1) = a * (z / a) + a := by rw [Nat.mul_add, Nat.mul_one]
  omega
 rw [e, e, Nat.add_mul_mod_self_left, Nat.add_mul_mod_self_left] at h2
 exact h2
end L2.Sk.Law
namespace L2.Sk
namespace Law
open PySem PySem.Spec PyProof.Rows
set_option maxHeartbeats 4000000
open Classical in
open Classical in
theorem qj4 {α : Type} {e : M D} {t : M Bool} {k : α -> D} {xs : M (List D)} {U r : Env} {fr : List Nat} {i j : Nat} (as : List α) (p : α -> Bool) (f : α -> D) (hx : xs U = .ok (as.map k, U)) (hr : jX 1 fr U = none :: r) (hl : as.length <= 1000000)
  (ht : ∀ a ∈ as, t (some (k a) :: r) = .ok (p a, some (k a) :: r)) (he : ∀ a ∈ as, p a = true -> e (some (k a) :: r) = .ok (f a, some (k a) :: r)) (hb : ∀ o : Option D, U.set j ((o :: r)[i]?).join = U) :
  zM 1 fr (some (i, j)) xs (qq 0) t e U = .ok (.lst ((as.filter p).map f), U) := by
 obtain ⟨o', q⟩ := qi9 as [] none ht he (by simpa using hl)
 rw [qbo, hx]
 simp only [hr, q, List.nil_append]
 show R.ok (D.lst ((as.filter p).map f), U.set j ((o' :: r)[i]?).join) = _
 rw [hb o']
end Law
end L2.Sk
namespace L2.Sk.Law
abbrev Kn := Nat × Nat
def mxN : List Nat -> Nat
 | [] => 0
 | n :: ns => max n (mxN ns)
theorem qff : ∀ {ns : List Nat} {n : Nat}, n ∈ ns -> n <= mxN ns
 | m :: ns, n, h => by
  unfold mxN
  rcases List.mem_cons.mp h with rfl | h
  ·exact Nat.le_max_left _ _
  ·exact Nat.le_trans (qff h) (Nat.le_max_right _ _)
theorem qcG : ∀ {ns : List Nat}, ns ≠ [] -> mxN ns ∈ ns
 | [n], _ => by simp [mxN]
 | n :: m :: ns, _ => by
  have ih := qcG (ns := m :: ns) (by simp)
  show max n (mxN (m :: ns)) ∈ _
  rcases Nat.le_total n (mxN (m :: ns)) with h | h
  ·rw [Nat.max_eq_right h]; exact mM _ ih
  ·rw [Nat.max_eq_left h]; exact mS_
theorem qns {ns : List Nat} {z : Nat} (h1 : z ∈ ns) (h2 : ∀ n ∈ ns, n <= z) : mxN ns = z := by
 have hne : ns ≠ [] := fun e => by rw [e] at h1; cases h1
 exact Nat.le_antisymm (h2 _ (qcG hne)) (qff h1)
def qjf (ks : List Kn) (t : List Nat) : Nat := mxN ((ks.filter fun k => decide (k.1 <= t.length)).map fun k => t.getD (t.length - k.1) 0 + k.2)
def tab (ks : List Kn) : Nat -> List Nat
 | 0 => []
 | n + 1 => tab ks n ++ [qjf ks (tab ks n)]
theorem qfg (ks : List Kn) (n : Nat) : tab ks (n + 1) = tab ks n ++ [qjf ks (tab ks n)] := rfl
def W (ks : List Kn) (r : Nat) : Nat := (tab ks (r + 1)).getD r 0
theorem qbw (ks : List Kn) : ∀ n, (tab ks n).length = n
 | 0 => rfl
 | n + 1 => by unfold tab; rw [lA_, qbw ks n]; rfl
theorem qj5 (ks : List Kn) : ∀ {n i : Nat}, i < n -> (tab ks n).getD i 0 = W ks i
 | n + 1, i, h => by
  by_cases e : i = n
  ·subst e; rfl
  ·have hi : i < n := by omega
   rw [<- qj5 ks hi, qfg]
   rw [List.getD_eq_getElem?_getD, List.getD_eq_getElem?_getD, List.getElem?_append_left (by rw [qbw]; exact hi)]
section
variable {ks : List Kn} (hw : ∀ k ∈ ks, 1 <= k.1)
include hw
theorem qnY (r : Nat) : W ks r = mxN ((ks.filter fun k => decide (k.1 <= r)).map fun k => W ks (r - k.1) + k.2) := by
 have e : W ks r = qjf ks (tab ks r) := by
  unfold W
  rw [qfg, List.getD_eq_getElem?_getD, List.getElem?_append_right (by rw [qbw]; exact Nat.le_refl _), qbw]
  simp
 rw [e]
 unfold qjf
 rw [qbw]
 congr 1
 refine mL_ fun k hk => ?_
 obtain ⟨h1, h2⟩ := List.mem_filter.mp hk
 have h3 := hw k h1
 have h4 : k.1 <= r := of_decide_eq_true h2
 rw [qj5 ks (by omega)]
theorem qo6 {r : Nat} {k : Kn} (hk : k ∈ ks) (h : k.1 <= r) : W ks (r - k.1) + k.2 <= W ks r := by
 rw [qnY hw r]
 exact qff (mP_.mpr ⟨k, List.mem_filter.mpr ⟨hk, decide_eq_true h⟩, rfl⟩)
theorem qo7 (r : Nat) : W ks r = 0 \/ ∃ k ∈ ks, k.1 <= r /\ W ks r = W ks (r - k.1) + k.2 := by
 by_cases hne : ((ks.filter fun k => decide (k.1 <= r)).map fun k => W ks (r - k.1) + k.2) = []
 ·left; rw [qnY hw r, hne]; rfl
 ·right
  have h := qcG hne
  rw [<- qnY hw r] at h
  obtain ⟨k, hk, e⟩ := mP_.mp h
  obtain ⟨h1, h2⟩ := List.mem_filter.mp hk
  exact ⟨k, h1, of_decide_eq_true h2, e.symm⟩
end
def wS (l : List Kn) : Nat := (l.map (·.1)).sum
def vS (l : List Kn) : Nat := (l.map (·.2)).sum
theorem j6 (k : Kn) (l : List Kn) : wS (k :: l) = k.1 + wS l := by simp [wS]
theorem ux (k : Kn) (l : List Kn) : vS (k :: l) = k.2 + vS l := by simp [vS]
theorem y8 (l m : List Kn) : wS (l ++ m) = wS l + wS m := by simp [wS]
theorem uN (l m : List Kn) : vS (l ++ m) = vS l + vS m := by simp [vS]
section
variable {ks : List Kn} (hw : ∀ k ∈ ks, 1 <= k.1)
include hw
theorem wH : ∀ (l : List Kn) (r : Nat), (∀ k ∈ l, k ∈ ks) -> wS l <= r -> vS l <= W ks r
 | [], r, _, _ => Nat.zero_le _
 | k :: l, r, h, hr => by
  rw [j6] at hr
  rw [ux]
  have ih := wH l (r - k.1) (fun x hx => h x (mM _ hx)) (by omega)
  have := qo6 hw (h k mS_) (show k.1 <= r by omega)
  omega
theorem qdD : ∀ (n r : Nat), r < n -> ∃ l, (∀ k ∈ l, k ∈ ks) /\ wS l <= r /\ vS l = W ks r := by
 intro n
 induction n with
 | zero => intro r h; omega
 | succ n ih =>
  intro r h
  rcases qo7 hw r with e | ⟨k, hk, h1, e⟩
  ·exact ⟨[], (fun _ z => absurd z (by simp)), Nat.zero_le _, by rw [e]; rfl⟩
  ·have hk1 := hw k hk
   obtain ⟨l, h2, h3, h4⟩ := ih (r - k.1) (by omega)
   refine ⟨k :: l, fun x hx => ?_, by rw [j6]; omega, by rw [ux, e, h4]; omega⟩
   rcases List.mem_cons.mp hx with rfl | hx
   ·exact hk
   ·exact h2 x hx
theorem qnt {r s : Nat} (h : r <= s) : W ks r <= W ks s := by
 obtain ⟨l, h1, h2, h3⟩ := qdD hw (r + 1) r (by omega)
 rw [<- h3]
 exact wH hw l s h1 (by omega)
end
theorem seg (h : Nat) (h0 : 0 < h) (l : List Kn) (hl : h <= l.length) : ∃ a b c, l = a ++ b ++ c /\ b ≠ [] /\ wS b % h = 0 := by
 obtain ⟨i, j, hij, hj, e⟩ := qj3 h (fun i => wS (l.take i) % h) (fun i _ => Nat.mod_lt _ h0)
 have e2 : l.take j = l.take i ++ (l.take j).drop i := by
  have : (l.take j).take i = l.take i := by rw [List.take_take, Nat.min_eq_left (by omega)]
  rw [<- this, List.take_append_drop]
 refine ⟨l.take i, (l.take j).drop i, l.drop j, ?_, ?_, ?_⟩
 ·rw [<- e2, List.take_append_drop]
 ·intro z
  have := congrArg List.length z
  simp only [List.length_drop, List.length_take, lN_] at this
  omega
 ·have e3 : wS (l.take i) % h = wS (l.take j) % h := e
  rw [e2, y8] at e3
  have e4 : (0 + wS (l.take i)) % h = (wS ((l.take j).drop i) + wS (l.take i)) % h := by rw [Nat.zero_add, e3, Nat.add_comm]
  have := qcF h0 e4
  rw [<- this]; exact Nat.zero_mod _
def qj6 (ks : List Kn) (p : Kn) : Prop := p ∈ ks /\ ∀ k ∈ ks, k.2 * p.1 <= p.2 * k.1
theorem qfh {ks : List Kn} {p : Kn} (hp : qj6 ks p) : ∀ l : List Kn, (∀ k ∈ l, k ∈ ks) -> vS l * p.1 <= p.2 * wS l
 | [], _ => by simp [vS, wS]
 | k :: l, h => by
  have h1 := hp.2 k (h k mS_)
  have h2 := qfh hp l fun x hx => h x (mM _ hx)
  rw [ux, j6, Nat.add_mul, Nat.mul_add]
  omega
theorem qnu {H : Nat} : ∀ l : List Kn, (∀ k ∈ l, k.1 <= H) -> wS l <= l.length * H
 | [], _ => by simp [wS]
 | k :: l, h => by
  have h1 := h k mS_
  have h2 := qnu l fun x hx => h x (mM _ hx)
  rw [j6, lC_, Nat.succ_mul]
  omega
theorem qlr {ks : List Kn} (hw : ∀ k ∈ ks, 1 <= k.1) {p : Kn} (hp : qj6 ks p) {H r : Nat} (hH : ∀ k ∈ ks, k.1 <= H) (hr : p.1 + (p.1 - 1) * H <= r) : W ks r = W ks (r - p.1) + p.2 := by
 have hp1 := hw p hp.1
 refine Nat.le_antisymm ?_ (qo6 hw hp.1 (by omega))
 obtain ⟨l, h1, h2, h3⟩ := qdD hw (r + 1) r (by omega)
 rw [<- h3]
 by_cases hs : wS l <= r - p.1
 ·have := wH hw l (r - p.1) h1 hs
  omega
 ·have hlen : p.1 <= l.length := by
   have := qnu l fun k hk => hH k (h1 k hk)
   apply Nat.le_of_not_lt
   intro hlt
   have : l.length * H <= (p.1 - 1) * H := Nat.mul_le_mul_right _ (by omega)
   omega
  obtain ⟨a, b, c, e, hb, hm⟩ := seg p.1 hp1 l hlen
  have hmem : ∀ k, k ∈ a \/ k ∈ b \/ k ∈ c -> k ∈ ks := fun k hk => h1 k (by
   rw [e]
   rcases hk with hk | hk | hk
   ·exact List.mem_append_left _ (List.mem_append_left _ hk)
   ·exact List.mem_append_left _ (mr_ _ hk)
   ·exact mr_ _ hk)
  have eb : wS b = p.1 * (wS b / p.1) := by
   have := Nat.div_add_mod (wS b) p.1
   omega
  generalize hq : wS b / p.1 = q at eb
  have hvb : vS b <= p.2 * q := by
   have := qfh hp b fun k hk => hmem k (.inr (.inl hk))
   rw [eb, <- Nat.mul_assoc, Nat.mul_comm p.2 p.1, Nat.mul_assoc, Nat.mul_comm (vS b)] at this
   exact Nat.le_of_mul_le_mul_left this hp1
  have hq1 : 1 <= q := by
   apply Nat.le_of_not_lt
   intro hlt
   have : q = 0 := by omega
   rw [this, Nat.mul_zero] at eb
   cases b with
   | nil => exact hb rfl
   | cons k b =>
    rw [j6] at eb
    have := hw k (hmem k (.inr (.inl mS_)))
    omega
  have rep_w : ∀ n, wS (List.replicate n p) = p.1 * n := fun n => by
   induction n with
   | zero => rfl
   | succ n ih => rw [rS_, j6, ih, Nat.mul_succ]; omega
  have rep_v : ∀ n, vS (List.replicate n p) = p.2 * n := fun n => by
   induction n with
   | zero => rfl
   | succ n ih => rw [rS_, ux, ih, Nat.mul_succ]; omega
  obtain ⟨q', rfl⟩ : ∃ q', q = q' + 1 := ⟨q - 1, by omega⟩
  have el : wS l = wS a + wS b + wS c := by rw [e, y8, y8]
  have ev : vS l = vS a + vS b + vS c := by rw [e, uN, uN]
  have hm1 : p.1 * (q' + 1) = p.1 * q' + p.1 := Nat.mul_succ _ _
  have hm2 : p.2 * (q' + 1) = p.2 * q' + p.2 := Nat.mul_succ _ _
  have := wH hw (a ++ List.replicate q' p ++ c) (r - p.1) (fun k hk => by
   rcases mA_.mp hk with hk | hk
   ·rcases mA_.mp hk with hk | hk
    ·exact hmem k (.inl hk)
    ·rw [(List.mem_replicate.mp hk).2]; exact hp.1
   ·exact hmem k (.inr (.inr hk))) (by rw [y8, y8, rep_w]; omega)
  rw [uN, uN, rep_v] at this
  omega
def qdE (ks : List Kn) (p : Kn) (r : Nat) : Bool := decide (W ks r ≠ W ks (r - p.1) + p.2)
def wf (ks : List Kn) (p : Kn) : Nat -> Nat
 | 0 => p.1
 | n + 1 => if p.1 <= n /\ qdE ks p n = true then n + 1 else wf ks p n
theorem qfi {ks : List Kn} {p : Kn} : ∀ n, wf ks p n <= max p.1 n
 | 0 => Nat.le_max_left _ _
 | n + 1 => by
  unfold wf
  split
  ·exact Nat.le_max_right _ _
  ·have := qfi (ks := ks) (p := p) n
   omega
theorem qaW {ks : List Kn} {p : Kn} : ∀ n, p.1 <= wf ks p n
 | 0 => Nat.le_refl _
 | n + 1 => by
  unfold wf
  split
  ·omega
  ·exact qaW n
end L2.Sk.Law
namespace L2.Sk.Law
def qpI : Nat -> (Nat -> Nat) -> Nat
 | 0, _ => 0
 | n + 1, f => qpI n f + f n
structure Kw where
 w : Int
 v : Int
 m : Option Int
def okT (k : Kw) (t : Nat) (r : Int) : Bool := decide ((t : Int) * k.w <= r) && (match k.m with | none => true | some j => decide ((t : Int) <= j))
def ofn (k : Kw) (r : Int) : Nat := (match k.m with | none => r / k.w | some j => if j < r / k.w then j else r / k.w).toNat
def qnv : List Kw -> List Int -> Int
 | k :: ks, t :: ts => t * k.v + qnv ks ts
 | _, _ => 0
end L2.Sk.Law
namespace L2.Sk.Law
def qnw : List Kw -> Int -> List (List Int)
 | [], _ => [[]]
 | k :: ks, r => (List.range (ofn k r + 1)).flatMap fun t : Nat => (qnw ks (r - (t : Int) * k.w)).map fun l => (t : Int) :: l
def mxZ : List Int -> Int
 | [] => 0
 | a :: l => l.foldl max a
theorem qbx : ∀ (l : List Int) (a : Int), a <= l.foldl max a /\ (∀ x ∈ l, x <= l.foldl max a) /\ (l.foldl max a = a \/ l.foldl max a ∈ l)
 | [], a => ⟨Int.le_refl _, (fun _ h => by cases h), .inl rfl⟩
 | b :: l, a => by
  obtain ⟨h1, h2, h3⟩ := qbx l (max a b)
  rw [fo_]
  refine ⟨by omega, fun x hx => ?_, ?_⟩
  ·rcases List.mem_cons.mp hx with rfl | hx
   ·omega
   ·exact h2 x hx
  ·rcases h3 with h3 | h3
   ·rw [h3]
    rcases Int.le_total a b with h | h
    ·right; rw [Int.max_eq_right h]; exact mS_
    ·left; exact Int.max_eq_left h
   ·exact .inr (mM _ h3)
theorem qj7 {l : List Int} {x : Int} (h : x ∈ l) : x <= mxZ l := by
 cases l with
 | nil => cases h
 | cons a l =>
  obtain ⟨h1, h2, _⟩ := qbx l a
  rcases List.mem_cons.mp h with rfl | h
  ·exact h1
  ·exact h2 x h
theorem qhO {l : List Int} (h : l ≠ []) : mxZ l ∈ l := by
 cases l with
 | nil => exact absurd rfl h
 | cons a l =>
  rcases (qbx l a).2.2 with e | e
  ·show l.foldl max a ∈ _
   rw [e]; exact mS_
  ·exact mM _ e
def wJ : List Kw -> Int -> Int
 | [], _ => 0
 | k :: ks, r => mxZ ((List.range (ofn k r + 1)).map fun t : Nat => (t : Int) * k.v + wJ ks (r - (t : Int) * k.w))
theorem qls {k : Kw} {ks : List Kw} {r : Int} {t : Nat} (h : t <= ofn k r) : (t : Int) * k.v + wJ ks (r - (t : Int) * k.w) <= wJ (k :: ks) r := qj7 (mP_.mpr ⟨t, mR_.mpr (by omega), rfl⟩)
theorem qlt (k : Kw) (ks : List Kw) (r : Int) : ∃ t, t <= ofn k r /\ (t : Int) * k.v + wJ ks (r - (t : Int) * k.w) = wJ (k :: ks) r := by
 have h := qhO (l := (List.range (ofn k r + 1)).map fun t : Nat => (t : Int) * k.v + wJ ks (r - (t : Int) * k.w)) (by simp)
 obtain ⟨t, ht, e⟩ := mP_.mp h
 exact ⟨t, by have := mR_.mp ht; omega, e⟩
end L2.Sk.Law
namespace L2.Sk.Law
def qdX (l : List Nat) (u : Nat × Nat) : List Nat := l.set u.1 (min (l.getD u.1 0) u.2)
theorem qem (l : List Nat) (u : Nat × Nat) (j : Nat) : (qdX l u).getD j 0 = if u.1 = j /\ j < l.length then min (l.getD j 0) u.2 else l.getD j 0 := by
 unfold qdX
 rw [List.getD_eq_getElem?_getD, List.getElem?_set]
 by_cases h : u.1 = j
 ·subst h
  by_cases hl : u.1 < l.length
  ·rw [if_pos rfl, if_pos hl, if_pos ⟨rfl, hl⟩]
   rfl
  ·rw [if_pos rfl, if_neg hl, if_neg (fun h => hl h.2), List.getD_eq_getElem?_getD, List.getElem?_eq_none (by omega)]
 ·rw [if_neg h, if_neg (fun hh => h hh.1), List.getD_eq_getElem?_getD]
theorem qcH (l : List Nat) (u : Nat × Nat) : (qdX l u).length = l.length := lS_
theorem qaX : ∀ (U : List (Nat × Nat)) (l : List Nat), (U.foldl qdX l).length = l.length
 | [], l => rfl
 | u :: U, l => by rw [fo_, qaX U, qcH]
theorem qcI : ∀ (U : List (Nat × Nat)) (l : List Nat) (j : Nat), (U.foldl qdX l).getD j 0 <= l.getD j 0
 | [], l, j => Nat.le_refl _
 | u :: U, l, j => by
  rw [fo_]
  refine Nat.le_trans (qcI U _ j) ?_
  rw [qem]
  split <;> omega
theorem qfj : ∀ (U : List (Nat × Nat)) (l : List Nat) (u : Nat × Nat), u ∈ U -> u.1 < l.length -> (U.foldl qdX l).getD u.1 0 <= u.2
 | x :: U, l, u, h, hl => by
  rw [fo_]
  rcases List.mem_cons.mp h with rfl | h
  ·refine Nat.le_trans (qcI U _ _) ?_
   rw [qem, if_pos ⟨rfl, hl⟩]
   omega
  ·exact qfj U _ u h (by rw [qcH]; exact hl)
theorem qfk : ∀ (U : List (Nat × Nat)) (l : List Nat) (j : Nat), (U.foldl qdX l).getD j 0 = l.getD j 0 \/ ∃ u ∈ U, u.1 = j /\ (U.foldl qdX l).getD j 0 = u.2
 | [], l, j => .inl rfl
 | u :: U, l, j => by
  rw [fo_]
  rcases qfk U (qdX l u) j with e | ⟨x, hx, e1, e2⟩
  ·rw [e, qem]
   split
   ·rename_i h
    by_cases hm : l.getD j 0 <= u.2
    ·exact .inl (by omega)
    ·exact .inr ⟨u, mS_, h.1, by omega⟩
   ·exact .inl rfl
  ·exact .inr ⟨x, mM _ hx, e1, e2⟩
theorem qj8 : ∀ (a b : List Nat), a.length = b.length -> (∀ j, a.getD j 0 <= b.getD j 0) -> a.sum <= b.sum
 | [], [], _, _ => Nat.le_refl _
 | x :: a, y :: b, hl, h => by
  have h0 := h 0
  have := qj8 a b (by simpa using hl) fun j => by simpa using h (j + 1)
  rw [List.sum_cons, List.sum_cons]
  have h0 : x <= y := by simpa using h0
  omega
 | [], y :: b, hl, _ => by simp at hl
 | x :: a, [], hl, _ => by simp at hl
theorem qj9 : ∀ (a b : List Nat), a.length = b.length -> (∀ j, a.getD j 0 <= b.getD j 0) -> (∃ j, a.getD j 0 < b.getD j 0) -> a.sum < b.sum
 | [], [], _, _, ⟨j, hj⟩ => by simp at hj
 | x :: a, y :: b, hl, h, ⟨j, hj⟩ => by
  have h0 : x <= y := by simpa using h 0
  have hl' : a.length = b.length := by simpa using hl
  have ht : ∀ j, a.getD j 0 <= b.getD j 0 := fun j => by simpa using h (j + 1)
  rw [List.sum_cons, List.sum_cons]
  cases j with
  | zero =>
   have : x < y := by simpa using hj
   have := qj8 a b hl' ht
   omega
  | succ j =>
   have := qj9 a b hl' ht ⟨j, by simpa using hj⟩
   omega
 | [], y :: b, hl, _, _ => by simp at hl
 | x :: a, [], hl, _, _ => by simp at hl
theorem qhP : ∀ (i : Nat) (p : Kn), wS (List.replicate i p) = i * p.1
 | 0, p => by simp [wS]
 | i + 1, p => by rw [rS_, j6, qhP i p, Nat.succ_mul]; omega
theorem qhQ : ∀ (i : Nat) (p : Kn), vS (List.replicate i p) = i * p.2
 | 0, p => by simp [vS]
 | i + 1, p => by rw [rS_, ux, qhQ i p, Nat.succ_mul]; omega
def stN (p : Kn) (ks : List Kn) : List (Nat × Nat) := (1, p.2) :: ks.map fun k => (k.1, k.1 * p.2 - k.2 * p.1)
def yJ (st : List (Nat × Nat)) (n : List Nat) : Bool := (List.range n.length).all fun i => st.all fun s => decide (n.getD ((i + s.1) % n.length) 0 <= n.getD i 0 + s.2)
def qlV (st : List (Nat × Nat)) (n : List Nat) : List (Nat × Nat) := (List.range n.length).flatMap fun i => st.map fun s => ((i + s.1) % n.length, n.getD i 0 + s.2)
def qfl (st : List (Nat × Nat)) (n : List Nat) : List Nat := (qlV st n).foldl qdX n
theorem qfm {st : List (Nat × Nat)} {n : List Nat} (h : yJ st n = true) {i : Nat} (hi : i < n.length) {s : Nat × Nat} (hs : s ∈ st) : n.getD ((i + s.1) % n.length) 0 <= n.getD i 0 + s.2 := by
 have := List.all_eq_true.mp h i (mR_.mpr hi)
 exact of_decide_eq_true (List.all_eq_true.mp this s hs)
theorem qka {st : List (Nat × Nat)} {n : List Nat} (h : yJ st n = false) : (qfl st n).sum < n.sum := by
 have hx : ∃ i, i < n.length /\ ∃ s ∈ st, n.getD i 0 + s.2 < n.getD ((i + s.1) % n.length) 0 := by
  unfold yJ at h
  rw [List.all_eq_false] at h
  obtain ⟨i, hi, h2⟩ := h
  have h2 : (st.all fun s => decide (n.getD ((i + s.1) % n.length) 0 <= n.getD i 0 + s.2)) = false := by simpa using h2
  rw [List.all_eq_false] at h2
  obtain ⟨s, hs, h3⟩ := h2
  have h3 : ¬ n.getD ((i + s.1) % n.length) 0 <= n.getD i 0 + s.2 := by simpa using h3
  exact ⟨i, mR_.mp hi, s, hs, by omega⟩
 obtain ⟨i, hi, s, hs, hlt⟩ := hx
 refine qj9 _ _ (qaX _ _) (fun j => qcI _ _ j) ⟨(i + s.1) % n.length, ?_⟩
 have := qfj (qlV st n) n ((i + s.1) % n.length, n.getD i 0 + s.2) (List.mem_flatMap.mpr ⟨i, mR_.mpr hi, mP_.mpr ⟨s, hs, rfl⟩⟩) (Nat.mod_lt _ (by omega))
 have this : ((qlV st n).foldl qdX n).getD ((i + s.1) % n.length) 0 <= n.getD i 0 + s.2 := this
 unfold qfl
 omega
def Rz (ks : List Kn) (p : Kn) (i x : Nat) : Prop := ∃ (l : List Kn) (T : Nat), (∀ k ∈ l, k ∈ ks) /\ wS l <= T /\ T % p.1 = i /\ x + vS l * p.1 = T * p.2
theorem qnx {ks : List Kn} {p : Kn} {i x : Nat} (h : Rz ks p i x) : Rz ks p ((i + 1) % p.1) (x + p.2) := by
 obtain ⟨l, T, h1, h2, h3, h4⟩ := h
 refine ⟨l, T + 1, h1, by omega, ?_, ?_⟩
 ·rw [<- h3, Nat.mod_add_mod]
 ·rw [Nat.succ_mul]
  omega
theorem qlu {ks : List Kn} {p : Kn} (hp : qj6 ks p) {k : Kn} (hk : k ∈ ks) {i x : Nat} (h : Rz ks p i x) : Rz ks p ((i + k.1) % p.1) (x + (k.1 * p.2 - k.2 * p.1)) := by
 obtain ⟨l, T, h1, h2, h3, h4⟩ := h
 refine ⟨k :: l, T + k.1, fun y hy => ?_, by rw [j6]; omega, ?_, ?_⟩
 ·rcases List.mem_cons.mp hy with rfl | hy
  ·exact hk
  ·exact h1 y hy
 ·rw [<- h3, Nat.mod_add_mod]
 ·have := hp.2 k hk
  rw [Nat.mul_comm p.2 k.1] at this
  rw [ux, Nat.add_mul, Nat.add_mul]
  omega
structure okP (ks : List Kn) (p : Kn) (n : List Nat) : Prop where
 len : n.length = p.1
 fst : n.getD 0 0 = 0
 rz : ∀ i, i < p.1 -> Rz ks p i (n.getD i 0)
theorem okP.start {ks : List Kn} {p : Kn} (hp : 1 <= p.1) : okP ks p ((List.range p.1).map fun i => i * p.2) := by
 refine ⟨by simp, ?_, fun i hi => ?_⟩
 ·cases e : p.1 with
  | zero => omega
  | succ m => simp [List.range_succ_eq_map]
 ·refine ⟨[], i, (fun _ h => by cases h), Nat.zero_le _, Nat.mod_eq_of_lt hi, ?_⟩
  rw [List.getD_eq_getElem?_getD, gM_, List.getElem?_range hi]
  show i * p.2 + vS [] * p.1 = i * p.2
  simp [vS]
theorem okP.low {ks : List Kn} {p : Kn} (hl : qj6 ks p) {n : List Nat} (h : okP ks p n) : okP ks p (qfl (stN p ks) n) := by
 refine ⟨by unfold qfl; rw [qaX]; exact h.len, ?_, fun i hi => ?_⟩
 ·have := qcI (qlV (stN p ks) n) n 0
  have h0 := h.fst
  unfold qfl
  omega
 ·rcases qfk (qlV (stN p ks) n) n i with e | ⟨u, hu, e1, e2⟩
  ·unfold qfl
   rw [e]
   exact h.rz i hi
  ·unfold qfl
   rw [e2]
   obtain ⟨j, hj, hu⟩ := List.mem_flatMap.mp hu
   obtain ⟨s, hs, rfl⟩ := mP_.mp hu
   have hj := mR_.mp hj
   rw [h.len] at hj
   have rj := h.rz j hj
   have e1 : (j + s.1) % n.length = i := e1
   rw [h.len] at e1
   subst e1
   rcases List.mem_cons.mp hs with rfl | hs
   ·exact qnx rj
   ·obtain ⟨k, hk, rfl⟩ := mP_.mp hs
    exact qlu hl hk rj
theorem qby {ks : List Kn} {p : Kn} (hp : 1 <= p.1) (hl : qj6 ks p) {n : List Nat} (h : okP ks p n) (hk : yJ (stN p ks) n = true) : ∀ (l : List Kn) (e : Nat), (∀ k ∈ l, k ∈ ks) -> n.getD ((wS l + e) % p.1) 0 + vS l * p.1 <= (wS l + e) * p.2
 | [], 0, _ => by
  show n.getD ((0 + 0) % p.1) 0 + 0 * p.1 <= _
  rw [Nat.zero_mod, h.fst]
  simp
 | [], e + 1, _ => by
  have ih := qby hp hl h hk [] e (fun _ h => by cases h)
  have st := qfm hk (i := (wS [] + e) % p.1) (by rw [h.len]; exact Nat.mod_lt _ (by omega)) (s := (1, p.2)) mS_
  rw [h.len] at st
  have e1 : ((wS [] + e) % p.1 + 1) % p.1 = (wS [] + (e + 1)) % p.1 := by rw [Nat.mod_add_mod]; rfl
  have st : n.getD (((wS [] + e) % p.1 + 1) % p.1) 0 <= n.getD ((wS [] + e) % p.1) 0 + p.2 := st
  rw [e1] at st
  have e2 : (wS [] + (e + 1)) * p.2 = (wS [] + e) * p.2 + p.2 := Nat.succ_mul _ _
  omega
 | k :: l, e, hm => by
  have hkm := hm k mS_
  have ih := qby hp hl h hk l e (fun x hx => hm x (mM _ hx))
  have st := qfm hk (i := (wS l + e) % p.1) (by rw [h.len]; exact Nat.mod_lt _ (by omega)) (s := (k.1, k.1 * p.2 - k.2 * p.1)) (mM _ (mP_.mpr ⟨k, hkm, rfl⟩))
  rw [h.len] at st
  have e1 : ((wS l + e) % p.1 + k.1) % p.1 = (wS (k :: l) + e) % p.1 := by
   rw [Nat.mod_add_mod, j6]
   congr 1
   omega
  have st : n.getD (((wS l + e) % p.1 + k.1) % p.1) 0 <= n.getD ((wS l + e) % p.1) 0 + (k.1 * p.2 - k.2 * p.1) := st
  rw [e1] at st
  have hle := hl.2 k hkm
  rw [Nat.mul_comm p.2 k.1] at hle
  have e2 : (wS (k :: l) + e) * p.2 = k.1 * p.2 + (wS l + e) * p.2 := by
   rw [j6, <- Nat.add_mul]
   congr 1
   omega
  have e3 : vS (k :: l) * p.1 = k.2 * p.1 + vS l * p.1 := by rw [ux, Nat.add_mul]
  omega
def qkb (p : Kn) (n : List Nat) (r : Nat) : Int := (((r : Nat) : Int) * (p.2 : Nat) - (n.getD (r % p.1) 0 : Nat)) / (p.1 : Nat)
theorem qny {ks : List Kn} (hw : ∀ k ∈ ks, 1 <= k.1) {p : Kn} (hp : 1 <= p.1) (hl : qj6 ks p) {n : List Nat} (h : okP ks p n) (hk : yJ (stN p ks) n = true) (r : Nat) : ((W ks r : Nat) : Int) <= qkb p n r := by
 obtain ⟨l, h1, h2, h3⟩ := qdD hw (r + 1) r (by omega)
 have t := qby hp hl h hk l (r - wS l) h1
 rw [show wS l + (r - wS l) = r by omega, h3] at t
 unfold qkb
 refine Int.le_ediv_of_mul_le (by omega) ?_
 have t' : ((n.getD (r % p.1) 0 : Nat) : Int) + ((W ks r : Nat) : Int) * (p.1 : Nat) <= ((r : Nat) : Int) * (p.2 : Nat) := by exact_mod_cast t
 omega
theorem qnz {ks : List Kn} (hw : ∀ k ∈ ks, 1 <= k.1) {p : Kn} (hp : 1 <= p.1) (hl : qj6 ks p) {n : List Nat} (h : okP ks p n) {r : Nat} (hr : ∀ j, W ks (r + j * p.1) = W ks r + j * p.2) : qkb p n r <= ((W ks r : Nat) : Int) := by
 obtain ⟨l, T, h1, h2, h3, h4⟩ := h.rz (r % p.1) (Nat.mod_lt _ (by omega))
 obtain ⟨i, j, e⟩ : ∃ i j, r + j * p.1 = T + i * p.1 := by
  have a := Nat.div_add_mod T p.1
  have b := Nat.div_add_mod r p.1
  rw [h3] at a
  refine ⟨r / p.1, T / p.1, ?_⟩
  rw [Nat.mul_comm] at a b
  omega
 have s := wH hw (l ++ List.replicate i p) (r + j * p.1) (fun k hk => by
  rcases mA_.mp hk with hk | hk
  ·exact h1 k hk
  ·rw [List.eq_of_mem_replicate hk]
   exact hl.1) (by
  rw [y8, e]
  have : wS (List.replicate i p) = i * p.1 := by
   exact qhP i p
  omega)
 have hv : vS (List.replicate i p) = i * p.2 := by
  exact qhQ i p
 rw [uN, hv, hr j] at s
 unfold qkb
 refine Int.ediv_le_of_le_mul (by omega) ?_
 have m1 : (vS l + i * p.2) * p.1 <= (W ks r + j * p.2) * p.1 := Nat.mul_le_mul_right _ s
 have m2 : (r + j * p.1) * p.2 = (T + i * p.1) * p.2 := by rw [e]
 have m3 : (vS l + i * p.2) * p.1 = vS l * p.1 + i * p.1 * p.2 := by rw [Nat.add_mul, Nat.mul_assoc, Nat.mul_comm p.2 p.1, <- Nat.mul_assoc]
 have m4 : (W ks r + j * p.2) * p.1 = W ks r * p.1 + j * p.1 * p.2 := by rw [Nat.add_mul, Nat.mul_assoc, Nat.mul_comm p.2 p.1, <- Nat.mul_assoc]
 have m5 : (r + j * p.1) * p.2 = r * p.2 + j * p.1 * p.2 := Nat.add_mul _ _ _
 have m6 : (T + i * p.1) * p.2 = T * p.2 + i * p.1 * p.2 := Nat.add_mul _ _ _
 have t : r * p.2 <= W ks r * p.1 + n.getD (r % p.1) 0 := by omega
 have t' : ((r : Nat) : Int) * (p.2 : Nat) <= ((W ks r : Nat) : Int) * (p.1 : Nat) + ((n.getD (r % p.1) 0 : Nat) : Int) := by exact_mod_cast t
 omega
theorem qfn {ks : List Kn} {p : Kn} : ∀ n, wf ks p n = p.1 \/ (p.1 <= wf ks p n - 1 /\ qdE ks p (wf ks p n - 1) = true /\ p.1 < wf ks p n)
 | 0 => .inl rfl
 | n + 1 => by
  unfold wf
  split
  ·rename_i h
   exact .inr ⟨by omega, h.2, by omega⟩
  ·exact qfn n
theorem qnA {ks ms : List Kn} (hw : ∀ k ∈ ks, 1 <= k.1) (hm : ∀ k ∈ ms, 1 <= k.1) (h : ∀ k ∈ ks, k ∈ ms) (r : Nat) : W ks r <= W ms r := by
 obtain ⟨l, h1, h2, h3⟩ := qdD hw (r + 1) r (by omega)
 rw [<- h3]
 exact wH hm l r (fun k hk => h k (h1 k hk)) h2
def kwN (k : Kn) : Kw := ⟨(k.1 : Nat), (k.2 : Nat), none⟩
theorem qlv {k : Kn} (r : Nat) : ofn (kwN k) (r : Nat) = r / k.1 := by
 unfold ofn kwN
 show (((r : Nat) : Int) / (k.1 : Nat)).toNat = _
 rw [<- Int.natCast_ediv, Int.toNat_natCast]
theorem qb9 : ∀ (ks : List Kn) (l : List Kn) (r : Nat), (∀ k ∈ ks, 1 <= k.1) -> (∀ k ∈ l, k ∈ ks) -> wS l <= r -> ((vS l : Nat) : Int) <= wJ (ks.map kwN) (r : Nat)
 | [], l, r, _, hl, _ => by
  cases l with
  | nil => exact Int.le_refl _
  | cons k l => exact absurd (hl k mS_) (by simp)
 | k :: ks, l, r, hw, hl, hr => by
  have part : ∀ l : List Kn, (∀ x ∈ l, x ∈ k :: ks) -> ∃ (t : Nat) (l' : List Kn), (∀ x ∈ l', x ∈ ks) /\ wS l = t * k.1 + wS l' /\ vS l = t * k.2 + vS l' := fun l => by
   induction l with
   | nil => intro _; exact ⟨0, [], (fun _ h => by cases h), by simp [wS], by simp [vS]⟩
   | cons x l ih =>
    intro h
    obtain ⟨t, l', a, b, c⟩ := ih fun y hy => h y (mM _ hy)
    rcases List.mem_cons.mp (h x mS_) with rfl | hx
    ·exact ⟨t + 1, l', a, by rw [j6, b, Nat.succ_mul]; omega, by rw [ux, c, Nat.succ_mul]; omega⟩
    ·refine ⟨t, x :: l', fun y hy => ?_, by rw [j6, b, j6]; omega, by rw [ux, c, ux]; omega⟩
     rcases List.mem_cons.mp hy with rfl | hy
     ·exact hx
     ·exact a y hy
  obtain ⟨t, l', a, b, c⟩ := part l hl
  have hk1 := hw k mS_
  have ht : t <= ofn (kwN k) (r : Nat) := by
   rw [qlv, Nat.le_div_iff_mul_le (by omega)]
   omega
  have ih := qb9 ks l' (r - t * k.1) (fun x hx => hw x (mM _ hx)) a (by omega)
  have g := qls (k := kwN k) (ks := ks.map kwN) (r := (r : Nat)) (t := t) ht
  have e : ((r : Nat) : Int) - (t : Int) * (kwN k).w = ((r - t * k.1 : Nat) : Int) := by
   show ((r : Nat) : Int) - (t : Int) * (k.1 : Nat) = _
   have : ((t * k.1 : Nat) : Int) = (t : Int) * (k.1 : Nat) := Int.natCast_mul _ _
   omega
  rw [e] at g
  have ev : (t : Int) * (kwN k).v = ((t * k.2 : Nat) : Int) := (Int.natCast_mul _ _).symm
  rw [ev] at g
  rw [mC_, c]
  omega
theorem qca : ∀ (ks : List Kn) (r : Nat), (∀ k ∈ ks, 1 <= k.1) -> ∃ l : List Kn, (∀ k ∈ l, k ∈ ks) /\ wS l <= r /\ ((vS l : Nat) : Int) = wJ (ks.map kwN) (r : Nat)
 | [], r, _ => ⟨[], (fun _ h => by cases h), Nat.zero_le _, rfl⟩
 | k :: ks, r, hw => by
  have hk1 := hw k mS_
  obtain ⟨t, ht, e⟩ := qlt (kwN k) (ks.map kwN) ((r : Nat) : Int)
  rw [qlv, Nat.le_div_iff_mul_le (by omega)] at ht
  obtain ⟨l, a, b, c⟩ := qca ks (r - t * k.1) (fun x hx => hw x (mM _ hx))
  have e1 : ((r : Nat) : Int) - (t : Int) * (kwN k).w = ((r - t * k.1 : Nat) : Int) := by
   show ((r : Nat) : Int) - (t : Int) * (k.1 : Nat) = _
   have : ((t * k.1 : Nat) : Int) = (t : Int) * (k.1 : Nat) := Int.natCast_mul _ _
   omega
  rw [e1, <- c] at e
  have ev : (t : Int) * (kwN k).v = ((t * k.2 : Nat) : Int) := (Int.natCast_mul _ _).symm
  rw [ev] at e
  refine ⟨List.replicate t k ++ l, fun x hx => ?_, ?_, ?_⟩
  ·rcases mA_.mp hx with hx | hx
   ·rw [List.eq_of_mem_replicate hx]
    exact mS_
   ·exact mM _ (a x hx)
  ·rw [y8]
   have : wS (List.replicate t k) = t * k.1 := by
    exact qhP t k
   omega
  ·rw [uN, mC_, <- e]
   have : vS (List.replicate t k) = t * k.2 := by
    exact qhQ t k
   omega
theorem qnB (ks : List Kn) (hw : ∀ k ∈ ks, 1 <= k.1) (r : Nat) : wJ (ks.map kwN) (r : Nat) = ((W ks r : Nat) : Int) := by
 obtain ⟨l, a, b, c⟩ := qca ks r hw
 obtain ⟨l2, a2, b2, c2⟩ := qdD hw (r + 1) r (by omega)
 have h1 := wH hw l r a b
 have h2 := qb9 ks l2 r hw a2 b2
 rw [c2] at h2
 omega
end L2.Sk.Law
namespace L2.Sk
namespace Law
open PySem PySem.Spec PyProof.Rows
def top (i : Nat) : Stmt := PySem.Challenge.pw_sackloads_k46_whole_rounds.main.body.getD i (.Pass ⟨0, 0, 0, 0⟩)
abbrev zu : Stmt := top 39
abbrev zo : Stmt := top 26
abbrev zU : Stmt := top 34
abbrev j7 : Stmt := top 35
abbrev j8 : Stmt := top 33
abbrev ze : Stmt := top 37
abbrev zd : Stmt := top 38
abbrev zQ : Stmt := top 40
abbrev jB : Stmt := top 30
abbrev zF : Stmt := top 29
abbrev yQ : Stmt := top 12
abbrev yR : Stmt := top 13
abbrev uO : Stmt := top 14
abbrev j9 : Stmt := top 15
abbrev jC : Stmt := top 16
abbrev qX : Stmt := top 31
abbrev v4 : Stmt := top 42
abbrev z8 : Stmt := top 43
abbrev jD : Stmt := top 17
abbrev qY : Stmt := top 32
abbrev zR : Stmt := top 44
abbrev ya : Stmt := top 67
abbrev jm : Stmt := top 24
abbrev yb : Stmt := top 59
abbrev jE : Stmt := top 60
abbrev jx : Stmt := top 61
abbrev jy : Stmt := top 62
abbrev yS : Stmt := top 57
abbrev jF : Stmt := top 58
abbrev jn : Stmt := top 63
abbrev jG : Stmt := top 64
abbrev jo : Stmt := top 50
abbrev qcb : Stmt := top 48
abbrev jz : Stmt := top 49
abbrev zv : Stmt := top 51
abbrev jH : Stmt := top 52
abbrev zf : Stmt := top 21
abbrev yT : Stmt := top 18
abbrev y9 : Stmt := top 19
abbrev yc : Stmt := top 20
abbrev qcc : Stmt := top 23
abbrev qar : Stmt := top 22
abbrev jI : Stmt := top 45
abbrev zG : Stmt := top 46
abbrev zp : Stmt := top 69
abbrev uP : Stmt := top 53
abbrev zV : Stmt := top 54
abbrev qas : Stmt := top 41
abbrev qcd : Stmt := top 36
abbrev z9 : Stmt := top 68
abbrev yU : Stmt := top 66
abbrev qbT : Stmt := top 70
structure Txt (K : PySem.W.Frag) (mg : Str -> Option Value) : Prop where
 b_all : mg "all" = none
 b_bool : mg "bool" = none
 b_divmod : mg "divmod" = none
 b_enumerate : mg "enumerate" = none
 b_int : mg "int" = none
 b_isinstance : mg "isinstance" = none
 b_len : mg "len" = none
 b_list : mg "list" = none
 b_max : mg "max" = none
 b_min : mg "min" = none
 b_range : mg "range" = none
 b_reversed : mg "reversed" = none
 b_sum : mg "sum" = none
 b_tuple : mg "tuple" = none
 b_zip : mg "zip" = none
 c_ASKED_AT_MOST : ∃ t, mg "ASKED_AT_MOST" = some (.int 200 t)
 c_KINDS_AT_MOST : ∃ t, mg "KINDS_AT_MOST" = some (.int 12 t)
 c_MOST : ∃ t, mg "MOST" = some (.int 2 t)
 c_WEIGHT : ∃ t, mg "WEIGHT" = some (.int 0 t)
 c_WEIGHT_AT_MOST : ∃ t, mg "WEIGHT_AT_MOST" = some (.int 20 t)
 c_WORTH : ∃ t, mg "WORTH" = some (.int 1 t)
noncomputable def ua : MS :=
  (qG (zP 2 (d2 ixD (dv 0) (ret (.int 0))))
  (zK (zM 1 [1, 0, 2] none (qhi (qb (dv 2) (qb (qT uC (qb (dv 1) (ret []))) (ret [])))) (qq 0) (tst (d2 neB (d2 ixD (dv 1) (dv 0)) (d2 qW (d2 ixD (dv 1) (d2 vt (dv 0) (dv 3))) (d2 ixD (dv 2) (ret (.int 1)))))) (dv 0))))
noncomputable def zS : List D -> R D := dfn 3 2 ua
noncomputable def yd : MS :=
  (qG (zP 1 (ret (.int 1)))
  (qG (qbP (v9 (dv 0)) (qq 2) (zP 1 (d2 y2 (dv 1) (d2 ixD (dv 2) (ret (.int 0))))))
  (zK (dv 1))))
noncomputable def jp : List D -> R D := dfn 3 1 yd
noncomputable def vH : MS :=
  (qG (zP 1 (qh jp (qb (dv 0) (ret []))))
  (qG (zP 2 (zM 1 [1] none (v9 (dv 0)) (qq 0) (ret true) (qa8 (qb (d2 y2 (d1 qnU (d2 ixD (dv 0) (ret (.int 1)))) (d2 qde (dv 1) (d2 ixD (dv 0) (ret (.int 0))))) (qb (d2 ixD (dv 0) (ret (.int 0))) (ret []))))))
  (zK (qiS qdp (dv 2) (qb (qT qm3 (qb (dv 2) (ret []))) (ret []))))))
noncomputable def jJ : List D -> R D := dfn 3 1 vH
noncomputable def wK : MS :=
  (zK (d2 ixD (dv 0) (qh jJ (qb (dv 0) (ret [])))))
noncomputable def zH : List D -> R D := dfn 1 1 wK
noncomputable def qat : MS :=
  (zK (qT qdn (qb (zM 1 [] none (v9 (dv 0)) (qq 0) (ret true) (d2 ixD (dv 0) (ret (.int 0)))) (ret []))))
noncomputable def yV : List D -> R D := dfn 1 1 qat
noncomputable def jR : MS :=
  (qG (zP 1 (d2 ixD (qh zH (qb (dv 0) (ret []))) (ret (.int 0))))
  (zK (d2 qW (dv 1) (d2 y2 (d2 vt (dv 1) (ret (.int 1))) (qh yV (qb (dv 0) (ret [])))))))
noncomputable def jc : List D -> R D := dfn 2 1 jR
noncomputable def uy : MS :=
  (qG (qan 1 (qmK (ret [])))
  (qG (qbP (uF (qb (qh jc (qb (dv 0) (ret []))) (ret []))) (qq 2) (qG (zP 3 (zM 1 [2] none (v9 (dv 0)) (qq 0) (tst (d2 leD (d2 ixD (dv 0) (ret (.int 0))) (dv 1))) (dv 0)))
  (jg (ut 1 (qaa qaM (qb (zM 1 [1, 2] (some (1, 1)) (v9 (dv 3)) (qq 0) (ret true) (d2 qW (qaL 1 (d2 vt (dv 2) (d2 ixD (dv 0) (ret (.int 0))))) (d2 ixD (dv 0) (ret (.int 1))))) (ret [])) (qb (ret (.int 0)) (ret [])))))))
  (qgU 1)))
noncomputable def yh : List D -> R D := dfn 4 1 uy
noncomputable def ub : MS :=
  (qG (zP 1 (qh yh (qb (dv 0) (ret []))))
  (qG (zP 2 (qh zH (qb (dv 0) (ret []))))
  (zK (qnV (dv 1) (ret none) (qfP (d2 qW (qaa qaM (qb (qh zS (qb (dv 2) (qb (dv 1) (ret [])))) (ret [])) (qb (d2 vt (d2 ixD (dv 2) (ret (.int 0))) (ret (.int 1))) (ret []))) (ret (.int 1))))))))
noncomputable def zw : List D -> R D := dfn 3 1 ub
noncomputable def yo : MS :=
  (sif (tst (d2 gtD (qh yV (qb (dv 0) (ret []))) (ret (.int 20)))) qbl yA)
noncomputable def vI : List D -> R D := dfn 1 1 yo
noncomputable def js : MS :=
  (sif (tor (tst (d2 eqB (dv 0) (qa8 (ret [])))) (qbb (tst (qT qeP (qb (zM 1 [] none (v9 (dv 0)) (qq 0) (ret true) (d2 isN (d2 ixD (dv 0) (ret (.int 2))) (ret .non))) (ret [])))))) qbl yA)
noncomputable def uz : List D -> R D := dfn 1 1 js
noncomputable def qau : MS :=
  (zK (qiu (qiB "int" (dv 0)) (qnT (qiB "bool" (dv 0)))))
noncomputable def v5 : List D -> R D := dfn 1 1 qau
noncomputable def qav : MS :=
  (zK (qiu (qh v5 (qb (dv 0) (ret []))) (d2 geD (dv 0) (ret (.int 0)))))
noncomputable def ja : List D -> R D := dfn 1 1 qav
noncomputable def qbz : MS :=
  (qG (sif (tor (qbb (tst (qiB "tuple" (dv 0)))) (tst (d2 neB (qT uC (qb (dv 0) (ret []))) (ret (.int 3))))) (zK (ret (.bl false))) yA)
  (qG (sif (tor (qbb (tst (qh ja (qb (d2 ixD (dv 0) (ret (.int 0))) (ret []))))) (tst (d2 eqB (d2 ixD (dv 0) (ret (.int 0))) (ret (.int 0))))) (zK (ret (.bl false))) yA)
  (zK (qiu (qh ja (qb (d2 ixD (dv 0) (ret (.int 1))) (ret []))) (dor (d2 isN (d2 ixD (dv 0) (ret (.int 2))) (ret .non)) (qh ja (qb (d2 ixD (dv 0) (ret (.int 2))) (ret []))))))))
noncomputable def vJ : List D -> R D := dfn 1 1 qbz
noncomputable def qaw : MS :=
  (qG (sif (tor (qbb (tst (qiB "tuple" (dv 0)))) (tst (d2 gtD (qT uC (qb (dv 0) (ret []))) (ret (.int 12))))) (zK (ret (.bl false))) yA)
  (zK (qT qeP (qb (zM 1 [] none (v9 (dv 0)) (qq 0) (ret true) (qh vJ (qb (dv 0) (ret [])))) (ret [])))))
noncomputable def v6 : List D -> R D := dfn 1 1 qaw
noncomputable def yp : MS :=
  (sif (qbb (tst (qh v6 (qb (dv 0) (ret []))))) qbl yA)
noncomputable def jK : List D -> R D := dfn 1 1 yp
noncomputable def zg : MS :=
  (qG (jg (qh jK (qb (dv 0) (ret []))))
  (qG (jg (qh uz (qb (dv 0) (ret []))))
  (jg (qh vI (qb (dv 0) (ret []))))))
noncomputable def qE : List D -> R D := dfn 1 1 zg
noncomputable def qcJ : MS :=
  (qG (jg (qh qE (qb (dv 0) (ret []))))
  (zK (qh zw (qb (dv 0) (ret [])))))
noncomputable def u6 : List D -> R D := dfn 1 1 qcJ
noncomputable def uA : MS :=
  (qG (sif (tst (d2 ltD (dv 2) (qT uC (qb (dv 1) (ret []))))) (zK (ret (.int 0))) yA)
  (zK (d2 qW (d2 qde (d2 vt (dv 2) (qT uC (qb (dv 1) (ret [])))) (d2 ixD (dv 0) (ret (.int 0)))) (ret (.int 1)))))
noncomputable def jt : List D -> R D := dfn 3 3 uA
noncomputable def yq : MS :=
  (sif (qbb (tst (qh ja (qb (dv 0) (ret []))))) qbl yA)
noncomputable def yr : List D -> R D := dfn 1 1 yq
noncomputable def zh : MS :=
  (qG (jg (qh jK (qb (dv 0) (ret []))))
  (qG (jg (qh yr (qb (dv 1) (ret []))))
  (jg (qh qE (qb (dv 0) (ret []))))))
noncomputable def zj : List D -> R D := dfn 2 2 zh
noncomputable def uc : MS :=
  (qG (jg (qh zj (qb (dv 0) (qb (dv 1) (ret [])))))
  (qG (zP 2 (qh zw (qb (dv 0) (ret []))))
  (qG (zP 3 (qh zH (qb (dv 0) (ret []))))
  (qG (zP 4 (qh jt (qb (dv 3) (qb (dv 2) (qb (dv 1) (ret []))))))
  (zK (d2 qW (d2 ixD (dv 2) (d2 vt (dv 1) (d2 qf5 (dv 4) (d2 ixD (dv 3) (ret (.int 0)))))) (d2 qf5 (dv 4) (d2 ixD (dv 3) (ret (.int 1))))))))))
noncomputable def qj : List D -> R D := dfn 5 2 uc
noncomputable def u7 : MS :=
  (qG (qlO (qT qbg (qb (qaL 0 (ret (.int 0))) (qb (dv 1) (ret [])))) (wx 2 (qQ (qq 2) (qQ (qq 3) ww))))
  (qG (qam 0 (ret (.int 0)) (dv 2))
  (zK (dv 3))))
noncomputable def qp : List D -> List D -> R (D × List D) := qcr 4 2 u7
noncomputable def u8 : MS :=
  (qG (zP 2 (d2 qde (dv 1) (d2 ixD (dv 0) (ret (.int 0)))))
  (zK (dif (tst (d2 isN (d2 ixD (dv 0) (ret (.int 2))) (ret .non))) (dv 2) (qT qbe (qb (dv 2) (qb (d2 ixD (dv 0) (ret (.int 2))) (ret [])))))))
noncomputable def jS : List D -> R D := dfn 3 2 u8
noncomputable def wL : MS :=
  (zK (d2 vt (dv 2) (d2 y2 (dv 1) (d2 ixD (dv 0) (ret (.int 0))))))
noncomputable def u9 : List D -> R D := dfn 3 3 wL
noncomputable def vK : MS :=
  (zK (d2 qW (d2 y2 (dv 1) (d2 ixD (dv 0) (ret (.int 1)))) (d2 ixD (dv 2) (qh u9 (qb (dv 0) (qb (dv 1) (qb (dv 3) (ret []))))))))
noncomputable def yt : List D -> R D := dfn 4 4 vK
noncomputable def wM : MS :=
  (zK (qT qdn (qb (zM 1 [0, 1, 2] none (uF (qb (d2 qW (qh jS (qb (dv 0) (qb (dv 2) (ret [])))) (ret (.int 1))) (ret []))) (qq 0) (ret true) (qh yt (qb (dv 1) (qb (dv 0) (qb (dv 2) (qb (dv 3) (ret []))))))) (ret []))))
noncomputable def ye : List D -> R D := dfn 3 3 wM
noncomputable def wN : MS :=
  (qG (qan 2 (qi2 (qb (d2 y2 (qcm (qb (ret (.int 0)) (ret []))) (d2 qW (dv 1) (ret (.int 1)))) (ret []))))
  (qG (qbP (qnf (qb (dv 0) (ret []))) (qq 3) (jg (vy 2 (zM 1 [3, 2] (some (2, 2)) (uF (qb (d2 qW (dv 1) (ret (.int 1))) (ret []))) (qq 0) (ret true) (qh ye (qb (dv 1) (qb (qaL 2 (ret (.int 0))) (qb (dv 0) (ret [])))))))))
  (qgU 2)))
noncomputable def va : List D -> R D := dfn 4 2 wN
noncomputable def uQ : MS :=
  (sif (tst (d2 gtD (dv 0) (ret (.int 200)))) qbl yA)
noncomputable def qax : List D -> R D := dfn 1 1 uQ
noncomputable def yu : MS :=
  (qG (jg (qh jK (qb (dv 0) (ret []))))
  (qG (jg (qh yr (qb (dv 1) (ret []))))
  (jg (qh qax (qb (dv 1) (ret []))))))
noncomputable def vL : List D -> R D := dfn 2 2 yu
noncomputable def vb : MS :=
  (qG (jg (qh vL (qb (dv 0) (qb (dv 1) (ret [])))))
  (zK (d2 ixD (qh va (qb (dv 0) (qb (dv 1) (ret [])))) (ret (.int 0)))))
noncomputable def yL : List D -> R D := dfn 2 2 vb
noncomputable def vM : MS :=
  (zK (d2 ixD (qh yL (qb (dv 0) (qb (dv 1) (ret [])))) (dv 1)))
noncomputable def uo : List D -> R D := dfn 2 2 vM
noncomputable def vc : MS :=
  (qG (qbP (qbs (qb (dv 0) (ret []))) (wx 2 (qQ (qq 2) (qQ (qq 3) ww))) (qbP (v9 (dv 1)) (wx 2 (qQ (qq 4) (qQ (qq 5) ww))) (sif (tst (d2 gtD (d2 ixD (dv 0) (d2 vp (d2 qW (dv 2) (dv 4)) (qT uC (qb (dv 0) (ret []))))) (d2 qW (dv 3) (dv 5)))) (zK (ret (.bl false))) yA)))
  (zK (ret (.bl true))))
noncomputable def zY : List D -> R D := dfn 6 2 vc
noncomputable def qhR : MS :=
  (zK (d2 vt (d2 y2 (d2 ixD (dv 0) (ret (.int 0))) (d2 ixD (dv 1) (ret (.int 1)))) (d2 y2 (d2 ixD (dv 0) (ret (.int 1))) (d2 ixD (dv 1) (ret (.int 0))))))
noncomputable def qdF : List D -> R D := dfn 2 2 qhR
noncomputable def wO : MS :=
  (qG (zP 1 (qh zH (qb (dv 0) (ret []))))
  (zK (d2 qW (qcm (qb (qa8 (qb (ret (.int 1)) (qb (d2 ixD (dv 1) (ret (.int 1))) (ret [])))) (ret []))) (zM 1 [1] none (v9 (dv 0)) (qq 0) (ret true) (qa8 (qb (d2 ixD (dv 0) (ret (.int 0))) (qb (qh qdF (qb (dv 0) (qb (dv 1) (ret [])))) (ret []))))))))
noncomputable def ud : List D -> R D := dfn 2 1 wO
noncomputable def ue : MS :=
  (qG (sif (tor (qbb (tst (qiB "tuple" (dv 0)))) (tst (d2 neB (qT uC (qb (dv 0) (ret []))) (d2 ixD (qh zH (qb (dv 1) (ret []))) (ret (.int 0)))))) (zK (ret (.bl false))) yA)
  (qG (sif (tor (qbb (tst (qT qeP (qb (zM 1 [] none (v9 (dv 0)) (qq 0) (ret true) (qh ja (qb (dv 0) (ret [])))) (ret []))))) (tst (d2 neB (d2 ixD (dv 0) (ret (.int 0))) (ret (.int 0))))) (zK (ret (.bl false))) yA)
  (zK (qh zY (qb (dv 0) (qb (qh ud (qb (dv 1) (ret []))) (ret [])))))))
noncomputable def jT : List D -> R D := dfn 2 2 ue
noncomputable def vN : MS :=
  (qG (jg (qh zj (qb (dv 1) (qb (dv 2) (ret [])))))
  (qG (sif (qbb (tst (qh jT (qb (dv 0) (qb (dv 1) (ret [])))))) (zK (ret .non)) yA)
  (qG (zP 3 (qh zH (qb (dv 1) (ret []))))
  (zK (d2 qde (d2 vt (d2 qf5 (dv 2) (d2 ixD (dv 3) (ret (.int 1)))) (d2 ixD (dv 0) (d2 vp (dv 2) (d2 ixD (dv 3) (ret (.int 0)))))) (d2 ixD (dv 3) (ret (.int 0))))))))
noncomputable def uq : List D -> R D := dfn 4 3 vN
noncomputable def yF : MS :=
  (zK (qT qmC (qb (zM 2 [2] none (qlS (qb (dv 0) (qb (dv 1) (ret [])))) (wx 2 (qQ (qq 0) (qQ (qq 1) ww))) (ret true) (d2 qf5 (d2 ixD (dv 0) (dv 2)) (dv 1))) (ret []))))
noncomputable def z7 : List D -> R D := dfn 3 3 yF
noncomputable def qay : MS :=
  (zK (qiu (qh ja (qb (dv 1) (ret []))) (dor (d2 isN (d2 ixD (dv 0) (ret (.int 2))) (ret .non)) (d2 leD (dv 1) (d2 ixD (dv 0) (ret (.int 2)))))))
noncomputable def yW : List D -> R D := dfn 2 2 qay
noncomputable def qbA : MS :=
  (qG (jg (qh jK (qb (dv 1) (ret []))))
  (qG (sif (tor (qbb (tst (qiB "tuple" (dv 0)))) (tst (d2 neB (qT uC (qb (dv 0) (ret []))) (qT uC (qb (dv 1) (ret [])))))) (zK (ret (.bl false))) yA)
  (zK (qT qeP (qb (zM 2 [] none (qlS (qb (dv 1) (qb (dv 0) (ret [])))) (wx 2 (qQ (qq 0) (qQ (qq 1) ww))) (ret true) (qh yW (qb (dv 0) (qb (dv 1) (ret []))))) (ret []))))))
noncomputable def qae : List D -> R D := dfn 2 2 qbA
noncomputable def uf : MS :=
  (sif (qbb (tst (qh qae (qb (dv 1) (qb (dv 0) (ret [])))))) qbl yA)
noncomputable def vd : List D -> R D := dfn 2 2 uf
noncomputable def qhS : MS :=
  (qG (jg (qh vd (qb (dv 0) (qb (dv 1) (ret [])))))
  (qG (jg (qh yr (qb (dv 2) (ret []))))
  (zK (d2 leD (qh z7 (qb (dv 0) (qb (dv 1) (qb (ret (.int 0)) (ret []))))) (dv 2)))))
noncomputable def qfo : List D -> R D := dfn 3 3 qhS
noncomputable def qen : MS :=
  (qG (jg (qh vd (qb (dv 0) (qb (dv 1) (ret [])))))
  (zK (qh z7 (qb (dv 0) (qb (dv 1) (qb (ret (.int 1)) (ret [])))))))
noncomputable def qcK : List D -> R D := dfn 2 2 qen
noncomputable def vO : MS :=
  (zK (qiu (d2 leD (d2 ixD (dv 0) (ret (.int 0))) (dv 2)) (d2 eqB (d2 qW (d2 ixD (dv 1) (d2 vt (dv 2) (d2 ixD (dv 0) (ret (.int 0))))) (d2 ixD (dv 0) (ret (.int 1)))) (d2 ixD (dv 1) (dv 2)))))
noncomputable def ji : List D -> R D := dfn 3 3 vO
noncomputable def uB : MS :=
  (qG (jg (qh zj (qb (dv 0) (qb (dv 1) (ret [])))))
  (qG (zP 2 (qh zw (qb (dv 0) (ret []))))
  (qG (zP 3 (qh jJ (qb (dv 0) (ret []))))
  (qG (qan 4 (qlU (qcm (qb (ret (.int 0)) (ret []))) (qT uC (qb (dv 0) (ret [])))))
  (qG (qam 4 (dv 3) (qh jt (qb (d2 ixD (dv 0) (dv 3)) (qb (dv 2) (qb (dv 1) (ret []))))))
  (qG (zP 5 (d2 vt (dv 1) (d2 y2 (qaL 4 (dv 3)) (d2 ixD (d2 ixD (dv 0) (dv 3)) (ret (.int 0))))))
  (qG (qbr (tst (d2 gtD (d2 ixD (dv 2) (dv 5)) (ret (.int 0)))) (qG (zP 3 (d2 ixD (zM 2 [2, 5] none (qcv (qb (dv 0) (ret []))) (wx 2 (qQ (qq 0) (qQ (qq 1) ww))) (tst (qh ji (qb (dv 1) (qb (dv 2) (qb (dv 3) (ret [])))))) (dv 0)) (ret (.int 0))))
  (qG (qam 4 (dv 3) (d2 qW (qaL 4 (dv 3)) (ret (.int 1))))
  (zP 5 (d2 vt (dv 5) (d2 ixD (d2 ixD (dv 0) (dv 3)) (ret (.int 0))))))))
  (zK (qfR 4)))))))))
noncomputable def yi : List D -> R D := dfn 6 2 uB
noncomputable def yf : MS :=
  (qG (zP 4 (qh qj (qb (dv 0) (qb (dv 1) (ret [])))))
  (qG (zP 5 (qh yi (qb (dv 0) (qb (dv 1) (ret [])))))
  (qG (sif (tor (qbb (tst (qh qfo (qb (dv 0) (qb (dv 5) (qb (dv 1) (ret []))))))) (tst (d2 neB (qh qcK (qb (dv 0) (qb (dv 5) (ret [])))) (dv 4)))) (zK (ret (.bl false))) yA)
  (qG (zP 6 (qh uq (qb (dv 3) (qb (dv 0) (qb (dv 1) (ret []))))))
  (qG (sif (tor (tst (d2 ltD (dv 6) (dv 4))) (qfK (tst (d2 geD (dv 1) (dv 2))) (tst (d2 neB (dv 6) (dv 4))))) (zK (ret (.bl false))) yA)
  (zK (dor (d2 gtD (dv 1) (ret (.int 200))) (d2 eqB (qh uo (qb (dv 0) (qb (dv 1) (ret [])))) (dv 4)))))))))
noncomputable def zb : List D -> R D := dfn 7 4 yf
noncomputable def qbB : MS :=
  (qG (qan 2 (qlj (dv 0)))
  (qG (qbP (qbs (qb (dv 0) (ret []))) (wx 2 (qQ (qq 3) (qQ (qq 4) ww))) (qbP (v9 (dv 1)) (wx 2 (qQ (qq 5) (qQ (qq 6) ww))) (qG (zP 7 (d2 vp (d2 qW (dv 3) (dv 5)) (qT uC (qb (dv 0) (ret [])))))
  (qam 2 (dv 7) (qT qbe (qb (qaL 2 (dv 7)) (qb (d2 qW (dv 4) (dv 6)) (ret []))))))))
  (qgU 2)))
noncomputable def uR : List D -> R D := dfn 8 2 qbB
noncomputable def vP : MS :=
  (qG (jg (qh qE (qb (dv 0) (ret []))))
  (qG (zP 1 (qh zH (qb (dv 0) (ret []))))
  (qG (zP 2 (qh ud (qb (dv 0) (ret []))))
  (qG (zP 3 (zM 1 [1] none (uF (qb (d2 ixD (dv 1) (ret (.int 0))) (ret []))) (qq 0) (ret true) (d2 y2 (dv 0) (d2 ixD (dv 1) (ret (.int 1))))))
  (qG (qbr (qbb (tst (qh zY (qb (dv 3) (qb (dv 2) (ret [])))))) (zP 3 (qh uR (qb (dv 3) (qb (dv 2) (ret []))))))
  (zK (qT qgM (qb (dv 3) (ret [])))))))))
noncomputable def yw : List D -> R D := dfn 4 1 vP
noncomputable def qeo : MS :=
  (qG (jg (qh qE (qb (dv 0) (ret []))))
  (zK (qT uC (qb (qh zw (qb (dv 0) (ret []))) (ret [])))))
noncomputable def qbC : List D -> R D := dfn 1 1 qeo
noncomputable def qhT : MS :=
  (qG (jg (qh qE (qb (dv 0) (ret []))))
  (zK (qh jJ (qb (dv 0) (ret [])))))
noncomputable def qce : List D -> R D := dfn 1 1 qhT
noncomputable def yj : MS :=
  (qG (zP 3 (qN qp 0 (qb (ret (.int 5)) (ret []))))
  (qG (qan 4 (qmK (ret [])))
  (qG (qbP (uF (qb (d2 qW (ret (.int 1)) (qN qp 0 (qb (dv 1) (ret [])))) (ret []))) (qq 5) (qG (zP 6 (d2 qW (ret (.int 1)) (qN qp 0 (qb (dv 2) (ret [])))))
  (qG (zP 7 (qN qp 0 (qb (ret (.int 12)) (ret []))))
  (qG (zP 8 (d2 ixD (qcm (qb (dv 7) (qb (dv 6) (qb (d2 qW (d2 y2 (ret (.int 3)) (dv 6)) (d2 vp (dv 7) (ret (.int 3)))) (qb (ret (.int 0)) (qb (d2 qW (d2 qiN (ret (.int 10)) (ret (.int 20))) (dv 7)) (ret []))))))) (dv 3)))
  (jg (ut 4 (qa8 (qb (dv 6) (qb (dv 8) (qb (ret .non) (ret [])))))))))))
  (zK (qfR 4)))))
noncomputable def ju : List D -> List D -> R (D × List D) := qcr 9 3 yj
noncomputable def v7 : MS :=
  (qG (zP 2 (d2 qW (d2 y2 (ret (.int 7919)) (dv 1)) (ret (.int 13))))
  (qG (sif (tst (d2 ltD (dv 1) (qT uC (qb (dv 0) (ret []))))) (zP 2 (d2 ixD (dv 0) (dv 1))) yA)
  (qG (sif (tst (d2 eqB (d2 vp (dv 2) (ret (.int 2))) (ret (.int 0)))) (zK (qcm (qb (d2 qde (dv 2) (ret (.int 2))) (ret [])))) yA)
  (qG (zP 3 (ret (.int 0)))
  (qG (qbP (uF (qb (ret (.int 16)) (ret []))) (qq 4) (qG (zP 5 (d2 vp (d2 qW (d2 qW (d2 y2 (d2 vp (dv 2) (ret (.int 2147483647))) (ret (.int 48271))) (d2 y2 (ret (.int 7919)) (dv 4))) (ret (.int 1))) (ret (.int 2147483647))))
  (qG (zP 5 (d2 vp (d2 y2 (dv 5) (dv 5)) (ret (.int 2147483629))))
  (zP 3 (d2 qW (d2 y2 (dv 3) (ret (.int 2147483647))) (d2 vp (d2 y2 (dv 5) (d2 qW (dv 5) (ret (.int 13)))) (ret (.int 2147483647))))))))
  (zK (qcm (qb (dv 3) (ret [])))))))))
noncomputable def yX : List D -> R D := dfn 6 2 v7
noncomputable def qlw : MS :=
  (qG (qbP (uF (qb (qT qkO (qb (ret (.int 1)) (qb (qT qbe (qb (qT uC (qb (dv 0) (ret []))) (qb (ret (.int 2)) (ret [])))) (ret [])))) (ret []))) (qq 1) (qG (qan 2 (qfT yX (qb (dv 0) (qb (dv 1) (ret [])))))
  (qG (zP 3 (qN ju 2 (qb (ret (.int 4)) (qb (ret (.int 7)) (ret [])))))
  (qG (qlO (d2 ixD (dv 3) (qh qce (qb (dv 3) (ret [])))) (wx 3 (qQ (qq 4) (qQ (qq 5) (qQ (qq 6) ww)))))
  (qG (qlT 7 8 (qb (qh qbC (qb (dv 3) (ret []))) (qb (qh yw (qb (dv 3) (ret []))) (ret []))))
  (qG (sif (tor (tst (d2 ltD (dv 7) (dv 4))) (tst (d2 neB (qT uC (qb (qh u6 (qb (dv 3) (ret []))) (ret []))) (dv 7)))) (zK (ret (.bl false))) yA)
  (qG (qbP (v9 (qcm (qb (ret (.int 0)) (qb (d2 vt (dv 7) (ret (.int 1))) (qb (dv 7) (qb (d2 qW (dv 7) (qN qp 2 (qb (ret (.int 20)) (ret [])))) (qb (qN qp 2 (qb (ret (.int 60)) (ret []))) (qb (qN qp 2 (qb (d2 qiN (ret (.int 10)) (ret (.int 20))) (ret []))) (ret []))))))))) (qq 9) (qG (sif (qbb (tst (qh zb (qb (dv 3) (qb (dv 9) (qb (dv 7) (qb (dv 8) (ret [])))))))) (zK (ret (.bl false))) yA)
  (qG (zP 10 (qh qj (qb (dv 3) (qb (d2 qW (dv 9) (dv 4)) (ret [])))))
  (qG (sif (qfK (tst (d2 geD (d2 qW (dv 9) (dv 4)) (dv 7))) (tst (d2 neB (dv 10) (d2 qW (qh qj (qb (dv 3) (qb (dv 9) (ret [])))) (dv 5))))) (zK (ret (.bl false))) yA)
  (qG (sif (tst (d2 ltD (qh qj (qb (dv 3) (qb (d2 qW (dv 9) (ret (.int 1))) (ret [])))) (qh qj (qb (dv 3) (qb (dv 9) (ret [])))))) (zK (ret (.bl false))) yA)
  (qG (zP 11 (d2 qW (dv 3) (qa8 (qb (qa8 (qb (d2 qW (ret (.int 1)) (qN qp 2 (qb (ret (.int 9)) (ret [])))) (qb (qN qp 2 (qb (ret (.int 9)) (ret []))) (qb (ret .non) (ret []))))) (ret [])))))
  (sif (tst (d2 ltD (qh qj (qb (dv 11) (qb (dv 9) (ret [])))) (qh qj (qb (dv 3) (qb (dv 9) (ret [])))))) (zK (ret (.bl false))) yA)))))))
  (qG (zP 12 (qh qj (qb (dv 3) (qb (d2 vt (dv 7) (ret (.int 1))) (ret [])))))
  (qG (sif (qfK (tst (d2 gtD (dv 7) (dv 4))) (tst (d2 eqB (dv 12) (d2 qW (qh qj (qb (dv 3) (qb (d2 vt (d2 vt (dv 7) (ret (.int 1))) (dv 4)) (ret [])))) (dv 5))))) (zK (ret (.bl false))) yA)
  (sif (tst (d2 neB (qh u6 (qb (dv 3) (ret []))) (zM 1 [3] none (uF (qb (dv 7) (ret []))) (qq 0) (ret true) (qh qj (qb (dv 1) (qb (dv 0) (ret []))))))) (zK (ret (.bl false))) yA))))))))))
  (zK (ret (.bl true))))
noncomputable def qep : List D -> R D := dfn 13 1 qlw
local macro_rules | `(tactic| push_cast [$xs,*]) => `(tactic| simp only [wd, qec, qos, jO, qeU, qg1, qjO, qot, qou, qaq, vY, qjP, qiO, uI, qeV, qeW, qiP, qg2, qiQ, qjQ, qk9, qg3, qbm, qb4, qbn, vw, qg4, qg5, qg6, uJ, qjS, qg7, qeX, qdk, qg8, qdl, qed, qg9, qha, qjT, qbp, qmZ, qee, lC_, lN_, mC_, List.map_nil, List.replicate, List.nil_append, List.cons_append, List.append_nil, List.getElem?_cons_zero, List.getElem?_cons_succ, List.set_cons_zero, List.set_cons_succ, Nat.reduceAdd, Nat.reduceSub, Nat.sub_self, Nat.zero_add, reduceIte, Bool.not_true, Bool.not_false, Bool.false_eq_true, if_true, if_false, ite_true, ite_false, cond_true, cond_false, decide_true, decide_false, ix0, ix1, ix2, wG, uZ, vz, wF, qb7, qhG, yD, vA, qbt, qhE, qhF, qe0, qe1, qe2, qjX, qei, qcw, $xs,*])
theorem qcL (d : D) : v5 [d] = .ok (.bl (qln d)) := by
 unfold v5 qau
 refine uw rfl ⟨[some d], ?_⟩
 push_cast []
 cases d <;> rfl
theorem jq (d : D) : ja [d] = .ok (.bl (jQ d)) := by
 unfold ja qav
 refine uw rfl ⟨[some d], ?_⟩
 push_cast []
 rw [qcL]
 cases d <;> rfl
theorem qdG (d : D) : vJ [d] = .ok (.bl (vk d)) := by
 unfold vJ qbz
 refine uw rfl ⟨[some d], ?_⟩
 cases d with
 | tup ds =>
  by_cases h : ds.length = 3
  ·obtain ⟨a, b, c, rfl⟩ := qo4 h
   refine (ql (U' := [some (.tup [a, b, c])]) rfl).trans ?_
   by_cases hp : qhH a = true
   ·refine (ql (U' := [some (.tup [a, b, c])]) ?_).trans ?_
    ·cases a with
     | int i =>
      have h2 : 0 < i := of_decide_eq_true hp
      have h0 : 0 <= i := by omega
      have h1 : ¬ i = 0 := by omega
      push_cast [ix0, jq, jQ, wF, uI, h0, h1, decide_true, decide_false]
     | _ => exact absurd hp (by simp [qhH])
    ·push_cast [ix1, ix2, jq, qb7, vk, hp, uI, Bool.true_and]
     cases hb : jQ b <;> cases hc : ul c <;> rfl
   ·refine (qbu (d := .bl false) (U' := [some (.tup [a, b, c])]) ?_).trans ?_
    ·cases a with
     | int i =>
      have h2 : ¬ 0 < i := fun z => hp (decide_eq_true z)
      push_cast [ix0, jq, jQ, wF, uI]
      by_cases h0 : 0 <= i
      ·have h1 : i = 0 := by omega
       subst h1; rfl
      ·simp only [h0, decide_false]
       rfl
     | _ => rfl
    ·have hp' : qhH a = false := by simpa using hp
     simp only [vk, hp', Bool.false_and]
  ·refine (qbu (d := .bl false) (U' := [some (.tup ds)]) ?_).trans ?_
   ·push_cast []
    have h3 : ¬ ((ds.length : Int) = 3) := by omega
    simp only [wG, uZ, vz, h3, decide_false, uI]
    rfl
   ·rw [qb8 h]
 | _ => rfl
theorem qcM (d : D) : v6 [d] = .ok (.bl (vB d)) := by
 unfold v6 qaw
 refine uw rfl ⟨[some d], ?_⟩
 cases d with
 | tup ds =>
  by_cases h : ds.length <= 12
  ·have h2 : ¬ ((12 : Int) < (ds.length : Int)) := by omega
   refine (ql (U' := [some (.tup ds)]) ?_).trans ?_
   ·push_cast [wG, uZ, yD, h2, decide_false, uI]
   ·rw [qbm, qlo (F := vJ) (f := vk) (xs := v9 (dv 0)) (ds := ds) (U := [some (.tup ds)]) rfl (fun d _ => qdG d) (by omega)]
    simp only [vB, h, decide_true, Bool.true_and]
  ·have h2 : ((12 : Int) < (ds.length : Int)) := by omega
   refine (qbu (d := .bl false) (U' := [some (.tup ds)]) ?_).trans ?_
   ·push_cast [wG, uZ, yD, h2, decide_true, uI]
   ·simp only [vB, h, decide_false, Bool.false_and]
 | _ => rfl
theorem qcN (k x : D) (hk : vk k = true) : yW [k, x] = .ok (.bl (qf8 k x)) := by
 cases k with
 | tup ds =>
  by_cases h : ds.length = 3
  ·obtain ⟨a, b, c, rfl⟩ := qo4 h
   unfold yW qay
   refine uw rfl ⟨[some (.tup [a, b, c]), some x], ?_⟩
   push_cast [ix2, jq, qb7, uI, qf8]
   cases hx : jQ x with
   | false => rfl
   | true =>
    cases hc : ul c with
    | true => rfl
    | false =>
     have hcc : jQ c = true := by
      simp only [vk, hc, Bool.false_or, Bool.and_eq_true] at hk
      exact hk.2
     cases x with
     | int i =>
      cases c with
      | int j => rfl
      | _ => cases hcc
     | _ => cases hx
  ·rw [qb8 h] at hk; cases hk
 | _ => cases hk
theorem jU (d : D) (h : vB d = true) : jK [d] = .ok .non := by
 have e : yp [some d] = .ok (.nx [some d]) := by
  unfold yp
  push_cast [qcM, h, uI]
 show (match yp [some d] with | .ok (.rt d _) => R.ok d | .ok (.nx _) => .ok .non | _ => .bad) = _
 rw [e]
theorem qdH (t s : D) (hs : vB s = true) : qae [t, s] = .ok (.bl (qfa t s)) := by
 cases s with
 | tup ks =>
  have hs2 := hs
  simp only [vB, Bool.and_eq_true, decide_eq_true_eq] at hs2
  obtain ⟨hl, ha⟩ := hs2
  unfold qae qbA
  refine uw rfl ⟨[some t, some (.tup ks)], ?_⟩
  refine (ql (U' := [some t, some (.tup ks)]) ?_).trans ?_
  ·push_cast [jU _ hs]
  cases t with
  | tup xs =>
   by_cases h : xs.length = ks.length
   ·refine (ql (U' := [some (.tup xs), some (.tup ks)]) ?_).trans ?_
    ·push_cast [wG, uZ, vz, h, decide_true, uI]
    ·obtain ⟨bs, U', q, r⟩ := qfb (e := qh yW (qb (dv 0) (qb (dv 1) (ret [])))) (f := qf8) ks xs [] none none (fun k hk x => by
      push_cast [qcN k x (List.all_eq_true.mp ha k hk)]) (by simp; omega)
     have q' : zL (wx 2 (qQ (qq 0) (qQ (qq 1) ww))) (ret true) (qh yW (qb (dv 0) (qb (dv 1) (ret [])))) (qaT ks xs) [] (jX 2 [] [some (.tup xs), some (.tup ks)]) = .ok ([] ++ bs.map D.bl, U') := q
     rw [qaG] at r
     simp only [qbm, qaq, jO, qbo, qeX, qos, qec, List.getElem?_cons_zero, List.getElem?_cons_succ, qlR, q', List.nil_append, qeP, qcD, Option.map_some, r, qfa, h, decide_true, Bool.true_and]
     rfl
   ·refine (qbu (d := .bl false) (U' := [some (.tup xs), some (.tup ks)]) ?_).trans ?_
    ·have h2 : ¬ ((xs.length : Int) = (ks.length : Int)) := by omega
     push_cast [wG, uZ, vz, h2, decide_false, uI]
    ·simp only [qfa, h, decide_false, Bool.false_and]
  | _ => rfl
 | _ => cases hs
theorem vQ {n m : Int} (h0 : 0 < m) (h1 : m < 1606938044258990275541962092341162602522202993782792835301376) : qp [.int n] [.int m] = .ok (.int (n % m), [.int (n / m)]) := by
 unfold qp
 refine qjU (U := [some (.lst [.int (n / m)]), some (.int m), some (.int (n / m)), some (.int (n % m))]) rfl ?_ rfl
 unfold u7
 refine (ql (U' := [some (.lst [.int n]), some (.int m), some (.int (n / m)), some (.int (n % m))]) ?_).trans ?_
 ·push_cast [at0, qhI h0 h1, wx, qQ, qq, ww, Option.bind_some]
 ·refine (ql (U' := [some (.lst [.int (n / m)]), some (.int m), some (.int (n / m)), some (.int (n % m))]) ?_).trans rfl
  push_cast [qpF, imm]
theorem qfp {i : Int} (h0 : 0 <= i) (h1 : i < 3000000000) : jA i = true := by
 unfold jA
 rw [Bool.and_eq_true, decide_eq_true_eq, decide_eq_true_eq]
 constructor <;> omega
theorem qfq (A B : Option D) (x : Int) : ∀ (ds : List D) (s : Int) (o o' : Option D), (∀ d ∈ ds, ∃ j : Int, d = .int j) -> ∃ s' o1 o2, yy (qq 4) (qG (zP 5 (d2 vp (d2 qW (d2 qW (d2 y2 (d2 vp (dv 2) (ret (.int 2147483647))) (ret (.int 48271))) (d2 y2 (ret (.int 7919)) (dv 4))) (ret (.int 1))) (ret (.int 2147483647)))) (qG (zP 5 (d2 vp (d2 y2 (dv 5) (dv 5)) (ret (.int 2147483629)))) (zP 3 (d2 qW (d2 y2 (dv 3) (ret (.int 2147483647))) (d2 vp (d2 y2 (dv 5) (d2 qW (dv 5) (ret (.int 13)))) (ret (.int 2147483647))))))) ds [A, B, some (.int x), some (.int s), o, o'] = .ok (.nx [A, B, some (.int x), some (.int s'), o1, o2])
 | [], s, o, o', _ => ⟨s, o, o', rfl⟩
 | d :: ds, s, o, o', h => by
  obtain ⟨j, rfl⟩ := h d mS_
  let p : Int := (x % 2147483647 * 48271 + 7919 * j + 1) % 2147483647
  let q : Int := p * p % 2147483629
  have f48 : jA 48271 = true := by decide
  have f79 : jA 7919 = true := by decide
  have f21 : jA 2147483647 = true := by decide
  have fp : jA p = true := qfp (Int.emod_nonneg _ (by omega)) (by have := Int.emod_lt_of_pos (x % 2147483647 * 48271 + 7919 * j + 1) (show (0 : Int) < 2147483647 by omega); simp only [p]; omega)
  have fq : jA q = true := qfp (Int.emod_nonneg _ (by omega)) (by have := Int.emod_lt_of_pos (p * p) (show (0 : Int) < 2147483629 by omega); simp only [q]; omega)
  obtain ⟨s', o1, o2, e⟩ := qfq A B x ds (s * 2147483647 + q * (q + 13) % 2147483647) (some (.int j)) (some (.int q)) fun y hy => h y (mM _ hy)
  refine ⟨s', o1, o2, ?_⟩
  have st : (qG (zP 5 (d2 vp (d2 qW (d2 qW (d2 y2 (d2 vp (dv 2) (ret (.int 2147483647))) (ret (.int 48271))) (d2 y2 (ret (.int 7919)) (dv 4))) (ret (.int 1))) (ret (.int 2147483647)))) (qG (zP 5 (d2 vp (d2 y2 (dv 5) (dv 5)) (ret (.int 2147483629)))) (zP 3 (d2 qW (d2 y2 (dv 3) (ret (.int 2147483647))) (d2 vp (d2 y2 (dv 5) (d2 qW (dv 5) (ret (.int 13)))) (ret (.int 2147483647))))))) [A, B, some (.int x), some (.int s), some (.int j), o'] = .ok (.nx [A, B, some (.int x), some (.int (s * 2147483647 + q * (q + 13) % 2147483647)), some (.int j), some (.int q)]) := by
   refine (ql (U' := [A, B, some (.int x), some (.int s), some (.int j), some (.int p)]) ?_).trans ?_
   ·push_cast [u4 (j := 2147483647) (by decide), qel f48, qcE f79, qO, p]
   refine (ql (U' := [A, B, some (.int x), some (.int s), some (.int j), some (.int q)]) ?_).trans ?_
   ·push_cast [qcE fp, u4 (j := 2147483629) (by decide), q]
   ·push_cast [qel f21, qO, qcE fq, u4 (j := 2147483647) (by decide)]
  unfold yy
  simp only [qq, List.set_cons_zero, List.set_cons_succ, st]
  exact e
theorem qnC (ns : List Int) (i : Int) (h0 : 0 <= i) : ∃ n, yX [.fz ns, .int i] = .ok (.lst [.int n]) := by
 have f79 : jA 7919 = true := by decide
 have s1 : ∃ x, (sif (tst (d2 ltD (dv 1) (qT uC (qb (dv 0) (ret []))))) (zP 2 (d2 ixD (dv 0) (dv 1))) yA) [some (.fz ns), some (.int i), some (.int (7919 * i + 13)), none, none, none] = .ok (.nx [some (.fz ns), some (.int i), some (.int x), none, none, none]) := by
  by_cases h : i < ns.length
  ·obtain ⟨j, rfl⟩ := Int.eq_ofNat_of_zero_le h0
   have hj : j < ns.length := by omega
   have e : ixD (.fz ns) (.int (j : Int)) = some (.int ns[j]) := by
    show (atI ns (j : Int)).map D.int = _
    rw [qaI (gG hj)]; rfl
   refine ⟨ns[j], ?_⟩
   push_cast [e, uC, h]
  ·refine ⟨7919 * i + 13, ?_⟩
   push_cast [uC, h]
 obtain ⟨x, e1⟩ := s1
 have s0 : (zP 2 (d2 qW (d2 y2 (ret (.int 7919)) (dv 1)) (ret (.int 13)))) [some (.fz ns), some (.int i), none, none, none, none] = .ok (.nx [some (.fz ns), some (.int i), some (.int (7919 * i + 13)), none, none, none]) := by
  push_cast [qcE f79, qO]
 by_cases hx : x % 2 = 0
 ·refine ⟨x / 2, ?_⟩
  unfold yX v7
  refine uw rfl ⟨[some (.fz ns), some (.int i), some (.int x), none, none, none], ?_⟩
  refine (ql s0).trans ((ql e1).trans (qbu ?_))
  push_cast [u4 (j := 2) (by decide), hx, vC (j := 2) (by decide) (by decide), yB (show 1 <= 1000000 by omega)]
 ·obtain ⟨s', o1, o2, q⟩ := qfq (some (.fz ns)) (some (.int i)) x (qaK 0 16) 0 none none fun d hd => by
   unfold qaK at hd
   obtain ⟨k, hk, rfl⟩ := mP_.mp hd
   exact ⟨_, rfl⟩
  refine ⟨s', ?_⟩
  unfold yX v7
  refine uw rfl ⟨[some (.fz ns), some (.int i), some (.int x), some (.int s'), o1, o2], ?_⟩
  refine (ql s0).trans ((ql e1).trans ?_)
  refine (ql (U' := [some (.fz ns), some (.int i), some (.int x), none, none, none]) ?_).trans ?_
  ·push_cast [u4 (j := 2) (by decide), hx]
  refine (ql (U' := [some (.fz ns), some (.int i), some (.int x), some (.int 0), none, none]) ?_).trans ?_
  ·push_cast []
  refine (ql (U' := [some (.fz ns), some (.int i), some (.int x), some (.int s'), o1, o2]) ?_).trans ?_
  ·rw [uJ, um (j := 16) (U1 := [some (.fz ns), some (.int i), some (.int x), some (.int 0), none, none]) rfl (by omega) (by omega)]
   exact q
  ·push_cast [yB (show 1 <= 1000000 by omega)]
def jM (x : Kd) : Prop := 1 <= x.1 /\ x.1 <= 20 /\ 0 <= x.2.1 /\ x.2.1 <= 100000000000000000011 /\ x.2.2 = none
theorem jM.ok {x : Kd} (h : jM x) : okK x := ⟨by have := h.1; omega, h.2.2.1, fun j e => by rw [h.2.2.2.2] at e; cases e⟩
theorem qnD (ks : List Kd) (hne : 0 < ks.length) : eqB (.tup (ks.map kD)) (.tup []) = some (.bl false) := by
 have h : ∀ ks : List Kd, PyData.canLayAll0 (toPDs (ks.map kD)) = true /\ PyData.depthAll (toPDs (ks.map kD)) <= 1 := fun ks => by
  induction ks with
  | nil => exact ⟨rfl, Nat.zero_le _⟩
  | cons x ks ih =>
   have e1 : (jL (kD x)).canLay0 = true /\ (jL (kD x)).depth = 1 := by
    obtain ⟨a, b, m⟩ := x
    cases m <;> exact ⟨rfl, rfl⟩
   simp only [mC_, toPDs, PyData.canLayAll0, PyData.depthAll, e1.1, e1.2, ih.1, Bool.and_self, true_and]
   have := ih.2
   omega
 obtain ⟨h1, h2⟩ := h ks
 have h3 : PyData.depthAll (toPDs (ks.map kD)) + 1 <= 50 := by omega
 have o1 : wR (.tup (ks.map kD)) = true := by
  have e : wR (.tup (ks.map kD)) = (PyData.canLayAll0 (toPDs (ks.map kD)) && decide (PyData.depthAll (toPDs (ks.map kD)) + 1 <= 50)) := by
   simp only [wR, jL, PyData.canLay0, PyData.depth]
  rw [e, h1, decide_eq_true h3]; rfl
 cases ks with
 | nil => exact absurd hne (Nat.lt_irrefl _)
 | cons x ks =>
  have e : eqB (.tup ((x :: ks).map kD)) (.tup []) = eqA (.tup ((x :: ks).map kD)) (.tup []) := rfl
  rw [e]
  unfold eqA
  rw [o1]
  rfl
theorem qaf (ks : List Kd) (hl : ks.length <= 12) (hne : 0 < ks.length) : yV [.tup (ks.map kD)] = .ok (.int (qbL (ks.map fun k => k.1))) := by
 let U : Env := [some (.tup (ks.map kD))]
 unfold yV qat
 refine uw rfl ⟨U, ?_⟩
 show zK _ U = _
 have c1 : zM 1 [] none (v9 (dv 0)) (qq 0) (ret true) (d2 ixD (dv 0) (ret (.int 0))) U = .ok (.lst (ks.map fun k => D.int k.1), U) := qaH (r := []) (k := kD) ks (fun k => D.int k.1) rfl rfl (by omega) fun k hk => qi rfl rfl (yE k)
 have c2 : qdn [.lst (ks.map fun k => D.int k.1)] = some (.int (qbL (ks.map fun k => k.1))) := by
  cases ks with
  | nil => exact absurd hne (Nat.lt_irrefl _)
  | cons k ks =>
   unfold qdn
   have := v0 ((k :: ks).map fun k => k.1)
   rw [mm_] at this
   simp only [Function.comp_def, mC_] at this |-
   simp only [this]
 rw [qbm, y7 c1 c2]
theorem qV (ks : List Kd) (h : ∀ k ∈ ks, jM k) (hl : ks.length <= 12) (hne : 0 < ks.length) : qE [.tup (ks.map kD)] = .ok .non := by
 let U : Env := [some (.tup (ks.map kD))]
 have g0 : dv 0 U = .ok (.tup (ks.map kD), U) := rfl
 have ne : uz [.tup (ks.map kD)] = .ok .non := by
  have e : js U = .ok (.nx U) := by
   unfold js
   have c1 : zM 1 [] none (v9 (dv 0)) (qq 0) (ret true) (d2 isN (d2 ixD (dv 0) (ret (.int 2))) (ret .non)) U = .ok (.lst (ks.map fun _ => D.bl true), U) := by
    refine qaH (r := []) (k := kD) ks (fun _ => D.bl true) rfl rfl (by omega) fun k hk => qi (qi rfl rfl (qno k)) rfl ?_
    rw [qb7, (h k hk).2.2.2.2]
    rfl
   have c2 : d2 eqB (dv 0) (qa8 (ret [])) U = .ok (.bl false, U) := qi rfl (by push_cast [yB (show 0 <= 1000000 by omega)]) (qnD ks hne)
   have c3 : qeP [.lst (ks.map fun _ => D.bl true)] = some (.bl true) := by
    have := qfe (as := ks) (f := fun _ => true)
    rw [this]
    congr 2
    exact List.all_eq_true.mpr fun _ _ => rfl
   have c4 := y7 c1 c3
   simp only [qg3, qiP, qeV, qiO, c2, c4, uI, cond_false, Bool.not_true, qg4]
  show (match js U with | .ok (.rt d _) => R.ok d | .ok (.nx _) => .ok .non | _ => .bad) = _
  rw [e]
 have hv := qaf ks hl hne
 have nl : vI [.tup (ks.map kD)] = .ok .non := by
  have e : yo U = .ok (.nx U) := by
   unfold yo
   have hm : qbL (ks.map fun k => k.1) <= 20 := by
    cases ks with
    | nil => exact absurd hne (Nat.lt_irrefl _)
    | cons k ks =>
     have := qaU k.1 (ks.map fun k => k.1)
     rw [<- mC_ (f := fun k : Kd => k.1)] at this
     obtain ⟨x, hx, ex⟩ := mP_.mp this
     rw [mC_] at ex |-
     rw [<- ex]
     exact (h x hx).2.1
   have c1 : d2 gtD (qh yV (qb (dv 0) (ret []))) (ret (.int 20)) U = .ok (.bl false, U) := qi (qR g0 hv) rfl (by rw [yD, decide_eq_false (by omega)])
   rw [qdy (zc c1)]
   rfl
  show (match yo U with | .ok (.rt d _) => R.ok d | .ok (.nx _) => .ok .non | _ => .bad) = _
  rw [e]
 have nle : qE [.tup (ks.map kD)] = .ok .non := by
  have e : zg U = .ok (.nx U) := by
   unfold zg
   refine (ql (U' := U) ?_).trans ((ql (U' := U) ?_).trans ?_)
   ·rw [vw, qR g0 (jU _ (v3 (fun k hk => (h k hk).ok) hl))]
   ·rw [vw, qR g0 ne]
   ·rw [vw, qR g0 nl]
  show (match zg U with | .ok (.rt d _) => R.ok d | .ok (.nx _) => .ok .non | _ => .bad) = _
  rw [e]
 exact nle
theorem ve {bt bt' : Nat -> Nat -> Bool} : ∀ n, (∀ i j, i <= n -> j <= n -> bt i j = bt' i j) -> argBest bt n = argBest bt' n
 | 0, _ => rfl
 | n + 1, h => by
  have e := ve n fun i j hi hj => h i j (by omega) (by omega)
  have l := uL bt' n
  show (if bt (n + 1) (argBest bt n) then n + 1 else argBest bt n) = (if bt' (n + 1) (argBest bt' n) then n + 1 else argBest bt' n)
  rw [e, h (n + 1) (argBest bt' n) (Nat.le_refl _) (by omega)]
def lt2 (x y : Int × Int) : Bool := decide (x.1 < y.1) || (decide (x.1 = y.1) && decide (x.2 < y.2))
theorem qjg (a b c d : Int) : HT.lexLt [a, b] [c, d] = lt2 (a, b) (c, d) := by
 show (if a = c then (if b = d then false else decide (b < d)) else decide (a < c)) = _
 unfold lt2
 by_cases h1 : a = c
 ·by_cases h2 : b = d
  ·simp [h1, h2]
  ·simp [h1, h2]
 ·simp [h1]
theorem qjh (x y : Int × Int) : lt2 x y = true ↔ (x.1 < y.1 \/ (x.1 = y.1 /\ x.2 < y.2)) := by simp [lt2]
theorem qkc (x y : Int × Int) : lt2 x y = false ↔ ¬ (x.1 < y.1 \/ (x.1 = y.1 /\ x.2 < y.2)) := by rw [<- qjh]; simp
theorem qkd {x y b : Int × Int} (h1 : lt2 x b = true) (h2 : lt2 y b = false) : lt2 x y = true /\ lt2 y x = false := by
 rw [qjh] at h1
 rw [qkc] at h2
 rw [qjh, qkc]
 omega
theorem qaz (r : Nat -> Int × Int) : ∀ n, (∀ j, j < argBest (fun i j => lt2 (r i) (r j)) n -> lt2 (r (argBest (fun i j => lt2 (r i) (r j)) n)) (r j) = true) /\ ∀ j, j <= n -> lt2 (r j) (r (argBest (fun i j => lt2 (r i) (r j)) n)) = false
 | 0 => ⟨fun j hj => absurd hj (Nat.not_lt_zero _), fun j hj => by
   have : j = 0 := by omega
   subst this
   show lt2 (r 0) (r 0) = false
   simp [lt2]⟩
 | n + 1 => by
  obtain ⟨h1, h2⟩ := qaz r n
  let b := argBest (fun i j => lt2 (r i) (r j)) n
  have hb : b <= n := uL _ n
  cases hc : lt2 (r (n + 1)) (r b) with
  | true =>
   have e : argBest (fun i j => lt2 (r i) (r j)) (n + 1) = n + 1 := by
    show (if lt2 (r (n + 1)) (r b) then n + 1 else b) = n + 1
    rw [hc]; rfl
   rw [e]
   refine ⟨fun j hj => ?_, fun j hj => ?_⟩
   ·exact (qkd hc (h2 j (by omega))).1
   ·by_cases hj2 : j = n + 1
    ·subst hj2; simp [lt2]
    ·exact (qkd hc (h2 j (by omega))).2
  | false =>
   have e : argBest (fun i j => lt2 (r i) (r j)) (n + 1) = b := by
    show (if lt2 (r (n + 1)) (r b) then n + 1 else b) = b
    rw [hc]; rfl
   rw [e]
   refine ⟨h1, fun j hj => ?_⟩
   by_cases hj2 : j = n + 1
   ·subst hj2; exact hc
   ·exact h2 j (by omega)
def qaO (ks : List Kd) : Int := ks.foldl (fun p k => p * k.1) 1
def vf (P : Int) (k : Kd) : Int × Int := (-k.2.1 * (P / k.1), k.1)
def rD (P : Int) (k : Kd) : D := .tup [.int (vf P k).1, .int (vf P k).2]
def qdI (x y : Kd) : Bool := decide (y.2.1 * x.1 < x.2.1 * y.1) || (decide (x.2.1 * y.1 = y.2.1 * x.1) && decide (x.1 < y.1))
theorem qfr {ks : List Kd} : ∀ (p : Int), p ∣ ks.foldl (fun p k => p * k.1) p /\ ∀ k ∈ ks, k.1 ∣ ks.foldl (fun p k => p * k.1) p := by
 induction ks with
 | nil => intro p; exact ⟨Int.dvd_refl _, fun k hk => by cases hk⟩
 | cons x ks ih =>
  intro p
  obtain ⟨h1, h2⟩ := ih (p * x.1)
  rw [fo_]
  refine ⟨Int.dvd_trans (Int.dvd_mul_right p x.1) h1, fun k hk => ?_⟩
  rcases List.mem_cons.mp hk with rfl | hk
  ·exact Int.dvd_trans (Int.dvd_mul_left p k.1) h1
  ·exact h2 k hk
theorem qga {ks : List Kd} (h : ∀ k ∈ ks, jM k) : ∀ (p : Int) (n : Nat), 1 <= p -> p <= 20 ^ n -> 1 <= ks.foldl (fun p k => p * k.1) p /\ ks.foldl (fun p k => p * k.1) p <= 20 ^ (n + ks.length) := by
 induction ks with
 | nil => intro p n h1 h2; exact ⟨h1, h2⟩
 | cons x ks ih =>
  intro p n h1 h2
  have gx := h x mS_
  have a1 : 1 <= p * x.1 := by
   have := Int.mul_le_mul h1 gx.1 (by omega) (by omega)
   omega
  have a2 : p * x.1 <= 20 ^ (n + 1) := by
   rw [Int.pow_succ]
   exact Int.mul_le_mul h2 gx.2.1 (by have := gx.1; omega) (Int.pow_nonneg (by omega))
  have := ih (fun k hk => h k (mM _ hk)) (p * x.1) (n + 1) a1 a2
  rw [fo_, lC_, show n + (ks.length + 1) = n + 1 + ks.length by omega]
  exact this
theorem qhU {P : Int} (hP : 0 < P) {x y : Kd} (hx : jM x) (hy : jM y) (dx : x.1 ∣ P) (dy : y.1 ∣ P) : lt2 (vf P x) (vf P y) = qdI x y := by
 obtain ⟨c, hc⟩ := dx
 obtain ⟨d, hd⟩ := dy
 have x0 : 0 < x.1 := by have := hx.1; omega
 have y0 : 0 < y.1 := by have := hy.1; omega
 have ex : P / x.1 = c := by rw [hc]; exact Int.mul_ediv_cancel_left _ (by omega)
 have ey : P / y.1 = d := by rw [hd]; exact Int.mul_ediv_cancel_left _ (by omega)
 have key1 : x.2.1 * c * (x.1 * y.1) = x.2.1 * y.1 * P := by rw [hc]; simp only [Int.mul_assoc, Int.mul_comm, Int.mul_left_comm]
 have key2 : y.2.1 * d * (x.1 * y.1) = y.2.1 * x.1 * P := by rw [hd]; simp only [Int.mul_assoc, Int.mul_comm, Int.mul_left_comm]
 have xy : 0 < x.1 * y.1 := Int.mul_pos x0 y0
 have l1 : (y.2.1 * d < x.2.1 * c) ↔ (y.2.1 * x.1 < x.2.1 * y.1) := by
  rw [<- Int.mul_lt_mul_right xy, key1, key2, Int.mul_lt_mul_right hP]
 have l2 : (x.2.1 * c = y.2.1 * d) ↔ (x.2.1 * y.1 = y.2.1 * x.1) := by
  constructor
  ·intro h
   have h' : x.2.1 * y.1 * P = y.2.1 * x.1 * P := by rw [<- key1, <- key2, h]
   exact Int.eq_of_mul_eq_mul_right (by omega) h'
  ·intro h
   have h' : x.2.1 * c * (x.1 * y.1) = y.2.1 * d * (x.1 * y.1) := by rw [key1, key2, h]
   exact Int.eq_of_mul_eq_mul_right (by omega) h'
 unfold lt2 vf qdI
 rw [ex, ey]
 have e1 : decide (-x.2.1 * c < -y.2.1 * d) = decide (y.2.1 * x.1 < x.2.1 * y.1) := by
  rw [decide_eq_decide, <- l1, Int.neg_mul, Int.neg_mul]
  omega
 have e2 : decide (-x.2.1 * c = -y.2.1 * d) = decide (x.2.1 * y.1 = y.2.1 * x.1) := by
  rw [decide_eq_decide, <- l2, Int.neg_mul, Int.neg_mul]
  omega
 simp only [e1, e2]
theorem yM {i : Int} (h0 : -1000000000000000000 <= i) (h1 : i <= 1000000000000000000) : jA i = true := by
 unfold jA
 rw [Bool.and_eq_true, decide_eq_true_eq, decide_eq_true_eq]
 constructor <;> omega
theorem qfs {ks : List Kd} (h : ∀ k ∈ ks, jM k) (hl : ks.length <= 12) : 1 <= qaO ks /\ qaO ks <= 4096000000000000 := by
 have := qga h 1 0 (by omega) (by decide)
 rw [Nat.zero_add] at this
 refine ⟨this.1, Int.le_trans this.2 ?_⟩
 have : (20 : Int) ^ ks.length <= 20 ^ 12 := by
  have := Nat.pow_le_pow_right (n := 20) (by omega) hl
  exact_mod_cast this
 exact Int.le_trans this (by decide)
theorem wj (ks : List Kd) (h : ∀ k ∈ ks, jM k) (hl : ks.length <= 12) : jp [.tup (ks.map kD)] = .ok (.int (qaO ks)) := by
 unfold jp yd
 obtain ⟨U', q, o2, rfl⟩ := qbv (G := qq 2) (b := (zP 1 (d2 y2 (dv 1) (d2 ixD (dv 2) (ret (.int 0)))))) (k := kD) (step := fun (p : Int) (k : Kd) => p * k.1) (Inv := fun n p U => ∃ o2, U = [some (.tup (ks.map kD)), some (.int p), o2]) ks 0 1 [some (.tup (ks.map kD)), some (.int 1), none] ⟨none, rfl⟩ (fun k hk m p U _ hm => by
  rintro ⟨o2, rfl⟩
  have gk := h k hk
  have f : jA k.1 = true := yM (by have := gk.1; omega) (by have := gk.2.1; omega)
  refine ⟨[some (.tup (ks.map kD)), some (.int p), some (kD k)], [some (.tup (ks.map kD)), some (.int (p * k.1)), some (kD k)], rfl, ?_, _, rfl⟩
  rw [qb4, qi rfl (qi rfl rfl (yE k)) (qel f)]
  rfl)
 refine uw rfl ⟨[some (.tup (ks.map kD)), some (.int (qaO ks)), o2], ?_⟩
 refine (ql (U' := [some (.tup (ks.map kD)), some (.int 1), none]) rfl).trans ?_
 refine (ql (U' := [some (.tup (ks.map kD)), some (.int (qaO ks)), o2]) ?_).trans rfl
 rw [uJ]
 exact q
def v8 (ks : List Kd) : Nat := argBest (fun i j => qdI (kAt ks i) (kAt ks j)) (ks.length - 1)
theorem qdJ (P : Int) : ∀ ks : List Kd, qek (ks.map (rD P)) = some (ks.map fun k => [(vf P k).1, (vf P k).2])
 | [] => rfl
 | k :: ks => by
  have e : vq [.int (vf P k).1, .int (vf P k).2] = some [(vf P k).1, (vf P k).2] := rfl
  rw [mC_, mC_]
  show (match vq [.int (vf P k).1, .int (vf P k).2], qek (ks.map (rD P)) with | some n, some ns => some (n :: ns) | _, _ => none) = _
  rw [e, qdJ P ks]
theorem qcO {P : Int} {ks : List Kd} {i : Nat} (h : i < ks.length) : qgk (ks.map fun k => [(vf P k).1, (vf P k).2]) i = [(vf P (kAt ks i)).1, (vf P (kAt ks i)).2] := by
 unfold qgk
 rw [gM_, vF h]
 rfl
theorem qbD {P : Int} (hP : 0 < P) {ks : List Kd} (h : ∀ k ∈ ks, jM k) (hd : ∀ k ∈ ks, k.1 ∣ P) (hne : 0 < ks.length) : qbQ (ks.map fun k => [(vf P k).1, (vf P k).2]) = v8 ks /\ argBest (fun i j => lt2 (vf P (kAt ks i)) (vf P (kAt ks j))) (ks.length - 1) = v8 ks := by
 have e2 : argBest (fun i j => lt2 (vf P (kAt ks i)) (vf P (kAt ks j))) (ks.length - 1) = v8 ks :=
  ve _ fun i j hi hj => qhU hP (h _ (vG (by omega))) (h _ (vG (by omega))) (hd _ (vG (by omega))) (hd _ (vG (by omega)))
 refine ⟨?_, e2⟩
 unfold qbQ
 rw [lM_, <- e2]
 refine ve _ fun i j hi hj => ?_
 rw [qcO (by omega), qcO (by omega), qjg]
theorem qdK (P : Int) (k : Kd) : wR (rD P k) = true := qdA (ns := [(vf P k).1, (vf P k).2])
theorem qft (P : Int) (x y : Kd) : PyData.eqv (jL (rD P x)) (jL (rD P y)) = decide (vf P x = vf P y) := by
 have h := qjd [(vf P x).1, (vf P x).2] [(vf P y).1, (vf P y).2]
 refine (show PyData.eqv (jL (rD P x)) (jL (rD P y)) = _ from h).trans ?_
 rw [decide_eq_decide]
 constructor
 ·intro h
  simp only [List.cons.injEq, and_true] at h
  exact Prod.ext h.1 h.2
 ·intro h
  rw [h]
theorem wP {ks : List Kd} (hne : 0 < ks.length) : v8 ks < ks.length := by
 have := uL (fun i j => qdI (kAt ks i) (kAt ks j)) (ks.length - 1)
 unfold v8
 omega
theorem qgb {P : Int} (hP : 0 < P) {ks : List Kd} (h : ∀ k ∈ ks, jM k) (hd : ∀ k ∈ ks, k.1 ∣ P) (hne : 0 < ks.length) : qdp (.lst (ks.map (rD P))) [rD P (kAt ks (v8 ks))] = some (.int (v8 ks : Nat)) := by
 have hl := wP hne
 obtain ⟨_, e2⟩ := qbD hP h hd hne
 obtain ⟨b1, _⟩ := qaz (fun i => vf P (kAt ks i)) (ks.length - 1)
 rw [e2] at b1
 have hf : (ks.map (rD P)).findIdx? (fun e => PyData.eqv (jL e) (jL (rD P (kAt ks (v8 ks))))) = some (v8 ks) := by
  rw [List.findIdx?_eq_some_iff_getElem]
  refine ⟨by rw [lM_]; exact hl, ?_, fun j hj => ?_⟩
  ·have e : ks[v8 ks] = kAt ks (v8 ks) := by
    have := vF hl
    rw [gG hl] at this
    exact Option.some.inj this
   rw [List.getElem_map, qft, e]
   exact decide_eq_true rfl
  ·have hj' : j < ks.length := by omega
   have e : ks[j] = kAt ks j := by
    have := vF hj'
    rw [gG hj'] at this
    exact Option.some.inj this
   rw [List.getElem_map, qft, e]
   have g := b1 j hj
   intro hh
   have hh' : vf P (kAt ks j) = vf P (kAt ks (v8 ks)) := of_decide_eq_true hh
   simp only [hh'] at g
   rw [qjh] at g
   omega
 have o1 : (ks.map (rD P)).all wR = true := by
  rw [List.all_map]
  exact List.all_eq_true.mpr fun k _ => qdK P k
 unfold qdp
 simp only [o1, qdK, Bool.and_self, if_true, hf, Option.map_some]
 rfl
theorem ug (ks : List Kd) (h : ∀ k ∈ ks, jM k) (hl : ks.length <= 12) (hne : 0 < ks.length) : jJ [.tup (ks.map kD)] = .ok (.int (v8 ks : Nat)) := by
 unfold jJ vH
 obtain ⟨P1, P2⟩ := qfs h hl
 let P := qaO ks
 have hP : 0 < P := by show 0 < qaO ks; omega
 have hd : ∀ k ∈ ks, k.1 ∣ P := (qfr 1).2
 let T : Option D := some (.tup (ks.map kD))
 refine uw rfl ⟨[T, some (.int P), some (.lst (ks.map (rD P)))], ?_⟩
 refine (ql (U' := [T, some (.int P), none]) ?_).trans ?_
 ·show zP 1 _ [T, none, none] = _
  rw [qb4, qR rfl (wj ks h hl)]
  rfl
 refine (ql (U' := [T, some (.int P), some (.lst (ks.map (rD P)))]) ?_).trans ?_
 ·rw [qb4, qaH (r := [some (.int P)]) (k := kD) ks (rD P) rfl rfl (by omega) (fun k hk => ?_)]
  ·rfl
  have gk := h k hk
  have b0 : 0 <= P / k.1 := Int.ediv_nonneg (by omega) (by have := gk.1; omega)
  have b1 : P / k.1 <= P := Int.ediv_le_self _ (by omega)
  have f : jA (P / k.1) = true := yM (by omega) (by show P / k.1 <= _; have : P <= 4096000000000000 := P2; omega)
  refine qoH (qi ?_ (qi rfl (qi rfl rfl (yE k)) (vC (by have := gk.1; omega) (by have := gk.2.1; omega))) (qel f)) (qi rfl rfl (yE k))
  rw [qou, qi rfl rfl (qaN k)]
  rfl
 ·have em : qm3 [.lst (ks.map (rD P))] = some (rD P (kAt ks (v8 ks))) := by
   obtain ⟨e1, _⟩ := qbD hP h hd hne
   cases ks with
   | nil => exact absurd hne (Nat.lt_irrefl _)
   | cons k ks' =>
    have e0 : qhh [.lst ((k :: ks').map (rD P))] = none := rfl
    unfold qm3
    rw [e0]
    show qhl [.lst ((k :: ks').map (rD P))] = _
    unfold qhl
    simp only [qdJ]
    rw [mC_] at e1 |-
    simp only
    rw [e1, <- mC_ (f := fun k => [(vf P k).1, (vf P k).2]), qcO (wP hne)]
    rfl
  rw [qbm, qei]
  have g1 : dv 2 [T, some (.int P), some (.lst (ks.map (rD P)))] = .ok (.lst (ks.map (rD P)), [T, some (.int P), some (.lst (ks.map (rD P)))]) := rfl
  rw [g1]
  simp only [vE (y7 g1 em), qgb hP h hd hne]
theorem qpJ (i : Int) : y2 (.int 3) (.int i) = some (.int (3 * i)) := qcE (by decide)
theorem qji (M h : Int) (hh : 1 <= h /\ h <= 20) (c : Int) (hc : 0 <= c /\ c < 5) (n : Int) (ks : List Kd) (hl : ks.length < 12) (o5 o6 o7 o8 : Option D) : ∃ n' k p6 p7 p8, (jM k /\ k.1 <= h) /\ (qG (zP 6 (d2 qW (ret (.int 1)) (qN qp 0 (qb (dv 2) (ret []))))) (qG (zP 7 (qN qp 0 (qb (ret (.int 12)) (ret [])))) (qG (zP 8 (d2 ixD (qcm (qb (dv 7) (qb (dv 6) (qb (d2 qW (d2 y2 (ret (.int 3)) (dv 6)) (d2 vp (dv 7) (ret (.int 3)))) (qb (ret (.int 0)) (qb (d2 qW (d2 qiN (ret (.int 10)) (ret (.int 20))) (dv 7)) (ret []))))))) (dv 3))) (jg (ut 4 (qa8 (qb (dv 6) (qb (dv 8) (qb (ret .non) (ret [])))))))))) [some (.lst [.int n]), some (.int M), some (.int h), some (.int c), some (.lst (ks.map kD)), o5, o6, o7, o8] = .ok (.nx [some (.lst [.int n']), some (.int M), some (.int h), some (.int c), some (.lst ((ks ++ [k]).map kD)), o5, p6, p7, p8]) := by
 let a := 1 + n % h
 let n1 := n / h
 let g := n1 % 12
 let n2 := n1 / 12
 have ha : 1 <= a /\ a <= 20 := by
  have h1 := Int.emod_nonneg n (show h ≠ 0 by omega)
  have h2 := Int.emod_lt_of_pos n (show 0 < h by omega)
  simp only [a]
  omega
 have hah : a <= h := by
  have h2 := Int.emod_lt_of_pos n (show 0 < h by omega)
  simp only [a]
  omega
 have hg : 0 <= g /\ g <= 11 := by simp only [g]; omega
 let L : List D := [.int g, .int a, .int (3 * a + g % 3), .int 0, .int (100000000000000000000 + g)]
 obtain ⟨m, hm, em⟩ := qnl (ds := L) (k := c) hc.1 (by show c < 5; exact hc.2)
 have hm2 : ∃ v : Int, m = .int v /\ 0 <= v /\ v <= 100000000000000000011 := by
  simp only [L, List.mem_cons, nN_, or_false] at hm
  rcases hm with rfl | rfl | rfl | rfl | rfl
  ·exact ⟨_, rfl, by omega, by omega⟩
  ·exact ⟨_, rfl, by omega, by omega⟩
  ·exact ⟨_, rfl, by omega, by omega⟩
  ·exact ⟨_, rfl, by omega, by omega⟩
  ·exact ⟨_, rfl, by omega, by omega⟩
 obtain ⟨v, rfl, v1, v2⟩ := hm2
 refine ⟨n2, (a, v, none), some (.int a), some (.int g), some (.int v), ⟨⟨ha.1, ha.2, v1, v2, rfl⟩, hah⟩, ?_⟩
 let T : Option D := some (.lst (ks.map kD))
 refine (ql (U' := [some (.lst [.int n1]), some (.int M), some (.int h), some (.int c), T, o5, some (.int a), o7, o8]) ?_).trans ?_
 ·push_cast [vQ (m := h) (by omega) (by omega), qO, a, n1, T]
 refine (ql (U' := [some (.lst [.int n2]), some (.int M), some (.int h), some (.int c), T, o5, some (.int a), some (.int g), o8]) ?_).trans ?_
 ·push_cast [vQ (m := 12) (by decide) (by decide), g, n2]
 refine (ql (U' := [some (.lst [.int n2]), some (.int M), some (.int h), some (.int c), T, o5, some (.int a), some (.int g), some (.int v)]) ?_).trans ?_
 ·have em' : ixD (.lst [.int g, .int a, .int (3 * a + g % 3), .int 0, .int (100000000000000000000 + g)]) (.int c) = some (.int v) := em
  push_cast [qpJ, u4 (j := 3) (by decide), qO, qnm, yB (show 5 <= 1000000 by omega), em']
 ·rw [qdz (ds := ks.map kD) (d := kD (a, v, none)) rfl (qpG rfl rfl rfl) rfl (by rw [lM_]; omega)]
  simp only [List.map_append]
  rfl
theorem qfu (M h : Int) (hh : 1 <= h /\ h <= 20) (c : Int) (hc : 0 <= c /\ c < 5) : ∀ (ds : List D) (n : Int) (ks : List Kd) (o5 o6 o7 o8 : Option D), (∀ k ∈ ks, jM k /\ k.1 <= h) -> ks.length + ds.length <= 12 ->
  ∃ (n' : Int) (ks' : List Kd) (p5 p6 p7 p8 : Option D), yy (qq 5) (qG (zP 6 (d2 qW (ret (.int 1)) (qN qp 0 (qb (dv 2) (ret []))))) (qG (zP 7 (qN qp 0 (qb (ret (.int 12)) (ret [])))) (qG (zP 8 (d2 ixD (qcm (qb (dv 7) (qb (dv 6) (qb (d2 qW (d2 y2 (ret (.int 3)) (dv 6)) (d2 vp (dv 7) (ret (.int 3)))) (qb (ret (.int 0)) (qb (d2 qW (d2 qiN (ret (.int 10)) (ret (.int 20))) (dv 7)) (ret []))))))) (dv 3))) (jg (ut 4 (qa8 (qb (dv 6) (qb (dv 8) (qb (ret .non) (ret [])))))))))) ds [some (.lst [.int n]), some (.int M), some (.int h), some (.int c), some (.lst (ks.map kD)), o5, o6, o7, o8] = .ok (.nx [some (.lst [.int n']), some (.int M), some (.int h), some (.int c), some (.lst (ks'.map kD)), p5, p6, p7, p8]) /\ (∀ k ∈ ks', jM k /\ k.1 <= h) /\ ks'.length = ks.length + ds.length
 | [], n, ks, o5, o6, o7, o8, g, hl => ⟨n, ks, o5, o6, o7, o8, rfl, g, rfl⟩
 | d :: ds, n, ks, o5, o6, o7, o8, g, hl => by
  have hl' : ks.length + (ds.length + 1) <= 12 := hl
  obtain ⟨n1, k, p6, p7, p8, gk, e⟩ := qji M h hh c hc n ks (by omega) (some d) o6 o7 o8
  obtain ⟨n', ks', q5, q6, q7, q8, q, g2, l⟩ := qfu M h hh c hc ds n1 (ks ++ [k]) (some d) p6 p7 p8 (fun x hx => (mA_.mp hx).elim (g x) fun hx => by
   rw [ms_] at hx; subst hx; exact gk) (by rw [lA_, List.length_singleton]; omega)
  refine ⟨n', ks', q5, q6, q7, q8, ?_, g2, by rw [l, lA_, List.length_singleton, lC_]; omega⟩
  unfold yy
  simp only [qq, List.set_cons_zero, List.set_cons_succ, e]
  exact q
theorem qgc (m : Int) (hm : 1 <= m /\ m <= 12) (h : Int) (hh : 1 <= h /\ h <= 20) (n : Int) : ∃ (ks : List Kd) (n' : Int), ju [.int n] [.int m, .int h] = .ok (.tup (ks.map kD), [.int n']) /\ (∀ k ∈ ks, jM k /\ k.1 <= h) /\ (ks.length : Int) <= m /\ 0 < ks.length := by
 let c := n % 5
 let n1 := n / 5
 let j := 1 + n1 % m
 let n2 := n1 / m
 have hj : 1 <= j /\ j <= m := by
  have h1 := Int.emod_nonneg n1 (show m ≠ 0 by omega)
  have h2 := Int.emod_lt_of_pos n1 (show 0 < m by omega)
  simp only [j]; omega
 obtain ⟨n', ks, p5, p6, p7, p8, q, g, l⟩ := qfu m h hh c (by simp only [c]; omega) (qaK 0 j.toNat) n2 [] none none none none (fun _ h => by cases h) (by rw [qfc]; simp; omega)
 rw [qfc] at l
 simp only [lN_] at l
 refine ⟨ks, n', ?_, g, by omega, by omega⟩
 unfold ju
 refine qjU (U := [some (.lst [.int n']), some (.int m), some (.int h), some (.int c), some (.lst (ks.map kD)), p5, p6, p7, p8]) rfl ?_ rfl
 unfold yj
 refine (ql (U' := [some (.lst [.int n1]), some (.int m), some (.int h), some (.int c), none, none, none, none, none]) ?_).trans ?_
 ·push_cast [vQ (m := 5) (by decide) (by decide), c, n1]
 refine (ql (U' := [some (.lst [.int n1]), some (.int m), some (.int h), some (.int c), some (.lst []), none, none, none, none]) ?_).trans ?_
 ·push_cast [immL, yB (show 0 <= 1000000 by omega), Bool.and_self]
 refine (ql (U' := [some (.lst [.int n']), some (.int m), some (.int h), some (.int c), some (.lst (ks.map kD)), p5, p6, p7, p8]) ?_).trans ?_
 ·rw [uJ, um (j := j) (U1 := [some (.lst [.int n2]), some (.int m), some (.int h), some (.int c), some (.lst []), none, none, none, none]) ?_ (by omega) (by omega)]
  ·exact q
  ·push_cast [vQ (m := m) (by omega) (by omega), qO, n2, j]
 ·push_cast []
def kn (k : Kd) : Kn := (k.1.toNat, k.2.1.toNat)
theorem kn1 {k : Kd} (h : jM k) : (((kn k).1 : Nat) : Int) = k.1 := by have := h.1; show ((k.1.toNat : Nat) : Int) = _; omega
theorem kn2 {k : Kd} (h : jM k) : (((kn k).2 : Nat) : Int) = k.2.1 := by have := h.2.2.1; show ((k.2.1.toNat : Nat) : Int) = _; omega
abbrev Ns (ks : List Kd) : List Kn := ks.map kn
theorem qib {ks : List Kd} (h : ∀ k ∈ ks, jM k) : ∀ x ∈ Ns ks, 1 <= x.1 := fun x hx => by
 obtain ⟨k, hk, rfl⟩ := mP_.mp hx
 have := kn1 (h k hk)
 have := (h k hk).1
 omega
def wI (ks : List Kd) (i : Nat) : D := .int ((W (Ns ks) i : Nat) : Int)
def tD (ks : List Kd) (m : Nat) : List D := (List.range m).map (wI ks)
theorem qlx (ks : List Kd) (m : Nat) : tD ks (m + 1) = tD ks m ++ [wI ks m] := by
 unfold tD
 rw [List.range_succ, List.map_append]; rfl
theorem qdL (ks : List Kd) (m : Nat) : (tD ks m).length = m := by simp [tD]
theorem qnE {ks : List Kd} {m i : Nat} (h : i < m) : atI (tD ks m) (i : Int) = some (wI ks i) := qaI (by
 unfold tD
 rw [gM_, List.getElem?_range h]; rfl)
theorem qgd {ks : List Kd} {m i : Nat} (h : i < m) : ixD (.lst (tD ks m)) (.int (i : Int)) = some (wI ks i) := qnE h
theorem qdM {ns : List Nat} (h : ns ≠ []) : qbL (ns.map fun n : Nat => (n : Int)) = ((mxN ns : Nat) : Int) := qcx (mP_.mpr ⟨_, qcG h, rfl⟩) fun n hn => by
 obtain ⟨m, hm, rfl⟩ := mP_.mp hn
 exact Int.ofNat_le.mpr (qff hm)
theorem qjj {G : D -> Env -> Option Env} {b : MS} {Inv : Nat -> Env -> Prop} (lo : Nat) : ∀ (n : Nat) (U : Env), Inv lo U -> (∀ m, lo <= m -> m < lo + n -> ∀ U, Inv m U -> ∃ U1 U2, G (.int (m : Int)) U = some U1 /\ b U1 = .ok (.nx U2) /\ Inv (m + 1) U2) ->
  ∃ U', yy G b (qaK (lo : Int) n) U = .ok (.nx U') /\ Inv (lo + n) U' := by
 intro n
 induction n generalizing lo with
 | zero => exact fun U h _ => ⟨U, rfl, h⟩
 | succ n ih =>
  intro U h H
  obtain ⟨U1, U2, h1, h2, h3⟩ := H lo (Nat.le_refl _) (by omega) U h
  obtain ⟨U', q, w⟩ := ih (lo + 1) U2 h3 fun m m1 m2 => H m (by omega) (by omega)
  refine ⟨U', ?_, by rw [show lo + (n + 1) = lo + 1 + n by omega]; exact w⟩
  rw [qhJ, uM h1 h2]
  have : ((lo : Int) + 1) = ((lo + 1 : Nat) : Int) := by omega
  rw [this]; exact q
theorem qly {ks : List Kd} (h : ∀ k ∈ ks, jM k) (m : Nat) : qaM [.lst ((ks.filter fun k => decide (k.1 <= (m : Int))).map fun k => D.int (((W (Ns ks) (m - (kn k).1) : Nat) : Int) + k.2.1))] [.int 0] = some (wI ks m) := by
 have hw := qib h
 have e1 : ((Ns ks).filter fun k => decide (k.1 <= m)) = (ks.filter fun k => decide (k.1 <= (m : Int))).map kn := by
  rw [List.filter_map]
  congr 1
  refine List.filter_congr fun k hk => ?_
  have := kn1 (h k hk)
  show decide ((kn k).1 <= m) = decide (k.1 <= (m : Int))
  exact decide_eq_decide.mpr (by omega)
 have e2 := qnY hw m
 rw [e1, mm_] at e2
 let l := (ks.filter fun k => decide (k.1 <= (m : Int))).map ((fun k => W (Ns ks) (m - k.1) + k.2) ∘ kn)
 have e3 : ((ks.filter fun k => decide (k.1 <= (m : Int))).map fun k => D.int (((W (Ns ks) (m - (kn k).1) : Nat) : Int) + k.2.1)) = (l.map fun n : Nat => (n : Int)).map D.int := by
  simp only [l, mm_]
  refine mL_ fun k hk => ?_
  have := kn2 (h k (List.mem_filter.mp hk).1)
  show D.int _ = D.int (((W (Ns ks) (m - (kn k).1) + (kn k).2 : Nat) : Int))
  congr 1
  omega
 rw [e3]
 unfold qaM
 simp only [v0, Option.map_some]
 by_cases hl : l = []
 ·rw [hl]
  have : W (Ns ks) m = 0 := by rw [e2]; show mxN l = 0; rw [hl]; rfl
  unfold wI
  rw [this]; rfl
 ·have hl2 : (l.map fun n : Nat => (n : Int)) ≠ [] := fun z => hl (List.map_eq_nil_iff.mp z)
  rw [if_neg hl2, qdM hl]
  unfold wI
  rw [e2]
theorem qaY {ks : List Kd} (h : ∀ k ∈ ks, jM k) (hl : ks.length <= 12) (hne : 0 < ks.length) : qj6 (Ns ks) (kn (kAt ks (v8 ks))) := by
 obtain ⟨P1, P2⟩ := qfs h hl
 have hP : 0 < qaO ks := by omega
 have hd : ∀ k ∈ ks, k.1 ∣ qaO ks := (qfr 1).2
 have hm := vG (wP hne)
 refine ⟨mP_.mpr ⟨_, hm, rfl⟩, fun x hx => ?_⟩
 obtain ⟨k, hk, rfl⟩ := mP_.mp hx
 obtain ⟨j, hj, e⟩ := List.mem_iff_getElem.mp hk
 have ej : kAt ks j = k := by
  unfold kAt
  rw [gG hj, e]; rfl
 obtain ⟨_, e2⟩ := qbD hP h hd hne
 have e3 := (qaz (fun i => vf (qaO ks) (kAt ks i)) (ks.length - 1)).2 j (by omega)
 have e4 : argBest (fun i j => lt2 (vf (qaO ks) (kAt ks i)) (vf (qaO ks) (kAt ks j))) (ks.length - 1) = v8 ks := e2
 rw [e4] at e3
 have gk := h k hk
 have gp := h _ hm
 rw [ej, qhU hP gk gp (hd _ hk) (hd _ hm)] at e3
 unfold qdI at e3
 simp only [Bool.or_eq_false_iff, decide_eq_false_iff_not] at e3
 have e5 : k.2.1 * (kAt ks (v8 ks)).1 <= (kAt ks (v8 ks)).2.1 * k.1 := by omega
 have := kn1 gk
 have := kn2 gk
 have := kn1 gp
 have := kn2 gp
 rw [<- kn1 gk, <- kn2 gk, <- kn1 gp, <- kn2 gp, <- Int.natCast_mul, <- Int.natCast_mul] at e5
 exact Int.ofNat_le.mp e5
theorem zJ (ks : List Kd) (h : ∀ k ∈ ks, jM k) (hl : ks.length <= 12) (hne : 0 < ks.length) : zH [.tup (ks.map kD)] = .ok (kD (kAt ks (v8 ks))) := by
 unfold zH wK
 exact uw rfl ⟨_, z6 (qi rfl (qR rfl (ug ks h hl hne)) (qdB (wP hne)))⟩
def ld (ks : List Kd) : Kd := kAt ks (v8 ks)
theorem zm {ks : List Kd} (h : ∀ k ∈ ks, jM k) (hne : 0 < ks.length) : jM (ld ks) := h _ (vG (wP hne))
def hv (ks : List Kd) : Int := qbL (ks.map fun k => k.1)
theorem qnF {ks : List Kd} (hne : 0 < ks.length) : (∀ k ∈ ks, k.1 <= hv ks) /\ ∃ k ∈ ks, k.1 = hv ks := by
 cases ks with
 | nil => exact absurd hne (Nat.lt_irrefl _)
 | cons k ks =>
  have e : hv (k :: ks) = qbL (k.1 :: ks.map fun k => k.1) := rfl
  refine ⟨fun x hx => by
   have hm : x.1 ∈ (k :: ks).map fun k => k.1 := mP_.mpr ⟨x, hx, rfl⟩
   rw [mC_] at hm
   rw [e]; exact qeh _ _ _ hm, ?_⟩
  obtain ⟨x, hx, e2⟩ := mP_.mp (show qbL (k.1 :: ks.map fun k => k.1) ∈ (k :: ks).map fun k => k.1 from qaU k.1 (ks.map fun k => k.1))
  exact ⟨x, hx, e2⟩
theorem qo8 {ks : List Kd} (h : ∀ k ∈ ks, jM k) (hne : 0 < ks.length) : 1 <= hv ks /\ hv ks <= 20 := by
 obtain ⟨_, k, hk, e⟩ := qnF hne
 have := h k hk
 rw [<- e]; exact ⟨this.1, this.2.1⟩
def sN (ks : List Kd) : Nat := (kn (ld ks)).1 + ((kn (ld ks)).1 - 1) * (hv ks).toNat
theorem qnG {ks : List Kd} (h : ∀ k ∈ ks, jM k) (hne : 0 < ks.length) : ((sN ks : Nat) : Int) = (ld ks).1 + ((ld ks).1 - 1) * hv ks := by
 have h1 := kn1 (zm h hne)
 have h2 := (zm h hne).1
 have h3 := (qo8 h hne).1
 unfold sN
 rw [Int.natCast_add, Int.natCast_mul, h1]
 have e1 : (((kn (ld ks)).1 - 1 : Nat) : Int) = (ld ks).1 - 1 := by omega
 have e2 : (((hv ks).toNat : Nat) : Int) = hv ks := by omega
 rw [e1, e2]
theorem qlz {ks : List Kd} (h : ∀ k ∈ ks, jM k) (hne : 0 < ks.length) : sN ks <= 400 := by
 have h1 := kn1 (zm h hne)
 have h2 := (zm h hne).2.1
 have h3 := (qo8 h hne).2
 unfold sN
 have a1 : (kn (ld ks)).1 <= 20 := by omega
 have a2 : (hv ks).toNat <= 20 := by omega
 have : ((kn (ld ks)).1 - 1) * (hv ks).toNat <= 19 * 20 := Nat.mul_le_mul (by omega) a2
 omega
theorem vR (ks : List Kd) (h : ∀ k ∈ ks, jM k) (hl : ks.length <= 12) (hne : 0 < ks.length) : jc [.tup (ks.map kD)] = .ok (.int (sN ks : Nat)) := by
 unfold jc jR
 have gp := zm h hne
 have f : jA ((ld ks).1 - 1) = true := yM (by have := gp.1; omega) (by have := gp.2.1; omega)
 refine uw rfl ⟨[some (.tup (ks.map kD)), some (.int (ld ks).1)], ?_⟩
 refine (ql (U' := [some (.tup (ks.map kD)), some (.int (ld ks).1)]) (zT (qi (qR rfl (zJ ks h hl hne)) rfl (yE _)))).trans ?_
 rw [qnG h hne]
 exact z6 (qi rfl (qi (qi rfl rfl (zX _ _)) (qR rfl (qaf ks hl hne)) (qcE f)) (qO _ _))
theorem qaA (ks : List Kd) (h : ∀ k ∈ ks, jM k) (hl : ks.length <= 12) (hne : 0 < ks.length) : yh [.tup (ks.map kD)] = .ok (.lst (tD ks (sN ks))) := by
 have hs := qlz h hne
 let T : Option D := some (.tup (ks.map kD))
 obtain ⟨U', q, o2, o3, rfl⟩ := qjj (G := qq 2) (b := (qG (zP 3 (zM 1 [2] none (v9 (dv 0)) (qq 0) (tst (d2 leD (d2 ixD (dv 0) (ret (.int 0))) (dv 1))) (dv 0))) (jg (ut 1 (qaa qaM (qb (zM 1 [1, 2] (some (1, 1)) (v9 (dv 3)) (qq 0) (ret true) (d2 qW (qaL 1 (d2 vt (dv 2) (d2 ixD (dv 0) (ret (.int 0))))) (d2 ixD (dv 0) (ret (.int 1))))) (ret [])) (qb (ret (.int 0)) (ret []))))))) (Inv := fun m U => ∃ o2 o3, U = [T, some (.lst (tD ks m)), o2, o3]) 0 (sN ks) [T, some (.lst []), none, none] ⟨none, none, rfl⟩ (fun m _ hm U => by
  rintro ⟨o2, o3, rfl⟩
  let fit := ks.filter fun k => decide (k.1 <= (m : Int))
  let U2 : Env := [T, some (.lst (tD ks m)), some (.int (m : Int)), some (.lst (fit.map kD))]
  refine ⟨[T, some (.lst (tD ks m)), some (.int (m : Int)), o3], [T, some (.lst (tD ks (m + 1))), some (.int (m : Int)), some (.lst (fit.map kD))], rfl, ?_, some (.int (m : Int)), some (.lst (fit.map kD)), rfl⟩
  have c1 : zM 1 [2] none (v9 (dv 0)) (qq 0) (tst (d2 leD (d2 ixD (dv 0) (ret (.int 0))) (dv 1))) (dv 0) [T, some (.lst (tD ks m)), some (.int (m : Int)), o3] = .ok (.lst (fit.map kD), [T, some (.lst (tD ks m)), some (.int (m : Int)), o3]) :=
   qhK (r := [some (.int (m : Int))]) (k := kD) ks (fun k => decide (k.1 <= (m : Int))) kD rfl rfl (by omega) (fun k _ => zc (qi (qi rfl rfl (yE k)) rfl (qbt _ _))) fun k _ _ => rfl
  refine (ql (U' := U2) (zT c1)).trans ?_
  have c2 : zM 1 [1, 2] (some (1, 1)) (v9 (dv 3)) (qq 0) (ret true) (d2 qW (qaL 1 (d2 vt (dv 2) (d2 ixD (dv 0) (ret (.int 0))))) (d2 ixD (dv 0) (ret (.int 1)))) U2 = .ok (.lst (fit.map fun k => D.int (((W (Ns ks) (m - (kn k).1) : Nat) : Int) + k.2.1)), U2) := by
   have := qj4 (r := [some (.lst (tD ks m)), some (.int (m : Int))]) (k := kD) (e := d2 qW (qaL 1 (d2 vt (dv 2) (d2 ixD (dv 0) (ret (.int 0))))) (d2 ixD (dv 0) (ret (.int 1)))) (i := 1) (j := 1) (U := U2) (xs := v9 (dv 3)) (fr := [1, 2]) fit (fun _ => true) (fun k => D.int (((W (Ns ks) (m - (kn k).1) : Nat) : Int) + k.2.1)) (t := ret true) rfl rfl (Nat.le_trans (List.length_filter_le _ ks) (by omega)) (fun _ _ => rfl) (fun k hk _ => by
    obtain ⟨hk1, hk2⟩ := List.mem_filter.mp hk
    have g1 := kn1 (h k hk1)
    have g2 := (h k hk1).1
    have hk3 : k.1 <= (m : Int) := of_decide_eq_true hk2
    have ei : (m : Int) - k.1 = ((m - (kn k).1 : Nat) : Int) := by omega
    have e1 : qaL 1 (d2 vt (dv 2) (d2 ixD (dv 0) (ret (.int 0)))) [some (kD k), some (.lst (tD ks m)), some (.int (m : Int))] = .ok (wI ks (m - (kn k).1), [some (kD k), some (.lst (tD ks m)), some (.int (m : Int))]) := by
     rw [qdl, qi rfl (qi rfl rfl (yE k)) (zX _ _)]
     simp only [qhF, qhE, ei, qnE (ks := ks) (show m - (kn k).1 < m by omega)]
    exact qi e1 (qi rfl rfl (qaN k)) (qO _ _)) (fun o => rfl)
   rw [this, u5]
  have c3 : qaa qaM (qb (zM 1 [1, 2] (some (1, 1)) (v9 (dv 3)) (qq 0) (ret true) (d2 qW (qaL 1 (d2 vt (dv 2) (d2 ixD (dv 0) (ret (.int 0))))) (d2 ixD (dv 0) (ret (.int 1))))) (ret [])) (qb (ret (.int 0)) (ret [])) U2 = .ok (wI ks m, U2) := by
   rw [qe7, vE c2]
   simp only [vE (f := ret (.int 0)) (U := U2) rfl, fit, qly h m]
  rw [qdz (ds := tD ks m) (d := wI ks m) rfl c3 rfl (by rw [qdL]; omega), qlx]
  rfl)
 unfold yh uy
 refine uw rfl ⟨[T, some (.lst (tD ks (0 + sN ks))), o2, o3], ?_⟩
 refine (ql (U' := [T, some (.lst []), none, none]) ?_).trans ?_
 ·push_cast [T, immL, yB (show 0 <= 1000000 by omega), Bool.and_self]
 refine (ql (U' := [T, some (.lst (tD ks (0 + sN ks))), o2, o3]) ?_).trans ?_
 ·rw [uJ, um (j := ((sN ks : Nat) : Int)) (U1 := [T, some (.lst []), none, none]) (vE (qR rfl (vR ks h hl hne))) (by omega) (by omega), Int.toNat_natCast]
  exact q
 ·rw [Nat.zero_add]; rfl
def qeq (ks : List Kn) (p : Kn) (n : Nat) : List Nat := ((List.range (n - p.1)).filter fun i => qdE ks p (p.1 + i)).map fun i => p.1 + i
theorem qhV (ks : List Kn) (p : Kn) (n : Nat) : qeq ks p (n + 1) = qeq ks p n ++ (if p.1 <= n /\ qdE ks p n = true then [n] else []) := by
 unfold qeq
 by_cases h : p.1 <= n
 ·rw [show n + 1 - p.1 = (n - p.1) + 1 by omega, List.range_succ, List.filter_append, List.map_append]
  congr 1
  have e : p.1 + (n - p.1) = n := by omega
  cases ho : qdE ks p n with
  | true => simp [ft_, e, ho, h]
  | false => simp [ft_, e, ho]
 ·rw [show n + 1 - p.1 = n - p.1 by omega, if_neg (fun z => h z.1), List.append_nil]
theorem qjk : ∀ (l : List Nat) (n : Nat), (∀ r ∈ l, r < n) -> mxN (l ++ [n]) = n := fun l n h => qns (by simp) fun m hm => by
 rcases mA_.mp hm with hm | hm
 ·exact Nat.le_of_lt (h m hm)
 ·rw [ms_] at hm; omega
theorem qfv {ks : List Kn} {p : Kn} (hp : 1 <= p.1) : ∀ n, (∀ r ∈ qeq ks p n, r < n) /\ (if qeq ks p n = [] then p.1 - 1 else mxN (qeq ks p n)) + 1 = wf ks p n
 | 0 => by
  have e : qeq ks p 0 = [] := by unfold qeq; rw [Nat.zero_sub]; rfl
  refine ⟨(fun r hr => by rw [e] at hr; cases hr), ?_⟩
  rw [e, if_pos rfl]
  show p.1 - 1 + 1 = p.1
  omega
 | n + 1 => by
  obtain ⟨h1, h2⟩ := qfv hp n
  rw [qhV]
  show _ /\ _ = (if p.1 <= n /\ qdE ks p n = true then n + 1 else wf ks p n)
  by_cases hc : p.1 <= n /\ qdE ks p n = true
  ·rw [if_pos hc, if_pos hc]
   refine ⟨fun r hr => ?_, ?_⟩
   ·rcases mA_.mp hr with hr | hr
    ·have := h1 r hr; omega
    ·rw [ms_] at hr; omega
   ·rw [if_neg (by simp), qjk _ _ h1]
  ·rw [if_neg hc, if_neg hc, List.append_nil]
   exact ⟨fun r hr => by have := h1 r hr; omega, h2⟩
theorem qpK (x y : Nat) (g : Int) (gn : Nat) (hg : (gn : Int) = g) : neB (.int (x : Int)) (.int ((y : Int) + g)) = some (.bl (decide (x ≠ y + gn))) := by
 rw [vz]
 congr 2
 by_cases h : x = y + gn
 ·have : (x : Int) = (y : Int) + g := by omega
  simp [h, this]
  omega
 ·have : ¬ (x : Int) = (y : Int) + g := by omega
  simp [h, this]
theorem qag (ks : List Kd) (p : Kd) (hp : jM p) (n : Nat) (hn : n <= 1000) : zS [kD p, .lst (tD ks n)] = .ok (.lst ((qeq (Ns ks) (kn p) n).map fun r => D.int (r : Nat))) := by
 have g1 := kn1 hp
 have g2 := kn2 hp
 have h1 := hp.1
 have h2 := hp.2.1
 unfold zS ua
 let U : Env := [some (kD p), some (.lst (tD ks n)), some (.int p.1)]
 refine uw rfl ⟨U, ?_⟩
 refine (ql (U' := U) (zT (qi rfl rfl (yE p)))).trans (z6 ?_)
 have e1 : qhi (qb (dv 2) (qb (qT uC (qb (dv 1) (ret []))) (ret []))) U = .ok ((List.range (n - (kn p).1)).map fun i => D.int ((((kn p).1 + i : Nat)) : Int), U) := by
  have el : uC [.lst (tD ks n)] = some (.int (n : Nat)) := by show some (D.int ((tD ks n).length : Nat)) = _; rw [qdL]
  rw [qhk (i := p.1) (j := (n : Int)) (U1 := U) (qf9 rfl (y7 (a := .lst (tD ks n)) rfl el)) (by omega) (by omega) (by omega) (by omega)]
  congr 2
  rw [qjb, show ((n : Int) - p.1).toNat = n - (kn p).1 by omega]
  refine mL_ fun i _ => ?_
  show D.int _ = D.int _
  congr 1
  omega
 rw [qhK (r := [some (.lst (tD ks n)), some (kD p), some (.int p.1)]) (k := fun i : Nat => D.int ((((kn p).1 + i : Nat)) : Int)) (List.range (n - (kn p).1)) (fun i => qdE (Ns ks) (kn p) ((kn p).1 + i)) (fun i => D.int ((((kn p).1 + i : Nat)) : Int)) e1 rfl (by rw [lR_]; omega) (fun i hi => ?_) fun i _ _ => rfl]
 ·unfold qeq
  rw [mm_]; rfl
 ·have hi' := mR_.mp hi
  have x1 := qgd (ks := ks) (m := n) (i := (kn p).1 + i) (by omega)
  have ei : ((((kn p).1 + i : Nat)) : Int) - p.1 = ((i : Nat) : Int) := by omega
  have x2 := qgd (ks := ks) (m := n) (i := i) (by omega)
  have ew : (kn p).1 + i - (kn p).1 = i := by omega
  refine zc (qi (qi rfl rfl x1) (qi (qi rfl (qi rfl rfl (zX _ _)) (by rw [ei]; exact x2)) (qi rfl rfl (qaN p)) (qO _ _)) ?_)
  have := qpK (W (Ns ks) ((kn p).1 + i)) (W (Ns ks) i) p.2.1 (kn p).2 g2
  unfold qdE
  rw [ew]
  exact this
theorem qlA {ks : List Kd} {m n : Nat} (h : m <= n) : (tD ks n).take m = tD ks m := by
 unfold tD
 rw [<- List.map_take, List.take_range, Nat.min_eq_left h]
def lo (ks : List Kd) : Nat := wf (Ns ks) (kn (ld ks)) (sN ks)
theorem qnH (ks : List Kd) : lo ks <= sN ks := by
 have := qfi (ks := Ns ks) (p := kn (ld ks)) (sN ks)
 have e : (kn (ld ks)).1 <= sN ks := by unfold sN; omega
 unfold lo
 omega
theorem qjl {ks : List Kd} (p : Kd) (hp : jM p) (n : Nat) : qaM [.lst ((qeq (Ns ks) (kn p) n).map fun r => D.int (r : Nat))] [.int (p.1 - 1)] = some (.int ((wf (Ns ks) (kn p) n : Nat) - 1 : Int)) := by
 have g1 := kn1 hp
 have h1 := hp.1
 obtain ⟨_, h2⟩ := qfv (ks := Ns ks) (p := kn p) (by omega) n
 unfold qaM
 have e : vq ((qeq (Ns ks) (kn p) n).map fun r => D.int (r : Nat)) = some ((qeq (Ns ks) (kn p) n).map fun r : Nat => (r : Int)) := by
  have := v0 ((qeq (Ns ks) (kn p) n).map fun r : Nat => (r : Int))
  rw [mm_] at this
  exact this
 simp only [e, Option.map_some]
 by_cases ho : qeq (Ns ks) (kn p) n = []
 ·rw [if_pos ho] at h2
  rw [if_pos (by rw [ho]; rfl)]
  congr 2
  omega
 ·rw [if_neg ho] at h2
  rw [if_neg (fun z => ho (List.map_eq_nil_iff.mp z)), qdM ho]
  congr 2
  omega
theorem jd (ks : List Kd) (h : ∀ k ∈ ks, jM k) (hl : ks.length <= 12) (hne : 0 < ks.length) : zw [.tup (ks.map kD)] = .ok (.lst (tD ks (lo ks))) := by
 have gp := zm h hne
 have hs := qlz h hne
 have hlo := qnH ks
 unfold zw ub
 let T : Option D := some (.tup (ks.map kD))
 let U : Env := [T, some (.lst (tD ks (sN ks))), some (kD (ld ks))]
 refine uw rfl ⟨U, ?_⟩
 refine (ql (U' := [T, some (.lst (tD ks (sN ks))), none]) (zT (qR rfl (qaA ks h hl hne)))).trans ?_
 refine (ql (U' := U) (zT (qR rfl (zJ ks h hl hne)))).trans (z6 ?_)
 have e1 : qaa qaM (qb (qh zS (qb (dv 2) (qb (dv 1) (ret [])))) (ret [])) (qb (d2 vt (d2 ixD (dv 2) (ret (.int 0))) (ret (.int 1))) (ret [])) U = .ok (.int ((lo ks : Nat) - 1 : Int), U) := by
  rw [qe7, vE (zC rfl rfl (qag ks (ld ks) gp (sN ks) (by omega)))]
  simp only [vE (f := d2 vt (d2 ixD (dv 2) (ret (.int 0))) (ret (.int 1))) (U := U) (qi (qi rfl rfl (yE (ld ks))) rfl (zX _ _)), qjl (ld ks) gp (sN ks)]
  rfl
 have e2 : qfP (d2 qW (qaa qaM (qb (qh zS (qb (dv 2) (qb (dv 1) (ret [])))) (ret [])) (qb (d2 vt (d2 ixD (dv 2) (ret (.int 0))) (ret (.int 1))) (ret []))) (ret (.int 1))) U = .ok (some ((lo ks : Nat) : Int), U) := by
  rw [qee, qi e1 rfl (qO _ _)]
  simp only
  rw [show ((lo ks : Nat) : Int) - 1 + 1 = ((lo ks : Nat) : Int) by omega]
 rw [qnb]
 have e0 : dv 1 U = .ok (.lst (tD ks (sN ks)), U) := rfl
 have e3 : slB (.lst (tD ks (sN ks))) none (some ((lo ks : Nat) : Int)) = some (.lst (tD ks (lo ks))) := by
  show some (D.lst (qgO _ _ _)) = _
  rw [qje _ _ (by rw [qdL]; exact hlo), qlA hlo]
 simp only [e0, qec, e2, e3]
theorem qbE (ks : List Kd) (h : ∀ k ∈ ks, jM k) (hl : ks.length <= 12) (hne : 0 < ks.length) : u6 [.tup (ks.map kD)] = .ok (.lst (tD ks (lo ks))) := by
 unfold u6 qcJ
 refine uw rfl ⟨[some (.tup (ks.map kD))], ?_⟩
 exact (ql (jh (qR rfl (qV ks h hl hne)))).trans (z6 (qR rfl (jd ks h hl hne)))
theorem qge (ks : List Kd) (h : ∀ k ∈ ks, jM k) (hl : ks.length <= 12) (hne : 0 < ks.length) : qbC [.tup (ks.map kD)] = .ok (.int (lo ks : Nat)) := by
 unfold qbC qeo
 refine uw rfl ⟨[some (.tup (ks.map kD))], ?_⟩
 refine (ql (jh (qR rfl (qV ks h hl hne)))).trans (z6 (y7 (qR rfl (jd ks h hl hne)) ?_))
 show some (D.int ((tD ks (lo ks)).length : Nat)) = _
 rw [qdL]
theorem qnI {ks : List Kd} (h : ∀ k ∈ ks, jM k) (hl : ks.length <= 12) (hne : 0 < ks.length) {r : Nat} (hr : sN ks <= r) : qdE (Ns ks) (kn (ld ks)) r = false := by
 unfold qdE
 have := qlr (qib h) (qaY h hl hne) (H := (hv ks).toNat) (r := r) (fun x hx => by
  obtain ⟨k, hk, rfl⟩ := mP_.mp hx
  have a1 := (qnF hne).1 k hk
  have a2 := kn1 (h k hk)
  omega) hr
 exact decide_eq_false (fun z => z this)
theorem qdN {ks : List Kn} {p : Kn} : ∀ n r, wf ks p n <= r -> r < n -> qdE ks p r = false
 | n + 1, r, h1, h2 => by
  unfold wf at h1
  split at h1
  ·omega
  ·rename_i hc
   by_cases e : r = n
   ·subst e
    cases ho : qdE ks p r with
    | false => rfl
    | true => exact absurd ⟨Nat.le_trans (qaW r) h1, ho⟩ hc
   ·exact qdN n r h1 (by omega)
theorem qjm {ks : List Kd} (h : ∀ k ∈ ks, jM k) (hl : ks.length <= 12) (hne : 0 < ks.length) {r : Nat} (hr : lo ks <= r) : W (Ns ks) r = W (Ns ks) (r - (kn (ld ks)).1) + (kn (ld ks)).2 := by
 have : qdE (Ns ks) (kn (ld ks)) r = false := by
  by_cases hs : sN ks <= r
  ·exact qnI h hl hne hs
  ·exact qdN (sN ks) r hr (by omega)
 unfold qdE at this
 exact Decidable.of_not_not (of_decide_eq_false this)
theorem qfw {ks : List Kd} (h : ∀ k ∈ ks, jM k) (hl : ks.length <= 12) (hne : 0 < ks.length) {s : Nat} (hs : lo ks <= s + (kn (ld ks)).1) : ∀ j, W (Ns ks) (s + j * (kn (ld ks)).1) = W (Ns ks) s + j * (kn (ld ks)).2
 | 0 => by simp
 | j + 1 => by
  have e1 : (j + 1) * (kn (ld ks)).1 = j * (kn (ld ks)).1 + (kn (ld ks)).1 := Nat.succ_mul _ _
  have e2 : (j + 1) * (kn (ld ks)).2 = j * (kn (ld ks)).2 + (kn (ld ks)).2 := Nat.succ_mul _ _
  have := qjm h hl hne (r := s + (j + 1) * (kn (ld ks)).1) (by omega)
  rw [show s + (j + 1) * (kn (ld ks)).1 - (kn (ld ks)).1 = s + j * (kn (ld ks)).1 by omega, qfw h hl hne hs j] at this
  omega
theorem qnJ {w b room : Nat} (hw : 1 <= w) (hb : w <= b) (hr : b <= room) : ∃ s, room = s + ((room - b) / w + 1) * w /\ s < b /\ b <= s + w := by
 have e := Nat.div_add_mod (room - b) w
 have l := Nat.mod_lt (room - b) (show 0 < w by omega)
 have e1 : ((room - b) / w + 1) * w = w * ((room - b) / w) + w := by rw [Nat.succ_mul, Nat.mul_comm]
 refine ⟨b + (room - b) % w - w, ?_, ?_, ?_⟩ <;> omega
def rd (ks : List Kd) (room : Nat) : Nat := if room < lo ks then 0 else (room - lo ks) / (kn (ld ks)).1 + 1
theorem w1 {ks : List Kd} (h : ∀ k ∈ ks, jM k) (hne : 0 < ks.length) : 1 <= (kn (ld ks)).1 := by
 have := (zm h hne).1
 have := kn1 (zm h hne)
 omega
theorem qnK {ks : List Kd} (h : ∀ k ∈ ks, jM k) (hl : ks.length <= 12) (hne : 0 < ks.length) (room : Nat) : ∃ s, room = s + rd ks room * (kn (ld ks)).1 /\ s < lo ks /\ W (Ns ks) room = W (Ns ks) s + rd ks room * (kn (ld ks)).2 := by
 have hw := w1 h hne
 have hg : (kn (ld ks)).1 <= lo ks := qaW _
 unfold rd
 by_cases hc : room < lo ks
 ·rw [if_pos hc]
  exact ⟨room, by simp, hc, by simp⟩
 ·rw [if_neg hc]
  obtain ⟨s, e, s1, s2⟩ := qnJ hw hg (show lo ks <= room by omega)
  refine ⟨s, e, s1, ?_⟩
  have := qfw h hl hne s2 ((room - lo ks) / (kn (ld ks)).1 + 1)
  rw [<- e] at this
  exact this
theorem qo9 {i : Int} (h : i.natAbs <= 10 ^ 40) : i.natAbs < 2 ^ 2000 := by
 have h1 : (10 : Nat) ^ 40 < 2 ^ 200 := by decide
 have h2 : (2 : Nat) ^ 200 <= 2 ^ 2000 := Nat.pow_le_pow_right (by omega) (by omega)
 exact Nat.lt_of_le_of_lt h (Nat.lt_of_lt_of_le h1 h2)
theorem mw {i j : Int} (h1 : i.natAbs <= 10 ^ 40) (h2 : j.natAbs <= 10 ^ 40) : qf5 (.int i) (.int j) = some (.int (i * j)) := qhA (qo9 h1) (qo9 h2)
theorem uh (n : Nat) : yr [.int (n : Nat)] = .ok .non := by
 have hc : jQ (.int (n : Nat)) = true := by simp [jQ]
 have e : yq [some (.int (n : Nat))] = .ok (.nx [some (.int (n : Nat))]) := by
  unfold yq
  push_cast [jq, hc]
 show (match yq [some (.int (n : Nat))] with | .ok (.rt d _) => R.ok d | .ok (.nx _) => .ok .non | _ => .bad) = _
 rw [e]
theorem zZ (ks : List Kd) (h : ∀ k ∈ ks, jM k) (hl : ks.length <= 12) (hne : 0 < ks.length) (room : Nat) : zj [.tup (ks.map kD), .int (room : Nat)] = .ok .non := by
 let U : Env := [some (.tup (ks.map kD)), some (.int (room : Nat))]
 have e : zh U = .ok (.nx U) := by
  unfold zh
  refine (ql (U' := U) (jh (qR rfl (jU _ (v3 (fun k hk => (h k hk).ok) hl))))).trans ?_
  refine (ql (U' := U) (jh (qR rfl (uh room)))).trans ?_
  exact jh (qR rfl (qV ks h hl hne))
 show (match zh U with | .ok (.rt d _) => R.ok d | .ok (.nx _) => .ok .non | _ => .bad) = _
 rw [e]
theorem qke {ks : List Kd} {m : Nat} : uC [.lst (tD ks m)] = some (.int (m : Nat)) := by
 show some (D.int ((tD ks m).length : Nat)) = _
 rw [qdL]
theorem uS (ks : List Kd) (h : ∀ k ∈ ks, jM k) (hne : 0 < ks.length) (room : Nat) : jt [kD (ld ks), .lst (tD ks (lo ks)), .int (room : Nat)] = .ok (.int (rd ks room : Nat)) := by
 have g1 := kn1 (zm h hne)
 have p1 := (zm h hne).1
 have p2 := (zm h hne).2.1
 unfold jt uA
 let U : Env := [some (kD (ld ks)), some (.lst (tD ks (lo ks))), some (.int (room : Nat))]
 refine uw rfl ⟨U, ?_⟩
 have el : qT uC (qb (dv 1) (ret [])) U = .ok (.int (lo ks : Nat), U) := y7 rfl qke
 unfold rd
 by_cases hc : room < lo ks
 ·have t : tst (d2 ltD (dv 2) (qT uC (qb (dv 1) (ret [])))) U = .ok (true, U) := zc (qi rfl el (by rw [vA, decide_eq_true (by omega)]))
  rw [if_pos hc]
  exact qbu ((qo5 t).trans rfl)
 ·have t : tst (d2 ltD (dv 2) (qT uC (qb (dv 1) (ret [])))) U = .ok (false, U) := zc (qi rfl el (by rw [vA, decide_eq_false (by omega)]))
  rw [if_neg hc]
  refine (ql (U' := U) ((qdy t).trans rfl)).trans (z6 ?_)
  refine qi (qi (qi rfl el (zX _ _)) (qi rfl rfl (yE _)) (vC (by omega) (by omega))) rfl ?_
  rw [qO]
  congr 2
  rw [Int.natCast_add, Int.natCast_ediv, g1, Int.ofNat_sub (by omega)]
  rfl
theorem qoI {ks : List Kd} {room : Nat} : rd ks room <= room + 1 := by
 unfold rd
 split
 ·omega
 ·have := Nat.div_le_self (room - lo ks) (kn (ld ks)).1
  omega
theorem qL (ks : List Kd) (h : ∀ k ∈ ks, jM k) (hl : ks.length <= 12) (hne : 0 < ks.length) (room : Nat) (hb : room <= 10 ^ 31) : qj [.tup (ks.map kD), .int (room : Nat)] = .ok (.int (W (Ns ks) room : Nat)) := by
 have g1 := kn1 (zm h hne)
 have g2 := kn2 (zm h hne)
 have gp := zm h hne
 obtain ⟨p1, p2, p3, p4, _⟩ := gp
 have hr := qoI (ks := ks) (room := room)
 obtain ⟨s, e1, s1, e2⟩ := qnK h hl hne room
 let T : Option D := some (.tup (ks.map kD))
 let A : Option D := some (.int (room : Nat))
 let B : Option D := some (.lst (tD ks (lo ks)))
 let C : Option D := some (kD (ld ks))
 let E : Option D := some (.int (rd ks room : Nat))
 let U : Env := [T, A, B, C, E]
 unfold qj uc
 refine uw rfl ⟨U, ?_⟩
 refine (ql (U' := [T, A, none, none, none]) (jh (zC rfl rfl (zZ ks h hl hne room)))).trans ?_
 refine (ql (U' := [T, A, B, none, none]) (zT (qR rfl (jd ks h hl hne)))).trans ?_
 refine (ql (U' := [T, A, B, C, none]) (zT (qR rfl (zJ ks h hl hne)))).trans ?_
 refine (ql (U' := U) (zT (qad rfl rfl rfl (uS ks h hne room)))).trans (z6 ?_)
 have m1 : d2 qf5 (dv 4) (d2 ixD (dv 3) (ret (.int 0))) U = .ok (.int ((rd ks room : Nat) * (ld ks).1), U) := qi rfl (qi rfl rfl (yE _)) (mw (by omega) (by omega))
 have m2 : d2 qf5 (dv 4) (d2 ixD (dv 3) (ret (.int 1))) U = .ok (.int ((rd ks room : Nat) * (ld ks).2.1), U) := qi rfl (qi rfl rfl (qaN _)) (mw (by omega) (by omega))
 have ei : ((room : Nat) : Int) - (rd ks room : Nat) * (ld ks).1 = ((s : Nat) : Int) := by
  rw [<- g1, <- Int.natCast_mul]
  omega
 refine qi (qi rfl (qi rfl m1 (zX _ _)) (by rw [ei]; exact qgd s1)) m2 ?_
 show qW (.int ((W (Ns ks) s : Nat) : Int)) _ = _
 rw [qO, <- g2, <- Int.natCast_mul, <- Int.natCast_add, e2]
def nD (n : Nat) : D := .int ((n : Nat) : Int)
def dot (f : Kn -> Nat) : List Kn -> List Nat -> Nat
 | k :: ks, n :: ns => n * f k + dot f ks ns
 | _, _ => 0
theorem qbF (f : Kn -> Nat) : ∀ (ks : List Kn) (L : List Nat) (q n a : Nat) (k : Kn), ks[q]? = some k -> L[q]? = some n -> dot f ks (L.set q (n + a)) = dot f ks L + a * f k
 | [], _, q, _, _, _, h1, _ => by simp at h1
 | _ :: _, [], q, _, _, _, _, h2 => by simp at h2
 | k' :: ks, m :: L, 0, n, a, k, h1, h2 => by
  simp only [List.getElem?_cons_zero, Option.some.injEq] at h1 h2
  subst h1; subst h2
  simp only [List.set_cons_zero, dot, Nat.add_mul]
  omega
 | k' :: ks, m :: L, q + 1, n, a, k, h1, h2 => by
  simp only [List.getElem?_cons_succ] at h1 h2
  have ih := qbF f ks L q n a k h1 h2
  simp only [List.set_cons_succ, dot]
  omega
theorem qcP (f : Kn -> Nat) : ∀ (ks : List Kn) (n : Nat), dot f ks (List.replicate n 0) = 0
 | [], 0 => rfl
 | [], _ + 1 => rfl
 | _ :: _, 0 => rfl
 | k :: ks, n + 1 => by
  rw [rS_]
  simp only [dot, qcP f ks n]
  omega
theorem qkf : ∀ (ks : List Kn) (L : List Nat), (∀ k ∈ ks, 1 <= k.1) -> L.length = ks.length -> ∀ n ∈ L, n <= dot (·.1) ks L
 | [], L, _, h, n, hn => by
  have : L = [] := List.length_eq_zero_iff.mp (by simpa using h)
  rw [this] at hn
  cases hn
 | k :: ks, [], _, _, n, hn => by cases hn
 | k :: ks, m :: L, hw, h, n, hn => by
  have h1 := hw k mS_
  have h2 : m * 1 <= m * k.1 := Nat.mul_le_mul_left _ h1
  show n <= m * k.1 + dot (·.1) ks L
  rcases List.mem_cons.mp hn with rfl | hn
  ·omega
  ·have := qkf ks L (fun x hx => hw x (mM _ hx)) (by simpa using h) n hn
   omega
def wA (ks : List Kd) (left : Nat) (k : Kd) : Bool := decide ((kn k).1 <= left) && decide (W (Ns ks) (left - (kn k).1) + (kn k).2 = W (Ns ks) left)
theorem qbG (ks : List Kd) (k : Kd) (hk : jM k) (left : Nat) (hlf : left < lo ks) : ji [kD k, .lst (tD ks (lo ks)), .int (left : Nat)] = .ok (.bl (wA ks left k)) := by
 have g1 := kn1 hk
 have g2 := kn2 hk
 unfold ji vO
 let U : Env := [some (kD k), some (.lst (tD ks (lo ks))), some (.int (left : Nat))]
 refine uw rfl ⟨U, z6 ?_⟩
 show qiu _ _ U = _
 rw [qg2, qi (f := d2 ixD (dv 0) (ret (.int 0))) (g := dv 2) (U := U) (qi rfl rfl (yE k)) rfl (qbt _ _)]
 unfold wA
 by_cases hc : (kn k).1 <= left
 ·have hc' : k.1 <= ((left : Nat) : Int) := by omega
  rw [decide_eq_true hc, decide_eq_true hc', Bool.true_and]
  show d2 eqB _ _ U = _
  have ei : ((left : Nat) : Int) - k.1 = ((left - (kn k).1 : Nat) : Int) := by omega
  refine qi (qi (qi rfl (qi rfl (qi rfl rfl (yE k)) (zX _ _)) (by rw [ei]; exact qgd (by omega))) (qi rfl rfl (qaN k)) (qO _ _)) (qi rfl rfl (qgd hlf)) ?_
  show eqB (.int (((W (Ns ks) (left - (kn k).1) : Nat) : Int) + k.2.1)) (.int ((W (Ns ks) left : Nat) : Int)) = _
  rw [wF, <- g2]
  congr 2
  rw [decide_eq_decide]
  omega
 ·have hc' : ¬ k.1 <= ((left : Nat) : Int) := by omega
  rw [decide_eq_false hc, decide_eq_false hc']
  rfl
theorem qnL (n : Nat) : imm (nD n) = true := rfl
theorem qer {i q : Nat} {kk f : M D} {U : Env} {L : List Nat} {v : Nat} (hf : f U = .ok (nD v, U)) (hg : z0 i U = some (L.map nD)) (hk : kk U = .ok (.int (q : Nat), U)) (hq : q < L.length) : qam i kk f U = .ok (.nx (U.set i (some (.lst ((L.set q v).map nD))))) := by
 have ex : ixN (L.map nD).length ((q : Nat) : Int) = some q := by
  unfold ixN
  rw [lM_]
  rw [if_pos (by omega), if_pos (by omega), Int.toNat_natCast]
 rw [qed, hf]
 simp only [hg, hk, ex, qnL, if_true]
 rw [List.map_set]
theorem qhW {i q n : Nat} {f : M D} {U : Env} {L : List Nat} (hg : z0 i U = some (L.map nD)) (hk : f U = .ok (.int (q : Nat), U)) (hn : L[q]? = some n) : qaL i f U = .ok (nD n, U) := by
 have e : atI (L.map nD) ((q : Nat) : Int) = some (nD n) := qaI (by rw [gM_, hn]; rfl)
 rw [qdl]
 simp only [hg, hk, e]
section
variable (ks : List Kd) (h : ∀ k ∈ ks, jM k) (hl : ks.length <= 12) (hne : 0 < ks.length) (T A : Option D) (hT : T = some (.tup (ks.map kD)))
include h hl hne hT
theorem qhX : ∀ (left : Nat) (L : List Nat) (o3 : Option D), left < lo ks -> L.length = ks.length -> ∃ n L' o3' left', yC (tst (d2 gtD (d2 ixD (dv 2) (dv 5)) (ret (.int 0)))) (qG (zP 3 (d2 ixD (zM 2 [2, 5] none (qcv (qb (dv 0) (ret []))) (wx 2 (qQ (qq 0) (qQ (qq 1) ww))) (tst (qh ji (qb (dv 1) (qb (dv 2) (qb (dv 3) (ret [])))))) (dv 0)) (ret (.int 0)))) (qG (qam 4 (dv 3) (d2 qW (qaL 4 (dv 3)) (ret (.int 1)))) (zP 5 (d2 vt (dv 5) (d2 ixD (d2 ixD (dv 0) (dv 3)) (ret (.int 0))))))) n [T, A, some (.lst (tD ks (lo ks))), o3, some (.lst (L.map nD)), some (.int (left : Nat))] = .ok (.nx [T, A, some (.lst (tD ks (lo ks))), o3', some (.lst (L'.map nD)), some (.int (left' : Nat))]) /\ L'.length = ks.length /\ dot (·.1) (Ns ks) L' + left' = dot (·.1) (Ns ks) L + left /\ dot (·.2) (Ns ks) L' = dot (·.2) (Ns ks) L + W (Ns ks) left := by
 have hw := qib h
 intro left
 induction left using Nat.strongRecOn with
 | _ left ih =>
  intro L o3 hlf hL
  let B : Option D := some (.lst (tD ks (lo ks)))
  let U : Env := [T, A, B, o3, some (.lst (L.map nD)), some (.int (left : Nat))]
  have et : d2 gtD (d2 ixD (dv 2) (dv 5)) (ret (.int 0)) U = .ok (.bl (decide (0 < W (Ns ks) left)), U) := qi (qi rfl rfl (qgd hlf)) rfl (by
   show gtD (.int ((W (Ns ks) left : Nat) : Int)) (.int 0) = _
   rw [yD]
   congr 2
   rw [decide_eq_decide]
   omega)
  by_cases h0 : 0 < W (Ns ks) left
  ·rw [decide_eq_true h0] at et
   have hex : ∃ q, q < ks.length /\ wA ks left (kAt ks q) = true := by
    rcases qo7 hw left with e | ⟨k, hk, h1, e⟩
    ·omega
    ·obtain ⟨x, hx, rfl⟩ := mP_.mp hk
     obtain ⟨q, hq, ex⟩ := List.getElem_of_mem hx
     refine ⟨q, hq, ?_⟩
     have : kAt ks q = x := by
      have := vF hq
      rw [gG hq, ex] at this
      exact (Option.some.inj this).symm
     rw [this]
     unfold wA
     rw [decide_eq_true h1, decide_eq_true e.symm]
     rfl
   obtain ⟨q, qs, hqs⟩ : ∃ q qs, (List.range ks.length).filter (fun i => wA ks left (kAt ks i)) = q :: qs := by
    obtain ⟨q, hq, e⟩ := hex
    have hm : q ∈ (List.range ks.length).filter (fun i => wA ks left (kAt ks i)) := List.mem_filter.mpr ⟨mR_.mpr hq, e⟩
    cases ec : (List.range ks.length).filter (fun i => wA ks left (kAt ks i)) with
    | nil => rw [ec] at hm; cases hm
    | cons a as => exact ⟨a, as, rfl⟩
   have hq0 : q ∈ (List.range ks.length).filter (fun i => wA ks left (kAt ks i)) := by rw [hqs]; exact mS_
   obtain ⟨hq1, hq2⟩ := List.mem_filter.mp hq0
   have hq : q < ks.length := mR_.mp hq1
   have gk := h _ (vG hq)
   have g1 := kn1 gk
   have g2 := kn2 gk
   have p1 := gk.1
   unfold wA at hq2
   rw [Bool.and_eq_true] at hq2
   have w1 : (kn (kAt ks q)).1 <= left := of_decide_eq_true hq2.1
   have w2 : W (Ns ks) (left - (kn (kAt ks q)).1) + (kn (kAt ks q)).2 = W (Ns ks) left := of_decide_eq_true hq2.2
   obtain ⟨m, hm⟩ : ∃ m, L[q]? = some m := ⟨_, gG (by omega)⟩
   have hN : (Ns ks)[q]? = some (kn (kAt ks q)) := by rw [gM_, vF hq]; rfl
   obtain ⟨n, L', o3', left', q1, q2, q3, q4⟩ := ih (left - (kn (kAt ks q)).1) (by omega) (L.set q (m + 1)) (some (.int (q : Nat))) (by omega) (by rw [lS_]; exact hL)
   have dd1 := qbF (·.1) (Ns ks) L q m 1 _ hN hm
   have dd2 := qbF (·.2) (Ns ks) L q m 1 _ hN hm
   refine ⟨n + 1, L', o3', left', ?_, q2, by omega, by omega⟩
   unfold yC
   have s : (qG (zP 3 (d2 ixD (zM 2 [2, 5] none (qcv (qb (dv 0) (ret []))) (wx 2 (qQ (qq 0) (qQ (qq 1) ww))) (tst (qh ji (qb (dv 1) (qb (dv 2) (qb (dv 3) (ret [])))))) (dv 0)) (ret (.int 0)))) (qG (qam 4 (dv 3) (d2 qW (qaL 4 (dv 3)) (ret (.int 1)))) (zP 5 (d2 vt (dv 5) (d2 ixD (d2 ixD (dv 0) (dv 3)) (ret (.int 0))))))) [T, A, some (.lst (tD ks (lo ks))), o3, some (.lst (L.map nD)), some (.int (left : Nat))] = .ok (.nx [T, A, some (.lst (tD ks (lo ks))), some (.int (q : Nat)), some (.lst ((L.set q (m + 1)).map nD)), some (.int ((left - (kn (kAt ks q)).1 : Nat) : Int))]) := by
    let U1 : Env := [T, A, B, some (.int (q : Nat)), some (.lst (L.map nD)), some (.int (left : Nat))]
    let U2 : Env := [T, A, B, some (.int (q : Nat)), some (.lst ((L.set q (m + 1)).map nD)), some (.int (left : Nat))]
    refine (ql (U' := U1) ?_).trans ((ql (U' := U2) ?_).trans ?_)
    ·have c := qhN (e := dv 0) (t := tst (qh ji (qb (dv 1) (qb (dv 2) (qb (dv 3) (ret [])))))) (xs := qcv (qb (dv 0) (ret []))) (fr := [2, 5]) (U := U) (r := [B, some (.int (left : Nat))]) (u := fun i : Nat => D.int (i : Nat)) (v := fun i => kD (kAt ks i)) (List.range ks.length) (fun i => wA ks left (kAt ks i)) (fun i => D.int (i : Nat)) (by
       rw [qcw, vE (a := .tup (ks.map kD)) (by rw [show U = [T, A, B, o3, some (.lst (L.map nD)), some (.int (left : Nat))] from rfl, hT]; rfl)]
       show R.ok (uv 0 (ks.map kD), U) = _
       rw [qnp]) rfl (by rw [lR_]; omega) (fun i hi => zc (qad rfl rfl rfl (qbG ks _ (h _ (vG (mR_.mp hi))) left hlf))) (fun i hi _ => rfl)
     rw [hqs] at c
     rw [zT (qi c rfl (d := .int (q : Nat)) (by
      show atI (D.int (q : Nat) :: _) ((0 : Nat) : Int) = _
      exact qaI rfl))]
     rfl
    ·rw [qer (L := L) (q := q) (v := m + 1) (U := U1) ?_ rfl rfl (by omega)]
     ·rfl
     ·exact qi (qhW (L := L) rfl rfl hm) rfl (by
       show qW (.int ((m : Nat) : Int)) (.int 1) = _
       rw [qO]; rfl)
    ·have e0 : dv 0 U2 = .ok (.tup (ks.map kD), U2) := by
      rw [show U2 = [T, A, B, some (.int (q : Nat)), some (.lst ((L.set q (m + 1)).map nD)), some (.int (left : Nat))] from rfl, hT]; rfl
     have ei : ((left : Nat) : Int) - (kAt ks q).1 = ((left - (kn (kAt ks q)).1 : Nat) : Int) := by omega
     rw [zT (qi rfl (qi (qi e0 rfl (qdB hq)) rfl (yE _)) (zX _ _)), ei]
     rfl
   have t : tst (d2 gtD (d2 ixD (dv 2) (dv 5)) (ret (.int 0))) [T, A, some (.lst (tD ks (lo ks))), o3, some (.lst (L.map nD)), some (.int (left : Nat))] = .ok (true, [T, A, some (.lst (tD ks (lo ks))), o3, some (.lst (L.map nD)), some (.int (left : Nat))]) := zc et
   simp only [t, s]
   exact q1
  ·have z : W (Ns ks) left = 0 := by omega
   rw [decide_eq_false h0] at et
   refine ⟨1, L, o3, left, ?_, hL, rfl, by omega⟩
   unfold yC
   have t : tst (d2 gtD (d2 ixD (dv 2) (dv 5)) (ret (.int 0))) [T, A, some (.lst (tD ks (lo ks))), o3, some (.lst (L.map nD)), some (.int (left : Nat))] = .ok (false, [T, A, some (.lst (tD ks (lo ks))), o3, some (.lst (L.map nD)), some (.int (left : Nat))]) := zc et
   simp only [t]
end
theorem qpL (n : Nat) : (List.replicate n [D.int 0]).flatten = (List.replicate n 0).map nD := by
 induction n with
 | zero => rfl
 | succ n ih => rw [rS_, List.flatten_cons, ih, rS_]; rfl
theorem qlB {f g : M D} {U : Env} {x y : D} {ds : List D} (hf : f U = .ok (x, U)) (hg : g U = .ok (y, U)) (e : qli x y = some ds) : qlU f g U = .ok (ds, U) := by
 rw [qm9, hf]
 simp only [hg, e]
theorem qnM (n : Nat) (hn : n <= 12) : qli (.lst [.int 0]) (.int (n : Nat)) = some ((List.replicate n 0).map nD) := by
 unfold qli
 have c0 : (2 : Int) ^ 62 = 4611686018427387904 := by decide
 have c1 : decide (-(2 ^ 62) <= ((n : Nat) : Int)) = true := decide_eq_true (by rw [c0]; omega)
 have c2 : decide (((n : Nat) : Int) < 2 ^ 62) = true := decide_eq_true (by rw [c0]; omega)
 have c3 : qZ ([D.int 0].length * ((n : Nat) : Int).toNat) = true := yB (by rw [Int.toNat_natCast]; simp only [lC_, lN_]; omega)
 have c4 : immL [D.int 0] = true := rfl
 simp only [c1, c2, c3, c4, Bool.and_self, if_true]
 rw [Int.toNat_natCast, qpL]
theorem qaB (ks : List Kd) (h : ∀ k ∈ ks, jM k) (hl : ks.length <= 12) (hne : 0 < ks.length) (room : Nat) (hb : room <= 10 ^ 31) : ∃ L : List Nat, yi [.tup (ks.map kD), .int (room : Nat)] = .ok (.tup (L.map nD)) /\ L.length = ks.length /\ dot (·.1) (Ns ks) L <= room /\ dot (·.2) (Ns ks) L = W (Ns ks) room := by
 have g1 := kn1 (zm h hne)
 obtain ⟨p1, p2, p3, p4, _⟩ := zm h hne
 obtain ⟨s, e1, s1, e2⟩ := qnK h hl hne room
 have hlt := wP hne
 let T : Option D := some (.tup (ks.map kD))
 let A : Option D := some (.int (room : Nat))
 let B : Option D := some (.lst (tD ks (lo ks)))
 let C : Option D := some (.int (v8 ks : Nat))
 let L0 : List Nat := List.replicate ks.length 0
 let L1 : List Nat := L0.set (v8 ks) (0 + rd ks room)
 have hm : L0[v8 ks]? = some 0 := by
  show (List.replicate ks.length 0)[v8 ks]? = _
  rw [List.getElem?_replicate, if_pos hlt]
 have hN : (Ns ks)[v8 ks]? = some (kn (ld ks)) := by rw [gM_, vF hlt]; rfl
 have dd1 := qbF (·.1) (Ns ks) L0 (v8 ks) 0 (rd ks room) _ hN hm
 have dd2 := qbF (·.2) (Ns ks) L0 (v8 ks) 0 (rd ks room) _ hN hm
 have z1 : dot (·.1) (Ns ks) L0 = 0 := qcP _ _ _
 have z2 : dot (·.2) (Ns ks) L0 = 0 := qcP _ _ _
 obtain ⟨n, L', o3', left', q1, q2, q3, q4⟩ := qhX ks h hl hne T A rfl s L1 C s1 (by simp [L1, L0])
 have f1 : dot (·.1) (Ns ks) L1 = rd ks room * (kn (ld ks)).1 := by
  show dot (·.1) (Ns ks) (L0.set (v8 ks) (0 + rd ks room)) = _
  omega
 have f2 : dot (·.2) (Ns ks) L1 = rd ks room * (kn (ld ks)).2 := by
  show dot (·.2) (Ns ks) (L0.set (v8 ks) (0 + rd ks room)) = _
  omega
 refine ⟨L', ?_, q2, by omega, by omega⟩
 unfold yi uB
 refine uw rfl ⟨[T, A, B, o3', some (.lst (L'.map nD)), some (.int (left' : Nat))], ?_⟩
 refine (ql (U' := [T, A, none, none, none, none]) (jh (zC rfl rfl (zZ ks h hl hne room)))).trans ?_
 refine (ql (U' := [T, A, B, none, none, none]) (zT (qR rfl (jd ks h hl hne)))).trans ?_
 refine (ql (U' := [T, A, B, C, none, none]) (zT (qR rfl (ug ks h hl hne)))).trans ?_
 refine (ql (U' := [T, A, B, C, some (.lst (L0.map nD)), none]) ?_).trans ?_
 ·have er := qnM ks.length hl
  have a1 : qcm (qb (ret (.int 0)) (ret [])) [T, A, B, C, none, none] = .ok (.lst [.int 0], [T, A, B, C, none, none]) := by push_cast [yB (show 1 <= 1000000 by omega)]
  have a2 : qT uC (qb (dv 0) (ret [])) [T, A, B, C, none, none] = .ok (.int (ks.length : Nat), [T, A, B, C, none, none]) := y7 rfl (by
   show some (D.int ((ks.map kD).length : Nat)) = _
   rw [lM_])
  have a3 : qlU (qcm (qb (ret (.int 0)) (ret []))) (qT uC (qb (dv 0) (ret []))) [T, A, B, C, none, none] = .ok (L0.map nD, [T, A, B, C, none, none]) := qlB a1 a2 er
  rw [qbn, a3]
  rfl
 refine (ql (U' := [T, A, B, C, some (.lst (L1.map nD)), none]) ?_).trans ?_
 ·rw [qer (L := L0) (q := v8 ks) (v := 0 + rd ks room) (U := [T, A, B, C, some (.lst (L0.map nD)), none]) ?_ rfl rfl (by simp [L0]; exact hlt)]
  ·rfl
  ·rw [Nat.zero_add]
   exact qad (qi rfl rfl (qdB hlt)) rfl rfl (uS ks h hne room)
 refine (ql (U' := [T, A, B, C, some (.lst (L1.map nD)), some (.int (s : Nat))]) ?_).trans ?_
 ·have hm1 : L1[v8 ks]? = some (rd ks room) := by
   show (L0.set (v8 ks) (0 + rd ks room))[v8 ks]? = _
   rw [List.getElem?_set_self (by simp [L0]; exact hlt), Nat.zero_add]
  have fw : jA (ld ks).1 = true := yM (by omega) (by omega)
  have ei : ((room : Nat) : Int) - (rd ks room : Nat) * (ld ks).1 = ((s : Nat) : Int) := by
   rw [<- g1, <- Int.natCast_mul]
   omega
  have e3 : d2 y2 (qaL 4 (dv 3)) (d2 ixD (d2 ixD (dv 0) (dv 3)) (ret (.int 0))) [T, A, B, C, some (.lst (L1.map nD)), none] = .ok (.int ((rd ks room : Nat) * (ld ks).1), [T, A, B, C, some (.lst (L1.map nD)), none]) := qi (qhW (L := L1) rfl rfl hm1) (qi (qi rfl rfl (qdB hlt)) rfl (yE _)) (qel fw)
  rw [zT (qi rfl e3 (zX _ _)), ei]
  rfl
 exact (ql (qdo q1 (by intro z; cases z))).trans rfl
def sD (s : Nat × Nat) : D := .tup [nD s.1, nD s.2]
def cD (b : Bool) (n : List Nat) : D := if b then .tup (n.map nD) else .lst (n.map nD)
theorem qhY (b : Bool) (n : List Nat) : uC [cD b n] = some (.int (n.length : Nat)) := by
 unfold cD
 cases b with
 | true => show some (D.int ((n.map nD).length : Nat)) = _; rw [lM_]
 | false => show some (D.int ((n.map nD).length : Nat)) = _; rw [lM_]
theorem qhZ {n : List Nat} {i : Nat} (h : i < n.length) : (n.map nD)[i]? = some (nD (n.getD i 0)) := by
 rw [gM_, List.getD_eq_getElem?_getD, gG h]
 rfl
theorem qlC (b : Bool) {n : List Nat} {i : Nat} (h : i < n.length) : ixD (cD b n) (.int (i : Nat)) = some (nD (n.getD i 0)) := by
 unfold cD
 cases b with
 | true => exact qaI (qhZ h)
 | false => exact qaI (qhZ h)
theorem qfx : ∀ (n : List Nat) (p : Nat), uv p (n.map nD) = (List.range n.length).map fun i => .tup [nD (p + i), nD (n.getD i 0)]
 | [], p => rfl
 | a :: n, p => by
  rw [mC_, uv, qfx n (p + 1), lC_, List.range_succ_eq_map, mC_, mm_]
  congr 1
  refine mL_ fun i _ => ?_
  show D.tup [nD (p + 1 + i), nD (n.getD i 0)] = D.tup [nD (p + (i + 1)), nD ((a :: n).getD (i + 1) 0)]
  rw [show p + 1 + i = p + (i + 1) by omega]
  rfl
theorem qfy {b : Bool} {n : List Nat} {g : M D} {U : Env} (h : g U = .ok (cD b n, U)) : qbs (qb g (ret [])) U = .ok ((List.range n.length).map fun i => .tup [nD i, nD (n.getD i 0)], U) := by
 have e := vE h
 have q := qfx n 0
 have q2 : ((List.range n.length).map fun i => D.tup [nD (0 + i), nD (n.getD i 0)]) = (List.range n.length).map fun i => .tup [nD i, nD (n.getD i 0)] := mL_ fun i _ => by rw [Nat.zero_add]
 rw [q2] at q
 unfold qbs
 cases b with
 | true =>
  have e : qb g (ret []) U = .ok ([.tup (n.map nD)], U) := e
  rw [e]
  show qcv (qb g (ret [])) U = _
  rw [qcw, e]
  show R.ok (uv 0 (n.map nD), U) = _
  rw [q]
 | false =>
  have e : qb g (ret []) U = .ok ([.lst (n.map nD)], U) := e
  rw [e]
  show qe4 (qb g (ret [])) U = _
  unfold qe4 bnd
  rw [e]
  show R.ok (uv 0 (n.map nD), U) = _
  rw [q]
theorem qes (a b : Nat) (h : 0 < b) : vp (nD a) (.int (b : Nat)) = some (.int ((a % b : Nat) : Int)) := by
 show vp (.int (a : Nat)) (.int (b : Nat)) = _
 rw [u4 (by omega), Int.natCast_emod]
theorem qcQ (a b : Nat) : qW (nD a) (nD b) = some (nD (a + b)) := by
 show qW (.int (a : Nat)) (.int (b : Nat)) = _
 rw [qO, <- Int.natCast_add]
 rfl
theorem qnN (a b : Nat) : gtD (nD a) (nD b) = some (.bl (decide (b < a))) := by
 show gtD (.int (a : Nat)) (.int (b : Nat)) = _
 rw [yD]
 congr 2
 rw [decide_eq_decide]
 omega
section
variable (b : Bool) (n : List Nat) (hn : 0 < n.length)
include hn
theorem qfz (S : Option D) (i : Nat) : ∀ (st : List (Nat × Nat)) (o4 o5 : Option D), ∃ U', yy (wx 2 (qQ (qq 4) (qQ (qq 5) ww))) (sif (tst (d2 gtD (d2 ixD (dv 0) (d2 vp (d2 qW (dv 2) (dv 4)) (qT uC (qb (dv 0) (ret []))))) (d2 qW (dv 3) (dv 5)))) (zK (ret (.bl false))) yA) (st.map sD) [some (cD b n), S, some (nD i), some (nD (n.getD i 0)), o4, o5] = (bif st.all fun s => decide (n.getD ((i + s.1) % n.length) 0 <= n.getD i 0 + s.2) then .ok (.nx U') else .ok (.rt (.bl false) U')) /\ ((st.all fun s => decide (n.getD ((i + s.1) % n.length) 0 <= n.getD i 0 + s.2)) = true -> ∃ p4 p5, U' = [some (cD b n), S, some (nD i), some (nD (n.getD i 0)), p4, p5])
 | [], o4, o5 => ⟨_, rfl, fun _ => ⟨o4, o5, rfl⟩⟩
 | s :: st, o4, o5 => by
  obtain ⟨U', q, qe⟩ := qfz S i st (some (nD s.1)) (some (nD s.2))
  let U : Env := [some (cD b n), S, some (nD i), some (nD (n.getD i 0)), some (nD s.1), some (nD s.2)]
  have c : tst (d2 gtD (d2 ixD (dv 0) (d2 vp (d2 qW (dv 2) (dv 4)) (qT uC (qb (dv 0) (ret []))))) (d2 qW (dv 3) (dv 5))) U = .ok (decide (n.getD i 0 + s.2 < n.getD ((i + s.1) % n.length) 0), U) := zc (qi (qi rfl (qi (qi rfl rfl (qcQ _ _)) (y7 rfl (qhY b n)) (qes _ _ hn)) (qlC b (Nat.mod_lt _ hn))) (qi rfl rfl (qcQ _ _)) (qnN _ _))
  rw [mC_]
  by_cases h : n.getD ((i + s.1) % n.length) 0 <= n.getD i 0 + s.2
  ·rw [decide_eq_false (by omega)] at c
   have e : (sif (tst (d2 gtD (d2 ixD (dv 0) (d2 vp (d2 qW (dv 2) (dv 4)) (qT uC (qb (dv 0) (ret []))))) (d2 qW (dv 3) (dv 5)))) (zK (ret (.bl false))) yA) U = .ok (.nx U) := by
    rw [qdy c]
    rfl
   refine ⟨U', ?_, fun ha => qe ?_⟩
   ·rw [uM rfl e, q, List.all_cons, decide_eq_true h, Bool.true_and]
   ·rw [List.all_cons, decide_eq_true h, Bool.true_and] at ha
    exact ha
  ·rw [decide_eq_true (by omega)] at c
   have e : (sif (tst (d2 gtD (d2 ixD (dv 0) (d2 vp (d2 qW (dv 2) (dv 4)) (qT uC (qb (dv 0) (ret []))))) (d2 qW (dv 3) (dv 5)))) (zK (ret (.bl false))) yA) U = .ok (.rt (.bl false) U) := by
    rw [qo5 c]
    rfl
   refine ⟨U, ?_, fun ha => ?_⟩
   ·rw [List.all_cons, decide_eq_false h, Bool.false_and]
    unfold yy
    have hg : wx 2 (qQ (qq 4) (qQ (qq 5) ww)) (sD s) [some (cD b n), S, some (nD i), some (nD (n.getD i 0)), o4, o5] = some U := rfl
    rw [hg]
    simp only [e]
    rfl
   ·rw [List.all_cons, decide_eq_false h, Bool.false_and] at ha
    cases ha
theorem qdO (st : List (Nat × Nat)) : ∀ (is : List Nat) (o2 o3 o4 o5 : Option D), ∃ U', yy (wx 2 (qQ (qq 2) (qQ (qq 3) ww))) (qbP (v9 (dv 1)) (wx 2 (qQ (qq 4) (qQ (qq 5) ww))) (sif (tst (d2 gtD (d2 ixD (dv 0) (d2 vp (d2 qW (dv 2) (dv 4)) (qT uC (qb (dv 0) (ret []))))) (d2 qW (dv 3) (dv 5)))) (zK (ret (.bl false))) yA)) (is.map fun i => .tup [nD i, nD (n.getD i 0)]) [some (cD b n), some (.lst (st.map sD)), o2, o3, o4, o5] = (bif is.all fun i => st.all fun s => decide (n.getD ((i + s.1) % n.length) 0 <= n.getD i 0 + s.2) then .ok (.nx U') else .ok (.rt (.bl false) U'))
 | [], o2, o3, o4, o5 => ⟨_, rfl⟩
 | i :: is, o2, o3, o4, o5 => by
  obtain ⟨U1, q1, e1⟩ := qfz b n hn (some (.lst (st.map sD))) i st o4 o5
  have hg : wx 2 (qQ (qq 2) (qQ (qq 3) ww)) (.tup [nD i, nD (n.getD i 0)]) [some (cD b n), some (.lst (st.map sD)), o2, o3, o4, o5] = some [some (cD b n), some (.lst (st.map sD)), some (nD i), some (nD (n.getD i 0)), o4, o5] := rfl
  have s : (qbP (v9 (dv 1)) (wx 2 (qQ (qq 4) (qQ (qq 5) ww))) (sif (tst (d2 gtD (d2 ixD (dv 0) (d2 vp (d2 qW (dv 2) (dv 4)) (qT uC (qb (dv 0) (ret []))))) (d2 qW (dv 3) (dv 5)))) (zK (ret (.bl false))) yA)) [some (cD b n), some (.lst (st.map sD)), some (nD i), some (nD (n.getD i 0)), o4, o5] = (bif st.all fun s => decide (n.getD ((i + s.1) % n.length) 0 <= n.getD i 0 + s.2) then .ok (.nx U1) else .ok (.rt (.bl false) U1)) := by
   rw [uJ]
   exact q1
  rw [mC_]
  cases ha : st.all fun s => decide (n.getD ((i + s.1) % n.length) 0 <= n.getD i 0 + s.2) with
  | true =>
   obtain ⟨p4, p5, rfl⟩ := e1 ha
   obtain ⟨U', q⟩ := qdO st is (some (nD i)) (some (nD (n.getD i 0))) p4 p5
   rw [ha] at s
   refine ⟨U', ?_⟩
   rw [uM hg s, q, List.all_cons, ha, Bool.true_and]
  | false =>
   rw [ha] at s
   refine ⟨U1, ?_⟩
   rw [List.all_cons, ha, Bool.false_and]
   have s : (qbP (v9 (dv 1)) (wx 2 (qQ (qq 4) (qQ (qq 5) ww))) (sif (tst (d2 gtD (d2 ixD (dv 0) (d2 vp (d2 qW (dv 2) (dv 4)) (qT uC (qb (dv 0) (ret []))))) (d2 qW (dv 3) (dv 5)))) (zK (ret (.bl false))) yA)) [some (cD b n), some (.lst (st.map sD)), some (nD i), some (nD (n.getD i 0)), o4, o5] = .ok (.rt (.bl false) U1) := s
   unfold yy
   rw [hg]
   simp only [s]
   rfl
theorem yG (st : List (Nat × Nat)) : zY [cD b n, .lst (st.map sD)] = .ok (.bl (yJ st n)) := by
 obtain ⟨U', q⟩ := qdO b n hn st (List.range n.length) none none none none
 let U : Env := [some (cD b n), some (.lst (st.map sD)), none, none, none, none]
 have s : (qbP (qbs (qb (dv 0) (ret []))) (wx 2 (qQ (qq 2) (qQ (qq 3) ww))) (qbP (v9 (dv 1)) (wx 2 (qQ (qq 4) (qQ (qq 5) ww))) (sif (tst (d2 gtD (d2 ixD (dv 0) (d2 vp (d2 qW (dv 2) (dv 4)) (qT uC (qb (dv 0) (ret []))))) (d2 qW (dv 3) (dv 5)))) (zK (ret (.bl false))) yA))) U = (bif yJ st n then .ok (.nx U') else .ok (.rt (.bl false) U')) := by
  rw [uJ, qfy (g := dv 0) (b := b) (n := n) rfl]
  exact q
 unfold zY vc
 cases hk : yJ st n with
 | true =>
  rw [hk] at s
  exact uw rfl ⟨U', (ql s).trans rfl⟩
 | false =>
  rw [hk] at s
  exact uw rfl ⟨U', qbu s⟩
end
theorem qjn (n : List Nat) : immL (n.map nD) = true := qfd fun _ _ => rfl
theorem qlD (a b : Nat) : qbe [nD a, nD b] = some (nD (min a b)) := by
 show qbe [.int (a : Nat), .int (b : Nat)] = _
 rw [qi8]
 unfold nD
 congr 2
 split <;> omega
theorem qkg (n : List Nat) (hn : 0 < n.length) (S : Option D) (i : Nat) : ∀ (st : List (Nat × Nat)) (L : List Nat) (o5 o6 o7 : Option D), L.length = n.length -> ∃ p5 p6 p7, yy (wx 2 (qQ (qq 5) (qQ (qq 6) ww))) (qG (zP 7 (d2 vp (d2 qW (dv 3) (dv 5)) (qT uC (qb (dv 0) (ret []))))) (qam 2 (dv 7) (qT qbe (qb (qaL 2 (dv 7)) (qb (d2 qW (dv 4) (dv 6)) (ret [])))))) (st.map sD) [some (.lst (n.map nD)), S, some (.lst (L.map nD)), some (nD i), some (nD (n.getD i 0)), o5, o6, o7] = .ok (.nx [some (.lst (n.map nD)), S, some (.lst (((st.map fun s => ((i + s.1) % n.length, n.getD i 0 + s.2)).foldl qdX L).map nD)), some (nD i), some (nD (n.getD i 0)), p5, p6, p7])
 | [], L, o5, o6, o7, _ => ⟨o5, o6, o7, rfl⟩
 | s :: st, L, o5, o6, o7, hL => by
  let to := (i + s.1) % n.length
  have ht : to < L.length := by rw [hL]; exact Nat.mod_lt _ hn
  obtain ⟨p5, p6, p7, q⟩ := qkg n hn S i st (qdX L (to, n.getD i 0 + s.2)) (some (nD s.1)) (some (nD s.2)) (some (.int (to : Nat))) (by rw [qcH]; exact hL)
  refine ⟨p5, p6, p7, ?_⟩
  let N : Option D := some (.lst (n.map nD))
  let Ld : Option D := some (.lst (L.map nD))
  let I : Option D := some (nD i)
  let X : Option D := some (nD (n.getD i 0))
  let U1 : Env := [N, S, Ld, I, X, some (nD s.1), some (nD s.2), some (.int (to : Nat))]
  have e : (qG (zP 7 (d2 vp (d2 qW (dv 3) (dv 5)) (qT uC (qb (dv 0) (ret []))))) (qam 2 (dv 7) (qT qbe (qb (qaL 2 (dv 7)) (qb (d2 qW (dv 4) (dv 6)) (ret [])))))) [N, S, Ld, I, X, some (nD s.1), some (nD s.2), o7] = .ok (.nx [N, S, some (.lst ((qdX L (to, n.getD i 0 + s.2)).map nD)), I, X, some (nD s.1), some (nD s.2), some (.int (to : Nat))]) := by
   refine (ql (U' := U1) ?_).trans ?_
   ·rw [zT (qi (qi rfl rfl (qcQ _ _)) (y7 (a := cD false n) rfl (qhY false n)) (qes _ _ hn))]
    rfl
   ·have hm : L[to]? = some (L.getD to 0) := by rw [List.getD_eq_getElem?_getD, gG ht]; rfl
    rw [qer (L := L) (q := to) (v := min (L.getD to 0) (n.getD i 0 + s.2)) (U := U1) (qnr (qhW (L := L) rfl rfl hm) (qi rfl rfl (qcQ _ _)) (qlD _ _)) rfl rfl ht]
    rfl
  rw [mC_, uM rfl e, q]
  rfl
theorem qdP {α β γ : Type} (f : γ -> β -> γ) (g : α -> List β) : ∀ (l : List α) (c : γ), (l.flatMap g).foldl f c = l.foldl (fun c a => (g a).foldl f c) c
 | [], c => rfl
 | a :: l, c => by rw [List.flatMap_cons, List.foldl_append, qdP f g l, fo_]
theorem qdQ (n : List Nat) (hn : 0 < n.length) (hl : n.length <= 1000) (st : List (Nat × Nat)) : uR [.lst (n.map nD), .lst (st.map sD)] = .ok (.lst ((qfl st n).map nD)) := by
 let N : Option D := some (.lst (n.map nD))
 let S : Option D := some (.lst (st.map sD))
 obtain ⟨U', q, hL, p3, p4, p5, p6, p7, rfl⟩ := qbv (G := wx 2 (qQ (qq 3) (qQ (qq 4) ww))) (b := (qbP (v9 (dv 1)) (wx 2 (qQ (qq 5) (qQ (qq 6) ww))) (qG (zP 7 (d2 vp (d2 qW (dv 3) (dv 5)) (qT uC (qb (dv 0) (ret []))))) (qam 2 (dv 7) (qT qbe (qb (qaL 2 (dv 7)) (qb (d2 qW (dv 4) (dv 6)) (ret [])))))))) (k := fun i => D.tup [nD i, nD (n.getD i 0)]) (step := fun (L : List Nat) i => (st.map fun s => ((i + s.1) % n.length, n.getD i 0 + s.2)).foldl qdX L) (Inv := fun _ L U => L.length = n.length /\ ∃ p3 p4 p5 p6 p7, U = [N, S, some (.lst (L.map nD)), p3, p4, p5, p6, p7]) (List.range n.length) 0 n [N, S, some (.lst (n.map nD)), none, none, none, none, none] ⟨rfl, none, none, none, none, none, rfl⟩ (fun i hi m L U _ _ => by
  rintro ⟨hL, p3, p4, p5, p6, p7, rfl⟩
  obtain ⟨q5, q6, q7, q⟩ := qkg n hn S i st L p5 p6 p7 hL
  refine ⟨[N, S, some (.lst (L.map nD)), some (nD i), some (nD (n.getD i 0)), p5, p6, p7], _, rfl, ?_, by rw [qaX]; exact hL, some (nD i), some (nD (n.getD i 0)), q5, q6, q7, rfl⟩
  rw [uJ]
  exact q)
 have e : (List.range n.length).foldl (fun (L : List Nat) i => (st.map fun s => ((i + s.1) % n.length, n.getD i 0 + s.2)).foldl qdX L) n = qfl st n := by
  unfold qfl qlV
  rw [qdP]
 rw [e] at q
 unfold uR qbB
 refine uw rfl ⟨[N, S, some (.lst ((qfl st n).map nD)), p3, p4, p5, p6, p7], ?_⟩
 refine (ql (U' := [N, S, some (.lst (n.map nD)), none, none, none, none, none]) ?_).trans ?_
 ·have c : qlj (dv 0) [N, S, none, none, none, none, none, none] = .ok (n.map nD, [N, S, none, none, none, none, none, none]) := by
   show lift (if immL (n.map nD) then some (n.map nD) else none) [N, S, none, none, none, none, none, none] = _
   rw [qjn]
   rfl
  show qan 2 _ [N, S, none, none, none, none, none, none] = _
  rw [qbn, c]
  rfl
 refine (ql (U' := [N, S, some (.lst ((qfl st n).map nD)), p3, p4, p5, p6, p7]) ?_).trans rfl
 rw [uJ, qfy (g := dv 0) (b := false) (n := n) rfl]
 exact q
section
variable (ks : List Kd) (h : ∀ k ∈ ks, jM k) (hl : ks.length <= 12) (hne : 0 < ks.length)
include h hl hne
theorem qh0 {k : Kd} (hk : k ∈ ks) : qdF [kD k, kD (ld ks)] = .ok (nD ((kn k).1 * (kn (ld ks)).2 - (kn k).2 * (kn (ld ks)).1)) := by
 have gk := h k hk
 have gl := zm h hne
 have hm : (kn k).2 * (kn (ld ks)).1 <= (kn (ld ks)).2 * (kn k).1 := (qaY h hl hne).2 (kn k) (mP_.mpr ⟨k, hk, rfl⟩)
 have e : k.1 * (ld ks).2.1 - k.2.1 * (ld ks).1 = (((kn k).1 * (kn (ld ks)).2 - (kn k).2 * (kn (ld ks)).1 : Nat) : Int) := by
  rw [<- kn1 gk, <- kn2 gk, <- kn1 gl, <- kn2 gl, <- Int.natCast_mul, <- Int.natCast_mul]
  rw [Nat.mul_comm (kn (ld ks)).2] at hm
  omega
 unfold qdF qhR
 refine uw rfl ⟨[some (kD k), some (kD (ld ks))], z6 ?_⟩
 unfold nD
 rw [<- e]
 exact qi (qi (qi rfl rfl (yE _)) (qi rfl rfl (qaN _)) (qcE (yM (by have := gk.1; omega) (by have := gk.2.1; omega)))) (qi (qi rfl rfl (qaN _)) (qi rfl rfl (yE _)) (qel (yM (by have := gl.1; omega) (by have := gl.2.1; omega)))) (zX _ _)
def stL (ks : List Kd) : List (Nat × Nat) := stN (kn (ld ks)) (Ns ks)
theorem wB : ud [.tup (ks.map kD)] = .ok (.lst ((stL ks).map sD)) := by
 let T : Option D := some (.tup (ks.map kD))
 let U : Env := [T, some (kD (ld ks))]
 have gl := zm h hne
 unfold ud wO
 refine uw rfl ⟨U, (ql (U' := U) ?_).trans (z6 ?_)⟩
 ·show zP 1 _ [T, none] = _
  rw [zT (qR rfl (zJ ks h hl hne))]
  rfl
 ·have c : (zM 1 [1] none (v9 (dv 0)) (qq 0) (ret true) (qa8 (qb (d2 ixD (dv 0) (ret (.int 0))) (qb (qh qdF (qb (dv 0) (qb (dv 1) (ret [])))) (ret []))))) U = .ok (.lst (ks.map fun k => sD ((kn k).1, (kn k).1 * (kn (ld ks)).2 - (kn k).2 * (kn (ld ks)).1)), U) := by
   refine qaH (r := [some (kD (ld ks))]) (k := kD) ks _ rfl rfl (by omega) fun k hk => ?_
   have e : D.int k.1 = nD (kn k).1 := by unfold nD; rw [kn1 (h k hk)]
   rw [qoH (qi rfl rfl (yE k)) (zC rfl rfl (qh0 ks h hl hne hk)), e]
   rfl
  have c1 : qcm (qb (qa8 (qb (ret (.int 1)) (qb (d2 ixD (dv 1) (ret (.int 1))) (ret [])))) (ret [])) U = .ok (.lst [sD (1, (kn (ld ks)).2)], U) := by
   have e : D.int (ld ks).2.1 = nD (kn (ld ks)).2 := by unfold nD; rw [kn2 gl]
   rw [qg1, vE (qoH rfl (qi rfl rfl (qaN _))), e]
   simp only [lC_, lN_, Nat.zero_add, yB (show 1 <= 1000000 by omega), if_true]
   rfl
  refine qi c1 c ?_
  rw [qi6 (by rw [lM_, lC_, lN_]; omega)]
  unfold stL stN Ns
  rw [mC_, mm_, mm_]
  rfl
end
theorem qpM {t : M Bool} {b : MS} {n : Nat} {U U1 U2 : Env} (h : t U = .ok (true, U1)) (hb : b U1 = .ok (.nx U2)) : yC t b (n + 1) U = yC t b n U2 := by
 show (match t U with | .ok (true, U1) => (match b U1 with | .ok (.nx U2) => yC t b n U2 | .ok (.ct U2) => yC t b n U2 | .ok (.bk U2) => .ok (.nx U2) | .ok (.rt d U2) => .ok (.rt d U2) | .exc x U2 => .exc x U2 | .bad => .bad) | .ok (false, U1) => .ok (.nx U1) | .exc x U1 => .exc x U1 | .bad => .bad) = _
 simp only [h, hb]
theorem qpa {t : M Bool} {b : MS} {n : Nat} {U U1 : Env} (h : t U = .ok (false, U1)) : yC t b (n + 1) U = .ok (.nx U1) := by
 show (match t U with | .ok (true, U1) => (match b U1 with | .ok (.nx U2) => yC t b n U2 | .ok (.ct U2) => yC t b n U2 | .ok (.bk U2) => .ok (.nx U2) | .ok (.rt d U2) => .ok (.rt d U2) | .exc x U2 => .exc x U2 | .bad => .bad) | .ok (false, U1) => .ok (.nx U1) | .exc x U1 => .exc x U1 | .bad => .bad) = _
 simp only [h]
theorem wQ {t : M Bool} {U : Env} {b : Bool} (h : t U = .ok (b, U)) : qbb t U = .ok (!b, U) := by rw [qeV, h]
section
variable (ks : List Kd) (h : ∀ k ∈ ks, jM k) (hl : ks.length <= 12) (hne : 0 < ks.length)
include h hl hne
theorem w20 : 1 <= (kn (ld ks)).1 /\ (kn (ld ks)).1 <= 20 := by
 have gl := zm h hne
 have e := kn1 gl
 have h1 := gl.1
 have h2 := gl.2.1
 omega
theorem qh1 (T Fk : Option D) : ∀ (m : Nat) (n : List Nat), n.sum <= m -> okP (Ns ks) (kn (ld ks)) n -> ∃ fuel n', yC (qbb (tst (qh zY (qb (dv 3) (qb (dv 2) (ret [])))))) (zP 3 (qh uR (qb (dv 3) (qb (dv 2) (ret []))))) fuel [T, Fk, some (.lst ((stL ks).map sD)), some (.lst (n.map nD))] = .ok (.nx [T, Fk, some (.lst ((stL ks).map sD)), some (.lst (n'.map nD))]) /\ okP (Ns ks) (kn (ld ks)) n' /\ yJ (stL ks) n' = true := fun m => by
 have hw := w20 ks h hl hne
 induction m with
 | zero =>
  intro n hs ok
  have hn : 0 < n.length := by rw [ok.len]; omega
  cases hk : yJ (stL ks) n with
  | true =>
   have c : qbb (tst (qh zY (qb (dv 3) (qb (dv 2) (ret []))))) [T, Fk, some (.lst ((stL ks).map sD)), some (.lst (n.map nD))] = .ok (false, [T, Fk, some (.lst ((stL ks).map sD)), some (.lst (n.map nD))]) := by
    have := wQ (zc (zC (U := [T, Fk, some (.lst ((stL ks).map sD)), some (.lst (n.map nD))]) (f := dv 3) (g := dv 2) rfl rfl (yG false n hn (stL ks))))
    rw [hk] at this
    exact this
   exact ⟨1, n, qpa c, ok, hk⟩
  | false =>
   have := qka hk
   omega
 | succ m ih =>
  intro n hs ok
  have hn : 0 < n.length := by rw [ok.len]; omega
  have ct := wQ (zc (zC (U := [T, Fk, some (.lst ((stL ks).map sD)), some (.lst (n.map nD))]) (f := dv 3) (g := dv 2) rfl rfl (yG false n hn (stL ks))))
  cases hk : yJ (stL ks) n with
  | true =>
   rw [hk] at ct
   exact ⟨1, n, qpa ct, ok, hk⟩
  | false =>
   rw [hk] at ct
   have lt := qka hk
   obtain ⟨fuel, n', q, ok', hk'⟩ := ih (qfl (stL ks) n) (by omega) (ok.low (qaY h hl hne))
   have s1 : zP 3 (qh uR (qb (dv 3) (qb (dv 2) (ret [])))) [T, Fk, some (.lst ((stL ks).map sD)), some (.lst (n.map nD))] = .ok (.nx [T, Fk, some (.lst ((stL ks).map sD)), some (.lst ((qfl (stL ks) n).map nD))]) := by
    rw [zT (zC rfl rfl (qdQ n hn (by rw [ok.len]; omega) (stL ks)))]
    rfl
   exact ⟨fuel + 1, n', (qpM ct s1).trans q, ok', hk'⟩
theorem qbH : ∃ n, okP (Ns ks) (kn (ld ks)) n /\ yJ (stL ks) n = true /\ yw [.tup (ks.map kD)] = .ok (cD true n) := by
 let T : Option D := some (.tup (ks.map kD))
 let Fk : Option D := some (kD (ld ks))
 let St : Option D := some (.lst ((stL ks).map sD))
 have hw := w20 ks h hl hne
 have gl := zm h hne
 have g1 := kn1 gl
 have g2 := kn2 gl
 let n0 := (List.range (kn (ld ks)).1).map fun i => i * (kn (ld ks)).2
 obtain ⟨fuel, n, q, ok, hk⟩ := qh1 ks h hl hne T Fk n0.sum n0 (Nat.le_refl _) (okP.start hw.1)
 refine ⟨n, ok, hk, ?_⟩
 unfold yw vP
 refine uw rfl ⟨[T, Fk, St, some (.lst (n.map nD))], ?_⟩
 refine (ql (U' := [T, none, none, none]) (jh (qR rfl (qV ks h hl hne)))).trans ?_
 refine (ql (U' := [T, Fk, none, none]) (zT (qR rfl (zJ ks h hl hne)))).trans ?_
 refine (ql (U' := [T, Fk, St, none]) (zT (qR rfl (wB ks h hl hne)))).trans ?_
 refine (ql (U' := [T, Fk, St, some (.lst (n0.map nD))]) ?_).trans ?_
 ·have c : (zM 1 [1] none (uF (qb (d2 ixD (dv 1) (ret (.int 0))) (ret []))) (qq 0) (ret true) (d2 y2 (dv 0) (d2 ixD (dv 1) (ret (.int 1))))) [T, Fk, St, none] = .ok (.lst ((List.range (kn (ld ks)).1).map fun i => nD (i * (kn (ld ks)).2)), [T, Fk, St, none]) := by
   refine qaH (r := [Fk]) (k := fun i : Nat => D.int (i : Nat)) (List.range (kn (ld ks)).1) _ ?_ rfl (by rw [lR_]; omega) fun i hi => ?_
   ·rw [um (j := ((kn (ld ks)).1 : Nat)) (U1 := [T, Fk, St, none]) (vE (qi rfl rfl (by rw [g1]; exact yE _))) (by omega) (by omega), Int.toNat_natCast, qnX]
   ·have hi := mR_.mp hi
    have e : nD (i * (kn (ld ks)).2) = .int ((i : Nat) * (ld ks).2.1) := by unfold nD; rw [Int.natCast_mul, g2]
    rw [e]
    exact qi rfl (qi rfl rfl (qaN _)) (qcE (yM (by omega) (by omega)))
  rw [show ((List.range (kn (ld ks)).1).map fun i => nD (i * (kn (ld ks)).2)) = n0.map nD by show _ = ((List.range (kn (ld ks)).1).map fun i => i * (kn (ld ks)).2).map nD; rw [mm_]; rfl] at c
  exact zT c
 exact (ql (qdo q (by intro z; cases z))).trans (z6 (y7 rfl rfl))
variable {n : List Nat} (ok : okP (Ns ks) (kn (ld ks)) n) (hk : yJ (stL ks) n = true)
include ok hk
theorem qah : jT [cD true n, .tup (ks.map kD)] = .ok (.bl true) := by
 have hw := w20 ks h hl hne
 have hn : 0 < n.length := by rw [ok.len]; omega
 have g1 := kn1 (zm h hne)
 let U : Env := [some (cD true n), some (.tup (ks.map kD))]
 unfold jT ue
 refine uw rfl ⟨U, (ql (U' := U) ?_).trans ((ql (U' := U) ?_).trans (z6 ?_))⟩
 ·refine qdy (qnq rfl (zc (qi (y7 rfl (qhY true n)) (qi (qR rfl (zJ ks h hl hne)) rfl (yE _)) ?_)))
  show neB (.int (n.length : Nat)) (.int (ld ks).1) = _
  rw [vz, ok.len, g1, decide_eq_true rfl]
  rfl
 ·have c : zM 1 [] none (v9 (dv 0)) (qq 0) (ret true) (qh ja (qb (dv 0) (ret []))) U = .ok (.lst (n.map fun _ => D.bl true), U) := by
   refine qaH (r := []) (k := nD) n (fun _ => D.bl true) rfl rfl (by rw [ok.len]; omega) fun x _ => qR rfl ?_
   rw [jq]
   have : jQ (nD x) = true := by
    show decide (0 <= ((x : Nat) : Int)) = true
    exact decide_eq_true (by omega)
   rw [this]
  have a : qeP [.lst (n.map fun _ => D.bl true)] = some (.bl true) := by
   rw [qfe (f := fun _ => true)]
   congr 2
   exact List.all_eq_true.mpr fun _ _ => rfl
  refine qdy (qnq (wQ (b := true) (zc (y7 c a))) (zc (qi (qi rfl rfl (qlC true (i := 0) hn)) rfl ?_)))
  show neB (.int ((n.getD 0 0 : Nat) : Int)) (.int 0) = _
  rw [ok.fst]
  rfl
 ·rw [<- hk]
  exact zC rfl (qR rfl (wB ks h hl hne)) (yG true n hn (stL ks))
theorem qbI (room : Nat) (hb : room <= 10 ^ 31) : uq [cD true n, .tup (ks.map kD), .int (room : Nat)] = .ok (.int (qkb (kn (ld ks)) n room)) := by
 have hw := w20 ks h hl hne
 have gl := zm h hne
 have g1 := kn1 gl
 have g2 := kn2 gl
 obtain ⟨p1, p2, p3, p4, _⟩ := gl
 let P : Option D := some (cD true n)
 let T : Option D := some (.tup (ks.map kD))
 let A : Option D := some (.int (room : Nat))
 let U : Env := [P, T, A, some (kD (ld ks))]
 unfold uq vN
 refine uw rfl ⟨U, ?_⟩
 refine (ql (U' := [P, T, A, none]) (jh (zC rfl rfl (zZ ks h hl hne room)))).trans ?_
 refine (ql (U' := [P, T, A, none]) (qdy (wQ (b := true) (zc (zC rfl rfl (qah ks h hl hne ok hk)))))).trans ?_
 refine (ql (U' := U) (zT (qR rfl (zJ ks h hl hne)))).trans (z6 ?_)
 have m1 : d2 qf5 (dv 2) (d2 ixD (dv 3) (ret (.int 1))) U = .ok (.int ((room : Nat) * (ld ks).2.1), U) := qi rfl (qi rfl rfl (qaN _)) (mw (by omega) (by omega))
 have m2 : d2 vp (dv 2) (d2 ixD (dv 3) (ret (.int 0))) U = .ok (.int ((room % (kn (ld ks)).1 : Nat) : Int), U) := qi rfl (qi rfl rfl (yE _)) (by rw [<- g1]; exact qes room _ (by omega))
 have m3 : d2 ixD (dv 0) (d2 vp (dv 2) (d2 ixD (dv 3) (ret (.int 0)))) U = .ok (nD (n.getD (room % (kn (ld ks)).1) 0), U) := qi rfl m2 (qlC true (by rw [ok.len]; exact Nat.mod_lt _ (by omega)))
 unfold qkb
 refine qi (qi m1 m3 (zX _ _)) (qi rfl rfl (yE _)) ?_
 rw [vC (by omega) (by omega), g1, g2]
end
theorem qkh : ∀ (ks : List Kd) (L : List Nat), qaT (ks.map kD) (L.map nD) = (ks.zip L).map fun a => .tup [kD a.1, nD a.2]
 | [], L => by cases L <;> rfl
 | k :: ks, [] => rfl
 | k :: ks, m :: L => by
  have := qkh ks L
  simp only [mC_, qaT, List.zip_cons_cons, this]
theorem qfA (f : Kd -> Int) (g : Kn -> Nat) : ∀ (ks : List Kd) (L : List Nat), (∀ k ∈ ks, ((g (kn k) : Nat) : Int) = f k) -> ((ks.zip L).map fun a => f a.1 * ((a.2 : Nat) : Int)).sum = ((dot g (Ns ks) L : Nat) : Int)
 | [], [], _ => rfl
 | [], _ :: _, _ => rfl
 | _ :: _, [], _ => rfl
 | k :: ks, m :: L, h => by
  have e := qfA f g ks L fun x hx => h x (mM _ hx)
  have e1 := h k mS_
  simp only [List.zip_cons_cons, mC_, List.sum_cons, e]
  show _ = ((m * g (kn k) + dot g (Ns ks) L : Nat) : Int)
  rw [Int.natCast_add, Int.natCast_mul, e1, Int.mul_comm]
theorem ui (ks : List Kd) (hl : ks.length <= 12) (L : List Nat) (hb : ∀ n ∈ L, n <= 10 ^ 31) (c : Int) (f : Kd -> Int) (g : Kn -> Nat) (hg : ∀ k ∈ ks, ((g (kn k) : Nat) : Int) = f k) (hf : ∀ k ∈ ks, (f k).natAbs <= 10 ^ 40) (hx : ∀ k, ixD (kD k) (.int c) = some (.int (f k))) : z7 [.tup (ks.map kD), .tup (L.map nD), .int c] = .ok (.int (dot g (Ns ks) L : Nat)) := by
 let U : Env := [some (.tup (ks.map kD)), some (.tup (L.map nD)), some (.int c)]
 unfold z7 yF
 refine uw rfl ⟨U, z6 ?_⟩
 have c1 := qhN (e := d2 qf5 (d2 ixD (dv 0) (dv 2)) (dv 1)) (t := ret true) (xs := qlS (qb (dv 0) (qb (dv 1) (ret [])))) (fr := [2]) (U := U) (r := [some (.int c)]) (u := fun a : Kd × Nat => kD a.1) (v := fun a => nD a.2) (ks.zip L) (fun _ => true) (fun a => D.int (f a.1 * ((a.2 : Nat) : Int))) (by
  rw [qeX, qf9 (a := .tup (ks.map kD)) (b := .tup (L.map nD)) rfl rfl]
  simp only [qlR, qkh]) rfl (by rw [List.length_zip]; omega) (fun _ _ => rfl) (fun a ha _ => by
   have h1 := hb _ (List.of_mem_zip ha).2
   have h2 := hf _ (List.of_mem_zip ha).1
   exact qi (qi rfl rfl (hx _)) rfl (mw h2 (by omega)))
 rw [u5] at c1
 refine y7 c1 ?_
 rw [qjc, qfA f g ks L hg]
theorem qh2 : ∀ (ks : List Kd) (L : List Nat), (∀ k ∈ ks, jM k) -> u3 (ks.map kD) (L.map nD) = true
 | [], L, _ => by cases L <;> rfl
 | k :: ks, [], _ => rfl
 | k :: ks, m :: L, h => by
  have gk := h k mS_
  have e : qf8 (kD k) (nD m) = true := by
   show (decide (0 <= ((m : Nat) : Int)) && (ul (mD k.2.2) || leI (nD m) (mD k.2.2))) = true
   rw [gk.2.2.2.2, decide_eq_true (by omega)]
   rfl
  rw [mC_, mC_, u3, e, qh2 ks L fun x hx => h x (mM _ hx)]
  rfl
section
variable (ks : List Kd) (h : ∀ k ∈ ks, jM k) (hl : ks.length <= 12) (L : List Nat) (hL : L.length = ks.length) (hb : ∀ n ∈ L, n <= 10 ^ 31)
include h hl hL hb
theorem wC : vd [.tup (ks.map kD), .tup (L.map nD)] = .ok .non := by
 have hs := v3 (fun k hk => (h k hk).ok) hl
 have il : qfa (.tup (L.map nD)) (.tup (ks.map kD)) = true := by
  show (decide ((L.map nD).length = (ks.map kD).length) && u3 (ks.map kD) (L.map nD)) = true
  rw [lM_, lM_, decide_eq_true hL, qh2 ks L h]
  rfl
 let U : Env := [some (.tup (ks.map kD)), some (.tup (L.map nD))]
 have e : uf U = .ok (.nx U) := by
  unfold uf
  have c := zC (U := U) (f := dv 1) (g := dv 0) rfl rfl (qdH (.tup (L.map nD)) (.tup (ks.map kD)) hs)
  rw [il] at c
  exact qdy (wQ (b := true) (zc c))
 show (match uf U with | .ok (.rt d _) => R.ok d | .ok (.nx _) => .ok .non | _ => .bad) = _
 rw [e]
theorem qh3 (room : Nat) : qfo [.tup (ks.map kD), .tup (L.map nD), .int (room : Nat)] = .ok (.bl (decide (dot (·.1) (Ns ks) L <= room))) := by
 let U : Env := [some (.tup (ks.map kD)), some (.tup (L.map nD)), some (.int (room : Nat))]
 unfold qfo qhS
 refine uw rfl ⟨U, ?_⟩
 refine (ql (U' := U) (jh (zC rfl rfl (wC ks h hl L hL hb)))).trans ((ql (U' := U) (jh (qR rfl (uh room)))).trans (z6 ?_))
 refine qi (qad rfl rfl rfl (ui ks hl L hb 0 (·.1) (·.1) (fun k hk => kn1 (h k hk)) (fun k hk => by have := h k hk; have h1 := this.1; have h2 := this.2.1; omega) yE)) rfl ?_
 rw [qbt]
 congr 2
 rw [decide_eq_decide]
 omega
theorem qgf : qcK [.tup (ks.map kD), .tup (L.map nD)] = .ok (.int (dot (·.2) (Ns ks) L : Nat)) := by
 let U : Env := [some (.tup (ks.map kD)), some (.tup (L.map nD))]
 unfold qcK qen
 refine uw rfl ⟨U, ?_⟩
 exact (ql (U' := U) (jh (zC rfl rfl (wC ks h hl L hL hb)))).trans (z6 (qad rfl rfl rfl (ui ks hl L hb 1 (·.2.1) (·.2) (fun k hk => kn2 (h k hk)) (fun k hk => by have := h k hk; have h1 := this.2.2.1; have h2 := this.2.2.2.1; omega) qaN)))
end
theorem qet {ds : List D} {i : Nat} {d : D} (h : ds[i]? = some d) : ixD (.lst ds) (.int (i : Nat)) = some d := qaI h
def qeu (f : Nat -> D) (r : Nat) : List D := (List.range (r + 1)).map f
theorem qki {f : Nat -> D} {r i : Nat} (h : i <= r) : (qeu f r)[i]? = some (f i) := by
 unfold qeu
 rw [gM_, List.getElem?_range (by omega)]
 rfl
theorem qkj {F : List D -> R D} {f g h k : M D} {U : Env} {a b c z d : D} (hf : f U = .ok (a, U)) (hg : g U = .ok (b, U)) (hh : h U = .ok (c, U)) (hk : k U = .ok (z, U)) (e : F [a, b, c, z] = .ok d) : qh F (qb f (qb g (qb h (qb k (ret []))))) U = .ok (d, U) := by
 rw [vY, jO, hf]
 simp only [qnn hg hh hk, e]
theorem qh4 {i : Nat} {f : M D} {U : Env} {ds : List D} {d : D} (h : z0 i U = some ds) (hf : f U = .ok (d, U)) (hl : ds.length < 1000000) : jg (vy i f) U = .ok (.nx (U.set i (some (.lst (d :: ds))))) := by
 rw [vw, qhD]
 simp only [h, hf, yB (show ds.length + 1 <= 1000000 by omega), if_true]
theorem qlE {f : M (List D)} {U : Env} {ds : List D} (h : f U = .ok (ds, U)) (hl : ds.length <= 1000000) : qi2 f U = .ok (ds, U) := by
 unfold qi2 bnd
 rw [h]
 simp only [yB hl, if_true]
 rfl
theorem qjo {i : Nat} {U : Env} {d : D} {ds : List D} (h : z0 i U = some (d :: ds)) : qaL i (ret (.int 0)) U = .ok (d, U) := by
 have e : atI (d :: ds) 0 = some d := qaI (n := 0) rfl
 rw [qdl]
 simp only [h, qec, e]
theorem qjp {U : Env} {r : Nat} (hr : r <= 200) (h1 : dv 1 U = .ok (.int (r : Nat), U)) : uF (qb (d2 qW (dv 1) (ret (.int 1))) (ret [])) U = .ok ((List.range (r + 1)).map fun s : Nat => D.int (s : Nat), U) := by
 have e : ((r : Int) + 1).toNat = r + 1 := by omega
 rw [um (j := (r : Int) + 1) (U1 := U) (vE (qi h1 rfl (qO _ _))) (by omega) (by omega), e, qnX]
theorem qlF {e : M D} {K X : D} {Y : Nat -> D} {r : Nat} (hr : r <= 200) (T : Option D) (vh : List D) (hl : vh.length <= 100) (hF : ∀ s : Nat, s <= r -> e [some (.int (s : Nat)), some K, some (.lst (X :: vh))] = .ok (Y s, [some (.int (s : Nat)), some K, some (.lst (X :: vh))])) :
  jg (vy 2 (zM 1 [3, 2] (some (2, 2)) (uF (qb (d2 qW (dv 1) (ret (.int 1))) (ret []))) (qq 0) (ret true) e)) [T, some (.int (r : Nat)), some (.lst (X :: vh)), some K] = .ok (.nx [T, some (.int (r : Nat)), some (.lst (.lst (qeu Y r) :: X :: vh)), some K]) := by
 let U : Env := [T, some (.int (r : Nat)), some (.lst (X :: vh)), some K]
 have c := qj4 (e := e) (t := ret true) (k := fun s : Nat => D.int (s : Nat)) (r := [some K, some (.lst (X :: vh))]) (fr := [3, 2]) (i := 2) (j := 2) (List.range (r + 1)) (fun _ => true) Y (qjp (U := U) hr rfl) rfl (by rw [lR_]; omega) (fun _ _ => rfl) (fun s hs _ => hF s (by have := mR_.mp hs; omega)) (fun o => rfl)
 rw [u5] at c
 exact qh4 (U := U) rfl c (by rw [lC_]; omega)
theorem qlG (d : D) (r : Nat) (hr : r <= 200) : y2 (.lst [d]) (.int ((r : Int) + 1)) = some (.lst (qeu (fun _ => d) r)) := by
 have h1 : decide (-(2 ^ 62 : Int) <= (r : Int) + 1) = true := decide_eq_true (by omega)
 have h2 : decide ((r : Int) + 1 < 2 ^ 62) = true := decide_eq_true (by omega)
 have e : ((r : Int) + 1).toNat = r + 1 := by omega
 have h3 : qZ (([d] : List D).length * ((r : Int) + 1).toNat) = true := yB (by rw [e]; simp; omega)
 have hm : y2 (.lst [d]) (.int ((r : Int) + 1)) = some (.lst (List.replicate ((r : Int) + 1).toNat [d]).flatten) := by
  simp only [y2, h1, h2, h3, Bool.and_self, if_true]
 have fl : ∀ n : Nat, (List.replicate n [d]).flatten = (List.range n).map fun _ => d := fun n => by
  induction n with
  | zero => rfl
  | succ n ih =>
   rw [rS_, List.flatten_cons, ih, List.range_succ_eq_map, mC_, mm_]
   rfl
 rw [hm, e, fl]
 rfl
theorem qh5 {α : Type} {l : List α} {f : α -> Int} (h : l ≠ []) : qdn [.lst (l.map fun a => D.int (f a))] = some (.int (qbL (l.map f))) := by
 cases l with
 | nil => exact absurd rfl h
 | cons a l =>
  have := v0 ((a :: l).map f)
  rw [mm_] at this
  simp only [Function.comp_def, mC_] at this
  simp only [mC_, qdn, this]
def qaC (f : List Kd -> Nat -> D) (r : Nat) : List Kd -> List D
 | [] => [.lst (qeu (f []) r)]
 | k :: ks => .lst (qeu (f (k :: ks)) r) :: qaC f r ks
theorem qdR (f : List Kd -> Nat -> D) (r : Nat) : ∀ ks : List Kd, (qaC f r ks).length = ks.length + 1
 | [] => rfl
 | k :: ks => by rw [qaC, lC_, qdR f r ks, lC_]
theorem qcf (f : List Kd -> Nat -> D) (r : Nat) : ∀ ks : List Kd, ∃ vh, qaC f r ks = .lst (qeu (f ks) r) :: vh
 | [] => ⟨[], rfl⟩
 | k :: ks => ⟨qaC f r ks, rfl⟩
def bN (ks : List Kd) (i : Nat) : D := .int (wJ ((Ns ks).map kwN) (i : Nat))
theorem qlH {k : Kd} (hk : jM k) (s : Nat) : jS [kD k, .int (s : Nat)] = .ok (nD (s / (kn k).1)) := by
 unfold jS u8
 have g1 := kn1 hk
 have h1 := hk.1
 have h2 := hk.2.1
 let U : Env := [some (kD k), some (.int (s : Nat)), some (nD (s / (kn k).1))]
 refine uw rfl ⟨U, (ql (U' := U) ?_).trans (z6 ?_)⟩
 ·have e : nD (s / (kn k).1) = .int (((s : Nat) : Int) / k.1) := by unfold nD; rw [Int.natCast_ediv, g1]
  show zP 2 _ [some (kD k), some (.int (s : Nat)), none] = _
  rw [zT (qi rfl (qi rfl rfl (yE k)) (vC (by omega) (by omega))), <- e]
  rfl
 ·have c1 : d2 isN (d2 ixD (dv 0) (ret (.int 2))) (ret .non) U = .ok (.bl true, U) := qi (qi rfl rfl (qno k)) rfl (by rw [qb7, qja, hk.2.2.2.2]; rfl)
  rw [qk9, zc c1]
  rfl
theorem qlI {k : Kd} (hk : jM k) (t s : Nat) (ht : t * (kn k).1 <= s) : u9 [kD k, nD t, .int (s : Nat)] = .ok (.int ((s - t * (kn k).1 : Nat) : Int)) := by
 have g1 := kn1 hk
 have h1 := hk.1
 have h2 := hk.2.1
 have e : ((s - t * (kn k).1 : Nat) : Int) = ((s : Nat) : Int) - (t : Nat) * k.1 := by rw [<- g1, <- Int.natCast_mul]; omega
 unfold u9 wL
 refine uw rfl ⟨[some (kD k), some (nD t), some (.int (s : Nat))], z6 ?_⟩
 rw [e]
 exact qi rfl (qi rfl (qi rfl rfl (yE k)) (qel (yM (by omega) (by omega)))) (zX _ _)
theorem qoJ (k : Kn) (t s : Nat) (ht : t * k.1 <= s) : ((s : Nat) : Int) - (t : Int) * (kwN k).w = ((s - t * k.1 : Nat) : Int) := by
 show ((s : Nat) : Int) - (t : Int) * (k.1 : Nat) = _
 rw [<- Int.natCast_mul]
 omega
theorem qh6 {k : Kd} {ks : List Kd} (hk : jM k) {s r : Nat} (hs : s <= r) {t : Nat} (ht : t * (kn k).1 <= s) (ht2 : t <= 1000) : yt [kD k, nD t, .lst (qeu (bN ks) r), .int (s : Nat)] = .ok (.int ((t : Int) * (kwN (kn k)).v + wJ ((Ns ks).map kwN) (((s : Nat) : Int) - (t : Int) * (kwN (kn k)).w))) := by
 rw [qoJ _ t s ht]
 have g2 := kn2 hk
 have ev : (kwN (kn k)).v = k.2.1 := g2
 rw [ev]
 unfold yt vK
 refine uw rfl ⟨[some (kD k), some (nD t), some (.lst (qeu (bN ks) r)), some (.int (s : Nat))], z6 ?_⟩
 refine qi (qi rfl (qi rfl rfl (qaN k)) (qcE (yM (by omega) (by omega)))) (qi rfl (qad rfl rfl rfl (qlI hk t s ht)) (qet (qki (show s - t * (kn k).1 <= r by omega)))) ?_
 unfold bN
 rw [qO]
theorem qjq {k : Kd} {ks : List Kd} (hk : jM k) {s r : Nat} (hs : s <= r) (hr : r <= 200) : ye [kD k, .lst (qeu (bN ks) r), .int (s : Nat)] = .ok (bN (k :: ks) s) := by
 have g1 := kn1 hk
 have h1 := hk.1
 have w1 : 1 <= (kn k).1 := by omega
 have hd : s / (kn k).1 <= s := Nat.div_le_self _ _
 let U : Env := [some (kD k), some (.lst (qeu (bN ks) r)), some (.int (s : Nat))]
 let f : Nat -> Int := fun t => (t : Int) * (kwN (kn k)).v + wJ ((Ns ks).map kwN) (((s : Nat) : Int) - (t : Int) * (kwN (kn k)).w)
 unfold ye wM
 refine uw rfl ⟨U, z6 ?_⟩
 have c : zM 1 [0, 1, 2] none (uF (qb (d2 qW (qh jS (qb (dv 0) (qb (dv 2) (ret [])))) (ret (.int 1))) (ret []))) (qq 0) (ret true) (qh yt (qb (dv 1) (qb (dv 0) (qb (dv 2) (qb (dv 3) (ret [])))))) U = .ok (.lst ((List.range (s / (kn k).1 + 1)).map fun t => D.int (f t)), U) := by
  refine qaH (r := [some (kD k), some (.lst (qeu (bN ks) r)), some (.int (s : Nat))]) (k := fun t : Nat => D.int (t : Nat)) (List.range (s / (kn k).1 + 1)) _ ?_ rfl (by rw [lR_]; omega) fun t ht => ?_
  ·have m := qlH hk s
   generalize s / (kn k).1 = q at hd m
   have e : ((q : Int) + 1).toNat = q + 1 := by omega
   rw [um (j := (q : Int) + 1) (U1 := U) (vE (qi (zC rfl rfl m) rfl (qO _ _))) (by omega) (by omega), e, qnX]
  ·have ht := mR_.mp ht
   have hm : t * (kn k).1 <= s := (Nat.le_div_iff_mul_le (by omega)).mp (by omega)
   exact qkj rfl rfl rfl rfl (qh6 (ks := ks) hk hs hm (by omega))
 refine y7 c ?_
 rw [qh5 (by simp)]
 unfold bN
 congr 2
 have e : wJ ((Ns (k :: ks)).map kwN) ((s : Nat) : Int) = mxZ ((List.range (ofn (kwN (kn k)) (s : Nat) + 1)).map fun t : Nat => f t) := by
  show wJ (kwN (kn k) :: (Ns ks).map kwN) ((s : Nat) : Int) = _
  rw [wJ]
 rw [e, qlv]
 refine qcx (qhO (by simp)) fun m hm => qj7 hm
theorem qcg {r : Nat} (hr : r <= 200) (T : Option D) : ∀ (b ks : List Kd) (o3 : Option D), (∀ k ∈ b, jM k) -> b.length + ks.length <= 90 -> ∃ o3', yy (qq 3) (jg (vy 2 (zM 1 [3, 2] (some (2, 2)) (uF (qb (d2 qW (dv 1) (ret (.int 1))) (ret []))) (qq 0) (ret true) (qh ye (qb (dv 1) (qb (qaL 2 (ret (.int 0))) (qb (dv 0) (ret [])))))))) (b.map kD) [T, some (.int (r : Nat)), some (.lst (qaC bN r ks)), o3] = .ok (.nx [T, some (.int (r : Nat)), some (.lst (qaC bN r (b.reverse ++ ks))), o3'])
 | [], ks, o3, _, _ => ⟨o3, rfl⟩
 | k :: b, ks, o3, h, hl => by
  obtain ⟨o3', q⟩ := qcg hr T b (k :: ks) (some (kD k)) (fun x hx => h x (mM _ hx)) (by rw [lC_] at hl |-; omega)
  obtain ⟨vh, e⟩ := qcf bN r ks
  have hlen : vh.length = ks.length := by
   have := qdR bN r ks
   rw [e, lC_] at this
   omega
  have s := qlF (e := qh ye (qb (dv 1) (qb (qaL 2 (ret (.int 0))) (qb (dv 0) (ret []))))) (K := kD k) (X := .lst (qeu (bN ks) r)) (Y := bN (k :: ks)) (r := r) (by omega) T vh (by rw [lC_] at hl; omega) fun s hs => qad rfl (qjo rfl) rfl (qjq (h k mS_) hs hr)
  rw [<- e] at s
  refine ⟨o3', ?_⟩
  rw [mC_, uM rfl s, List.reverse_cons, aA_]
  exact q
theorem qjr {ks : List Kd} (h : ∀ k ∈ ks, jM k) (hl : ks.length <= 12) {r : Nat} (hr : r <= 200) : va [.tup (ks.map kD), .int (r : Nat)] = .ok (.lst (qaC bN r ks)) := by
 let T : Option D := some (.tup (ks.map kD))
 let Rm : Option D := some (.int (r : Nat))
 obtain ⟨o3', q⟩ := qcg hr T ks.reverse [] none (fun k hk => h k (List.mem_reverse.mp hk)) (by rw [List.length_reverse, lN_]; omega)
 rw [List.reverse_reverse, List.append_nil] at q
 unfold va wN
 refine uw rfl ⟨[T, Rm, some (.lst (qaC bN r ks)), o3'], ?_⟩
 refine (ql (U' := [T, Rm, some (.lst (qaC bN r [])), none]) ?_).trans ?_
 ·have a1 : qcm (qb (ret (.int 0)) (ret [])) [T, Rm, none, none] = .ok (.lst [.int 0], [T, Rm, none, none]) := by push_cast [yB (show 1 <= 1000000 by omega)]
  have a2 : d2 y2 (qcm (qb (ret (.int 0)) (ret []))) (d2 qW (dv 1) (ret (.int 1))) [T, Rm, none, none] = .ok (.lst (qeu (bN []) r), [T, Rm, none, none]) := qi a1 (qi rfl rfl (qO _ _)) (qlG (.int 0) r (by omega))
  have a3 := qlE (vE a2) (by rw [lC_, lN_]; omega)
  show qan 2 _ [T, Rm, none, none] = _
  rw [qbn, a3]
  rfl
 refine (ql (U' := [T, Rm, some (.lst (qaC bN r ks)), o3']) ?_).trans rfl
 have a4 : qnf (qb (dv 0) (ret [])) [T, Rm, some (.lst (qaC bN r [])), none] = .ok (ks.reverse.map kD, [T, Rm, some (.lst (qaC bN r [])), none]) := by
  rw [qnh, vE (a := .tup (ks.map kD)) rfl, List.map_reverse]
  rfl
 rw [uJ, a4]
 exact q
theorem qev {ks : List Kd} (h : ∀ k ∈ ks, jM k) (hl : ks.length <= 12) {r : Nat} (hr : r <= 200) : vL [.tup (ks.map kD), .int (r : Nat)] = .ok .non := by
 let U : Env := [some (.tup (ks.map kD)), some (.int (r : Nat))]
 have e0 : qax [.int (r : Nat)] = .ok .non := by
  have e : uQ [some (.int (r : Nat))] = .ok (.nx [some (.int (r : Nat))]) := by
   unfold uQ
   refine qdy (zc (qi rfl rfl ?_))
   rw [yD, decide_eq_false (by omega)]
  show (match uQ [some (.int (r : Nat))] with | .ok (.rt d _) => R.ok d | .ok (.nx _) => .ok .non | _ => .bad) = _
  rw [e]
 have e : yu U = .ok (.nx U) := by
  unfold yu
  refine (ql (U' := U) (jh (qR rfl (jU _ (v3 (fun k hk => (h k hk).ok) hl))))).trans ?_
  refine (ql (U' := U) (jh (qR rfl (uh r)))).trans ?_
  exact jh (qR rfl e0)
 show (match yu U with | .ok (.rt d _) => R.ok d | .ok (.nx _) => .ok .non | _ => .bad) = _
 rw [e]
theorem qew {ks : List Kd} (h : ∀ k ∈ ks, jM k) (hl : ks.length <= 12) {r : Nat} (hr : r <= 200) : uo [.tup (ks.map kD), .int (r : Nat)] = .ok (.int (W (Ns ks) r : Nat)) := by
 let U : Env := [some (.tup (ks.map kD)), some (.int (r : Nat))]
 obtain ⟨vh, e⟩ := qcf bN r ks
 have e1 : yL [.tup (ks.map kD), .int (r : Nat)] = .ok (.lst (qeu (bN ks) r)) := by
  unfold yL vb
  refine uw rfl ⟨U, (ql (U' := U) (jh (zC rfl rfl (qev h hl hr)))).trans (z6 (qi (zC rfl rfl (qjr h hl hr)) rfl (qet (i := 0) (by rw [e]; rfl))))⟩
 have e2 : bN ks r = .int (W (Ns ks) r : Nat) := by
  unfold bN
  rw [qnB (Ns ks) (qib h) r]
 unfold uo vM
 refine uw rfl ⟨U, z6 ?_⟩
 rw [<- e2]
 exact qi (zC rfl rfl e1) rfl (qet (qki (Nat.le_refl r)))
theorem qoK {f g : M D} {U : Env} (h : f U = .ok (.bl true, U)) : dor f g U = .ok (.bl true, U) := by
 rw [qiQ, h]
 rfl
theorem qoL {f g : M D} {U : Env} {d : D} (h : f U = .ok (.bl false, U)) (hg : g U = .ok (d, U)) : dor f g U = .ok (d, U) := by
 rw [qiQ, h]
 exact hg
theorem qcR (i j : Int) : geD (.int i) (.int j) = some (.bl (decide (j <= i))) := rfl
theorem qcS (i : Int) : neB (.int i) (.int i) = some (.bl false) := by rw [vz, decide_eq_true rfl]; rfl
section
variable (ks : List Kd) (h : ∀ k ∈ ks, jM k) (hl : ks.length <= 12) (hne : 0 < ks.length)
include h hl hne
theorem qgg {n : List Nat} (ok : okP (Ns ks) (kn (ld ks)) n) (hk : yJ (stL ks) n = true) (room : Nat) (hb : room <= 10 ^ 31) : zb [.tup (ks.map kD), .int (room : Nat), .int (lo ks : Nat), cD true n] = .ok (.bl true) := by
 obtain ⟨L, e1, e2, e3, e4⟩ := qaB ks h hl hne room hb
 have hw := w20 ks h hl hne
 have hlb : ∀ m ∈ L, m <= 10 ^ 31 := fun m hm => by
  have := qkf (Ns ks) L (qib h) (by unfold Ns; rw [lM_]; exact e2) m hm
  omega
 have fit := qh3 ks h hl L e2 hlb room
 rw [decide_eq_true e3] at fit
 have wor := qgf ks h hl L e2 hlb
 rw [e4] at wor
 have ldm := qaY h hl hne
 have lim := qny (qib h) hw.1 ldm ok hk room
 let T : Option D := some (.tup (ks.map kD))
 let R' : Option D := some (.int (room : Nat))
 let G : Option D := some (.int (lo ks : Nat))
 let P : Option D := some (cD true n)
 let B : Option D := some (.int (W (Ns ks) room : Nat))
 let Lo : Option D := some (.tup (L.map nD))
 let Li : Option D := some (.int (qkb (kn (ld ks)) n room))
 let U : Env := [T, R', G, P, B, Lo, Li]
 unfold zb yf
 refine uw rfl ⟨U, ?_⟩
 refine (ql (U' := [T, R', G, P, B, none, none]) (zT (zC rfl rfl (qL ks h hl hne room hb)))).trans ?_
 refine (ql (U' := [T, R', G, P, B, Lo, none]) (zT (zC rfl rfl e1))).trans ?_
 refine (ql (U' := [T, R', G, P, B, Lo, none]) (qdy (qnq (wQ (b := true) (zc (qad rfl rfl rfl fit))) (zc (qi (zC rfl rfl wor) rfl (qcS _)))))).trans ?_
 refine (ql (U' := U) (zT (qad rfl rfl rfl (qbI ks h hl hne ok hk room hb)))).trans ?_
 refine (ql (U' := U) ?_).trans (z6 ?_)
 ·have c1 : tst (d2 ltD (dv 6) (dv 4)) U = .ok (false, U) := zc (qi rfl rfl (by rw [vA, decide_eq_false (by omega)]))
  have c2 : qfK (tst (d2 geD (dv 1) (dv 2))) (tst (d2 neB (dv 6) (dv 4))) U = .ok (false, U) := by
   by_cases hr : lo ks <= room
   ·have le := qnz (qib h) hw.1 ldm ok (qfw h hl hne (show lo ks <= room + (kn (ld ks)).1 by omega))
    have eq : qkb (kn (ld ks)) n room = ((W (Ns ks) room : Nat) : Int) := by omega
    refine qlq (zc (qi (d := .bl true) rfl rfl (by rw [qcR, decide_eq_true (by omega)]))) (zc (qi rfl rfl ?_))
    rw [eq]
    exact qcS _
   ·exact qlp (zc (qi rfl rfl (by rw [qcR, decide_eq_false (by omega)])))
  exact qdy (qnq c1 c2)
 ·by_cases h2 : 200 < room
  ·exact qoK (qi rfl rfl (by rw [yD, decide_eq_true (by omega)]))
  ·refine qoL (qi rfl rfl (by rw [yD, decide_eq_false (by omega)])) (qi (zC rfl rfl (qew h hl (show room <= 200 by omega))) rfl ?_)
   rw [wF, decide_eq_true rfl]
theorem qh7 {n : List Nat} (ok : okP (Ns ks) (kn (ld ks)) n) (hk : yJ (stL ks) n = true) (hl4 : ks.length <= 4) (S I : Option D) (m : Int) (room : Nat) (hb : room <= 10 ^ 30) (o10 o11 o12 : Option D) : ∃ m' p10 p11, (qG (sif (qbb (tst (qh zb (qb (dv 3) (qb (dv 9) (qb (dv 7) (qb (dv 8) (ret [])))))))) (zK (ret (.bl false))) yA) (qG (zP 10 (qh qj (qb (dv 3) (qb (d2 qW (dv 9) (dv 4)) (ret []))))) (qG (sif (qfK (tst (d2 geD (d2 qW (dv 9) (dv 4)) (dv 7))) (tst (d2 neB (dv 10) (d2 qW (qh qj (qb (dv 3) (qb (dv 9) (ret [])))) (dv 5))))) (zK (ret (.bl false))) yA) (qG (sif (tst (d2 ltD (qh qj (qb (dv 3) (qb (d2 qW (dv 9) (ret (.int 1))) (ret [])))) (qh qj (qb (dv 3) (qb (dv 9) (ret [])))))) (zK (ret (.bl false))) yA) (qG (zP 11 (d2 qW (dv 3) (qa8 (qb (qa8 (qb (d2 qW (ret (.int 1)) (qN qp 2 (qb (ret (.int 9)) (ret [])))) (qb (qN qp 2 (qb (ret (.int 9)) (ret []))) (qb (ret .non) (ret []))))) (ret []))))) (sif (tst (d2 ltD (qh qj (qb (dv 11) (qb (dv 9) (ret [])))) (qh qj (qb (dv 3) (qb (dv 9) (ret [])))))) (zK (ret (.bl false))) yA)))))) [S, I, some (.lst [.int m]), some (.tup (ks.map kD)), some (.int (ld ks).1), some (.int (ld ks).2.1), some .non, some (.int (lo ks : Nat)), some (cD true n), some (nD room), o10, o11, o12] = .ok (.nx [S, I, some (.lst [.int m']), some (.tup (ks.map kD)), some (.int (ld ks).1), some (.int (ld ks).2.1), some .non, some (.int (lo ks : Nat)), some (cD true n), some (nD room), p10, p11, o12]) := by
 have hw := w20 ks h hl hne
 have gl := zm h hne
 have g1 := kn1 gl
 have g2 := kn2 gl
 let nk : Kd := (1 + m % 9, m / 9 % 9, none)
 let ms : List Kd := ks ++ [nk]
 have gn : jM nk := ⟨by show 1 <= 1 + m % 9; omega, by show 1 + m % 9 <= 20; omega, by show 0 <= m / 9 % 9; omega, by show m / 9 % 9 <= 100000000000000000011; omega, rfl⟩
 have hms : ∀ k ∈ ms, jM k := fun k hx => (mA_.mp hx).elim (h k) fun hx => by
  rw [ms_] at hx
  subst hx
  exact gn
 have lms : ms.length <= 12 := by rw [lA_, List.length_singleton]; omega
 have nms : 0 < ms.length := by rw [lA_, List.length_singleton]; omega
 have wmore : W (Ns ks) room <= W (Ns ms) room := qnA (qib h) (qib hms) (fun k hx => by
  obtain ⟨x, hx2, rfl⟩ := mP_.mp hx
  exact mP_.mpr ⟨x, List.mem_append_left _ hx2, rfl⟩) room
 have wmono : W (Ns ks) room <= W (Ns ks) (room + 1) := qnt (qib h) (by omega)
 let w := (kn (ld ks)).1
 let T : Option D := some (.tup (ks.map kD))
 let A4 : Option D := some (.int (ld ks).1)
 let A5 : Option D := some (.int (ld ks).2.1)
 let G : Option D := some (.int (lo ks : Nat))
 let P : Option D := some (cD true n)
 let X : Option D := some (nD room)
 let La : Option D := some (.int (W (Ns ks) (room + w) : Nat))
 let B : Option D := some (.lst [.int m])
 let B' : Option D := some (.lst [.int (m / 9 / 9)])
 let Mo : Option D := some (.tup (ms.map kD))
 refine ⟨m / 9 / 9, La, Mo, ?_⟩
 have ew : qj [.tup (ks.map kD), nD room] = .ok (.int (W (Ns ks) room : Nat)) := qL ks h hl hne room (by omega)
 have er : qW (nD room) (.int (ld ks).1) = some (.int ((room + w : Nat) : Int)) := by
  show qW (.int (room : Nat)) (.int (ld ks).1) = _
  rw [qO, <- g1, <- Int.natCast_add]
 refine (ql (U' := [S, I, B, T, A4, A5, some .non, G, P, X, o10, o11, o12]) (qdy (wQ (b := true) (zc (qkj rfl rfl rfl rfl (qgg ks h hl hne ok hk room (by omega))))))).trans ?_
 refine (ql (U' := [S, I, B, T, A4, A5, some .non, G, P, X, La, o11, o12]) (zT (zC rfl (qi rfl rfl er) (qL ks h hl hne (room + w) (by omega))))).trans ?_
 refine (ql (U' := [S, I, B, T, A4, A5, some .non, G, P, X, La, o11, o12]) (qdy ?_)).trans ?_
 ·by_cases hr : lo ks <= room + w
  ·have e := qfw h hl hne hr 1
   rw [Nat.one_mul, Nat.one_mul] at e
   refine qlq (zc (qi (d := .bl true) (qi rfl rfl er) rfl (by rw [qcR, decide_eq_true (by omega)]))) (zc (qi rfl (qi (zC rfl rfl ew) rfl (qO _ _)) ?_))
   have e' : ((W (Ns ks) (room + w) : Nat) : Int) = ((W (Ns ks) room : Nat) : Int) + (ld ks).2.1 := by rw [<- g2, <- Int.natCast_add]; exact congrArg _ e
   rw [e']
   exact qcS _
  ·exact qlp (zc (qi (qi rfl rfl er) rfl (by rw [qcR, decide_eq_false (by omega)])))
 refine (ql (U' := [S, I, B, T, A4, A5, some .non, G, P, X, La, o11, o12]) (qdy (zc (qi (zC rfl (qi rfl rfl (qO _ _)) (qL ks h hl hne (room + 1) (by omega))) (zC rfl rfl ew) (by rw [vA, decide_eq_false (by omega)]))))).trans ?_
 refine (ql (U' := [S, I, B', T, A4, A5, some .non, G, P, X, La, Mo, o12]) ?_).trans ?_
 ·have ea : qW (.tup (ks.map kD)) (.tup [.tup [.int (1 + m % 9), .int (m / 9 % 9), .non]]) = some (.tup (ms.map kD)) := by
   rw [qi7 (by rw [lM_, List.length_singleton]; omega)]
   show some (D.tup (ks.map kD ++ [kD nk])) = some (D.tup ((ks ++ [nk]).map kD))
   rw [List.map_append]
   rfl
  push_cast [vQ (m := 9) (by decide) (by decide), qO, yB (show 1 <= 1000000 by omega), yB (show 3 <= 1000000 by omega), T, B, ea]
  rfl
 ·exact qdy (zc (qi (zC rfl rfl (qL ms hms lms nms room (by omega))) (zC rfl rfl ew) (by rw [vA, decide_eq_false (by omega)])))
theorem qdS {n : List Nat} (ok : okP (Ns ks) (kn (ld ks)) n) (hk : yJ (stL ks) n = true) (hl4 : ks.length <= 4) (S I o12 : Option D) : ∀ (rs : List Nat) (m : Int) (o9 o10 o11 : Option D), (∀ r ∈ rs, r <= 10 ^ 30) -> ∃ m' p9 p10 p11, yy (qq 9) (qG (sif (qbb (tst (qh zb (qb (dv 3) (qb (dv 9) (qb (dv 7) (qb (dv 8) (ret [])))))))) (zK (ret (.bl false))) yA) (qG (zP 10 (qh qj (qb (dv 3) (qb (d2 qW (dv 9) (dv 4)) (ret []))))) (qG (sif (qfK (tst (d2 geD (d2 qW (dv 9) (dv 4)) (dv 7))) (tst (d2 neB (dv 10) (d2 qW (qh qj (qb (dv 3) (qb (dv 9) (ret [])))) (dv 5))))) (zK (ret (.bl false))) yA) (qG (sif (tst (d2 ltD (qh qj (qb (dv 3) (qb (d2 qW (dv 9) (ret (.int 1))) (ret [])))) (qh qj (qb (dv 3) (qb (dv 9) (ret [])))))) (zK (ret (.bl false))) yA) (qG (zP 11 (d2 qW (dv 3) (qa8 (qb (qa8 (qb (d2 qW (ret (.int 1)) (qN qp 2 (qb (ret (.int 9)) (ret [])))) (qb (qN qp 2 (qb (ret (.int 9)) (ret []))) (qb (ret .non) (ret []))))) (ret []))))) (sif (tst (d2 ltD (qh qj (qb (dv 11) (qb (dv 9) (ret [])))) (qh qj (qb (dv 3) (qb (dv 9) (ret [])))))) (zK (ret (.bl false))) yA)))))) (rs.map nD) [S, I, some (.lst [.int m]), some (.tup (ks.map kD)), some (.int (ld ks).1), some (.int (ld ks).2.1), some .non, some (.int (lo ks : Nat)), some (cD true n), o9, o10, o11, o12] = .ok (.nx [S, I, some (.lst [.int m']), some (.tup (ks.map kD)), some (.int (ld ks).1), some (.int (ld ks).2.1), some .non, some (.int (lo ks : Nat)), some (cD true n), p9, p10, p11, o12])
 | [], m, o9, o10, o11, _ => ⟨m, o9, o10, o11, rfl⟩
 | r :: rs, m, o9, o10, o11, hb => by
  obtain ⟨m1, p10, p11, e⟩ := qh7 ks h hl hne ok hk hl4 S I m r (hb r mS_) o10 o11 o12
  obtain ⟨m', q9, q10, q11, q⟩ := qdS ok hk hl4 S I o12 rs m1 (some (nD r)) p10 p11 fun x hx => hb x (mM _ hx)
  exact ⟨m', q9, q10, q11, by rw [mC_, uM rfl e, q]⟩
end
theorem qnO (ns : List Int) : neB (.lst (ns.map D.int)) (.lst (ns.map D.int)) = some (.bl false) := by
 have o : wR (.lst (ns.map D.int)) = true := by
  have o := qdA (ns := ns)
  have e1 : wR (.tup (ns.map D.int)) = (PyData.canLayAll0 (toPDs (ns.map D.int)) && decide (PyData.depthAll (toPDs (ns.map D.int)) + 1 <= 50)) := by simp only [wR, jL, PyData.canLay0, PyData.depth]
  have e2 : wR (.lst (ns.map D.int)) = (PyData.canLayAll0 (toPDs (ns.map D.int)) && decide (PyData.depthAll (toPDs (ns.map D.int)) + 1 <= 50)) := by simp only [wR, jL, PyData.canLay0, PyData.depth]
  rw [e2, <- e1]
  exact o
 have e : neB (.lst (ns.map D.int)) (.lst (ns.map D.int)) = neA (.lst (ns.map D.int)) (.lst (ns.map D.int)) := rfl
 have c := PySem.SeqAt.eqv_refl (jL (.lst (ns.map D.int))) (qcy o).1
 rw [e]
 unfold neA
 rw [o, c]
 rfl
noncomputable def qoM : MS := (qG (qan 2 (qfT yX (qb (dv 0) (qb (dv 1) (ret []))))) (qG (zP 3 (qN ju 2 (qb (ret (.int 4)) (qb (ret (.int 7)) (ret []))))) (qG (qlO (d2 ixD (dv 3) (qh qce (qb (dv 3) (ret [])))) (wx 3 (qQ (qq 4) (qQ (qq 5) (qQ (qq 6) ww))))) (qG (qlT 7 8 (qb (qh qbC (qb (dv 3) (ret []))) (qb (qh yw (qb (dv 3) (ret []))) (ret [])))) (qG (sif (tor (tst (d2 ltD (dv 7) (dv 4))) (tst (d2 neB (qT uC (qb (qh u6 (qb (dv 3) (ret []))) (ret []))) (dv 7)))) (zK (ret (.bl false))) yA) (qG (qbP (v9 (qcm (qb (ret (.int 0)) (qb (d2 vt (dv 7) (ret (.int 1))) (qb (dv 7) (qb (d2 qW (dv 7) (qN qp 2 (qb (ret (.int 20)) (ret [])))) (qb (qN qp 2 (qb (ret (.int 60)) (ret []))) (qb (qN qp 2 (qb (d2 qiN (ret (.int 10)) (ret (.int 20))) (ret []))) (ret []))))))))) (qq 9) (qG (sif (qbb (tst (qh zb (qb (dv 3) (qb (dv 9) (qb (dv 7) (qb (dv 8) (ret [])))))))) (zK (ret (.bl false))) yA) (qG (zP 10 (qh qj (qb (dv 3) (qb (d2 qW (dv 9) (dv 4)) (ret []))))) (qG (sif (qfK (tst (d2 geD (d2 qW (dv 9) (dv 4)) (dv 7))) (tst (d2 neB (dv 10) (d2 qW (qh qj (qb (dv 3) (qb (dv 9) (ret [])))) (dv 5))))) (zK (ret (.bl false))) yA) (qG (sif (tst (d2 ltD (qh qj (qb (dv 3) (qb (d2 qW (dv 9) (ret (.int 1))) (ret [])))) (qh qj (qb (dv 3) (qb (dv 9) (ret [])))))) (zK (ret (.bl false))) yA) (qG (zP 11 (d2 qW (dv 3) (qa8 (qb (qa8 (qb (d2 qW (ret (.int 1)) (qN qp 2 (qb (ret (.int 9)) (ret [])))) (qb (qN qp 2 (qb (ret (.int 9)) (ret []))) (qb (ret .non) (ret []))))) (ret []))))) (sif (tst (d2 ltD (qh qj (qb (dv 11) (qb (dv 9) (ret [])))) (qh qj (qb (dv 3) (qb (dv 9) (ret [])))))) (zK (ret (.bl false))) yA))))))) (qG (zP 12 (qh qj (qb (dv 3) (qb (d2 vt (dv 7) (ret (.int 1))) (ret []))))) (qG (sif (qfK (tst (d2 gtD (dv 7) (dv 4))) (tst (d2 eqB (dv 12) (d2 qW (qh qj (qb (dv 3) (qb (d2 vt (d2 vt (dv 7) (ret (.int 1))) (dv 4)) (ret [])))) (dv 5))))) (zK (ret (.bl false))) yA) (sif (tst (d2 neB (qh u6 (qb (dv 3) (ret []))) (zM 1 [3] none (uF (qb (dv 7) (ret []))) (qq 0) (ret true) (qh qj (qb (dv 1) (qb (dv 0) (ret []))))))) (zK (ret (.bl false))) yA)))))))))
theorem qjs (ns : List Int) (i : Int) (h0 : 0 <= i) (r : Env) (hr : r.length = 11) : ∃ r', r'.length = 11 /\ qoM ([some (.fz ns), some (.int i)] ++ r) = .ok (.nx ([some (.fz ns), some (.int i)] ++ r')) := by
 match r, hr with
 | [o2, o3, o4, o5, o6, o7, o8, o9, o10, o11, o12], _ =>
  obtain ⟨n, eb⟩ := qnC ns i h0
  obtain ⟨ks, n1, e1, hk0, hl4, hne⟩ := qgc 4 (by omega) 7 (by omega) n
  have h : ∀ k ∈ ks, jM k := fun k hx => (hk0 k hx).1
  have hl : ks.length <= 12 := by omega
  obtain ⟨p, ok, hk, ep⟩ := qbH ks h hl hne
  have hw := w20 ks h hl hne
  have gl := zm h hne
  have g1 := kn1 gl
  have g2 := kn2 gl
  have hlo : lo ks <= 400 := Nat.le_trans (qnH ks) (qlz h hne)
  have hlw : (kn (ld ks)).1 <= lo ks := qaW _
  let S : Option D := some (.fz ns)
  let I : Option D := some (.int i)
  let T : Option D := some (.tup (ks.map kD))
  let A4 : Option D := some (.int (ld ks).1)
  let A5 : Option D := some (.int (ld ks).2.1)
  let G : Option D := some (.int (lo ks : Nat))
  let P : Option D := some (cD true p)
  let M : Int := 100000000000000000000
  let n2 := n1 / 20
  let n3 := n2 / 60
  let n4 := n3 / M
  have b1 : 0 <= n1 % 20 /\ n1 % 20 < 20 := by omega
  have b2 : 0 <= n2 % 60 /\ n2 % 60 < 60 := by omega
  have b3 : 0 <= n3 % M /\ n3 % M < M := ⟨Int.emod_nonneg _ (by decide), Int.emod_lt_of_pos _ (by decide)⟩
  have hM : M = 100000000000000000000 := rfl
  let rs : List Nat := [0, lo ks - 1, lo ks, lo ks + (n1 % 20).toNat, (n2 % 60).toNat, (n3 % M).toNat]
  obtain ⟨m', p9, p10, p11, q⟩ := qdS ks h hl hne ok hk (by omega) S I o12 rs n4 o9 o10 o11 (fun x hx => by
   simp only [rs, List.mem_cons, nN_, or_false] at hx
   rcases hx with rfl | rfl | rfl | rfl | rfl | rfl <;> omega)
  let B : Option D := some (.lst [.int m'])
  let L12 : Option D := some (.int (W (Ns ks) (lo ks - 1) : Nat))
  refine ⟨[B, T, A4, A5, some .non, G, P, p9, p10, p11, L12], rfl, ?_⟩
  unfold qoM
  show (_ : MS) [S, I, o2, o3, o4, o5, o6, o7, o8, o9, o10, o11, o12] = _
  refine (ql (U' := [S, I, some (.lst [.int n]), o3, o4, o5, o6, o7, o8, o9, o10, o11, o12]) ?_).trans ?_
  ·push_cast [S, I, eb, immFs, immF, immL, imm, Bool.and_self]
  refine (ql (U' := [S, I, some (.lst [.int n1]), T, o4, o5, o6, o7, o8, o9, o10, o11, o12]) ?_).trans ?_
  ·push_cast [e1, T]
  refine (ql (U' := [S, I, some (.lst [.int n1]), T, A4, A5, some .non, o7, o8, o9, o10, o11, o12]) ?_).trans ?_
  ·have el : qce [.tup (ks.map kD)] = .ok (.int (v8 ks : Nat)) := by
    unfold qce qhT
    refine uw rfl ⟨[some (.tup (ks.map kD))], ?_⟩
    exact (ql (jh (qR rfl (qV ks h hl hne)))).trans (z6 (qR rfl (ug ks h hl hne)))
   have ek : kD (ld ks) = .tup [.int (ld ks).1, .int (ld ks).2.1, .non] := by
    unfold kD
    rw [gl.2.2.2.2]
    rfl
   have c : d2 ixD (dv 3) (qh qce (qb (dv 3) (ret []))) [S, I, some (.lst [.int n1]), T, o4, o5, o6, o7, o8, o9, o10, o11, o12] = .ok (.tup [.int (ld ks).1, .int (ld ks).2.1, .non], [S, I, some (.lst [.int n1]), T, o4, o5, o6, o7, o8, o9, o10, o11, o12]) := by
    rw [<- ek]
    exact qi rfl (qR rfl el) (qdB (wP hne))
   rw [qg6, c]
   rfl
  refine (ql (U' := [S, I, some (.lst [.int n1]), T, A4, A5, some .non, G, P, o9, o10, o11, o12]) ?_).trans ?_
  ·rw [qpH (qR rfl (qge ks h hl hne)) (qR rfl ep)]
   rfl
  refine (ql (U' := [S, I, some (.lst [.int n1]), T, A4, A5, some .non, G, P, o9, o10, o11, o12]) (qdy (qnq (zc (qi rfl rfl (by rw [vA, decide_eq_false (by omega)]))) (zc (qi (y7 (qR rfl (qbE ks h hl hne)) qke) rfl (qcS _)))))).trans ?_
  refine (ql (U' := [S, I, B, T, A4, A5, some .non, G, P, p9, p10, p11, o12]) ?_).trans ?_
  ·have er : (v9 (qcm (qb (ret (.int 0)) (qb (d2 vt (dv 7) (ret (.int 1))) (qb (dv 7) (qb (d2 qW (dv 7) (qN qp 2 (qb (ret (.int 20)) (ret [])))) (qb (qN qp 2 (qb (ret (.int 60)) (ret []))) (qb (qN qp 2 (qb (d2 qiN (ret (.int 10)) (ret (.int 20))) (ret []))) (ret []))))))))) [S, I, some (.lst [.int n1]), T, A4, A5, some .non, G, P, o9, o10, o11, o12] = .ok ([.int 0, .int ((lo ks : Nat) - 1), .int (lo ks : Nat), .int ((lo ks : Nat) + n1 % 20), .int (n2 % 60), .int (n3 % M)], [S, I, some (.lst [.int n4]), T, A4, A5, some .non, G, P, o9, o10, o11, o12]) := by
    have k1 : qp [.int n3] [.int 100000000000000000000] = .ok (.int (n3 % M), [.int (n3 / M)]) := vQ (by decide) (by decide)
    push_cast [vQ (m := 20) (by decide) (by decide), vQ (m := 60) (by decide) (by decide), qnm, k1, zX, qO, yB (show 6 <= 1000000 by omega), n2, n3, n4, S, I, G, qmI]
   have em : rs.map nD = [.int 0, .int ((lo ks : Nat) - 1), .int (lo ks : Nat), .int ((lo ks : Nat) + n1 % 20), .int (n2 % 60), .int (n3 % M)] := by
    have a1 : ((lo ks - 1 : Nat) : Int) = ((lo ks : Nat) : Int) - 1 := by omega
    simp only [rs, mC_, List.map_nil, nD, Int.natCast_add, Int.toNat_of_nonneg b1.1, Int.toNat_of_nonneg b2.1, Int.toNat_of_nonneg b3.1, a1]
    rfl
   rw [uJ, er, <- em]
   exact q
  have e12 : vt (.int (lo ks : Nat)) (.int 1) = some (.int ((lo ks - 1 : Nat) : Int)) := by
   rw [zX]
   congr 2
   omega
  refine (ql (U' := [S, I, B, T, A4, A5, some .non, G, P, p9, p10, p11, L12]) (zT (zC rfl (qi rfl rfl e12) (qL ks h hl hne (lo ks - 1) (by omega))))).trans ?_
  refine (ql (U' := [S, I, B, T, A4, A5, some .non, G, P, p9, p10, p11, L12]) (qdy ?_)).trans ?_
  ·by_cases hg : (kn (ld ks)).1 < lo ks
   ·have hout : qdE (Ns ks) (kn (ld ks)) (lo ks - 1) = true := by
     rcases qfn (ks := Ns ks) (p := kn (ld ks)) (sN ks) with e | ⟨_, e, _⟩
     ·have : lo ks = (kn (ld ks)).1 := e
      omega
     ·exact e
    have hne' : W (Ns ks) (lo ks - 1) ≠ W (Ns ks) (lo ks - 1 - (kn (ld ks)).1) + (kn (ld ks)).2 := by
     unfold qdE at hout
     exact of_decide_eq_true hout
    have e13 : vt (.int ((lo ks - 1 : Nat) : Int)) (.int (ld ks).1) = some (.int ((lo ks - 1 - (kn (ld ks)).1 : Nat) : Int)) := by
     rw [zX]
     congr 2
     omega
    refine qlq (zc (qi (d := .bl true) rfl rfl (by rw [yD, decide_eq_true (by omega)]))) (zc (qi rfl (qi (zC rfl (qi (qi rfl rfl e12) rfl e13) (qL ks h hl hne (lo ks - 1 - (kn (ld ks)).1) (by omega))) rfl (qO _ _)) ?_))
    rw [wF, decide_eq_false]
    intro e
    rw [<- g2, <- Int.natCast_add] at e
    exact hne' (Int.ofNat.inj e)
   ·exact qlp (zc (qi rfl rfl (by rw [yD, decide_eq_false (by omega)])))
  ·have c : zM 1 [3] none (uF (qb (dv 7) (ret []))) (qq 0) (ret true) (qh qj (qb (dv 1) (qb (dv 0) (ret [])))) [S, I, B, T, A4, A5, some .non, G, P, p9, p10, p11, L12] = .ok (.lst (tD ks (lo ks)), [S, I, B, T, A4, A5, some .non, G, P, p9, p10, p11, L12]) := by
    refine qaH (r := [T]) (k := fun j : Nat => D.int (j : Nat)) (List.range (lo ks)) (wI ks) ?_ rfl (by rw [lR_]; omega) fun j hj => ?_
    ·rw [um (j := (lo ks : Nat)) (U1 := [S, I, B, T, A4, A5, some .non, G, P, p9, p10, p11, L12]) (vE rfl) (by omega) (by omega), Int.toNat_natCast, qnX]
    ·exact zC rfl rfl (qL ks h hl hne j (by have := mR_.mp hj; omega))
   have et : tD ks (lo ks) = ((List.range (lo ks)).map fun j => ((W (Ns ks) j : Nat) : Int)).map D.int := by
    unfold tD
    rw [mm_]
    rfl
   refine qdy (zc (qi (qR rfl (qbE ks h hl hne)) c ?_))
   rw [et]
   exact qnO _
theorem qfB (ns : List Int) : ∀ (ds : List D) (o1 : Option D) (r : Env), r.length = 11 -> (∀ d ∈ ds, ∃ i : Int, d = .int i /\ 0 <= i) -> ∃ U, yy (qq 1) qoM ds ([some (.fz ns), o1] ++ r) = .ok (.nx U)
 | [], o1, r, _, _ => ⟨_, rfl⟩
 | d :: ds, o1, r, hr, h => by
  obtain ⟨i, rfl, h0⟩ := h d mS_
  obtain ⟨r', hr', e⟩ := qjs ns i h0 r hr
  obtain ⟨U, q⟩ := qfB ns ds (some (.int i)) r' hr' fun y hy => h y (mM _ hy)
  refine ⟨U, ?_⟩
  unfold yy
  simp only [qq, List.cons_append, List.nil_append, List.set_cons_zero, List.set_cons_succ] at e |-
  simp only [e]
  exact q
theorem law_true (ns : List Int) (hn : ns.length <= 63) : qep [.fz ns] = .ok (.bl true) := by
 let j : Int := if (if (2 : Int) < (ns.length : Int) then (2 : Int) else (ns.length : Int)) > 1 then (if (2 : Int) < (ns.length : Int) then (2 : Int) else (ns.length : Int)) else 1
 have hj0 : 0 <= j := by simp only [j]; split <;> split <;> omega
 have hj1 : j <= 6 := by simp only [j]; split <;> split <;> omega
 obtain ⟨U, q⟩ := qfB ns (qaK 0 j.toNat) none [none, none, none, none, none, none, none, none, none, none, none] rfl fun d hd => by
  unfold qaK at hd
  obtain ⟨k, hk, rfl⟩ := mP_.mp hd
  exact ⟨_, rfl, by omega⟩
 unfold qep
 refine uw rfl ⟨U, ?_⟩
 unfold qlw
 refine (ql (U' := U) ?_).trans rfl
 rw [uJ, um (j := j) (U1 := [some (.fz ns), none, none, none, none, none, none, none, none, none, none, none, none]) ?_ hj0 (by omega)]
 ·exact q
 ·rfl
section
variable {P : Program} {w : World} {K : PySem.W.Frag} {mg : Str -> Option Value} {base : Heap}
variable {f : Addr} {fd : FuncData}
set_option maxHeartbeats 4000000
theorem vm : qr ["first", "worths", "weight"] ["first", "worths"] (qd zu) := ⟨rfl, rfl, rfl, by decide +kernel, rfl, by decide +kernel, by decide +kernel⟩
section
variable (P : Program) (w : World) (K : Fr0) (mg : Str -> Option Value) (base : Heap)
abbrev Q0 : Prop := qB P w K mg base 1 "out_of_rounds" ["first", "worths"] (spD K zS)
abbrev Q1 : Prop := qB P w K mg base 1 "weights_product" ["store"] (spD K jp)
abbrev Q2 : Prop := qB P w K mg base 2 "lead_place" ["store"] (spD K jJ)
abbrev Q3 : Prop := qB P w K mg base 3 "lead_kind" ["store"] (spD K zH)
abbrev Q4 : Prop := qB P w K mg base 1 "heaviest" ["store"] (spD K yV)
abbrev Q5 : Prop := qB P w K mg base 4 "surely_in_rounds" ["store"] (spD K jc)
abbrev Q6 : Prop := qB P w K mg base 5 "small_worths" ["store"] (spD K yh)
abbrev Q7 : Prop := qB P w K mg base 6 "worths_before" ["store"] (spD K zw)
abbrev Q8 : Prop := qB P w K mg base 2 "need_light" ["store"] (spD K vI)
abbrev Q9 : Prop := qB P w K mg base 1 "need_endless" ["store"] (spD K uz)
abbrev Q10 : Prop := qB P w K mg base 1 "is_whole" ["thing"] (spD K v5)
abbrev Q11 : Prop := qB P w K mg base 2 "is_count" ["thing"] (spD K ja)
abbrev Q12 : Prop := qB P w K mg base 3 "is_kind" ["thing"] (spD K vJ)
abbrev Q13 : Prop := qB P w K mg base 4 "is_store" ["thing"] (spD K v6)
abbrev Q14 : Prop := qB P w K mg base 5 "need_store" ["thing"] (spD K jK)
abbrev Q15 : Prop := qB P w K mg base 6 "need_light_endless" ["store"] (spD K qE)
abbrev Q16 : Prop := qB P w K mg base 7 "before" ["store"] (spD K u6)
abbrev Q17 : Prop := qB P w K mg base 1 "rounds_taken" ["first", "worths", "room"] (spD K jt)
abbrev Q18 : Prop := qB P w K mg base 3 "need_count" ["thing"] (spD K yr)
abbrev Q19 : Prop := qB P w K mg base 7 "need_endless_asked" ["store", "room"] (spD K zj)
abbrev Q20 : Prop := qB P w K mg base 8 "endless_worth" ["store", "room"] (spD K qj)
abbrev Q21 : Prop := qB P w K mg base 1 "_law_take" ["box", "many"] (qjL K qp)
abbrev Q22 : Prop := qB P w K mg base 1 "most_within" ["kind", "room"] (spD K jS)
abbrev Q23 : Prop := qB P w K mg base 1 "room_left" ["kind", "times", "room"] (spD K u9)
abbrev Q24 : Prop := qB P w K mg base 2 "worth_with" ["kind", "times", "row", "room"] (spD K yt)
abbrev Q25 : Prop := qB P w K mg base 3 "best_with" ["kind", "row", "room"] (spD K ye)
abbrev Q26 : Prop := qB P w K mg base 4 "best_rows" ["store", "room"] (spD K va)
abbrev Q27 : Prop := qB P w K mg base 1 "need_few" ["number"] (spD K qax)
abbrev Q28 : Prop := qB P w K mg base 6 "need_asked" ["store", "number"] (spD K vL)
abbrev Q29 : Prop := qB P w K mg base 7 "best_worths" ["store", "room"] (spD K yL)
abbrev Q30 : Prop := qB P w K mg base 8 "best_worth" ["store", "room"] (spD K uo)
abbrev Q31 : Prop := qB P w K mg base 1 "keeps_steps" ["numbers", "steps"] (spD K zY)
abbrev Q32 : Prop := qB P w K mg base 1 "loss" ["kind", "first"] (spD K qdF)
abbrev Q33 : Prop := qB P w K mg base 4 "all_steps" ["store"] (spD K ud)
abbrev Q34 : Prop := qB P w K mg base 5 "is_rest_paper" ["thing", "store"] (spD K jT)
abbrev Q35 : Prop := qB P w K mg base 8 "rest_bound" ["thing", "store", "room"] (spD K uq)
abbrev Q36 : Prop := qB P w K mg base 1 "taken_together" ["store", "load", "part"] (spD K z7)
abbrev Q37 : Prop := qB P w K mg base 3 "can_take" ["kind", "times"] (spD K yW)
abbrev Q38 : Prop := qB P w K mg base 6 "is_load" ["thing", "store"] (spD K qae)
abbrev Q39 : Prop := qB P w K mg base 7 "need_load" ["store", "thing"] (spD K vd)
abbrev Q40 : Prop := qB P w K mg base 8 "fits" ["store", "load", "room"] (spD K qfo)
abbrev Q41 : Prop := qB P w K mg base 8 "worth" ["store", "load"] (spD K qcK)
abbrev Q42 : Prop := qB P w K mg base 1 "is_last_in" ["kind", "worths", "room"] (spD K ji)
abbrev Q43 : Prop := qB P w K mg base 8 "endless_load" ["store", "room"] (spD K yi)
abbrev Q44 : Prop := qB P w K mg base 9 "_law_room_right" ["store", "room", "begun", "paper"] (spD K zb)
abbrev Q45 : Prop := qB P w K mg base 1 "lowered" ["numbers", "steps"] (spD K uR)
abbrev Q46 : Prop := qB P w K mg base 7 "rest_paper" ["store"] (spD K yw)
abbrev Q47 : Prop := qB P w K mg base 7 "start" ["store"] (spD K qbC)
abbrev Q48 : Prop := qB P w K mg base 7 "lead" ["store"] (spD K qce)
abbrev Q49 : Prop := qB P w K mg base 2 "_law_endless" ["box", "most", "heaviest_v"] (qjL K ju)
abbrev Q50 : Prop := qB P w K mg base 1 "_law_box" ["script", "k"] (spD K yX)
end
theorem q0 (F : Fun K "out_of_rounds" "out_of_rounds" zu f fd) (m : mg "out_of_rounds" = some (.ref f)) (T : Txt K mg) : Q0 P w K mg base := by
 refine ⟨f, fd, ?_, m, F.kp, F.binds fun _ _ _ _ _ _ us hl => match us, hl with | [_, _], _ => rfl⟩
 exact qv (N := ["first", "worths", "weight"]) (O := []) (body := ua) F vm (by decide) fun cdv A outer s H E B hr => (qg (qU (i := 2) vm.nd (qM qx qw (qa 0) (gI T.c_WEIGHT)))
   (qk (qz (j4 (fo := none) rfl (qhj rfl T.b_range (qc (qa 2) (qc (qF zr zt rfl T.b_len y3 (qc (qa 1) qf)) qf))) (cs ["first", "worths", "weight"] ["room", "worths", "first", "weight"] 1 [1, 0, 2] (qd zu)) (f0 [1, 0, 2] []) (fun _ _ _ _ _ _ _ _ _ _ _ => ⟨(qC (i := 0) (nd ["room", "worths", "first", "weight"])), (qgR (zB (wy hr) uu (qM qx qw (qa 1) (qa 0)) (qm qH qI (qM qx qw (qa 1) (qm yI jr (qa 0) (qa 3))) (qM qx qw (qa 2) (gI T.c_WORTH))) (qS _))), (qa 0)⟩)))))
theorem je : qr ["store", "product", "kind"] ["store"] (qd zo) := ⟨rfl, rfl, rfl, by decide +kernel, rfl, by decide +kernel, by decide +kernel⟩
theorem q1 (F : Fun K "weights_product" "weights_product" zo f fd) (m : mg "weights_product" = some (.ref f)) (T : Txt K mg) : Q1 P w K mg base := by
 refine ⟨f, fd, ?_, m, F.kp, F.binds fun _ _ _ _ _ _ us hl => match us, hl with | [_], _ => rfl⟩
 exact qv (N := ["store", "product", "kind"]) (O := []) (body := yd) F je (by decide) fun cdv A outer s H E B hr => (qg (qU (i := 1) je.nd qu)
   (qg (vv PassesOwn.never rfl (vj (qa 0)) (qC (i := 2) je.nd) (qk (qU (i := 1) je.nd (qm jb zA (qa 1) (qM qx qw (qa 2) (gI T.c_WEIGHT))))))
   (qk (qz (qa 1)))))
theorem vg : qr ["store", "product", "ranks"] ["store"] (qd zU) := ⟨rfl, rfl, rfl, by decide +kernel, rfl, by decide +kernel, by decide +kernel⟩
theorem q2 (F : Fun K "lead_place" "lead_place" zU f fd) (m : mg "lead_place" = some (.ref f)) (T : Txt K mg) (C_weights_product : Q1 P w K mg base) : Q2 P w K mg base := by
 refine ⟨f, fd, ?_, m, F.kp, F.binds fun _ _ _ _ _ _ us hl => match us, hl with | [_], _ => rfl⟩
 exact qv (N := ["store", "product", "ranks"]) (O := []) (body := vH) F vg (by decide) fun cdv A outer s H E B hr => (qg (qU (i := 1) vg.nd (dC C_weights_product hr (qc (qa 0) qf)))
   (qg (qeg (i := 2) vg.nd (qef (fo := none) rfl (vj (qa 0)) (cs ["store", "product", "ranks"] ["kind", "product"] 1 [1] (qd zU)) (f0 [1] []) (fun _ _ _ _ _ _ _ _ _ _ _ => ⟨(qC (i := 0) (nd ["kind", "product"])), uG, (qa9 (qc (qm jb zA (qmV (qM qx qw (qa 0) (gI T.c_WORTH))) (qm qaZ wY (qa 1) (qM qx qw (qa 0) (gI T.c_WEIGHT)))) (qc (qM qx qw (qa 0) (gI T.c_WEIGHT)) qf)))⟩)) rfl (cs ["store", "product", "ranks"] ["kind", "product"] 1 [1] (qd zU)))
   (qk (qz (qlf PySem.F.slot_list_index qiT (qhp hr) qdq (qa 2) (qc (qF (qhn hr rfl) qfZ rfl T.b_min qeS (qc (qa 2) qf)) qf))))))
theorem qdT : qr ["store"] ["store"] (qd j7) := ⟨rfl, rfl, rfl, by decide +kernel, rfl, by decide +kernel, by decide +kernel⟩
theorem q3 (F : Fun K "lead_kind" "lead_kind" j7 f fd) (m : mg "lead_kind" = some (.ref f)) (T : Txt K mg) (C_lead_place : Q2 P w K mg base) : Q3 P w K mg base := by
 refine ⟨f, fd, ?_, m, F.kp, F.binds fun _ _ _ _ _ _ us hl => match us, hl with | [_], _ => rfl⟩
 exact qv (N := ["store"]) (O := []) (body := wK) F qdT (by decide) fun cdv A outer s H E B hr => (qk (qz (qM qx qw (qa 0) (dC C_lead_place hr (qc (qa 0) qf)))))
theorem qex : qr ["store"] ["store"] (qd j8) := ⟨rfl, rfl, rfl, by decide +kernel, rfl, by decide +kernel, by decide +kernel⟩
theorem q4 (F : Fun K "heaviest" "heaviest" j8 f fd) (m : mg "heaviest" = some (.ref f)) (T : Txt K mg) : Q4 P w K mg base := by
 refine ⟨f, fd, ?_, m, F.kp, F.binds fun _ _ _ _ _ _ us hl => match us, hl with | [_], _ => rfl⟩
 exact qv (N := ["store"]) (O := []) (body := qat) F qex (by decide) fun cdv A outer s H E B hr => (qk (qz (qF (qdm rfl) qb5 rfl T.b_max qdj (qc (j4 (fo := none) rfl (vj (qa 0)) (cs ["store"] ["kind"] 1 [] (qd j8)) (f0 [] []) (fun _ _ _ _ _ _ _ _ _ _ _ => ⟨(qC (i := 0) (nd ["kind"])), uG, (qM qx qw (qa 0) (gI T.c_WEIGHT))⟩)) qf))))
theorem uj : qr ["store", "weight"] ["store"] (qd ze) := ⟨rfl, rfl, rfl, by decide +kernel, rfl, by decide +kernel, by decide +kernel⟩
theorem q5 (F : Fun K "surely_in_rounds" "surely_in_rounds" ze f fd) (m : mg "surely_in_rounds" = some (.ref f)) (T : Txt K mg) (C_heaviest : Q4 P w K mg base) (C_lead_kind : Q3 P w K mg base) : Q5 P w K mg base := by
 refine ⟨f, fd, ?_, m, F.kp, F.binds fun _ _ _ _ _ _ us hl => match us, hl with | [_], _ => rfl⟩
 exact qv (N := ["store", "weight"]) (O := []) (body := jR) F uj (by decide) fun cdv A outer s H E B hr => (qg (qU (i := 1) uj.nd (qM qx qw (dC C_lead_kind hr (qc (qa 0) qf)) (gI T.c_WEIGHT)))
   (qk (qz (qm qH qI (qa 1) (qm jb zA (qm yI jr (qa 1) qu) (dC C_heaviest hr (qc (qa 0) qf)))))))
theorem jV : qr ["store", "worths", "room", "fitting"] ["store"] (qd zd) := ⟨rfl, rfl, rfl, by decide +kernel, rfl, by decide +kernel, by decide +kernel⟩
theorem q6 (F : Fun K "small_worths" "small_worths" zd f fd) (m : mg "small_worths" = some (.ref f)) (T : Txt K mg) (C_surely_in_rounds : Q5 P w K mg base) : Q6 P w K mg base := by
 refine ⟨f, fd, ?_, m, F.kp, F.binds fun _ _ _ _ _ _ us hl => match us, hl with | [_], _ => rfl⟩
 exact qv (N := ["store", "worths", "room", "fitting"]) (O := [1]) (body := uy) F jV (by decide) fun cdv A outer s H E B hr => (qg (qao (i := 1) jV.nd (qjK qf))
   (qg (vv PassesOwn.never rfl (yn rfl T.b_range (qc (dC C_surely_in_rounds hr (qc (qa 0) qf)) qf)) (qC (i := 2) jV.nd) (qg (qeg (i := 3) jV.nd (qef (fo := none) rfl (vj (qa 0)) (cs ["store", "worths", "room", "fitting"] ["kind", "room"] 1 [2] (qd zd)) (f0 [2] [1]) (fun _ _ _ _ _ _ _ _ _ _ _ => ⟨(qC (i := 0) (nd ["kind", "room"])), (qgR (zB qil qeN (qM qx qw (qa 0) (gI T.c_WEIGHT)) (qa 1) (qS _))), (qa 0)⟩)) rfl (cs ["store", "worths", "room", "fitting"] ["kind", "room"] 1 [2] (qd zd)))
   (qk (zk (qdg (i := 1) (qdw (qdv rfl) qb6 rfl T.b_max qdj (qc (j4 (fo := (some (1, 1))) rfl (vj (qa 3)) (cs ["store", "worths", "room", "fitting"] ["kind", "worths", "room"] 1 [1, 2] (qd zd)) (f1 1 [1, 2] [1] 1 1) (fun _ _ _ _ _ _ _ _ _ _ _ => ⟨(qC (i := 0) (nd ["kind", "worths", "room"])), uG, (qm qH qI (qb1 (i := 1) (qm yI jr (qa 2) (qM qx qw (qa 0) (gI T.c_WEIGHT)))) (qM qx qw (qa 0) (gI T.c_WORTH)))⟩)) qf) (qhw qu qj0)))))))
   (qk (qd8 (i := 1)))))
theorem yH : qr ["store", "worths", "first"] ["store"] (qd zQ) := ⟨rfl, rfl, rfl, by decide +kernel, rfl, by decide +kernel, by decide +kernel⟩
theorem q7 (F : Fun K "worths_before" "worths_before" zQ f fd) (m : mg "worths_before" = some (.ref f)) (T : Txt K mg) (C_out_of_rounds : Q0 P w K mg base) (C_lead_kind : Q3 P w K mg base) (C_small_worths : Q6 P w K mg base) : Q7 P w K mg base := by
 refine ⟨f, fd, ?_, m, F.kp, F.binds fun _ _ _ _ _ _ us hl => match us, hl with | [_], _ => rfl⟩
 exact qv (N := ["store", "worths", "first"]) (O := []) (body := ub) F yH (by decide) fun cdv A outer s H E B hr => (qg (qU (i := 1) yH.nd (dC C_small_worths hr (qc (qa 0) qf)))
   (qg (qU (i := 2) yH.nd (dC C_lead_kind hr (qc (qa 0) qf)))
   (qk (qz (qhx (qa 1) qkS (qkT (qm qH qI (qdw (qdv rfl) qb6 rfl T.b_max qdj (qc (dC C_out_of_rounds hr (qc (qa 2) (qc (qa 1) qf))) qf) (qhw (qm yI jr (qM qx qw (qa 2) (gI T.c_WEIGHT)) qu) qj0)) qu)))))))
theorem qcT : qr ["store"] ["store"] (qd jB) := ⟨rfl, rfl, rfl, by decide +kernel, rfl, by decide +kernel, by decide +kernel⟩
theorem q8 (F : Fun K "need_light" "need_light" jB f fd) (m : mg "need_light" = some (.ref f)) (T : Txt K mg) (C_heaviest : Q4 P w K mg base) : Q8 P w K mg base := by
 refine ⟨f, fd, ?_, m, F.kp, F.binds fun _ _ _ _ _ _ us hl => match us, hl with | [_], _ => rfl⟩
 exact qv (N := ["store"]) (O := []) (body := yo) F qcT (by decide) fun cdv A outer s H E B hr => (qk (yk (zB qdY qbd (dC C_heaviest hr (qc (qa 0) qf)) (gI T.c_WEIGHT_AT_MOST) (qS _)) (qk uH) qK))
theorem qbJ : qr ["store"] ["store"] (qd zF) := ⟨rfl, rfl, rfl, by decide +kernel, rfl, by decide +kernel, by decide +kernel⟩
theorem q9 (F : Fun K "need_endless" "need_endless" zF f fd) (m : mg "need_endless" = some (.ref f)) (T : Txt K mg) : Q9 P w K mg base := by
 refine ⟨f, fd, ?_, m, F.kp, F.binds fun _ _ _ _ _ _ us hl => match us, hl with | [_], _ => rfl⟩
 exact qv (N := ["store"]) (O := []) (body := js) F qbJ (by decide) fun cdv A outer s H E B hr => (qk (yk (DW.dt (qbO (zB (qb3 hr) qap (qa 0) (qa9 qf) (qS _)) (wv (uk (yZ (qF (qaR rfl) w5 rfl T.b_all qeT (qc (j4 (fo := none) rfl (vj (qa 0)) (cs ["store"] ["kind"] 1 [] (qd zF)) (f0 [] []) (fun _ _ _ _ _ _ _ _ _ _ _ => ⟨(qC (i := 0) (nd ["kind"])), uG, (wp qeG qco (qM qx qw (qa 0) (gI T.c_MOST)) qa7 (qS _))⟩)) qf))))))) (qk uH) qK))
theorem qey : qr ["thing"] ["thing"] (qd yQ) := ⟨rfl, rfl, rfl, by decide +kernel, rfl, by decide +kernel, by decide +kernel⟩
theorem q10 (F : Fun K "is_whole" "is_whole" yQ f fd) (m : mg "is_whole" = some (.ref f)) (T : Txt K mg) : Q10 P w K mg base := by
 refine ⟨f, fd, ?_, m, F.kp, F.binds fun _ _ _ _ _ _ us hl => match us, hl with | [_], _ => rfl⟩
 exact qv (N := ["thing"]) (O := []) (body := qau) F qey (by decide) fun cdv A outer s H E B hr => (qk (qz (qdc (qbZ qkR rfl T.b_isinstance rfl T.b_int qmY (qa 0) jk) (qaF (qmy (qbZ qiA rfl T.b_isinstance rfl T.b_bool qk7 (qa 0) jk))))))
theorem qez : qr ["thing"] ["thing"] (qd yR) := ⟨rfl, rfl, rfl, by decide +kernel, rfl, by decide +kernel, by decide +kernel⟩
theorem q11 (F : Fun K "is_count" "is_count" yR f fd) (m : mg "is_count" = some (.ref f)) (T : Txt K mg) (C_is_whole : Q10 P w K mg base) : Q11 P w K mg base := by
 refine ⟨f, fd, ?_, m, F.kp, F.binds fun _ _ _ _ _ _ us hl => match us, hl with | [_], _ => rfl⟩
 exact qv (N := ["thing"]) (O := []) (body := qav) F qez (by decide) fun cdv A outer s H E B hr => (qk (qz (qdc (dC C_is_whole hr (qc (qa 0) qf)) (qaF (wp qku qgK (qa 0) qu (qS _))))))
theorem qgh : qr ["thing"] ["thing"] (qd uO) := ⟨rfl, rfl, rfl, by decide +kernel, rfl, by decide +kernel, by decide +kernel⟩
theorem q12 (F : Fun K "is_kind" "is_kind" uO f fd) (m : mg "is_kind" = some (.ref f)) (T : Txt K mg) (C_is_count : Q11 P w K mg base) : Q12 P w K mg base := by
 refine ⟨f, fd, ?_, m, F.kp, F.binds fun _ _ _ _ _ _ us hl => match us, hl with | [_], _ => rfl⟩
 exact qv (N := ["thing"]) (O := []) (body := qbz) F qgh (by decide) fun cdv A outer s H E B hr => (qg (yk (DW.dt (qbO (uk (yZ (qbZ wZ rfl T.b_isinstance rfl T.b_tuple uY (qa 0) jk))) (wv (zB (wy hr) uu (qF zr zt rfl T.b_len y3 (qc (qa 0) qf)) qu (qS _))))) (qk (qz vo)) qK)
   (qg (yk (DW.dt (qbO (uk (yZ (dC C_is_count hr (qc (qM qx qw (qa 0) (gI T.c_WEIGHT)) qf)))) (wv (zB (qb3 hr) qap (qM qx qw (qa 0) (gI T.c_WEIGHT)) qu (qS _))))) (qk (qz vo)) qK)
   (qk (qz (qdc (dC C_is_count hr (qc (qM qx qw (qa 0) (gI T.c_WORTH)) qf)) (qaF (qkK (wp qeG qco (qM qx qw (qa 0) (gI T.c_MOST)) qa7 (qS _)) (qaF (dC C_is_count hr (qc (qM qx qw (qa 0) (gI T.c_MOST)) qf))))))))))
theorem qeA : qr ["thing"] ["thing"] (qd j9) := ⟨rfl, rfl, rfl, by decide +kernel, rfl, by decide +kernel, by decide +kernel⟩
theorem q13 (F : Fun K "is_store" "is_store" j9 f fd) (m : mg "is_store" = some (.ref f)) (T : Txt K mg) (C_is_kind : Q12 P w K mg base) : Q13 P w K mg base := by
 refine ⟨f, fd, ?_, m, F.kp, F.binds fun _ _ _ _ _ _ us hl => match us, hl with | [_], _ => rfl⟩
 exact qv (N := ["thing"]) (O := []) (body := qaw) F qeA (by decide) fun cdv A outer s H E B hr => (qg (yk (DW.dt (qbO (uk (yZ (qbZ wZ rfl T.b_isinstance rfl T.b_tuple uY (qa 0) jk))) (wv (zB qdY qbd (qF zr zt rfl T.b_len y3 (qc (qa 0) qf)) (gI T.c_KINDS_AT_MOST) (qS _))))) (qk (qz vo)) qK)
   (qk (qz (qF (qaR rfl) w5 rfl T.b_all qeT (qc (j4 (fo := none) rfl (vj (qa 0)) (cs ["thing"] ["part"] 1 [] (qd j9)) (f0 [] []) (fun _ _ _ _ _ _ _ _ _ _ _ => ⟨(qC (i := 0) (nd ["part"])), uG, (dC C_is_kind hr (qc (qa 0) qf))⟩)) qf)))))
theorem qcU : qr ["thing"] ["thing"] (qd jC) := ⟨rfl, rfl, rfl, by decide +kernel, rfl, by decide +kernel, by decide +kernel⟩
theorem q14 (F : Fun K "need_store" "need_store" jC f fd) (m : mg "need_store" = some (.ref f)) (T : Txt K mg) (C_is_store : Q13 P w K mg base) : Q14 P w K mg base := by
 refine ⟨f, fd, ?_, m, F.kp, F.binds fun _ _ _ _ _ _ us hl => match us, hl with | [_], _ => rfl⟩
 exact qv (N := ["thing"]) (O := []) (body := yp) F qcU (by decide) fun cdv A outer s H E B hr => (qk (yk (uk (yZ (dC C_is_store hr (qc (qa 0) qf)))) (qk uH) qK))
theorem vT : qr ["store"] ["store"] (qd qX) := ⟨rfl, rfl, rfl, by decide +kernel, rfl, by decide +kernel, by decide +kernel⟩
theorem q15 (F : Fun K "need_light_endless" "need_light_endless" qX f fd) (m : mg "need_light_endless" = some (.ref f)) (T : Txt K mg) (C_need_light : Q8 P w K mg base) (C_need_endless : Q9 P w K mg base) (C_need_store : Q14 P w K mg base) : Q15 P w K mg base := by
 refine ⟨f, fd, ?_, m, F.kp, F.binds fun _ _ _ _ _ _ us hl => match us, hl with | [_], _ => rfl⟩
 exact qv (N := ["store"]) (O := []) (body := zg) F vT (by decide) fun cdv A outer s H E B hr => (qg (zk (dC C_need_store hr (qc (qa 0) qf)))
   (qg (zk (dC C_need_endless hr (qc (qa 0) qf)))
   (qk (zk (dC C_need_light hr (qc (qa 0) qf))))))
theorem qh8 : qr ["store"] ["store"] (qd v4) := ⟨rfl, rfl, rfl, by decide +kernel, rfl, by decide +kernel, by decide +kernel⟩
theorem q16 (F : Fun K "before" "before" v4 f fd) (m : mg "before" = some (.ref f)) (T : Txt K mg) (C_worths_before : Q7 P w K mg base) (C_need_light_endless : Q15 P w K mg base) : Q16 P w K mg base := by
 refine ⟨f, fd, ?_, m, F.kp, F.binds fun _ _ _ _ _ _ us hl => match us, hl with | [_], _ => rfl⟩
 exact qv (N := ["store"]) (O := []) (body := qcJ) F qh8 (by decide) fun cdv A outer s H E B hr => (qg (zk (dC C_need_light_endless hr (qc (qa 0) qf)))
   (qk (qz (dC C_worths_before hr (qc (qa 0) qf)))))
theorem qbK : qr ["first", "worths", "room"] ["first", "worths", "room"] (qd z8) := ⟨rfl, rfl, rfl, by decide +kernel, rfl, by decide +kernel, by decide +kernel⟩
theorem q17 (F : Fun K "rounds_taken" "rounds_taken" z8 f fd) (m : mg "rounds_taken" = some (.ref f)) (T : Txt K mg) : Q17 P w K mg base := by
 refine ⟨f, fd, ?_, m, F.kp, F.binds fun _ _ _ _ _ _ us hl => match us, hl with | [_, _, _], _ => rfl⟩
 exact qv (N := ["first", "worths", "room"]) (O := []) (body := uA) F qbK (by decide) fun cdv A outer s H E B hr => (qg (yk (zB qfE qbY (qa 2) (qF zr zt rfl T.b_len y3 (qc (qa 1) qf)) (qS _)) (qk (qz qu)) qK)
   (qk (qz (qm qH qI (qm qaZ wY (qm yI jr (qa 2) (qF zr zt rfl T.b_len y3 (qc (qa 1) qf))) (qM qx qw (qa 0) (gI T.c_WEIGHT))) qu))))
theorem qcV : qr ["thing"] ["thing"] (qd jD) := ⟨rfl, rfl, rfl, by decide +kernel, rfl, by decide +kernel, by decide +kernel⟩
theorem q18 (F : Fun K "need_count" "need_count" jD f fd) (m : mg "need_count" = some (.ref f)) (T : Txt K mg) (C_is_count : Q11 P w K mg base) : Q18 P w K mg base := by
 refine ⟨f, fd, ?_, m, F.kp, F.binds fun _ _ _ _ _ _ us hl => match us, hl with | [_], _ => rfl⟩
 exact qv (N := ["thing"]) (O := []) (body := yq) F qcV (by decide) fun cdv A outer s H E B hr => (qk (yk (uk (yZ (dC C_is_count hr (qc (qa 0) qf)))) (qk uH) qK))
theorem vU : qr ["store", "room"] ["store", "room"] (qd qY) := ⟨rfl, rfl, rfl, by decide +kernel, rfl, by decide +kernel, by decide +kernel⟩
theorem q19 (F : Fun K "need_endless_asked" "need_endless_asked" qY f fd) (m : mg "need_endless_asked" = some (.ref f)) (T : Txt K mg) (C_need_light_endless : Q15 P w K mg base) (C_need_count : Q18 P w K mg base) (C_need_store : Q14 P w K mg base) : Q19 P w K mg base := by
 refine ⟨f, fd, ?_, m, F.kp, F.binds fun _ _ _ _ _ _ us hl => match us, hl with | [_, _], _ => rfl⟩
 exact qv (N := ["store", "room"]) (O := []) (body := zh) F vU (by decide) fun cdv A outer s H E B hr => (qg (zk (dC C_need_store hr (qc (qa 0) qf)))
   (qg (zk (dC C_need_count hr (qc (qa 1) qf)))
   (qk (zk (dC C_need_light_endless hr (qc (qa 0) qf))))))
theorem jw : qr ["store", "room", "worths", "first", "rounds"] ["store", "room"] (qd zR) := ⟨rfl, rfl, rfl, by decide +kernel, rfl, by decide +kernel, by decide +kernel⟩
theorem q20 (F : Fun K "endless_worth" "endless_worth" zR f fd) (m : mg "endless_worth" = some (.ref f)) (T : Txt K mg) (C_rounds_taken : Q17 P w K mg base) (C_lead_kind : Q3 P w K mg base) (C_worths_before : Q7 P w K mg base) (C_need_endless_asked : Q19 P w K mg base) : Q20 P w K mg base := by
 refine ⟨f, fd, ?_, m, F.kp, F.binds fun _ _ _ _ _ _ us hl => match us, hl with | [_, _], _ => rfl⟩
 exact qv (N := ["store", "room", "worths", "first", "rounds"]) (O := []) (body := uc) F jw (by decide) fun cdv A outer s H E B hr => (qg (zk (dC C_need_endless_asked hr (qc (qa 0) (qc (qa 1) qf))))
   (qg (qU (i := 2) jw.nd (dC C_worths_before hr (qc (qa 0) qf)))
   (qg (qU (i := 3) jw.nd (dC C_lead_kind hr (qc (qa 0) qf)))
   (qg (qU (i := 4) jw.nd (dC C_rounds_taken hr (qc (qa 3) (qc (qa 2) (qc (qa 1) qf)))))
   (qk (qz (qm qH qI (qM qx qw (qa 2) (qm yI jr (qa 1) (qm qcz qaV (qa 4) (qM qx qw (qa 3) (gI T.c_WEIGHT))))) (qm qcz qaV (qa 4) (qM qx qw (qa 3) (gI T.c_WORTH))))))))))
theorem vV : qr ["box", "many", "left", "digit"] ["box", "many"] (qd ya) := ⟨rfl, rfl, rfl, by decide +kernel, rfl, by decide +kernel, by decide +kernel⟩
theorem q21 (F : Fun K "_law_take" "_law_take" ya f fd) (m : mg "_law_take" = some (.ref f)) (T : Txt K mg) : Q21 P w K mg base := by
 refine ⟨f, fd, ?_, m, F.kp, F.binds fun _ _ _ _ _ _ us hl => match us, hl with | [_, _], _ => rfl⟩
 show qc2 P w K mg base CX0 1 f fd ["box", "many"] (qjL K (qcr (["box", "many", "left", "digit"] : List Str).length (["box", "many"] : List Str).length u7))
 refine qmM (N := ["box", "many", "left", "digit"]) (ps := ["box", "many"]) (k := 0) (O := [0]) (body := u7) F vV ?a ?a0 ?b
 case a => decide
 case a0 => decide
 intro cdv A outer s H E B Io S hr
 exact (qg (qjE (qF qdZ qdf rfl T.b_divmod qgZ (qc (qb1 (i := 0) qu) (qc (qa 1) qf))) (wX (n := 2) rfl (zl (qC (i := 2) vV.nd) (zl (qC (i := 3) vV.nd) uU))))
   (qg (qcq (i := 0) (qa 2) qu)
   (qk (qz (qa 3)))))
theorem wD : qr ["kind", "room", "alone"] ["kind", "room"] (qd jm) := ⟨rfl, rfl, rfl, by decide +kernel, rfl, by decide +kernel, by decide +kernel⟩
theorem q22 (F : Fun K "most_within" "most_within" jm f fd) (m : mg "most_within" = some (.ref f)) (T : Txt K mg) : Q22 P w K mg base := by
 refine ⟨f, fd, ?_, m, F.kp, F.binds fun _ _ _ _ _ _ us hl => match us, hl with | [_, _], _ => rfl⟩
 exact qv (N := ["kind", "room", "alone"]) (O := []) (body := u8) F wD (by decide) fun cdv A outer s H E B hr => (qg (qU (i := 2) wD.nd (qm qaZ wY (qa 1) (qM qx qw (qa 0) (gI T.c_WEIGHT))))
   (qk (qz (qop (zB qeG qco (qM qx qw (qa 0) (gI T.c_MOST)) qa7 (qS _)) (qa 2) (qF (qa1 rfl) qbf rfl T.b_min qeS (qc (qa 2) (qc (qM qx qw (qa 0) (gI T.c_MOST)) qf)))))))
theorem qdU : qr ["kind", "times", "room"] ["kind", "times", "room"] (qd yb) := ⟨rfl, rfl, rfl, by decide +kernel, rfl, by decide +kernel, by decide +kernel⟩
theorem q23 (F : Fun K "room_left" "room_left" yb f fd) (m : mg "room_left" = some (.ref f)) (T : Txt K mg) : Q23 P w K mg base := by
 refine ⟨f, fd, ?_, m, F.kp, F.binds fun _ _ _ _ _ _ us hl => match us, hl with | [_, _, _], _ => rfl⟩
 exact qv (N := ["kind", "times", "room"]) (O := []) (body := wL) F qdU (by decide) fun cdv A outer s H E B hr => (qk (qz (qm yI jr (qa 2) (qm jb zA (qa 1) (qM qx qw (qa 0) (gI T.c_WEIGHT))))))
theorem qcW : qr ["kind", "times", "row", "room"] ["kind", "times", "row", "room"] (qd jE) := ⟨rfl, rfl, rfl, by decide +kernel, rfl, by decide +kernel, by decide +kernel⟩
theorem q24 (F : Fun K "worth_with" "worth_with" jE f fd) (m : mg "worth_with" = some (.ref f)) (T : Txt K mg) (C_room_left : Q23 P w K mg base) : Q24 P w K mg base := by
 refine ⟨f, fd, ?_, m, F.kp, F.binds fun _ _ _ _ _ _ us hl => match us, hl with | [_, _, _, _], _ => rfl⟩
 exact qv (N := ["kind", "times", "row", "room"]) (O := []) (body := vK) F qcW (by decide) fun cdv A outer s H E B hr => (qk (qz (qm qH qI (qm jb zA (qa 1) (qM qx qw (qa 0) (gI T.c_WORTH))) (qM qx qw (qa 2) (dC C_room_left hr (qc (qa 0) (qc (qa 1) (qc (qa 3) qf))))))))
theorem qdV : qr ["kind", "row", "room"] ["kind", "row", "room"] (qd jx) := ⟨rfl, rfl, rfl, by decide +kernel, rfl, by decide +kernel, by decide +kernel⟩
theorem q25 (F : Fun K "best_with" "best_with" jx f fd) (m : mg "best_with" = some (.ref f)) (T : Txt K mg) (C_most_within : Q22 P w K mg base) (C_worth_with : Q24 P w K mg base) : Q25 P w K mg base := by
 refine ⟨f, fd, ?_, m, F.kp, F.binds fun _ _ _ _ _ _ us hl => match us, hl with | [_, _, _], _ => rfl⟩
 exact qv (N := ["kind", "row", "room"]) (O := []) (body := wM) F qdV (by decide) fun cdv A outer s H E B hr => (qk (qz (qF (qdm rfl) qb5 rfl T.b_max qdj (qc (j4 (fo := none) rfl (yn rfl T.b_range (qc (qm qH qI (dC C_most_within hr (qc (qa 0) (qc (qa 2) qf))) qu) qf)) (cs ["kind", "row", "room"] ["times", "kind", "row", "room"] 1 [0, 1, 2] (qd jx)) (f0 [0, 1, 2] []) (fun _ _ _ _ _ _ _ _ _ _ _ => ⟨(qC (i := 0) (nd ["times", "kind", "row", "room"])), uG, (dC C_worth_with hr (qc (qa 1) (qc (qa 0) (qc (qa 2) (qc (qa 3) qf)))))⟩)) qf))))
theorem vW : qr ["store", "room", "rows", "kind"] ["store", "room"] (qd jy) := ⟨rfl, rfl, rfl, by decide +kernel, rfl, by decide +kernel, by decide +kernel⟩
theorem q26 (F : Fun K "best_rows" "best_rows" jy f fd) (m : mg "best_rows" = some (.ref f)) (T : Txt K mg) (C_best_with : Q25 P w K mg base) : Q26 P w K mg base := by
 refine ⟨f, fd, ?_, m, F.kp, F.binds fun _ _ _ _ _ _ us hl => match us, hl with | [_, _], _ => rfl⟩
 exact qv (N := ["store", "room", "rows", "kind"]) (O := [2]) (body := wN) F vW (by decide) fun cdv A outer s H E B hr => (qg (qao (i := 2) vW.nd (qlm (qc (qm jb zA (qba (qc qu qf)) (qm qH qI (qa 1) qu)) qf)))
   (qg (vv PassesOwn.never rfl (qng rfl T.b_reversed (qc (qa 0) qf)) (qC (i := 3) vW.nd) (qk (zk (qhB (i := 2) (j4 (fo := (some (2, 2))) rfl (yn rfl T.b_range (qc (qm qH qI (qa 1) qu) qf)) (cs ["store", "room", "rows", "kind"] ["size", "kind", "rows"] 1 [3, 2] (qd jy)) (f1 1 [3, 2] [2] 2 2) (fun _ _ _ _ _ _ _ _ _ _ _ => ⟨(qC (i := 0) (nd ["size", "kind", "rows"])), uG, (dC C_best_with hr (qc (qa 1) (qc (qb1 (i := 2) qu) (qc (qa 0) qf))))⟩))))))
   (qk (qd8 (i := 2)))))
theorem qeB : qr ["number"] ["number"] (qd yS) := ⟨rfl, rfl, rfl, by decide +kernel, rfl, by decide +kernel, by decide +kernel⟩
theorem q27 (F : Fun K "need_few" "need_few" yS f fd) (m : mg "need_few" = some (.ref f)) (T : Txt K mg) : Q27 P w K mg base := by
 refine ⟨f, fd, ?_, m, F.kp, F.binds fun _ _ _ _ _ _ us hl => match us, hl with | [_], _ => rfl⟩
 exact qv (N := ["number"]) (O := []) (body := uQ) F qeB (by decide) fun cdv A outer s H E B hr => (qk (yk (zB qdY qbd (qa 0) (gI T.c_ASKED_AT_MOST) (qS _)) (qk uH) qK))
theorem qcX : qr ["store", "number"] ["store", "number"] (qd jF) := ⟨rfl, rfl, rfl, by decide +kernel, rfl, by decide +kernel, by decide +kernel⟩
theorem q28 (F : Fun K "need_asked" "need_asked" jF f fd) (m : mg "need_asked" = some (.ref f)) (T : Txt K mg) (C_need_few : Q27 P w K mg base) (C_need_count : Q18 P w K mg base) (C_need_store : Q14 P w K mg base) : Q28 P w K mg base := by
 refine ⟨f, fd, ?_, m, F.kp, F.binds fun _ _ _ _ _ _ us hl => match us, hl with | [_, _], _ => rfl⟩
 exact qv (N := ["store", "number"]) (O := []) (body := yu) F qcX (by decide) fun cdv A outer s H E B hr => (qg (zk (dC C_need_store hr (qc (qa 0) qf)))
   (qg (zk (dC C_need_count hr (qc (qa 1) qf)))
   (qk (zk (dC C_need_few hr (qc (qa 1) qf))))))
theorem qbU : qr ["store", "room"] ["store", "room"] (qd jn) := ⟨rfl, rfl, rfl, by decide +kernel, rfl, by decide +kernel, by decide +kernel⟩
theorem q29 (F : Fun K "best_worths" "best_worths" jn f fd) (m : mg "best_worths" = some (.ref f)) (T : Txt K mg) (C_best_rows : Q26 P w K mg base) (C_need_asked : Q28 P w K mg base) : Q29 P w K mg base := by
 refine ⟨f, fd, ?_, m, F.kp, F.binds fun _ _ _ _ _ _ us hl => match us, hl with | [_, _], _ => rfl⟩
 exact qv (N := ["store", "room"]) (O := []) (body := vb) F qbU (by decide) fun cdv A outer s H E B hr => (qg (zk (dC C_need_asked hr (qc (qa 0) (qc (qa 1) qf))))
   (qk (qz (qM qx qw (dC C_best_rows hr (qc (qa 0) (qc (qa 1) qf))) qu))))
theorem qcY : qr ["store", "room"] ["store", "room"] (qd jG) := ⟨rfl, rfl, rfl, by decide +kernel, rfl, by decide +kernel, by decide +kernel⟩
theorem q30 (F : Fun K "best_worth" "best_worth" jG f fd) (m : mg "best_worth" = some (.ref f)) (T : Txt K mg) (C_best_worths : Q29 P w K mg base) : Q30 P w K mg base := by
 refine ⟨f, fd, ?_, m, F.kp, F.binds fun _ _ _ _ _ _ us hl => match us, hl with | [_, _], _ => rfl⟩
 exact qv (N := ["store", "room"]) (O := []) (body := vM) F qcY (by decide) fun cdv A outer s H E B hr => (qk (qz (qM qx qw (dC C_best_worths hr (qc (qa 0) (qc (qa 1) qf))) (qa 1))))
theorem jv : qr ["numbers", "steps", "place", "number", "far", "more"] ["numbers", "steps"] (qd jo) := ⟨rfl, rfl, rfl, by decide +kernel, rfl, by decide +kernel, by decide +kernel⟩
theorem q31 (F : Fun K "keeps_steps" "keeps_steps" jo f fd) (m : mg "keeps_steps" = some (.ref f)) (T : Txt K mg) : Q31 P w K mg base := by
 refine ⟨f, fd, ?_, m, F.kp, F.binds fun _ _ _ _ _ _ us hl => match us, hl with | [_, _], _ => rfl⟩
 exact qv (N := ["numbers", "steps", "place", "number", "far", "more"]) (O := []) (body := vc) F jv (by decide) fun cdv A outer s H E B hr => (qg (vv PassesOwn.never rfl (qe6 rfl T.b_enumerate (qc (qa 0) qf)) (wX (n := 2) rfl (zl (qC (i := 2) jv.nd) (zl (qC (i := 3) jv.nd) uU))) (qk (vv PassesOwn.never rfl (vj (qa 1)) (wX (n := 2) rfl (zl (qC (i := 4) jv.nd) (zl (qC (i := 5) jv.nd) uU))) (qk (yk (zB qdY qbd (qM qx qw (qa 0) (qm wU uV (qm qH qI (qa 2) (qa 4)) (qF zr zt rfl T.b_len y3 (qc (qa 0) qf)))) (qm qH qI (qa 3) (qa 5)) (qS _)) (qk (qz vo)) qK)))))
   (qk (qz vo)))
theorem qlJ : qr ["kind", "first"] ["kind", "first"] (qd qcb) := ⟨rfl, rfl, rfl, by decide +kernel, rfl, by decide +kernel, by decide +kernel⟩
theorem q32 (F : Fun K "loss" "loss" qcb f fd) (m : mg "loss" = some (.ref f)) (T : Txt K mg) : Q32 P w K mg base := by
 refine ⟨f, fd, ?_, m, F.kp, F.binds fun _ _ _ _ _ _ us hl => match us, hl with | [_, _], _ => rfl⟩
 exact qv (N := ["kind", "first"]) (O := []) (body := qhR) F qlJ (by decide) fun cdv A outer s H E B hr => (qk (qz (qm yI jr (qm jb zA (qM qx qw (qa 0) (gI T.c_WEIGHT)) (qM qx qw (qa 1) (gI T.c_WORTH))) (qm jb zA (qM qx qw (qa 0) (gI T.c_WORTH)) (qM qx qw (qa 1) (gI T.c_WEIGHT))))))
theorem qaJ : qr ["store", "first"] ["store"] (qd jz) := ⟨rfl, rfl, rfl, by decide +kernel, rfl, by decide +kernel, by decide +kernel⟩
theorem q33 (F : Fun K "all_steps" "all_steps" jz f fd) (m : mg "all_steps" = some (.ref f)) (T : Txt K mg) (C_loss : Q32 P w K mg base) (C_lead_kind : Q3 P w K mg base) : Q33 P w K mg base := by
 refine ⟨f, fd, ?_, m, F.kp, F.binds fun _ _ _ _ _ _ us hl => match us, hl with | [_], _ => rfl⟩
 exact qv (N := ["store", "first"]) (O := []) (body := wO) F qaJ (by decide) fun cdv A outer s H E B hr => (qg (qU (i := 1) qaJ.nd (dC C_lead_kind hr (qc (qa 0) qf)))
   (qk (qz (qm qH qI (qba (qc (qa9 (qc qu (qc (qM qx qw (qa 1) (gI T.c_WORTH)) qf))) qf)) (j4 (fo := none) rfl (vj (qa 0)) (cs ["store", "first"] ["kind", "first"] 1 [1] (qd jz)) (f0 [1] []) (fun _ _ _ _ _ _ _ _ _ _ _ => ⟨(qC (i := 0) (nd ["kind", "first"])), uG, (qa9 (qc (qM qx qw (qa 0) (gI T.c_WEIGHT)) (qc (dC C_loss hr (qc (qa 0) (qc (qa 1) qf))) qf)))⟩))))))
theorem qaP : qr ["thing", "store"] ["thing", "store"] (qd zv) := ⟨rfl, rfl, rfl, by decide +kernel, rfl, by decide +kernel, by decide +kernel⟩
theorem q34 (F : Fun K "is_rest_paper" "is_rest_paper" zv f fd) (m : mg "is_rest_paper" = some (.ref f)) (T : Txt K mg) (C_keeps_steps : Q31 P w K mg base) (C_all_steps : Q33 P w K mg base) (C_is_count : Q11 P w K mg base) (C_lead_kind : Q3 P w K mg base) : Q34 P w K mg base := by
 refine ⟨f, fd, ?_, m, F.kp, F.binds fun _ _ _ _ _ _ us hl => match us, hl with | [_, _], _ => rfl⟩
 exact qv (N := ["thing", "store"]) (O := []) (body := ue) F qaP (by decide) fun cdv A outer s H E B hr => (qg (yk (DW.dt (qbO (uk (yZ (qbZ wZ rfl T.b_isinstance rfl T.b_tuple uY (qa 0) jk))) (wv (zB (wy hr) uu (qF zr zt rfl T.b_len y3 (qc (qa 0) qf)) (qM qx qw (dC C_lead_kind hr (qc (qa 1) qf)) (gI T.c_WEIGHT)) (qS _))))) (qk (qz vo)) qK)
   (qg (yk (DW.dt (qbO (uk (yZ (qF (qaR rfl) w5 rfl T.b_all qeT (qc (j4 (fo := none) rfl (vj (qa 0)) (cs ["thing", "store"] ["number"] 1 [] (qd zv)) (f0 [] []) (fun _ _ _ _ _ _ _ _ _ _ _ => ⟨(qC (i := 0) (nd ["number"])), uG, (dC C_is_count hr (qc (qa 0) qf))⟩)) qf)))) (wv (zB (wy hr) uu (qM qx qw (qa 0) qu) qu (qS _))))) (qk (qz vo)) qK)
   (qk (qz (dC C_keeps_steps hr (qc (qa 0) (qc (dC C_all_steps hr (qc (qa 1) qf)) qf)))))))
theorem qai : qr ["thing", "store", "room", "first"] ["thing", "store", "room"] (qd jH) := ⟨rfl, rfl, rfl, by decide +kernel, rfl, by decide +kernel, by decide +kernel⟩
theorem q35 (F : Fun K "rest_bound" "rest_bound" jH f fd) (m : mg "rest_bound" = some (.ref f)) (T : Txt K mg) (C_lead_kind : Q3 P w K mg base) (C_is_rest_paper : Q34 P w K mg base) (C_need_endless_asked : Q19 P w K mg base) : Q35 P w K mg base := by
 refine ⟨f, fd, ?_, m, F.kp, F.binds fun _ _ _ _ _ _ us hl => match us, hl with | [_, _, _], _ => rfl⟩
 exact qv (N := ["thing", "store", "room", "first"]) (O := []) (body := vN) F qai (by decide) fun cdv A outer s H E B hr => (qg (zk (dC C_need_endless_asked hr (qc (qa 1) (qc (qa 2) qf))))
   (qg (yk (uk (yZ (dC C_is_rest_paper hr (qc (qa 0) (qc (qa 1) qf))))) (qk (qz qa7)) qK)
   (qg (qU (i := 3) qai.nd (dC C_lead_kind hr (qc (qa 1) qf)))
   (qk (qz (qm qaZ wY (qm yI jr (qm qcz qaV (qa 2) (qM qx qw (qa 3) (gI T.c_WORTH))) (qM qx qw (qa 0) (qm wU uV (qa 2) (qM qx qw (qa 3) (gI T.c_WEIGHT))))) (qM qx qw (qa 3) (gI T.c_WEIGHT))))))))
theorem qaD : qr ["store", "load", "part"] ["store", "load", "part"] (qd zf) := ⟨rfl, rfl, rfl, by decide +kernel, rfl, by decide +kernel, by decide +kernel⟩
theorem q36 (F : Fun K "taken_together" "taken_together" zf f fd) (m : mg "taken_together" = some (.ref f)) (T : Txt K mg) : Q36 P w K mg base := by
 refine ⟨f, fd, ?_, m, F.kp, F.binds fun _ _ _ _ _ _ us hl => match us, hl with | [_, _, _], _ => rfl⟩
 exact qv (N := ["store", "load", "part"]) (O := []) (body := yF) F qaD (by decide) fun cdv A outer s H E B hr => (qk (qz (qF (qiE rfl) qgN rfl T.b_sum qmX (qc (j4 (fo := none) rfl (qjN rfl T.b_zip (qc (qa 0) (qc (qa 1) qf))) (cs ["store", "load", "part"] ["kind", "times", "part"] 2 [2] (qd zf)) (f0 [2] []) (fun _ _ _ _ _ _ _ _ _ _ _ => ⟨(wX (n := 2) rfl (zl (qC (i := 0) (nd ["kind", "times", "part"])) (zl (qC (i := 1) (nd ["kind", "times", "part"])) uU))), uG, (qm qcz qaV (qM qx qw (qa 0) (qa 2)) (qa 1))⟩)) qf))))
theorem qeC : qr ["kind", "times"] ["kind", "times"] (qd yT) := ⟨rfl, rfl, rfl, by decide +kernel, rfl, by decide +kernel, by decide +kernel⟩
theorem q37 (F : Fun K "can_take" "can_take" yT f fd) (m : mg "can_take" = some (.ref f)) (T : Txt K mg) (C_is_count : Q11 P w K mg base) : Q37 P w K mg base := by
 refine ⟨f, fd, ?_, m, F.kp, F.binds fun _ _ _ _ _ _ us hl => match us, hl with | [_, _], _ => rfl⟩
 exact qv (N := ["kind", "times"]) (O := []) (body := qay) F qeC (by decide) fun cdv A outer s H E B hr => (qk (qz (qdc (dC C_is_count hr (qc (qa 1) qf)) (qaF (qkK (wp qeG qco (qM qx qw (qa 0) (gI T.c_MOST)) qa7 (qS _)) (qaF (wp qil qeN (qa 1) (qM qx qw (qa 0) (gI T.c_MOST)) (qS _))))))))
theorem qgi : qr ["thing", "store"] ["thing", "store"] (qd y9) := ⟨rfl, rfl, rfl, by decide +kernel, rfl, by decide +kernel, by decide +kernel⟩
theorem q38 (F : Fun K "is_load" "is_load" y9 f fd) (m : mg "is_load" = some (.ref f)) (T : Txt K mg) (C_can_take : Q37 P w K mg base) (C_need_store : Q14 P w K mg base) : Q38 P w K mg base := by
 refine ⟨f, fd, ?_, m, F.kp, F.binds fun _ _ _ _ _ _ us hl => match us, hl with | [_, _], _ => rfl⟩
 exact qv (N := ["thing", "store"]) (O := []) (body := qbA) F qgi (by decide) fun cdv A outer s H E B hr => (qg (zk (dC C_need_store hr (qc (qa 1) qf)))
   (qg (yk (DW.dt (qbO (uk (yZ (qbZ wZ rfl T.b_isinstance rfl T.b_tuple uY (qa 0) jk))) (wv (zB (wy hr) uu (qF zr zt rfl T.b_len y3 (qc (qa 0) qf)) (qF zr zt rfl T.b_len y3 (qc (qa 1) qf)) (qS _))))) (qk (qz vo)) qK)
   (qk (qz (qF (qaR rfl) w5 rfl T.b_all qeT (qc (j4 (fo := none) rfl (qjN rfl T.b_zip (qc (qa 1) (qc (qa 0) qf))) (cs ["thing", "store"] ["kind", "times"] 2 [] (qd y9)) (f0 [] []) (fun _ _ _ _ _ _ _ _ _ _ _ => ⟨(wX (n := 2) rfl (zl (qC (i := 0) (nd ["kind", "times"])) (zl (qC (i := 1) (nd ["kind", "times"])) uU))), uG, (dC C_can_take hr (qc (qa 0) (qc (qa 1) qf)))⟩)) qf))))))
theorem qdW : qr ["store", "thing"] ["store", "thing"] (qd yc) := ⟨rfl, rfl, rfl, by decide +kernel, rfl, by decide +kernel, by decide +kernel⟩
theorem q39 (F : Fun K "need_load" "need_load" yc f fd) (m : mg "need_load" = some (.ref f)) (T : Txt K mg) (C_is_load : Q38 P w K mg base) : Q39 P w K mg base := by
 refine ⟨f, fd, ?_, m, F.kp, F.binds fun _ _ _ _ _ _ us hl => match us, hl with | [_, _], _ => rfl⟩
 exact qv (N := ["store", "thing"]) (O := []) (body := uf) F qdW (by decide) fun cdv A outer s H E B hr => (qk (yk (uk (yZ (dC C_is_load hr (qc (qa 1) (qc (qa 0) qf))))) (qk uH) qK))
theorem qlK : qr ["store", "load", "room"] ["store", "load", "room"] (qd qcc) := ⟨rfl, rfl, rfl, by decide +kernel, rfl, by decide +kernel, by decide +kernel⟩
theorem q40 (F : Fun K "fits" "fits" qcc f fd) (m : mg "fits" = some (.ref f)) (T : Txt K mg) (C_taken_together : Q36 P w K mg base) (C_need_count : Q18 P w K mg base) (C_need_load : Q39 P w K mg base) : Q40 P w K mg base := by
 refine ⟨f, fd, ?_, m, F.kp, F.binds fun _ _ _ _ _ _ us hl => match us, hl with | [_, _, _], _ => rfl⟩
 exact qv (N := ["store", "load", "room"]) (O := []) (body := qhS) F qlK (by decide) fun cdv A outer s H E B hr => (qg (zk (dC C_need_load hr (qc (qa 0) (qc (qa 1) qf))))
   (qg (zk (dC C_need_count hr (qc (qa 2) qf)))
   (qk (qz (wp qil qeN (dC C_taken_together hr (qc (qa 0) (qc (qa 1) (qc (gI T.c_WEIGHT) qf)))) (qa 2) (qS _))))))
theorem qjt : qr ["store", "load"] ["store", "load"] (qd qar) := ⟨rfl, rfl, rfl, by decide +kernel, rfl, by decide +kernel, by decide +kernel⟩
theorem q41 (F : Fun K "worth" "worth" qar f fd) (m : mg "worth" = some (.ref f)) (T : Txt K mg) (C_taken_together : Q36 P w K mg base) (C_need_load : Q39 P w K mg base) : Q41 P w K mg base := by
 refine ⟨f, fd, ?_, m, F.kp, F.binds fun _ _ _ _ _ _ us hl => match us, hl with | [_, _], _ => rfl⟩
 exact qv (N := ["store", "load"]) (O := []) (body := qen) F qjt (by decide) fun cdv A outer s H E B hr => (qg (zk (dC C_need_load hr (qc (qa 0) (qc (qa 1) qf))))
   (qk (qz (dC C_taken_together hr (qc (qa 0) (qc (qa 1) (qc (gI T.c_WORTH) qf)))))))
theorem qcZ : qr ["kind", "worths", "room"] ["kind", "worths", "room"] (qd jI) := ⟨rfl, rfl, rfl, by decide +kernel, rfl, by decide +kernel, by decide +kernel⟩
theorem q42 (F : Fun K "is_last_in" "is_last_in" jI f fd) (m : mg "is_last_in" = some (.ref f)) (T : Txt K mg) : Q42 P w K mg base := by
 refine ⟨f, fd, ?_, m, F.kp, F.binds fun _ _ _ _ _ _ us hl => match us, hl with | [_, _, _], _ => rfl⟩
 exact qv (N := ["kind", "worths", "room"]) (O := []) (body := vO) F qcZ (by decide) fun cdv A outer s H E B hr => (qk (qz (qdc (wp qil qeN (qM qx qw (qa 0) (gI T.c_WEIGHT)) (qa 2) (qS _)) (qaF (wp (qb3 hr) qap (qm qH qI (qM qx qw (qa 1) (qm yI jr (qa 2) (qM qx qw (qa 0) (gI T.c_WEIGHT)))) (qM qx qw (qa 0) (gI T.c_WORTH))) (qM qx qw (qa 1) (qa 2)) (qS _))))))
theorem zx : qr ["store", "room", "worths", "place", "load", "left"] ["store", "room"] (qd zG) := ⟨rfl, rfl, rfl, by decide +kernel, rfl, by decide +kernel, by decide +kernel⟩
theorem q43 (F : Fun K "endless_load" "endless_load" zG f fd) (m : mg "endless_load" = some (.ref f)) (T : Txt K mg) (C_is_last_in : Q42 P w K mg base) (C_rounds_taken : Q17 P w K mg base) (C_lead_place : Q2 P w K mg base) (C_worths_before : Q7 P w K mg base) (C_need_endless_asked : Q19 P w K mg base) : Q43 P w K mg base := by
 refine ⟨f, fd, ?_, m, F.kp, F.binds fun _ _ _ _ _ _ us hl => match us, hl with | [_, _], _ => rfl⟩
 exact qv (N := ["store", "room", "worths", "place", "load", "left"]) (O := [4]) (body := uB) F zx (by decide) fun cdv A outer s H E B hr => (qg (zk (dC C_need_endless_asked hr (qc (qa 0) (qc (qa 1) qf))))
   (qg (qU (i := 2) zx.nd (dC C_worths_before hr (qc (qa 0) qf)))
   (qg (qU (i := 3) zx.nd (dC C_lead_place hr (qc (qa 0) qf)))
   (qg (qao (i := 4) zx.nd (qm8 (qba (qc qu qf)) (qF zr zt rfl T.b_len y3 (qc (qa 0) qf))))
   (qg (qcq (i := 4) (dC C_rounds_taken hr (qc (qM qx qw (qa 0) (qa 3)) (qc (qa 2) (qc (qa 1) qf)))) (qa 3))
   (qg (qU (i := 5) zx.nd (qm yI jr (qa 1) (qm jb zA (qb1 (i := 4) (qa 3)) (qM qx qw (qM qx qw (qa 0) (qa 3)) (gI T.c_WEIGHT)))))
   (qg (qeZ PassesOwn.never (zB qdY qbd (qM qx qw (qa 2) (qa 5)) qu (qS _)) (qg (qU (i := 3) zx.nd (qM qx qw (j4 (fo := none) rfl (qhd rfl T.b_enumerate (qc (qa 0) qf)) (cs ["store", "room", "worths", "place", "load", "left"] ["at", "kind", "worths", "left"] 2 [2, 5] (qd zG)) (f0 [2, 5] [4]) (fun _ _ _ _ _ _ _ _ _ _ _ => ⟨(wX (n := 2) rfl (zl (qC (i := 0) (nd ["at", "kind", "worths", "left"])) (zl (qC (i := 1) (nd ["at", "kind", "worths", "left"])) uU))), (qgR (yZ (dC C_is_last_in hr (qc (qa 1) (qc (qa 2) (qc (qa 3) qf)))))), (qa 0)⟩)) qu))
   (qg (qcq (i := 4) (qm qH qI (qb1 (i := 4) (qa 3)) qu) (qa 3))
   (qk (qU (i := 5) zx.nd (qm yI jr (qa 5) (qM qx qw (qM qx qw (qa 0) (qa 3)) (gI T.c_WEIGHT))))))))
   (qk (qz (qgT (i := 4) rfl T.b_tuple uY))))))))))
theorem jf : qr ["store", "room", "begun", "paper", "best", "load", "limit"] ["store", "room", "begun", "paper"] (qd zp) := ⟨rfl, rfl, rfl, by decide +kernel, rfl, by decide +kernel, by decide +kernel⟩
theorem q44 (F : Fun K "_law_room_right" "_law_room_right" zp f fd) (m : mg "_law_room_right" = some (.ref f)) (T : Txt K mg) (C_best_worth : Q30 P w K mg base) (C_rest_bound : Q35 P w K mg base) (C_fits : Q40 P w K mg base) (C_worth : Q41 P w K mg base) (C_endless_load : Q43 P w K mg base) (C_endless_worth : Q20 P w K mg base) : Q44 P w K mg base := by
 refine ⟨f, fd, ?_, m, F.kp, F.binds fun _ _ _ _ _ _ us hl => match us, hl with | [_, _, _, _], _ => rfl⟩
 exact qv (N := ["store", "room", "begun", "paper", "best", "load", "limit"]) (O := []) (body := yf) F jf (by decide) fun cdv A outer s H E B hr => (qg (qU (i := 4) jf.nd (dC C_endless_worth hr (qc (qa 0) (qc (qa 1) qf))))
   (qg (qU (i := 5) jf.nd (dC C_endless_load hr (qc (qa 0) (qc (qa 1) qf))))
   (qg (yk (DW.dt (qbO (uk (yZ (dC C_fits hr (qc (qa 0) (qc (qa 5) (qc (qa 1) qf)))))) (wv (zB (wy hr) uu (dC C_worth hr (qc (qa 0) (qc (qa 5) qf))) (qa 4) (qS _))))) (qk (qz vo)) qK)
   (qg (qU (i := 6) jf.nd (dC C_rest_bound hr (qc (qa 3) (qc (qa 0) (qc (qa 1) qf)))))
   (qg (yk (DW.dt (qbO (zB qfE qbY (qa 6) (qa 4) (qS _)) (wv (DW.dt (qgG (zB qku qgK (qa 1) (qa 2) (qS _)) (qd3 (zB (wy hr) uu (qa 6) (qa 4) (qS _)))))))) (qk (qz vo)) qK)
   (qk (qz (qkK (wp qdY qbd (qa 1) qu (qS _)) (qaF (wp (qb3 hr) qap (dC C_best_worth hr (qc (qa 0) (qc (qa 1) qf))) (qa 4) (qS _)))))))))))
theorem yg : qr ["numbers", "steps", "lower", "place", "number", "far", "more", "to"] ["numbers", "steps"] (qd uP) := ⟨rfl, rfl, rfl, by decide +kernel, rfl, by decide +kernel, by decide +kernel⟩
theorem q45 (F : Fun K "lowered" "lowered" uP f fd) (m : mg "lowered" = some (.ref f)) (T : Txt K mg) : Q45 P w K mg base := by
 refine ⟨f, fd, ?_, m, F.kp, F.binds fun _ _ _ _ _ _ us hl => match us, hl with | [_, _], _ => rfl⟩
 exact qv (N := ["numbers", "steps", "lower", "place", "number", "far", "more", "to"]) (O := [2]) (body := qbB) F yg (by decide) fun cdv A outer s H E B hr => (qg (qao (i := 2) yg.nd (qlk rfl T.b_list (qa 0)))
   (qg (vv PassesOwn.never rfl (qe6 rfl T.b_enumerate (qc (qa 0) qf)) (wX (n := 2) rfl (zl (qC (i := 3) yg.nd) (zl (qC (i := 4) yg.nd) uU))) (qk (vv PassesOwn.never rfl (vj (qa 1)) (wX (n := 2) rfl (zl (qC (i := 5) yg.nd) (zl (qC (i := 6) yg.nd) uU))) (qg (qU (i := 7) yg.nd (qm wU uV (qm qH qI (qa 3) (qa 5)) (qF zr zt rfl T.b_len y3 (qc (qa 0) qf))))
   (qk (qcq (i := 2) (qF (qa1 rfl) qbf rfl T.b_min qeS (qc (qb1 (i := 2) (qa 7)) (qc (qm qH qI (qa 4) (qa 6)) qf))) (qa 7)))))))
   (qk (qd8 (i := 2)))))
theorem jW : qr ["store", "first", "steps", "numbers"] ["store"] (qd zV) := ⟨rfl, rfl, rfl, by decide +kernel, rfl, by decide +kernel, by decide +kernel⟩
theorem q46 (F : Fun K "rest_paper" "rest_paper" zV f fd) (m : mg "rest_paper" = some (.ref f)) (T : Txt K mg) (C_keeps_steps : Q31 P w K mg base) (C_lowered : Q45 P w K mg base) (C_all_steps : Q33 P w K mg base) (C_lead_kind : Q3 P w K mg base) (C_need_light_endless : Q15 P w K mg base) : Q46 P w K mg base := by
 refine ⟨f, fd, ?_, m, F.kp, F.binds fun _ _ _ _ _ _ us hl => match us, hl with | [_], _ => rfl⟩
 exact qv (N := ["store", "first", "steps", "numbers"]) (O := []) (body := vP) F jW (by decide) fun cdv A outer s H E B hr => (qg (zk (dC C_need_light_endless hr (qc (qa 0) qf)))
   (qg (qU (i := 1) jW.nd (dC C_lead_kind hr (qc (qa 0) qf)))
   (qg (qU (i := 2) jW.nd (dC C_all_steps hr (qc (qa 0) qf)))
   (qg (qeg (i := 3) jW.nd (qef (fo := none) rfl (yn rfl T.b_range (qc (qM qx qw (qa 1) (gI T.c_WEIGHT)) qf)) (cs ["store", "first", "steps", "numbers"] ["place", "first"] 1 [1] (qd zV)) (f0 [1] []) (fun _ _ _ _ _ _ _ _ _ _ _ => ⟨(qC (i := 0) (nd ["place", "first"])), uG, (qm jb zA (qa 0) (qM qx qw (qa 1) (gI T.c_WORTH)))⟩)) rfl (cs ["store", "first", "steps", "numbers"] ["place", "first"] 1 [1] (qd zV)))
   (qg (qeZ PassesOwn.never (uk (yZ (dC C_keeps_steps hr (qc (qa 3) (qc (qa 2) qf))))) (qk (qU (i := 3) jW.nd (dC C_lowered hr (qc (qa 3) (qc (qa 2) qf))))))
   (qk (qz (qgI wV qd5 rfl T.b_tuple uY (qc (qa 3) qf)))))))))
theorem qju : qr ["store"] ["store"] (qd qas) := ⟨rfl, rfl, rfl, by decide +kernel, rfl, by decide +kernel, by decide +kernel⟩
theorem q47 (F : Fun K "start" "start" qas f fd) (m : mg "start" = some (.ref f)) (T : Txt K mg) (C_worths_before : Q7 P w K mg base) (C_need_light_endless : Q15 P w K mg base) : Q47 P w K mg base := by
 refine ⟨f, fd, ?_, m, F.kp, F.binds fun _ _ _ _ _ _ us hl => match us, hl with | [_], _ => rfl⟩
 exact qv (N := ["store"]) (O := []) (body := qeo) F qju (by decide) fun cdv A outer s H E B hr => (qg (zk (dC C_need_light_endless hr (qc (qa 0) qf)))
   (qk (qz (qF zr zt rfl T.b_len y3 (qc (dC C_worths_before hr (qc (qa 0) qf)) qf)))))
theorem qlL : qr ["store"] ["store"] (qd qcd) := ⟨rfl, rfl, rfl, by decide +kernel, rfl, by decide +kernel, by decide +kernel⟩
theorem q48 (F : Fun K "lead" "lead" qcd f fd) (m : mg "lead" = some (.ref f)) (T : Txt K mg) (C_lead_place : Q2 P w K mg base) (C_need_light_endless : Q15 P w K mg base) : Q48 P w K mg base := by
 refine ⟨f, fd, ?_, m, F.kp, F.binds fun _ _ _ _ _ _ us hl => match us, hl with | [_], _ => rfl⟩
 exact qv (N := ["store"]) (O := []) (body := qhT) F qlL (by decide) fun cdv A outer s H E B hr => (qg (zk (dC C_need_light_endless hr (qc (qa 0) qf)))
   (qk (qz (dC C_lead_place hr (qc (qa 0) qf)))))
theorem zy : qr ["box", "most", "heaviest_v", "kind", "found", "k", "heft", "given", "gain"] ["box", "most", "heaviest_v"] (qd z9) := ⟨rfl, rfl, rfl, by decide +kernel, rfl, by decide +kernel, by decide +kernel⟩
theorem q49 (F : Fun K "_law_endless" "_law_endless" z9 f fd) (m : mg "_law_endless" = some (.ref f)) (T : Txt K mg) (C__law_take : Q21 P w K mg base) : Q49 P w K mg base := by
 refine ⟨f, fd, ?_, m, F.kp, F.binds fun _ _ _ _ _ _ us hl => match us, hl with | [_, _, _], _ => rfl⟩
 show qc2 P w K mg base CX0 2 f fd ["box", "most", "heaviest_v"] (qjL K (qcr (["box", "most", "heaviest_v", "kind", "found", "k", "heft", "given", "gain"] : List Str).length (["box", "most", "heaviest_v"] : List Str).length yj))
 refine qmM (N := ["box", "most", "heaviest_v", "kind", "found", "k", "heft", "given", "gain"]) (ps := ["box", "most", "heaviest_v"]) (k := 1) (O := [0, 4]) (body := yj) F zy ?a ?a0 ?b
 case a => decide
 case a0 => decide
 intro cdv A outer s H E B Io S hr
 exact (qg (qU (i := 3) zy.nd (iC (i := 0) C__law_take hr (qc qu qf)))
   (qg (qao (i := 4) zy.nd (qjK qf))
   (qg (vv PassesOwn.never rfl (yn rfl T.b_range (qc (qm qH qI qu (iC (i := 0) C__law_take hr (qc (qa 1) qf))) qf)) (qC (i := 5) zy.nd) (qg (qU (i := 6) zy.nd (qm qH qI qu (iC (i := 0) C__law_take hr (qc (qa 2) qf))))
   (qg (qU (i := 7) zy.nd (iC (i := 0) C__law_take hr (qc qu qf)))
   (qg (qU (i := 8) zy.nd (qM qx qw (qba (qc (qa 7) (qc (qa 6) (qc (qm qH qI (qm jb zA qu (qa 6)) (qm wU uV (qa 7) qu)) (qc qu (qc (qm qH qI (qm qjA qgY qu qu) (qa 7)) qf)))))) (qa 3)))
   (qk (zk (qdg (i := 4) (qa9 (qc (qa 6) (qc (qa 8) (qc qa7 qf)))))))))))
   (qk (qz (qgT (i := 4) rfl T.b_tuple uY))))))
theorem jj : qr ["script", "k", "here", "number", "j", "part"] ["script", "k"] (qd yU) := ⟨rfl, rfl, rfl, by decide +kernel, rfl, by decide +kernel, by decide +kernel⟩
theorem q50 (F : Fun K "_law_box" "_law_box" yU f fd) (m : mg "_law_box" = some (.ref f)) (T : Txt K mg) : Q50 P w K mg base := by
 refine ⟨f, fd, ?_, m, F.kp, F.binds fun _ _ _ _ _ _ us hl => match us, hl with | [_, _], _ => rfl⟩
 exact qv (N := ["script", "k", "here", "number", "j", "part"]) (O := []) (body := v7) F jj (by decide) fun cdv A outer s H E B hr => (qg (qU (i := 2) jj.nd (qm qH qI (qm jb zA qu (qa 1)) qu))
   (qg (yk (zB qfE qbY (qa 1) (qF zr zt rfl T.b_len y3 (qc (qa 0) qf)) (qS _)) (qk (qU (i := 2) jj.nd (qM qx qw (qa 0) (qa 1)))) qK)
   (qg (yk (zB (qb3 hr) qap (qm wU uV (qa 2) qu) qu (qS _)) (qk (qz (qba (qc (qm qaZ wY (qa 2) qu) qf)))) qK)
   (qg (qU (i := 3) jj.nd qu)
   (qg (vv PassesOwn.never rfl (yn rfl T.b_range (qc qu qf)) (qC (i := 4) jj.nd) (qg (qU (i := 5) jj.nd (qm wU uV (qm qH qI (qm qH qI (qm jb zA (qm wU uV (qa 2) qu) qu) (qm jb zA qu (qa 4))) qu) qu))
   (qg (qU (i := 5) jj.nd (qm wU uV (qm jb zA (qa 5) (qa 5)) qu))
   (qk (qU (i := 3) jj.nd (qm qH qI (qm jb zA (qa 3) qu) (qm wU uV (qm jb zA (qa 5) (qm qH qI (qa 5) qu)) qu)))))))
   (qk (qz (qba (qc (qa 3) qf)))))))))
theorem vn : qr ["script", "k", "box", "store", "heavy", "dear", "most", "begun", "paper", "room", "later", "more", "last"] ["script"] (qd qbT) := ⟨rfl, rfl, rfl, by decide +kernel, rfl, by decide +kernel, by decide +kernel⟩
theorem qnP (F : Fun K "law" "law" qbT f fd) (T : Txt K mg) (C_before : Q16 P w K mg base) (C_endless_worth : Q20 P w K mg base) (C__law_take : Q21 P w K mg base) (C__law_room_right : Q44 P w K mg base) (C_rest_paper : Q46 P w K mg base) (C_start : Q47 P w K mg base) (C_lead : Q48 P w K mg base) (C__law_endless : Q49 P w K mg base) (C__law_box : Q50 P w K mg base) : qc2 P w K mg base CX0 10 f fd ["script"] (spD K qep) := by
 exact qv (N := ["script", "k", "box", "store", "heavy", "dear", "most", "begun", "paper", "room", "later", "more", "last"]) (O := [2]) (body := qlw) F vn (by decide) fun cdv A outer s H E B hr => (qg (vv PassesOwn.never rfl (yn rfl T.b_range (qc (qF (qgu rfl) qgL rfl T.b_max qdj (qc qu (qc (qF (qa1 rfl) qbf rfl T.b_min qeS (qc (qF zr zt rfl T.b_len y3 (qc (qa 0) qf)) (qc qu qf))) qf))) qf)) (qC (i := 1) vn.nd) (qg (qao (i := 2) vn.nd (nC C__law_box hr (qc (qa 0) (qc (qa 1) qf))))
   (qg (qU (i := 3) vn.nd (iC (i := 2) C__law_endless hr (qc qu (qc qu qf))))
   (qg (qjE (qM qx qw (qa 3) (dC C_lead hr (qc (qa 3) qf))) (wX (n := 3) rfl (zl (qC (i := 4) vn.nd) (zl (qC (i := 5) vn.nd) (zl (qC (i := 6) vn.nd) uU)))))
   (qg (qmW (i := 7) (j := 8) vn.nd (qc (dC C_start hr (qc (qa 3) qf)) (qc (dC C_rest_paper hr (qc (qa 3) qf)) qf)) rfl)
   (qg (yk (DW.dt (qbO (zB qfE qbY (qa 7) (qa 4) (qS _)) (wv (zB (wy hr) uu (qF zr zt rfl T.b_len y3 (qc (dC C_before hr (qc (qa 3) qf)) qf)) (qa 7) (qS _))))) (qk (qz vo)) qK)
   (qg (vv PassesOwn.never rfl (vj (qba (qc qu (qc (qm yI jr (qa 7) qu) (qc (qa 7) (qc (qm qH qI (qa 7) (iC (i := 2) C__law_take hr (qc qu qf))) (qc (iC (i := 2) C__law_take hr (qc qu qf)) (qc (iC (i := 2) C__law_take hr (qc (qm qjA qgY qu qu) qf)) qf)))))))) (qC (i := 9) vn.nd) (qg (yk (uk (yZ (dC C__law_room_right hr (qc (qa 3) (qc (qa 9) (qc (qa 7) (qc (qa 8) qf))))))) (qk (qz vo)) qK)
   (qg (qU (i := 10) vn.nd (dC C_endless_worth hr (qc (qa 3) (qc (qm qH qI (qa 9) (qa 4)) qf))))
   (qg (yk (DW.dt (qgG (zB qku qgK (qm qH qI (qa 9) (qa 4)) (qa 7) (qS _)) (qd3 (zB (wy hr) uu (qa 10) (qm qH qI (dC C_endless_worth hr (qc (qa 3) (qc (qa 9) qf))) (qa 5)) (qS _))))) (qk (qz vo)) qK)
   (qg (yk (zB qfE qbY (dC C_endless_worth hr (qc (qa 3) (qc (qm qH qI (qa 9) qu) qf))) (dC C_endless_worth hr (qc (qa 3) (qc (qa 9) qf))) (qS _)) (qk (qz vo)) qK)
   (qg (qU (i := 11) vn.nd (qm qH qI (qa 3) (qa9 (qc (qa9 (qc (qm qH qI qu (iC (i := 2) C__law_take hr (qc qu qf))) (qc (iC (i := 2) C__law_take hr (qc qu qf)) (qc qa7 qf)))) qf))))
   (qk (yk (zB qfE qbY (dC C_endless_worth hr (qc (qa 11) (qc (qa 9) qf))) (dC C_endless_worth hr (qc (qa 3) (qc (qa 9) qf))) (qS _)) (qk (qz vo)) qK))))))))
   (qg (qU (i := 12) vn.nd (dC C_endless_worth hr (qc (qa 3) (qc (qm yI jr (qa 7) qu) qf))))
   (qg (yk (DW.dt (qgG (zB qdY qbd (qa 7) (qa 4) (qS _)) (qd3 (zB (qb3 hr) qap (qa 12) (qm qH qI (dC C_endless_worth hr (qc (qa 3) (qc (qm yI jr (qm yI jr (qa 7) qu) (qa 4)) qf))) (qa 5)) (qS _))))) (qk (qz vo)) qK)
   (qk (yk (zB (wy hr) uu (dC C_before hr (qc (qa 3) qf)) (j4 (fo := none) rfl (yn rfl T.b_range (qc (qa 7) qf)) (cs ["script", "k", "box", "store", "heavy", "dear", "most", "begun", "paper", "room", "later", "more", "last"] ["room", "store"] 1 [3] (qd qbT)) (f0 [3] [2]) (fun _ _ _ _ _ _ _ _ _ _ _ => ⟨(qC (i := 0) (nd ["room", "store"])), uG, (dC C_endless_worth hr (qc (qa 1) (qc (qa 0) qf)))⟩)) (qS _)) (qk (qz vo)) qK)))))))))))
   (qk (qz vo)))
end
theorem all_mk {l : PySem.W.OpenLaw} {w : World} {K : PySem.W.Frag} {h : Heap} {mg : Str -> Option Value} {fa f0 f1 f2 f3 f4 f5 f6 f7 f8 f9 f10 f11 f12 f13 f14 f15 f16 f17 f18 f19 f20 f21 f22 f23 f24 f25 f26 f27 f28 f29 f30 f31 f32 f33 f34 f35 f36 f37 f38 f39 f40 f41 f42 f43 f44 f45 f46 f47 f48 f49 f50 f51 : Addr} (X : K.In h) (G : h.Ns mainGlobals mg) (hfa : mg "law" = some (.ref fa))
  {od0 an0 od1 an1 od2 an2 od3 an3 od4 an4 od5 an5 od6 an6 od7 an7 od8 an8 od9 an9 od10 an10 od11 an11 od12 an12 od13 an13 od14 an14 od15 an15 od16 an16 od17 an17 od18 an18 od19 an19 od20 an20 od21 an21 od22 an22 od23 an23 od24 an24 od25 an25 od26 an26 od27 an27 od28 an28 od29 an29 od30 an30 od31 an31 od32 an32 od33 an33 od34 an34 od35 an35 od36 an36 od37 an37 od38 an38 od39 an39 od40 an40 od41 an41 od42 an42 od43 an43 od44 an44 od45 an45 od46 an46 od47 an47 od48 an48 od49 an49 od50 an50 od51 an51 : Option Addr} {sl0 sl1 sl2 sl3 sl4 sl5 sl6 sl7 sl8 sl9 sl10 sl11 sl12 sl13 sl14 sl15 sl16 sl17 sl18 sl19 sl20 sl21 sl22 sl23 sl24 sl25 sl26 sl27 sl28 sl29 sl30 sl31 sl32 sl33 sl34 sl35 sl36 sl37 sl38 sl39 sl40 sl41 sl42 sl43 sl44 sl45 sl46 sl47 sl48 sl49 sl50 sl51 : Array (Option Value)} {oc0 kV0 dc0 pm0 cd0 ct0 oc1 kV1 dc1 pm1 cd1 ct1 oc2 kV2 dc2 pm2 cd2 ct2 oc3 kV3 dc3 pm3 cd3 ct3 oc4 kV4 dc4 pm4 cd4 ct4 oc5 kV5 dc5 pm5 cd5 ct5 oc6 kV6 dc6 pm6 cd6 ct6 oc7 kV7 dc7 pm7 cd7 ct7 oc8 kV8 dc8 pm8 cd8 ct8 oc9 kV9 dc9 pm9 cd9 ct9 oc10 kV10 dc10 pm10 cd10 ct10 oc11 kV11 dc11 pm11 cd11 ct11 oc12 kV12 dc12 pm12 cd12 ct12 oc13 kV13 dc13 pm13 cd13 ct13 oc14 kV14 dc14 pm14 cd14 ct14 oc15 kV15 dc15 pm15 cd15 ct15 oc16 kV16 dc16 pm16 cd16 ct16 oc17 kV17 dc17 pm17 cd17 ct17 oc18 kV18 dc18 pm18 cd18 ct18 oc19 kV19 dc19 pm19 cd19 ct19 oc20 kV20 dc20 pm20 cd20 ct20 oc21 kV21 dc21 pm21 cd21 ct21 oc22 kV22 dc22 pm22 cd22 ct22 oc23 kV23 dc23 pm23 cd23 ct23 oc24 kV24 dc24 pm24 cd24 ct24 oc25 kV25 dc25 pm25 cd25 ct25 oc26 kV26 dc26 pm26 cd26 ct26 oc27 kV27 dc27 pm27 cd27 ct27 oc28 kV28 dc28 pm28 cd28 ct28 oc29 kV29 dc29 pm29 cd29 ct29 oc30 kV30 dc30 pm30 cd30 ct30 oc31 kV31 dc31 pm31 cd31 ct31 oc32 kV32 dc32 pm32 cd32 ct32 oc33 kV33 dc33 pm33 cd33 ct33 oc34 kV34 dc34 pm34 cd34 ct34 oc35 kV35 dc35 pm35 cd35 ct35 oc36 kV36 dc36 pm36 cd36 ct36 oc37 kV37 dc37 pm37 cd37 ct37 oc38 kV38 dc38 pm38 cd38 ct38 oc39 kV39 dc39 pm39 cd39 ct39 oc40 kV40 dc40 pm40 cd40 ct40 oc41 kV41 dc41 pm41 cd41 ct41 oc42 kV42 dc42 pm42 cd42 ct42 oc43 kV43 dc43 pm43 cd43 ct43 oc44 kV44 dc44 pm44 cd44 ct44 oc45 kV45 dc45 pm45 cd45 ct45 oc46 kV46 dc46 pm46 cd46 ct46 oc47 kV47 dc47 pm47 cd47 ct47 oc48 kV48 dc48 pm48 cd48 ct48 oc49 kV49 dc49 pm49 cd49 ct49 oc50 kV50 dc50 pm50 cd50 ct50 oc51 kV51 dc51 pm51 cd51 ct51 : Value} {tk_ASKED_AT_MOST : Tok} {tk_KINDS_AT_MOST : Tok} {tk_MOST : Tok} {tk_WEIGHT : Tok} {tk_WEIGHT_AT_MOST : Tok} {tk_WORTH : Tok}
  (a0 : PySem.W.nsIn K mainGlobals "out_of_rounds" = some (some (.ref f0))) (l0 : K.lookup f0 = some ⟨oc0, od0, .func (PySem.W.fnOf "out_of_rounds" "out_of_rounds" (qt zu) (qo zu) (qd zu) .none kV0 dc0 pm0 an0 cd0 ct0), sl0⟩) (c0 : PySem.W.codeIn K cd0 "out_of_rounds" = true) (k0 : PySem.W.keepIn K (.ref f0) = true)
  (a1 : PySem.W.nsIn K mainGlobals "weights_product" = some (some (.ref f1))) (l1 : K.lookup f1 = some ⟨oc1, od1, .func (PySem.W.fnOf "weights_product" "weights_product" (qt zo) (qo zo) (qd zo) .none kV1 dc1 pm1 an1 cd1 ct1), sl1⟩) (c1 : PySem.W.codeIn K cd1 "weights_product" = true) (k1 : PySem.W.keepIn K (.ref f1) = true)
  (a2 : PySem.W.nsIn K mainGlobals "lead_place" = some (some (.ref f2))) (l2 : K.lookup f2 = some ⟨oc2, od2, .func (PySem.W.fnOf "lead_place" "lead_place" (qt zU) (qo zU) (qd zU) .none kV2 dc2 pm2 an2 cd2 ct2), sl2⟩) (c2 : PySem.W.codeIn K cd2 "lead_place" = true) (k2 : PySem.W.keepIn K (.ref f2) = true)
  (a3 : PySem.W.nsIn K mainGlobals "lead_kind" = some (some (.ref f3))) (l3 : K.lookup f3 = some ⟨oc3, od3, .func (PySem.W.fnOf "lead_kind" "lead_kind" (qt j7) (qo j7) (qd j7) .none kV3 dc3 pm3 an3 cd3 ct3), sl3⟩) (c3 : PySem.W.codeIn K cd3 "lead_kind" = true) (k3 : PySem.W.keepIn K (.ref f3) = true)
  (a4 : PySem.W.nsIn K mainGlobals "heaviest" = some (some (.ref f4))) (l4 : K.lookup f4 = some ⟨oc4, od4, .func (PySem.W.fnOf "heaviest" "heaviest" (qt j8) (qo j8) (qd j8) .none kV4 dc4 pm4 an4 cd4 ct4), sl4⟩) (c4 : PySem.W.codeIn K cd4 "heaviest" = true) (k4 : PySem.W.keepIn K (.ref f4) = true)
  (a5 : PySem.W.nsIn K mainGlobals "surely_in_rounds" = some (some (.ref f5))) (l5 : K.lookup f5 = some ⟨oc5, od5, .func (PySem.W.fnOf "surely_in_rounds" "surely_in_rounds" (qt ze) (qo ze) (qd ze) .none kV5 dc5 pm5 an5 cd5 ct5), sl5⟩) (c5 : PySem.W.codeIn K cd5 "surely_in_rounds" = true) (k5 : PySem.W.keepIn K (.ref f5) = true)
  (a6 : PySem.W.nsIn K mainGlobals "small_worths" = some (some (.ref f6))) (l6 : K.lookup f6 = some ⟨oc6, od6, .func (PySem.W.fnOf "small_worths" "small_worths" (qt zd) (qo zd) (qd zd) .none kV6 dc6 pm6 an6 cd6 ct6), sl6⟩) (c6 : PySem.W.codeIn K cd6 "small_worths" = true) (k6 : PySem.W.keepIn K (.ref f6) = true)
  (a7 : PySem.W.nsIn K mainGlobals "worths_before" = some (some (.ref f7))) (l7 : K.lookup f7 = some ⟨oc7, od7, .func (PySem.W.fnOf "worths_before" "worths_before" (qt zQ) (qo zQ) (qd zQ) .none kV7 dc7 pm7 an7 cd7 ct7), sl7⟩) (c7 : PySem.W.codeIn K cd7 "worths_before" = true) (k7 : PySem.W.keepIn K (.ref f7) = true)
  (a8 : PySem.W.nsIn K mainGlobals "need_light" = some (some (.ref f8))) (l8 : K.lookup f8 = some ⟨oc8, od8, .func (PySem.W.fnOf "need_light" "need_light" (qt jB) (qo jB) (qd jB) .none kV8 dc8 pm8 an8 cd8 ct8), sl8⟩) (c8 : PySem.W.codeIn K cd8 "need_light" = true) (k8 : PySem.W.keepIn K (.ref f8) = true)
  (a9 : PySem.W.nsIn K mainGlobals "need_endless" = some (some (.ref f9))) (l9 : K.lookup f9 = some ⟨oc9, od9, .func (PySem.W.fnOf "need_endless" "need_endless" (qt zF) (qo zF) (qd zF) .none kV9 dc9 pm9 an9 cd9 ct9), sl9⟩) (c9 : PySem.W.codeIn K cd9 "need_endless" = true) (k9 : PySem.W.keepIn K (.ref f9) = true)
  (a10 : PySem.W.nsIn K mainGlobals "is_whole" = some (some (.ref f10))) (l10 : K.lookup f10 = some ⟨oc10, od10, .func (PySem.W.fnOf "is_whole" "is_whole" (qt yQ) (qo yQ) (qd yQ) .none kV10 dc10 pm10 an10 cd10 ct10), sl10⟩) (c10 : PySem.W.codeIn K cd10 "is_whole" = true) (k10 : PySem.W.keepIn K (.ref f10) = true)
  (a11 : PySem.W.nsIn K mainGlobals "is_count" = some (some (.ref f11))) (l11 : K.lookup f11 = some ⟨oc11, od11, .func (PySem.W.fnOf "is_count" "is_count" (qt yR) (qo yR) (qd yR) .none kV11 dc11 pm11 an11 cd11 ct11), sl11⟩) (c11 : PySem.W.codeIn K cd11 "is_count" = true) (k11 : PySem.W.keepIn K (.ref f11) = true)
  (a12 : PySem.W.nsIn K mainGlobals "is_kind" = some (some (.ref f12))) (l12 : K.lookup f12 = some ⟨oc12, od12, .func (PySem.W.fnOf "is_kind" "is_kind" (qt uO) (qo uO) (qd uO) .none kV12 dc12 pm12 an12 cd12 ct12), sl12⟩) (c12 : PySem.W.codeIn K cd12 "is_kind" = true) (k12 : PySem.W.keepIn K (.ref f12) = true)
  (a13 : PySem.W.nsIn K mainGlobals "is_store" = some (some (.ref f13))) (l13 : K.lookup f13 = some ⟨oc13, od13, .func (PySem.W.fnOf "is_store" "is_store" (qt j9) (qo j9) (qd j9) .none kV13 dc13 pm13 an13 cd13 ct13), sl13⟩) (c13 : PySem.W.codeIn K cd13 "is_store" = true) (k13 : PySem.W.keepIn K (.ref f13) = true)
  (a14 : PySem.W.nsIn K mainGlobals "need_store" = some (some (.ref f14))) (l14 : K.lookup f14 = some ⟨oc14, od14, .func (PySem.W.fnOf "need_store" "need_store" (qt jC) (qo jC) (qd jC) .none kV14 dc14 pm14 an14 cd14 ct14), sl14⟩) (c14 : PySem.W.codeIn K cd14 "need_store" = true) (k14 : PySem.W.keepIn K (.ref f14) = true)
  (a15 : PySem.W.nsIn K mainGlobals "need_light_endless" = some (some (.ref f15))) (l15 : K.lookup f15 = some ⟨oc15, od15, .func (PySem.W.fnOf "need_light_endless" "need_light_endless" (qt qX) (qo qX) (qd qX) .none kV15 dc15 pm15 an15 cd15 ct15), sl15⟩) (c15 : PySem.W.codeIn K cd15 "need_light_endless" = true) (k15 : PySem.W.keepIn K (.ref f15) = true)
  (a16 : PySem.W.nsIn K mainGlobals "before" = some (some (.ref f16))) (l16 : K.lookup f16 = some ⟨oc16, od16, .func (PySem.W.fnOf "before" "before" (qt v4) (qo v4) (qd v4) .none kV16 dc16 pm16 an16 cd16 ct16), sl16⟩) (c16 : PySem.W.codeIn K cd16 "before" = true) (k16 : PySem.W.keepIn K (.ref f16) = true)
  (a17 : PySem.W.nsIn K mainGlobals "rounds_taken" = some (some (.ref f17))) (l17 : K.lookup f17 = some ⟨oc17, od17, .func (PySem.W.fnOf "rounds_taken" "rounds_taken" (qt z8) (qo z8) (qd z8) .none kV17 dc17 pm17 an17 cd17 ct17), sl17⟩) (c17 : PySem.W.codeIn K cd17 "rounds_taken" = true) (k17 : PySem.W.keepIn K (.ref f17) = true)
  (a18 : PySem.W.nsIn K mainGlobals "need_count" = some (some (.ref f18))) (l18 : K.lookup f18 = some ⟨oc18, od18, .func (PySem.W.fnOf "need_count" "need_count" (qt jD) (qo jD) (qd jD) .none kV18 dc18 pm18 an18 cd18 ct18), sl18⟩) (c18 : PySem.W.codeIn K cd18 "need_count" = true) (k18 : PySem.W.keepIn K (.ref f18) = true)
  (a19 : PySem.W.nsIn K mainGlobals "need_endless_asked" = some (some (.ref f19))) (l19 : K.lookup f19 = some ⟨oc19, od19, .func (PySem.W.fnOf "need_endless_asked" "need_endless_asked" (qt qY) (qo qY) (qd qY) .none kV19 dc19 pm19 an19 cd19 ct19), sl19⟩) (c19 : PySem.W.codeIn K cd19 "need_endless_asked" = true) (k19 : PySem.W.keepIn K (.ref f19) = true)
  (a20 : PySem.W.nsIn K mainGlobals "endless_worth" = some (some (.ref f20))) (l20 : K.lookup f20 = some ⟨oc20, od20, .func (PySem.W.fnOf "endless_worth" "endless_worth" (qt zR) (qo zR) (qd zR) .none kV20 dc20 pm20 an20 cd20 ct20), sl20⟩) (c20 : PySem.W.codeIn K cd20 "endless_worth" = true) (k20 : PySem.W.keepIn K (.ref f20) = true)
  (a21 : PySem.W.nsIn K mainGlobals "_law_take" = some (some (.ref f21))) (l21 : K.lookup f21 = some ⟨oc21, od21, .func (PySem.W.fnOf "_law_take" "_law_take" (qt ya) (qo ya) (qd ya) .none kV21 dc21 pm21 an21 cd21 ct21), sl21⟩) (c21 : PySem.W.codeIn K cd21 "_law_take" = true) (k21 : PySem.W.keepIn K (.ref f21) = true)
  (a22 : PySem.W.nsIn K mainGlobals "most_within" = some (some (.ref f22))) (l22 : K.lookup f22 = some ⟨oc22, od22, .func (PySem.W.fnOf "most_within" "most_within" (qt jm) (qo jm) (qd jm) .none kV22 dc22 pm22 an22 cd22 ct22), sl22⟩) (c22 : PySem.W.codeIn K cd22 "most_within" = true) (k22 : PySem.W.keepIn K (.ref f22) = true)
  (a23 : PySem.W.nsIn K mainGlobals "room_left" = some (some (.ref f23))) (l23 : K.lookup f23 = some ⟨oc23, od23, .func (PySem.W.fnOf "room_left" "room_left" (qt yb) (qo yb) (qd yb) .none kV23 dc23 pm23 an23 cd23 ct23), sl23⟩) (c23 : PySem.W.codeIn K cd23 "room_left" = true) (k23 : PySem.W.keepIn K (.ref f23) = true)
  (a24 : PySem.W.nsIn K mainGlobals "worth_with" = some (some (.ref f24))) (l24 : K.lookup f24 = some ⟨oc24, od24, .func (PySem.W.fnOf "worth_with" "worth_with" (qt jE) (qo jE) (qd jE) .none kV24 dc24 pm24 an24 cd24 ct24), sl24⟩) (c24 : PySem.W.codeIn K cd24 "worth_with" = true) (k24 : PySem.W.keepIn K (.ref f24) = true)
  (a25 : PySem.W.nsIn K mainGlobals "best_with" = some (some (.ref f25))) (l25 : K.lookup f25 = some ⟨oc25, od25, .func (PySem.W.fnOf "best_with" "best_with" (qt jx) (qo jx) (qd jx) .none kV25 dc25 pm25 an25 cd25 ct25), sl25⟩) (c25 : PySem.W.codeIn K cd25 "best_with" = true) (k25 : PySem.W.keepIn K (.ref f25) = true)
  (a26 : PySem.W.nsIn K mainGlobals "best_rows" = some (some (.ref f26))) (l26 : K.lookup f26 = some ⟨oc26, od26, .func (PySem.W.fnOf "best_rows" "best_rows" (qt jy) (qo jy) (qd jy) .none kV26 dc26 pm26 an26 cd26 ct26), sl26⟩) (c26 : PySem.W.codeIn K cd26 "best_rows" = true) (k26 : PySem.W.keepIn K (.ref f26) = true)
  (a27 : PySem.W.nsIn K mainGlobals "need_few" = some (some (.ref f27))) (l27 : K.lookup f27 = some ⟨oc27, od27, .func (PySem.W.fnOf "need_few" "need_few" (qt yS) (qo yS) (qd yS) .none kV27 dc27 pm27 an27 cd27 ct27), sl27⟩) (c27 : PySem.W.codeIn K cd27 "need_few" = true) (k27 : PySem.W.keepIn K (.ref f27) = true)
  (a28 : PySem.W.nsIn K mainGlobals "need_asked" = some (some (.ref f28))) (l28 : K.lookup f28 = some ⟨oc28, od28, .func (PySem.W.fnOf "need_asked" "need_asked" (qt jF) (qo jF) (qd jF) .none kV28 dc28 pm28 an28 cd28 ct28), sl28⟩) (c28 : PySem.W.codeIn K cd28 "need_asked" = true) (k28 : PySem.W.keepIn K (.ref f28) = true)
  (a29 : PySem.W.nsIn K mainGlobals "best_worths" = some (some (.ref f29))) (l29 : K.lookup f29 = some ⟨oc29, od29, .func (PySem.W.fnOf "best_worths" "best_worths" (qt jn) (qo jn) (qd jn) .none kV29 dc29 pm29 an29 cd29 ct29), sl29⟩) (c29 : PySem.W.codeIn K cd29 "best_worths" = true) (k29 : PySem.W.keepIn K (.ref f29) = true)
  (a30 : PySem.W.nsIn K mainGlobals "best_worth" = some (some (.ref f30))) (l30 : K.lookup f30 = some ⟨oc30, od30, .func (PySem.W.fnOf "best_worth" "best_worth" (qt jG) (qo jG) (qd jG) .none kV30 dc30 pm30 an30 cd30 ct30), sl30⟩) (c30 : PySem.W.codeIn K cd30 "best_worth" = true) (k30 : PySem.W.keepIn K (.ref f30) = true)
  (a31 : PySem.W.nsIn K mainGlobals "keeps_steps" = some (some (.ref f31))) (l31 : K.lookup f31 = some ⟨oc31, od31, .func (PySem.W.fnOf "keeps_steps" "keeps_steps" (qt jo) (qo jo) (qd jo) .none kV31 dc31 pm31 an31 cd31 ct31), sl31⟩) (c31 : PySem.W.codeIn K cd31 "keeps_steps" = true) (k31 : PySem.W.keepIn K (.ref f31) = true)
  (a32 : PySem.W.nsIn K mainGlobals "loss" = some (some (.ref f32))) (l32 : K.lookup f32 = some ⟨oc32, od32, .func (PySem.W.fnOf "loss" "loss" (qt qcb) (qo qcb) (qd qcb) .none kV32 dc32 pm32 an32 cd32 ct32), sl32⟩) (c32 : PySem.W.codeIn K cd32 "loss" = true) (k32 : PySem.W.keepIn K (.ref f32) = true)
  (a33 : PySem.W.nsIn K mainGlobals "all_steps" = some (some (.ref f33))) (l33 : K.lookup f33 = some ⟨oc33, od33, .func (PySem.W.fnOf "all_steps" "all_steps" (qt jz) (qo jz) (qd jz) .none kV33 dc33 pm33 an33 cd33 ct33), sl33⟩) (c33 : PySem.W.codeIn K cd33 "all_steps" = true) (k33 : PySem.W.keepIn K (.ref f33) = true)
  (a34 : PySem.W.nsIn K mainGlobals "is_rest_paper" = some (some (.ref f34))) (l34 : K.lookup f34 = some ⟨oc34, od34, .func (PySem.W.fnOf "is_rest_paper" "is_rest_paper" (qt zv) (qo zv) (qd zv) .none kV34 dc34 pm34 an34 cd34 ct34), sl34⟩) (c34 : PySem.W.codeIn K cd34 "is_rest_paper" = true) (k34 : PySem.W.keepIn K (.ref f34) = true)
  (a35 : PySem.W.nsIn K mainGlobals "rest_bound" = some (some (.ref f35))) (l35 : K.lookup f35 = some ⟨oc35, od35, .func (PySem.W.fnOf "rest_bound" "rest_bound" (qt jH) (qo jH) (qd jH) .none kV35 dc35 pm35 an35 cd35 ct35), sl35⟩) (c35 : PySem.W.codeIn K cd35 "rest_bound" = true) (k35 : PySem.W.keepIn K (.ref f35) = true)
  (a36 : PySem.W.nsIn K mainGlobals "taken_together" = some (some (.ref f36))) (l36 : K.lookup f36 = some ⟨oc36, od36, .func (PySem.W.fnOf "taken_together" "taken_together" (qt zf) (qo zf) (qd zf) .none kV36 dc36 pm36 an36 cd36 ct36), sl36⟩) (c36 : PySem.W.codeIn K cd36 "taken_together" = true) (k36 : PySem.W.keepIn K (.ref f36) = true)
  (a37 : PySem.W.nsIn K mainGlobals "can_take" = some (some (.ref f37))) (l37 : K.lookup f37 = some ⟨oc37, od37, .func (PySem.W.fnOf "can_take" "can_take" (qt yT) (qo yT) (qd yT) .none kV37 dc37 pm37 an37 cd37 ct37), sl37⟩) (c37 : PySem.W.codeIn K cd37 "can_take" = true) (k37 : PySem.W.keepIn K (.ref f37) = true)
  (a38 : PySem.W.nsIn K mainGlobals "is_load" = some (some (.ref f38))) (l38 : K.lookup f38 = some ⟨oc38, od38, .func (PySem.W.fnOf "is_load" "is_load" (qt y9) (qo y9) (qd y9) .none kV38 dc38 pm38 an38 cd38 ct38), sl38⟩) (c38 : PySem.W.codeIn K cd38 "is_load" = true) (k38 : PySem.W.keepIn K (.ref f38) = true)
  (a39 : PySem.W.nsIn K mainGlobals "need_load" = some (some (.ref f39))) (l39 : K.lookup f39 = some ⟨oc39, od39, .func (PySem.W.fnOf "need_load" "need_load" (qt yc) (qo yc) (qd yc) .none kV39 dc39 pm39 an39 cd39 ct39), sl39⟩) (c39 : PySem.W.codeIn K cd39 "need_load" = true) (k39 : PySem.W.keepIn K (.ref f39) = true)
  (a40 : PySem.W.nsIn K mainGlobals "fits" = some (some (.ref f40))) (l40 : K.lookup f40 = some ⟨oc40, od40, .func (PySem.W.fnOf "fits" "fits" (qt qcc) (qo qcc) (qd qcc) .none kV40 dc40 pm40 an40 cd40 ct40), sl40⟩) (c40 : PySem.W.codeIn K cd40 "fits" = true) (k40 : PySem.W.keepIn K (.ref f40) = true)
  (a41 : PySem.W.nsIn K mainGlobals "worth" = some (some (.ref f41))) (l41 : K.lookup f41 = some ⟨oc41, od41, .func (PySem.W.fnOf "worth" "worth" (qt qar) (qo qar) (qd qar) .none kV41 dc41 pm41 an41 cd41 ct41), sl41⟩) (c41 : PySem.W.codeIn K cd41 "worth" = true) (k41 : PySem.W.keepIn K (.ref f41) = true)
  (a42 : PySem.W.nsIn K mainGlobals "is_last_in" = some (some (.ref f42))) (l42 : K.lookup f42 = some ⟨oc42, od42, .func (PySem.W.fnOf "is_last_in" "is_last_in" (qt jI) (qo jI) (qd jI) .none kV42 dc42 pm42 an42 cd42 ct42), sl42⟩) (c42 : PySem.W.codeIn K cd42 "is_last_in" = true) (k42 : PySem.W.keepIn K (.ref f42) = true)
  (a43 : PySem.W.nsIn K mainGlobals "endless_load" = some (some (.ref f43))) (l43 : K.lookup f43 = some ⟨oc43, od43, .func (PySem.W.fnOf "endless_load" "endless_load" (qt zG) (qo zG) (qd zG) .none kV43 dc43 pm43 an43 cd43 ct43), sl43⟩) (c43 : PySem.W.codeIn K cd43 "endless_load" = true) (k43 : PySem.W.keepIn K (.ref f43) = true)
  (a44 : PySem.W.nsIn K mainGlobals "_law_room_right" = some (some (.ref f44))) (l44 : K.lookup f44 = some ⟨oc44, od44, .func (PySem.W.fnOf "_law_room_right" "_law_room_right" (qt zp) (qo zp) (qd zp) .none kV44 dc44 pm44 an44 cd44 ct44), sl44⟩) (c44 : PySem.W.codeIn K cd44 "_law_room_right" = true) (k44 : PySem.W.keepIn K (.ref f44) = true)
  (a45 : PySem.W.nsIn K mainGlobals "lowered" = some (some (.ref f45))) (l45 : K.lookup f45 = some ⟨oc45, od45, .func (PySem.W.fnOf "lowered" "lowered" (qt uP) (qo uP) (qd uP) .none kV45 dc45 pm45 an45 cd45 ct45), sl45⟩) (c45 : PySem.W.codeIn K cd45 "lowered" = true) (k45 : PySem.W.keepIn K (.ref f45) = true)
  (a46 : PySem.W.nsIn K mainGlobals "rest_paper" = some (some (.ref f46))) (l46 : K.lookup f46 = some ⟨oc46, od46, .func (PySem.W.fnOf "rest_paper" "rest_paper" (qt zV) (qo zV) (qd zV) .none kV46 dc46 pm46 an46 cd46 ct46), sl46⟩) (c46 : PySem.W.codeIn K cd46 "rest_paper" = true) (k46 : PySem.W.keepIn K (.ref f46) = true)
  (a47 : PySem.W.nsIn K mainGlobals "start" = some (some (.ref f47))) (l47 : K.lookup f47 = some ⟨oc47, od47, .func (PySem.W.fnOf "start" "start" (qt qas) (qo qas) (qd qas) .none kV47 dc47 pm47 an47 cd47 ct47), sl47⟩) (c47 : PySem.W.codeIn K cd47 "start" = true) (k47 : PySem.W.keepIn K (.ref f47) = true)
  (a48 : PySem.W.nsIn K mainGlobals "lead" = some (some (.ref f48))) (l48 : K.lookup f48 = some ⟨oc48, od48, .func (PySem.W.fnOf "lead" "lead" (qt qcd) (qo qcd) (qd qcd) .none kV48 dc48 pm48 an48 cd48 ct48), sl48⟩) (c48 : PySem.W.codeIn K cd48 "lead" = true) (k48 : PySem.W.keepIn K (.ref f48) = true)
  (a49 : PySem.W.nsIn K mainGlobals "_law_endless" = some (some (.ref f49))) (l49 : K.lookup f49 = some ⟨oc49, od49, .func (PySem.W.fnOf "_law_endless" "_law_endless" (qt z9) (qo z9) (qd z9) .none kV49 dc49 pm49 an49 cd49 ct49), sl49⟩) (c49 : PySem.W.codeIn K cd49 "_law_endless" = true) (k49 : PySem.W.keepIn K (.ref f49) = true)
  (a50 : PySem.W.nsIn K mainGlobals "_law_box" = some (some (.ref f50))) (l50 : K.lookup f50 = some ⟨oc50, od50, .func (PySem.W.fnOf "_law_box" "_law_box" (qt yU) (qo yU) (qd yU) .none kV50 dc50 pm50 an50 cd50 ct50), sl50⟩) (c50 : PySem.W.codeIn K cd50 "_law_box" = true) (k50 : PySem.W.keepIn K (.ref f50) = true)
  (a51 : PySem.W.nsIn K mainGlobals "law" = some (some (.ref f51))) (l51 : K.lookup f51 = some ⟨oc51, od51, .func (PySem.W.fnOf "law" "law" (qt qbT) (qo qbT) (qd qbT) .none kV51 dc51 pm51 an51 cd51 ct51), sl51⟩) (c51 : PySem.W.codeIn K cd51 "law" = true) (k51 : PySem.W.keepIn K (.ref f51) = true)
  (zb_all : PySem.W.nsIn K mainGlobals "all" = some none)
  (zb_bool : PySem.W.nsIn K mainGlobals "bool" = some none)
  (zb_divmod : PySem.W.nsIn K mainGlobals "divmod" = some none)
  (zb_enumerate : PySem.W.nsIn K mainGlobals "enumerate" = some none)
  (zb_int : PySem.W.nsIn K mainGlobals "int" = some none)
  (zb_isinstance : PySem.W.nsIn K mainGlobals "isinstance" = some none)
  (zb_len : PySem.W.nsIn K mainGlobals "len" = some none)
  (zb_list : PySem.W.nsIn K mainGlobals "list" = some none)
  (zb_max : PySem.W.nsIn K mainGlobals "max" = some none)
  (zb_min : PySem.W.nsIn K mainGlobals "min" = some none)
  (zb_range : PySem.W.nsIn K mainGlobals "range" = some none)
  (zb_reversed : PySem.W.nsIn K mainGlobals "reversed" = some none)
  (zb_sum : PySem.W.nsIn K mainGlobals "sum" = some none)
  (zb_tuple : PySem.W.nsIn K mainGlobals "tuple" = some none)
  (zb_zip : PySem.W.nsIn K mainGlobals "zip" = some none)
  (zg_ASKED_AT_MOST : PySem.W.nsIn K mainGlobals "ASKED_AT_MOST" = some (some (.int 200 tk_ASKED_AT_MOST)))
  (zg_KINDS_AT_MOST : PySem.W.nsIn K mainGlobals "KINDS_AT_MOST" = some (some (.int 12 tk_KINDS_AT_MOST)))
  (zg_MOST : PySem.W.nsIn K mainGlobals "MOST" = some (some (.int 2 tk_MOST)))
  (zg_WEIGHT : PySem.W.nsIn K mainGlobals "WEIGHT" = some (some (.int 0 tk_WEIGHT)))
  (zg_WEIGHT_AT_MOST : PySem.W.nsIn K mainGlobals "WEIGHT_AT_MOST" = some (some (.int 20 tk_WEIGHT_AT_MOST)))
  (zg_WORTH : PySem.W.nsIn K mainGlobals "WORTH" = some (some (.int 1 tk_WORTH))) :
  ∃ fd : FuncData, (∀ (s : Shared) (v : Value), BindsTo s fd ⟨[v], []⟩ [("script", v)]) /\ ∀ base : Heap, K.In base -> base.Ns mainGlobals mg -> qc2 l.prog w K mg base CX0 10 fa fd ["script"] (spD K qep) := by
 have e := hfa.symm.trans (PySem.W.mg_of X G a51)
 cases e
 have T : Txt K mg := ⟨PySem.W.mg_none_of X G zb_all, PySem.W.mg_none_of X G zb_bool, PySem.W.mg_none_of X G zb_divmod, PySem.W.mg_none_of X G zb_enumerate, PySem.W.mg_none_of X G zb_int, PySem.W.mg_none_of X G zb_isinstance, PySem.W.mg_none_of X G zb_len, PySem.W.mg_none_of X G zb_list, PySem.W.mg_none_of X G zb_max, PySem.W.mg_none_of X G zb_min, PySem.W.mg_none_of X G zb_range, PySem.W.mg_none_of X G zb_reversed, PySem.W.mg_none_of X G zb_sum, PySem.W.mg_none_of X G zb_tuple, PySem.W.mg_none_of X G zb_zip, ⟨_, PySem.W.mg_of X G zg_ASKED_AT_MOST⟩, ⟨_, PySem.W.mg_of X G zg_KINDS_AT_MOST⟩, ⟨_, PySem.W.mg_of X G zg_MOST⟩, ⟨_, PySem.W.mg_of X G zg_WEIGHT⟩, ⟨_, PySem.W.mg_of X G zg_WEIGHT_AT_MOST⟩, ⟨_, PySem.W.mg_of X G zg_WORTH⟩⟩
 refine ⟨PySem.W.fnOf "law" "law" (qt qbT) (qo qbT) (qd qbT) .none kV51 dc51 pm51 an51 cd51 ct51, fun s v => .of_eq rfl, fun base hB _ => ?_⟩
 have C_out_of_rounds := q0 (P := l.prog) (w := w) (base := base) (qD (st := zu) l0 c0 k0) (PySem.W.mg_of X G a0) T
 have C_weights_product := q1 (P := l.prog) (w := w) (base := base) (qD (st := zo) l1 c1 k1) (PySem.W.mg_of X G a1) T
 have C_lead_place := q2 (P := l.prog) (w := w) (base := base) (qD (st := zU) l2 c2 k2) (PySem.W.mg_of X G a2) T C_weights_product
 have C_lead_kind := q3 (P := l.prog) (w := w) (base := base) (qD (st := j7) l3 c3 k3) (PySem.W.mg_of X G a3) T C_lead_place
 have C_heaviest := q4 (P := l.prog) (w := w) (base := base) (qD (st := j8) l4 c4 k4) (PySem.W.mg_of X G a4) T
 have C_surely_in_rounds := q5 (P := l.prog) (w := w) (base := base) (qD (st := ze) l5 c5 k5) (PySem.W.mg_of X G a5) T C_heaviest C_lead_kind
 have C_small_worths := q6 (P := l.prog) (w := w) (base := base) (qD (st := zd) l6 c6 k6) (PySem.W.mg_of X G a6) T C_surely_in_rounds
 have C_worths_before := q7 (P := l.prog) (w := w) (base := base) (qD (st := zQ) l7 c7 k7) (PySem.W.mg_of X G a7) T C_out_of_rounds C_lead_kind C_small_worths
 have C_need_light := q8 (P := l.prog) (w := w) (base := base) (qD (st := jB) l8 c8 k8) (PySem.W.mg_of X G a8) T C_heaviest
 have C_need_endless := q9 (P := l.prog) (w := w) (base := base) (qD (st := zF) l9 c9 k9) (PySem.W.mg_of X G a9) T
 have C_is_whole := q10 (P := l.prog) (w := w) (base := base) (qD (st := yQ) l10 c10 k10) (PySem.W.mg_of X G a10) T
 have C_is_count := q11 (P := l.prog) (w := w) (base := base) (qD (st := yR) l11 c11 k11) (PySem.W.mg_of X G a11) T C_is_whole
 have C_is_kind := q12 (P := l.prog) (w := w) (base := base) (qD (st := uO) l12 c12 k12) (PySem.W.mg_of X G a12) T C_is_count
 have C_is_store := q13 (P := l.prog) (w := w) (base := base) (qD (st := j9) l13 c13 k13) (PySem.W.mg_of X G a13) T C_is_kind
 have C_need_store := q14 (P := l.prog) (w := w) (base := base) (qD (st := jC) l14 c14 k14) (PySem.W.mg_of X G a14) T C_is_store
 have C_need_light_endless := q15 (P := l.prog) (w := w) (base := base) (qD (st := qX) l15 c15 k15) (PySem.W.mg_of X G a15) T C_need_light C_need_endless C_need_store
 have C_before := q16 (P := l.prog) (w := w) (base := base) (qD (st := v4) l16 c16 k16) (PySem.W.mg_of X G a16) T C_worths_before C_need_light_endless
 have C_rounds_taken := q17 (P := l.prog) (w := w) (base := base) (qD (st := z8) l17 c17 k17) (PySem.W.mg_of X G a17) T
 have C_need_count := q18 (P := l.prog) (w := w) (base := base) (qD (st := jD) l18 c18 k18) (PySem.W.mg_of X G a18) T C_is_count
 have C_need_endless_asked := q19 (P := l.prog) (w := w) (base := base) (qD (st := qY) l19 c19 k19) (PySem.W.mg_of X G a19) T C_need_light_endless C_need_count C_need_store
 have C_endless_worth := q20 (P := l.prog) (w := w) (base := base) (qD (st := zR) l20 c20 k20) (PySem.W.mg_of X G a20) T C_rounds_taken C_lead_kind C_worths_before C_need_endless_asked
 have C__law_take := q21 (P := l.prog) (w := w) (base := base) (qD (st := ya) l21 c21 k21) (PySem.W.mg_of X G a21) T
 have C_most_within := q22 (P := l.prog) (w := w) (base := base) (qD (st := jm) l22 c22 k22) (PySem.W.mg_of X G a22) T
 have C_room_left := q23 (P := l.prog) (w := w) (base := base) (qD (st := yb) l23 c23 k23) (PySem.W.mg_of X G a23) T
 have C_worth_with := q24 (P := l.prog) (w := w) (base := base) (qD (st := jE) l24 c24 k24) (PySem.W.mg_of X G a24) T C_room_left
 have C_best_with := q25 (P := l.prog) (w := w) (base := base) (qD (st := jx) l25 c25 k25) (PySem.W.mg_of X G a25) T C_most_within C_worth_with
 have C_best_rows := q26 (P := l.prog) (w := w) (base := base) (qD (st := jy) l26 c26 k26) (PySem.W.mg_of X G a26) T C_best_with
 have C_need_few := q27 (P := l.prog) (w := w) (base := base) (qD (st := yS) l27 c27 k27) (PySem.W.mg_of X G a27) T
 have C_need_asked := q28 (P := l.prog) (w := w) (base := base) (qD (st := jF) l28 c28 k28) (PySem.W.mg_of X G a28) T C_need_few C_need_count C_need_store
 have C_best_worths := q29 (P := l.prog) (w := w) (base := base) (qD (st := jn) l29 c29 k29) (PySem.W.mg_of X G a29) T C_best_rows C_need_asked
 have C_best_worth := q30 (P := l.prog) (w := w) (base := base) (qD (st := jG) l30 c30 k30) (PySem.W.mg_of X G a30) T C_best_worths
 have C_keeps_steps := q31 (P := l.prog) (w := w) (base := base) (qD (st := jo) l31 c31 k31) (PySem.W.mg_of X G a31) T
 have C_loss := q32 (P := l.prog) (w := w) (base := base) (qD (st := qcb) l32 c32 k32) (PySem.W.mg_of X G a32) T
 have C_all_steps := q33 (P := l.prog) (w := w) (base := base) (qD (st := jz) l33 c33 k33) (PySem.W.mg_of X G a33) T C_loss C_lead_kind
 have C_is_rest_paper := q34 (P := l.prog) (w := w) (base := base) (qD (st := zv) l34 c34 k34) (PySem.W.mg_of X G a34) T C_keeps_steps C_all_steps C_is_count C_lead_kind
 have C_rest_bound := q35 (P := l.prog) (w := w) (base := base) (qD (st := jH) l35 c35 k35) (PySem.W.mg_of X G a35) T C_lead_kind C_is_rest_paper C_need_endless_asked
 have C_taken_together := q36 (P := l.prog) (w := w) (base := base) (qD (st := zf) l36 c36 k36) (PySem.W.mg_of X G a36) T
 have C_can_take := q37 (P := l.prog) (w := w) (base := base) (qD (st := yT) l37 c37 k37) (PySem.W.mg_of X G a37) T C_is_count
 have C_is_load := q38 (P := l.prog) (w := w) (base := base) (qD (st := y9) l38 c38 k38) (PySem.W.mg_of X G a38) T C_can_take C_need_store
 have C_need_load := q39 (P := l.prog) (w := w) (base := base) (qD (st := yc) l39 c39 k39) (PySem.W.mg_of X G a39) T C_is_load
 have C_fits := q40 (P := l.prog) (w := w) (base := base) (qD (st := qcc) l40 c40 k40) (PySem.W.mg_of X G a40) T C_taken_together C_need_count C_need_load
 have C_worth := q41 (P := l.prog) (w := w) (base := base) (qD (st := qar) l41 c41 k41) (PySem.W.mg_of X G a41) T C_taken_together C_need_load
 have C_is_last_in := q42 (P := l.prog) (w := w) (base := base) (qD (st := jI) l42 c42 k42) (PySem.W.mg_of X G a42) T
 have C_endless_load := q43 (P := l.prog) (w := w) (base := base) (qD (st := zG) l43 c43 k43) (PySem.W.mg_of X G a43) T C_is_last_in C_rounds_taken C_lead_place C_worths_before C_need_endless_asked
 have C__law_room_right := q44 (P := l.prog) (w := w) (base := base) (qD (st := zp) l44 c44 k44) (PySem.W.mg_of X G a44) T C_best_worth C_rest_bound C_fits C_worth C_endless_load C_endless_worth
 have C_lowered := q45 (P := l.prog) (w := w) (base := base) (qD (st := uP) l45 c45 k45) (PySem.W.mg_of X G a45) T
 have C_rest_paper := q46 (P := l.prog) (w := w) (base := base) (qD (st := zV) l46 c46 k46) (PySem.W.mg_of X G a46) T C_keeps_steps C_lowered C_all_steps C_lead_kind C_need_light_endless
 have C_start := q47 (P := l.prog) (w := w) (base := base) (qD (st := qas) l47 c47 k47) (PySem.W.mg_of X G a47) T C_worths_before C_need_light_endless
 have C_lead := q48 (P := l.prog) (w := w) (base := base) (qD (st := qcd) l48 c48 k48) (PySem.W.mg_of X G a48) T C_lead_place C_need_light_endless
 have C__law_endless := q49 (P := l.prog) (w := w) (base := base) (qD (st := z9) l49 c49 k49) (PySem.W.mg_of X G a49) T C__law_take
 have C__law_box := q50 (P := l.prog) (w := w) (base := base) (qD (st := yU) l50 c50 k50) (PySem.W.mg_of X G a50) T
 exact qnP (P := l.prog) (w := w) (base := base) (qD (st := qbT) l51 c51 k51) T C_before C_endless_worth C__law_take C__law_room_right C_rest_paper C_start C_lead C__law_endless C__law_box
theorem qoN {K : Fr0} {H : Hp} {a : Addr} {ns : List Int} (hO : qnS H) (hS : SqL K H a (ns.map V.int)) : qmx K H a (ns.map V.int) := by
 rcases hS with (h | h) | h
 ·rcases hO a with z | ⟨o, xs, z⟩
  ·rw [h] at z; cases z
  ·rw [h] at z; cases z
 ·exact .inl h
 ·exact .inr h
theorem walk {l : PySem.W.OpenLaw} {q : Program} {loose : List Str} {XP : (Str -> Option Value) -> Heap -> Prop} {YP : World -> Heap -> Prop} {d : DefRec} {K : Params -> PySem.W.Frag} (hn : l.most = some 63) (hdf : d.params.defaults = [])
  (hY : ∀ (w : World) (h : Heap), YP w h -> (K w.params).In h) (hlaw : ∀ ns : List Int, ns.length <= 63 -> qep [.fz ns] = .ok (.bl true))
  (F : ∀ (w : World) (mg : Str -> Option Value) (fa : Addr) (h : Heap), (K w.params).In h -> h.Ns mainGlobals mg -> mg d.name = some (.ref fa) ->
   ∃ fd : FuncData, (∀ (s : Shared) (u : Value), BindsTo s fd ⟨[u], []⟩ [("script", u)]) /\ ∀ base : Heap, (K w.params).In base -> base.Ns mainGlobals mg -> qc2 l.prog w (K w.params) mg base CX0 10 fa fd ["script"] (spD (K w.params) qep)) :
  PySem.W.WalkO q loose XP YP l.row.toRowW d [] (fun f vs => PySem.call f vs) :=
 L2.walk_of (n := 63) (k := 10) (x := "script") (CX := fun _ => CX0) (sp := fun w => spD (K w.params) qep) hn (by decide) hdf ⟨rfl, by decide, by decide, rfl⟩ hY F (fun w H a ns hl hO hS => by
  refine ⟨[.fz ns], fun _ => False, ⟨.ref a, [], rfl, ⟨a, rfl, qoN hO hS⟩, rfl⟩, fun _ _ => trivial, ?_⟩
  rw [hlaw ns hl]
  exact fun v H' _ h => h) fun _ _ _ _ _ z => z
end Law
end L2.Sk
open PySem PySem.W PyProof.Rows
set_option maxRecDepth 100000 in
set_option maxHeartbeats 0 in
theorem PySem.Challenge.cw_sackloads_k46_whole_rounds_holds : PySem.Challenge.rw_sackloads_k46_whole_rounds.Holds := by
 w_on; o_law; k_head; (case hw => w_witness2)
 k_fill
 refine L2.Sk.Law.walk (l := PySem.Challenge.rw_sackloads_k46_whole_rounds) rfl rfl (fun w h Y => by first | exact PySem.W.kIn_of Y | exact PySem.W.km_in_of Y) L2.Sk.Law.law_true ?F
 case F =>
  intro w mg fa h KX G hmg
  refine' L2.Sk.Law.all_mk KX G hmg ?a0 ?l0 ?c0 ?k0 ?a1 ?l1 ?c1 ?k1 ?a2 ?l2 ?c2 ?k2 ?a3 ?l3 ?c3 ?k3 ?a4 ?l4 ?c4 ?k4 ?a5 ?l5 ?c5 ?k5 ?a6 ?l6 ?c6 ?k6 ?a7 ?l7 ?c7 ?k7 ?a8 ?l8 ?c8 ?k8 ?a9 ?l9 ?c9 ?k9 ?a10 ?l10 ?c10 ?k10 ?a11 ?l11 ?c11 ?k11 ?a12 ?l12 ?c12 ?k12 ?a13 ?l13 ?c13 ?k13 ?a14 ?l14 ?c14 ?k14 ?a15 ?l15 ?c15 ?k15 ?a16 ?l16 ?c16 ?k16 ?a17 ?l17 ?c17 ?k17 ?a18 ?l18 ?c18 ?k18 ?a19 ?l19 ?c19 ?k19 ?a20 ?l20 ?c20 ?k20 ?a21 ?l21 ?c21 ?k21 ?a22 ?l22 ?c22 ?k22 ?a23 ?l23 ?c23 ?k23 ?a24 ?l24 ?c24 ?k24 ?a25 ?l25 ?c25 ?k25 ?a26 ?l26 ?c26 ?k26 ?a27 ?l27 ?c27 ?k27 ?a28 ?l28 ?c28 ?k28 ?a29 ?l29 ?c29 ?k29 ?a30 ?l30 ?c30 ?k30 ?a31 ?l31 ?c31 ?k31 ?a32 ?l32 ?c32 ?k32 ?a33 ?l33 ?c33 ?k33 ?a34 ?l34 ?c34 ?k34 ?a35 ?l35 ?c35 ?k35 ?a36 ?l36 ?c36 ?k36 ?a37 ?l37 ?c37 ?k37 ?a38 ?l38 ?c38 ?k38 ?a39 ?l39 ?c39 ?k39 ?a40 ?l40 ?c40 ?k40 ?a41 ?l41 ?c41 ?k41 ?a42 ?l42 ?c42 ?k42 ?a43 ?l43 ?c43 ?k43 ?a44 ?l44 ?c44 ?k44 ?a45 ?l45 ?c45 ?k45 ?a46 ?l46 ?c46 ?k46 ?a47 ?l47 ?c47 ?k47 ?a48 ?l48 ?c48 ?k48 ?a49 ?l49 ?c49 ?k49 ?a50 ?l50 ?c50 ?k50 ?a51 ?l51 ?c51 ?k51 ?zb_all ?zb_bool ?zb_divmod ?zb_enumerate ?zb_int ?zb_isinstance ?zb_len ?zb_list ?zb_max ?zb_min ?zb_range ?zb_reversed ?zb_sum ?zb_tuple ?zb_zip ?zg_ASKED_AT_MOST ?zg_KINDS_AT_MOST ?zg_MOST ?zg_WEIGHT ?zg_WEIGHT_AT_MOST ?zg_WORTH
  (case a0 => k_is)
  (case l0 => k_is)
  (case c0 => k_is)
  (case k0 => k_is)
  (case a1 => k_is)
  (case l1 => k_is)
  (case c1 => k_is)
  (case k1 => k_is)
  (case a2 => k_is)
  (case l2 => k_is)
  (case c2 => k_is)
  (case k2 => k_is)
  (case a3 => k_is)
  (case l3 => k_is)
  (case c3 => k_is)
  (case k3 => k_is)
  (case a4 => k_is)
  (case l4 => k_is)
  (case c4 => k_is)
  (case k4 => k_is)
  (case a5 => k_is)
  (case l5 => k_is)
  (case c5 => k_is)
  (case k5 => k_is)
  (case a6 => k_is)
  (case l6 => k_is)
  (case c6 => k_is)
  (case k6 => k_is)
  (case a7 => k_is)
  (case l7 => k_is)
  (case c7 => k_is)
  (case k7 => k_is)
  (case a8 => k_is)
  (case l8 => k_is)
  (case c8 => k_is)
  (case k8 => k_is)
  (case a9 => k_is)
  (case l9 => k_is)
  (case c9 => k_is)
  (case k9 => k_is)
  (case a10 => k_is)
  (case l10 => k_is)
  (case c10 => k_is)
  (case k10 => k_is)
  (case a11 => k_is)
  (case l11 => k_is)
  (case c11 => k_is)
  (case k11 => k_is)
  (case a12 => k_is)
  (case l12 => k_is)
  (case c12 => k_is)
  (case k12 => k_is)
  (case a13 => k_is)
  (case l13 => k_is)
  (case c13 => k_is)
  (case k13 => k_is)
  (case a14 => k_is)
  (case l14 => k_is)
  (case c14 => k_is)
  (case k14 => k_is)
  (case a15 => k_is)
  (case l15 => k_is)
  (case c15 => k_is)
  (case k15 => k_is)
  (case a16 => k_is)
  (case l16 => k_is)
  (case c16 => k_is)
  (case k16 => k_is)
  (case a17 => k_is)
  (case l17 => k_is)
  (case c17 => k_is)
  (case k17 => k_is)
  (case a18 => k_is)
  (case l18 => k_is)
  (case c18 => k_is)
  (case k18 => k_is)
  (case a19 => k_is)
  (case l19 => k_is)
  (case c19 => k_is)
  (case k19 => k_is)
  (case a20 => k_is)
  (case l20 => k_is)
  (case c20 => k_is)
  (case k20 => k_is)
  (case a21 => k_is)
  (case l21 => k_is)
  (case c21 => k_is)
  (case k21 => k_is)
  (case a22 => k_is)
  (case l22 => k_is)
  (case c22 => k_is)
  (case k22 => k_is)
  (case a23 => k_is)
  (case l23 => k_is)
  (case c23 => k_is)
  (case k23 => k_is)
  (case a24 => k_is)
  (case l24 => k_is)
  (case c24 => k_is)
  (case k24 => k_is)
  (case a25 => k_is)
  (case l25 => k_is)
  (case c25 => k_is)
  (case k25 => k_is)
  (case a26 => k_is)
  (case l26 => k_is)
  (case c26 => k_is)
  (case k26 => k_is)
  (case a27 => k_is)
  (case l27 => k_is)
  (case c27 => k_is)
  (case k27 => k_is)
  (case a28 => k_is)
  (case l28 => k_is)
  (case c28 => k_is)
  (case k28 => k_is)
  (case a29 => k_is)
  (case l29 => k_is)
  (case c29 => k_is)
  (case k29 => k_is)
  (case a30 => k_is)
  (case l30 => k_is)
  (case c30 => k_is)
  (case k30 => k_is)
  (case a31 => k_is)
  (case l31 => k_is)
  (case c31 => k_is)
  (case k31 => k_is)
  (case a32 => k_is)
  (case l32 => k_is)
  (case c32 => k_is)
  (case k32 => k_is)
  (case a33 => k_is)
  (case l33 => k_is)
  (case c33 => k_is)
  (case k33 => k_is)
  (case a34 => k_is)
  (case l34 => k_is)
  (case c34 => k_is)
  (case k34 => k_is)
  (case a35 => k_is)
  (case l35 => k_is)
  (case c35 => k_is)
  (case k35 => k_is)
  (case a36 => k_is)
  (case l36 => k_is)
  (case c36 => k_is)
  (case k36 => k_is)
  (case a37 => k_is)
  (case l37 => k_is)
  (case c37 => k_is)
  (case k37 => k_is)
  (case a38 => k_is)
  (case l38 => k_is)
  (case c38 => k_is)
  (case k38 => k_is)
  (case a39 => k_is)
  (case l39 => k_is)
  (case c39 => k_is)
  (case k39 => k_is)
  (case a40 => k_is)
  (case l40 => k_is)
  (case c40 => k_is)
  (case k40 => k_is)
  (case a41 => k_is)
  (case l41 => k_is)
  (case c41 => k_is)
  (case k41 => k_is)
  (case a42 => k_is)
  (case l42 => k_is)
  (case c42 => k_is)
  (case k42 => k_is)
  (case a43 => k_is)
  (case l43 => k_is)
  (case c43 => k_is)
  (case k43 => k_is)
  (case a44 => k_is)
  (case l44 => k_is)
  (case c44 => k_is)
  (case k44 => k_is)
  (case a45 => k_is)
  (case l45 => k_is)
  (case c45 => k_is)
  (case k45 => k_is)
  (case a46 => k_is)
  (case l46 => k_is)
  (case c46 => k_is)
  (case k46 => k_is)
  (case a47 => k_is)
  (case l47 => k_is)
  (case c47 => k_is)
  (case k47 => k_is)
  (case a48 => k_is)
  (case l48 => k_is)
  (case c48 => k_is)
  (case k48 => k_is)
  (case a49 => k_is)
  (case l49 => k_is)
  (case c49 => k_is)
  (case k49 => k_is)
  (case a50 => k_is)
  (case l50 => k_is)
  (case c50 => k_is)
  (case k50 => k_is)
  (case a51 => k_is)
  (case l51 => k_is)
  (case c51 => k_is)
  (case k51 => k_is)
  (case zb_all => k_is)
  (case zb_bool => k_is)
  (case zb_divmod => k_is)
  (case zb_enumerate => k_is)
  (case zb_int => k_is)
  (case zb_isinstance => k_is)
  (case zb_len => k_is)
  (case zb_list => k_is)
  (case zb_max => k_is)
  (case zb_min => k_is)
  (case zb_range => k_is)
  (case zb_reversed => k_is)
  (case zb_sum => k_is)
  (case zb_tuple => k_is)
  (case zb_zip => k_is)
  (case zg_ASKED_AT_MOST => k_is)
  (case zg_KINDS_AT_MOST => k_is)
  (case zg_MOST => k_is)
  (case zg_WEIGHT => k_is)
  (case zg_WEIGHT_AT_MOST => k_is)
  (case zg_WORTH => k_is)
