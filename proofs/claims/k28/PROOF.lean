import PyProof.Rows.All
import Wide.All
import OpenK.AllK
import Wide.FinOn
import Lean
import PyProof.EqAt
import PyProof.EqKinds
import PyProof.TupleCall
import KE.KUnpack
import PySem.Challenge.RW_sackloads_k28_whole_shares_and_loads
def PySem.W.Fast.tw16249463868568902006 : Nat := 0
def PySem.W.Fast.tw18080870745755345620 : Nat := 0
def PySem.W.Fast.tw12305359606239862265 : Nat := 0
def PySem.W.Fast.tw3907986381230936521 : Nat := 0
def PySem.W.Fast.tw15114096300581786267 : Nat := 0
def PySem.W.Fast.tw13516887943552212949 : Nat := 0
set_option linter.all false
set_option Elab.async false
set_option maxRecDepth 100000
open List renaming mem_cons_of_mem → mM, mem_cons_self → mS_, getElem?_eq_getElem → gG, length_cons → lC_, length_map → lM_, length_append → lA_, getElem?_map → gM_, map_cons → mC_, mem_append → mA_, length_range → lR_, length_nil → lN_, size_toArray → sT_, mem_range → mR_, mem_map → mP_, map_map → mm_, replicate_succ → rS_, length_set → lS_, not_mem_nil → nN_, map_congr_left → mL_, append_assoc → aA_, getElem?_eq_some_iff → gI_, foldl_cons → fo_, mem_append_right → mr_, filter_cons → ft_
namespace L2
open PySem PySem.Spec PyProof.Rows
abbrev Key := Sum Int Str
def qlg : Key -> Value -> Bool
 | .inl k, v => Value.isInt k v
 | .inr x, v => Value.isStrOf x v
def qoF (w : World) : Key -> Int
 | .inl k => hashInt k
 | .inr x => hashStr w x
theorem zq : ∀ {k : Key} {v : Value}, qlg k v = true -> (∃ i t, k = Sum.inl i /\ v = Value.int i t) \/ (∃ x t, k = Sum.inr x /\ v = Value.str x t)
 | .inl i, v, h => by
  obtain ⟨t, e⟩ := Value.isInt_shape (k := i) (v := v) h
  exact .inl ⟨i, t, rfl, e⟩
 | .inr x, v, h => by
  obtain ⟨t, e⟩ := Value.isStrOf_shape (x := x) (v := v) h
  exact .inr ⟨x, t, rfl, e⟩
theorem qlh (a b : Int) : decide ((Sum.inl a : Key) = Sum.inl b) = (a == b) := by
 by_cases e : a = b
 ·subst e; simp
 ·have h : ¬ (Sum.inl a : Key) = Sum.inl b := fun q => e (Sum.inl.inj q)
  rw [decide_eq_false h]
  exact (beq_eq_false_iff_ne.mpr e).symm
theorem qli (a b : Str) : decide ((Sum.inr a : Key) = Sum.inr b) = decide (a = b) := by
 by_cases e : a = b
 ·subst e; simp
 ·have h : ¬ (Sum.inr a : Key) = Sum.inr b := fun q => e (Sum.inr.inj q)
  rw [decide_eq_false h, decide_eq_false e]
theorem qlj (a : Int) (b : Str) : decide ((Sum.inl a : Key) = Sum.inr b) = false := decide_eq_false (fun q => nomatch q)
theorem qlk (a : Str) (b : Int) : decide ((Sum.inr a : Key) = Sum.inl b) = false := decide_eq_false (fun q => nomatch q)
def qb2 (prog : Program) (w : World) : PySem.KeyKind prog w Key where
 is := qlg
 hash := qoF w
 inj := fun v a b ha hb => by
  rcases zq ha with ⟨i, t, rfl, rfl⟩ | ⟨x, t, rfl, rfl⟩
  ·rcases zq hb with ⟨j, u, rfl, e⟩ | ⟨y, u, rfl, e⟩
   ·injection e with e1 _; rw [e1]
   ·exact nomatch e
  ·rcases zq hb with ⟨j, u, rfl, e⟩ | ⟨y, u, rfl, e⟩
   ·exact nomatch e
   ·injection e with e1 _; rw [e1]
 byValue := fun k v h => by
  rcases zq h with ⟨i, t, rfl, rfl⟩ | ⟨x, t, rfl, rfl⟩ <;> rfl
 pyHash := fun hv h => by
  rcases zq hv with ⟨i, t, rfl, rfl⟩ | ⟨x, t, rfl, rfl⟩
  ·exact wpAny_pyHash_int h
  ·exact wpAny_pyHash_str h
 eqBool := fun hu hv h => by
  rcases zq hu with ⟨i, t, rfl, rfl⟩ | ⟨x, t, rfl, rfl⟩
  ·rcases zq hv with ⟨j, u, rfl, rfl⟩ | ⟨y, u, rfl, rfl⟩
   ·rw [qlh] at h; exact wpAny_eqBool_int h
   ·rw [qlj] at h; exact SeqAt.EqAt.int_str i t y u _ _ _ _ h
  ·rcases zq hv with ⟨j, u, rfl, rfl⟩ | ⟨y, u, rfl, rfl⟩
   ·rw [qlk] at h; exact SeqAt.EqAt.str_int x t j u _ _ _ _ h
   ·rw [qli] at h; exact wpAny_eqBool_str h
 «strs» := fun k x t v h => by
  rcases zq h with ⟨i, u, rfl, e⟩ | ⟨y, u, rfl, e⟩
  ·exact nomatch e
  ·injection e with e1 _
   subst e1
   cases v <;> rfl
end L2
namespace L2
open PySem PySem.Spec PyProof.Rows
inductive V where
 | non | bl (b : Bool) | int (i : Int) | str (x : Str) | byt (b : Array UInt8) | flt (b : UInt64) | ref (a : Addr) | ty (n : String)
 deriving DecidableEq
def jN : V -> Value -> Prop
 | .non, u => u = Value.none
 | .bl b, u => u = Value.bool b
 | .int i, u => ∃ t, u = Value.int i t
 | .str x, u => ∃ t, u = Value.str x t
 | .byt b, u => ∃ t, u = Value.bytes b t
 | .flt b, u => ∃ t, u = Value.float b t
 | .ref a, u => u = Value.ref a
 | .ty n, u => u = Value.type n
abbrev zg : List V -> List Value -> Prop := Paired jN
theorem zg.length {xs : List V} {us : List Value} (r : zg xs us) : xs.length = us.length := Paired.length r
theorem zg.get : ∀ {xs : List V} {us : List Value} {i : Nat} {x : V}, zg xs us -> xs[i]? = some x -> ∃ u, us[i]? = some u /\ jN x u
 | _, _, _, _, .nil, e => by simp at e
 | _, _, 0, _, .cons r _, e => by simp at e; subst e; exact ⟨_, rfl, r⟩
 | _, _, i + 1, x, .cons _ t, e => by
  obtain ⟨u, h1, h2⟩ := zg.get (i := i) (x := x) t (by simpa using e)
  exact ⟨u, by simpa using h1, h2⟩
theorem zg.set {x : V} {u : Value} (r : jN x u) : ∀ {xs : List V} {us : List Value} (i : Nat), zg xs us -> zg (xs.set i x) (us.set i u)
 | _, _, _, .nil => .nil
 | _, _, 0, .cons _ t => .cons r t
 | _, _, i + 1, .cons q t => .cons q (zg.set r i t)
theorem zg.append : ∀ {xs ys : List V} {us ws : List Value}, zg xs us -> zg ys ws -> zg (xs ++ ys) (us ++ ws)
 | _, _, _, _, .nil, s => s
 | _, _, _, _, .cons r t, s => .cons r (zg.append t s)
theorem zg.take : ∀ {xs : List V} {us : List Value} (n : Nat), zg xs us -> zg (xs.take n) (us.take n)
 | _, _, 0, _ => .nil
 | _, _, _ + 1, .nil => .nil
 | _, _, n + 1, .cons r t => .cons r (zg.take n t)
theorem zg.drop : ∀ {xs : List V} {us : List Value} (n : Nat), zg xs us -> zg (xs.drop n) (us.drop n)
 | _, _, 0, r => r
 | _, _, _ + 1, .nil => .nil
 | _, _, n + 1, .cons _ t => zg.drop n t
def qnj : Option V -> Option Value -> Prop
 | some v, some u => jN v u
 | none, none => True
 | _, _ => False
def KV {κ : Type} : List (κ × V) -> List (κ × Value) -> Prop := Paired fun (p : κ × V) (q : κ × Value) => p.1 = q.1 /\ jN p.2 q.2
def kV : Key -> V
 | .inl i => .int i
 | .inr x => .str x
inductive HO where
 /-- a list -/
 | lst (xs : List V)
 /-- a tuple (never changes) -/
 | tup (xs : List V)
 /-- a dict whose keys are ints and texts; one whose keys are tuples of ints and texts (the empty one is both) -/
 | dK (kvs : List (Key × V)) | dT (kvs : List (List Key × V))
 /-- a set of ints: its members, its size -/
 | set (S : Int -> Bool) (n : Nat)
 /-- an instance of the class at C, its dict at dx, its attributes -/
 | ins (C dx : Addr) (fs : List (Str × V))
 /-- the dict of the instance at x -/
 | own (x : Addr)
 /-- the dict of an exception -/
 | xd (fs : List (Str × V))
 /-- a bound method, f of x -/
 | met (f x : Addr)
 /-- a range object lo, lo + 1, .. below hi -/
 | rng (lo hi : Int)
 /-- a thing that is known to the object (the script; a dict while a loop walks it): read, never written while it is so -/
 | frz (o : Obj) (u : HO)
 /-- a code object's table -/
 | tbl (ps : Array Value)
 /-- any other thing, by what is true of its one object (a def of one's own: SetO a S n := HO.ext fun h => ..) -/
 | ext (φ : Heap -> Prop)
 /-- the table of a code object in which at most one lambda's code stands -/
 | lam (pos : Pos) (q : Str)
abbrev Hp := Addr -> Option HO
def upd (H : Hp) (a : Addr) (o : HO) : Hp := fun b => if b = a then some o else H b
theorem qw {H : Hp} {a : Addr} {o : HO} : upd H a o a = some o := by unfold upd; rw [if_pos rfl]
theorem qv {H : Hp} {a b : Addr} {o : HO} (h : b ≠ a) : upd H a o b = H b := by unfold upd; rw [if_neg h]
theorem wB {H : Hp} {a b : Addr} {o u : HO} (h : H a = some o) (h' : H b = some u) (d : o ≠ u) : a ≠ b := by
 intro e; subst e; rw [h] at h'; exact d (Option.some.inj h')
theorem qI {H : Hp} {a b : Addr} {o : HO} (h : H a = some o) (h' : H b = none) : a ≠ b := by
 intro e; subst e; rw [h] at h'; cases h'
section
variable (P : Program) (w : World)
def yU (H : Hp) (h : Heap) (a : Addr) : HO -> Prop
 | .lst xs => xs.length <= sizeLine /\ ∃ (its : List Value) (n : Nat), zg xs its /\ h.get? a = some { cls := .type "list", data := .seq its.toArray n }
 | .tup xs => xs.length <= sizeLine /\ ∃ its : List Value, zg xs its /\ IsTup h a its.toArray
 | .dK kvs => kvs.length <= sizeLine /\ (a == sysModules) = false /\ ∃ vs, KV kvs vs /\ h.DictOf (qb2 P w) a vs
 | .dT kvs => kvs.length <= sizeLine /\ (a == sysModules) = false /\ ∃ xs : List (List Key × Addr × Value),
   Paired (fun (p : List Key × V) (q : List Key × Addr × Value) => p.1 = q.1 /\ H q.2.1 = some (.tup (p.1.map kV)) /\ jN p.2 q.2.2) kvs xs /\
   ∃ o es ep, h.get? a = some o /\ o.ExactDict /\ o.data = .dict es ep /\ es.toList = xs.map (entryOfKey (tupleKind (qb2 P w))) /\ (xs.map (·.1)).Nodup
 | .set S n => h.SetOf (intKind P w) a S n
 | .ins C dx fs => H dx = some (.own a) /\ fs.length <= 1000 /\ dx ≠ a /\ h.get? a = some (PySem.W.instObj C dx) /\
   ∃ mA, h.Ns1 dx mA /\ (∀ f, qnj (fs.lookup f) (mA f)) /\ PySem.Within mA (fs.map (·.1))
 | .own _ => ∃ o, h.get? a = some o
 | .xd fs => ∃ mA, h.Ns1 a mA /\ ∀ f, qnj (fs.lookup f) (mA f)
 | .rng lo hi => ∃ t u v, h.get? a = some { cls := .type "range", data := .fields #[.int lo t, .int hi u, .int 1 v] }
 | .frz o u => h.get? a = some o /\ yU H h a u
 | .tbl ps => h.get? a = some { cls := .none, data := .fields ps }
 | .met f x => h.get? a = some (PySem.W.methodObj (.ref f) (.ref x))
 | .lam pos q => h.get? a = some { cls := .none, data := .fields #[] } \/ ∃ (c : Addr) (oc : Obj) (vs : Array Value) (t : Tok), H c = some (.frz oc (.own c)) /\ oc.data = .fields vs /\ vs[1]? = some (.str q t) /\
   h.get? a = some { cls := .none, data := .fields #[rawInt pos.line, rawInt pos.col, .ref c] }
 | .ext φ => φ h /\ (∃ o, h.get? a = some o) /\ ∀ h1 h2 : Heap, φ h1 -> (∀ o, h1.get? a = some o -> h2.get? a = some o) -> φ h2
def HOk (H : Hp) (h : Heap) : Prop := ∀ a o, H a = some o -> yU P w H h a o
end
section
variable {P : Program} {w : World} {H H' : Hp} {h h' : Heap} {a : Addr} {o : HO}
theorem yU.lt (x : yU P w H h a o) : a < h.objs.size := by
 cases o with
 | lst xs => obtain ⟨_, _, _, _, e⟩ := x; exact Heap.lt_size e
 | tup xs => obtain ⟨_, _, _, p⟩ := x; exact p.lt
 | dK kvs => obtain ⟨_, _, _, _, o, _, _, e, _⟩ := x; exact Heap.lt_size e
 | dT kvs => obtain ⟨_, _, _, _, o, _, _, e, _⟩ := x; exact Heap.lt_size e
 | set S n => obtain ⟨o, _, _, _, e, _⟩ := x; exact Heap.lt_size e
 | ins C dx fs => obtain ⟨_, _, _, e, _⟩ := x; exact Heap.lt_size e
 | own y => obtain ⟨_, e⟩ := x; exact Heap.lt_size e
 | xd fs => obtain ⟨_, ⟨_, _, _, e, _⟩, _⟩ := x; exact Heap.lt_size e
 | rng lo hi => obtain ⟨_, _, _, e⟩ := x; exact Heap.lt_size e
 | frz ob u => obtain ⟨e, _⟩ := x; exact Heap.lt_size e
 | tbl ps => exact Heap.lt_size (show h.get? a = some _ from x)
 | met f y => exact Heap.lt_size (show h.get? a = some _ from x)
 | ext φ => obtain ⟨_, ⟨_, e⟩, _⟩ := x; exact Heap.lt_size e
 | lam pos q =>
  rcases x with e | ⟨_, _, _, _, _, _, _, e⟩
  ·exact Heap.lt_size e
  ·exact Heap.lt_size e
theorem Paired.mapP {α β : Type} {F G : α -> β -> Prop} : ∀ {lK : List α} {lQ : List β}, Paired F lK lQ -> (∀ a b, F a b -> G a b) -> Paired G lK lQ
 | _, _, .nil, _ => .nil
 | _, _, .cons r t, f => .cons (f _ _ r) (Paired.mapP t f)
theorem yU.stay (x : yU P w H h a o) (k : ∀ b u, (b = a \/ H b = some (.own a)) -> h.get? b = some u -> h'.get? b = some u)
  (ho : ∀ b, H b = some (.own a) -> H' b = some (.own a)) (ht : ∀ b xs, H b = some (.tup xs) -> H' b = some (.tup xs)) (hz : ∀ b ob u, H b = some (.frz ob u) -> H' b = some (.frz ob u) := by exact fun _ _ _ q => q) : yU P w H' h' a o := by
 induction o with
 | lst xs => obtain ⟨z, its, n, r, e⟩ := x; exact ⟨z, its, n, r, k _ _ (.inl rfl) e⟩
 | tup xs => obtain ⟨z, its, r, ob, e, c⟩ := x; exact ⟨z, its, r, ob, k _ _ (.inl rfl) e, c⟩
 | dK kvs => obtain ⟨z, y, vs, r, ob, es, ep, e, c⟩ := x; exact ⟨z, y, vs, r, ob, es, ep, k _ _ (.inl rfl) e, c⟩
 | dT kvs =>
  obtain ⟨z, y, xs, r, ob, es, ep, e, c⟩ := x
  exact ⟨z, y, xs, Paired.mapP r fun p q z => ⟨z.1, ht _ _ z.2.1, z.2.2⟩, ob, es, ep, k _ _ (.inl rfl) e, c⟩
 | set S n => obtain ⟨ob, es, ep, t, e, c⟩ := x; exact ⟨ob, es, ep, t, k _ _ (.inl rfl) e, c⟩
 | ins C dx fs =>
  obtain ⟨d, z, ne, e, mA, ⟨od, es, ep, e2, c⟩, r⟩ := x
  exact ⟨ho _ d, z, ne, k _ _ (.inl rfl) e, mA, ⟨od, es, ep, k _ _ (.inr d) e2, c⟩, r⟩
 | own y => obtain ⟨ob, e⟩ := x; exact ⟨ob, k _ _ (.inl rfl) e⟩
 | xd fs => obtain ⟨mA, ⟨od, es, ep, e, c⟩, r⟩ := x; exact ⟨mA, ⟨od, es, ep, k _ _ (.inl rfl) e, c⟩, r⟩
 | rng lo hi => obtain ⟨t, u, v, e⟩ := x; exact ⟨t, u, v, k _ _ (.inl rfl) e⟩
 | frz ob u ih => obtain ⟨e, q⟩ := x; exact ⟨k _ _ (.inl rfl) e, ih q⟩
 | tbl ps =>
  have e : h.get? a = some { cls := .none, data := .fields ps } := x
  show h'.get? a = some { cls := .none, data := .fields ps }
  exact k a _ (.inl rfl) e
 | met f y =>
  have e : h.get? a = some (PySem.W.methodObj (.ref f) (.ref y)) := x
  show h'.get? a = some (PySem.W.methodObj (.ref f) (.ref y))
  exact k a _ (.inl rfl) e
 | ext φ => obtain ⟨p, ⟨o, e⟩, st⟩ := x; exact ⟨st _ _ p fun o q => k _ _ (.inl rfl) q, ⟨o, k _ _ (.inl rfl) e⟩, st⟩
 | lam pos q =>
  rcases x with e | ⟨c, oc, vs, t, h1, h2, h3, e⟩
  ·exact .inl (k _ _ (.inl rfl) e)
  ·exact .inr ⟨c, oc, vs, t, hz _ _ _ h1, h2, h3, k _ _ (.inl rfl) e⟩
theorem HOk.lt (x : HOk P w H h) (e : H a = some o) : a < h.objs.size := (x a o e).lt
theorem HOk.fresh (x : HOk P w H h) (e : h.objs.size <= a) : H a = none := by
 cases q : H a with
 | none => rfl
 | some u => exact absurd (Nat.lt_of_lt_of_le (x.lt q) e) (Nat.lt_irrefl _)
theorem HOk.kept (x : HOk P w H h) (k : ∀ b u, h.get? b = some u -> h'.get? b = some u) : HOk P w H h' := fun a o e =>
 (x a o e).stay (fun b u _ q => k b u q) (fun _ q => q) fun _ _ q => q
theorem HOk.laid (x : HOk P w H h) (k : ∀ b u, h.get? b = some u -> h'.get? b = some u) (hp : h.objs.size <= a) (new : yU P w (upd H a o) h' a o) : HOk P w (upd H a o) h' := fun b u e => by
 have hn := x.fresh hp
 by_cases hb : b = a
 ·subst hb; rw [qw] at e; cases e; exact new
 ·rw [qv hb] at e
  exact (x b u e).stay (fun c v _ q => k c v q) (fun c q => by rw [qv (qI q hn)]; exact q) (fun c xs q => by rw [qv (qI q hn)]; exact q) fun c ob z q => by rw [qv (qI q hn)]; exact q
end
def Rd (H : Hp) (a : Addr) (u : HO) : Prop := H a = some u \/ ∃ o, H a = some (.frz o u)
theorem Rd.ok {P : Program} {w : World} {H : Hp} {h : Heap} {a : Addr} {u : HO} (r : Rd H a u) (x : HOk P w H h) : yU P w H h a u := by
 rcases r with r | ⟨o, r⟩
 ·exact x a u r
 ·obtain ⟨_, q⟩ := x a _ r
  exact q
def Mut : Option HO -> Prop
 | some (.lst _) => True
 | some (.dK _) => True
 | some (.dT _) => True
 | some (.set _ _) => True
 | some (.ins _ _ _) => True
 | some (.ext _) => True
 | _ => False
section
variable {P : Program} {w : World} {H : Hp} {h h' : Heap} {x e : Addr} {o' : HO}
theorem HOk.write (ok : HOk P w H h) (mu : Mut (H x)) (he : e = x \/ H e = some (.own x)) (k : ∀ b u, b ≠ e -> h.get? b = some u -> h'.get? b = some u) (heo : ∃ u, h'.get? e = some u)
  (new : yU P w (upd H x o') h' x o') : HOk P w (upd H x o') h' := fun b u q => by
 have nown : ∀ c y, H c = some (.own y) -> c ≠ x := fun c y r z => by subst z; rw [r] at mu; exact mu
 have ntup : ∀ c xs, H c = some (.tup xs) -> c ≠ x := fun c xs r z => by subst z; rw [r] at mu; exact mu
 have nfrz : ∀ c ob y, H c = some (.frz ob y) -> c ≠ x := fun c ob y r z => by subst z; rw [r] at mu; exact mu
 by_cases hb : b = x
 ·subst hb; rw [qw] at q; cases q; exact new
 ·rw [qv hb] at q
  by_cases hbe : b = e
  ·have q' : H b = some (.own x) := by
    rcases he with z | z
    ·exact absurd (hbe.trans z) hb
    ·rw [hbe]; exact z
   rw [q] at q'; cases q'
   obtain ⟨v, hv⟩ := heo
   exact ⟨v, by rw [hbe]; exact hv⟩
  ·refine (ok b u q).stay (fun c v hc r => k c v ?_ r) (fun c r => by rw [qv (nown c b r)]; exact r) (fun c xs r => by rw [qv (ntup c xs r)]; exact r) fun c ob z r => by rw [qv (nfrz c ob z r)]; exact r
   rcases hc with rfl | hc
   ·exact hbe
   ·rintro rfl
    rcases he with z | z
    ·exact nown c b hc z
    ·rw [hc] at z; cases z; exact hb rfl
end
structure Un (fs ex : List Addr) (H H' : Hp) (h h' : Heap) : Prop where
 keep : ∀ b o, h.get? b = some o -> H b = none -> b ∉ fs -> b ∉ ex -> h'.get? b = some o
 slot : ∀ b o, h.get? b = some o -> H b = none -> b ∈ fs -> b ∉ ex -> ∃ sl, h'.get? b = some { o with slots := sl }
 free : ∀ b o, h.get? b = some o -> H b = none -> b ∉ ex -> H' b = none
 there : ∀ b o, h.get? b = some o -> b ∉ ex -> ∃ o', h'.get? b = some o'
 tups : ∀ b xs, H b = some (.tup xs) -> H' b = some (.tup xs)
 frzs : ∀ b o u, H b = some (.frz o u) -> H' b = some (.frz o u)
 tbls : ∀ b pos q, H b = some (.lam pos q) -> H' b = some (.lam pos q)
section
variable {fs fs' ex ex' : List Addr} {H H1 H2 : Hp} {h h1 h2 h' : Heap} {a x e : Addr} {o : HO}
theorem Un.any (u : Un fs ex H H1 h h1) {b : Addr} {ob : Obj} (q : h.get? b = some ob) (n : H b = none) (hx : b ∉ ex) : ∃ sl, h1.get? b = some { ob with slots := sl } := by
 by_cases hb : b ∈ fs
 ·exact u.slot b ob q n hb hx
 ·exact ⟨ob.slots, u.keep b ob q n hb hx⟩
theorem Un.trans (a : Un fs ex H H1 h h1) (b : Un fs ex H1 H2 h1 h2) : Un fs ex H H2 h h2 where
 keep := fun c ob q n hc hx => b.keep c ob (a.keep c ob q n hc hx) (a.free c ob q n hx) hc hx
 slot := fun c ob q n hc hx => by
  obtain ⟨sl, e1⟩ := a.slot c ob q n hc hx
  obtain ⟨sl', e2⟩ := b.slot c _ e1 (a.free c ob q n hx) hc hx
  exact ⟨sl', e2⟩
 free := fun c ob q n hx => by
  obtain ⟨o', e1⟩ := a.there c ob q hx
  exact b.free c o' e1 (a.free c ob q n hx) hx
 there := fun c ob q hx => by
  obtain ⟨o', e1⟩ := a.there c ob q hx
  exact b.there c o' e1 hx
 tups := fun c xs q => b.tups c xs (a.tups c xs q)
 frzs := fun c ob xs q => b.frzs c ob xs (a.frzs c ob xs q)
 tbls := fun c ps x q => b.tbls c ps x (a.tbls c ps x q)
theorem Un.kept (k : ∀ b u, h.get? b = some u -> h'.get? b = some u) : Un fs ex H H h h' :=
 ⟨fun b ob q _ _ _ => k b ob q, fun b ob q _ _ _ => ⟨ob.slots, k b ob q⟩, fun _ _ _ n _ => n, fun b ob q _ => ⟨ob, k b ob q⟩, fun _ _ q => q, fun _ _ _ q => q, fun _ _ _ q => q⟩
theorem Un.refl : Un fs ex H H h h := Un.kept fun _ _ q => q
theorem Un.laid (k : ∀ b u, h.get? b = some u -> h'.get? b = some u) (hp : h.objs.size <= a) (hn : H a = none) : Un fs ex H (upd H a o) h h' where
 keep := fun b u q _ _ _ => k b u q
 slot := fun b u q _ _ _ => ⟨u.slots, k b u q⟩
 free := fun b u q n _ => by rw [qv (Nat.ne_of_lt (Nat.lt_of_lt_of_le (Heap.lt_size q) hp))]; exact n
 there := fun b u q _ => ⟨u, k b u q⟩
 tups := fun b xs q => by rw [qv (qI q hn)]; exact q
 frzs := fun b u xs q => by rw [qv (qI q hn)]; exact q
 tbls := fun b ps x q => by rw [qv (qI q hn)]; exact q
theorem Un.write (mu : Mut (H x)) (he : e = x \/ H e = some (.own x)) (k : ∀ b u, b ≠ e -> h.get? b = some u -> h'.get? b = some u) (heo : ∃ u, h'.get? e = some u) : Un fs ex H (upd H x o) h h' := by
 have hx : ∀ b, H b = none -> b ≠ x := fun b n z => by subst z; rw [n] at mu; exact mu
 have hb : ∀ b, H b = none -> b ≠ e := fun b n z => by
  subst z
  rcases he with r | r
  ·exact hx b n r
  ·rw [n] at r; cases r
 have hm : ∀ b u, H b = some u -> ¬ Mut (some u) -> b ≠ x := fun b u q nm z => by subst z; rw [q] at mu; exact nm mu
 refine ⟨fun b u q n _ _ => k b u (hb b n) q, fun b u q n _ _ => ⟨u.slots, k b u (hb b n) q⟩, fun b u q n _ => by rw [qv (hx b n)]; exact n, fun b u q _ => ?_,
  fun b xs q => by rw [qv (hm b _ q fun z => z)]; exact q, fun b u xs q => by rw [qv (hm b _ q fun z => z)]; exact q, fun b ps x q => by rw [qv (hm b _ q fun z => z)]; exact q⟩
 by_cases hbe : b = e
 ·subst hbe; exact heo
 ·exact ⟨u, k b u hbe q⟩
end
def trk (h : Heap) (H : Hp) : List Addr := (List.range h.objs.size).filter fun a => (H a).isSome
def qhw (h : Heap) (H : Hp) : Heap := PySem.W.hideAll h (trk h H)
theorem qfO (h : Heap) (H : Hp) : (qhw h H).objs.size = h.objs.size := PySem.W.hideAll_size _ _
theorem qhx {h : Heap} {H : Hp} {b : Addr} {o : Obj} (e : h.get? b = some o) (n : H b = none) : (qhw h H).get? b = some o :=
 PySem.W.hideAll_get _ e fun hm => by
  have q : (H b).isSome = true := (List.mem_filter.mp hm).2
  rw [n] at q; simp at q
theorem qjz {h : Heap} {H : Hp} {b : Addr} {o : Obj} (e : (qhw h H).get? b = some o) : h.get? b = some o /\ H b = none := by
 have e' : h.get? b = some o := PySem.W.of_hideAll (trk h H) e
 refine ⟨e', ?_⟩
 cases q : H b with
 | none => rfl
 | some x =>
  have hm : b ∈ trk h H := List.mem_filter.mpr ⟨mR_.mpr (Heap.lt_size e'), by simp [q]⟩
  have z : (qhw h H).get? b = none := PySem.W.hideAll_none (trk h H) hm
  rw [z] at e; cases e
def qjA (g h : Heap) (L : Addr) : List (Addr × Obj) := (List.range h.objs.size).filterMap fun a => if a = L \/ (g.get? a).isSome = true then none else (h.get? a).map fun o => (a, o)
def uB (g h : Heap) (L d : Addr) : List (Addr × Obj) := (qjA g h L).filter fun p => decide (p.1 ≠ d)
end L2
namespace L2
open PySem PySem.Spec PyProof.Rows
structure Mod (K : PySem.W.Frag) (mg : Str -> Option Value) (base : Heap) : Prop where
 kin : K.In base
 glob : base.Ns mainGlobals mg
 blt : ∃ mb, base.Ns builtinsNs mb /\ ∀ x : Str, x ≠ "__name__" -> mb x = bootBuiltins x
 nolimit : base.NoLimit
 bm : ∃ bm ob, mg "__builtins__" = some (.ref bm) /\ bm ≠ builtinsNs /\ base.get? bm = some ob /\ ob.cls = .type "module" /\ ob.dict = some builtinsNs /\ ob.data = .plain
structure Cx where
 prog : Program
 w : World
 K : PySem.W.Frag
 mg : Str -> Option Value
 base : Heap
 A : Around
 N : List Str
 s₀ : Shared
 H₀ : Hp
 env : Env
 outer : List Env
 stack : List Env
 ex : List Addr
 fn : Str -> Bool
 calm : Bool
 pn : List (Addr × Obj)
 xe : Value -> Shared -> Prop
def frs (l : List Env) : List Addr := l.filterMap (·.frame)
abbrev Cx.fs (X : Cx) : List Addr := frs X.outer
def Vis (sc : Scope) (x : Str) : Prop := sc.names.lookup x = some .local \/ sc.names.lookup x = some .cell \/ sc.names.lookup x = some .free
def Loc (sc : Scope) (x : Str) : Prop := sc.names.lookup x = some .local \/ sc.names.lookup x = some .cell
def qoG (env : Env) (h : Heap) (m : Str -> Option Value) (x : Str) (u : Value) : Prop :=
 (env.kindOf x = some .local /\ m x = some u) \/ ((env.kindOf x = some .cell \/ env.kindOf x = some .free) /\ ∃ c, env.cells.lookup x = some c /\ h.IsCell c (some u))
structure Cx.Ok (X : Cx) : Prop where
 mod : Mod X.K X.mg X.base
 kind : X.env.scope.kind = .function
 glob : X.env.globals = mainGlobals
 blt : X.env.builtins = builtinsNs
 above : X.s₀.heap.objs.size <= X.env.locals
 inj : ∀ x y c, X.env.cells.lookup x = some c -> X.env.cells.lookup y = some c -> x = y
 has : ∀ x, (X.env.kindOf x = some .cell \/ X.env.kindOf x = some .free) -> ∃ c, X.env.cells.lookup x = some c
 cab : ∀ x c, X.fn x = true -> X.env.cells.lookup x = some c -> X.s₀.heap.objs.size <= c
 hd : X.calm = true -> X.A.handled = none
 frames : X.A.frames = some X.stack
 stk : X.stack = X.outer \/ (X.stack = X.env :: X.outer /\ X.env.frame = some X.env.locals)
 exf : ∀ b ∈ X.ex, b ≠ X.env.locals /\ ∀ x c, X.env.cells.lookup x = some c -> c ≠ b
 bs : ∀ b o, X.base.get? b = some o -> X.s₀.heap.get? b = some o /\ X.H₀ b = none
 bsz : X.base.objs.size <= X.s₀.heap.objs.size
 noex : ∀ b o, X.base.get? b = some o -> b ∉ X.ex
 exfs : ∀ b ∈ X.ex, b ∉ X.fs
 funs : X.s₀.heap.FunFrames X.base X.outer
 frf : ∀ b ∈ X.fs, X.H₀ b = none
structure Inv (X : Cx) (pins : List (Addr × Obj)) (Z : List (Option V)) (H : Hp) (s : Shared) : Prop where
 ok : X.Ok
 os : s.os = X.s₀.os
 bare : AllBare s.gens
 base : Un X.fs X.ex X.H₀ H X.s₀.heap s.heap
 loc : ∃ m, s.heap.Ns X.env.locals m /\ ∀ (i : Nat) (x : Str) (v : V), X.N[i]? = some x -> Z[i]? = some (some v) -> Vis X.env.scope x -> ∃ u, jN v u /\ qoG X.env s.heap m x u
 cell : ∀ x c, X.env.cells.lookup x = some c -> ∃ v, s.heap.IsCell c v
 free : H X.env.locals = none
 freeC : ∀ x c, X.env.cells.lookup x = some c -> H c = none
 pin : ∀ p ∈ X.pn ++ pins, s.heap.get? p.1 = some p.2 /\ H p.1 = none /\ p.1 ≠ X.env.locals /\ p.1 ∉ X.fs /\ ∀ v, p.2.data ≠ .cell v
 hok : HOk X.prog X.w H s.heap
 len : Z.length = X.N.length
section
variable {X : Cx} {pins : List (Addr × Obj)} {Z : List (Option V)} {H H' : Hp} {s : Shared} {h' : Heap}
theorem Cx.Ok.nofr (ok : X.Ok) {b : Addr} {o : Obj} (e : X.base.get? b = some o) : b ∉ X.fs := fun hb => by
 have := (ok.funs.mem hb).1
 rw [e] at this; cases this
theorem Inv.bs (I : Inv X pins Z H s) : ∀ b o, X.base.get? b = some o -> s.heap.get? b = some o /\ H b = none := fun b o e =>
 ⟨I.base.keep b o (I.ok.bs b o e).1 (I.ok.bs b o e).2 (I.ok.nofr e) (I.ok.noex b o e), I.base.free b o (I.ok.bs b o e).1 (I.ok.bs b o e).2 (I.ok.noex b o e)⟩
theorem Inv.bk (I : Inv X pins Z H s) : ∀ b o, X.base.get? b = some o -> s.heap.get? b = some o := fun b o e => (I.bs b o e).1
theorem Inv.mod (I : Inv X pins Z H s) : Mod X.K X.mg X.base := I.ok.mod
theorem Inv.kIn (I : Inv X pins Z H s) : X.K.In s.heap := I.ok.mod.kin.keeps I.bk
theorem Inv.nolimit (I : Inv X pins Z H s) : s.heap.NoLimit := I.ok.mod.nolimit.keeps I.bk
theorem Inv.lt (I : Inv X pins Z H s) : X.env.locals < s.heap.objs.size := let ⟨_, hn, _⟩ := I.loc; hn.lt
theorem Inv.sz (I : Inv X pins Z H s) : X.s₀.heap.objs.size <= s.heap.objs.size := Nat.le_trans I.ok.above (Nat.le_of_lt I.lt)
theorem Inv.nofs (I : Inv X pins Z H s) {a : Addr} (h : s.heap.objs.size <= a) : a ∉ X.fs := fun hb => by
 obtain ⟨_, o, ho, _⟩ := I.ok.funs.mem hb
 exact absurd (Nat.lt_of_lt_of_le (Heap.lt_size ho) (Nat.le_trans I.sz h)) (Nat.lt_irrefl _)
theorem Inv.cne (I : Inv X pins Z H s) : ∀ x c, X.env.cells.lookup x = some c -> c ≠ X.env.locals := fun x c e z => by
 obtain ⟨v, o, ho, hd⟩ := I.cell x c e
 obtain ⟨m, ⟨o', es, ep, ho', hd', _⟩, _⟩ := I.loc
 rw [z, ho'] at ho; cases ho; rw [hd'] at hd; cases hd
theorem Inv.funs (I : Inv X pins Z H s) : s.heap.FunFrames X.base X.outer := by
 have all : ∀ (l : List Env), (∀ b ∈ frs l, b ∈ X.fs) -> X.s₀.heap.FunFrames X.base l -> s.heap.FunFrames X.base l := by
  intro l
  induction l with
  | nil => intro _ _; trivial
  | cons env r ih =>
   intro hs hl
   obtain ⟨hk, ⟨L, o, hf, hn, ho, hd⟩, hr⟩ := hl
   have hL : L ∈ X.fs := hs L (by unfold frs; rw [List.filterMap_cons, hf]; exact mS_)
   obtain ⟨sl, e⟩ := I.base.slot L o ho (I.ok.frf L hL) hL fun z => I.ok.exfs L z hL
   exact ⟨hk, ⟨L, _, hf, hn, e, hd⟩, ih (fun b hb => hs b (by unfold frs; rw [List.filterMap_cons, hf]; exact mM _ hb)) hr⟩
 exact all X.outer (fun _ hb => hb) I.ok.funs
theorem Inv.stack (I : Inv X pins Z H s) : s.heap.FunFrames X.base X.stack := by
 rcases I.ok.stk with e | ⟨e, hf⟩
 ·rw [e]; exact I.funs
 ·rw [e]
  obtain ⟨m, hn, _⟩ := I.loc
  refine .cons (by rw [I.ok.kind]; decide) hf hn ?_ I.funs
  exact Heap.get?_none_of_le (Nat.le_trans I.ok.bsz I.ok.above)
theorem Inv.stkSub (I : Inv X pins Z H s) : ∀ b ∈ frs X.stack, b ∈ X.env.locals :: X.fs := fun b hb => by
 rcases I.ok.stk with e | ⟨e, hf⟩
 ·rw [e] at hb; exact mM _ hb
 ·rw [e] at hb
  unfold frs at hb
  rw [List.filterMap_cons, hf] at hb
  exact hb
theorem Inv.stkFree (I : Inv X pins Z H s) : ∀ b ∈ frs X.stack, H b = none := fun b hb => by
 rcases List.mem_cons.mp (I.stkSub b hb) with e | hb
 ·rw [e]; exact I.free
 ·obtain ⟨_, o, ho, _⟩ := I.ok.funs.mem hb
  exact I.base.free b o ho (I.ok.frf b hb) fun z => I.ok.exfs b z hb
theorem Inv.step {g' : Array GenState} {t' : Nat} {d' : Drawn} {ch : List Addr} (I : Inv X pins Z H s)
  (hch : ∀ b ∈ ch, (b ∈ X.ex \/ X.s₀.heap.objs.size <= b) /\ b ≠ X.env.locals /\ (∀ x c, X.env.cells.lookup x = some c -> c ≠ b) /\ ∀ p ∈ X.pn ++ pins, p.1 ≠ b)
  (keep : ∀ b o, b ≠ X.env.locals -> b ∉ X.fs -> b ∉ ch -> s.heap.get? b = some o -> H b = none -> h'.get? b = some o)
  (slot : ∀ b o, b ≠ X.env.locals -> b ∈ X.fs -> b ∉ ch -> s.heap.get? b = some o -> H b = none -> ∃ sl, h'.get? b = some { o with slots := sl }) (free : ∀ b o, b ∉ ch -> s.heap.get? b = some o -> H b = none -> H' b = none)
  (there : ∀ b o, b ∉ ch -> s.heap.get? b = some o -> ∃ o', h'.get? b = some o')
  (tups : ∀ b xs, H b = some (.tup xs) -> H' b = some (.tup xs)) (frzs : ∀ b o u, H b = some (.frz o u) -> H' b = some (.frz o u)) (tbls : ∀ b pos q, H b = some (.lam pos q) -> H' b = some (.lam pos q))
  (ns : ∀ m, s.heap.Ns X.env.locals m -> h'.Ns X.env.locals m) (hok : HOk X.prog X.w H' h') (hg : AllBare g') :
  Inv X pins Z H' { s with heap := h', gens := g', drawn := d', toks := t' } := by
 have neL : ∀ b o, X.s₀.heap.get? b = some o -> b ≠ X.env.locals := fun b o e => Nat.ne_of_lt (Nat.lt_of_lt_of_le (Heap.lt_size e) I.ok.above)
 have neC : ∀ b o, X.s₀.heap.get? b = some o -> b ∉ X.ex -> b ∉ ch := fun b o e hx hb => by
  rcases (hch b hb).1 with z | z
  ·exact hx z
  ·exact absurd (Nat.lt_of_lt_of_le (Heap.lt_size e) z) (Nat.lt_irrefl _)
 have cellK : ∀ x c, X.env.cells.lookup x = some c -> ∀ v, s.heap.IsCell c v -> h'.IsCell c v := fun x c e v ⟨o, ho, hd⟩ => by
  have nch : c ∉ ch := fun z => (hch c z).2.2.1 x c e rfl
  by_cases hc : c ∈ X.fs
  ·obtain ⟨sl, q⟩ := slot c o (I.cne x c e) hc nch ho (I.freeC x c e)
   exact ⟨_, q, hd⟩
  ·exact ⟨o, keep c o (I.cne x c e) hc nch ho (I.freeC x c e), hd⟩
 refine ⟨I.ok, I.os, hg, ⟨fun b o e n hb hx => ?_, fun b o e n hb hx => ?_, fun b o e n hx => ?_, fun b o e hx => ?_, fun b xs e => tups b xs (I.base.tups b xs e), fun b o xs e => frzs b o xs (I.base.frzs b o xs e), fun b ps x e => tbls b ps x (I.base.tbls b ps x e)⟩, ?_, fun x c e => ?_, ?_, fun x c e => ?_, fun p hp => ?_, hok, I.len⟩
 ·exact keep b o (neL b o e) hb (neC b o e hx) (I.base.keep b o e n hb hx) (I.base.free b o e n hx)
 ·obtain ⟨sl, e1⟩ := I.base.slot b o e n hb hx
  obtain ⟨sl', e2⟩ := slot b _ (neL b o e) hb (neC b o e hx) e1 (I.base.free b o e n hx)
  exact ⟨sl', e2⟩
 ·obtain ⟨o', e1⟩ := I.base.there b o e hx
  exact free b o' (neC b o e hx) e1 (I.base.free b o e n hx)
 ·obtain ⟨o', e1⟩ := I.base.there b o e hx
  exact there b o' (neC b o e hx) e1
 ·obtain ⟨m, hn, hl⟩ := I.loc
  refine ⟨m, ns m hn, fun i x v e1 e2 e3 => ?_⟩
  obtain ⟨u, r, l⟩ := hl i x v e1 e2 e3
  refine ⟨u, r, ?_⟩
  rcases l with l | ⟨k, c, e, z⟩
  ·exact .inl l
  ·exact .inr ⟨k, c, e, cellK x c e _ z⟩
 ·obtain ⟨v, z⟩ := I.cell x c e
  exact ⟨v, cellK x c e v z⟩
 ·obtain ⟨m, ⟨o, _, _, ho, _⟩, _⟩ := I.loc
  exact free _ o (fun z => (hch _ z).2.1 rfl) ho I.free
 ·obtain ⟨v, o, ho, hd⟩ := I.cell x c e
  exact free c o (fun z => (hch c z).2.2.1 x c e rfl) ho (I.freeC x c e)
 ·obtain ⟨e, n, ne, nf, d⟩ := I.pin p hp
  have nch : p.1 ∉ ch := fun z => (hch p.1 z).2.2.2 p hp rfl
  exact ⟨keep p.1 p.2 ne nf nch e n, free p.1 p.2 nch e n, ne, nf, d⟩
theorem Inv.un {t' : Nat} (I : Inv X pins Z H s) (u : Un X.fs [] H H' s.heap h') (hok : HOk X.prog X.w H' h') : Inv X pins Z H' { s with heap := h', toks := t' } := by
 obtain ⟨m, ⟨o, es, ep, ho, r⟩, _⟩ := id I.loc
 obtain ⟨sl, hL⟩ := u.any ho I.free (by simp)
 exact I.step (g' := s.gens) (d' := s.drawn) (ch := []) (fun _ z => nomatch z) (fun b o _ hb _ e n => u.keep b o e n hb (by simp)) (fun b o _ hb _ e n => u.slot b o e n hb (by simp)) (fun b o _ e n => u.free b o e n (by simp)) (fun b o _ e => u.there b o e (by simp)) u.tups u.frzs u.tbls (fun m' hm => by
  obtain ⟨o', es', ep', ho', r'⟩ := hm
  rw [ho] at ho'; cases ho'
  exact ⟨_, es', ep', hL, r'⟩) hok I.bare
theorem Inv.call {g' : Array GenState} {t' : Nat} {d' : Drawn} {ch : List Addr} (I : Inv X pins Z H s) (u : Un (frs X.stack) ch H H' s.heap h') (hok : HOk X.prog X.w H' h') (hg : AllBare g')
  (hch : ∀ b ∈ ch, (b ∈ X.ex \/ X.s₀.heap.objs.size <= b) /\ b ≠ X.env.locals /\ (∀ x c, X.env.cells.lookup x = some c -> c ≠ b) /\ ∀ p ∈ X.pn ++ pins, p.1 ≠ b) :
  Inv X pins Z H' { s with heap := h', gens := g', drawn := d', toks := t' } := by
 obtain ⟨m, ⟨o, es, ep, ho, r⟩, _⟩ := id I.loc
 obtain ⟨sl, hL⟩ := u.any ho I.free fun z => (hch _ z).2.1 rfl
 exact I.step (ch := ch) hch (fun b o hL hb hc e n => u.keep b o e n (fun z => (List.mem_cons.mp (I.stkSub b z)).elim hL hb) hc) (fun b o _ _ hc e n => u.any e n hc) (fun b o hc e n => u.free b o e n hc) (fun b o hc e => u.there b o e hc) u.tups u.frzs u.tbls (fun m' hm => by
  obtain ⟨o', es', ep', ho', r'⟩ := hm
  rw [ho] at ho'; cases ho'
  exact ⟨_, es', ep', hL, r'⟩) hok hg
theorem Inv.turned {t' : Nat} {it : Addr} (I : Inv X pins Z H s) (k : ∀ b o, b ≠ it -> s.heap.get? b = some o -> h'.get? b = some o) (hn : H it = none) (hL : it ≠ X.env.locals)
  (h1 : it ∈ X.ex \/ X.s₀.heap.objs.size <= it) (h2 : ∀ x c, X.env.cells.lookup x = some c -> c ≠ it) (h3 : ∀ p ∈ X.pn ++ pins, p.1 ≠ it) : Inv X pins Z H { s with heap := h', toks := t' } := by
 have nit : ∀ b u, H b = some u -> b ≠ it := fun b u e z => by rw [z, hn] at e; cases e
 refine I.step (g' := s.gens) (d' := s.drawn) (ch := [it]) (fun b hb => ?_) (fun b o _ _ hc e _ => k b o (fun z => hc (by simp [z])) e) (fun b o _ _ hc e _ => ⟨o.slots, k b o (fun z => hc (by simp [z])) e⟩) (fun _ _ _ _ n => n)
  (fun b o hc e => ⟨o, k b o (fun z => hc (by simp [z])) e⟩) (fun _ _ e => e) (fun _ _ _ e => e) (fun _ _ _ e => e) (fun m hm => ?_) (fun b u e => ?_) I.bare
 ·have e : b = it := by simpa using hb
  subst e
  exact ⟨h1, hL, h2, h3⟩
 ·obtain ⟨o, es, ep, ho, r⟩ := hm
  exact ⟨o, es, ep, k _ o (Ne.symm hL) ho, r⟩
 ·refine (I.hok b u e).stay (fun c v hc q => k c v ?_ q) (fun _ q => q) fun _ _ q => q
  rcases hc with z | z
  ·rw [z]; exact nit b u e
  ·exact nit c _ z
theorem Inv.tok (I : Inv X pins Z H s) (t : Nat) : Inv X pins Z H { s with toks := t } := I.un (h' := s.heap) (t' := t) Un.refl I.hok
theorem Inv.kept {t' : Nat} (I : Inv X pins Z H s) (k : ∀ b u, s.heap.get? b = some u -> h'.get? b = some u) : Inv X pins Z H { s with heap := h', toks := t' } := I.un (Un.kept k) (I.hok.kept k)
theorem Inv.laid {a : Addr} {o : HO} {t' : Nat} (I : Inv X pins Z H s) (k : ∀ b u, s.heap.get? b = some u -> h'.get? b = some u) (hp : s.heap.objs.size <= a) (new : yU X.prog X.w (upd H a o) h' a o) :
  Inv X pins Z (upd H a o) { s with heap := h', toks := t' } := I.un (Un.laid k hp (I.hok.fresh hp)) (I.hok.laid k hp new)
theorem Inv.write {x e : Addr} {o : HO} {t' : Nat} (I : Inv X pins Z H s) (mu : Mut (H x)) (he : e = x \/ H e = some (.own x)) (k : ∀ b u, b ≠ e -> s.heap.get? b = some u -> h'.get? b = some u) (heo : ∃ u, h'.get? e = some u)
  (new : yU X.prog X.w (upd H x o) h' x o) : Inv X pins Z (upd H x o) { s with heap := h', toks := t' } := I.un (Un.write mu he k heo) (I.hok.write mu he k heo new)
theorem Inv.pins_of {pins' : List (Addr × Obj)} (I : Inv X pins Z H s) (h : ∀ p ∈ pins', s.heap.get? p.1 = some p.2 /\ H p.1 = none /\ p.1 ≠ X.env.locals /\ p.1 ∉ X.fs /\ ∀ v, p.2.data ≠ .cell v) : Inv X pins' Z H s :=
 ⟨I.ok, I.os, I.bare, I.base, I.loc, I.cell, I.free, I.freeC, fun p hp => (mA_.mp hp).elim (fun z => I.pin p (List.mem_append_left _ z)) (h p), I.hok, I.len⟩
theorem qen {N : List Str} (hN : N.Nodup) {i j : Nat} {x : Str} (a : N[i]? = some x) (b : N[j]? = some x) : i = j := by
 obtain ⟨h1, e1⟩ := gI_.mp a
 obtain ⟨h2, e2⟩ := gI_.mp b
 exact (List.getElem_inj hN).mp (e1.trans e2.symm)
theorem qcM {M : Model} {A : Around} {E : Value -> Shared -> Prop} {i : Nat} {x : Str} {v : V} {u : Value} {Q : Unit -> Shared -> Prop} (I : Inv X pins Z H s) (hN : X.N.Nodup) (hi : X.N[i]? = some x) (hx : Loc X.env.scope x) (r : jN v u)
  (h : ∀ s', Inv X pins (Z.set i (some v)) H s' -> (∃ a, Heap.SameBut a s.heap s'.heap /\ (a = X.env.locals \/ X.env.cells.lookup x = some a)) -> Q () s') (hf : X.fn x = true \/ X.env.scope.names.lookup x = some .local := by first | exact .inl rfl | exact .inr rfl | assumption) : wpAny M A (storeName X.env x u) Q E s := by
 obtain ⟨m, hn, hl⟩ := id I.loc
 have hcls : (X.env.scope.kind == .class || (X.env.scope.kind == .module && X.env.locals != X.env.globals)) = false := by rw [I.ok.kind]; rfl
 have hiσ : i < Z.length := by rw [I.len]; exact (gI_.mp hi).1
 have cne := I.cne
 have tracked : ∀ {a : Addr} {h' : Heap}, (∃ o, s.heap.get? a = some o /\ H a = none) -> Heap.SameBut a s.heap h' -> HOk X.prog X.w H h' := fun {a h'} ha hs b ob e => by
  obtain ⟨_, _, hfree⟩ := ha
  refine (I.hok b ob e).stay (fun c w' hc q => (hs.2 c ?_).trans q) (fun _ q => q) fun _ _ q => q
  rintro rfl
  rcases hc with rfl | hc
  ·rw [hfree] at e; cases e
  ·rw [hfree] at hc; cases hc
 rcases hx with hk | hk
 ·refine wpAny_storeName_local hk hn (fun h' hn' hs => ?_) hcls
  obtain ⟨oL, _, _, hoL, _⟩ := id hn
  refine h _ ⟨I.ok, I.os, I.bare, ⟨fun b o e n hb hx => ?_, fun b o e n hb hx => ?_, I.base.free, fun b o e hx => ?_, I.base.tups, I.base.frzs, I.base.tbls⟩, ⟨_, hn', fun j y v' e1 e2 e3 => ?_⟩, fun y c e => ?_, I.free, I.freeC, fun p hp => ?_, tracked ⟨oL, hoL, I.free⟩ hs, by simpa using I.len⟩ ⟨_, hs, .inl rfl⟩
  ·exact (hs.2 b (Nat.ne_of_lt (Nat.lt_of_lt_of_le (Heap.lt_size e) I.ok.above))).trans (I.base.keep b o e n hb hx)
  ·obtain ⟨sl, e1⟩ := I.base.slot b o e n hb hx
   exact ⟨sl, (hs.2 b (Nat.ne_of_lt (Nat.lt_of_lt_of_le (Heap.lt_size e) I.ok.above))).trans e1⟩
  ·obtain ⟨o', e1⟩ := I.base.there b o e hx
   exact ⟨o', (hs.2 b (Nat.ne_of_lt (Nat.lt_of_lt_of_le (Heap.lt_size e) I.ok.above))).trans e1⟩
  ·by_cases hj : j = i
   ·subst hj
    rw [hi] at e1; cases e1
    rw [List.getElem?_set_self hiσ] at e2
    cases e2
    exact ⟨u, r, .inl ⟨hk, by simp⟩⟩
   ·rw [List.getElem?_set_ne (Ne.symm hj)] at e2
    obtain ⟨u', r', q⟩ := hl j y v' e1 e2 e3
    refine ⟨u', r', ?_⟩
    rcases q with ⟨k, e⟩ | ⟨k, c, e, z⟩
    ·refine .inl ⟨k, ?_⟩
     have : y ≠ x := fun e => hj (qen hN e1 (e ▸ hi))
     simp [this, e]
    ·exact .inr ⟨k, c, e, z.sameBut hs (cne y c e)⟩
  ·obtain ⟨w', z⟩ := I.cell y c e
   exact ⟨w', z.sameBut hs (cne y c e)⟩
  ·obtain ⟨e, n, ne, nf, d⟩ := I.pin p hp
   exact ⟨(hs.2 p.1 ne).trans e, n, ne, nf, d⟩
 ·have hfn : X.fn x = true := by
   rcases hf with z | z
   ·exact z
   ·rw [z] at hk; cases hk
  obtain ⟨c, hc⟩ := I.ok.has x (.inl hk)
  obtain ⟨w', z⟩ := I.cell x c hc
  refine wpAny_storeName_cell I.ok.kind hk hc z (fun h' hc' hs => ?_)
  obtain ⟨oc, hoc, hocd⟩ := id z
  refine h { s with heap := h' } ⟨I.ok, I.os, I.bare, ⟨fun b o e n hb hx => ?_, fun b o e n hb hx => ?_, I.base.free, fun b o e hx => ?_, I.base.tups, I.base.frzs, I.base.tbls⟩, ⟨m, hn.sameBut hs (Ne.symm (cne x c hc)), fun j y v' e1 e2 e3 => ?_⟩, fun y c' e => ?_, I.free, I.freeC, fun p hp => ?_, tracked ⟨oc, hoc, I.freeC x c hc⟩ hs, by simpa using I.len⟩ ⟨c, hs, .inr hc⟩
  ·exact (hs.2 b (Nat.ne_of_lt (Nat.lt_of_lt_of_le (Heap.lt_size e) (I.ok.cab x c hfn hc)))).trans (I.base.keep b o e n hb hx)
  ·obtain ⟨sl, e1⟩ := I.base.slot b o e n hb hx
   exact ⟨sl, (hs.2 b (Nat.ne_of_lt (Nat.lt_of_lt_of_le (Heap.lt_size e) (I.ok.cab x c hfn hc)))).trans e1⟩
  ·obtain ⟨o', e1⟩ := I.base.there b o e hx
   exact ⟨o', (hs.2 b (Nat.ne_of_lt (Nat.lt_of_lt_of_le (Heap.lt_size e) (I.ok.cab x c hfn hc)))).trans e1⟩
  ·by_cases hj : j = i
   ·subst hj
    rw [hi] at e1; cases e1
    rw [List.getElem?_set_self hiσ] at e2
    cases e2
    exact ⟨u, r, .inr ⟨.inl hk, c, hc, hc'⟩⟩
   ·rw [List.getElem?_set_ne (Ne.symm hj)] at e2
    obtain ⟨u', r', q⟩ := hl j y v' e1 e2 e3
    refine ⟨u', r', ?_⟩
    rcases q with q | ⟨k, c', e, z'⟩
    ·exact .inl q
    ·refine .inr ⟨k, c', e, z'.sameBut hs ?_⟩
     rintro rfl
     exact hj (qen hN e1 (I.ok.inj _ _ _ e hc ▸ hi))
  ·by_cases hcc : c' = c
   ·subst hcc; exact ⟨_, hc'⟩
   ·obtain ⟨w2, z2⟩ := I.cell y c' e
    exact ⟨w2, z2.sameBut hs hcc⟩
  ·obtain ⟨e, n, ne, nf, d⟩ := I.pin p hp
   refine ⟨(hs.2 p.1 ?_).trans e, n, ne, nf, d⟩
   intro q
   rw [q, hoc] at e
   have q' : oc = p.2 := Option.some.inj e
   exact d w' (by rw [<- q']; exact hocd)
theorem qaK {M : Model} {A : Around} {E : Value -> Shared -> Prop} {i : Nat} {x : Str} {v : V} {u : Value} {Q : Unit -> Shared -> Prop} (I : Inv X pins Z H s) (hN : X.N.Nodup) (hi : X.N[i]? = some x) (hx : Loc X.env.scope x) (r : jN v u)
  (h : ∀ s', Inv X pins (Z.set i (some v)) H s' -> Q () s') (hf : X.fn x = true \/ X.env.scope.names.lookup x = some .local := by first | exact .inl rfl | exact .inr rfl | assumption) : wpAny M A (storeName X.env x u) Q E s :=
 qcM I hN hi hx r (fun s' I' _ => h s' I') hf
theorem Inv.call' {s' : Shared} {ch : List Addr} (I : Inv X pins Z H s) (ho : s'.os = s.os) (u : Un (frs X.stack) ch H H' s.heap s'.heap) (hok : HOk X.prog X.w H' s'.heap) (hg : AllBare s'.gens)
  (hch : ∀ b ∈ ch, (b ∈ X.ex \/ X.s₀.heap.objs.size <= b) /\ b ≠ X.env.locals /\ (∀ x c, X.env.cells.lookup x = some c -> c ≠ b) /\ ∀ p ∈ X.pn ++ pins, p.1 ≠ b) : Inv X pins Z H' s' := by
 obtain ⟨h', g', d', t', o'⟩ := s'
 have e : o' = s.os := ho
 subst e
 exact I.call (g' := g') (t' := t') (d' := d') u hok hg hch
end
abbrev XK := Value -> Option Addr -> Hp -> Prop
abbrev St := List (Option V)
abbrev VK := V -> Hp -> Prop
abbrev TE := St -> Hp -> VK -> Prop
abbrev TT := St -> Hp -> (Bool -> Hp -> Prop) -> Prop
abbrev TA := St -> Hp -> (List V -> Hp -> Prop) -> Prop
structure qhs where
 nx : St -> Hp -> Prop
 rt : VK
 bk : St -> Hp -> Prop := fun _ _ => False
 ct : St -> Hp -> Prop := fun _ _ => False
abbrev TS := qhs -> St -> Hp -> Prop
def EP (X : Cx) (pins : List (Addr × Obj)) (Z : St) (Q : VK) (u : Value) (s' : Shared) : Prop := ∃ v H', Inv X pins Z H' s' /\ jN v u /\ Q v H'
def TP (X : Cx) (pins : List (Addr × Obj)) (Z : St) (Q : Bool -> Hp -> Prop) (b : Bool) (s' : Shared) : Prop := ∃ H', Inv X pins Z H' s' /\ Q b H'
def AP (X : Cx) (pins : List (Addr × Obj)) (Z : St) (Q : List V -> Hp -> Prop) (us : List Value) (s' : Shared) : Prop := ∃ vs H', Inv X pins Z H' s' /\ zg vs us /\ Q vs H'
def SP (X : Cx) (pins : List (Addr × Obj)) (D : qhs) (f : Flow) (s' : Shared) : Prop :=
 match f with
 | .next => ∃ Z' H', Inv X pins Z' H' s' /\ D.nx Z' H'
 | .brk => ∃ Z' H', Inv X pins Z' H' s' /\ D.bk Z' H'
 | .cont => ∃ Z' H', Inv X pins Z' H' s' /\ D.ct Z' H'
 | .ret u => ∃ v Z' H', Inv X pins Z' H' s' /\ jN v u /\ D.rt v H'
def PE (X : Cx) (e : Expr) (t : TE) : Prop :=
 ∀ (pins : List (Addr × Obj)) (s : Shared) (Z : St) (H : Hp) (Q : VK), Inv X pins Z H s -> t Z H Q -> wpAny (model X.prog X.w) X.A (eval e X.env) (EP X pins Z Q) X.xe s
def PT (X : Cx) (e : Expr) (t : TT) : Prop :=
 ∀ (pins : List (Addr × Obj)) (s : Shared) (Z : St) (H : Hp) (Q : Bool -> Hp -> Prop), Inv X pins Z H s -> t Z H Q -> wpAny (model X.prog X.w) X.A (isTrue e X.env (eval e X.env)) (TP X pins Z Q) X.xe s
def PW (X : Cx) (e : Expr) (t : TT) : Prop :=
 ∀ (whole : Sem Value) (pins : List (Addr × Obj)) (s : Shared) (Z : St) (H : Hp) (Q : Bool -> Hp -> Prop), Inv X pins Z H s -> t Z H Q -> wpAny (model X.prog X.w) X.A (isTrue e X.env whole) (TP X pins Z Q) X.xe s
theorem PW.pt {X : Cx} {e : Expr} {t : TT} (h : PW X e t) : PT X e t := h _
def PA (X : Cx) (es : List Expr) (t : TA) : Prop :=
 ∀ (pos : Pos) (pins : List (Addr × Obj)) (s : Shared) (Z : St) (H : Hp) (Q : List V -> Hp -> Prop), Inv X pins Z H s -> t Z H Q -> wpAny (model X.prog X.w) X.A (spliced (backTo pos (starEach es X.env))) (AP X pins Z Q) X.xe s
def PS (X : Cx) (st : Stmt) (t : TS) : Prop :=
 ∀ (pins : List (Addr × Obj)) (s : Shared) (Z : St) (H : Hp) (D : qhs), Inv X pins Z H s -> t D Z H -> wpAny (model X.prog X.w) X.A (exec st X.env) (SP X pins D) X.xe s
def PSs (X : Cx) (st : List Stmt) (t : TS) : Prop :=
 ∀ (pins : List (Addr × Obj)) (s : Shared) (Z : St) (H : Hp) (D : qhs), Inv X pins Z H s -> t D Z H -> wpAny (model X.prog X.w) X.A (execs st X.env) (SP X pins D) X.xe s
theorem thn {α : Type} {t : Sem α} {Q Q' : α -> Shared -> Prop} {M : Model} {A : Around} {E : Value -> Shared -> Prop} {s : Shared} (h : wpAny M A t Q E s) (hQ : ∀ a s, Q a s -> Q' a s) : wpAny M A t Q' E s := wpAny_mono h hQ fun _ _ x => x
end L2
namespace L2
open PySem PySem.Spec PyProof.Rows
section
variable {X : Cx}
theorem bin {a b : Expr} {ta tb : TE} (ha : PE X a ta) (hb : PE X b tb) {pins : List (Addr × Obj)} {s : Shared} {Z : St} {H : Hp} {R : V -> V -> Hp -> Prop} (I : Inv X pins Z H s) (h : ta Z H fun x H1 => tb Z H1 fun y H2 => R x y H2)
  {α : Type} {Q : α -> Shared -> Prop} {f : Value -> Value -> Sem α}
  (hf : ∀ v u s2 x y H2, Inv X pins Z H2 s2 -> jN x v -> jN y u -> R x y H2 -> wpAny (model X.prog X.w) X.A (f v u) Q X.xe s2) :
  wpAny (model X.prog X.w) X.A (eval a X.env) (fun v sQ => wpAny (model X.prog X.w) X.A (eval b X.env) (fun u sJ => wpAny (model X.prog X.w) X.A (f v u) Q X.xe sJ) X.xe sQ) X.xe s := by
 refine thn (ha pins s Z H _ I h) fun v s1 ⟨x, H1, I1, r1, q1⟩ => ?_
 refine thn (hb pins s1 Z H1 _ I1 q1) fun u s2 ⟨y, H2, I2, r2, q2⟩ => ?_
 exact hf v u s2 x y H2 I2 r1 r2 q2
def qoe (i : Nat) : TE := fun Z H Q => ∃ v, Z[i]? = some (some v) /\ Q v H
def tC (v : V) : TE := fun _ H Q => Q v H
theorem vm {i : Nat} {x : Str} {pos : Pos} (hN : X.N[i]? = some x) (hv : Vis X.env.scope x) (hd : (x == ("__debug__" : Str)) = false := by decide) (hcd : (x == ("__classdict__" : Str)) = false := by decide) : PE X (.Name x pos) (qoe i) := by
 intro pins s Z H Q I h
 obtain ⟨v, e, h⟩ := h
 obtain ⟨m, hn, hl⟩ := I.loc
 obtain ⟨u, r, l⟩ := hl i x v hN e hv
 have fin : EP X pins Z Q u s := ⟨v, H, I, r, h⟩
 rcases l with ⟨hk, hm⟩ | ⟨hk, c, hc, hcell⟩
 ·exact wpAny_Name (wpAny_loadName_local I.ok.kind hk hn hm fin) hd
 ·rcases hk with hk | hk
  ·exact wpAny_Name (wpAny_loadName_cell I.ok.kind hk hc hcell fin) hd
  ·exact wpAny_Name (wpAny_loadName_free I.ok.kind hk hc hcell fin hcd) hd
theorem qiK {i j pos} : PE X (.Constant (.int i) j pos) (tC (.int i)) := fun _ _ _ H _ I h => wpAny_Constant_int ⟨.int i, H, I.tok _, ⟨_, rfl⟩, h⟩
theorem qnk {b j pos} : PE X (.Constant (.bool b) j pos) (tC (.bl b)) := fun _ _ _ H _ I h => Constant_bool ⟨.bl b, H, I, rfl, h⟩
theorem qll {j pos} : PE X (.Constant .none j pos) (tC .non) := fun _ _ _ H _ I h => Constant_none ⟨.non, H, I, rfl, h⟩
def Gl (X : Cx) (x : Str) : Prop := X.env.kindOf x = some .globalImplicit
theorem qdK {E : Value -> Shared -> Prop} {pins : List (Addr × Obj)} {s : Shared} {Z : St} {H : Hp} {x : Str} {u : Value} {pos : Pos} {Q : Value -> Shared -> Prop} (I : Inv X pins Z H s) (hg : Gl X x) (hm : X.mg x = some u) (h : Q u s)
  (hd : (x == ("__debug__" : Str)) = false := by decide) : wpAny (model X.prog X.w) X.A (eval (.Name x pos) X.env) Q E s :=
 Calls.Name_function_global I.ok.kind hg (Calls.loadGlobal_global (by rw [I.ok.glob]; exact I.mod.glob.keeps I.bk) hm h) hd
theorem qax {E : Value -> Shared -> Prop} {pins : List (Addr × Obj)} {s : Shared} {Z : St} {H : Hp} {x : Str} {u : Value} {pos : Pos} {Q : Value -> Shared -> Prop} (I : Inv X pins Z H s) (hg : Gl X x) (hm : X.mg x = none) (hv : bootBuiltins x = some u) (h : Q u s)
  (hn : x ≠ "__name__" := by decide) (hd : (x == ("__debug__" : Str)) = false := by decide) : wpAny (model X.prog X.w) X.A (eval (.Name x pos) X.env) Q E s := by
 obtain ⟨mb, h1, h2⟩ := I.mod.blt
 exact Calls.Name_function_global I.ok.kind hg (Calls.loadGlobal_builtin (by rw [I.ok.glob]; exact I.mod.glob.keeps I.bk) hm (by rw [I.ok.blt]; exact h1.keeps I.bk) ((h2 x hn).trans hv) h) hd
theorem qjB {x : Str} {v : V} {u : Value} {pos : Pos} (hg : Gl X x) (hm : X.mg x = some u) (r : jN v u) (hd : (x == ("__debug__" : Str)) = false := by decide) : PE X (.Name x pos) (tC v) :=
 fun _ _ _ H _ I h => qdK I hg hm ⟨v, H, I, r, h⟩ hd
theorem qjC {x : Str} {v : V} {u : Value} {pos : Pos} (hg : Gl X x) (hm : X.mg x = none) (hv : bootBuiltins x = some u) (r : jN v u) (hn : x ≠ "__name__" := by decide) (hd : (x == ("__debug__" : Str)) = false := by decide) : PE X (.Name x pos) (tC v) :=
 fun _ _ _ H _ I h => qax I hg hm hv ⟨v, H, I, r, h⟩ hn hd
variable {a b : Expr} {ta tb : TE} {pos : Pos}
def PC (X : Cx) (op : CmpOp) (a b : Expr) (t : TE) : Prop :=
 ∀ (pins : List (Addr × Obj)) (s : Shared) (Z : St) (H : Hp) (Q : VK), Inv X pins Z H s -> t Z H Q ->
  wpAny (model X.prog X.w) X.A (eval a X.env) (fun v sQ => wpAny (model X.prog X.w) X.A (eval b X.env) (fun u sJ => wpAny (model X.prog X.w) X.A (compareOp op v u) (EP X pins Z Q) X.xe sJ) X.xe sQ) X.xe s
theorem qhy (b : Expr) {op : CmpOp} (h : op ≠ .In) (h2 : op ≠ .NotIn) : behindInMarks op b = false := by
 have e1 : (op == CmpOp.In) = false := by cases op <;> first | rfl | exact absurd rfl h
 have e2 : (op == CmpOp.NotIn) = false := by cases op <;> first | rfl | exact absurd rfl h2
 cases b <;> simp [behindInMarks, e1, e2]
def tB (t : TE) : TT := fun Z H Q => t Z H fun x H1 => ∃ c, x = .bl c /\ Q c H1
theorem qof {op : CmpOp} {t : TE} (h : PC X op a b t) (h1 : behindInMarks op b = false := by first | exact qhy _ (by decide) (by decide) | rfl) : PT X (.Compare a [op] [b] pos) (tB t) := by
 intro pins s Z H Q I hw
 refine wpAny_isTrue_Compare1 (thn (h pins s Z H _ I hw) fun v s1 h1 => thn h1 fun u s2 h2 => thn h2 fun c s3 ⟨x, H1, I1, r1, q1⟩ => ?_) h1
 obtain ⟨d, rfl, q⟩ := q1
 cases r1
 exact wpAny_truthy_bool ⟨H1, I1, q⟩
theorem qlm {e : Expr} {t : TE} (h : PE X e t) (he : ∀ whole, isTrue e X.env whole = (do let v <- whole; standAt e.pos; holding [v] (truthy v)) := by intro _; rfl) : PT X e (tB t) := by
 intro pins s Z H Q I hw
 refine isTrue_plain (thn (h pins s Z H _ I hw) fun v s1 ⟨x, H1, I1, r1, q1⟩ => ?_) (he _)
 obtain ⟨d, rfl, q⟩ := q1
 cases r1
 exact wpAny_truthy_bool ⟨H1, I1, q⟩
variable {tA tB' : TT} {uB : List Expr}
def qoH (t u : TT) : TT := fun Z H Q => t Z H fun c H1 => if c = true then u Z H1 Q else Q false H1
def tOr (t u : TT) : TT := fun Z H Q => t Z H fun c H1 => if c = true then Q true H1 else u Z H1 Q
def qoI (t : TT) : TT := fun Z H Q => t Z H fun c H1 => Q (!c) H1
theorem qjD (ha : PT X a tA) : PW X (.BoolOp .And [a] pos) tA := by
 intro wh pins s Z H Q I h
 refine isTrue_and (thn (ha pins s Z H Q I h) fun c s1 e => ?_)
 cases c with
 | true => exact isTrue_and_nil e
 | false => exact e
theorem qln (ha : PT X a tA) : PW X (.BoolOp .Or [a] pos) tA := by
 intro wh pins s Z H Q I h
 refine isTrue_or (thn (ha pins s Z H Q I h) fun c s1 e => ?_)
 cases c with
 | false => exact isTrue_or_nil e
 | true => exact e
theorem qlo (ha : PT X a tA) (hb : PW X (.BoolOp .And (b :: uB) pos) tB') : PW X (.BoolOp .And (a :: b :: uB) pos) (qoH tA tB') := by
 intro wh pins s Z H Q I h
 refine isTrue_and (thn (ha pins s Z H _ I h) fun c s1 ⟨H1, I1, q1⟩ => ?_)
 cases c with
 | true => exact hb wh pins s1 Z H1 Q I1 q1
 | false => exact ⟨H1, I1, q1⟩
theorem qnl (ha : PT X a tA) (hb : PW X (.BoolOp .Or (b :: uB) pos) tB') : PW X (.BoolOp .Or (a :: b :: uB) pos) (tOr tA tB') := by
 intro wh pins s Z H Q I h
 refine isTrue_or (thn (ha pins s Z H _ I h) fun c s1 ⟨H1, I1, q1⟩ => ?_)
 cases c with
 | true => exact ⟨H1, I1, q1⟩
 | false => exact hb wh pins s1 Z H1 Q I1 q1
theorem qlp (ha : PT X a tA) : PT X (.UnaryOp .Not a pos) (qoI tA) := by
 intro pins s Z H Q I h
 exact isTrue_not (ha pins s Z H (fun c H1 => Q (!c) H1) I h)
def qnm (ta tb : TE) : TE := fun Z H Q => ta Z H fun x H1 => ∃ c, x = .bl c /\ if c = true then tb Z H1 Q else Q (.bl false) H1
def qoJ (ta tb : TE) : TE := fun Z H Q => ta Z H fun x H1 => ∃ c, x = .bl c /\ if c = true then Q (.bl true) H1 else tb Z H1 Q
def qnn (ta : TE) : TE := fun Z H Q => ta Z H fun x H1 => ∃ c, x = .bl c /\ Q (.bl (!c)) H1
theorem qlq {op} {t : TE} (h : PE X a t) : PE X (.BoolOp op [a] pos) t := fun pins s Z H Q I hw => BoolOp_one (h pins s Z H Q I hw)
theorem qlr (ha : PE X a ta) (hb : PE X (.BoolOp .And (b :: uB) pos) tb) : PE X (.BoolOp .And (a :: b :: uB) pos) (qnm ta tb) := by
 intro pins s Z H Q I h
 refine BoolOp_and (thn (ha pins s Z H _ I h) fun v s1 ⟨x, H1, I1, r1, q1⟩ => ?_)
 obtain ⟨c, rfl, q1⟩ := q1
 cases r1
 refine wpAny_truthy_bool ?_
 cases c with
 | true => exact hb pins s1 Z H1 Q I1 q1
 | false => exact ⟨.bl false, H1, I1, rfl, q1⟩
theorem qno (ha : PE X a ta) (hb : PE X (.BoolOp .Or (b :: uB) pos) tb) : PE X (.BoolOp .Or (a :: b :: uB) pos) (qoJ ta tb) := by
 intro pins s Z H Q I h
 refine BoolOp_or (thn (ha pins s Z H _ I h) fun v s1 ⟨x, H1, I1, r1, q1⟩ => ?_)
 obtain ⟨c, rfl, q1⟩ := q1
 cases r1
 refine wpAny_truthy_bool ?_
 cases c with
 | false => exact hb pins s1 Z H1 Q I1 q1
 | true => exact ⟨.bl true, H1, I1, rfl, q1⟩
theorem qls (ha : PE X a ta) : PE X (.UnaryOp .Not a pos) (qnn ta) := by
 intro pins s Z H Q I h
 refine UnaryOp_ (thn (ha pins s Z H _ I h) fun v s1 ⟨x, H1, I1, r1, q1⟩ => ?_)
 obtain ⟨c, rfl, q1⟩ := q1
 cases r1
 exact not_of (wpAny_truthy_bool ⟨.bl (!c), H1, I1, rfl, q1⟩)
def tIf (t : TT) (ta tb : TE) : TE := fun Z H Q => t Z H fun c H1 => if c = true then ta Z H1 Q else tb Z H1 Q
theorem qhz {c : Expr} (hc : PT X c tA) (ha : PE X a ta) (hb : PE X b tb) : PE X (.IfExp c a b pos) (tIf tA ta tb) := by
 intro pins s Z H Q I h
 refine wpAny_IfExp (thn (hc pins s Z H _ I h) fun d s1 ⟨H1, I1, q1⟩ => ?_)
 cases d with
 | true => exact ha pins s1 Z H1 Q I1 q1
 | false => exact hb pins s1 Z H1 Q I1 q1
end
end L2
namespace L2
open PySem PySem.Spec PyProof.Rows
def SqL (K : PySem.W.Frag) (H : Hp) (a : Addr) (xs : List V) : Prop :=
 Rd H a (.lst xs) \/
  ∃ (o : Obj) (its : Array Value) (n : Nat), K.lookup a = some o /\ o.cls = .type "list" /\ o.dict = none /\ o.data = .seq its n /\ its.size <= sizeLine /\ zg xs its.toList
def SqT (K : PySem.W.Frag) (H : Hp) (a : Addr) (xs : List V) : Prop :=
 Rd H a (.tup xs) \/
  ∃ (o : Obj) (its : Array Value) (n : Nat), K.lookup a = some o /\ o.cls = .type "tuple" /\ o.data = .seq its n /\ its.size <= sizeLine /\ zg xs its.toList
def qoK : Value -> Option V
 | .none => some .non
 | .bool b => some (.bl b)
 | .int i _ => some (.int i)
 | .str x _ => some (.str x)
 | .bytes b _ => some (.byt b)
 | .float b _ => some (.flt b)
 | .ref a => some (.ref a)
 | .type n => some (.ty n)
 | _ => none
theorem jN.abs {x : V} {u : Value} (r : jN x u) : qoK u = some x := by
 cases x with
 | non => cases r; rfl
 | bl _ => cases r; rfl
 | int _ => obtain ⟨t, rfl⟩ := r; rfl
 | str _ => obtain ⟨t, rfl⟩ := r; rfl
 | byt _ => obtain ⟨t, rfl⟩ := r; rfl
 | flt _ => obtain ⟨t, rfl⟩ := r; rfl
 | ref _ => cases r; rfl
 | ty _ => cases r; rfl
theorem jN.inj {x y : V} {u : Value} (r : jN x u) (q : jN y u) : x = y := Option.some.inj (r.abs.symm.trans q.abs)
theorem zg.inj : ∀ {xs ys : List V} {us : List Value}, zg xs us -> zg ys us -> xs = ys
 | _, _, _, .nil, .nil => rfl
 | _, _, _, .cons r t, .cons r' t' => by rw [r.inj r', zg.inj t t']
section
variable {X : Cx} {pins : List (Addr × Obj)} {Z : St} {H : Hp} {s : Shared} {a : Addr} {xs ys : List V}
theorem SqL.of {K : PySem.W.Frag} (h : H a = some (.lst xs)) : SqL K H a xs := .inl (.inl h)
theorem Inv.list (I : Inv X pins Z H s) (h : SqL X.K H a xs) : ∃ its : List Value, zg xs its /\ PlainL s.heap a its.toArray /\ xs.length <= sizeLine := by
 rcases h with h | ⟨o, its, n, hk, hc, hd, hs, hz, r⟩
 ·obtain ⟨z, its, n, r, e⟩ := h.ok I.hok
  exact ⟨its, r, ⟨_, n, e, rfl, rfl, rfl⟩, z⟩
 ·refine ⟨its.toList, r, ⟨o, n, I.kIn a o hk, hc, hd, by simpa using hs⟩, ?_⟩
  have e := r.length
  simp only [Array.length_toList] at e
  omega
theorem Inv.tuple (I : Inv X pins Z H s) (h : SqT X.K H a xs) : ∃ its : List Value, zg xs its /\ IsTup s.heap a its.toArray /\ xs.length <= sizeLine := by
 rcases h with h | ⟨o, its, n, hk, hc, hs, hz, r⟩
 ·obtain ⟨z, its, r, p⟩ := h.ok I.hok
  exact ⟨its, r, p, z⟩
 ·refine ⟨its.toList, r, ⟨o, I.kIn a o hk, hc, n, by simpa using hs⟩, ?_⟩
  have e := r.length
  simp only [Array.length_toList] at e
  omega
theorem Inv.list_inj (I : Inv X pins Z H s) (h : SqL X.K H a xs) (h' : SqL X.K H a ys) : xs = ys := by
 obtain ⟨its, r, ⟨o, n, e, _, _, d⟩, _⟩ := I.list h
 obtain ⟨its', r', ⟨o', n', e', _, _, d'⟩, _⟩ := I.list h'
 rw [e] at e'; cases e'
 rw [d] at d'
 injection d' with d1 _
 have : its = its' := by simpa using congrArg Array.toList d1
 subst this
 exact r.inj r'
theorem Inv.tuple_inj (I : Inv X pins Z H s) (h : SqT X.K H a xs) (h' : SqT X.K H a ys) : xs = ys := by
 obtain ⟨its, r, ⟨o, e, _, n, d⟩, _⟩ := I.tuple h
 obtain ⟨its', r', ⟨o', e', _, n', d'⟩, _⟩ := I.tuple h'
 rw [e] at e'; cases e'
 rw [d] at d'
 injection d' with d1 _
 have : its = its' := by simpa using congrArg Array.toList d1
 subst this
 exact r.inj r'
end
abbrev Cx.wish (X : Cx) (E : Value -> Shared -> Prop) : Cx := { X with xe := E }
abbrev Cx.nox (X : Cx) : Cx := X.wish fun _ _ => False
theorem Cx.Ok.wish {X : Cx} (ok : X.Ok) (E : Value -> Shared -> Prop) : (X.wish E).Ok :=
 ⟨ok.mod, ok.kind, ok.glob, ok.blt, ok.above, ok.inj, ok.has, ok.cab, ok.hd, ok.frames, ok.stk, ok.exf, ok.bs, ok.bsz, ok.noex, ok.exfs, ok.funs, ok.frf⟩
theorem Cx.Ok.unwish {X : Cx} {E : Value -> Shared -> Prop} (ok : (X.wish E).Ok) : X.Ok :=
 ⟨ok.mod, ok.kind, ok.glob, ok.blt, ok.above, ok.inj, ok.has, ok.cab, ok.hd, ok.frames, ok.stk, ok.exf, ok.bs, ok.bsz, ok.noex, ok.exfs, ok.funs, ok.frf⟩
section
variable {X : Cx} {pins : List (Addr × Obj)} {Z : St} {H : Hp} {s : Shared} {E : Value -> Shared -> Prop}
theorem Inv.wish (I : Inv X pins Z H s) (E : Value -> Shared -> Prop) : Inv (X.wish E) pins Z H s := ⟨I.ok.wish E, I.os, I.bare, I.base, I.loc, I.cell, I.free, I.freeC, I.pin, I.hok, I.len⟩
theorem Inv.unwish (I : Inv (X.wish E) pins Z H s) : Inv X pins Z H s := ⟨I.ok.unwish, I.os, I.bare, I.base, I.loc, I.cell, I.free, I.freeC, I.pin, I.hok, I.len⟩
theorem SP.unwish {D : qhs} {f : Flow} {s' : Shared} (h : SP (X.wish E) pins D f s') : SP X pins D f s' := by
 cases f with
 | next => obtain ⟨Z', H', I, q⟩ := h; exact ⟨Z', H', I.unwish, q⟩
 | brk => obtain ⟨Z', H', I, q⟩ := h; exact ⟨Z', H', I.unwish, q⟩
 | cont => obtain ⟨Z', H', I, q⟩ := h; exact ⟨Z', H', I.unwish, q⟩
 | ret u => obtain ⟨v, Z', H', I, r, q⟩ := h; exact ⟨v, Z', H', I.unwish, r, q⟩
theorem PE.nox {e : Expr} {t : TE} (h : PE X.nox e t) : PE X e t := fun pins s Z H Q I hw =>
 wpAny_mono (h pins s Z H Q (I.wish _) hw) (fun _ _ ⟨v, H', I', r, q⟩ => ⟨v, H', I'.unwish, r, q⟩) fun _ _ z => False.elim z
theorem PT.nox {e : Expr} {t : TT} (h : PT X.nox e t) : PT X e t := fun pins s Z H Q I hw =>
 wpAny_mono (h pins s Z H Q (I.wish _) hw) (fun _ _ ⟨H', I', q⟩ => ⟨H', I'.unwish, q⟩) fun _ _ z => False.elim z
theorem PSs.nox {st : List Stmt} {t : TS} (h : PSs X.nox st t) : PSs X st t := fun pins s Z H D I hw =>
 wpAny_mono (h pins s Z H D (I.wish _) hw) (fun _ _ q => q.unwish) fun _ _ z => False.elim z
end
section
variable {X : Cx} {st : Stmt} {uB : List Stmt} {t u : TS} {e : Expr} {te : TE} {pos : Pos}
def qnp : TS := fun D Z H => D.nx Z H
def qoL (t u : TS) : TS := fun D Z H => t { D with nx := u D } Z H
theorem qjE : PSs X [] qnp := fun _ _ Z H _ I h => wpAny_execs_nil ⟨Z, H, I, h⟩
theorem qhA (h1 : PS X st t) (h2 : PSs X uB u) : PSs X (st :: uB) (qoL t u) := by
 intro pins s Z H D I h
 refine wpAny_execs_cons (thn (h1 pins s Z H { D with nx := u D } I h) fun f s1 q => ?_)
 cases f with
 | next =>
  obtain ⟨Z', H', I', q⟩ := q
  exact h2 pins s1 Z' H' D I' q
 | ret v => exact q
 | brk => exact q
 | cont => exact q
theorem qjF (h1 : PS X st t) : PSs X [st] t := by
 intro pins s Z H D I h
 refine wpAny_execs_cons (thn (h1 pins s Z H D I h) fun f s1 q => ?_)
 cases f with
 | next => exact wpAny_execs_nil q
 | ret v => exact q
 | brk => exact q
 | cont => exact q
theorem Inv.quiet {pins : List (Addr × Obj)} {Z : St} {H : Hp} {s : Shared} (I : Inv X pins Z H s) : interactive X.env = false := by simp [interactive, I.ok.kind]
def qnq (te : TE) : TS := fun D Z H => te Z H fun _ H1 => D.nx Z H1
theorem qjG (he : PE X e te) (hs : swapsWith e none pos.line X.env = pure false := by rfl) : PS X (.Expr e pos) (qnq te) := by
 intro pins s Z H D I h
 exact wpAny_Expr_any (thn (he pins s Z H _ I h) fun v s1 ⟨x, H1, I1, r1, q1⟩ => ⟨Z, H1, I1, q1⟩) I.quiet hs
def qoM (te : TE) : TS := fun D Z H => te Z H D.rt
theorem qiL (he : PE X e te) : PS X (.Return (some e) pos) (qoM te) := by
 intro pins s Z H D I h
 exact wpAny_Return_some (thn (he pins s Z H _ I h) fun v s1 ⟨x, H1, I1, r1, q1⟩ => ⟨x, Z, H1, I1, r1, q1⟩)
def qoN (c : TT) (t u : TS) : TS := fun D Z H => c Z H fun b H1 => if b = true then t D Z H1 else u D Z H1
theorem qnr {c : Expr} {a b : List Stmt} {tc : TT} (hc : PT X c tc) (ha : PSs X a t) (hb : PSs X b u) : PS X (.If c a b pos) (qoN tc t u) := by
 intro pins s Z H D I h
 refine wpAny_If (thn (hc pins s Z H _ I h) fun d s1 ⟨H1, I1, q1⟩ => ?_)
 cases d with
 | true => exact ha pins s1 Z H1 D I1 q1
 | false => exact hb pins s1 Z H1 D I1 q1
def qlt : TS := fun _ _ _ => False
theorem qhB : PS X st qlt := fun _ _ _ _ _ _ h => h.elim
end
abbrev TG := V -> St -> Hp -> (St -> Hp -> Prop) -> Prop
abbrev TGs := List V -> St -> Hp -> (St -> Hp -> Prop) -> Prop
def PG (X : Cx) (target : Expr) (t : TG) : Prop :=
 ∀ (pins : List (Addr × Obj)) (s : Shared) (Z : St) (H : Hp) (v : V) (u : Value) (Q : St -> Hp -> Prop), Inv X pins Z H s -> jN v u -> t v Z H Q ->
  wpAny (model X.prog X.w) X.A (assign target X.env u) (fun _ s' => ∃ Z' H', Inv X pins Z' H' s' /\ Q Z' H') X.xe s
def PGs (X : Cx) (ts : List Expr) (t : TGs) : Prop :=
 ∀ (pins : List (Addr × Obj)) (s : Shared) (Z : St) (H : Hp) (vs : List V) (us : List Value) (Q : St -> Hp -> Prop), Inv X pins Z H s -> zg vs us -> t vs Z H Q ->
  wpAny (model X.prog X.w) X.A (assignInOrder ((assignEach ts X.env).map (·.2)) us) (fun _ s' => ∃ Z' H', Inv X pins Z' H' s' /\ Q Z' H') X.xe s
abbrev qns := V -> V -> V -> Hp -> (Hp -> Prop) -> Prop
def qog (X : Cx) (t : qns) : Prop :=
 ∀ (pins : List (Addr × Obj)) (s : Shared) (Z : St) (H : Hp) (o i v : V) (ov iv u : Value) (Q : Hp -> Prop), Inv X pins Z H s -> jN o ov -> jN i iv -> jN v u -> t o i v H Q ->
  wpAny (model X.prog X.w) X.A (setItem ov iv u) (fun _ s' => ∃ H', Inv X pins Z H' s' /\ Q H') X.xe s
section
variable {X : Cx} {pos : Pos}
def qlu (i : Nat) : TG := fun v Z H Q => Q (Z.set i (some v)) H
theorem qjH {i : Nat} {x : Str} (hN : X.N.Nodup) (hi : X.N[i]? = some x) (hx : Loc X.env.scope x) (hf : X.fn x = true \/ X.env.scope.names.lookup x = some .local := by first | exact .inl rfl | exact .inr rfl | assumption) : PG X (.Name x pos) (qlu i) := by
 intro pins s Z H v u Q I r h
 exact wpAny_assign_Name (qaK I hN hi hx r (fun s' I' => ⟨_, H, I', h⟩) hf)
def qoO : TGs := fun vs Z H Q => vs = [] /\ Q Z H
def qnt (t : TG) (u : TGs) : TGs := fun vs Z H Q => ∃ v r, vs = v :: r /\ t v Z H fun Z' H' => u r Z' H' Q
theorem qjI : PGs X [] qoO := by
 intro pins s Z H vs us Q I r h
 obtain ⟨e, h⟩ := h
 subst e
 cases r
 exact assignInOrder_nil ⟨Z, H, I, h⟩
theorem qhC {e : Expr} {es : List Expr} {t : TG} {u : TGs} (h1 : PG X e t) (h2 : PGs X es u)
  (hs : (assignEach (e :: es) X.env).map (·.2) = assign e X.env :: (assignEach es X.env).map (·.2) := by rfl) : PGs X (e :: es) (qnt t u) := by
 intro pins s Z H vs us Q I r h
 obtain ⟨v, vr, e1, h⟩ := h
 subst e1
 cases r with
 | cons r rr =>
  rw [hs]
  refine assignInOrder_cons (thn (h1 pins s Z H _ _ _ I r h) fun _ s1 ⟨Z1, H1, I1, q1⟩ => ?_)
  exact h2 pins s1 Z1 H1 _ _ Q I1 rr q1
def qoP (K : PySem.W.Frag) (n : Nat) (t : TGs) : TG := fun v Z H Q => ∃ a xs, v = .ref a /\ SqT K H a xs /\ xs.length = n /\ t xs Z H Q
theorem qlv {es : List Expr} {k : Nat} {t : TGs} {n : Nat} (hc : X.calm = true) (h : PGs X es t)
  (hn : (assignEach es X.env).length = n := by rfl) (hst : (assignEach es X.env).findIdx? (·.1) = none := by rfl) : PG X (.Tuple es k pos) (qoP X.K n t) := by
 intro pins s Z H v u Q I r hw
 obtain ⟨a, xs, e1, hq, hl, hw⟩ := hw
 subst e1
 cases r
 obtain ⟨its, rv, ht, hz⟩ := I.tuple hq
 refine assign_Tuple_tuple (I.ok.hd hc) ht (by simp [hn, <- hl, rv.length]) hst fun h' hx => ?_
 have I1 : Inv X pins Z H { s with heap := h' } := I.kept (t' := s.toks) fun b o e => hx b o (Nat.ne_of_lt (Heap.lt_size e)) e
 exact h pins _ Z H xs _ Q I1 (by simpa using rv) hw
def qoQ (to ti : TE) (t : qns) : TG := fun v Z H Q => to Z H fun o H1 => ti Z H1 fun i H2 => t o i v H2 fun H3 => Q Z H3
theorem qlw {o i : Expr} {to ti : TE} {t : qns} (ho : PE X o to) (hi : PE X i ti) (hs : qog X t)
  (ha : ∀ v, assign (.Subscript o i pos) X.env v = (do
   let ov <- holding [v] (eval o X.env)
   let iv <- holding [v, ov] (eval i X.env)
   standAt pos
   holding [v, ov, iv] (setItem ov iv v)
   release [v, ov, iv] []) := by intro _; rfl) : PG X (.Subscript o i pos) (qoQ to ti t) := by
 intro pins s Z H v u Q I r h
 rw [ha]
 refine wpAny_bind (wpAny_holding (thn (ho pins s Z H _ I h) fun ov s1 ⟨x, H1, I1, r1, q1⟩ => ?_))
 refine wpAny_bind (wpAny_holding (thn (hi pins s1 Z H1 _ I1 q1) fun iv s2 ⟨y, H2, I2, r2, q2⟩ => ?_))
 refine wpAny_bind (wpAny_standAt (wpAny_bind (wpAny_holding (thn (hs pins s2 Z H2 x y v ov iv u _ I2 r1 r2 r q2) fun _ s3 ⟨H3, I3, q3⟩ => ?_))))
 exact wpAny_release ⟨Z, H3, I3, q3⟩
def qoh (te : TE) (g : TG) : TS := fun D Z H => te Z H fun x H1 => g x Z H1 D.nx
theorem qiM {tg e : Expr} {te : TE} {g : TG} (he : PE X e te) (hg : PG X tg g) (hs : swapsWithSole [tg] e pos.line X.env = pure false := by rfl) (hw : swappedStores [tg] e X.env = pure none := by rfl)
  (h1 : (assignEach [tg] X.env).map (·.2) = [assign tg X.env] := by rfl) : PS X (.Assign [tg] e pos) (qoh te g) := by
 intro pins s Z H D I h
 refine wpAny_Assign_stores (thn (he pins s Z H _ I h) fun v s1 ⟨x, H1, I1, r1, q1⟩ => ?_) hs hw
 rw [h1]
 exact thn (hg pins s1 Z H1 x v _ I1 r1 q1) fun _ s2 q => q
theorem qiN {i : Nat} {x : Str} {e : Expr} {te : TE} {pos' : Pos} (hN : X.N.Nodup) (hi : X.N[i]? = some x) (hx : Loc X.env.scope x) (he : PE X e te) (hs : swapsWith e (some (.Name x pos')) pos.line X.env = pure false := by rfl) (hf : X.fn x = true \/ X.env.scope.names.lookup x = some .local := by first | exact .inl rfl | exact .inr rfl | assumption) :
  PS X (.Assign [.Name x pos'] e pos) (qoh te (qlu i)) := by
 intro pins s Z H D I h
 refine wpAny_Assign_Name (thn (he pins s Z H _ I h) fun v s1 ⟨y, H1, I1, r1, q1⟩ => ?_) hs
 exact qaK I1 hN hi hx r1 (fun s2 I2 => ⟨_, H1, I2, q1⟩) hf
def qoR (i j : Nat) (ta : TA) : TS := fun D Z H => ta Z H fun vs H1 => ∃ v w, vs = [v, w] /\ D.nx ((Z.set i (some v)).set j (some w)) H1
theorem qlx {i j : Nat} {x y : Str} {a b : Expr} {ta : TA} {px py pt : Pos} {kt k2 pt2} (hc : X.calm = true) (hN : X.N.Nodup) (hi : X.N[i]? = some x) (hj : X.N[j]? = some y) (hij : i ≠ j)
  (hx : X.env.scope.names.lookup x = some .local) (hy : X.env.scope.names.lookup y = some .local) (ha : PA X [a, b] ta)
  (hw : swappedStores [.Tuple [.Name x px, .Name y py] kt pt] (.Tuple [a, b] k2 pt2) X.env = pure (some [x, y]))
  (hs : swapsWithSole [.Tuple [.Name x px, .Name y py] kt pt] (.Tuple [a, b] k2 pt2) pos.line X.env = pure false := by rfl) :
  PS X (.Assign [.Tuple [.Name x px, .Name y py] kt pt] (.Tuple [a, b] k2 pt2) pos) (qoR i j ta) := by
 intro pins s Z H D I h
 rw [exec_Assign_arm]
 refine wpAny_bind (wpAny_standAt ?_)
 rw [hs]
 refine wpAny_bind (wpAny_pure ?_)
 rw [if_neg (by decide)]
 refine wpAny_bind (Tuple_ (thn (ha _ pins s Z H _ I h) fun us s1 ⟨vs, H1, I1, r1, q1⟩ => ?_))
 obtain ⟨v, w, e1, q1⟩ := q1
 subst e1
 obtain ⟨u1, u2, rfl, rv, rw'⟩ : ∃ u1 u2, us = [u1, u2] /\ jN v u1 /\ jN w u2 := by
  cases r1 with
  | cons p q =>
   cases q with
   | cons p' q' =>
    cases q'
    exact ⟨_, _, rfl, p, p'⟩
 refine wpAny_newObj_type ?_ (by show 2 <= sizeLine; decide)
 have I2 : Inv X pins Z H1 { s1 with heap := s1.heap.push { cls := .type "tuple", data := .seq [u1, u2].toArray } } := I1.kept (t' := s1.toks) fun b o e => Heap.get?_push_of_some _ e
 rw [hw]
 refine wpAny_bind (wpAny_pure ?_)
 show wpAny (model X.prog X.w) X.A (do rule "assign.swapped-stores"; let items <- unpackItems (.ref s1.heap.objs.size) 2 none; assignInOrder [fun v => bindName X.env y v, fun v => bindName X.env x v] items.reverse; pure Flow.next) _ _ _
 refine wpAny_bind (wpAny_rule (wpAny_bind (unpackItems_tuple (items := #[u1, u2]) (I.ok.hd hc) (IsTup.new s1.heap _) fun h' hx' => ?_)))
 have I3 := I2.kept (h' := h') (t' := s1.toks) fun b o e => hx' b o (Nat.ne_of_lt (Heap.lt_size e)) e
 show wpAny _ _ (assignInOrder [fun v => bindName X.env y v, fun v => bindName X.env x v] [u2, u1] >>= fun _ => pure Flow.next) _ _ _
 refine wpAny_bind (assignInOrder_cons (wpAny_bindName (qaK I3 hN hj (.inl hy) rw' (fun s2 I4 => ?_) (.inr hy))))
 refine assignInOrder_cons (wpAny_bindName (qaK I4 hN hi (.inl hx) rv (fun s3 I5 => assignInOrder_nil (wpAny_pure ?_)) (.inr hx)))
 rw [List.set_comm _ _ (Ne.symm hij)] at I5
 exact ⟨_, H1, I5, q1⟩
end
section
variable {X : Cx} {pos : Pos}
def qly (c : TT) (tb : TS) : TS := fun D Z H => ∃ W : Nat -> St -> Hp -> Prop, (∃ m, W m Z H) /\ ∀ m Z H, W m Z H ->
 c Z H fun b H1 => if b = true then ∃ N : St -> Hp -> Prop, (∀ Z' H', N Z' H' -> ∃ m', m' < m /\ W m' Z' H') /\ tb { D with nx := N, ct := N, bk := D.nx } Z H1 else D.nx Z H1
theorem qhD {c : Expr} {body : List Stmt} {tc : TT} {tb : TS} (hp : PassesOwn (model X.prog X.w) X.A X.env X.xe) (hc : PT X c tc) (hb : PSs X body tb) : PS X (.While c body [] pos) (qly tc tb) := by
 intro pins s Z H D I h
 obtain ⟨W, ⟨m0, w0⟩, turn⟩ := h
 refine wpAny_While (codeAny_whileLoop (fun n s' => ∃ Z' H', Inv X pins Z' H' s' /\ W n Z' H') ?_ m0 ⟨Z, H, I, w0⟩)
 rintro n s1 ⟨Z1, H1, I1, w1⟩
 refine wpAny_passesOwn hp (thn (hc pins s1 Z1 H1 _ I1 (turn n Z1 H1 w1)) fun b s2 ⟨H2, I2, q2⟩ => ?_)
 cases b with
 | true =>
  obtain ⟨N, hN, q2⟩ := q2
  rw [if_pos rfl]
  refine wpAny_passesOwn hp (thn (hb pins s2 Z1 H2 _ I2 q2) fun f s3 q3 => ?_)
  cases f with
  | next =>
   obtain ⟨Z3, H3, I3, n3⟩ := q3
   obtain ⟨m', hm, w3⟩ := hN Z3 H3 n3
   exact ⟨m', hm, Z3, H3, I3, w3⟩
  | cont =>
   obtain ⟨Z3, H3, I3, n3⟩ := q3
   obtain ⟨m', hm, w3⟩ := hN Z3 H3 n3
   exact ⟨m', hm, Z3, H3, I3, w3⟩
  | brk => exact q3
  | ret v => exact q3
 | false =>
  rw [if_neg Bool.false_ne_true]
  exact wpAny_execs_nil ⟨Z1, H2, I2, q2⟩
end
structure It where
 go : Nat -> Hp -> Prop
 yld : Nat -> Hp -> V -> Hp -> Prop
 stop : Nat -> Hp -> Prop
def qdI (X : Cx) (pins : List (Addr × Obj)) (H : Hp) (b : Addr) : Prop :=
 H b = none /\ b ≠ X.env.locals /\ b ∉ X.fs /\ (b ∈ X.ex \/ X.s₀.heap.objs.size <= b) /\ (∀ x c, X.env.cells.lookup x = some c -> c ≠ b) /\ ∀ p ∈ X.pn ++ pins, p.1 ≠ b
theorem Inv.fpOk {X : Cx} {pins : List (Addr × Obj)} {Z : St} {H H' : Hp} {s : Shared} {b : Addr} (I : Inv X pins Z H s) (hb : s.heap.objs.size <= b) (hn : H' b = none) : qdI X pins H' b := by
 refine ⟨hn, Nat.ne_of_gt (Nat.lt_of_lt_of_le I.lt hb), I.nofs hb, .inr (Nat.le_trans I.sz hb), fun x c e z => ?_, fun p hp z => ?_⟩
 ·obtain ⟨v, q⟩ := I.cell x c e
  exact absurd (Nat.lt_of_lt_of_le q.lt (by rw [z]; exact hb)) (Nat.lt_irrefl _)
 ·exact absurd (Nat.lt_of_lt_of_le (Heap.lt_size (I.pin p hp).1) (by rw [z]; exact hb)) (Nat.lt_irrefl _)
structure qjJ (P : Program) (w : World) (K : PySem.W.Frag) (tg : Expr) (J : It) (fp : List Addr) (it : Addr) (tn : Nat -> Heap -> Prop) : Prop where
 mem : it ∈ fp
 obj : ∀ i h, tn i h -> ∀ b ∈ fp, ∃ o, h.get? b = some o /\ ∀ v, o.data ≠ .cell v
 keep : ∀ i h h', tn i h -> (∀ b ∈ fp, ∀ o, h.get? b = some o -> h'.get? b = some o) -> tn i h'
 item : ∀ (X : Cx), X.prog = P -> X.w = w -> X.K = K -> X.calm = true -> ∀ (i : Nat) (pins : List (Addr × Obj)) (s : Shared) (Z : St) (H : Hp) (E : Value -> Shared -> Prop), Inv X pins Z H s -> (∀ b ∈ fp, qdI X pins H b) -> tn i s.heap -> J.go i H ->
  wpAny (model P w) X.A (pyNext (.ref it)) (fun r s1 => ∃ u, r = some u /\
   wpAny (model P w) X.A (letOwnedTupleGo tg (.ref it) u) (fun _ s2 => ∃ x H', Inv X pins Z H' s2 /\ jN x u /\ J.yld i H x H' /\ tn (i + 1) s2.heap /\ ∀ b ∈ fp, H' b = none) E s1) E s
 done : ∀ (X : Cx), X.prog = P -> X.w = w -> X.K = K -> X.calm = true -> ∀ (i : Nat) (pins : List (Addr × Obj)) (s : Shared) (Z : St) (H : Hp) (E : Value -> Shared -> Prop), Inv X pins Z H s -> (∀ b ∈ fp, qdI X pins H b) -> tn i s.heap -> J.stop i H ->
  wpAny (model P w) X.A (pyNext (.ref it)) (fun r s1 => r = none /\ Inv X pins Z H s1) E s
 self : ∀ (A : Around) (i : Nat) (s : Shared) (Q : Value -> Shared -> Prop) (E : Value -> Shared -> Prop), tn i s.heap -> Q (.ref it) s -> wpAny (model P w) A (pyIter (.ref it)) Q E s
abbrev TI := St -> Hp -> (It -> Hp -> Prop) -> Prop
def PIE (X : Cx) (pins : List (Addr × Obj)) (Z : St) (tg : Expr) (R : It -> Hp -> Prop) (itv : Value) (s2 : Shared) : Prop :=
 ∃ (it : Addr) (fp : List Addr) (tn : Nat -> Heap -> Prop) (J : It) (H' : Hp), itv = .ref it /\ Inv X pins Z H' s2 /\ qjJ X.prog X.w X.K tg J fp it tn /\ tn 0 s2.heap /\ (∀ b ∈ fp, qdI X pins H' b) /\ R J H'
def PI (X : Cx) (tg iter : Expr) (wi : TI) : Prop :=
 ∀ (pins : List (Addr × Obj)) (s : Shared) (Z : St) (H : Hp) (R : It -> Hp -> Prop), Inv X pins Z H s -> wi Z H R ->
  wpAny (model X.prog X.w) X.A (eval iter X.env) (fun v s1 => wpAny (model X.prog X.w) X.A (pyIter v) (PIE X pins Z tg R) X.xe s1) X.xe s
theorem qhE {M : Model} {A : Around} {E : Value -> Shared -> Prop} {s : Shared} {tg : Expr} {it : Addr} {u : Value} {o : Obj} {n : String} {vs : Array Value} {Q : Unit -> Shared -> Prop} (ho : s.heap.get? it = some o) (hc : o.cls = .type n) (hd : o.data = .fields vs)
  (hn : ["enumerate", "zip", "dict_itemiterator", "dict_reverseitemiterator", "odict_iterator", "itertools.zip_longest", "itertools.pairwise"].contains n = false) (hQ : Q () s) : wpAny M A (letOwnedTupleGo tg (.ref it) u) Q E s := by
 unfold letOwnedTupleGo
 cases tg <;> first
  | exact wpAny_pure hQ
  | (cases u <;> first
    | exact wpAny_pure hQ
    | (refine wpAny_bind (wpAny_load ho ?_)
       rw [hc, hd]
       show wpAny M A (if (["enumerate", "zip", "dict_itemiterator", "dict_reverseitemiterator", "odict_iterator", "itertools.zip_longest", "itertools.pairwise"].contains n && vs[0]? == some (rawInt _)) = true then _ else _) Q E s
       rw [if_neg (by intro h; rw [hn, Bool.false_and] at h; cases h)]
       exact wpAny_pure hQ))
def Itl (K : PySem.W.Frag) (a : Addr) : It :=
 ⟨fun i H => ∃ xs x, SqL K H a xs /\ xs[i]? = some x, fun i H x H' => H' = H /\ ∀ xs, SqL K H a xs -> xs[i]? = some x, fun i H => ∃ xs, SqL K H a xs /\ xs.length <= i⟩
def Itt (K : PySem.W.Frag) (a : Addr) : It :=
 ⟨fun i H => ∃ xs x, SqT K H a xs /\ xs[i]? = some x, fun i H x H' => H' = H /\ ∀ xs, SqT K H a xs -> xs[i]? = some x, fun i H => ∃ xs, SqT K H a xs /\ xs.length <= i⟩
def Itr (lo : Int) (n : Nat) : It := ⟨fun i _ => i < n, fun i H x H' => H' = H /\ x = .int (lo + i), fun i _ => n <= i⟩
theorem qfP {P : Program} {w : World} {K : PySem.W.Frag} {tg : Expr} (a it : Addr) : qjJ P w K tg (Itl K a) [it] it (fun i h => h.IsListIter it a i) where
 mem := by simp
 obj := fun i h st b hb => by
  have e : b = it := by simpa using hb
  subst e
  obtain ⟨o, e, c, d⟩ := st
  exact ⟨o, e, fun v z => by rw [d] at z; cases z⟩
 keep := fun i h h' st k => st.at fun o e => k it (by simp) o e
 item := by
  intro X hP hw hK hc i pins s Z H E I hf st hg
  subst hP hw hK
  obtain ⟨xs, x, hq, hx⟩ := hg
  obtain ⟨its, rv, p, hz⟩ := I.list hq
  obtain ⟨u, hu, ru⟩ := rv.get hx
  obtain ⟨f0, f1, f2, f3, f4, f5⟩ := hf it (by simp)
  refine wpAny_pyNext_list_item st p.isList (x := u) (by simpa using hu) fun h' st' sb => ?_
  have I1 : Inv X pins Z H { s with heap := h' } := I.turned (t' := s.toks) (fun b o hb e => (sb.2 b hb).trans e) f0 f1 f3 f4 f5
  obtain ⟨o, e, c, d⟩ := id st'
  exact ⟨u, rfl, qhE (s := { s with heap := h' }) e c d (by decide) ⟨x, H, I1, ru, ⟨rfl, fun ys hy => by rw [I.list_inj hy hq]; exact hx⟩, st', fun b hb => (hf b hb).1⟩⟩
 done := by
  intro X hP hw hK hc i pins s Z H E I hf st hg
  subst hP hw hK
  obtain ⟨xs, hq, hx⟩ := hg
  obtain ⟨its, rv, p, hz⟩ := I.list hq
  obtain ⟨f0, f1, f2, f3, f4, f5⟩ := hf it (by simp)
  have hl := rv.length
  exact wpAny_pyNext_list_end (I.ok.hd hc) st p.isList (by simp; omega) fun h' eb => ⟨rfl, I.turned (t' := s.toks) (fun b o hb e => eb b o hb e) f0 f1 f3 f4 f5⟩
 self := fun _ _ _ _ _ st h => wpAny_pyIter_listiter st h
theorem qfe {P : Program} {w : World} {K : PySem.W.Frag} {tg : Expr} (a it : Addr) : qjJ P w K tg (Itt K a) [it] it (fun i h => h.IsTupleIter it a i) where
 mem := by simp
 obj := fun i h st b hb => by
  have e : b = it := by simpa using hb
  subst e
  obtain ⟨o, e, c, d⟩ := st
  exact ⟨o, e, fun v z => by rw [d] at z; cases z⟩
 keep := fun i h h' st k => st.at fun o e => k it (by simp) o e
 item := by
  intro X hP hw hK hc i pins s Z H E I hf st hg
  subst hP hw hK
  obtain ⟨xs, x, hq, hx⟩ := hg
  obtain ⟨its, rv, p, hz⟩ := I.tuple hq
  obtain ⟨u, hu, ru⟩ := rv.get hx
  obtain ⟨f0, f1, f2, f3, f4, f5⟩ := hf it (by simp)
  refine wpAny_pyNext_tuple_item st (show s.heap.IsTuple a its.toArray from p) (x := u) (by simpa using hu) fun h' st' sb => ?_
  have I1 : Inv X pins Z H { s with heap := h' } := I.turned (t' := s.toks) (fun b o hb e => (sb.2 b hb).trans e) f0 f1 f3 f4 f5
  obtain ⟨o, e, c, d⟩ := id st'
  exact ⟨u, rfl, qhE (s := { s with heap := h' }) e c d (by decide) ⟨x, H, I1, ru, ⟨rfl, fun ys hy => by rw [I.tuple_inj hy hq]; exact hx⟩, st', fun b hb => (hf b hb).1⟩⟩
 done := by
  intro X hP hw hK hc i pins s Z H E I hf st hg
  subst hP hw hK
  obtain ⟨xs, hq, hx⟩ := hg
  obtain ⟨its, rv, p, hz⟩ := I.tuple hq
  obtain ⟨f0, f1, f2, f3, f4, f5⟩ := hf it (by simp)
  have hl := rv.length
  exact wpAny_pyNext_tuple_end (I.ok.hd hc) st (show s.heap.IsTuple a its.toArray from p) (by simp; omega) fun h' eb => ⟨rfl, I.turned (t' := s.toks) (fun b o hb e => eb b o hb e) f0 f1 f3 f4 f5⟩
 self := fun _ _ _ _ _ st h => wpAny_pyIter_tupleiter st h
theorem qff {P : Program} {w : World} {K : PySem.W.Frag} {tg : Expr} (it : Addr) (lo : Int) (n : Nat) : qjJ P w K tg (Itr lo n) [it] it (fun i h => IsRangeIter h it (lo + (i : Nat) * 1) ((n : Int) - (i : Nat)) 1) where
 mem := by simp
 obj := fun i h st b hb => by
  have e : b = it := by simpa using hb
  subst e
  exact ⟨_, st, fun v z => by
   have z' : Data.fields _ = Data.cell v := z
   cases z'⟩
 keep := fun i h h' st k => k it (by simp) _ st
 item := by
  intro X hP hw hK hc i pins s Z H E I hf st hg
  subst hP hw hK
  obtain ⟨f0, f1, f2, f3, f4, f5⟩ := hf it (by simp)
  have W := Walks.range (prog := X.prog) (w := X.w) (I.ok.hd hc) it lo 1 n
  refine W.item i s _ _ hg st fun v h' tk hv st' kk => ?_
  obtain ⟨t, rfl⟩ := hv
  have I1 : Inv X pins Z H { s with heap := h', toks := tk } := I.turned (fun b o hb e => kk b o (by simpa using hb) e) f0 f1 f3 f4 f5
  refine ⟨_, rfl, qhE (s := { s with heap := h', toks := tk }) (n := "range_iterator") st' rfl rfl (by decide) ⟨.int (lo + i), H, I1, ⟨t, ?_⟩, ⟨rfl, rfl⟩, st', fun b hb => (hf b hb).1⟩⟩
  rw [Int.mul_one]
 done := by
  intro X hP hw hK hc i pins s Z H E I hf st hg
  subst hP hw hK
  obtain ⟨f0, f1, f2, f3, f4, f5⟩ := hf it (by simp)
  exact wpAny_pyNext_range_end (I.ok.hd hc) st (by have : n <= i := hg; omega) fun h' eb => ⟨rfl, I.turned (t' := s.toks) (fun b o hb e => eb b o hb e) f0 f1 f3 f4 f5⟩
 self := fun _ _ _ _ _ st h => wpAny_pyIter_rangeiter st h
end L2
namespace L2
open PySem PySem.Spec PyProof.Rows
section
variable {X : Cx} {tg : Expr}
theorem qhF {pins : List (Addr × Obj)} {Z : St} {H : Hp} {s : Shared} {R : It -> Hp -> Prop} {E : Value -> Shared -> Prop} {lo hi : Int} {t u v : Tok} {tk : Nat} (I : Inv X pins Z H s) (h1 : -(2 ^ 62) <= lo) (h2 : lo < 2 ^ 62) (h3 : -(2 ^ 62) <= hi) (h4 : hi < 2 ^ 62)
  (q : R (Itr lo (hi - lo).toNat) H) : wpAny (model X.prog X.w) X.A (pyIter (.ref s.heap.objs.size)) (PIE X pins Z tg R) E { s with heap := s.heap.push { cls := .type "range", data := .fields #[.int lo t, .int hi u, .int 1 v] }, toks := tk } := by
 refine wpAny_pyIter_range (IsRange.new ..) (small_one h1 h2 h3 h4) ?_
 have I1 : Inv X pins Z H { s with heap := s.heap.push { cls := .type "range", data := .fields #[.int lo t, .int hi u, .int 1 v] }, toks := tk } := I.kept fun b o e => Heap.get?_push_of_some _ e
 refine ⟨(s.heap.push { cls := .type "range", data := .fields #[.int lo t, .int hi u, .int 1 v] }).objs.size, [(s.heap.push { cls := .type "range", data := .fields #[.int lo t, .int hi u, .int 1 v] }).objs.size], _, _, H, rfl,
  I1.kept (t' := tk) fun b o e => Heap.get?_push_of_some _ e, qff _ lo (hi - lo).toNat, ?_, fun b hb => ?_, q⟩
 ·have e1 : lo + ((0 : Nat) : Int) * 1 = lo := by simp
  have e2 : (((hi - lo).toNat : Nat) : Int) - ((0 : Nat) : Int) = Builtin.Range.rangeSize lo hi 1 := by rw [rangeSize_one]; split <;> omega
  show IsRangeIter _ _ (lo + ((0 : Nat) : Int) * 1) ((((hi - lo).toNat : Nat) : Int) - ((0 : Nat) : Int)) 1
  rw [e1, e2]
  exact Heap.get?_push_size _ rfl
 ·have e : b = (s.heap.push { cls := .type "range", data := .fields #[.int lo t, .int hi u, .int 1 v] }).objs.size := by simpa using hb
  subst e
  exact I1.fpOk (Nat.le_refl _) (I1.hok.fresh (Nat.le_refl _))
def qnu (ta : TA) : TI := fun Z H R => ta Z H fun vs H1 => ∃ j : Int, vs = [.int j] /\ -(2 ^ 62) <= j /\ j < 2 ^ 62 /\ R (Itr 0 j.toNat) H1
theorem qfQ {a : Expr} {ta : TA} {p pos : Pos} (hg : Gl X "range") (hm : X.mg "range" = none) (ha : PA X [a] ta) (hs : starEach [a] X.env = [(false, eval a X.env)] := by rfl) : PI X tg (.Call (.Name "range" p) [a] [] pos) (qnu ta) := by
 intro pins s Z H R I h
 refine Call_ (qax I hg hm boot_range (PyProof.Rows.callWith_type1 (thn (ha pos pins s Z H _ I h) fun us s1 ⟨vs, H1, I1, r1, q1⟩ => ?_) hs rfl))
 obtain ⟨j, e, q1, q2, q⟩ := q1
 subst e
 cases r1 with
 | cons r rr =>
  cases rr
  obtain ⟨t, rfl⟩ := r
  exact call_range_1 (qhF I1 (by omega) (by omega) q1 q2 (by simpa using q))
def qoS (wi : TI) (g : TG) (tb : TS) : TS := fun D Z H => wi Z H fun J H1 => ∃ W : Nat -> Nat -> St -> Hp -> Prop, (∃ m, W 0 m Z H1) /\ ∀ i m Z H, W i m Z H ->
 (J.stop i H /\ D.nx Z H) \/ (J.go i H /\ ∃ N : St -> Hp -> Prop, (∀ Z' H', N Z' H' -> ∃ m', m' < m /\ W (i + 1) m' Z' H') /\ ∀ x H', J.yld i H x H' -> g x Z H' fun Z2 H2 => tb { D with nx := N, ct := N, bk := D.nx } Z2 H2)
def qbL (fp : List Addr) (h : Heap) : List (Addr × Obj) := fp.filterMap fun b => (h.get? b).map fun o => (b, o)
theorem yF {fp : List Addr} {h : Heap} {b : Addr} {o : Obj} (hb : b ∈ fp) (e : h.get? b = some o) : (b, o) ∈ qbL fp h := List.mem_filterMap.mpr ⟨b, hb, by rw [e]; rfl⟩
theorem qfR {fp : List Addr} {h : Heap} {p : Addr × Obj} (hp : p ∈ qbL fp h) : p.1 ∈ fp /\ h.get? p.1 = some p.2 := by
 obtain ⟨b, hb, e⟩ := List.mem_filterMap.mp hp
 cases q : h.get? b with
 | none => rw [q] at e; cases e
 | some o =>
  rw [q] at e
  have e' : (b, o) = p := Option.some.inj e
  subst e'
  exact ⟨hb, q⟩
theorem Inv.pinned {pins : List (Addr × Obj)} {Z : St} {H : Hp} {s : Shared} {fp : List Addr} (I : Inv X pins Z H s) (hf : ∀ b ∈ fp, qdI X pins H b) (ho : ∀ b ∈ fp, ∃ o, s.heap.get? b = some o /\ ∀ v, o.data ≠ .cell v) : Inv X (pins ++ qbL fp s.heap) Z H s :=
 I.pins_of fun p hp => (mA_.mp hp).elim (fun z => I.pin p (mr_ _ z)) fun z => by
  obtain ⟨hb, e⟩ := qfR z
  obtain ⟨f0, f1, f2, _⟩ := hf p.1 hb
  obtain ⟨o, e', d⟩ := ho p.1 hb
  rw [e] at e'; cases e'
  exact ⟨e, f0, f1, f2, d⟩
theorem Inv.unpinned {pins pl : List (Addr × Obj)} {Z : St} {H : Hp} {s : Shared} (I : Inv X (pins ++ pl) Z H s) : Inv X pins Z H s := I.pins_of fun p hp => I.pin p (mr_ _ (List.mem_append_left _ hp))
theorem qlz {iter : Expr} {body : List Stmt} {wi : TI} {g : TG} {tb : TS} {pos : Pos} (hp : PassesOwn (model X.prog X.w) X.A X.env X.xe) (hc : X.calm = true) (hi : PI X tg iter wi) (hg : PG X tg g) (hb : PSs X body tb)
  (hs : ∀ x, foldedSetIterable iter X.env x = pure x := by intro _; rfl) : PS X (.For tg iter body [] pos) (qoS wi g tb) := by
 intro pins s Z H D I h
 refine wpAny_For (thn (hi pins s Z H _ I h) fun v s1 h1 => thn h1 fun itv s2 h2 => ?_) hs
 obtain ⟨it, fp, tn, J, H2, e, I2, T, st2, f2, W, ⟨m0, w0⟩, turn⟩ := h2
 subst e
 have stat : ∀ {H' : Hp}, (∀ b ∈ fp, H' b = none) -> ∀ b ∈ fp, qdI X pins H' b := fun hn b hb => ⟨hn b hb, (f2 b hb).2⟩
 refine codeAny_forLoop_any (fun n s' => ∃ i Z' H', Inv X pins Z' H' s' /\ tn i s'.heap /\ (∀ b ∈ fp, H' b = none) /\ W i n Z' H') ?_ m0 ⟨0, Z, H2, I2, st2, fun b hb => (f2 b hb).1, w0⟩
 rintro n s3 ⟨i, Z3, H3, I3, st3, fr3, w3⟩
 rcases turn i n Z3 H3 w3 with ⟨stop, qn⟩ | ⟨go, N, hN, step⟩
 ·refine wpAny_passesOwn hp (thn (T.done X rfl rfl rfl hc i pins s3 Z3 H3 X.xe I3 (stat fr3) st3 stop) fun r s4 ⟨hr, I4⟩ => ?_)
  subst hr
  exact wpAny_execs_nil ⟨Z3, H3, I4, qn⟩
 ·refine wpAny_passesOwn hp (thn (T.item X rfl rfl rfl hc i pins s3 Z3 H3 X.xe I3 (stat fr3) st3 go) fun r s4 ⟨u, hr, h4⟩ => ?_)
  subst hr
  refine wpAny_passesOwn hp (thn h4 fun _ s5 ⟨x, H5, I5, r5, y5, st5, fr5⟩ => ?_)
  have I5' := I5.pinned (stat fr5) (T.obj _ _ st5)
  refine wpAny_passesOwn hp (thn (hg _ s5 Z3 H5 x u _ I5' r5 (step x H5 y5)) fun _ s6 ⟨Z6, H6, I6, q6⟩ => ?_)
  refine wpAny_passesOwn hp (thn (hb _ s6 Z6 H6 _ I6 q6) fun f s7 q7 => ?_)
  have again : ∀ {Z7 : St} {H7 : Hp}, Inv X (pins ++ qbL fp s5.heap) Z7 H7 s7 -> N Z7 H7 -> ∃ m, m < n /\ ∃ i Z' H', Inv X pins Z' H' s7 /\ tn i s7.heap /\ (∀ b ∈ fp, H' b = none) /\ W i m Z' H' := fun {Z7 H7} I7 n7 => by
   obtain ⟨m', hm, w7⟩ := hN Z7 H7 n7
   refine ⟨m', hm, i + 1, Z7, H7, I7.unpinned, T.keep _ _ _ st5 fun b hb o e => (I7.pin (b, o) (mr_ _ (mr_ _ (yF hb e)))).1, fun b hb => ?_, w7⟩
   obtain ⟨o, e, d⟩ := T.obj _ _ st5 b hb
   exact (I7.pin (b, o) (mr_ _ (mr_ _ (yF hb e)))).2.1
  cases f with
  | next => obtain ⟨Z7, H7, I7, n7⟩ := q7; exact again I7 n7
  | cont => obtain ⟨Z7, H7, I7, n7⟩ := q7; exact again I7 n7
  | brk => obtain ⟨Z7, H7, I7, q7⟩ := q7; exact ⟨Z7, H7, I7.unpinned, q7⟩
  | ret v => obtain ⟨x7, Z7, H7, I7, r7, q7⟩ := q7; exact ⟨x7, Z7, H7, I7.unpinned, r7, q7⟩
end
end L2
namespace L2
open PySem PySem.Spec PyProof.Rows
abbrev R2 := V -> V -> Hp -> VK -> Prop
def OpR (X : Cx) (f : Value -> Value -> Sem Value) (r : R2) : Prop :=
 ∀ (pins : List (Addr × Obj)) (s : Shared) (Z : St) (H : Hp) (x y : V) (v u : Value) (Q : VK), Inv X pins Z H s -> jN x v -> jN y u -> r x y H Q ->
  wpAny (model X.prog X.w) X.A (f v u) (EP X pins Z Q) X.xe s
def UnR (X : Cx) (f : Value -> Sem Value) (r : V -> Hp -> VK -> Prop) : Prop :=
 ∀ (pins : List (Addr × Obj)) (s : Shared) (Z : St) (H : Hp) (x : V) (v : Value) (Q : VK), Inv X pins Z H s -> jN x v -> r x H Q ->
  wpAny (model X.prog X.w) X.A (f v) (EP X pins Z Q) X.xe s
def ut (X : Cx) (f : Value) (r : List V -> Hp -> VK -> Prop) : Prop :=
 ∀ (pins : List (Addr × Obj)) (s : Shared) (Z : St) (H : Hp) (xs : List V) (us : List Value) (Q : VK), Inv X pins Z H s -> zg xs us -> r xs H Q ->
  wpAny (model X.prog X.w) X.A (call f us) (EP X pins Z Q) X.xe s
def tOp (r : R2) (ta tb : TE) : TE := fun Z H Q => ta Z H fun x H1 => tb Z H1 fun y H2 => r x y H2 Q
def tUn (r : V -> Hp -> VK -> Prop) (ta : TE) : TE := fun Z H Q => ta Z H fun x H1 => r x H1 Q
def rI (C : Int -> Int -> Prop) (g : Int -> Int -> V) : R2 := fun x y H Q => ∃ i j, x = .int i /\ y = .int j /\ C i j /\ Q (g i j) H
def rI0 (g : Int -> Int -> V) : R2 := fun x y H Q => ∃ i j, x = .int i /\ y = .int j /\ Q (g i j) H
def rU (g : Int -> V) : V -> Hp -> VK -> Prop := fun x H Q => ∃ i, x = .int i /\ Q (g i) H
section
variable {X : Cx} {a b c : Expr} {ta tb tc : TE} {pos : Pos}
theorem qnv (ha : PE X a ta) (hb : PE X b tb) {pins : List (Addr × Obj)} {s : Shared} {Z : St} {H : Hp} {R : V -> V -> Hp -> Prop} (I : Inv X pins Z H s)
  (h : ta Z H fun x H1 => tb Z H1 fun y H2 => R x y H2) {Q : Value -> Shared -> Prop} {f : Value -> Value -> Sem Value}
  (hf : ∀ v u s2 x y H2, Inv X pins Z H2 s2 -> jN x v -> jN y u -> R x y H2 -> wpAny (model X.prog X.w) X.A (f v u) Q X.xe s2) :
  wpAny (model X.prog X.w) X.A (eval a X.env) (fun v sQ => wpAny (model X.prog X.w) X.A (eval b X.env) (fun u sJ => wpAny (model X.prog X.w) X.A (f v u) Q X.xe sJ) X.xe sQ) X.xe s := by
 refine thn (ha pins s Z H _ I h) fun v s1 ⟨x, H1, I1, r1, q1⟩ => ?_
 refine thn (hb pins s1 Z H1 _ I1 q1) fun u s2 ⟨y, H2, I2, r2, q2⟩ => ?_
 exact hf v u s2 x y H2 I2 r1 r2 q2
theorem qlA {op : Operator} {r : R2} (ho : OpR X (binaryOp op) r) (ha : PE X a ta) (hb : PE X b tb) : PE X (.BinOp a op b pos) (tOp r ta tb) := by
 intro pins s Z H Q I h
 exact wpAny_BinOp (qnv ha hb I h fun v u s2 x y H2 I2 rx ry q => ho pins s2 Z H2 x y v u Q I2 rx ry q)
theorem qnw {op : UnaryOp} {r : V -> Hp -> VK -> Prop} (ho : UnR X (unaryOp op) r) (ha : PE X a ta) : PE X (.UnaryOp op a pos) (tUn r ta) := by
 intro pins s Z H Q I h
 exact UnaryOp_ (thn (ha pins s Z H _ I h) fun v s1 ⟨x, H1, I1, r1, q1⟩ => ho pins s1 Z H1 x v Q I1 r1 q1)
theorem opI {f : Value -> Value -> Sem Value} {C : Int -> Int -> Prop} {g : Int -> Int -> Int}
  (rule : ∀ (i j : Int) (t u : Tok) (s : Shared) (Q : Value -> Shared -> Prop) (E : Value -> Shared -> Prop), C i j -> Q (.int (g i j) s.toks) { s with toks := s.toks + 1 } -> wpAny (model X.prog X.w) X.A (f (.int i t) (.int j u)) Q E s) :
  OpR X f (rI C fun i j => .int (g i j)) := by
 intro pins s Z H x y v u Q I rx ry h
 obtain ⟨i, j, rfl, rfl, hc, q⟩ := h
 obtain ⟨t, rfl⟩ := rx
 obtain ⟨t', rfl⟩ := ry
 exact rule i j t t' s _ _ hc ⟨.int (g i j), H, I.tok _, ⟨_, rfl⟩, q⟩
theorem qoi {f : Value -> Value -> Sem Value} {g : Int -> Int -> Int}
  (rule : ∀ (i j : Int) (t u : Tok) (s : Shared) (Q : Value -> Shared -> Prop) (E : Value -> Shared -> Prop), Q (.int (g i j) s.toks) { s with toks := s.toks + 1 } -> wpAny (model X.prog X.w) X.A (f (.int i t) (.int j u)) Q E s) :
  OpR X f (rI0 fun i j => .int (g i j)) := by
 intro pins s Z H x y v u Q I rx ry h
 obtain ⟨i, j, rfl, rfl, q⟩ := h
 obtain ⟨t, rfl⟩ := rx
 obtain ⟨t', rfl⟩ := ry
 exact rule i j t t' s _ _ ⟨.int (g i j), H, I.tok _, ⟨_, rfl⟩, q⟩
theorem qm8 {f : Value -> Value -> Sem Value} {g : Int -> Int -> Bool}
  (rule : ∀ (i j : Int) (t u : Tok) (s : Shared) (Q : Value -> Shared -> Prop) (E : Value -> Shared -> Prop), Q (.bool (g i j)) s -> wpAny (model X.prog X.w) X.A (f (.int i t) (.int j u)) Q E s) :
  OpR X f (rI0 fun i j => .bl (g i j)) := by
 intro pins s Z H x y v u Q I rx ry h
 obtain ⟨i, j, rfl, rfl, q⟩ := h
 obtain ⟨t, rfl⟩ := rx
 obtain ⟨t', rfl⟩ := ry
 exact rule i j t t' s _ _ ⟨.bl (g i j), H, I, rfl, q⟩
def qlB (i j : Int) : Prop := 0 < j /\ j < 1606938044258990275541962092341162602522202993782792835301376
theorem qoj {i j : Int} (h1 : 0 < j) (h2 : j < 1606938044258990275541962092341162602522202993782792835301376) : Builtin.divisionGoesByPylong i j = false := by
 refine PyProof.noPylong_of_log2 ?_
 have h0 : j.natAbs ≠ 0 := by omega
 have h3 : j.natAbs < 2 ^ 200 := by
   have : (2 : Nat) ^ 200 = 1606938044258990275541962092341162602522202993782792835301376 := by decide +kernel
   omega
 have := (Nat.log2_lt h0).mpr h3
 omega
def qlC (i j : Int) : Prop := (-(2 ^ 64) < i /\ i < 2 ^ 64) \/ (-(2 ^ 64) < j /\ j < 2 ^ 64)
theorem qlC.ok {i j : Int} (h : qlC i j) : IntMulOk i j := by
 rcases h with ⟨h1, h2⟩ | ⟨h1, h2⟩
 ·exact .of_left (intBits_le_64 h1 h2)
 ·exact .of_right (intBits_le_64 h1 h2)
theorem qlD : OpR X (binaryOp .Add) (rI0 fun i j => .int (i + j)) := qoi fun _ _ _ _ _ _ _ q => add_int q
theorem qfS : OpR X (binaryOp .Sub) (rI0 fun i j => .int (i - j)) := qoi fun _ _ _ _ _ _ _ q => sub_int q
theorem qlE : OpR X (binaryOp .Mult) (rI qlC fun i j => .int (i * j)) := opI fun _ _ _ _ _ _ _ hc q => mul_int q hc.ok
theorem yV : OpR X (binaryOp .FloorDiv) (rI qlB fun i j => .int (i / j)) := opI fun i j _ _ _ _ _ hc q => by
 have h1 : (0 : Int) < j := hc.1
 have h2 : j < 1606938044258990275541962092341162602522202993782792835301376 := hc.2
 exact floordiv_int (by omega) (by rw [Int.fdiv_eq_ediv_of_nonneg i (by omega)]; exact q) (.inl (qoj h1 h2))
theorem qaV : OpR X (binaryOp .Mod) (rI (fun _ j => 0 < j) fun i j => .int (i % j)) := opI fun i j _ _ _ _ _ hc q => by
 have h1 : (0 : Int) < j := hc
 exact mod_int' (by omega) (by rw [Int.fmod_eq_emod_of_nonneg i (by omega)]; exact q)
theorem unI {f : Value -> Sem Value} {g : Int -> Int}
  (rule : ∀ (i : Int) (t : Tok) (s : Shared) (Q : Value -> Shared -> Prop) (E : Value -> Shared -> Prop), Q (.int (g i) s.toks) { s with toks := s.toks + 1 } -> wpAny (model X.prog X.w) X.A (f (.int i t)) Q E s) :
  UnR X f (rU fun i => .int (g i)) := by
 intro pins s Z H x v Q I rx h
 obtain ⟨i, rfl, q⟩ := h
 obtain ⟨t, rfl⟩ := rx
 exact rule i t s _ _ ⟨.int (g i), H, I.tok _, ⟨_, rfl⟩, q⟩
theorem qlF : UnR X (unaryOp .USub) (rU fun i => .int (-i)) := unI fun _ _ _ _ _ q => neg_int q
end
def qnx : V -> V -> Bool
 | .non, .non => true | .non, .int _ => true | .int _, .non => true | .non, .bl _ => true | .bl _, .non => true | .non, .str _ => true | .str _, .non => true
 | .int _, .int _ => true | .bl _, .bl _ => true | .str _, .str _ => true | .byt _, .byt _ => true
 | .int _, .str _ => true | .str _, .int _ => true | .bl _, .str _ => true | .str _, .bl _ => true
 | _, _ => false
def rEq : R2 := fun x y H Q => qnx x y = true /\ Q (.bl (decide (x = y))) H
def rNe : R2 := fun x y H Q => qnx x y = true /\ Q (.bl (!decide (x = y))) H
theorem qfT {i j : Int} : decide (V.int i = V.int j) = (i == j) := by
 rw [Bool.eq_iff_iff]
 simp
theorem qiO {i j : Bool} : decide (V.bl i = V.bl j) = (i == j) := by
 rw [Bool.eq_iff_iff]
 simp
theorem qfU {i j : Str} : decide (V.str i = V.str j) = (i == j) := by
 rw [Bool.eq_iff_iff]
 simp
theorem qfV {i j : Array UInt8} : decide (V.byt i = V.byt j) = (i.toList == j.toList) := by
 rw [Bool.eq_iff_iff]
 cases i
 cases j
 simp
section
variable {X : Cx} {a b c : Expr} {ta tb tc : TE} {pos : Pos}
theorem qY {pins : List (Addr × Obj)} {Z : St} {H : Hp} {s : Shared} {Q : VK} {k k' : Bool} (I : Inv X pins Z H s) (q : Q (.bl k) H) (e : k = k') : EP X pins Z Q (.bool k') s := by
 subst e
 exact ⟨.bl k, H, I, rfl, q⟩
theorem qny : OpR X (compareOp .Eq) rEq := by
 intro pins s Z H x y v u Q I rx ry h
 obtain ⟨hs, q⟩ := h
 cases x with
 | non =>
  cases rx
  cases y with
  | non => cases ry; exact PySem.EqNone.eq_none_none (qY I q (by simp))
  | bl j => cases ry; exact PySem.EqNone.eq_none_bool (qY I q (by simp))
  | int j => obtain ⟨t', rfl⟩ := ry; exact PySem.EqNone.eq_none_int (qY I q (by simp))
  | str j => obtain ⟨t', rfl⟩ := ry; exact PySem.EqNone.eq_none_str (qY I q (by simp))
  | _ => exact absurd (show false = true from hs) Bool.false_ne_true
 | bl i =>
  cases rx
  cases y with
  | non => cases ry; exact PySem.EqNone.eq_bool_none (qY I q (by simp))
  | bl j => cases ry; exact eq_bool (qY I q qiO)
  | str j => obtain ⟨t', rfl⟩ := ry; exact PySem.EqMixed.eq_bool_str (qY I q (by simp))
  | _ => exact absurd (show false = true from hs) Bool.false_ne_true
 | int i =>
  obtain ⟨t, rfl⟩ := rx
  cases y with
  | non => cases ry; exact PySem.EqNone.eq_int_none (qY I q (by simp))
  | int j => obtain ⟨t', rfl⟩ := ry; exact eq_int (qY I q qfT)
  | str j => obtain ⟨t', rfl⟩ := ry; exact PySem.EqMixed.eq_int_str (qY I q (by simp))
  | _ => exact absurd (show false = true from hs) Bool.false_ne_true
 | str i =>
  obtain ⟨t, rfl⟩ := rx
  cases y with
  | non => cases ry; exact PySem.EqNone.eq_str_none (qY I q (by simp))
  | bl j => cases ry; exact PySem.EqMixed.eq_str_bool (qY I q (by simp))
  | int j => obtain ⟨t', rfl⟩ := ry; exact PySem.EqMixed.eq_str_int (qY I q (by simp))
  | str j => obtain ⟨t', rfl⟩ := ry; exact eq_str (qY I q qfU)
  | _ => exact absurd (show false = true from hs) Bool.false_ne_true
 | byt i =>
  obtain ⟨t, rfl⟩ := rx
  cases y with
  | byt j => obtain ⟨t', rfl⟩ := ry; exact PySem.W.eq_bytes (qY I q qfV)
  | _ => exact absurd (show false = true from hs) Bool.false_ne_true
 | _ => cases y <;> exact absurd (show false = true from hs) Bool.false_ne_true
theorem qnz : OpR X (compareOp .NotEq) rNe := by
 intro pins s Z H x y v u Q I rx ry h
 obtain ⟨hs, q⟩ := h
 cases x with
 | non =>
  cases rx
  cases y with
  | non => cases ry; exact PySem.EqNone.ne_none_none (qY I q (by simp))
  | bl j => cases ry; exact PySem.EqNone.ne_none_bool (qY I q (by simp))
  | int j => obtain ⟨t', rfl⟩ := ry; exact PySem.EqNone.ne_none_int (qY I q (by simp))
  | str j => obtain ⟨t', rfl⟩ := ry; exact PySem.EqNone.ne_none_str (qY I q (by simp))
  | _ => exact absurd (show false = true from hs) Bool.false_ne_true
 | bl i =>
  cases rx
  cases y with
  | non => cases ry; exact PySem.EqNone.ne_bool_none (qY I q (by simp))
  | bl j => cases ry; exact ne_bool (qY I q (congrArg not qiO))
  | str j => obtain ⟨t', rfl⟩ := ry; exact PySem.EqMixed.ne_bool_str (qY I q (by simp))
  | _ => exact absurd (show false = true from hs) Bool.false_ne_true
 | int i =>
  obtain ⟨t, rfl⟩ := rx
  cases y with
  | non => cases ry; exact PySem.EqNone.ne_int_none (qY I q (by simp))
  | int j => obtain ⟨t', rfl⟩ := ry; exact ne_int (qY I q (congrArg not qfT))
  | str j => obtain ⟨t', rfl⟩ := ry; exact PySem.EqMixed.ne_int_str (qY I q (by simp))
  | _ => exact absurd (show false = true from hs) Bool.false_ne_true
 | str i =>
  obtain ⟨t, rfl⟩ := rx
  cases y with
  | non => cases ry; exact PySem.EqNone.ne_str_none (qY I q (by simp))
  | bl j => cases ry; exact PySem.EqMixed.ne_str_bool (qY I q (by simp))
  | int j => obtain ⟨t', rfl⟩ := ry; exact PySem.EqMixed.ne_str_int (qY I q (by simp))
  | str j => obtain ⟨t', rfl⟩ := ry; exact ne_str (qY I q (congrArg not qfU))
  | _ => exact absurd (show false = true from hs) Bool.false_ne_true
 | byt i =>
  obtain ⟨t, rfl⟩ := rx
  cases y with
  | byt j => obtain ⟨t', rfl⟩ := ry; exact PySem.W.ne_bytes (qY I q (congrArg not qfV))
  | _ => exact absurd (show false = true from hs) Bool.false_ne_true
 | _ => cases y <;> exact absurd (show false = true from hs) Bool.false_ne_true
theorem qnA : OpR X (compareOp .Lt) (rI0 fun i j => .bl (decide (i < j))) := qm8 fun _ _ _ _ _ _ _ q => lt_int q
theorem qfW : OpR X (compareOp .LtE) (rI0 fun i j => .bl (decide (i <= j))) := qm8 fun _ _ _ _ _ _ _ q => le_int q
theorem qcN : OpR X (compareOp .Gt) (rI0 fun i j => .bl (decide (j < i))) := qm8 fun _ _ _ _ _ _ _ q => gt_int q
theorem qnB : OpR X (compareOp .GtE) (rI0 fun i j => .bl (decide (j <= i))) := qm8 fun _ _ _ _ _ _ _ q => ge_int q
theorem qeo : OpR X (compareOp .Is) (fun x y H Q => y = .non /\ Q (.bl (decide (x = .non))) H) := by
 intro pins s Z H x y v u Q I rx ry h
 obtain ⟨rfl, q⟩ := h
 cases ry
 refine is_none_gen (qY I q ?_)
 cases x <;> first
  | (cases rx; rfl)
  | (obtain ⟨t, rfl⟩ := rx; rfl)
theorem qfX : OpR X (compareOp .IsNot) (fun x y H Q => y = .non /\ Q (.bl (!decide (x = .non))) H) := by
 intro pins s Z H x y v u Q I rx ry h
 obtain ⟨rfl, q⟩ := h
 cases ry
 refine isnot_none_gen (qY I q ?_)
 cases x <;> first
  | (cases rx; rfl)
  | (obtain ⟨t, rfl⟩ := rx; rfl)
theorem OpR.or {f : Value -> Value -> Sem Value} {r r' : R2} (h : OpR X f r) (h' : OpR X f r') : OpR X f (fun x y H Q => r x y H Q \/ r' x y H Q) := by
 intro pins s Z H x y v u Q I rx ry q
 rcases q with q | q
 ·exact h pins s Z H x y v u Q I rx ry q
 ·exact h' pins s Z H x y v u Q I rx ry q
theorem qK (b : Expr) {op : CmpOp} (h : op ≠ .In := by decide) (h2 : op ≠ .NotIn := by decide) : behindInMarks op b = false := by
 have e1 : (op == CmpOp.In) = false := by cases op <;> first | rfl | exact absurd rfl h
 have e2 : (op == CmpOp.NotIn) = false := by cases op <;> first | rfl | exact absurd rfl h2
 cases b <;> simp [behindInMarks, e1, e2]
theorem qjK {op : CmpOp} {r : R2} (ho : OpR X (compareOp op) r) (ha : PE X a ta) (hb : PE X b tb) (hm : behindInMarks op b = false) : PE X (.Compare a [op] [b] pos) (tOp r ta tb) := by
 intro pins s Z H Q I h
 exact wpAny_Compare1 (qnv ha hb I h fun v u s2 x y H2 I2 rx ry q => ho pins s2 Z H2 x y v u Q I2 rx ry q) hm
def qnC (t : TE) : TT := fun Z H Q => t Z H fun x H' => ∃ k, x = .bl k /\ Q k H'
theorem qfY {op : CmpOp} {r : R2} (ho : OpR X (compareOp op) r) (ha : PE X a ta) (hb : PE X b tb) (hm : behindInMarks op b = false) : PT X (.Compare a [op] [b] pos) (qnC (tOp r ta tb)) := by
 intro pins s Z H Q I h
 refine wpAny_isTrue_Compare1 (thn (ha pins s Z H _ I h) fun v s1 ⟨x, H1, I1, r1, q1⟩ => thn (hb pins s1 Z H1 _ I1 q1) fun u s2 ⟨y, H2, I2, r2, q2⟩ =>
  thn (ho pins s2 Z H2 x y v u _ I2 r1 r2 q2) fun c s3 ⟨z, H3, I3, r3, k, e, q3⟩ => ?_) hm
 subst e
 cases r3
 exact wpAny_truthy_bool ⟨H3, I3, q3⟩
theorem qaW : (sizeLine : Nat) < 2 ^ 63 := by rw [sizeLine_eq]; decide
theorem qfg : OpR X (binaryOp .Add) (fun x y H Q => ∃ i j, x = .str i /\ y = .str j /\ i.length + j.length <= sizeLine /\ Q (.str (i ++ j)) H) := by
 intro pins s Z H x y v u Q I rx ry h
 obtain ⟨i, j, rfl, rfl, hz, q⟩ := h
 obtain ⟨t, rfl⟩ := rx
 obtain ⟨t', rfl⟩ := ry
 exact add_str (fun t' tk => ⟨.str (i ++ j), H, I.tok _, ⟨_, rfl⟩, q⟩) hz
theorem qhG {x : V} {us : List Value} (r : zg [x] us) : ∃ u, us = [u] /\ jN x u := by
 cases r with
 | cons r1 r2 => cases r2; exact ⟨_, rfl, r1⟩
theorem qjL {x y : V} {us : List Value} (r : zg [x, y] us) : ∃ u w', us = [u, w'] /\ jN x u /\ jN y w' := by
 cases r with
 | cons r1 r2 =>
  cases r2 with
  | cons r3 r4 => cases r4; exact ⟨_, _, rfl, r1, r3⟩
theorem qhH : ut X (.builtin "abs") (fun xs H Q => ∃ i, xs = [.int i] /\ Q (.int (if i < 0 then -i else i)) H) := by
 intro pins s Z H xs us Q I r h
 obtain ⟨i, rfl, q⟩ := h
 obtain ⟨u, rfl, t, rfl⟩ := qhG r
 exact call_abs_int fun u tk => ⟨.int (if i < 0 then -i else i), H, I.tok _, ⟨_, rfl⟩, q⟩
theorem qfZ (hc : X.calm = true) : ut X (.builtin "max") (fun xs H Q => ∃ i j, xs = [.int i, .int j] /\ Q (.int (if j > i then j else i)) H) := by
 intro pins s Z H xs us Q I r h
 obtain ⟨i, j, rfl, q⟩ := h
 obtain ⟨u, w', rfl, ⟨t, rfl⟩, ⟨t', rfl⟩⟩ := qjL r
 refine max_two_ints (I.ok.hd hc) fun h' tk k => ⟨_, H, I.kept k, ?_, q⟩
 by_cases hj : j > i
 ·rw [if_pos hj, if_pos hj]; exact ⟨_, rfl⟩
 ·rw [if_neg hj, if_neg hj]; exact ⟨_, rfl⟩
theorem qcO (hc : X.calm = true) : ut X (.builtin "min") (fun xs H Q => ∃ i j, xs = [.int i, .int j] /\ Q (.int (if j < i then j else i)) H) := by
 intro pins s Z H xs us Q I r h
 obtain ⟨i, j, rfl, q⟩ := h
 obtain ⟨u, w', rfl, ⟨t, rfl⟩, ⟨t', rfl⟩⟩ := qjL r
 refine min_two_ints (I.ok.hd hc) fun h' tk k => ⟨_, H, I.kept k, ?_, q⟩
 by_cases hj : j < i
 ·rw [if_pos hj, if_pos hj]; exact ⟨_, rfl⟩
 ·rw [if_neg hj, if_neg hj]; exact ⟨_, rfl⟩
theorem qdL : ut X (.builtin "divmod") (fun xs H Q => ∃ i j, xs = [.int i, .int j] /\ qlB i j /\ ∀ p, H p = none -> Q (.ref p) (upd H p (.tup [.int (i / j), .int (i % j)]))) := by
 intro pins s Z H xs us Q I r h
 obtain ⟨i, j, rfl, ⟨h1, h2⟩, q⟩ := h
 obtain ⟨u, w', rfl, ⟨t, rfl⟩, ⟨t', rfl⟩⟩ := qjL r
 refine divmod_int (by omega) ?_ (.inl (qoj h1 h2))
 rw [Int.fdiv_eq_ediv_of_nonneg i (by omega), Int.fmod_eq_emod_of_nonneg i (by omega)]
 have hn : H s.heap.objs.size = none := I.hok.fresh (Nat.le_refl _)
 refine ⟨.ref s.heap.objs.size, _, ?_, rfl, q _ hn⟩
 refine I.laid (fun b o e => Heap.get?_push_of_some _ e) (Nat.le_refl _) ⟨by simp only [lC_, lN_]; rw [sizeLine_eq]; decide, [.int (i / j) s.toks, .int (i % j) (s.toks + 1)], .cons ⟨_, rfl⟩ (.cons ⟨_, rfl⟩ .nil), ?_⟩
 exact ⟨_, Heap.get?_push_size s.heap rfl, rfl, 0, rfl⟩
end
end L2
namespace L2
open PySem PySem.Spec PyProof.Rows
structure qnD (h : Heap) (x dx C : Addr) (mA : Str -> Option Value) : Prop where
 obj : h.get? x = some (PySem.W.instObj C dx)
 ns : h.Ns1 dx mA
 ne : dx ≠ x
theorem qf0 {h : Heap} {dx : Addr} {mA : Str -> Option Value} (n : h.Ns1 dx mA) : ∃ od, h.get? dx = some od /\ ∀ name, PySem.W.lookIn name od = some (mA name) := by
 obtain ⟨o, es, ep, ho, hd, hk, _, hm⟩ := n
 refine ⟨o, ho, fun name => ?_⟩
 have e := hm name
 unfold nsFind findBy at e
 rw [<- Array.find?_toList] at e
 unfold PySem.W.lookIn
 rw [hd]
 dsimp only
 split
 ·rename_i y q
  rw [q] at e
  exact congrArg some e
 ·rename_i q
  rw [q] at e
  have a : es.toList.any (·.refKey) = false := by
   rw [List.any_eq_false]
   intro y hy
   obtain ⟨z, t, hkey⟩ := hk y (Array.mem_toList_iff.mp hy)
   simp [DictEntry.refKey, hkey]
  have a' : ¬ es.toList.any (·.refKey) = true := by rw [a]; exact Bool.false_ne_true
  rw [if_neg a']
  exact congrArg some e
theorem qnD.look {h : Heap} {x dx C : Addr} {mA : Str -> Option Value} (I : qnD h x dx C mA) : ∃ od, PySem.W.InstAt h x (PySem.W.instObj C dx) C (some od) /\ ∀ name, PySem.W.lookIn name od = some (mA name) :=
 let ⟨od, ho, hl⟩ := qf0 I.ns
 ⟨od, ⟨I.obj, rfl, rfl, ho⟩, hl⟩
section
variable {prog : Program} {w : World} {A : Around} {E : Value -> Shared -> Prop} {s : Shared} {K : PySem.W.Frag} {x dx C f : Addr} {mA : Str -> Option Value} {name : Str} {v : Value}
end
def qoT (f : Str) (v : V) : List (Str × V) -> List (Str × V)
 | [] => [(f, v)]
 | (g, x) :: r => if g = f then (g, v) :: r else (g, x) :: qoT f v r
section
variable {P : Program} {w : World} {H H' : Hp} {h h' : Heap} {a C dx : Addr} {fs fs' : List (Str × V)}
theorem qjM (hok : HOk P w H h) (e : H a = some (.ins C dx fs)) : ∃ mA, qnD h a dx C mA /\ (∀ f, qnj (fs.lookup f) (mA f)) /\ PySem.Within mA (fs.map (·.1)) /\ fs.length <= 1000 /\ H dx = some (.own a) := by
 obtain ⟨d, z, ne, ob, mA, n, r, q⟩ := (show yU P w H h a (.ins C dx fs) from hok a _ e)
 exact ⟨mA, ⟨ob, n, ne⟩, r, q, z, d⟩
end
structure Cls (K : PySem.W.Frag) (C : Addr) : Prop where
 pg : PySem.W.plainGet K C Str.empty = true
 hd : PySem.W.hasDictIn K C = true
 po : PySem.W.plainOver K C = true
 sa : PySem.W.findIn K (.ref C) "__setattr__" = some (some (.builtin "object.__setattr__"))
theorem Cls.get {K : PySem.W.Frag} {C : Addr} (c : Cls K C) (f : Str) : PySem.W.plainGet K C f = true := c.pg
structure Con (K : PySem.W.Frag) (C : Addr) (f : Str) (v : V) (u : Value) : Prop where
 at_ : PySem.W.findIn K (.ref C) f = some (some u)
 rel : jN v u
 get : PySem.W.specialIn K u "__get__" = some none
 cp : PySem.W.copiedNames.contains f = false
structure qpn (K : PySem.W.Frag) (C : Addr) (m : Str) (f : Addr) : Prop where
 at_ : PySem.W.findIn K (.ref C) m = some (some (.ref f))
 fn : PySem.W.isFn K (.ref f) = true
 kp : PySem.W.keepIn K (.ref f) = true
section
variable {X : Cx} {pins : List (Addr × Obj)} {Z : St} {H : Hp} {s : Shared} {a C dx : Addr} {fs : List (Str × V)} {f : Str} {v : V} {A : Around} {E : Value -> Shared -> Prop}
end
section
variable {X : Cx} {o e value : Expr} {f : Str} {pos pos' tpos : Pos} {ta tv : TE}
end
section
variable {X : Cx} {pins : List (Addr × Obj)} {Z : St} {H : Hp} {s : Shared} {A : Around} {E : Value -> Shared -> Prop} {Q : Value -> Shared -> Prop} {c : Value} {b : Bool}
inductive qfM (K : PySem.W.Frag) (H : Hp) : V -> Value -> Prop where
 | non : qfM K H .non (.type "NoneType")
 | bl (x : Bool) : qfM K H (.bl x) (.type "bool")
 | int (i : Int) : qfM K H (.int i) (.type "int")
 | str (x : Str) : qfM K H (.str x) (.type "str")
 | flt (x : UInt64) : qfM K H (.flt x) (.type "float")
 | lst {a : Addr} {xs : List V} (e : H a = some (.lst xs)) : qfM K H (.ref a) (.type "list")
 | frz {a : Addr} {o : Obj} {xs : List V} (e : H a = some (.frz o (.lst xs))) : qfM K H (.ref a) (.type "list")
 | tup {a : Addr} {xs : List V} (e : H a = some (.tup xs)) : qfM K H (.ref a) (.type "tuple")
 | dK {a : Addr} {kvs : List (Key × V)} (e : H a = some (.dK kvs)) : qfM K H (.ref a) (.type "dict")
 | dT {a : Addr} {kvs : List (List Key × V)} (e : H a = some (.dT kvs)) : qfM K H (.ref a) (.type "dict")
 | ins {a C dx : Addr} {fs : List (Str × V)} (e : H a = some (.ins C dx fs)) (cl : Cls K C) (ha : PySem.W.findIn K (.ref C) "__class__" = some (some (.builtin "object.__class__")))
   (hn : PySem.W.specialIn K (.builtin "object.__class__") "__get__" = some (some (.builtin "getset_descriptor.__get__"))) (htk : PySem.W.takesIn K (.builtin "object.__class__") = some true)
   (hm : PySem.W.mroIn K C (.type "object") = some true) : qfM K H (.ref a) (.ref C)
theorem uC {x : V} {u t : Value} (I : Inv X pins Z H s) (rx : jN x u) (ty : qfM X.K H x t) (e : PySem.W.kitOne X.K t c = some b) (h : ∀ tk, Q (.bool b) { s with toks := tk }) :
  wpAny (model X.prog X.w) A (call (.builtin "isinstance") [u, c]) Q E s := by
 cases ty with
 | non => cases (show u = Value.none from rx); exact PySem.W.kia_one PySem.W.kitx_none I.kIn True.intro e (fun z => nomatch z) h
 | bl y => cases (show u = Value.bool y from rx); exact PySem.W.kia_one PySem.W.kitx_bool I.kIn True.intro e (fun z => nomatch z) h
 | int i => obtain ⟨t, q⟩ := (show ∃ t, u = Value.int i t from rx); cases q; exact PySem.W.kia_one PySem.W.kitx_int I.kIn True.intro e (fun z => nomatch z) h
 | str y => obtain ⟨t, q⟩ := (show ∃ t, u = Value.str y t from rx); cases q; exact PySem.W.kia_one PySem.W.kitx_str I.kIn True.intro e (fun z => nomatch z) h
 | flt y => obtain ⟨t, q⟩ := (show ∃ t, u = Value.float y t from rx); cases q; exact PySem.W.kia_one PySem.W.kitx_float I.kIn True.intro e (fun z => nomatch z) h
 | @lst a xs ea =>
  cases (show u = Value.ref a from rx)
  obtain ⟨_, _, n, _, h1⟩ := (show yU X.prog X.w H s.heap a (.lst xs) from I.hok a _ ea)
  exact PySem.W.kia_one PySem.W.kitx_list I.kIn ⟨_, h1, rfl⟩ e (fun z => nomatch z) h
 | @frz a ob xs ea =>
  cases (show u = Value.ref a from rx)
  obtain ⟨_, _, _, n, _, h1⟩ := (show yU X.prog X.w H s.heap a (.frz ob (.lst xs)) from I.hok a _ ea)
  exact PySem.W.kia_one PySem.W.kitx_list I.kIn ⟨_, h1, rfl⟩ e (fun z => nomatch z) h
 | @tup a xs ea =>
  cases (show u = Value.ref a from rx)
  obtain ⟨_, _, _, p⟩ := (show yU X.prog X.w H s.heap a (.tup xs) from I.hok a _ ea)
  obtain ⟨o, h1, h2, _⟩ := p
  exact PySem.W.kia_one PySem.W.kitx_tuple I.kIn ⟨o, h1, h2⟩ e (fun z => nomatch z) h
 | @dK a kvs ea =>
  cases (show u = Value.ref a from rx)
  obtain ⟨_, _, vs, _, p⟩ := (show yU X.prog X.w H s.heap a (.dK kvs) from I.hok a _ ea)
  obtain ⟨o, es, ep, h1, h2, _⟩ := p
  exact PySem.W.kia_one PySem.W.kitx_dict I.kIn ⟨o, h1, h2.1⟩ e (fun z => nomatch z) h
 | @dT a kvs ea =>
  cases (show u = Value.ref a from rx)
  obtain ⟨_, _, xs, _, o, es, ep, h1, h2, _⟩ := (show yU X.prog X.w H s.heap a (.dT kvs) from I.hok a _ ea)
  exact PySem.W.kia_one PySem.W.kitx_dict I.kIn ⟨o, h1, h2.1⟩ e (fun z => nomatch z) h
 | @ins a C dx fs ea cl ha hn htk hm =>
  cases (show u = Value.ref a from rx)
  obtain ⟨mA, O, _⟩ := qjM I.hok ea
  obtain ⟨od, J, _⟩ := O.look
  exact PySem.W.kia_one (PySem.W.kitx_own (cl.get _) cl.hd ha hn htk hm) I.kIn J e (fun z => nomatch z) h
end
end L2
namespace L2
open PySem PySem.Spec PyProof.Rows
structure vn (k : Nat) (A : Around) : Prop where
 hd : A.handled = none
 dp : A.depth + 3 * k + 5 < recursionLimit
 un : A.units + 16 * k + 200 < cLine
 gd : A.guards = some []
theorem vn.mono {j k : Nat} {A : Around} (r : vn k A) (h : j <= k) : vn j A := ⟨r.hd, by have := r.dp; omega, by have := r.un; omega, r.gd⟩
theorem vn.deeper {k : Nat} {A : Around} (r : vn (k + 1) A) (env : Env) : vn k (A.deeper env) :=
 ⟨r.hd, by have := r.dp; show A.depth + 1 + 3 * k + 5 < _; omega, by have := r.un; show A.units + 3 + 16 * k + 200 < _; omega, r.gd⟩
theorem vn.depth {k : Nat} {A : Around} (r : vn k A) : A.depth < recursionLimit := by have := r.dp; omega
theorem vn.units {k : Nat} {A : Around} (r : vn k A) : A.units + 64 < cLine := by have := r.un; omega
def qok : TA := fun _ H Q => Q [] H
def qlG (ta : TE) (tr : TA) : TA := fun Z H Q => ta Z H fun x H1 => tr Z H1 fun xs H2 => Q (x :: xs) H2
section
variable {X : Cx} {e : Expr} {es : List Expr} {te : TE} {t : TA} {pos : Pos}
theorem qaX : PA X [] qok := fun _ _ _ _ H Q I h => Calls.spliced_nil ⟨[], H, I, .nil, h⟩
theorem uu (ha : PE X e te) (hr : PA X es t) (hs : starEach (e :: es) X.env = (false, eval e X.env) :: starEach es X.env := by rfl) : PA X (e :: es) (qlG te t) := by
 intro pos pins s Z H Q I h
 rw [hs]
 show wpAny _ _ (spliced ((false, eval e X.env) :: backTo pos (starEach es X.env))) _ _ s
 refine Calls.spliced_cons (thn (ha pins s Z H _ I h) fun u s1 ⟨x, H1, I1, r1, q1⟩ => ?_)
 exact thn (hr pos pins s1 Z H1 _ I1 q1) fun us s2 ⟨xs, H2, I2, r2, q2⟩ => ⟨x :: xs, H2, I2, .cons r1 r2, q2⟩
def qoU (t : TA) : TE := fun Z H Q => t Z H fun xs H1 => xs.length <= sizeLine /\ ∀ p, H1 p = none -> Q (.ref p) (upd H1 p (.tup xs))
def qoV (t : TA) : TE := fun Z H Q => t Z H fun xs H1 => xs.length <= sizeLine /\ ∀ p, H1 p = none -> Q (.ref p) (upd H1 p (.lst xs))
theorem qlH {x1} (h : PA X es t) : PE X (.Tuple es x1 pos) (qoU t) := by
 intro pins s Z H Q I hq
 refine wpAny_Tuple_spliced (thn (h pos pins s Z H _ I hq) fun us s1 ⟨xs, H1, I1, r, z, q⟩ => ⟨by rw [<- r.length]; exact z, ?_⟩)
 have hf : H1 s1.heap.objs.size = none := I1.hok.fresh (Nat.le_refl _)
 refine ⟨.ref s1.heap.objs.size, upd H1 s1.heap.objs.size (.tup xs), I1.laid (t' := s1.toks) (fun b u e => Heap.get?_push_of_some _ e) (Nat.le_refl _) ?_, rfl, q _ hf⟩
 exact ⟨z, us, r, ⟨_, Heap.get?_push_size _ rfl, rfl, _, rfl⟩⟩
theorem qf1 (h : PA X es t) : PE X (.List es pos) (qoV t) := by
 intro pins s Z H Q I hq
 refine wpAny_List_spliced (thn (h pos pins s Z H _ I hq) fun us s1 ⟨xs, H1, I1, r, z, q⟩ => ⟨by rw [<- r.length]; exact z, ?_⟩)
 have hf : H1 s1.heap.objs.size = none := I1.hok.fresh (Nat.le_refl _)
 refine ⟨.ref s1.heap.objs.size, upd H1 s1.heap.objs.size (.lst xs), I1.laid (t' := s1.toks) (fun b u e => Heap.get?_push_of_some _ e) (Nat.le_refl _) ?_, rfl, q _ hf⟩
 exact ⟨z, us, 0, r, Heap.get?_push_size _ rfl⟩
end
abbrev Sp := List V -> Hp -> VK -> XK -> Prop
abbrev CXT := List Env -> Hp -> Shared -> XK -> Value -> Shared -> Prop
structure qlI (P : Program) (w : World) (K : PySem.W.Frag) (mg : Str -> Option Value) (base : Heap) (A : Around) (outer : List Env) (s : Shared) (H : Hp) : Prop where
 frames : A.frames = some outer
 mod : Mod K mg base
 bs : ∀ b o, base.get? b = some o -> s.heap.get? b = some o /\ H b = none
 bsz : base.objs.size <= s.heap.objs.size
 funs : s.heap.FunFrames base outer
 frf : ∀ b ∈ frs outer, H b = none
 hok : HOk P w H s.heap
 bare : AllBare s.gens
def CE (outer : List Env) (P : Program) (w : World) (H : Hp) (s : Shared) (Q : VK) (u : Value) (s' : Shared) : Prop :=
 ∃ v H', s'.os = s.os /\ AllBare s'.gens /\ Un (frs outer) [] H H' s.heap s'.heap /\ HOk P w H' s'.heap /\ jN v u /\ Q v H'
def CR (CX : CXT) (outer : List Env) (P : Program) (w : World) (H : Hp) (s : Shared) (Q : VK) (E : XK) (r : Result) (s' : Shared) : Prop :=
 match r with
 | .ok (.ret u) => CE outer P w H s Q u s'
 | .ok _ => False
 | .error e => CX outer H s E e s'
structure qbA (P : Program) (w : World) (K : PySem.W.Frag) (mg : Str -> Option Value) (base : Heap) (CX : CXT) (k : Nat) (f : Addr) (fd : FuncData) (ps : List Str) (sp : Sp) : Prop where
 len : ∀ vs H Q E, sp vs H Q E -> vs.length = ps.length
 run : ∀ (A : Around) (outer : List Env) (s : Shared) (H : Hp) (args : Args) (us : List Value) (vs : List V) (Q : VK) (E : XK), vn k A -> qlI P w K mg base A outer s H -> BindsTo s fd args (ps.zip us) -> zg vs us -> sp vs H Q E ->
  codeAny (model P w) A (.call (.ref f) args) (CR CX outer P w H s Q E) s
section
variable {X : Cx} {pins : List (Addr × Obj)} {Z : St} {H : Hp} {s s' : Shared}
theorem Inv.env0 (I : Inv X pins Z H s) : qlI X.prog X.w X.K X.mg X.base X.A X.stack s H :=
 ⟨I.ok.frames, I.ok.mod, I.bs, Nat.le_trans I.ok.bsz I.sz, I.stack, I.stkFree, I.hok, I.bare⟩
theorem Inv.after {Q : VK} {u : Value} (I : Inv X pins Z H s) (h : CE X.stack X.prog X.w H s Q u s') : EP X pins Z Q u s' := by
 obtain ⟨v, H', os, bare, un, hok, r, q⟩ := h
 obtain ⟨hh, g, d, t, os'⟩ := s'
 obtain rfl : os' = s.os := os
 exact ⟨v, H', I.call (h' := hh) (g' := g) (d' := d) (t' := t) (ch := []) un hok bare (fun b z => absurd z (by simp)), r, q⟩
end
def qnE (sp : Sp) (dvs : List V) (E : XK) (t : TA) : TE := fun Z H Q => t Z H fun vs H1 => sp (vs ++ dvs) H1 Q E
def wj (K : PySem.W.Frag) (fd : FuncData) (ps : List Str) (ds : List Value) : Prop :=
 ∀ (s : Shared) (us : List Value), K.In s.heap -> (us ++ ds).length = ps.length -> BindsTo s fd ⟨us, []⟩ (ps.zip (us ++ ds))
theorem wj.all {K : PySem.W.Frag} {fd : FuncData} {ps : List Str} (h : ∀ us : List Value, us.length = ps.length -> bindArgs fd ⟨us, []⟩ = pure (ps.zip us)) : wj K fd ps [] := fun s us _ hl => by
 rw [List.append_nil] at hl |-
 exact .of_eq (h us hl)
def qaY (CX : CXT) (X : Cx) (E : XK) : Prop := ∀ (pins : List (Addr × Obj)) (Z : St) (H : Hp) (s : Shared) (e : Value) (s' : Shared), Inv X pins Z H s -> CX X.stack H s E e s' -> X.xe e s'
section
variable {X : Cx} {CX : CXT} {k : Nat} {f C : Addr} {fd : FuncData} {ps : List Str} {sp : Sp} {dvs : List V} {ds : List Value} {E : XK} {x m : Str} {p pos apos : Pos} {e o : Expr} {es : List Expr} {ta : TE} {t : TA}
theorem qlJ {pins : List (Addr × Obj)} {Z : St} {H : Hp} {s : Shared} {Q : VK} {us : List Value} {vs : List V} (F : qbA X.prog X.w X.K X.mg X.base CX k f fd ps sp) (hr : vn k X.A) (hb : wj X.K fd ps ds) (hd : zg dvs ds) (hx : qaY CX X E)
  (I : Inv X pins Z H s) (r : zg vs us) (h : sp (vs ++ dvs) H Q E) : wpAny (model X.prog X.w) X.A (call (.ref f) us) (EP X pins Z Q) X.xe s := by
 have r2 : zg (vs ++ dvs) (us ++ ds) := r.append hd
 have hl : (us ++ ds).length = ps.length := by rw [<- r2.length]; exact F.len _ _ _ _ h
 refine wpAny_call (codeAny_mono (F.run X.A X.stack s H ⟨us, []⟩ (us ++ ds) (vs ++ dvs) Q E hr I.env0 (hb s us I.kIn hl) r2 h) fun r s' hq => ?_)
 cases r with
 | error e => exact hx pins Z H s e s' I hq
 | ok fl =>
  cases fl with
  | ret u => exact I.after hq
  | next => exact False.elim hq
  | brk => exact False.elim hq
  | cont => exact False.elim hq
theorem qb3 (F : qbA X.prog X.w X.K X.mg X.base CX k f fd ps sp) (hr : vn k X.A) (hg : Gl X x) (hm : X.mg x = some (.ref f)) (hk : PySem.W.keepIn X.K (.ref f) = true) (hb : wj X.K fd ps ds) (hd : zg dvs ds) (hx : qaY CX X E)
  (ha : PA X (e :: es) t) (hdb : (x == ("__debug__" : Str)) = false := by decide) (he : starEach (e :: es) X.env = (false, eval e X.env) :: starEach es X.env := by rfl) (hpl : (backTo pos (starEach es X.env)).any (·.1) = false := by rfl) :
  PE X (.Call (.Name x p) (e :: es) [] pos) (qnE sp dvs E t) := by
 intro pins s Z H Q I h
 refine wpAny_Call_Name_kw (qdK I hg hm ?_ hdb)
 refine PySem.W.callWith_K (h₀ := X.base) I.ok.mod.kin hk (thn (ha pos pins s Z H _ I h) fun us s1 ⟨vs, H1, I1, r, q⟩ => ⟨I1.kIn, ?_⟩) he hpl
 exact qlJ F hr hb hd hx I1 r q
structure Mk (K : PySem.W.Frag) (C f : Addr) : Prop where
 makes : PySem.W.makesIn K C = true
 init : PySem.W.findIn K (.ref C) "__init__" = some (some (.ref f))
 fn : PySem.W.isFn K (.ref f) = true
 kp : PySem.W.keepIn K (.ref C) = true
end
def PK (X : Cx) (kws : List Keyword) (t : TA) : Prop :=
 ∀ (pos : Pos) (pins : List (Addr × Obj)) (s : Shared) (Z : St) (H : Hp) (Q : List V -> Hp -> Prop), Inv X pins Z H s -> t Z H Q -> wpAny (model X.prog X.w) X.A (evalAll ((backToKw pos (keywordEach kws X.env)).map (·.2))) (AP X pins Z Q) X.xe s
section
variable {X : Cx} {CX : CXT} {k : Nat} {f C : Addr} {fd : FuncData} {ps ks : List Str} {sp : Sp} {E : XK} {x m : Str} {p pos apos kpos : Pos} {e o : Expr} {es : List Expr} {kws : List Keyword} {te ta : TE} {t tk : TA} {nm : Option Str}
theorem qlK : PK X [] qok := fun _ _ _ _ H Q I h => wpAny_evalAll_nil ⟨[], H, I, .nil, h⟩
theorem qjN (ha : PE X e te) (hr : PK X kws t) : PK X (⟨nm, e, kpos⟩ :: kws) (qlG te t) := by
 intro pos pins s Z H Q I h
 show wpAny _ _ (evalAll ((do let v <- eval e X.env; standAt pos; pure v) :: (backToKw pos (keywordEach kws X.env)).map (·.2))) _ _ s
 refine wpAny_evalAll_cons (wpAny_bind (thn (ha pins s Z H _ I h) fun u s1 ⟨x, H1, I1, r1, q1⟩ => wpAny_bind (wpAny_standAt (wpAny_pure ?_))))
 exact thn (hr pos pins s1 Z H1 _ I1 q1) fun us s2 ⟨xs, H2, I2, r2, q2⟩ => ⟨x :: xs, H2, I2, .cons r1 r2, q2⟩
variable {g : List Value -> List Value -> List Value} {gV : List V -> List V -> List V}
end
structure qs (N P : List Str) (sc : Scope) : Prop where
 kind : sc.kind = .function
 co : sc.isCoroutine = false
 gen : sc.isGenerator = false
 nd : N.Nodup
 pre : N.take P.length = P
 par : ∀ x ∈ P, sc.names.lookup x = some .local \/ sc.names.lookup x = some .cell
 nofree : ∀ y ∈ sc.names, y.2 ≠ .free
theorem qcP {kindOf : Str -> Option NameKind} {x : Str} : ∀ {binds : List (Str × Value)} {m : Str -> Option Value}, (∀ v, (x, v) ∉ binds) -> bindL kindOf binds m x = m x
 | [], _, _ => rfl
 | (n, v) :: r, m, h => by
  unfold bindL
  rw [qcP fun w hw => h w (mM _ hw)]
  split
  ·have : x ≠ n := by rintro rfl; exact h v mS_
   simp [this]
  ·rfl
theorem qcQ {kindOf : Str -> Option NameKind} {x : Str} : ∀ {binds : List (Str × Value)} {m : Str -> Option Value}, (∀ v, (x, v) ∉ binds) -> bindC kindOf binds m x = m x
 | [], _, _ => rfl
 | (n, v) :: r, m, h => by
  unfold bindC
  rw [qcQ fun w hw => h w (mM _ hw)]
  split
  ·rfl
  ·have : x ≠ n := by rintro rfl; exact h v mS_
   simp [this]
theorem qcR {kindOf : Str -> Option NameKind} {x : Str} {v : Value} : ∀ {P : List Str} {vs : List Value} {i : Nat} {m : Str -> Option Value}, P.Nodup -> P[i]? = some x -> vs[i]? = some v -> kindOf x = some .local ->
  bindL kindOf (P.zip vs) m x = some v
 | [], _, _, _, _, h, _, _ => by simp at h
 | _ :: _, [], _, _, _, _, h, _ => by simp at h
 | p :: P, w :: vs, 0, m, nd, h1, h2, hk => by
  simp at h1 h2; subst h1; subst h2
  show bindL kindOf ((p, w) :: P.zip vs) m p = _
  unfold bindL
  rw [qcP fun v hv => (List.nodup_cons.mp nd).1 (List.of_mem_zip hv).1, if_pos hk]
  simp
 | p :: P, w :: vs, i + 1, m, nd, h1, h2, hk => by
  show bindL kindOf ((p, w) :: P.zip vs) m x = _
  unfold bindL
  exact qcR (i := i) (List.nodup_cons.mp nd).2 (by simpa using h1) (by simpa using h2) hk
theorem qcS {kindOf : Str -> Option NameKind} {x : Str} {v : Value} : ∀ {P : List Str} {vs : List Value} {i : Nat} {m : Str -> Option Value}, P.Nodup -> P[i]? = some x -> vs[i]? = some v -> kindOf x ≠ some .local ->
  bindC kindOf (P.zip vs) m x = some v
 | [], _, _, _, _, h, _, _ => by simp at h
 | _ :: _, [], _, _, _, _, h, _ => by simp at h
 | p :: P, w :: vs, 0, m, nd, h1, h2, hk => by
  simp at h1 h2; subst h1; subst h2
  show bindC kindOf ((p, w) :: P.zip vs) m p = _
  unfold bindC
  rw [qcQ fun v hv => (List.nodup_cons.mp nd).1 (List.of_mem_zip hv).1, if_neg hk]
  simp
 | p :: P, w :: vs, i + 1, m, nd, h1, h2, hk => by
  show bindC kindOf ((p, w) :: P.zip vs) m x = _
  unfold bindC
  exact qcS (i := i) (List.nodup_cons.mp nd).2 (by simpa using h1) (by simpa using h2) hk
def z4 (N : List Str) (vs : List V) : St := vs.map some ++ List.replicate (N.length - vs.length) none
def qhI (CX : CXT) (P : Program) (w : World) (K : PySem.W.Frag) (mg : Str -> Option Value) (base : Heap) (N : List Str) (qual : Str) (scope : Scope) (f : Addr) (cd : Value) (A : Around) (outer : List Env) (s : Shared) (H : Hp) (E : XK) : Cx where
 prog := P
 w := w
 K := K
 mg := mg
 base := base
 A := A.deeper (envOfC qual scope s.heap.objs.size f cd)
 N := N
 s₀ := s
 H₀ := H
 env := envOfC qual scope s.heap.objs.size f cd
 outer := outer
 stack := envOfC qual scope s.heap.objs.size f cd :: outer
 ex := []
 calm := true
 fn := fun _ => true
 pn := []
 xe := fun e s' => wpAny (model P w) (A.deeper (envOfC qual scope s.heap.objs.size f cd)) (leaving (envOfC qual scope s.heap.objs.size f cd) e) (fun _ s'' => CX outer H s E e s'') (fun e' s'' => CX outer H s E e' s'') s'
theorem qep {sc : Scope} {n : Nat} {x : Str} (h : sc.names.lookup x = some .cell) : ∃ c, (cellsFrom n sc.names []).lookup x = some c := by
 have q := PySem.W.cellsFrom_some sc.names n [] (.inl h)
 exact Option.isSome_iff_exists.mp q
theorem qf2 {CX : CXT} {P : Program} {w : World} {K : PySem.W.Frag} {mg : Str -> Option Value} {base : Heap} {N ps : List Str} {qual : Str} {scope : Scope} {f : Addr} {cd : Value} {A : Around} {outer : List Env} {s s1 : Shared} {H : Hp} {E : XK} {us : List Value} {vs : List V}
  (S : qs N ps scope) (hd : A.handled = none) (e0 : qlI P w K mg base A outer s H) (hl : vs.length = ps.length) (r : zg vs us)
  (x : InCallC s s.heap.objs.size (bindL (envOfC qual scope s.heap.objs.size f cd).kindOf (ps.zip us) fun _ => none) (cellsFrom (s.heap.objs.size + 1) scope.names []) (bindC (envOfC qual scope s.heap.objs.size f cd).kindOf (ps.zip us) fun _ => none) s1) :
  Inv (qhI CX P w K mg base N qual scope f cd A outer s H E) [] (z4 N vs) H s1 := by
 have hpl : ps.length <= N.length := by have := congrArg List.length S.pre; rw [List.length_take] at this; omega
 obtain ⟨h1, tk, rfl, hk⟩ := x.done
 have noA : ∀ b : Addr, b ∉ (qhI CX P w K mg base N qual scope f cd A outer s H E).ex := fun b z => absurd (show b ∈ ([] : List Addr) from z) (by simp)
 refine ⟨⟨e0.mod, S.kind, rfl, rfl, Nat.le_refl _, fun y z c h1 h2 => ?_, fun y hy => ?_, fun y c _ h => ?_, fun _ => hd, Around.frames_deeper e0.frames, .inr ⟨rfl, rfl⟩, fun b z => absurd z (noA b), e0.bs, e0.bsz, fun b _ _ => noA b, fun b z => absurd z (noA b), e0.funs, e0.frf⟩,
  rfl, e0.bare, Un.kept hk, ⟨_, x.toInCall.ns, fun i y v h1 h2 h3 => ?_⟩, fun y c h => ⟨_, x.cell y c h⟩, e0.hok.fresh (Nat.le_refl _), fun y c h => ?_, fun p hp => absurd (show p ∈ ([] : List (Addr × Obj)) from hp) (by simp), e0.hok.kept hk, ?_⟩
 ·exact name_of_addr x.apart (PySem.mem_of_lookup h1) (PySem.mem_of_lookup h2)
 ·have hy : scope.names.lookup y = some .cell \/ scope.names.lookup y = some .free := hy
  rcases hy with hy | hy
  ·exact qep hy
  ·exact absurd rfl (S.nofree _ (PySem.mem_of_lookup hy))
 ·exact Nat.le_of_lt (x.above y c (PySem.mem_of_lookup h))
 ·have hi : i < vs.length := by
   unfold z4 at h2
   by_cases hi : i < vs.length
   ·exact hi
   ·rw [List.getElem?_append_right (by simpa using hi)] at h2
    rw [List.getElem?_replicate] at h2
    split at h2 <;> cases h2
  have ha : vs[i]? = some v := by
   unfold z4 at h2
   rw [List.getElem?_append_left (by simpa using hi), gM_] at h2
   cases e : vs[i]? with
   | none => rw [e] at h2; cases h2
   | some a => rw [e] at h2; cases h2; rfl
  obtain ⟨u, hu, rv⟩ := r.get ha
  have hp : ps[i]? = some y := by
   rw [<- S.pre, List.getElem?_take_of_lt (by omega)]; exact h1
  have ndP : ps.Nodup := by rw [<- S.pre]; exact S.nd.sublist (List.take_sublist _ _)
  refine ⟨u, rv, ?_⟩
  rcases S.par y (List.mem_of_getElem? hp) with k | k
  ·exact .inl ⟨k, qcR ndP hp hu k⟩
  ·obtain ⟨c, e⟩ := qep (n := s.heap.objs.size + 1) k
   refine .inr ⟨.inl k, c, e, ?_⟩
   have q := x.cell y c e
   rw [qcS ndP hp hu (by show scope.names.lookup y ≠ _; rw [k]; decide)] at q
   exact q
 ·exact e0.hok.fresh (Nat.le_of_lt (x.above y c (PySem.mem_of_lookup h)))
 ·unfold z4
  show _ = N.length
  rw [lA_, lM_, List.length_replicate]
  omega
theorem qlL {CX : CXT} {P : Program} {w : World} {K : PySem.W.Frag} {mg : Str -> Option Value} {base : Heap} {k : Nat} {f : Addr} {name qual : Str} {params : Arguments} {body : List Stmt} {scope : Scope} {dV kV doc pm cdv ct oc : Value} {an od : Option Addr}
  {osl : Array (Option Value)} {N ps : List Str} {sp : Sp} (lk : K.lookup f = some ⟨oc, od, .func (PySem.W.fnOf name qual params body scope dV kV doc pm an cdv ct), osl⟩) (hcd : PySem.W.codeIn K cdv qual = true) (S : qs N ps scope)
  (len : ∀ vs H Q E, sp vs H Q E -> vs.length = ps.length)
  (hbody : ∀ (A : Around) (outer : List Env) (s : Shared) (H : Hp) (vs : List V) (Q : VK) (E : XK), vn k (A.deeper (envOfC qual scope s.heap.objs.size f cdv)) -> sp vs H Q E ->
   ∃ t, PSs (qhI CX P w K mg base N qual scope f cdv A outer s H E) body t /\ t { nx := fun _ H' => Q .non H', rt := Q } (z4 N vs) H) :
  qbA P w K mg base CX (k + 1) f (PySem.W.fnOf name qual params body scope dV kV doc pm an cdv ct) ps sp := by
 refine ⟨len, fun A outer s H args us vs Q E hr e0 hb r hsp => ?_⟩
 have hl := len _ _ _ _ hsp
 have KX : K.In s.heap := e0.mod.kin.keeps fun b o e => (e0.bs b o e).1
 have lim : s.heap.NoLimit := e0.mod.nolimit.keeps fun b o e => (e0.bs b o e).1
 have hkind : ∀ y ∈ ps.zip us, scope.names.lookup y.1 = some .local \/ (scope.names.lookup y.1 = some .cell /\ ((cellsFrom (s.heap.objs.size + 1) scope.names []).lookup y.1).isSome = true) := fun ⟨n, v⟩ hy => by
  rcases S.par n (List.of_mem_zip hy).1 with q | q
  ·exact .inl q
  ·exact .inr ⟨q, PySem.W.cellsFrom_some _ _ _ (.inl q)⟩
 refine codeAny_call_function hr.depth (KX _ _ lk) rfl S.co S.gen rfl (PySem.W.codeRec_of KX hcd) (hb _ _ _ _ ?_)
 refine wpAny_newFunctionEnv_cells S.kind hkind fun env he s1 x => ?_
 subst he
 refine ⟨lim.keeps x.toInCall.keep, codeAny_func ?_⟩
 obtain ⟨t, ht, hq⟩ := hbody A outer s H vs Q E (hr.deeper _) hsp
 have I : Inv (qhI CX P w K mg base N qual scope f cdv A outer s H E) [] (z4 N vs) H s1 := qf2 S hr.hd e0 hl r x
 refine wpAny_mono (ht [] s1 (z4 N vs) H _ I hq) (fun fl s' hs => ?_) fun e s' hs => hs
 have fin : ∀ {Z' : St} {H' : Hp} {v : V} {u : Value}, Inv (qhI CX P w K mg base N qual scope f cdv A outer s H E) [] Z' H' s' -> jN v u -> Q v H' -> CE outer P w H s Q u s' :=
  fun {Z' H' v u} J rv q => ⟨v, H', J.os, J.bare, J.base, J.hok, rv, q⟩
 cases fl with
 | ret u =>
  obtain ⟨v, Z', H', J, rv, q⟩ := hs
  exact fin J rv q
 | next =>
  obtain ⟨Z', H', J, q⟩ := hs
  exact fin (v := V.non) (u := Value.none) J rfl q
 | brk =>
  obtain ⟨_, _, _, q⟩ := hs
  exact False.elim q
 | cont =>
  obtain ⟨_, _, _, q⟩ := hs
  exact False.elim q
end L2
namespace L2
open PySem PySem.Spec PyProof.Rows
section
variable {X : Cx} {x : Str} {p pos : Pos} {e : Expr} {es : List Expr} {t : TA} {id T : String} {r : List V -> Hp -> VK -> Prop}
def tCB (r : List V -> Hp -> VK -> Prop) (t : TA) : TE := fun Z H Q => t Z H fun vs H1 => r vs H1 Q
theorem qb4 (hc : ut X (.builtin id) r) (hg : Gl X x) (hm : X.mg x = none) (hv : bootBuiltins x = some (.builtin id)) (ha : PA X (e :: es) t) (hn : x ≠ "__name__" := by decide) (hdb : (x == ("__debug__" : Str)) = false := by decide)
  (he : starEach (e :: es) X.env = (false, eval e X.env) :: starEach es X.env := by rfl) (hpl : (backTo pos (starEach es X.env)).any (·.1) = false := by rfl) : PE X (.Call (.Name x p) (e :: es) [] pos) (tCB r t) := by
 intro pins s Z H Q I h
 refine wpAny_Call_Name_kw (qax I hg hm hv ?_ hn hdb)
 exact PyProof.Rows.callWith_builtin1 (thn (ha pos pins s Z H _ I h) fun us s1 ⟨vs, H1, I1, r1, q1⟩ => hc pins s1 Z H1 vs us Q I1 r1 q1) he hpl
theorem qcT (hc : ut X (.type T) r) (hg : Gl X x) (hm : X.mg x = none) (hv : bootBuiltins x = some (.type T)) (ha : PA X (e :: es) t) (hn : x ≠ "__name__" := by decide) (hdb : (x == ("__debug__" : Str)) = false := by decide)
  (he : starEach (e :: es) X.env = (false, eval e X.env) :: starEach es X.env := by rfl) (hpl : (backTo pos (starEach es X.env)).any (·.1) = false := by rfl) : PE X (.Call (.Name x p) (e :: es) [] pos) (tCB r t) := by
 intro pins s Z H Q I h
 refine wpAny_Call_Name_kw (qax I hg hm hv ?_ hn hdb)
 exact PyProof.Rows.callWith_type1 (thn (ha pos pins s Z H _ I h) fun us s1 ⟨vs, H1, I1, r1, q1⟩ => hc pins s1 Z H1 vs us Q I1 r1 q1) he hpl
end
end L2
namespace HT
open PySem PyProof.Rows
def lexLt : List Int -> List Int -> Bool
 | [], [] => false
 | [], _ :: _ => true
 | _ :: _, [] => false
 | x :: xs, y :: ys => if x = y then lexLt xs ys else decide (x < y)
section
open PySem.SeqAt
open PySem.AutoSeq1 (wpAny_loadPart')
open PySem.MeetsSeq PySem.MeetsSeq2 PySem.MeetsSeq3
end
section
variable {prog : Program} {w : World} {A : Around} {E : Value -> Shared -> Prop} {s : Shared}
theorem cat_tup {t b : Addr} {vs ws : List Value} {Q : Value -> Shared -> Prop} (ht : IsTup s.heap t vs.toArray) (hb : IsTup s.heap b ws.toArray) (hv : vs ≠ [])
  (h1 : ws = [] -> Q (.ref t) s) (h2 : ws ≠ [] -> Q (.ref s.heap.objs.size) { s with heap := s.heap.push { cls := .type "tuple", data := .seq (vs ++ ws).toArray } })
  (hsz : vs.length + ws.length <= sizeLine) : wpAny (model prog w) A (binaryOp .Add (.ref t) (.ref b)) Q E s := by
 obtain ⟨⟨cls, dd, data, sl⟩, ho, hc, n, hd⟩ := id ht
 obtain ⟨⟨cls2, dd2, data2, sl2⟩, ho2, hc2, n2, hd2⟩ := id hb
 simp only at hc hd hc2 hd2
 subst hc hd hc2 hd2
 have e : vs.toArray ++ ws.toArray = (vs ++ ws).toArray := by simp
 by_cases hw : ws = []
 ·exact concat_meets ⟨_, ho, rfl⟩ ⟨_, ho2, rfl⟩ noFill_tuple_add seq_tuple_add PySem.F.slot_tuple_add PySem.F.entry_tuple_add (PySem.F.args_tuple_add_2 _ _)
   (tuple_addW1 t b vs.toArray ws.toArray n n2 dd dd2 sl sl2 (by simpa using hv) (by simp [hw])) ⟨ho, ho2, h1 hw⟩
 ·refine concat_meets ⟨_, ho, rfl⟩ ⟨_, ho2, rfl⟩ noFill_tuple_add seq_tuple_add PySem.F.slot_tuple_add PySem.F.entry_tuple_add (PySem.F.args_tuple_add_2 _ _)
   (tuple_addW2 t b vs.toArray ws.toArray n n2 dd dd2 sl sl2 (by simpa using hv) (by simpa using hw) (by rw [sT_, sT_]; exact hsz)) ⟨ho, ho2, ?_⟩
  rw [e]
  exact h2 hw
def sIx (n d : Nat) : Option Int -> Nat
 | none => d
 | some v => if v < 0 then (v + (n : Int)).toNat else min v.toNat n
end
end HT
namespace L2
open PySem PySem.Spec PyProof.Rows
abbrev TO := St -> Hp -> (Option Int -> Hp -> Prop) -> Prop
theorem qbM {ns : List Int} : ∀ {us : List Value}, zg (ns.map V.int) us -> IntsAre us ns := by
 induction ns with
 | nil => intro us r; rw [List.map_nil] at r; cases r; exact .nil
 | cons n ns ih =>
  intro us r
  rw [mC_] at r
  cases r with
  | cons r1 r2 =>
   obtain ⟨t, e⟩ := r1
   subst e
   exact .cons n t (ih r2)
section
variable {X : Cx} {e : Expr} {te : TE} {lo hi : Option Expr} {tl th : TO} {pos p2 : Pos}
def SlR (X : Cx) (r : V -> Option Int -> Option Int -> Hp -> VK -> Prop) : Prop :=
 ∀ (pins : List (Addr × Obj)) (s : Shared) (Z : St) (H : Hp) (x : V) (v vl vu : Value) (lo hi : Option Int) (sl : Addr) (Q : VK), Inv X pins Z H s -> jN x v -> s.heap.IsSliceOf sl vl vu .none -> IsPart vl lo -> IsPart vu hi -> r x lo hi H Q ->
  ∃ T id, typeLookup (.type T) "__getitem__" = pure (some (.builtin id)) /\ s.TypeIs v T /\ wpAny (model X.prog X.w) X.A (getItem v (.ref sl)) (EP X pins Z Q) X.xe s
theorem SlR.or {r r' : V -> Option Int -> Option Int -> Hp -> VK -> Prop} (h : SlR X r) (h' : SlR X r') : SlR X (fun x lo hi H Q => r x lo hi H Q \/ r' x lo hi H Q) := by
 intro pins s Z H x v vl vu lo hi sl Q I rx hs pl pu q
 rcases q with q | q
 ·exact h pins s Z H x v vl vu lo hi sl Q I rx hs pl pu q
 ·exact h' pins s Z H x v vl vu lo hi sl Q I rx hs pl pu q
def qm9 (xs : List V) (lo hi : Option Int) : List V := (xs.drop (HT.sIx xs.length 0 lo)).take (HT.sIx xs.length xs.length hi - HT.sIx xs.length 0 lo)
theorem qdM (xs : List V) (lo hi : Option Int) : (qm9 xs lo hi).length <= xs.length := by
 unfold qm9
 rw [List.length_take, List.length_drop]
 omega
def qlM (K : PySem.W.Frag) : R2 := fun x y H Q => ∃ a b xs ys, x = .ref a /\ y = .ref b /\ SqT K H a xs /\ SqT K H b ys /\ xs ≠ [] /\ xs.length + ys.length <= sizeLine /\
 (ys = [] -> Q (.ref a) H) /\ (ys ≠ [] -> ∀ p, H p = none -> Q (.ref p) (upd H p (.tup (xs ++ ys))))
theorem zg.nil_iff {xs : List V} {us : List Value} (r : zg xs us) : us = [] ↔ xs = [] := by
 cases r with
 | nil => simp
 | cons _ _ => simp
theorem qjO : OpR X (binaryOp .Add) (qlM X.K) := by
 intro pins s Z H x y v u Q I rx ry h
 obtain ⟨a, b, xs, ys, rfl, rfl, ha, hb, hx, hz, q1, q2⟩ := h
 cases rx
 cases ry
 obtain ⟨its, r1, p1, _⟩ := I.tuple ha
 obtain ⟨its2, r2, p2, _⟩ := I.tuple hb
 refine HT.cat_tup p1 p2 (fun z => hx (r1.nil_iff.mp z)) (fun z => ⟨.ref a, H, I, rfl, q1 (r2.nil_iff.mp z)⟩) (fun z => ?_) (by rw [<- r1.length, <- r2.length]; exact hz)
 refine ⟨.ref s.heap.objs.size, _, I.laid (t' := s.toks) (o := .tup (xs ++ ys)) (fun b ob q => Heap.get?_push_of_some _ q) (Nat.le_refl _) ?_, rfl, q2 (fun w => z (r2.nil_iff.mpr w)) _ (I.hok.fresh (Nat.le_refl _))⟩
 exact ⟨by rw [lA_]; exact hz, _, r1.append r2, IsTup.new _ _⟩
end
end L2
namespace L2
open PySem PySem.Spec PyProof.Rows
def ixN (n : Nat) (i : Int) : Option Nat := if 0 <= i then (if i < n then some i.toNat else none) else if -(n : Int) <= i then some (i + n).toNat else none
def atI {α : Type} (xs : List α) (i : Int) : Option α := (ixN xs.length i).bind fun j => xs[j]?
theorem qf3 {n : Nat} {i : Int} {j : Nat} (h : ixN n i = some j) : seqIndex? i n = some j /\ j < n /\ -(n : Int) <= i /\ i < n := by
 unfold ixN at h
 by_cases h0 : 0 <= i
 ·rw [if_pos h0] at h
  by_cases h1 : i < n
  ·rw [if_pos h1] at h
   have e : i.toNat = j := Option.some.inj h
   exact ⟨by rw [seqIndex_of h0 h1, e], by omega, by omega, h1⟩
  ·rw [if_neg h1] at h; cases h
 ·rw [if_neg h0] at h
  by_cases h1 : -(n : Int) <= i
  ·rw [if_pos h1] at h
   have e : (i + n).toNat = j := Option.some.inj h
   exact ⟨by rw [seqIndex_neg (by omega) h1, e], by omega, h1, by omega⟩
  ·rw [if_neg h1] at h; cases h
theorem qf4 {α : Type} {xs : List α} {i : Int} {v : α} (h : atI xs i = some v) : ∃ j, seqIndex? i xs.length = some j /\ xs[j]? = some v /\ j < xs.length /\ -(xs.length : Int) <= i /\ i < xs.length := by
 unfold atI at h
 cases e : ixN xs.length i with
 | none => rw [e] at h; cases h
 | some j =>
  rw [e] at h
  obtain ⟨h1, h2, h3, h4⟩ := qf3 e
  exact ⟨j, h1, h, h2, h3, h4⟩
def qdN (b : Expr) : Prop := ∀ o i, subscripted b false o i = operate [o, i] (getItem o i)
def IxR (X : Cx) (r : R2) : Prop :=
 ∀ (value slice : Expr) (pins : List (Addr × Obj)) (s : Shared) (Z : St) (H : Hp) (x y : V) (v u : Value) (Q : VK), Inv X pins Z H s -> jN x v -> jN y u -> r x y H Q ->
  subscripted slice false v u = operate [v, u] (getItem v u) -> wpAny (model X.prog X.w) X.A (subscriptTail value slice v u) (EP X pins Z Q) X.xe s
def MtR (X : Cx) (id : String) (r : V -> List V -> Hp -> VK -> Prop) : Prop :=
 ∀ (pins : List (Addr × Obj)) (s : Shared) (Z : St) (H : Hp) (x : V) (xs : List V) (v : Value) (us : List Value) (Q : VK), Inv X pins Z H s -> jN x v -> zg xs us -> r x xs H Q ->
  wpAny (model X.prog X.w) X.A (call (.builtin id) (v :: us)) (EP X pins Z Q) X.xe s
section
variable {X : Cx} {a b : Expr} {ta tb : TE} {pos : Pos}
theorem IxR.or {r r' : R2} (h : IxR X r) (h' : IxR X r') : IxR X (fun x y H Q => r x y H Q \/ r' x y H Q) := by
 intro value slice pins s Z H x y v u Q I rx ry q hs
 rcases q with q | q
 ·exact h value slice pins s Z H x y v u Q I rx ry q hs
 ·exact h' value slice pins s Z H x y v u Q I rx ry q hs
theorem MtR.or {id : String} {r r' : V -> List V -> Hp -> VK -> Prop} (h : MtR X id r) (h' : MtR X id r') : MtR X id (fun x xs H Q => r x xs H Q \/ r' x xs H Q) := by
 intro pins s Z H x xs v us Q I rx rs q
 rcases q with q | q
 ·exact h pins s Z H x xs v us Q I rx rs q
 ·exact h' pins s Z H x xs v us Q I rx rs q
theorem qlN {r : R2} (hr : IxR X r) (ha : PE X a ta) (hb : PE X b tb) (hs : qdN b) : PE X (.Subscript a b pos) (tOp r ta tb) := by
 intro pins s Z H Q I h
 exact Subscript_ (qnv ha hb I h fun v u s2 x y H2 I2 rx ry q => hr a b pins s2 Z H2 x y v u Q I2 rx ry q (hs _ _))
def qnF (K : PySem.W.Frag) : R2 := fun x y H Q => ∃ p xs i v, x = .ref p /\ y = .int i /\ SqL K H p xs /\ atI xs i = some v /\ Q v H
def qnG (K : PySem.W.Frag) : R2 := fun x y H Q => ∃ p xs i v, x = .ref p /\ y = .int i /\ SqT K H p xs /\ atI xs i = some v /\ Q v H
theorem qf5 : IxR X (qnF X.K) := by
 intro value slice pins s Z H x y v u Q I rx ry h hs
 obtain ⟨p, xs, i, z, rfl, rfl, hq, he, q⟩ := h
 cases rx
 obtain ⟨t, rfl⟩ := ry
 obtain ⟨its, r, pl, hz⟩ := I.list hq
 obtain ⟨j, h1, h2, h3, h4, h5⟩ := qf4 he
 obtain ⟨w, ew, rw'⟩ := r.get h2
 have hl := r.length
 have hn := qaW
 have fin : EP X pins Z Q w s := ⟨z, H, I, rw', q⟩
 by_cases h0 : 0 <= i
 ·have hj : i.toNat = j := by
   rw [seqIndex_of h0 h5] at h1
   exact Option.some.inj h1
  exact item_listR pl.isList h0 (by omega) (by rw [hj]; simpa using ew) fin hs
 ·have hj : (i + (its.toArray.size : Int)).toNat = j := by
   rw [seqIndex_neg (by omega) h4] at h1
   rw [sT_, <- hl]
   exact Option.some.inj h1
  exact subscriptTail_builtinR (x := w) pl.isList.typeIs slot_list_getitem.lookup
   (wpAny_getItem_list_neg (Q := fun r s' => r = w /\ EP X pins Z Q r s') pl.isList (by omega) (by rw [sT_] <;> omega) (by omega) (by rw [hj]; simpa using ew) ⟨rfl, fin⟩) hs
theorem qlO : IxR X (qnG X.K) := by
 intro value slice pins s Z H x y v u Q I rx ry h hs
 obtain ⟨p, xs, i, z, rfl, rfl, hq, he, q⟩ := h
 cases rx
 obtain ⟨t, rfl⟩ := ry
 obtain ⟨its, r, pl, hz⟩ := I.tuple hq
 obtain ⟨j, h1, h2, h3, h4, h5⟩ := qf4 he
 obtain ⟨w, ew, rw'⟩ := r.get h2
 have hl := r.length
 have hn := qaW
 have fin : EP X pins Z Q w s := ⟨z, H, I, rw', q⟩
 exact subscriptTail_builtinR (x := w) pl.typeIs slot_tuple_getitem.lookup
  (getItem_tuple (j := j) (Q := fun r s' => r = w /\ EP X pins Z Q r s') pl (by omega) (by omega) (by rw [sT_, <- hl]; exact h1) (by simpa using ew) ⟨rfl, fin⟩) hs
theorem qfh (its : List Value) (n j : Nat) (u : Value) : Obj.mapSeq (·.setIfInBounds j u) { cls := .type "list", data := .seq its.toArray n } = { cls := .type "list", data := .seq (its.set j u).toArray n } := by
 simp [Obj.mapSeq]
theorem Inv.lst {pins : List (Addr × Obj)} {Z : St} {H : Hp} {s : Shared} {p : Addr} {xs : List V} (I : Inv X pins Z H s) (h : H p = some (.lst xs)) :
  ∃ (its : List Value) (n : Nat), zg xs its /\ s.heap.get? p = some { cls := .type "list", data := .seq its.toArray n } /\ xs.length <= sizeLine := by
 obtain ⟨z, its, n, r, e⟩ := I.hok p _ h
 exact ⟨its, n, r, e, z⟩
theorem Inv.lstUpd {pins : List (Addr × Obj)} {Z : St} {H : Hp} {s : Shared} {p : Addr} {xs ys : List V} {its its' : List Value} {n n' : Nat} {f : Obj -> Obj} (I : Inv X pins Z H s) (h : H p = some (.lst xs))
  (ho : s.heap.get? p = some { cls := .type "list", data := .seq its.toArray n }) (hf : f { cls := .type "list", data := .seq its.toArray n } = { cls := .type "list", data := .seq its'.toArray n' }) (r : zg ys its') (hz : ys.length <= sizeLine) (t : Nat) :
  Inv X pins Z (upd H p (.lst ys)) { s with heap := s.heap.update p f, toks := t } := by
 have e : (s.heap.update p f).get? p = some { cls := .type "list", data := .seq its'.toArray n' } := by
  rw [Heap.get?_update_self f ho (by rw [hf] <;> rfl), hf]
 refine I.write (x := p) (e := p) (by rw [h]; trivial) (.inl rfl) (fun b u hb q => (Heap.get?_update_other _ _ (Ne.symm hb)).trans q) ⟨_, e⟩ ?_
 exact ⟨hz, its', n', r, e⟩
def qnH : V -> V -> V -> Hp -> (Hp -> Prop) -> Prop := fun o i v H Q => ∃ p xs k j, o = .ref p /\ i = .int k /\ H p = some (.lst xs) /\ ixN xs.length k = some j /\ Q (upd H p (.lst (xs.set j v)))
theorem qhJ : qog X qnH := by
 intro pins s Z H o i v ov iv u Q I ro ri rv h
 obtain ⟨p, xs, k, j, rfl, rfl, hp, hj, q⟩ := h
 cases ro
 obtain ⟨t, rfl⟩ := ri
 obtain ⟨its, n, r, ho, hz⟩ := I.lst hp
 obtain ⟨h1, h2, h3, h4⟩ := qf3 hj
 have hl := r.length
 have hn := qaW
 have I' : Inv X pins Z (upd H p (.lst (xs.set j v))) { s with heap := s.heap.update p (Obj.mapSeq (·.setIfInBounds j u)) } :=
  I.lstUpd hp ho (qfh its n j u) (r.set rv j) (by rw [lS_]; exact hz) s.toks
 by_cases h0 : 0 <= k
 ·have hk : k.toNat = j := by
   rw [seqIndex_of h0 h4] at h1
   exact Option.some.inj h1
  exact PySem.W.ki_setAt ho h0 (by omega) (by rw [sT_, <- hl]; exact h4) (by rw [hk]; exact ⟨_, I', q⟩)
 ·have hk : (k + (its.toArray.size : Int)).toNat = j := by
   rw [seqIndex_neg (by omega) h3] at h1
   rw [sT_, <- hl]
   exact Option.some.inj h1
  exact PySem.W.ki_setBack ho (by omega) (by rw [sT_, <- hl]; exact h3) (by omega) (by rw [hk]; exact ⟨_, I', q⟩)
theorem qcU (lo hi : Option Int) (n : Nat) : (sliceBounds lo hi none n).1 = ((HT.sIx n 0 lo : Nat) : Int) /\ (sliceBounds lo hi none n).2.1 = ((HT.sIx n n hi : Nat) : Int) /\ (sliceBounds lo hi none n).2.2 = 1 := by
 refine ⟨?_, ?_, rfl⟩
 ·cases lo with
  | none => simp [sliceBounds, HT.sIx]
  | some i =>
   simp only [sliceBounds, HT.sIx, Option.getD_none, show (1 : Int) > 0 by decide, if_true]
   by_cases h : i < 0
   ·simp only [h, if_true] <;> omega
   ·simp only [h, if_false] <;> omega
 ·cases hi with
  | none => simp [sliceBounds, HT.sIx]
  | some i =>
   simp only [sliceBounds, HT.sIx, Option.getD_none, show (1 : Int) > 0 by decide, if_true]
   by_cases h : i < 0
   ·simp only [h, if_true] <;> omega
   ·simp only [h, if_false] <;> omega
theorem qb5 (its : List Value) (lo hi : Option Int) : slicePick its.toArray lo hi none = ((its.drop (HT.sIx its.length 0 lo)).take (HT.sIx its.length its.length hi - HT.sIx its.length 0 lo)).toArray := by
 obtain ⟨h1, h2, h3⟩ := qcU lo hi its.toArray.size
 unfold slicePick
 rw [h1, h2, h3]
 simp only [sliceRange_one, pick_run, sT_] <;> rfl
def qoW (K : PySem.W.Frag) : V -> Option Int -> Option Int -> Hp -> VK -> Prop := fun x lo hi H Q => ∃ a xs, x = .ref a /\ SqL K H a xs /\ ∀ p, H p = none -> Q (.ref p) (upd H p (.lst (qm9 xs lo hi)))
theorem qnI : SlR X (qoW X.K) := by
 intro pins s Z H x v vl vu lo hi sl Q I rx hs pl pu h
 obtain ⟨a, xs, rfl, hx, q⟩ := h
 cases rx
 obtain ⟨its, r, ht, hz⟩ := I.list hx
 have hlen := r.length
 refine ⟨"list", _, slot_list_getitem.lookup, ht.isList.typeIs, ?_⟩
 refine wpAny_getItem_list_slice ht.isList hs pl pu .none (by simp) ?_ (by rw [sT_] <;> omega)
 rw [qb5, <- hlen]
 refine ⟨.ref s.heap.objs.size, _, I.laid (t' := s.toks) (o := .lst (qm9 xs lo hi)) (fun b ob q => Heap.get?_push_of_some _ q) (Nat.le_refl _) ?_, rfl, q _ (I.hok.fresh (Nat.le_refl _))⟩
 exact ⟨Nat.le_trans (qdM xs lo hi) hz, _, 0, (r.drop (HT.sIx xs.length 0 lo)).take (HT.sIx xs.length xs.length hi - HT.sIx xs.length 0 lo), Heap.get?_push_size _ rfl⟩
def qoX : V -> Bool
 | .non => true
 | .bl _ => true
 | .int _ => true
 | .str _ => true
 | _ => false
def eqV : V -> V -> Bool
 | .non, .non => true
 | .bl a, .bl b => a == b
 | .bl a, .int b => (if a then 1 else 0) == b
 | .int a, .bl b => a == (if b then 1 else 0)
 | .int a, .int b => a == b
 | .str a, .str b => a == b
 | _, _ => false
theorem qcV : ut X (.builtin "len") (fun xs H Q => ∃ p ys, xs = [.ref p] /\ (SqL X.K H p ys \/ SqT X.K H p ys) /\ Q (.int ys.length) H) := by
 intro pins s Z H xs us Q I r h
 obtain ⟨p, ys, rfl, hq, q⟩ := h
 obtain ⟨u, rfl, rx⟩ := qhG r
 cases rx
 have hn := qaW
 rcases hq with hq | hq
 ·obtain ⟨its, r', pl, hz⟩ := I.list hq
  have hlen := r'.length
  exact Calls.call_len_list pl.isList (by simp only [sT_] <;> omega) ⟨.int ys.length, H, I.tok _, ⟨s.toks + 1, by rw [sT_, hlen]⟩, q⟩
 ·obtain ⟨its, r', pl, hz⟩ := I.tuple hq
  have hlen := r'.length
  exact len_tuple pl (by simp only [sT_] <;> omega) ⟨.int ys.length, H, I.tok _, ⟨s.toks + 1, by rw [sT_, hlen]⟩, q⟩
theorem qcW : ut X (.builtin "len") (fun xs H Q => ∃ z, xs = [.str z] /\ z.length <= sizeLine /\ Q (.int z.length) H) := by
 intro pins s Z H xs us Q I r h
 obtain ⟨z, rfl, hz, q⟩ := h
 obtain ⟨u, rfl, t, rfl⟩ := qhG r
 have hn := qaW
 exact len_str (by omega) ⟨.int z.length, H, I.tok _, ⟨_, rfl⟩, q⟩
theorem ut.or {f : Value} {r r' : List V -> Hp -> VK -> Prop} (h : ut X f r) (h' : ut X f r') : ut X f (fun xs H Q => r xs H Q \/ r' xs H Q) := by
 intro pins s Z H xs us Q I rs q
 rcases q with q | q
 ·exact h pins s Z H xs us Q I rs q
 ·exact h' pins s Z H xs us Q I rs q
theorem wC : ut X (.type "tuple") (fun xs H Q => ∃ p ys, xs = [.ref p] /\ ((SqL X.K H p ys /\ ∀ l, H l = none -> Q (.ref l) (upd H l (.tup ys))) \/ (SqT X.K H p ys /\ Q (.ref p) H))) := by
 intro pins s Z H xs us Q I r h
 obtain ⟨p, ys, rfl, h⟩ := h
 obtain ⟨u, rfl, rx⟩ := qhG r
 cases rx
 rcases h with ⟨hq, q⟩ | ⟨hq, q⟩
 ·obtain ⟨its, r', pl, hz⟩ := I.list hq
  have hlen := r'.length
  refine call_tuple_list pl.isList (fun h' kp => ?_) (by simp only [sT_] <;> omega)
  have I1 : Inv X pins Z H { s with heap := h' } := I.kept (t' := s.toks) kp
  have I2 : Inv X pins Z (upd H h'.objs.size (.tup ys)) { s with heap := h'.push { cls := .type "tuple", data := .seq its.toArray } } :=
   I1.laid (t' := s.toks) (fun b o e => Heap.get?_push_of_some _ e) (Nat.le_refl _) (show yU X.prog X.w _ _ _ (.tup ys) from ⟨hz, its, r', IsTup.new _ _⟩)
  exact ⟨.ref h'.objs.size, _, I2, rfl, q _ (I1.hok.fresh (Nat.le_refl _))⟩
 ·obtain ⟨its, r', pl, hz⟩ := I.tuple hq
  exact call_tuple_same pl ⟨.ref p, H, I, rfl, q⟩
def tyV (K : PySem.W.Frag) (T : String) (x : V) (H : Hp) : Prop := match x with
 | .str _ => T = "str"
 | .int _ => T = "int"
 | .ref p => (T = "list" /\ ∃ xs, SqL K H p xs) \/ (T = "tuple" /\ ∃ o, K.lookup p = some o /\ o.cls = .type "tuple" /\ o.dict = none) \/
   (T = "dict" /\ ((∃ kvs, H p = some (.dK kvs)) \/ ∃ kvs, H p = some (.dT kvs))) \/ (T = "set" /\ ∃ S n, H p = some (.set S n))
 | _ => False
theorem qlP {pins : List (Addr × Obj)} {Z : St} {H : Hp} {s : Shared} {T : String} {x : V} {v : Value} (I : Inv X pins Z H s) (r : jN x v) (ty : tyV X.K T x H) :
  s.TypeIs v T /\ ∀ a, v = .ref a -> ∃ ob, s.heap.get? a = some ob /\ ob.dict = none := by
 cases x with
 | str z =>
  obtain ⟨t, rfl⟩ := r
  cases (show T = "str" from ty)
  exact ⟨typeIs_str s z t, fun _ e => nomatch e⟩
 | int i =>
  obtain ⟨t, rfl⟩ := r
  cases (show T = "int" from ty)
  exact ⟨typeIs_int s i t, fun _ e => nomatch e⟩
 | ref p =>
  cases r
  rcases ty with ⟨rfl, xs, hq⟩ | ⟨rfl, o, hk, hc, hd⟩ | ⟨rfl, hk⟩ | ⟨rfl, S, n, hk⟩
  ·obtain ⟨its, _, pl, _⟩ := I.list hq
   refine ⟨pl.isList.typeIs, fun a e => ?_⟩
   cases e
   obtain ⟨o, n, e, c, hd, _⟩ := pl
   exact ⟨o, e, hd⟩
  ·refine ⟨⟨o, I.kIn p o hk, hc⟩, fun a e => ?_⟩
   cases e
   exact ⟨o, I.kIn _ o hk, hd⟩
  ·have z : ∃ o, s.heap.get? p = some o /\ o.ExactDict := by
    rcases hk with ⟨kvs, hk⟩ | ⟨kvs, hk⟩
    ·obtain ⟨_, _, _, _, o, _, _, e, ex, _⟩ := I.hok p _ hk
     exact ⟨o, e, ex⟩
    ·obtain ⟨_, _, _, _, o, _, _, e, ex, _⟩ := I.hok p _ hk
     exact ⟨o, e, ex⟩
   obtain ⟨o, e, ex⟩ := z
   refine ⟨⟨o, e, ex.1⟩, fun a e2 => ?_⟩
   cases e2
   exact ⟨o, e, ex.2.1⟩
  ·obtain ⟨o, _, _, _, e, ex, _⟩ := I.hok p _ hk
   refine ⟨⟨o, e, ex.1⟩, fun a e2 => ?_⟩
   cases e2
   exact ⟨o, e, ex.2.1⟩
 | _ => exact False.elim ty
def tBM (K : PySem.W.Frag) (T : String) (r : V -> List V -> Hp -> VK -> Prop) (to : TE) (t : TA) : TE := fun Z H Q => to Z H fun x H1 => tyV K T x H1 /\ t Z H1 fun xs H2 => r x xs H2 Q
variable {o e : Expr} {es : List Expr} {to : TE} {t : TA} {name : Str} {apos cpos : Pos} {T id : String} {r : V -> List V -> Hp -> VK -> Prop}
theorem qlQ (pa : PlainAttrs T) (slot : Slot T name id) (hty : typeOf (.builtin id) = pure (.type "method_descriptor")) (hm : MtR X id r) (ho : PE X o to) (ha : PA X (e :: es) t)
  (hbase : attributeBase o name X.env (eval o X.env) = eval o X.env := by rfl)
  (hfew : ((backTo cpos (starEach (e :: es) X.env)).all (fun x => !x.1) && (backToKw cpos (keywordEach [] X.env)).all (fun x => x.1.isSome)
   && decide ((e :: es).length + ([] : List Keyword).length + (if ([] : List Keyword).isEmpty then 0 else 1) < 30)) = true := by rfl)
  (hline : (apos.endLine == cpos.line) = true := by rfl) (hs : starEach (e :: es) X.env = (false, eval e X.env) :: starEach es X.env := by rfl) (hplain : (backTo cpos (starEach es X.env)).any (·.1) = false := by rfl) :
  PE X (.Call (.Attribute o name apos) (e :: es) [] cpos) (tBM X.K T r to t) := by
 intro pins s Z H Q I h
 refine wpAny_Call_method_late hbase hfew hline rfl (thn (ho pins s Z H _ I h) fun v s1 ⟨x, H1, I1, r1, ty, q1⟩ => ?_)
 obtain ⟨h1, h2⟩ := qlP I1 r1 ty
 refine ⟨T, id, pa, slot, hty, h1, h2, ?_⟩
 have hA := ha cpos pins s1 Z H1 _ I1 q1
 rw [hs] at hA |-
 refine Calls.callWith_builtin (by show (false || (backTo cpos (starEach es X.env)).any (·.1)) = false; rw [hplain] <;> rfl) (Calls.evalArgs_plain ?_)
 exact thn hA fun us s2 ⟨vs, H2, I2, r2, q2⟩ => hm pins s2 Z H2 x vs v us Q I2 r1 r2 q2
/- xs.append(e), list.index on a module's tuple .. are MtR facts of 06m -/
end
end L2
namespace L2
open PySem PySem.Spec PyProof.Rows
def MtM (X : Cx) (id : String) (r : V -> List V -> Hp -> VK -> Prop) : Prop :=
 ∀ (pins : List (Addr × Obj)) (s : Shared) (Z : St) (H : Hp) (x : V) (xs : List V) (v : Value) (us : List Value) (Q : VK), Inv X pins Z H s -> jN x v -> zg xs us -> r x xs H Q ->
  wpAny (model X.prog X.w) X.A (call (.builtin id) (v :: us)) (EP X pins Z Q) X.xe s
theorem zg.one : ∀ {x : V} {us : List Value}, zg [x] us -> ∃ u, us = [u] /\ jN x u
 | _, _, .cons r .nil => ⟨_, rfl, r⟩
theorem zg.two : ∀ {x y : V} {us : List Value}, zg [x, y] us -> ∃ u v, us = [u, v] /\ jN x u /\ jN y v
 | _, _, _, .cons r (.cons q .nil) => ⟨_, _, rfl, r, q⟩
theorem zg.eraseIdx : ∀ {xs : List V} {us : List Value} (i : Nat), zg xs us -> zg (xs.eraseIdx i) (us.eraseIdx i)
 | _, _, _, .nil => .nil
 | _, _, 0, .cons _ t => t
 | _, _, i + 1, .cons r t => .cons r (zg.eraseIdx i t)
theorem zg.reverse {xs : List V} {us : List Value} (h : zg xs us) : zg xs.reverse us.reverse := by
 induction h with
 | nil => exact .nil
 | cons r t ih => rw [List.reverse_cons, List.reverse_cons]; exact zg.append ih (.cons r .nil)
theorem zg.rep {xs : List V} {us : List Value} (h : zg xs us) : ∀ k : Nat, zg (List.replicate k xs).flatten (List.replicate k us).flatten
 | 0 => .nil
 | k + 1 => by
  rw [rS_, rS_, List.flatten_cons, List.flatten_cons]
  exact zg.append h (zg.rep h k)
theorem qaZ (its : List Value) : ∀ (k : Nat) (acc : List Value),
  List.foldl (fun x1 x2 => x1 ++ x2) acc.toArray (List.replicate k its.toArray) = (acc ++ (List.replicate k its).flatten).toArray
 | 0, acc => by simp
 | k + 1, acc => by
  have e : acc.toArray ++ its.toArray = (acc ++ its).toArray := by simp
  have e2 : (acc ++ its) ++ (List.replicate k its).flatten = acc ++ (List.replicate (k + 1) its).flatten := by
   rw [rS_, List.flatten_cons, aA_]
  rw [<- e2, <- qaZ its k (acc ++ its), <- e, rS_, fo_]
section
variable {X : Cx} {pins : List (Addr × Obj)} {Z : St} {H : Hp} {s : Shared} {l b : Addr} {xs ys zs : List V}
theorem Inv.lset {its its' : List Value} {n : Nat} {f : Array Value -> Array Value} {t' : Nat} (I : Inv X pins Z H s) (hH : H l = some (.lst xs))
  (e : s.heap.get? l = some { cls := .type "list", data := .seq its.toArray n }) (hf : f its.toArray = its'.toArray) (hv : zg ys its') (hz : ys.length <= sizeLine) :
  Inv X pins Z (upd H l (.lst ys)) { s with heap := s.heap.update l (Obj.mapSeq f), toks := t' } := by
 have q := PySem.IsL.update e f
 rw [hf] at q
 refine I.write (x := l) (e := l) (by rw [hH]; exact trivial) (.inl rfl) (fun b' u hb hu => (Heap.get?_update_other s.heap (Obj.mapSeq f) (Ne.symm hb)).trans hu) ⟨_, q⟩ ?_
 exact ⟨hz, its', _, hv, q⟩
theorem Inv.lnew {its : List Value} {t' : Nat} (I : Inv X pins Z H s) (hv : zg ys its) (hz : ys.length <= sizeLine) :
  Inv X pins Z (upd H s.heap.objs.size (.lst ys)) { s with heap := s.heap.push { cls := .type "list", data := .seq its.toArray }, toks := t' } :=
 I.laid (fun _ _ q => Heap.get?_push_of_some _ q) (Nat.le_refl _) ⟨hz, its, 0, hv, Heap.get?_push_size _ rfl⟩
theorem Inv.fresh (I : Inv X pins Z H s) : H s.heap.objs.size = none := I.hok.fresh (Nat.le_refl _)
theorem Inv.lstM (I : Inv X pins Z H s) (hH : H l = some (.lst xs)) : xs.length <= sizeLine /\ ∃ (its : List Value) (n : Nat), zg xs its /\ xs.length = its.length /\ s.heap.get? l = some { cls := .type "list", data := .seq its.toArray n } := by
 obtain ⟨z, its, n, r, e⟩ := I.hok l _ hH
 exact ⟨z, its, n, r, r.length, e⟩
theorem qeq {n : Nat} (h : n <= sizeLine) : Builtin.List.listTooLong n = false := by
 unfold Builtin.List.listTooLong
 exact decide_eq_false (by omega)
end
section
variable {X : Cx}
def qjP : V -> List V -> Hp -> VK -> Prop := fun x vs H Q => ∃ l xs y, x = .ref l /\ vs = [y] /\ H l = some (.lst xs) /\ xs.length < sizeLine /\ Q .non (upd H l (.lst (xs ++ [y])))
theorem qa0 : MtM X "list.append" qjP := by
 intro pins s Z H x vs v us Q I rx rv h
 obtain ⟨l, xs, y, rfl, rfl, hH, hz, q⟩ := h
 cases rx
 obtain ⟨u, rfl, ru⟩ := rv.one
 obtain ⟨z, its, n, r, hl, e⟩ := I.lstM hH
 refine call_meets F.slot_list_append ⟨_, e, rfl⟩ F.entry_list_append (F.args_list_append_2 _ _) (PySem.list_append l its.toArray n u (by rw [sT_]; omega)) ⟨e, ?_⟩
 refine ⟨.non, _, I.lset (its' := its ++ [u]) hH e (by simp) (r.append (.cons ru .nil)) ?_, rfl, q⟩
 rw [lA_, List.length_singleton]
 omega
def qjQ : V -> List V -> Hp -> VK -> Prop := fun x vs H Q => ∃ l b xs zs, x = .ref l /\ vs = [.ref b] /\ H l = some (.lst xs) /\ H b = some (.lst zs) /\ xs.length + zs.length <= sizeLine /\ Q .non (upd H l (.lst (xs ++ zs)))
theorem qlR : MtM X "list.extend" qjQ := by
 intro pins s Z H x vs v us Q I rx rv h
 obtain ⟨l, b, xs, zs, rfl, rfl, hH, hB, hz, q⟩ := h
 cases rx
 obtain ⟨u, rfl, ru⟩ := rv.one
 cases ru
 obtain ⟨z, its, n, r, hl, e⟩ := I.lstM hH
 obtain ⟨z2, its2, n2, r2, hl2, e2⟩ := I.lstM hB
 have hsz : its.toArray.size + its2.toArray.size <= sizeLine := by rw [sT_, sT_]; omega
 have hlong : ¬ (!its.toArray.isEmpty && Builtin.List.listTooLong (its.toArray.size + its2.toArray.size)) = true := by
  rw [qeq hsz, Bool.and_false]
  exact Bool.false_ne_true
 refine call_meets F.slot_list_extend ⟨_, e, rfl⟩ F.entry_list_extend (F.args_list_extend_2 _ _)
  (AutoSeq1.list_extend_list_list_0 l its.toArray n b its2.toArray n2 hlong (by rw [sT_]; omega) (by omega)) ⟨e, e2, ?_⟩
 refine ⟨.non, _, I.lset (its' := its ++ its2) hH e (by simp) (r.append r2) ?_, rfl, q⟩
 rw [lA_]
 omega
def qol : R2 := fun x y H Q => ∃ l b xs zs, x = .ref l /\ y = .ref b /\ H l = some (.lst xs) /\ H b = some (.lst zs) /\ xs.length + zs.length <= sizeLine /\ ∀ p, H p = none -> Q (.ref p) (upd H p (.lst (xs ++ zs)))
theorem qlS : OpR X (binaryOp .Add) qol := by
 intro pins s Z H x y v u Q I rx ry h
 obtain ⟨l, b, xs, zs, rfl, rfl, hH, hB, hz, q⟩ := h
 cases rx
 cases ry
 obtain ⟨z, its, n, r, hl, e⟩ := I.lstM hH
 obtain ⟨z2, its2, n2, r2, hl2, e2⟩ := I.lstM hB
 refine PySem.P.add_list e e2 ?_ (by rw [sT_, sT_]; omega)
 have ea : its.toArray ++ its2.toArray = (its ++ its2).toArray := by simp
 rw [ea]
 exact ⟨.ref _, _, I.lnew (t' := s.toks) (r.append r2) (by rw [lA_]; omega), rfl, q _ I.fresh⟩
def qom : R2 := fun x y H Q => ∃ l k xs, x = .ref l /\ y = .int k /\ H l = some (.lst xs) /\ -(2 ^ 63) <= k /\ k < 2 ^ 63 /\ xs.length * k.toNat <= sizeLine /\
 ∀ p, H p = none -> Q (.ref p) (upd H p (.lst (List.replicate k.toNat xs).flatten))
theorem qdO {α : Type} (xs : List α) (k : Nat) : (List.replicate k xs).flatten.length = k * xs.length := by
 induction k with
 | zero => simp
 | succ k ih => rw [rS_, List.flatten_cons, lA_, ih, Nat.succ_mul, Nat.add_comm]
theorem qiP : OpR X (binaryOp .Mult) qom := by
 intro pins s Z H x y v u Q I rx ry h
 obtain ⟨l, k, xs, rfl, rfl, hH, h1, h2, hz, q⟩ := h
 cases rx
 obtain ⟨t, rfl⟩ := ry
 obtain ⟨z, its, n, r, hl, e⟩ := I.lstM hH
 have hlen : its.toArray.size * k.toNat <= sizeLine := by rw [sT_, <- hl]; exact hz
 have hcap : ¬ its.toArray.size * k.toNat > (2 ^ 63 - 1) / 8 := by
  have : (sizeLine : Nat) <= (2 ^ 63 - 1) / 8 := by decide
  omega
 have hfit : ¬ (!Builtin.List.listFitsIndex k) = true := by
  rw [fitsIndex_both h1 h2]
  exact Bool.false_ne_true
 have hlong : ¬ Builtin.List.listTooLong (its.toArray.size * k.toNat) = true := by
  rw [qeq hlen]
  exact Bool.false_ne_true
 have hnew : List.foldl (fun x1 x2 => x1 ++ x2) #[] (List.replicate (if its.toArray.isEmpty = true then 0 else k.toNat) its.toArray) = (List.replicate k.toNat its).flatten.toArray := by
  have f0 : ∀ m : Nat, List.foldl (fun x1 x2 => x1 ++ x2) #[] (List.replicate m its.toArray) = (List.replicate m its).flatten.toArray := fun m => by
   have := qaZ its m []
   rw [List.nil_append] at this
   exact this
  rw [f0]
  cases its with
  | nil => simp
  | cons a r' => rw [if_neg (by simp)]
 refine wpAny_binaryOp_repeat_ref (T := "list") (U := "int") (by decide) ⟨_, e, rfl⟩ (fun s' => typeIs_int s' k t) noFill_list_mul F.fills_int_mul F.slot_int_rmul repeat_list F.slot_int_index.lookup
  (call_meets F.slot_int_rmul (typeIs_int s k t) F.entry_int_rmul (F.args_int_rmul_2 _ _) (int___rmul___int_list k t l its.toArray n)
   ⟨e, rfl, ⟨_, e, rfl⟩, call_meets F.slot_list_mul ⟨_, e, rfl⟩ F.entry_list_mul (F.args_list_mul_2 _ _) (AutoListH.list___mul___list_int_3 l its.toArray n k t hfit hcap hlong) ⟨e, ?_⟩⟩)
 rw [hnew]
 exact ⟨.ref _, _, I.lnew (t' := s.toks) (r.rep k.toNat) (by rw [qdO, Nat.mul_comm]; exact hz), rfl, q _ I.fresh⟩
end
section
variable {prog : Program} {w : World} {A : Around} {E : Value -> Shared -> Prop} {s : Shared}
set_option maxRecDepth 100000 in
end
section
variable {X : Cx}
end
end L2
namespace Att
open PySem PySem.W PySem.Calls PyProof.Rows
theorem qa1 {P : Params} {h : Heap} : ∀ (ns : List Int) (vs : List Value), WellAll P h vs (ns.map WData.int) -> IntsAre vs ns := by
 intro ns
 induction ns with
 | nil =>
  intro vs w
  rw [List.map_nil] at w
  cases w
  exact .nil
 | cons n ns ih =>
  intro vs w
  rw [mC_] at w
  cases w with
  | cons a b =>
   cases a
   exact .cons _ _ (ih _ b)
theorem qf6 {l : OpenLaw} {n : Nat} (hn : l.most = some n) {P : Params} {h : Heap} {args : List WData} {vals : List Value}
  (hpre : l.row.toRowW.claim.pre args = true) (hwl : WellAll P h vals args) :
  ∃ a vs ns, vals = [Value.ref a] /\ args = [WData.list (ns.map WData.int)] /\ h.get? a = some { cls := .type "list", data := .seq vs.toArray } /\ IntsAre vs ns /\ ns.length <= n := by
 have hsh : WShape.hasAll [] args [.list .int] = true := (pre_splitW hpre).1
 have hc : l.pre.holds [] { args := args } = true := (pre_splitW hpre).2
 obtain ⟨d, r, rfl, h1, h2⟩ := hasAllW_cons hsh
 obtain rfl := hasAllW_nil h2
 obtain ⟨xs, rfl, h3⟩ := hasW_list h1
 obtain ⟨ns, rfl⟩ := items_int h3
 have hlen : ns.length <= n := by
  unfold OpenLaw.pre at hc
  have h4 : (WTm.not (.lt (.lit (.int (n : Int))) (.len (.arg 0)))).holds [] { args := [.list (ns.map .int)] } = true := by
   have h4 := (holds_andW hc).1
   rw [hn] at h4
   exact h4
  have h5 := condW_of h4 (w_not (w_lt w_lit (w_len_list (w_arg rfl))))
  rw [lM_] at h5
  refine Nat.le_of_not_lt fun q => ?_
  have q' : (n : Int) < ((ns.length : Nat) : Int) := by omega
  first
   | (rw [decide_eq_true q'] at h5; exact absurd h5 (by decide))
   | (simp at h5; omega)
 cases hwl with
 | cons w1 w2 =>
  cases w2
  cases w1 with
  | list ho hall => exact ⟨_, _, ns, rfl, rfl, ho, qa1 ns _ hall, hlen⟩
theorem qf7 (l : OpenLaw) (args : List WData) : l.row.toRowW.claim.post args (.bool true) args = true :=
 postW_of (r := l.row.toRowW) (X := (true == true))
  (show WShape.has [] (.bool true) .bool = true by first | rfl | decide | simp [WShape.has, WShape.arms, WShape.armsAll])
  (show (WTm.eq .res (.lit (.bool true))).value [] { args := args, res := some (.bool true), after := args } = some (.bool (true == true)) from w_eq_bool (w_res rfl) w_lit) rfl
theorem attach_call {l : OpenLaw} {n : Nat} {q : Program} {loose : List Str} {XP : (Str -> Option Value) -> Heap -> Prop} {YP : World -> Heap -> Prop} {d : DefRec}
  (hn : l.most = some n) (hdf : d.params.defaults = [])
  (call : ∀ (w : World) (s₀ sQ : Shared) (mg mb : Str -> Option Value) (fa : Addr) (o : Obj) (pm cd doc : Value) (a : Addr) (vs : List Value) (ns : List Int),
   Ground q loose [] XP w s₀ mg mb sQ.heap -> YP w sQ.heap ->
   sQ.heap.get? fa = some o -> o.data = .func (docDef d.name d.params d.body d.scope pm cd doc) -> sQ.heap.CodeRec cd d.name -> mg d.name = some (.ref fa) ->
   sQ.heap.get? a = some { cls := .type "list", data := .seq vs.toArray } -> IntsAre vs ns -> ns.length <= n -> sQ.gens = #[] ->
   codeAny (model l.prog w) callerA (.call (.ref fa) ⟨[.ref a], []⟩) (fun r s' => r = .ok (.ret (.bool true)) /\ OldK sQ.heap s'.heap /\ s'.os = sQ.os /\ AllBare s'.gens) sQ) :
  WalkO q loose XP YP l.row.toRowW d [] (fun f vs => PySem.call f vs) := by
 intro w s₀ sQ mg mb G Y fa o pm cd doc dV kV ho hd hcd hD hmg hg args vals as hpre hlay hrd hwl hlo
 obtain rfl : dV = .none := Dflts.none hD hdf
 obtain rfl : kV = .none := Dflts.noKw hD
 obtain ⟨a, vs, ns, rfl, rfl, hobj, hints, hlen⟩ := qf6 hn hpre hwl
 refine enter_call (codeAny_mono (call w s₀ sQ mg mb fa o pm cd doc a vs ns G Y ho (fd_plain hd) hcd hmg hobj hints hlen hg) fun r s' hq => ?_)
 obtain ⟨rfl, h2, h3, h4⟩ := hq
 exact ⟨.inl ⟨.bool true, .bool true, [], rfl, fun _ => rfl, .bool true, qf7 l _, fun _ => ⟨List.Pairwise.nil, fun _ hm => (nomatch hm)⟩⟩, h2, h3, h4⟩
section
variable {prog : Program} {w : World} {A : Around} {E : Value -> Shared -> Prop} {s : Shared} {K : Frag}
end
end Att
namespace L2
open PySem PySem.Spec PyProof.Rows
theorem qcX : ∀ {vs : List Value} {ns : List Int}, IntsAre vs ns -> zg (ns.map V.int) vs
 | _, _, .nil => .nil
 | _, _, .cons n t h => .cons ⟨t, rfl⟩ (qcX h)
def qna (H : Hp) : Prop := ∀ b, H b = none \/ (∃ o xs, H b = some (.frz o (.lst xs))) \/ ∃ pos q, H b = some (.lam pos q)
def qnb : Option (Addr × Addr × Pos × Str) -> Hp
 | some (_, Pt, pos, q) => fun b => if b = Pt then some (.lam pos q) else none
 | none => fun _ => none
theorem qhK {P : Program} {w : World} {K : PySem.W.Frag} {mg mb : Str -> Option Value} {CX : CXT} {k : Nat} {fa a : Addr} {fd : FuncData} {x : Str} {sp : Sp} {sQ : Shared} {vs : List Value} {ns : List Int} {lm : Option (Addr × Addr × Pos × Str)}
  (KX : K.In sQ.heap) (hns : sQ.heap.Ns mainGlobals mg) (hb : sQ.heap.Ns builtinsNs mb) (hbb : ∀ x : Str, x ≠ "__name__" -> mb x = bootBuiltins x) (hlim : sQ.heap.NoLimit)
  (hbm : ∃ bm ob, mg "__builtins__" = some (.ref bm) /\ bm ≠ builtinsNs /\ sQ.heap.get? bm = some ob /\ ob.cls = .type "module" /\ ob.dict = some builtinsNs /\ ob.data = .plain)
  (hlm : ∀ c Pt pos q, lm = some (c, Pt, pos, q) -> PySem.W.CodeHd sQ.heap c Pt /\ sQ.heap.get? Pt = some (PySem.W.tabObj #[]) /\ K.lookup Pt = none)
  (hg : sQ.gens = #[])
  (ha : sQ.heap.get? a = some { cls := .type "list", data := .seq vs.toArray }) (hi : IntsAre vs ns) (hl : ns.length <= sizeLine) (hr : vn k callerA)
  (F : ∀ base : Heap, K.In base -> base.Ns mainGlobals mg -> qbA P w K mg base CX k fa fd [x] sp) (hbind : ∀ (s : Shared) (u : Value), BindsTo s fd ⟨[u], []⟩ [(x, u)])
  (hsp : ∀ H : Hp, qna H -> (∀ c Pt pos q, lm = some (c, Pt, pos, q) -> H Pt = some (.lam pos q)) -> SqL K H a (ns.map V.int) -> sp [.ref a] H (fun v _ => v = .bl true) fun _ _ _ => False)
  (hCX : ∀ H e s', CX [] H sQ (fun _ _ _ => False) e s' -> False) :
  codeAny (model P w) callerA (.call (.ref fa) ⟨[.ref a], []⟩) (fun r s' => r = .ok (.ret (.bool true)) /\ OldK sQ.heap s'.heap /\ s'.os = sQ.os /\ AllBare s'.gens) sQ := by
 have rv := qcX hi
 have lenV := hi.length
 have core : ∀ H : Hp, qna H -> (∀ c Pt pos q, lm = some (c, Pt, pos, q) -> H Pt = some (.lam pos q)) -> SqL K H a (ns.map V.int) -> HOk P w H sQ.heap ->
   (∀ b u, H b = some u -> K.lookup b = none /\ ((∃ o xs, u = .frz o (.lst xs)) \/ ∃ c pos q, lm = some (c, b, pos, q) /\ u = .lam pos q)) ->
   codeAny (model P w) callerA (.call (.ref fa) ⟨[.ref a], []⟩) (fun r s' => r = .ok (.ret (.bool true)) /\ OldK sQ.heap s'.heap /\ s'.os = sQ.os /\ AllBare s'.gens) sQ := by
  intro H hO hT hS hok hA
  have base_of : ∀ {b : Addr} {o : Obj}, sQ.heap.get? b = some o -> H b = none -> (qhw sQ.heap H).get? b = some o := fun e n => qhx e n
  have noD : ∀ {b : Addr} {o : Obj}, sQ.heap.get? b = some o -> (∀ its n, o.data ≠ .seq its n) -> (∀ f, o.data ≠ .fields f) -> H b = none := fun {b o} e d1 d2 => by
   cases q : H b with
   | none => rfl
   | some u =>
    rcases (hA b u q).2 with ⟨ob, xs, rfl⟩ | ⟨c, pos, q', hl2, rfl⟩
    ·obtain ⟨e1, _, its, n, _, e2⟩ := hok b _ q
     rw [e] at e2; cases e2
     exact (d1 _ _ rfl).elim
    ·have e2 := (hlm _ _ _ _ hl2).2.1
     rw [e] at e2; cases e2
     exact (d2 _ rfl).elim
  have nsK : ∀ {b : Addr} {m : Str -> Option Value}, sQ.heap.Ns b m -> (qhw sQ.heap H).Ns b m := fun {b m} ⟨o, es, ep, e, d, r⟩ => ⟨o, es, ep, base_of e (noD e (fun _ _ z => by rw [d] at z; cases z) fun _ z => by rw [d] at z; cases z), d, r⟩
  have hKb : K.In (qhw sQ.heap H) := fun b o e => base_of (KX b o e) (by
   cases q : H b with
   | none => rfl
   | some u => rw [(hA b u q).1] at e; cases e)
  have hM : Mod K mg (qhw sQ.heap H) := ⟨hKb, nsK hns, ⟨mb, nsK hb, hbb⟩, let ⟨mc, h1, h2⟩ := hlim; ⟨mc, nsK h1, h2⟩,
   let ⟨bm, ob, b1, b2, b3, b4, b5, b6⟩ := hbm; ⟨bm, ob, b1, b2, base_of b3 (noD b3 (fun _ _ z => by rw [b6] at z; cases z) fun _ z => by rw [b6] at z; cases z), b4, b5, b6⟩⟩
  have e0 : qlI P w K mg (qhw sQ.heap H) callerA [] sQ H := ⟨rfl, hM, fun b o e => qjz e, Nat.le_of_eq (qfO _ _), trivial, fun b hb => absurd (show b ∈ ([] : List Addr) from hb) (by simp), hok, .of_eq hg⟩
  refine codeAny_mono ((F _ hKb (nsK hns)).run callerA [] sQ H ⟨[.ref a], []⟩ [.ref a] [.ref a] _ _ hr e0 (hbind sQ (.ref a)) (.cons rfl .nil) (hsp H hO hT hS)) fun r s' h => ?_
  cases r with
  | error e => exact (hCX H e s' h).elim
  | ok fl =>
   cases fl with
   | next => exact False.elim h
   | brk => exact False.elim h
   | cont => exact False.elim h
   | ret u =>
    obtain ⟨v, H', os, bare, un, hok', r', q⟩ := h
    have q' : v = .bl true := q
    subst q'
    obtain rfl : u = Value.bool true := r'
    have asIt : ∀ b o, sQ.heap.get? b = some o -> asItWas sQ.heap s'.heap b o := fun b o e => by
     cases q : H b with
     | none => exact .inl (un.keep b o e q (by intro z; exact absurd (show b ∈ ([] : List Addr) from z) (by simp)) (by simp))
     | some u =>
      rcases (hA b u q).2 with ⟨ob, xs, rfl⟩ | ⟨c, pos, q2, hl2, rfl⟩
      ·have z2 := un.frzs b ob _ q
       obtain ⟨e1, _⟩ := hok b _ q
       obtain ⟨e2, _⟩ := hok' b _ z2
       rw [e] at e1; cases e1
       exact .inl e2
      ·obtain ⟨hc, e2, _⟩ := hlm _ _ _ _ hl2
       rw [e] at e2; cases e2
       rcases hok' b _ (un.tbls b pos q2 q) with z | ⟨c', oc, vs', t, _, _, _, z⟩
       ·exact .inl z
       ·exact .inr (.inl ⟨(hc.tab e).isCodeTable, rfl, #[], _, rfl, by rw [Array.empty_append]; exact z⟩)
    exact ⟨rfl, ⟨asIt, fun b o e => un.there b o e (by simp)⟩, os, bare⟩
 let T : Hp := qnb lm
 have hTb : ∀ b u, T b = some u -> ∃ c pos q, lm = some (c, b, pos, q) /\ u = .lam pos q := fun b u z => by
  cases hq : lm with
  | none => simp only [T, hq, qnb] at z; cases z
  | some p =>
   obtain ⟨c, Pt, pos, q⟩ := p
   simp only [T, hq, qnb] at z
   by_cases hbp : b = Pt
   ·rw [if_pos hbp] at z; cases z
    exact ⟨c, pos, q, by rw [hbp], rfl⟩
   ·rw [if_neg hbp] at z; cases z
 have hTa : T a = none := by
  cases q : T a with
  | none => rfl
  | some u =>
   obtain ⟨c, pos, q2, hl2, _⟩ := hTb a u q
   have := (hlm _ _ _ _ hl2).2.1
   rw [ha] at this; cases this
 have hTt : ∀ c Pt pos q, lm = some (c, Pt, pos, q) -> T Pt = some (.lam pos q) := fun c Pt pos q e => by
  simp only [T, e, qnb, if_true]
 cases hk : K.lookup a with
 | some o =>
  have e := KX a o hk
  rw [ha] at e
  cases e
  refine core T (fun b => ?_) hTt (.inr ⟨_, vs.toArray, _, hk, rfl, rfl, rfl, by rw [sT_, lenV]; exact hl, by simpa using rv⟩) (fun b u z => ?_) (fun b u z => ?_)
  ·cases q : T b with
   | none => exact .inl rfl
   | some u => obtain ⟨_, pos, q2, _, rfl⟩ := hTb b u q; exact .inr (.inr ⟨pos, q2, rfl⟩)
  ·obtain ⟨c, pos, q2, hl2, rfl⟩ := hTb b u z
   exact .inl (hlm _ _ _ _ hl2).2.1
  ·obtain ⟨c, pos, q2, hl2, rfl⟩ := hTb b u z
   exact ⟨(hlm _ _ _ _ hl2).2.2, .inr ⟨c, pos, q2, hl2, rfl⟩⟩
 | none =>
  refine core (upd T a (.frz { cls := .type "list", data := .seq vs.toArray } (.lst (ns.map V.int)))) (fun b => ?_) (fun c Pt pos q e => ?_) (.inl (.inr ⟨{ cls := .type "list", data := .seq vs.toArray }, qw⟩)) (fun b u z => ?_) (fun b u z => ?_)
  ·by_cases hb : b = a
   ·subst hb; exact .inr (.inl ⟨_, _, qw⟩)
   ·rw [qv hb]
    cases q : T b with
    | none => exact .inl rfl
    | some u => obtain ⟨_, pos, q2, _, rfl⟩ := hTb b u q; exact .inr (.inr ⟨pos, q2, rfl⟩)
  ·have h1 := hTt c Pt pos q e
   rw [qv (qI h1 hTa)]
   exact h1
  ·by_cases hb : b = a
   ·subst hb
    rw [qw] at z; cases z
    exact ⟨ha, by rw [lM_]; exact hl, vs, _, rv, ha⟩
   ·rw [qv hb] at z
    obtain ⟨c, pos, q2, hl2, rfl⟩ := hTb b u z
    exact .inl (hlm _ _ _ _ hl2).2.1
  ·by_cases hb : b = a
   ·subst hb
    rw [qw] at z; cases z
    exact ⟨hk, .inl ⟨_, _, rfl⟩⟩
   ·rw [qv hb] at z
    obtain ⟨c, pos, q2, hl2, rfl⟩ := hTb b u z
    exact ⟨(hlm _ _ _ _ hl2).2.2, .inr ⟨c, pos, q2, hl2, rfl⟩⟩
end L2
namespace L2
open PySem PySem.Spec PyProof.Rows
end L2
/- THE LAST THEOREM (shape; LID, My.* are yours):
   My.Adr: a structure of the addresses that your layer names (classes, functions); My.Txt K t: a structure (Prop) of the equations over K;
   My.txt_mk : {K} {implicit addresses ..} (e1 : nsIn K mainGlobals "law" = some (some (.ref f))) (e2 : K.lookup f = some ⟨oc, od, .func (fnOf "law" "law" params body scope dV kV doc pm an cdv ct), sl⟩) (e3 : codeIn K cdv "law" = true) .. : ∃ t, My.Txt K t
set_option maxRecDepth 100000 in
set_option maxHeartbeats 0 in
theorem PySem.Challenge.cw_LID_holds : PySem.Challenge.rw_LID.Holds := by
 w_on; o_law; k_head; (case hw => w_witness2)
 k_fill
 refine L2.walk_of (l := PySem.Challenge.rw_LID) (n := 63) (k := 40) (x := "script") (CX := fun w => ..) (sp := fun _ => My.sp_law) rfl (by decide) rfl ⟨rfl, by decide, by decide⟩ (fun w h Y => PySem.W.kIn_of Y) ?F ?S ?C
 case F =>
  intro w mg fa h KX G hmg
  have T : ∃ t, My.Txt (L2.KOf KX) t := by
   dsimp only [L2.KOf]                          -- K must stand as «<heap const> w.params» for k_is
   refine' My.txt_mk ?e1 ?e2 ?e3 ..
   (case e1 => PySem.W.k_is)                    -- in the order: a name -> its address -> its object -> its parts
   (case e2 => PySem.W.k_is)
   ..
  obtain ⟨t, T⟩ := T
  have e0 := hmg.symm.trans (PySem.W.mg_of KX G T.law)
  cases e0                                       -- fa is the law's own address
  exact ⟨_, fun s u => .of_eq rfl, fun base kb nb => My.law_fn T kb nb⟩     -- if «.of_eq rfl» comes too early: refine' ⟨_, ?b, fun base kb nb => My.law_fn T kb nb⟩; exact fun s u => .of_eq rfl
 case S => exact fun w H a ns hl hO hS => ..
 case C => exact ..
(the tactic k_is has no namespace: write k_is) -/
namespace L2
open PySem PySem.Spec PyProof.Rows
def qt (s : Stmt) : Arguments := match s with
 | .FunctionDef _ a _ _ _ _ _ _ _ _ => a
 | _ => { posonlyargs := [], args := [], vararg := none, kwonlyargs := [], kw_defaults := [], kwarg := none, defaults := [] }
def qr (s : Stmt) : List Stmt := match s with
 | .FunctionDef _ _ b _ _ _ _ _ _ _ => b
 | _ => []
def qe (s : Stmt) : Scope := match s with
 | .FunctionDef _ _ _ _ _ _ sc _ _ _ => sc
 | _ => { kind := .function, names := [], isGenerator := false, isCoroutine := false }
abbrev CX0 : CXT := fun _ _ _ _ _ _ => False
abbrev E0 : XK := fun _ _ _ => False
theorem qjR {X : Cx} : qaY CX0 X E0 := fun _ _ _ _ _ _ _ h => h.elim
structure Fun (K : PySem.W.Frag) (x qual : Str) (st : Stmt) (f : Addr) (fd : FuncData) : Prop where
 ex : ∃ (oc : Value) (od : Option Addr) (kV doc pm : Value) (an : Option Addr) (cdv ct : Value) (osl : Array (Option Value)),
  fd = PySem.W.fnOf x qual (qt st) (qr st) (qe st) .none kV doc pm an cdv ct /\ K.lookup f = some ⟨oc, od, .func fd, osl⟩ /\ PySem.W.codeIn K cdv qual = true
 kp : PySem.W.keepIn K (.ref f) = true
section
variable {P : Program} {w : World} {K : PySem.W.Frag} {mg : Str -> Option Value} {base : Heap}
theorem Fun.ok {x qual : Str} {st : Stmt} {f : Addr} {fd : FuncData} {N ps : List Str} {k : Nat} {sp : Sp} (F : Fun K x qual st f fd) (S : qs N ps (qe st)) (len : ∀ vs H Q E, sp vs H Q E -> vs.length = ps.length)
  (hbody : ∀ (cdv : Value) (A : Around) (outer : List Env) (s : Shared) (H : Hp) (vs : List V) (Q : VK) (E : XK), vn k (A.deeper (envOfC qual (qe st) s.heap.objs.size f cdv)) -> sp vs H Q E ->
   ∃ t, PSs (qhI CX0 P w K mg base N qual (qe st) f cdv A outer s H E).nox (qr st) t /\ t { nx := fun _ H' => Q .non H', rt := Q } (z4 N vs) H) : qbA P w K mg base CX0 (k + 1) f fd ps sp := by
 obtain ⟨oc, od, kV, doc, pm, an, cdv, ct, osl, rfl, lk, hcd⟩ := F.ex
 refine qlL lk hcd S len fun A outer s H vs Q E hr hsp => ?_
 obtain ⟨t, h, q⟩ := hbody cdv A outer s H vs Q E hr hsp
 exact ⟨t, h.nox, q⟩
theorem Fun.binds {x qual : Str} {st : Stmt} {f : Addr} {fd : FuncData} {ps : List Str} (F : Fun K x qual st f fd)
  (h : ∀ (kV doc pm : Value) (an : Option Addr) (cdv ct : Value) (us : List Value), us.length = ps.length -> bindArgs (PySem.W.fnOf x qual (qt st) (qr st) (qe st) .none kV doc pm an cdv ct) ⟨us, []⟩ = pure (ps.zip us)) : wj K fd ps [] := by
 obtain ⟨oc, od, kV, doc, pm, an, cdv, ct, osl, rfl, lk, hcd⟩ := F.ex
 exact .all (h kV doc pm an cdv ct)
theorem qD {x qual : Str} {st : Stmt} {f : Addr} {oc : Value} {od an : Option Addr} {osl : Array (Option Value)} {kV doc pm cdv ct : Value} (l : K.lookup f = some ⟨oc, od, .func (PySem.W.fnOf x qual (qt st) (qr st) (qe st) .none kV doc pm an cdv ct), osl⟩)
  (c : PySem.W.codeIn K cdv qual = true) (k : PySem.W.keepIn K (.ref f) = true) : Fun K x qual st f (PySem.W.fnOf x qual (qt st) (qr st) (qe st) .none kV doc pm an cdv ct) := ⟨⟨oc, od, kV, doc, pm, an, cdv, ct, osl, rfl, l, c⟩, k⟩
end
section
variable {X : Cx}
theorem pv (i : Nat) {x : Str} {pos : Pos} (hN : X.N[i]? = some x := by rfl) (hv : Vis X.env.scope x := by first | exact Or.inl rfl | exact Or.inr (Or.inl rfl) | exact Or.inr (Or.inr rfl)) (hd : (x == ("__debug__" : Str)) = false := by decide)
  (hcd : (x == ("__classdict__" : Str)) = false := by decide) : PE X (.Name x pos) (qoe i) := vm hN hv hd hcd
end
theorem qk6 {A B : Prop} (h : B) : if false = true then A else B := by
 rw [if_neg Bool.false_ne_true]
 exact h
theorem qk7 {A B : Prop} (h : A) : if true = true then A else B := by
 rw [if_pos rfl]
 exact h
def jm (H H' : Hp) : Prop := ∀ b o, H b = some o -> H' b = some o
theorem jm.refl (H : Hp) : jm H H := fun _ _ h => h
theorem jm.trans {H H1 H2 : Hp} (a : jm H H1) (b : jm H1 H2) : jm H H2 := fun c o h => b c o (a c o h)
theorem jm.free {H H' : Hp} (e : jm H H') {l : Addr} (h : H' l = Option.none) : H l = Option.none := by
 cases q : H l with
 | none => rfl
 | some o =>
  rw [e l o q] at h
  cases h
end L2
namespace L2.Sk
open PySem PySem.Spec PyProof.Rows
inductive D where
 | non | bl (b : Bool) | int (i : Int) | str (x : Str) | tup (xs : List D) | lst (xs : List D) | dic (kvs : List (Key × Int)) | fz (ns : List Int)
 | exc (n : Str)
abbrev Fr0 := PySem.W.Frag
def qiQ : FuncBody -> Option Pos
 | .stmts [_, _, .Return (some (.Call _ _ [⟨_, .Lambda _ _ _ pos, _⟩] _)) _] => some pos
 | _ => none
def qbC (K : Fr0) : Option (Addr × Addr × Pos) := match PySem.W.tabIn K "dearest_first", PySem.W.nsIn K mainGlobals "dearest_first" with
 | some (c, P), some (some (.ref f)) => (match K.lookup f with
  | some ⟨_, _, .func fd, _⟩ => (qiQ fd.body).map fun pos => (c, P, pos)
  | _ => none)
 | _, _ => none
abbrev qk8 : Str := "dearest_first.<locals>.<lambda>"
def qon (K : Fr0) (H : Hp) (Io : Addr -> Prop) : Prop := ∀ c P pos, qbC K = some (c, P, pos) -> H P = some (.lam pos qk8) /\ ¬ Io P
abbrev qf8 (K : Fr0) (H : Hp) : Prop := qon K H fun _ => False
structure XK6 (K : Fr0) (D : Addr) : Prop where
 ga : PySem.W.findIn K (.ref D) "__getattribute__" = some (some (.builtin "BaseException.__getattribute__"))
 gt : PySem.W.findIn K (.ref D) "__getattr__" = some none
 cl : PySem.W.findIn K (.ref D) "__class__" = some (some (.builtin "object.__class__"))
 ob : PySem.W.mroIn K D (.type "object") = some true
 be : PySem.W.subIn K (.ref D) (.type "BaseException") = some true
 is : (PySem.W.clsIn K D).isSome = true
 no : ∀ T ∈ ["int", "bool", "str", "tuple", "list", "dict"], PySem.W.kitOne K (.ref D) (.type T) = some false
def qa2 (K : Fr0) (n : Str) : Option Addr := match PySem.W.nsIn K mainGlobals n with
 | some (some (.ref C)) => some C
 | _ => none
def clR (K : Fr0) (RN : List Str) (n : Str) : Option Addr := if RN.contains n then qa2 K n else none
def qoY (K : Fr0) (H : Hp) (a : Addr) (n : Str) : Prop := ∃ C, qa2 K n = some C /\ XK6 K C /\ ∃ o vs, H a = some (.frz o (.own a)) /\ o.cls = .ref C /\ o.data = .fields vs
def uN (K : Fr0) (H : Hp) (a : Addr) (xs : List V) : Prop :=
 H a = some (.tup xs) \/ ∃ (o : Obj) (its : Array Value) (n : Nat), K.lookup a = some o /\ o.cls = .type "tuple" /\ o.data = .seq its n /\ its.size <= sizeLine /\ zg xs its.toList
def qlT (K : Fr0) (H : Hp) (a : Addr) (xs : List V) : Prop :=
 (∃ o, H a = some (.frz o (.lst xs))) \/ ∃ (o : Obj) (its : Array Value) (n : Nat), K.lookup a = some o /\ o.cls = .type "list" /\ o.dict = none /\ o.data = .seq its n /\ its.size <= sizeLine /\ zg xs its.toList
theorem uN.sq {K : Fr0} {H : Hp} {a : Addr} {xs : List V} (h : uN K H a xs) : SqT K H a xs := by
 rcases h with h | h
 ·exact .inl (.inl h)
 ·exact .inr h
theorem qlT.sq {K : Fr0} {H : Hp} {a : Addr} {xs : List V} (h : qlT K H a xs) : SqL K H a xs := by
 rcases h with h | h
 ·exact .inl (.inr h)
 ·exact .inr h
mutual
def Is (K : Fr0) (A : Addr -> Prop) (H : Hp) : D -> V -> Prop
 | .non, v => v = .non
 | .bl b, v => v = .bl b
 | .int i, v => v = .int i
 | .str x, v => v = .str x
 | .tup ds, v => ∃ a xs, v = .ref a /\ uN K H a xs /\ IsL K A H ds xs
 | .lst ds, v => ∃ a xs, v = .ref a /\ A a /\ H a = some (.lst xs) /\ IsL K A H ds xs
 | .dic kvs, v => ∃ a, v = .ref a /\ A a /\ H a = some (.dK (kvs.map fun p => (p.1, V.int p.2)))
 | .fz ns, v => ∃ a, v = .ref a /\ qlT K H a (ns.map V.int)
 | .exc n, v => ∃ a, v = .ref a /\ qoY K H a n
def IsL (K : Fr0) (A : Addr -> Prop) (H : Hp) : List D -> List V -> Prop
 | [], xs => xs = []
 | d :: ds, xs => ∃ x ys, xs = x :: ys /\ Is K A H d x /\ IsL K A H ds ys
end
mutual
def imm : D -> Bool
 | .tup ds => immL ds
 | .lst _ => false
 | .dic _ => false
 | .fz _ => false
 | _ => true
def immL : List D -> Bool
 | [] => true
 | d :: ds => imm d && immL ds
end
structure Ext (A : Addr -> Prop) (H H' : Hp) : Prop where
 tup : ∀ b xs, H b = some (.tup xs) -> H' b = some (.tup xs)
 frz : ∀ b o u, H b = some (.frz o u) -> H' b = some (.frz o u)
 at_ : ∀ b o, A b -> H b = some o -> H' b = some o
theorem Ext.refl {A : Addr -> Prop} {H : Hp} : Ext A H H := ⟨fun _ _ h => h, fun _ _ _ h => h, fun _ _ _ h => h⟩
theorem Ext.of_same {A : Addr -> Prop} {H H' : Hp} (s : jm H H') : Ext A H H' := ⟨fun b xs h => s b _ h, fun b o u h => s b _ h, fun b o _ h => s b o h⟩
mutual
theorem Is.ext {K : Fr0} {A B : Addr -> Prop} {H H' : Hp} (e : Ext A H H') (hAB : ∀ a, A a -> (H a).isSome = true -> B a) : ∀ {d : D} {v : V}, Is K A H d v -> Is K B H' d v
 | .non, _, h => h
 | .bl _, _, h => h
 | .int _, _, h => h
 | .str _, _, h => h
 | .tup ds, _, ⟨a, xs, hv, h, r⟩ => ⟨a, xs, hv, h.elim (fun h => .inl (e.tup _ _ h)) .inr, IsL.ext e hAB r⟩
 | .lst ds, _, ⟨a, xs, hv, hA, h, r⟩ => ⟨a, xs, hv, hAB a hA (by rw [h]; rfl), e.at_ _ _ hA h, IsL.ext e hAB r⟩
 | .dic kvs, _, ⟨a, hv, hA, h⟩ => ⟨a, hv, hAB a hA (by rw [h]; rfl), e.at_ _ _ hA h⟩
 | .fz ns, _, ⟨a, hv, h⟩ => ⟨a, hv, h.elim (fun ⟨o, h⟩ => .inl ⟨o, e.frz _ _ _ h⟩) .inr⟩
 | .exc n, _, ⟨a, hv, C, hc, hk, o, vs, h, r⟩ => ⟨a, hv, C, hc, hk, o, vs, e.frz _ _ _ h, r⟩
theorem IsL.ext {K : Fr0} {A B : Addr -> Prop} {H H' : Hp} (e : Ext A H H') (hAB : ∀ a, A a -> (H a).isSome = true -> B a) : ∀ {ds : List D} {xs : List V}, IsL K A H ds xs -> IsL K B H' ds xs
 | [], _, h => h
 | _ :: _, _, ⟨x, ys, hx, h, r⟩ => ⟨x, ys, hx, Is.ext e hAB h, IsL.ext e hAB r⟩
end
mutual
theorem Is.imm {K : Fr0} {A B : Addr -> Prop} {H : Hp} : ∀ {d : D} {v : V}, imm d = true -> Is K A H d v -> Is K B H d v
 | .non, _, _, h => h
 | .bl _, _, _, h => h
 | .int _, _, _, h => h
 | .str _, _, _, h => h
 | .tup ds, _, i, ⟨a, xs, hv, h, r⟩ => ⟨a, xs, hv, h, IsL.imm (by simpa [Sk.imm] using i) r⟩
 | .lst _, _, i, _ => by simp [Sk.imm] at i
 | .dic _, _, i, _ => by simp [Sk.imm] at i
 | .fz _, _, i, _ => by simp [Sk.imm] at i
 | .exc _, _, _, h => h
theorem IsL.imm {K : Fr0} {A B : Addr -> Prop} {H : Hp} : ∀ {ds : List D} {xs : List V}, immL ds = true -> IsL K A H ds xs -> IsL K B H ds xs
 | [], _, _, h => h
 | d :: ds, _, i, ⟨x, ys, hx, h, r⟩ => by
  have i' : Sk.imm d = true /\ immL ds = true := by simpa [immL] using i
  exact ⟨x, ys, hx, Is.imm i'.1 h, IsL.imm i'.2 r⟩
end
theorem IsL.length {K : Fr0} {A : Addr -> Prop} {H : Hp} : ∀ {ds : List D} {xs : List V}, IsL K A H ds xs -> xs.length = ds.length
 | [], _, h => by rw [h]; rfl
 | _ :: _, _, ⟨x, ys, hx, _, r⟩ => by rw [hx, lC_, lC_, IsL.length r]
theorem IsL.get {K : Fr0} {A : Addr -> Prop} {H : Hp} : ∀ {ds : List D} {xs : List V} {i : Nat} {d : D}, IsL K A H ds xs -> ds[i]? = some d -> ∃ x, xs[i]? = some x /\ Is K A H d x
 | [], _, _, _, _, h => by simp at h
 | e :: _, _, 0, d, ⟨x, ys, hx, h, r⟩, hd => by
  have e1 : e = d := by simpa using hd
  subst e1
  exact ⟨x, by rw [hx]; rfl, h⟩
 | _ :: ds, _, i + 1, d, ⟨x, ys, hx, h, r⟩, hd => by
  obtain ⟨y, h1, h2⟩ := IsL.get (i := i) (d := d) r (by simpa using hd)
  exact ⟨y, by rw [hx]; simpa using h1, h2⟩
theorem IsL.append {K : Fr0} {A : Addr -> Prop} {H : Hp} : ∀ {ds es : List D} {xs ys : List V}, IsL K A H ds xs -> IsL K A H es ys -> IsL K A H (ds ++ es) (xs ++ ys)
 | [], _, _, _, h, g => by rw [h]; exact g
 | _ :: _, _, _, _, ⟨x, zs, hx, h, r⟩, g => ⟨x, zs ++ _, by rw [hx]; rfl, h, IsL.append r g⟩
theorem IsL.take {K : Fr0} {A : Addr -> Prop} {H : Hp} : ∀ {ds : List D} {xs : List V} (n : Nat), IsL K A H ds xs -> IsL K A H (ds.take n) (xs.take n)
 | _, _, 0, _ => by simp [IsL]
 | [], _, _ + 1, h => by rw [h]; simp [IsL]
 | _ :: _, _, n + 1, ⟨x, ys, hx, h, r⟩ => by rw [hx]; exact ⟨x, ys.take n, rfl, h, IsL.take n r⟩
theorem IsL.drop {K : Fr0} {A : Addr -> Prop} {H : Hp} : ∀ {ds : List D} {xs : List V} (n : Nat), IsL K A H ds xs -> IsL K A H (ds.drop n) (xs.drop n)
 | _, _, 0, h => h
 | [], _, _ + 1, h => by rw [h]; simp [IsL]
 | _ :: _, _, n + 1, ⟨x, ys, hx, h, r⟩ => by rw [hx]; exact IsL.drop n r
theorem IsL.one {K : Fr0} {A : Addr -> Prop} {H : Hp} {d : D} {v : V} (h : Is K A H d v) : IsL K A H [d] [v] := ⟨v, [], rfl, h, rfl⟩
theorem IsL.set {K : Fr0} {A : Addr -> Prop} {H : Hp} {d : D} {v : V} (hd : Is K A H d v) : ∀ {ds : List D} {xs : List V} (n : Nat), IsL K A H ds xs -> IsL K A H (ds.set n d) (xs.set n v)
 | [], _, _, h => by rw [h]; simp [IsL]
 | _ :: _, _, 0, ⟨x, ys, hx, h, r⟩ => by rw [hx]; exact ⟨v, ys, rfl, hd, r⟩
 | _ :: _, _, n + 1, ⟨x, ys, hx, h, r⟩ => by rw [hx]; exact ⟨x, ys.set n v, rfl, h, IsL.set hd n r⟩
abbrev Env := List (Option D)
structure Exn where
 cls : Str
 val : D
inductive R (α : Type) where
 | ok (a : α) | exc (x : Exn) (U : Env) | bad
structure Fc where
 O : List Nat
 P : List Nat
 B : Addr -> Prop
 H0 : Hp
 Io : Addr -> Prop
 E : Exn -> Hp -> Prop
 S : Nat -> Option (Option V)
def Cl (O : List Nat) (Z : St) (a : Addr) : Prop := ∀ j ∈ O, Z[j]? ≠ some (some (.ref a))
def Cn (c : Fc) (Z : St) (a : Addr) : Prop := c.B a /\ Cl c.O Z a
structure Rep (K : Fr0) (c : Fc) (U : Env) (Z : St) (H : Hp) : Prop where
 len : U.length = Z.length
 val : ∀ i d, U[i]? = some (some d) -> ∃ v, Z[i]? = some (some v) /\
  ((i ∈ c.O /\ ∃ ds a xs, d = .lst ds /\ v = .ref a /\ H a = some (.lst xs) /\ IsL K (Cn c Z) H ds xs) \/ (i ∉ c.O /\ Is K (Cn c Z) H d v))
 own : ∀ j ∈ c.O, ∀ v, Z[j]? = some (some v) -> ∃ a xs, v = .ref a /\ H a = some (.lst xs) /\ (c.H0 a = none \/ (j ∈ c.P /\ c.Io a))
 inj : ∀ i j a, i ∈ c.O -> j ∈ c.O -> Z[i]? = some (some (.ref a)) -> Z[j]? = some (some (.ref a)) -> i = j
 b0 : (∀ a, c.H0 a = none -> c.B a) /\ qon K c.H0 c.Io
 kp : ∀ b o, c.H0 b = some o -> ¬ c.Io b -> H b = some o
 dm : ∀ b, H b = none -> c.H0 b = none
 pO : ∀ j ∈ c.P, j ∈ c.O
 ps : ∀ j ∈ c.P, Z[j]? = c.S j
theorem Rep.tb {K : Fr0} {c : Fc} {U : Env} {Z : St} {H : Hp} (r : Rep K c U Z H) : qf8 K H := fun q P pos e => ⟨r.kp P _ (r.b0.2 q P pos e).1 (r.b0.2 q P pos e).2, fun z => z⟩
structure Gr (O : List Nat) (Z : St) (H H' : Hp) : Prop where
 ext : Ext (Cl O Z) H H'
 dom : ∀ b, H' b = none -> H b = none
theorem Gr.refl {O : List Nat} {Z : St} {H : Hp} : Gr O Z H H := ⟨Ext.refl, fun _ h => h⟩
theorem Gr.of_same {O : List Nat} {Z : St} {H H' : Hp} (s : jm H H') : Gr O Z H H' := ⟨Ext.of_same s, fun _ h => s.free h⟩
theorem Gr.trans {O : List Nat} {Z : St} {H H1 H2 : Hp} (a : Gr O Z H H1) (b : Gr O Z H1 H2) : Gr O Z H H2 :=
 ⟨⟨fun c xs h => b.ext.tup c xs (a.ext.tup c xs h), fun c o u h => b.ext.frz c o u (a.ext.frz c o u h), fun c o hc h => b.ext.at_ c o hc (a.ext.at_ c o hc h)⟩, fun c h => a.dom c (b.dom c h)⟩
theorem Gr.cn {c : Fc} {Z : St} {H H' : Hp} (g : Gr c.O Z H H') : Ext (Cn c Z) H H' := ⟨g.ext.tup, g.ext.frz, fun b o hb h => g.ext.at_ b o hb.2 h⟩
theorem Gr.is {K : Fr0} {c : Fc} {Z : St} {H H' : Hp} {d : D} {v : V} (g : Gr c.O Z H H') (h : Is K (Cn c Z) H d v) : Is K (Cn c Z) H' d v := Is.ext g.cn (fun _ h _ => h) h
theorem Gr.isL {K : Fr0} {c : Fc} {Z : St} {H H' : Hp} {d : List D} {v : List V} (g : Gr c.O Z H H') (h : IsL K (Cn c Z) H d v) : IsL K (Cn c Z) H' d v := IsL.ext g.cn (fun _ h _ => h) h
theorem Rep.new {K : Fr0} {c : Fc} {U : Env} {Z : St} {H : Hp} (r : Rep K c U Z H) {a : Addr} (h : H a = none) : Cn c Z a :=
 ⟨r.b0.1 a (r.dm a h), fun j hj e => by obtain ⟨b, xs, e1, e2, _⟩ := r.own j hj _ e; cases e1; rw [h] at e2; cases e2⟩
theorem Rep.same {K : Fr0} {c : Fc} {U : Env} {Z : St} {H H' : Hp} (r : Rep K c U Z H) (s : jm H H') : Rep K c U Z H' where
 len := r.len
 val := fun i d h => by
  obtain ⟨v, h1, h2⟩ := r.val i d h
  refine ⟨v, h1, ?_⟩
  rcases h2 with ⟨hi, ds, a, xs, h3, h5, h6, h7⟩ | ⟨hi, h3⟩
  ·exact .inl ⟨hi, ds, a, xs, h3, h5, s _ _ h6, IsL.ext (Ext.of_same s) (fun _ h _ => h) h7⟩
  ·exact .inr ⟨hi, Is.ext (Ext.of_same s) (fun _ h _ => h) h3⟩
 own := fun j hj v h => by
  obtain ⟨a, xs, h1, h2, h3⟩ := r.own j hj v h
  exact ⟨a, xs, h1, s _ _ h2, h3⟩
 inj := r.inj
 b0 := r.b0
 kp := fun b o h1 h2 => s _ _ (r.kp b o h1 h2)
 dm := fun b h => r.dm b (s.free h)
 pO := r.pO
 ps := r.ps
theorem Rep.get {K : Fr0} {c : Fc} {U : Env} {Z : St} {H : Hp} (r : Rep K c U Z H) {i : Nat} {d : D} (hi : i ∉ c.O) (h : U[i]? = some (some d)) : ∃ v, Z[i]? = some (some v) /\ Is K (Cn c Z) H d v := by
 obtain ⟨v, h1, h2⟩ := r.val i d h
 rcases h2 with ⟨h3, _⟩ | ⟨_, h3⟩
 ·exact absurd h3 hi
 ·exact ⟨v, h1, h3⟩
theorem Rep.getO {K : Fr0} {c : Fc} {U : Env} {Z : St} {H : Hp} (r : Rep K c U Z H) {i : Nat} {d : D} (hi : i ∈ c.O) (h : U[i]? = some (some d)) :
  ∃ ds a xs, d = .lst ds /\ Z[i]? = some (some (.ref a)) /\ H a = some (.lst xs) /\ IsL K (Cn c Z) H ds xs := by
 obtain ⟨v, h1, h2⟩ := r.val i d h
 rcases h2 with ⟨_, ds, a, xs, h3, h5, h6, h7⟩ | ⟨h3, _⟩
 ·subst h5; exact ⟨ds, a, xs, h3, h1, h6, h7⟩
 ·exact absurd hi h3
abbrev M (α : Type) := Env -> R (α × Env)
def Wp (K : Fr0) (c : Fc) (Z : St) (H : Hp) (Q : VK) : R (D × Env) -> Prop
 | .ok (d, U) => ∀ v H', Rep K c U Z H' -> Is K (Cn c Z) H' d v -> Gr c.O Z H H' -> Q v H'
 | .exc x U => ∀ H', Rep K c U Z H' -> Gr c.O Z H H' -> c.E x H'
 | .bad => False
def WpB (K : Fr0) (c : Fc) (Z : St) (H : Hp) (Q : Bool -> Hp -> Prop) : R (Bool × Env) -> Prop
 | .ok (b, U) => ∀ H', Rep K c U Z H' -> Gr c.O Z H H' -> Q b H'
 | .exc x U => ∀ H', Rep K c U Z H' -> Gr c.O Z H H' -> c.E x H'
 | .bad => False
def WpL (K : Fr0) (c : Fc) (Z : St) (H : Hp) (Q : List V -> Hp -> Prop) : R (List D × Env) -> Prop
 | .ok (ds, U) => ∀ vs H', Rep K c U Z H' -> IsL K (Cn c Z) H' ds vs -> Gr c.O Z H H' -> Q vs H'
 | .exc x U => ∀ H', Rep K c U Z H' -> Gr c.O Z H H' -> c.E x H'
 | .bad => False
def DE (X : Cx) (c : Fc) (e : Expr) (f : M D) : Prop := ∃ t, PE X e t /\ ∀ U Z H Q, Rep X.K c U Z H -> Wp X.K c Z H Q (f U) -> t Z H Q
def DT (X : Cx) (c : Fc) (e : Expr) (f : M Bool) : Prop := ∃ t, PT X e t /\ ∀ U Z H Q, Rep X.K c U Z H -> WpB X.K c Z H Q (f U) -> t Z H Q
def DA (X : Cx) (c : Fc) (es : List Expr) (f : M (List D)) : Prop := ∃ t, PA X es t /\ ∀ U Z H Q, Rep X.K c U Z H -> WpL X.K c Z H Q (f U) -> t Z H Q
def ret {α : Type} (a : α) : M α := fun U => .ok (a, U)
def bnd {α β : Type} (f : M α) (k : α -> M β) : M β := fun U => match f U with
 | .ok (a, U') => k a U'
 | .exc x U' => .exc x U'
 | .bad => .bad
def lift {α : Type} : Option α -> M α
 | some a => ret a
 | none => fun _ => .bad
section
variable {K : Fr0} {c : Fc} {Z : St} {H H1 : Hp} {Q : VK} {QB : Bool -> Hp -> Prop} {QL : List V -> Hp -> Prop} {r : R (D × Env)}
theorem Wp.gr : ∀ {r : R (D × Env)}, Wp K c Z H Q r -> Gr c.O Z H H1 -> Wp K c Z H1 Q r
 | .ok (d, U), h, g => fun v H' hr hi hg => h v H' hr hi (g.trans hg)
 | .exc x U, h, g => fun H' hr hg => h H' hr (g.trans hg)
 | .bad, h, _ => h
theorem WpB.gr : ∀ {r : R (Bool × Env)}, WpB K c Z H QB r -> Gr c.O Z H H1 -> WpB K c Z H1 QB r
 | .ok (d, U), h, g => fun H' hr hg => h H' hr (g.trans hg)
 | .exc x U, h, g => fun H' hr hg => h H' hr (g.trans hg)
 | .bad, h, _ => h
theorem WpL.gr : ∀ {r : R (List D × Env)}, WpL K c Z H QL r -> Gr c.O Z H H1 -> WpL K c Z H1 QL r
 | .ok (d, U), h, g => fun v H' hr hi hg => h v H' hr hi (g.trans hg)
 | .exc x U, h, g => fun H' hr hg => h H' hr (g.trans hg)
 | .bad, h, _ => h
theorem Wp.bnd {f : M D} {k : D -> M D} {U : Env} {Q' : VK} (h : Wp K c Z H Q (bnd f k U)) (hQ : ∀ d U' v H', Rep K c U' Z H' -> Is K (Cn c Z) H' d v -> Gr c.O Z H H' -> Wp K c Z H' Q (k d U') -> Q' v H') : Wp K c Z H Q' (f U) := by
 unfold Sk.bnd at h
 cases e : f U with
 | ok p => rw [e] at h; exact fun v H' hr hi hg => hQ p.1 p.2 v H' hr hi hg (h.gr hg)
 | exc x U' => rw [e] at h; exact h
 | bad => rw [e] at h; exact h
theorem Wp.bndB {f : M D} {k : D -> M Bool} {U : Env} {Q' : VK} (h : WpB K c Z H QB (Sk.bnd f k U)) (hQ : ∀ d U' v H', Rep K c U' Z H' -> Is K (Cn c Z) H' d v -> Gr c.O Z H H' -> WpB K c Z H' QB (k d U') -> Q' v H') : Wp K c Z H Q' (f U) := by
 unfold Sk.bnd at h
 cases e : f U with
 | ok p => rw [e] at h; exact fun v H' hr hi hg => hQ p.1 p.2 v H' hr hi hg (h.gr hg)
 | exc x U' => rw [e] at h; exact h
 | bad => rw [e] at h; exact h
theorem Wp.bndL {f : M D} {k : D -> M (List D)} {U : Env} {Q' : VK} (h : WpL K c Z H QL (Sk.bnd f k U)) (hQ : ∀ d U' v H', Rep K c U' Z H' -> Is K (Cn c Z) H' d v -> Gr c.O Z H H' -> WpL K c Z H' QL (k d U') -> Q' v H') : Wp K c Z H Q' (f U) := by
 unfold Sk.bnd at h
 cases e : f U with
 | ok p => rw [e] at h; exact fun v H' hr hi hg => hQ p.1 p.2 v H' hr hi hg (h.gr hg)
 | exc x U' => rw [e] at h; exact h
 | bad => rw [e] at h; exact h
theorem WpB.bnd {f : M Bool} {k : Bool -> M D} {U : Env} {Q' : Bool -> Hp -> Prop} (h : Wp K c Z H Q (Sk.bnd f k U)) (hQ : ∀ d U' H', Rep K c U' Z H' -> Gr c.O Z H H' -> Wp K c Z H' Q (k d U') -> Q' d H') : WpB K c Z H Q' (f U) := by
 unfold Sk.bnd at h
 cases e : f U with
 | ok p => rw [e] at h; exact fun H' hr hg => hQ p.1 p.2 H' hr hg (h.gr hg)
 | exc x U' => rw [e] at h; exact h
 | bad => rw [e] at h; exact h
theorem WpB.bndB {f : M Bool} {k : Bool -> M Bool} {U : Env} {Q' : Bool -> Hp -> Prop} (h : WpB K c Z H QB (Sk.bnd f k U)) (hQ : ∀ d U' H', Rep K c U' Z H' -> Gr c.O Z H H' -> WpB K c Z H' QB (k d U') -> Q' d H') : WpB K c Z H Q' (f U) := by
 unfold Sk.bnd at h
 cases e : f U with
 | ok p => rw [e] at h; exact fun H' hr hg => hQ p.1 p.2 H' hr hg (h.gr hg)
 | exc x U' => rw [e] at h; exact h
 | bad => rw [e] at h; exact h
theorem WpL.bnd {f : M (List D)} {k : List D -> M D} {U : Env} {Q' : List V -> Hp -> Prop} (h : Wp K c Z H Q (Sk.bnd f k U)) (hQ : ∀ d U' v H', Rep K c U' Z H' -> IsL K (Cn c Z) H' d v -> Gr c.O Z H H' -> Wp K c Z H' Q (k d U') -> Q' v H') : WpL K c Z H Q' (f U) := by
 unfold Sk.bnd at h
 cases e : f U with
 | ok p => rw [e] at h; exact fun v H' hr hi hg => hQ p.1 p.2 v H' hr hi hg (h.gr hg)
 | exc x U' => rw [e] at h; exact h
 | bad => rw [e] at h; exact h
theorem WpL.bndL {f : M (List D)} {k : List D -> M (List D)} {U : Env} {Q' : List V -> Hp -> Prop} (h : WpL K c Z H QL (Sk.bnd f k U)) (hQ : ∀ d U' v H', Rep K c U' Z H' -> IsL K (Cn c Z) H' d v -> Gr c.O Z H H' -> WpL K c Z H' QL (k d U') -> Q' v H') : WpL K c Z H Q' (f U) := by
 unfold Sk.bnd at h
 cases e : f U with
 | ok p => rw [e] at h; exact fun v H' hr hi hg => hQ p.1 p.2 v H' hr hi hg (h.gr hg)
 | exc x U' => rw [e] at h; exact h
 | bad => rw [e] at h; exact h
theorem Wp.lift {o : Option D} {U : Env} (h : Wp K c Z H Q (Sk.lift o U)) : ∃ d, o = some d /\ ∀ v H', Rep K c U Z H' -> Is K (Cn c Z) H' d v -> Gr c.O Z H H' -> Q v H' := by
 cases o with
 | none => exact h.elim
 | some d => exact ⟨d, rfl, h⟩
end
section
variable {X : Cx} {c : Fc} {a b e : Expr} {pos : Pos}
theorem qk {i j pos} : DE X c (.Constant (.int i) j pos) (ret (.int i)) := ⟨_, qiK, fun _ _ H Q r h => h _ H r rfl .refl⟩
theorem v0 {i j pos} : DE X c (.Constant (.bool i) j pos) (ret (.bl i)) := ⟨_, qnk, fun _ _ H Q r h => h _ H r rfl .refl⟩
theorem qay {j pos} : DE X c (.Constant .none j pos) (ret .non) := ⟨_, qll, fun _ _ H Q r h => h _ H r rfl .refl⟩
def dv (i : Nat) : M D := fun U => match U[i]? with
 | some (some d) => .ok (d, U)
 | _ => .bad
theorem qc (i : Nat) {x : Str} (ho : i ∉ c.O := by exact of_decide_eq_false rfl) (hN : X.N[i]? = some x := by rfl) (hv : Vis X.env.scope x := by first | exact Or.inl rfl | exact Or.inr (Or.inl rfl) | exact Or.inr (Or.inr rfl)) (hd : (x == ("__debug__" : Str)) = false := by decide)
  (hcd : (x == ("__classdict__" : Str)) = false := by decide) : DE X c (.Name x pos) (dv i) := by
 refine ⟨_, vm hN hv hd hcd, fun U Z H Q r h => ?_⟩
 unfold dv at h
 split at h
 ·rename_i d e
  obtain ⟨v, h1, h2⟩ := r.get ho e
  exact ⟨v, h1, h v H r h2 .refl⟩
 ·exact h.elim
theorem qf9 {x : Str} {v : V} {u : Value} {d : D} (hg : Gl X x) (hm : X.mg x = some u) (rv : jN v u) (hd : ∀ H A, Is X.K A H d v) (hdb : (x == ("__debug__" : Str)) = false := by decide) : DE X c (.Name x pos) (ret d) :=
 ⟨_, qjB hg hm rv hdb, fun _ _ H Q r h => h _ H r (hd _ _) .refl⟩
theorem qf : DA X c [] (ret []) := ⟨_, qaX, fun _ _ H Q r h => h _ H r rfl .refl⟩
def qd (f : M D) (g : M (List D)) : M (List D) := bnd f fun d => bnd g fun ds => ret (d :: ds)
theorem qa {es : List Expr} {f : M D} {g : M (List D)} (ha : DE X c e f) (hr : DA X c es g) (hs : starEach (e :: es) X.env = (false, eval e X.env) :: starEach es X.env := by rfl) : DA X c (e :: es) (qd f g) := by
 obtain ⟨ta, pa, wa⟩ := ha
 obtain ⟨tr, pr, wr⟩ := hr
 refine ⟨_, uu pa pr hs, fun U Z H Q r h => wa U Z H _ r (Wp.bndL h fun d U1 v H1 r1 i1 g1 h1 => wr U1 Z H1 _ r1 (WpL.bndL h1 fun ds U2 vs H2 r2 i2 g2 h2 => ?_))⟩
 exact h2 _ H2 r2 ⟨v, vs, rfl, g2.is i1, i2⟩ .refl
def qO (n : Nat) : Bool := decide (n <= sizeLine)
def qaL (f : M (List D)) : M D := bnd f fun ds => lift (if qO ds.length then some (.tup ds) else none)
def qa3 (f : M (List D)) : M D := bnd f fun ds => lift (if qO ds.length then some (.lst ds) else none)
theorem qA {H : Hp} {p : Addr} (h : H p = none) (o : HO) : jm H (upd H p o) := fun b u q => by rw [qv (qI q h)]; exact q
theorem Rep.laid {K : Fr0} {U : Env} {Z : St} {H : Hp} (r : Rep K c U Z H) {p : Addr} (h : H p = none) (o : HO) : Rep K c U Z (upd H p o) := r.same (qA h o)
theorem jg {p : Bool} {d e : D} (h : (if p then some d else none) = some e) : p = true /\ d = e := by
 cases p with
 | true => exact ⟨rfl, by simpa using h⟩
 | false => simp at h
theorem vd {es : List Expr} {x1} {f : M (List D)} (h : DA X c es f) : DE X c (.Tuple es x1 pos) (qaL f) := by
 obtain ⟨t, p, w⟩ := h
 refine ⟨_, qlH p, fun U Z H Q r h => w U Z H _ r (WpL.bnd h fun ds U1 vs H1 r1 i1 g1 h1 => ?_)⟩
 obtain ⟨d, e, h2⟩ := h1.lift
 obtain ⟨e1, e2⟩ := jg e
 subst e2
 refine ⟨by rw [i1.length]; exact of_decide_eq_true e1, fun p hp => h2 _ _ (r1.laid hp _) ⟨p, vs, rfl, .inl qw, IsL.ext (Ext.of_same (qA hp _)) (fun _ h _ => h) i1⟩ (.of_same (qA hp _))⟩
theorem v4 {es : List Expr} {f : M (List D)} (h : DA X c es f) : DE X c (.List es pos) (qa3 f) := by
 obtain ⟨t, p, w⟩ := h
 refine ⟨_, qf1 p, fun U Z H Q r h => w U Z H _ r (WpL.bnd h fun ds U1 vs H1 r1 i1 g1 h1 => ?_)⟩
 obtain ⟨d, e, h2⟩ := h1.lift
 obtain ⟨e1, e2⟩ := jg e
 subst e2
 refine ⟨by rw [i1.length]; exact of_decide_eq_true e1, fun p hp => h2 _ _ (r1.laid hp _) ⟨p, vs, rfl, r1.new hp, qw, IsL.ext (Ext.of_same (qA hp _)) (fun _ h _ => h) i1⟩ (.of_same (qA hp _))⟩
def OpS (K : Fr0) (F : D -> D -> Option D) (r : R2) : Prop := ∀ (A : Addr -> Prop) (H : Hp) (x y d : D) (v u : V) (Q : VK), (∀ a, H a = none -> A a) -> Is K A H x v -> Is K A H y u -> F x y = some d ->
 (∀ w H', jm H H' -> Is K A H' d w -> Q w H') -> r v u H Q
def d2 (F : D -> D -> Option D) (f g : M D) : M D := bnd f fun x => bnd g fun y => lift (F x y)
theorem op2 {r : R2} {F : D -> D -> Option D} {f g : M D} {ta tb : TE} (hF : OpS X.K F r) (wa : ∀ U Z H Q, Rep X.K c U Z H -> Wp X.K c Z H Q (f U) -> ta Z H Q) (wb : ∀ U Z H Q, Rep X.K c U Z H -> Wp X.K c Z H Q (g U) -> tb Z H Q) :
  ∀ U Z H Q, Rep X.K c U Z H -> Wp X.K c Z H Q (d2 F f g U) -> tOp r ta tb Z H Q := fun U Z H Q rp h => wa U Z H _ rp (Wp.bnd h fun x U1 v H1 r1 i1 g1 h1 => wb U1 Z H1 _ r1 (Wp.bnd h1 fun y U2 u H2 r2 i2 g2 h2 => by
 obtain ⟨d, e, h3⟩ := h2.lift
 exact hF _ H2 x y d v u Q (fun a ha => r2.new ha) (g2.is i1) i2 e fun w H' s i => h3 w H' (r2.same s) i (.of_same s)))
theorem qu {op : Operator} {r : R2} {F : D -> D -> Option D} {f g : M D} (ho : OpR X (binaryOp op) r) (hF : OpS X.K F r) (ha : DE X c a f) (hb : DE X c b g) : DE X c (.BinOp a op b pos) (d2 F f g) := by
 obtain ⟨ta, pa, wa⟩ := ha
 obtain ⟨tb, pb, wb⟩ := hb
 exact ⟨_, qlA ho pa pb, op2 hF wa wb⟩
theorem v5 {op : CmpOp} {r : R2} {F : D -> D -> Option D} {f g : M D} (ho : OpR X (compareOp op) r) (hF : OpS X.K F r) (ha : DE X c a f) (hb : DE X c b g) (hm : behindInMarks op b = false) : DE X c (.Compare a [op] [b] pos) (d2 F f g) := by
 obtain ⟨ta, pa, wa⟩ := ha
 obtain ⟨tb, pb, wb⟩ := hb
 exact ⟨_, qjK ho pa pb hm, op2 hF wa wb⟩
def asB : D -> Option Bool
 | .bl b => some b
 | _ => none
def tst (f : M D) : M Bool := bnd f fun d => lift (asB d)
theorem qer {K : Fr0} {Z : St} {H : Hp} {QB : Bool -> Hp -> Prop} {o : Option Bool} {U : Env} (h : WpB K c Z H QB (lift o U)) : ∃ b, o = some b /\ ∀ H', Rep K c U Z H' -> Gr c.O Z H H' -> QB b H' := by
 cases o with
 | none => exact h.elim
 | some d => exact ⟨d, rfl, h⟩
theorem qb6 {d : D} {b : Bool} (h : asB d = some b) : d = .bl b := by
 cases d <;> simp [asB] at h
 subst h; rfl
theorem zj {op : CmpOp} {r : R2} {F : D -> D -> Option D} {f g : M D} (ho : OpR X (compareOp op) r) (hF : OpS X.K F r) (ha : DE X c a f) (hb : DE X c b g) (hm : behindInMarks op b = false) : DT X c (.Compare a [op] [b] pos) (tst (d2 F f g)) := by
 obtain ⟨ta, pa, wa⟩ := ha
 obtain ⟨tb, pb, wb⟩ := hb
 refine ⟨_, qfY ho pa pb hm, fun U Z H Q rp h => op2 hF wa wb U Z H _ rp (Wp.bndB h fun d U1 v H1 r1 i1 g1 h1 => ?_)⟩
 obtain ⟨b, e, h2⟩ := qer h1
 have := qb6 e
 subst this
 exact ⟨b, i1, h2 H1 r1 .refl⟩
theorem ju {f : M D} (h : DE X c e f) (he : ∀ whole, isTrue e X.env whole = (do let v <- whole; standAt e.pos; holding [v] (truthy v)) := by intro _; rfl) : DT X c e (tst f) := by
 obtain ⟨t, p, w⟩ := h
 refine ⟨_, qlm p he, fun U Z H Q rp h => w U Z H _ rp (Wp.bndB h fun d U1 v H1 r1 i1 g1 h1 => ?_)⟩
 obtain ⟨b, e, h2⟩ := qer h1
 have := qb6 e
 subst this
 exact ⟨b, i1, h2 H1 r1 .refl⟩
def wX (f : M Bool) : M Bool := bnd f fun b => ret (!b)
theorem jO {f : M Bool} (h : DT X c a f) : DT X c (.UnaryOp .Not a pos) (wX f) := by
 obtain ⟨t, p, w⟩ := h
 exact ⟨_, qlp p, fun U Z H Q rp h => w U Z H _ rp (WpB.bndB h fun d U1 H1 r1 g1 h1 => h1 H1 r1 .refl)⟩
def DW (X : Cx) (c : Fc) (e : Expr) (f : M Bool) : Prop := ∃ t, PW X e t /\ ∀ U Z H Q, Rep X.K c U Z H -> WpB X.K c Z H Q (f U) -> t Z H Q
theorem DW.dt {f : M Bool} (h : DW X c e f) : DT X c e f := by
 obtain ⟨t, p, w⟩ := h
 exact ⟨t, p.pt, w⟩
def qcY (f g : M Bool) : M Bool := bnd f fun b => if b then g else ret false
def tor (f g : M Bool) : M Bool := bnd f fun b => if b then ret true else g
variable {uB : List Expr}
theorem qa4 {f : M Bool} (h : DT X c a f) : DW X c (.BoolOp .And [a] pos) f := by
 obtain ⟨t, p, w⟩ := h
 exact ⟨t, qjD p, w⟩
theorem wD {f : M Bool} (h : DT X c a f) : DW X c (.BoolOp .Or [a] pos) f := by
 obtain ⟨t, p, w⟩ := h
 exact ⟨t, qln p, w⟩
theorem qcZ {f g : M Bool} (ha : DT X c a f) (hb : DW X c (.BoolOp .And (b :: uB) pos) g) : DW X c (.BoolOp .And (a :: b :: uB) pos) (qcY f g) := by
 obtain ⟨ta, pa, wa⟩ := ha
 obtain ⟨tb, pb, wb⟩ := hb
 refine ⟨_, qlo pa pb, fun U Z H Q rp h => wa U Z H _ rp (WpB.bndB h fun d U1 H1 r1 g1 h1 => ?_)⟩
 cases d with
 | true => exact qk7 (wb U1 Z H1 Q r1 (by simpa using h1))
 | false => exact qk6 ((by simpa using h1 : WpB X.K c Z H1 Q (ret false U1)) H1 r1 .refl)
theorem qa5 {f g : M Bool} (ha : DT X c a f) (hb : DW X c (.BoolOp .Or (b :: uB) pos) g) : DW X c (.BoolOp .Or (a :: b :: uB) pos) (tor f g) := by
 obtain ⟨ta, pa, wa⟩ := ha
 obtain ⟨tb, pb, wb⟩ := hb
 refine ⟨_, qnl pa pb, fun U Z H Q rp h => wa U Z H _ rp (WpB.bndB h fun d U1 H1 r1 g1 h1 => ?_)⟩
 cases d with
 | true => exact qk7 ((by simpa using h1 : WpB X.K c Z H1 Q (ret true U1)) H1 r1 .refl)
 | false => exact qk6 (wb U1 Z H1 Q r1 (by simpa using h1))
def qnc (f : M D) : M D := bnd f fun d => bnd (lift (asB d)) fun b => ret (.bl (!b))
def qht (f g : M D) : M D := bnd f fun d => bnd (lift (asB d)) fun b => if b then g else ret (.bl false)
def dor (f g : M D) : M D := bnd f fun d => bnd (lift (asB d)) fun b => if b then ret (.bl true) else g
theorem qga {K : Fr0} {Z : St} {H : Hp} {Q : VK} {d : D} {k : Bool -> M D} {U : Env} (h : Wp K c Z H Q (bnd (lift (asB d)) k U)) : ∃ b, d = .bl b /\ Wp K c Z H Q (k b U) := by
 unfold bnd at h
 cases e : asB d with
 | none => rw [e] at h; exact h.elim
 | some b => rw [e] at h; exact ⟨b, qb6 e, h⟩
theorem qa6 {op} {f : M D} (h : DE X c a f) : DE X c (.BoolOp op [a] pos) f := by
 obtain ⟨t, p, w⟩ := h
 exact ⟨t, qlq p, w⟩
theorem qlU {f : M D} (h : DE X c a f) : DE X c (.UnaryOp .Not a pos) (qnc f) := by
 obtain ⟨t, p, w⟩ := h
 refine ⟨_, qls p, fun U Z H Q rp h => w U Z H _ rp (Wp.bnd h fun d U1 v H1 r1 i1 g1 h1 => ?_)⟩
 obtain ⟨b, e, h2⟩ := qga h1
 subst e
 exact ⟨b, i1, h2 _ H1 r1 rfl .refl⟩
theorem qc0 {f g : M D} (ha : DE X c a f) (hb : DE X c (.BoolOp .And (b :: uB) pos) g) : DE X c (.BoolOp .And (a :: b :: uB) pos) (qht f g) := by
 obtain ⟨ta, pa, wa⟩ := ha
 obtain ⟨tb, pb, wb⟩ := hb
 refine ⟨_, qlr pa pb, fun U Z H Q rp h => wa U Z H _ rp (Wp.bnd h fun d U1 v H1 r1 i1 g1 h1 => ?_)⟩
 obtain ⟨k, e, h2⟩ := qga h1
 subst e
 refine ⟨k, i1, ?_⟩
 cases k with
 | true => exact qk7 (wb U1 Z H1 Q r1 (by simpa using h2))
 | false => exact qk6 ((by simpa using h2 : Wp X.K c Z H1 Q (ret (.bl false) U1)) _ H1 r1 rfl .refl)
theorem qlV {f g : M D} (ha : DE X c a f) (hb : DE X c (.BoolOp .Or (b :: uB) pos) g) : DE X c (.BoolOp .Or (a :: b :: uB) pos) (dor f g) := by
 obtain ⟨ta, pa, wa⟩ := ha
 obtain ⟨tb, pb, wb⟩ := hb
 refine ⟨_, qno pa pb, fun U Z H Q rp h => wa U Z H _ rp (Wp.bnd h fun d U1 v H1 r1 i1 g1 h1 => ?_)⟩
 obtain ⟨k, e, h2⟩ := qga h1
 subst e
 refine ⟨k, i1, ?_⟩
 cases k with
 | true => exact qk7 ((by simpa using h2 : Wp X.K c Z H1 Q (ret (.bl true) U1)) _ H1 r1 rfl .refl)
 | false => exact qk6 (wb U1 Z H1 Q r1 (by simpa using h2))
def dif (f : M Bool) (g k : M D) : M D := bnd f fun b => if b then g else k
theorem qjS {t : Expr} {f : M Bool} {g k : M D} (ht : DT X c t f) (ha : DE X c a g) (hb : DE X c b k) : DE X c (.IfExp t a b pos) (dif f g k) := by
 obtain ⟨tt, pt, wt⟩ := ht
 obtain ⟨ta, pa, wa⟩ := ha
 obtain ⟨tb, pb, wb⟩ := hb
 refine ⟨_, qhz pt pa pb, fun U Z H Q rp h => wt U Z H _ rp (WpB.bnd h fun d U1 H1 r1 g1 h1 => ?_)⟩
 cases d with
 | true => exact qk7 (wa U1 Z H1 Q r1 (by simpa using h1))
 | false => exact qk6 (wb U1 Z H1 Q r1 (by simpa using h1))
def qaF (K : Fr0) (F : List D -> Option D) (r : List V -> Hp -> VK -> Prop) : Prop := ∀ (A : Addr -> Prop) (H : Hp) (xs : List D) (d : D) (vs : List V) (Q : VK), (∀ a, H a = none -> A a) -> IsL K A H xs vs -> F xs = some d ->
 (∀ w H', jm H H' -> Is K A H' d w -> Q w H') -> r vs H Q
def jo (F : List D -> Option D) (f : M (List D)) : M D := bnd f fun ds => lift (F ds)
theorem qlW {r : List V -> Hp -> VK -> Prop} {F : List D -> Option D} {f : M (List D)} {t : TA} (hF : qaF X.K F r) (w : ∀ U Z H Q, Rep X.K c U Z H -> WpL X.K c Z H Q (f U) -> t Z H Q) :
  ∀ U Z H Q, Rep X.K c U Z H -> Wp X.K c Z H Q (jo F f U) -> tCB r t Z H Q := fun U Z H Q rp h => w U Z H _ rp (WpL.bnd h fun ds U1 vs H1 r1 i1 g1 h1 => by
 obtain ⟨d, e, h3⟩ := h1.lift
 exact hF _ H1 ds d vs Q (fun a ha => r1.new ha) i1 e fun w H' s i => h3 w H' (r1.same s) i (.of_same s))
theorem zf {id : String} {x : Str} {p : Pos} {es : List Expr} {r : List V -> Hp -> VK -> Prop} {F : List D -> Option D} {f : M (List D)} (hc : ut X (.builtin id) r) (hF : qaF X.K F r) (hg : Gl X x) (hm : X.mg x = none) (hv : bootBuiltins x = some (.builtin id)) (ha : DA X c (e :: es) f) (hn : x ≠ "__name__" := by decide) (hdb : (x == ("__debug__" : Str)) = false := by decide)
  (he : starEach (e :: es) X.env = (false, eval e X.env) :: starEach es X.env := by rfl) (hpl : (backTo pos (starEach es X.env)).any (·.1) = false := by rfl) : DE X c (.Call (.Name x p) (e :: es) [] pos) (jo F f) := by
 obtain ⟨t, pa, w⟩ := ha
 exact ⟨_, qb4 hc hg hm hv pa hn hdb he hpl, qlW hF w⟩
theorem qgb {T : String} {x : Str} {p : Pos} {es : List Expr} {r : List V -> Hp -> VK -> Prop} {F : List D -> Option D} {f : M (List D)} (hc : ut X (.type T) r) (hF : qaF X.K F r) (hg : Gl X x) (hm : X.mg x = none) (hv : bootBuiltins x = some (.type T)) (ha : DA X c (e :: es) f) (hn : x ≠ "__name__" := by decide) (hdb : (x == ("__debug__" : Str)) = false := by decide)
  (he : starEach (e :: es) X.env = (false, eval e X.env) :: starEach es X.env := by rfl) (hpl : (backTo pos (starEach es X.env)).any (·.1) = false := by rfl) : DE X c (.Call (.Name x p) (e :: es) [] pos) (jo F f) := by
 obtain ⟨t, pa, w⟩ := ha
 exact ⟨_, qcT hc hg hm hv pa hn hdb he hpl, qlW hF w⟩
theorem qB {r : R2} {F : D -> D -> Option D} {f g : M D} (hr : IxR X r) (hF : OpS X.K F r) (ha : DE X c a f) (hb : DE X c b g) (hs : qdN b := by intro _ _; rfl) : DE X c (.Subscript a b pos) (d2 F f g) := by
 obtain ⟨ta, pa, wa⟩ := ha
 obtain ⟨tb, pb, wb⟩ := hb
 exact ⟨_, qlN hr pa pb hs, op2 hF wa wb⟩
end
inductive Fl where
 | nx (U : Env) | rt (d : D) (U : Env) | bk (U : Env) | ct (U : Env)
structure GrS (O : List Nat) (Z : St) (H : Hp) (Z' : St) (H' : Hp) : Prop where
 ext : Ext (Cl O Z) H H'
 cl : ∀ b, Cl O Z b -> (H b).isSome = true -> Cl O Z' b
 dom : ∀ b, H' b = none -> H b = none
theorem qfi {H H' : Hp} {b : Addr} (dom : H' b = none -> H b = none) (h : (H b).isSome = true) : (H' b).isSome = true := by
 cases e : H' b with
 | none => rw [dom e] at h; cases h
 | some o => rfl
theorem GrS.refl {O : List Nat} {Z : St} {H : Hp} : GrS O Z H Z H := ⟨Ext.refl, fun _ h _ => h, fun _ h => h⟩
theorem Gr.s {O : List Nat} {Z : St} {H H' : Hp} (g : Gr O Z H H') : GrS O Z H Z H' := ⟨g.ext, fun _ h _ => h, g.dom⟩
theorem GrS.trans {O : List Nat} {Z Z1 Z2 : St} {H H1 H2 : Hp} (a : GrS O Z H Z1 H1) (b : GrS O Z1 H1 Z2 H2) : GrS O Z H Z2 H2 :=
 ⟨⟨fun c xs h => b.ext.tup c xs (a.ext.tup c xs h), fun c o u h => b.ext.frz c o u (a.ext.frz c o u h), fun c o hc h => b.ext.at_ c o (a.cl c hc (by rw [h]; rfl)) (a.ext.at_ c o hc h)⟩,
  fun c hc h => b.cl c (a.cl c hc h) (qfi (a.dom c) h), fun c h => a.dom c (b.dom c h)⟩
theorem GrS.is {K : Fr0} {c : Fc} {Z Z' : St} {H H' : Hp} {d : D} {v : V} (g : GrS c.O Z H Z' H') (h : Is K (Cn c Z) H d v) : Is K (Cn c Z') H' d v :=
 Is.ext ⟨g.ext.tup, g.ext.frz, fun b o hb h => g.ext.at_ b o hb.2 h⟩ (fun a ha hs => ⟨ha.1, g.cl a ha.2 hs⟩) h
theorem GrS.isL {K : Fr0} {c : Fc} {Z Z' : St} {H H' : Hp} {d : List D} {v : List V} (g : GrS c.O Z H Z' H') (h : IsL K (Cn c Z) H d v) : IsL K (Cn c Z') H' d v :=
 IsL.ext ⟨g.ext.tup, g.ext.frz, fun b o hb h => g.ext.at_ b o hb.2 h⟩ (fun a ha hs => ⟨ha.1, g.cl a ha.2 hs⟩) h
def WpS (K : Fr0) (c : Fc) (Z : St) (H : Hp) (D : qhs) : R Fl -> Prop
 | .ok (.nx U) => ∀ Z' H', Rep K c U Z' H' -> GrS c.O Z H Z' H' -> D.nx Z' H'
 | .ok (.rt d U) => ∀ v Z' H', Rep K c U Z' H' -> Is K c.B H' d v -> GrS c.O Z H Z' H' -> D.rt v H'
 | .ok (.bk U) => ∀ Z' H', Rep K c U Z' H' -> GrS c.O Z H Z' H' -> D.bk Z' H'
 | .ok (.ct U) => ∀ Z' H', Rep K c U Z' H' -> GrS c.O Z H Z' H' -> D.ct Z' H'
 | .exc x U => ∀ Z' H', Rep K c U Z' H' -> GrS c.O Z H Z' H' -> c.E x H'
 | .bad => False
abbrev MS := Env -> R Fl
def DS (X : Cx) (c : Fc) (st : Stmt) (f : MS) : Prop := ∃ t, PS X st t /\ ∀ U Z H D, Rep X.K c U Z H -> WpS X.K c Z H D (f U) -> t D Z H
def DSs (X : Cx) (c : Fc) (st : List Stmt) (f : MS) : Prop := ∃ t, PSs X st t /\ ∀ U Z H D, Rep X.K c U Z H -> WpS X.K c Z H D (f U) -> t D Z H
theorem WpS.gr {K : Fr0} {c : Fc} {Z Z1 : St} {H H1 : Hp} {D : qhs} : ∀ {r : R Fl}, WpS K c Z H D r -> GrS c.O Z H Z1 H1 -> WpS K c Z1 H1 D r
 | .ok (.nx U), h, g => fun Z' H' hr hg => h Z' H' hr (g.trans hg)
 | .ok (.rt d U), h, g => fun v Z' H' hr hi hg => h v Z' H' hr hi (g.trans hg)
 | .ok (.bk U), h, g => fun Z' H' hr hg => h Z' H' hr (g.trans hg)
 | .ok (.ct U), h, g => fun Z' H' hr hg => h Z' H' hr (g.trans hg)
 | .exc x U, h, g => fun Z' H' hr hg => h Z' H' hr (g.trans hg)
 | .bad, h, _ => h
def sbnd {α : Type} (f : M α) (k : α -> MS) : MS := fun U => match f U with
 | .ok (a, U') => k a U'
 | .exc x U' => .exc x U'
 | .bad => .bad
section
variable {K : Fr0} {c : Fc} {Z : St} {H : Hp} {D : qhs}
theorem Wp.sbnd {f : M Sk.D} {k : Sk.D -> MS} {U : Env} {Q' : VK} (h : WpS K c Z H D (sbnd f k U)) (hQ : ∀ d U' v H', Rep K c U' Z H' -> Is K (Cn c Z) H' d v -> Gr c.O Z H H' -> WpS K c Z H' D (k d U') -> Q' v H') : Wp K c Z H Q' (f U) := by
 unfold Sk.sbnd at h
 cases e : f U with
 | ok p => rw [e] at h; exact fun v H' hr hi hg => hQ p.1 p.2 v H' hr hi hg (h.gr hg.s)
 | exc x U' => rw [e] at h; exact fun H' hr hg => h Z H' hr hg.s
 | bad => rw [e] at h; exact h
theorem WpB.sbnd {f : M Bool} {k : Bool -> MS} {U : Env} {Q' : Bool -> Hp -> Prop} (h : WpS K c Z H D (sbnd f k U)) (hQ : ∀ d U' H', Rep K c U' Z H' -> Gr c.O Z H H' -> WpS K c Z H' D (k d U') -> Q' d H') : WpB K c Z H Q' (f U) := by
 unfold Sk.sbnd at h
 cases e : f U with
 | ok p => rw [e] at h; exact fun H' hr hg => hQ p.1 p.2 H' hr hg (h.gr hg.s)
 | exc x U' => rw [e] at h; exact fun H' hr hg => h Z H' hr hg.s
 | bad => rw [e] at h; exact h
theorem WpL.sbnd {f : M (List Sk.D)} {k : List Sk.D -> MS} {U : Env} {Q' : List V -> Hp -> Prop} (h : WpS K c Z H D (sbnd f k U)) (hQ : ∀ d U' v H', Rep K c U' Z H' -> IsL K (Cn c Z) H' d v -> Gr c.O Z H H' -> WpS K c Z H' D (k d U') -> Q' v H') : WpL K c Z H Q' (f U) := by
 unfold Sk.sbnd at h
 cases e : f U with
 | ok p => rw [e] at h; exact fun v H' hr hi hg => hQ p.1 p.2 v H' hr hi hg (h.gr hg.s)
 | exc x U' => rw [e] at h; exact fun H' hr hg => h Z H' hr hg.s
 | bad => rw [e] at h; exact h
end
def qT (f g : MS) : MS := fun U => match f U with
 | .ok (.nx U') => g U'
 | r => r
theorem WpS.mono_nx {K : Fr0} {c : Fc} {Z : St} {H : Hp} {D : qhs} {f g : MS} {U : Env} {N : St -> Hp -> Prop} (h : WpS K c Z H D (qT f g U)) (hN : ∀ U' Z' H', Rep K c U' Z' H' -> GrS c.O Z H Z' H' -> WpS K c Z' H' D (g U') -> N Z' H') :
  WpS K c Z H { D with nx := N } (f U) := by
 unfold qT at h
 cases e : f U with
 | ok fl =>
  rw [e] at h
  cases fl with
  | nx U' => exact fun Z' H' hr hg => hN U' Z' H' hr hg (h.gr hg)
  | rt d U' => exact h
  | bk U' => exact h
  | ct U' => exact h
 | exc x U' => rw [e] at h; exact h
 | bad => rw [e] at h; exact h
section
variable {X : Cx} {c : Fc} {a b e : Expr} {pos : Pos} {st : Stmt} {sts : List Stmt}
theorem qjT : DSs X c [] (fun U => .ok (.nx U)) := ⟨_, qjE, fun U Z H D r h => h Z H r .refl⟩
theorem qj {f : MS} (h : DS X c st f) : DSs X c [st] f := by
 obtain ⟨t, p, w⟩ := h
 exact ⟨t, qjF p, w⟩
theorem qh {f g : MS} (h : DS X c st f) (hr : DSs X c sts g) : DSs X c (st :: sts) (qT f g) := by
 obtain ⟨t, p, w⟩ := h
 obtain ⟨t2, p2, w2⟩ := hr
 exact ⟨_, qhA p p2, fun U Z H D r h => w U Z H _ r (h.mono_nx fun U' Z' H' r' g' h' => w2 U' Z' H' D r' h')⟩
def z0 (f : M D) : MS := sbnd f fun d U => .ok (.rt d U)
theorem Is.cn {K : Fr0} {Z : St} {H : Hp} {d : D} {v : V} (h : Is K (Cn c Z) H d v) : Is K c.B H d v := Is.ext Ext.refl (fun _ h _ => h.1) h
theorem qy {f : M D} (h : DE X c e f) : DS X c (.Return (some e) pos) (z0 f) := by
 obtain ⟨t, p, w⟩ := h
 exact ⟨_, qiL p, fun U Z H D r h => w U Z H _ r (Wp.sbnd h fun d U1 v H1 r1 i1 g1 h1 => h1 v Z H1 r1 i1.cn .refl)⟩
def yc (f : M D) : MS := sbnd f fun _ U => .ok (.nx U)
theorem zT {f : M D} (h : DE X c e f) (hs : swapsWith e none pos.line X.env = pure false := by rfl) : DS X c (.Expr e pos) (yc f) := by
 obtain ⟨t, p, w⟩ := h
 exact ⟨_, qjG p hs, fun U Z H D r h => w U Z H _ r (Wp.sbnd h fun d U1 v H1 r1 i1 g1 h1 => h1 Z H1 r1 .refl)⟩
def sif (f : M Bool) (g k : MS) : MS := sbnd f fun b => if b then g else k
theorem jR {t : Expr} {s1 s2 : List Stmt} {f : M Bool} {g k : MS} (ht : DT X c t f) (ha : DSs X c s1 g) (hb : DSs X c s2 k) : DS X c (.If t s1 s2 pos) (sif f g k) := by
 obtain ⟨tt, pt, wt⟩ := ht
 obtain ⟨ta, pa, wa⟩ := ha
 obtain ⟨tb, pb, wb⟩ := hb
 refine ⟨_, qnr pt pa pb, fun U Z H D rp h => wt U Z H _ rp (WpB.sbnd h fun d U1 H1 r1 g1 h1 => ?_)⟩
 cases d with
 | true => exact qk7 (wa U1 Z H1 D r1 (by simpa using h1))
 | false => exact qk6 (wb U1 Z H1 D r1 (by simpa using h1))
theorem qhL : DS X c st (fun _ => .bad) := ⟨_, qhB, fun U Z H D rp h => h.elim⟩
theorem zu {α : Type} {l : List α} {i j : Nat} {v : α} (h : j ≠ i) : (l.set i v)[j]? = l[j]? := List.getElem?_set_ne (Ne.symm h)
theorem Cl.set {O : List Nat} {Z : St} {i : Nat} {v : Option V} (hi : i ∉ O) (a : Addr) : Cl O (Z.set i v) a ↔ Cl O Z a := by
 constructor
 ·intro h j hj
  have e : j ≠ i := fun e => hi (e ▸ hj)
  have := h j hj
  rw [zu e] at this
  exact this
 ·intro h j hj
  have e : j ≠ i := fun e => hi (e ▸ hj)
  rw [zu e]
  exact h j hj
theorem Rep.set {K : Fr0} {U : Env} {Z : St} {H : Hp} {i : Nat} {d : D} {v : V} (r : Rep K c U Z H) (hi : i ∉ c.O) (h : Is K (Cn c Z) H d v) : Rep K c (U.set i (some d)) (Z.set i (some v)) H where
 len := by rw [lS_, lS_]; exact r.len
 val := fun j e hj => by
  have up : ∀ {d' : D} {v' : V}, Is K (Cn c Z) H d' v' -> Is K (Cn c (Z.set i (some v))) H d' v' := fun h => Is.ext Ext.refl (fun a ha _ => ⟨ha.1, (Cl.set hi a).mpr ha.2⟩) h
  by_cases e1 : j = i
  ·subst e1
   have hl : j < U.length := by
    have := (gI_.mp hj).1
    rwa [lS_] at this
   rw [List.getElem?_set_self hl] at hj
   cases hj
   refine ⟨v, List.getElem?_set_self (by rw [<- r.len]; exact hl), .inr ⟨hi, up h⟩⟩
  ·rw [zu e1] at hj
   obtain ⟨w, h1, h2⟩ := r.val j e hj
   refine ⟨w, by rw [zu e1]; exact h1, ?_⟩
   rcases h2 with ⟨hj2, ds, a, xs, h3, h5, h6, h7⟩ | ⟨h3, h4⟩
   ·exact .inl ⟨hj2, ds, a, xs, h3, h5, h6, IsL.ext Ext.refl (fun a ha _ => ⟨ha.1, (Cl.set hi a).mpr ha.2⟩) h7⟩
   ·exact .inr ⟨h3, up h4⟩
 own := fun j hj w h => by
  have e1 : j ≠ i := fun e => hi (e ▸ hj)
  rw [zu e1] at h
  exact r.own j hj w h
 inj := fun j k a hj hk h1 h2 => by
  have e1 : j ≠ i := fun e => hi (e ▸ hj)
  have e2 : k ≠ i := fun e => hi (e ▸ hk)
  rw [zu e1] at h1
  rw [zu e2] at h2
  exact r.inj j k a hj hk h1 h2
 b0 := r.b0
 kp := r.kp
 dm := r.dm
 pO := r.pO
 ps := fun j hj => by
  have e : j ≠ i := fun e => hi (e ▸ r.pO j hj)
  rw [zu e]; exact r.ps j hj
theorem GrS.set {O : List Nat} {Z : St} {H : Hp} {i : Nat} {v : Option V} (hi : i ∉ O) : GrS O Z H (Z.set i v) H := ⟨Ext.refl, fun b h _ => (Cl.set hi b).mpr h, fun _ h => h⟩
def zM (i : Nat) (f : M D) : MS := sbnd f fun d U => .ok (.nx (U.set i (some d)))
theorem qP {i : Nat} {x : Str} {pos' : Pos} {f : M D} (hN : X.N.Nodup) (he : DE X c e f) (ho : i ∉ c.O := by exact of_decide_eq_false rfl) (hi : X.N[i]? = some x := by rfl) (hx : Loc X.env.scope x := by first | exact Or.inl rfl | exact Or.inr rfl) (hs : swapsWith e (some (.Name x pos')) pos.line X.env = pure false := by rfl) (hf : X.fn x = true \/ X.env.scope.names.lookup x = some .local := by first | exact .inl rfl | exact .inr rfl | assumption) :
  DS X c (.Assign [.Name x pos'] e pos) (zM i f) := by
 obtain ⟨t, p, w⟩ := he
 refine ⟨_, qiN hN hi hx p hs hf, fun U Z H D r h => w U Z H _ r (Wp.sbnd h fun d U1 v H1 r1 i1 g1 h1 => ?_)⟩
 exact h1 _ H1 (r1.set ho i1) (.set ho)
def DG (X : Cx) (c : Fc) (tg : Expr) (f : D -> Env -> Option Env) : Prop := ∃ g, PG X tg g /\ ∀ U Z H d v U' (N : St -> Hp -> Prop), Rep X.K c U Z H -> Is X.K (Cn c Z) H d v -> f d U = some U' ->
 (∀ Z', Rep X.K c U' Z' H -> GrS c.O Z H Z' H -> (∀ j ∈ c.O, Z'[j]? = Z[j]?) -> N Z' H) -> g v Z H N
def qF (i : Nat) : D -> Env -> Option Env := fun d U => some (U.set i (some d))
theorem qL {i : Nat} {x : Str} (hN : X.N.Nodup) (ho : i ∉ c.O := by exact of_decide_eq_false rfl) (hi : X.N[i]? = some x := by rfl) (hx : Loc X.env.scope x := by first | exact Or.inl rfl | exact Or.inr rfl) (hf : X.fn x = true \/ X.env.scope.names.lookup x = some .local := by first | exact .inl rfl | exact .inr rfl | assumption) {p : Pos} : DG X c (.Name x p) (qF i) := by
 refine ⟨_, qjH hN hi hx hf, fun U Z H d v U' N r h e k => ?_⟩
 cases e
 exact k _ (r.set ho h) (.set ho) fun j hj => zu fun e => ho (e ▸ hj)
def DGs (X : Cx) (c : Fc) (tgs : List Expr) (f : List D -> Env -> Option Env) : Prop := ∃ g, PGs X tgs g /\ ∀ U Z H ds vs U' (N : St -> Hp -> Prop), Rep X.K c U Z H -> IsL X.K (Cn c Z) H ds vs -> f ds U = some U' ->
 (∀ Z', Rep X.K c U' Z' H -> GrS c.O Z H Z' H -> (∀ j ∈ c.O, Z'[j]? = Z[j]?) -> N Z' H) -> g vs Z H N
def qdP : List D -> Env -> Option Env
 | [], U => some U
 | _, _ => none
def jM (f : D -> Env -> Option Env) (g : List D -> Env -> Option Env) : List D -> Env -> Option Env
 | d :: ds, U => (f d U).bind (g ds)
 | _, _ => none
theorem wZ : DGs X c [] qdP := by
 refine ⟨_, qjI, fun U Z H ds vs U' N r h e k => ?_⟩
 cases ds with
 | nil =>
  cases e
  exact ⟨h, k Z r .refl fun _ _ => rfl⟩
 | cons d ds => cases e
theorem z5 {tg : Expr} {tgs : List Expr} {f : D -> Env -> Option Env} {g : List D -> Env -> Option Env} (h1 : DG X c tg f) (h2 : DGs X c tgs g)
  (hs : (assignEach (tg :: tgs) X.env).map (·.2) = assign tg X.env :: (assignEach tgs X.env).map (·.2) := by rfl) : DGs X c (tg :: tgs) (jM f g) := by
 obtain ⟨t1, p1, w1⟩ := h1
 obtain ⟨t2, p2, w2⟩ := h2
 refine ⟨_, qhC p1 p2 hs, fun U Z H ds vs U' N r h e k => ?_⟩
 cases ds with
 | nil => cases e
 | cons d ds =>
  obtain ⟨v, ws, rfl, i1, i2⟩ := h
  have e' : (f d U).bind (g ds) = some U' := e
  cases e1 : f d U with
  | none => rw [e1] at e'; cases e'
  | some U1 =>
   rw [e1] at e'
   exact ⟨v, ws, rfl, w1 U Z H d v U1 _ r i1 e1 fun Z1 r1 g1 o1 => w2 U1 Z1 H ds ws U' N r1 (g1.isL i2) e' fun Z2 r2 g2 o2 => k Z2 r2 (g1.trans g2) fun j hj => (o2 j hj).trans (o1 j hj)⟩
def qes (n : Nat) (g : List D -> Env -> Option Env) : D -> Env -> Option Env
 | .tup ds, U => if ds.length = n then g ds U else none
 | _, _ => none
theorem qc1 {es : List Expr} {k n : Nat} {p : Pos} {g : List D -> Env -> Option Env} (hc : X.calm = true) (h : DGs X c es g) (hn : (assignEach es X.env).length = n := by rfl) (hst : (assignEach es X.env).findIdx? (·.1) = none := by rfl) : DG X c (.Tuple es k p) (qes n g) := by
 obtain ⟨t, p, w⟩ := h
 refine ⟨_, qlv (n := n) hc p hn hst, fun U Z H d v U' N r h e q => ?_⟩
 cases d with
 | tup ds =>
  obtain ⟨a, xs, rfl, ta, il⟩ := h
  have e' : (if ds.length = n then g ds U else none) = some U' := e
  by_cases hl : ds.length = n
  ·rw [if_pos hl] at e'
   exact ⟨a, xs, rfl, ta.sq, by rw [il.length]; exact hl, w U Z H ds xs U' N r il e' q⟩
  ·rw [if_neg hl] at e'; cases e'
 | _ => cases e
def qlX (f : M D) (g : D -> Env -> Option Env) : MS := sbnd f fun d U => match g d U with
 | some U' => .ok (.nx U')
 | none => .bad
theorem qiR {tg : Expr} {f : M D} {g : D -> Env -> Option Env} (he : DE X c e f) (hg : DG X c tg g) (hs : swapsWithSole [tg] e pos.line X.env = pure false := by rfl) (hw : swappedStores [tg] e X.env = pure none := by rfl) (h1 : (assignEach [tg] X.env).map (·.2) = [assign tg X.env] := by rfl) : DS X c (.Assign [tg] e pos) (qlX f g) := by
 obtain ⟨t, p, w⟩ := he
 obtain ⟨t2, p2, w2⟩ := hg
 refine ⟨_, qiM p p2 hs hw h1, fun U Z H D r h => w U Z H _ r (Wp.sbnd h fun d U1 v H1 r1 i1 g1 h1 => ?_)⟩
 cases e : g d U1 with
 | none => rw [e] at h1; exact h1.elim
 | some U2 =>
  rw [e] at h1
  exact w2 U1 Z H1 d v U2 _ r1 i1 e fun Z' r2 g2 _ => h1 Z' H1 r2 g2
end
section
variable {K : Fr0}
def iiD (g : Int -> Int -> D) : D -> D -> Option D
 | .int i, .int j => some (g i j)
 | _, _ => none
def qk9 (C : Int -> Int -> Bool) (g : Int -> Int -> D) : D -> D -> Option D
 | .int i, .int j => if C i j then some (g i j) else none
 | _, _ => none
theorem qa7 {g : Int -> Int -> V} {gD : Int -> Int -> D} (hg : ∀ A H i j, Is K A H (gD i j) (g i j)) : OpS K (iiD gD) (rI0 g) := by
 intro A H x y d v u Q hn ix iy e k
 cases x <;> cases y <;> simp only [iiD] at e <;> try (cases e; done)
 rename_i i j
 cases (Option.some.inj e)
 cases (show v = .int i from ix)
 cases (show u = .int j from iy)
 exact ⟨i, j, rfl, rfl, k _ H (jm.refl H) (hg _ _ _ _)⟩
theorem qiS {C : Int -> Int -> Prop} {CB : Int -> Int -> Bool} {g : Int -> Int -> V} {gD : Int -> Int -> D} (hC : ∀ i j, CB i j = true -> C i j) (hg : ∀ A H i j, Is K A H (gD i j) (g i j)) : OpS K (qk9 CB gD) (rI C g) := by
 intro A H x y d v u Q hn ix iy e k
 cases x <;> cases y <;> simp only [qk9] at e <;> try (cases e; done)
 rename_i i j
 obtain ⟨e1, e2⟩ := jg e
 subst e2
 cases (show v = .int i from ix)
 cases (show u = .int j from iy)
 exact ⟨i, j, rfl, rfl, hC i j e1, k _ H (jm.refl H) (hg _ _ _ _)⟩
def qiT : D -> D -> Option D := iiD fun i j => .int (i - j)
theorem qdQ : OpS K qiT (rI0 fun i j => .int (i - j)) := qa7 fun _ _ _ _ => rfl
def yd (i : Int) : Bool := decide (-(2 ^ 64) < i) && decide (i < 2 ^ 64)
theorem qc2 {i : Int} (h : yd i = true) : -(2 ^ 64) < i /\ i < 2 ^ 64 := by
 unfold yd at h
 rw [Bool.and_eq_true] at h
 exact ⟨of_decide_eq_true h.1, of_decide_eq_true h.2⟩
def qdR (i j : Int) : Bool := yd i || yd j
theorem qhM {i j : Int} (h : qdR i j = true) : qlC i j := by
 unfold qdR at h
 rw [Bool.or_eq_true] at h
 rcases h with h | h
 ·exact .inl (qc2 h)
 ·exact .inr (qc2 h)
def qfj (i j : Int) : Bool := decide (0 < j) && decide (j < 1606938044258990275541962092341162602522202993782792835301376)
theorem qet {i j : Int} (h : qfj i j = true) : qlB i j := by
 unfold qfj at h
 rw [Bool.and_eq_true] at h
 exact ⟨of_decide_eq_true h.1, of_decide_eq_true h.2⟩
def uO : D -> D -> Option D := qk9 qfj fun i j => .int (i / j)
theorem jD : OpS K uO (rI qlB fun i j => .int (i / j)) := qiS (fun _ _ => qet) fun _ _ _ _ => rfl
def qdS : D -> D -> Option D := qk9 (fun _ j => decide (0 < j)) fun i j => .int (i % j)
theorem wl : OpS K qdS (rI (fun _ j => 0 < j) fun i j => .int (i % j)) := qiS (fun _ _ h => of_decide_eq_true h) fun _ _ _ _ => rfl
def ltD : D -> D -> Option D := iiD fun i j => .bl (decide (i < j))
def leD : D -> D -> Option D := iiD fun i j => .bl (decide (i <= j))
def gtD : D -> D -> Option D := iiD fun i j => .bl (decide (j < i))
def geD : D -> D -> Option D := iiD fun i j => .bl (decide (j <= i))
theorem qlY : OpS K ltD (rI0 fun i j => .bl (decide (i < j))) := qa7 fun _ _ _ _ => rfl
theorem qc3 : OpS K leD (rI0 fun i j => .bl (decide (i <= j))) := qa7 fun _ _ _ _ => rfl
theorem qaz : OpS K gtD (rI0 fun i j => .bl (decide (j < i))) := qa7 fun _ _ _ _ => rfl
theorem qlZ : OpS K geD (rI0 fun i j => .bl (decide (j <= i))) := qa7 fun _ _ _ _ => rfl
def sc2 : D -> D -> Option Bool
 | .non, .non => some true | .non, .int _ => some false | .int _, .non => some false | .non, .bl _ => some false | .bl _, .non => some false | .non, .str _ => some false | .str _, .non => some false
 | .int i, .int j => some (decide (i = j)) | .bl i, .bl j => some (decide (i = j)) | .str i, .str j => some (decide (i = j))
 | .int _, .str _ => some false | .str _, .int _ => some false | .bl _, .str _ => some false | .str _, .bl _ => some false
 | _, _ => none
def eqS (x y : D) : Option D := (sc2 x y).map D.bl
def neS (x y : D) : Option D := (sc2 x y).map fun b => D.bl (!b)
theorem qiU {A : Addr -> Prop} {H : Hp} {x y : D} {v u : V} {b : Bool} (ix : Is K A H x v) (iy : Is K A H y u) (e : sc2 x y = some b) : qnx v u = true /\ decide (v = u) = b := by
 cases x <;> cases y <;> simp only [sc2] at e <;> first
  | (cases e; done)
  | (cases ix; cases iy; cases e; exact ⟨rfl, rfl⟩)
  | (cases ix; cases iy; cases e; exact ⟨rfl, by simp⟩)
  | (cases ix; cases iy; cases e; exact ⟨rfl, by rw [Bool.eq_iff_iff]; simp⟩)
theorem qjU : OpS K eqS rEq := by
 intro A H x y d v u Q hn ix iy e k
 unfold eqS at e
 cases e1 : sc2 x y with
 | none => rw [e1] at e; cases e
 | some b =>
  rw [e1] at e
  cases e
  obtain ⟨h1, h2⟩ := qiU ix iy e1
  exact ⟨h1, by rw [h2]; exact k _ H (jm.refl H) rfl⟩
theorem qjV : OpS K neS rNe := by
 intro A H x y d v u Q hn ix iy e k
 unfold neS at e
 cases e1 : sc2 x y with
 | none => rw [e1] at e; cases e
 | some b =>
  rw [e1] at e
  cases e
  obtain ⟨h1, h2⟩ := qiU ix iy e1
  exact ⟨h1, by rw [h2]; exact k _ H (jm.refl H) rfl⟩
def yx : D -> Bool
 | .non => true
 | _ => false
theorem qaM {A : Addr -> Prop} {H : Hp} {x : D} {v : V} (ix : Is K A H x v) : decide (v = V.non) = yx x := by
 cases x with
 | non => cases ix; rfl
 | bl b => cases ix; rfl
 | int i => cases ix; rfl
 | str s => cases ix; rfl
 | tup ds => obtain ⟨a, xs, rfl, _⟩ := ix; rfl
 | lst ds => obtain ⟨a, xs, rfl, _⟩ := ix; rfl
 | dic ds => obtain ⟨a, rfl, _⟩ := ix; rfl
 | fz ds => obtain ⟨a, rfl, _⟩ := ix; rfl
 | exc ds => obtain ⟨a, rfl, _⟩ := ix; rfl
def isN (x y : D) : Option D := if yx y then some (.bl (yx x)) else none
def qjW (x y : D) : Option D := if yx y then some (.bl (!yx x)) else none
theorem qb7 : OpS K isN (fun x y H Q => y = .non /\ Q (.bl (decide (x = .non))) H) := by
 intro A H x y d v u Q hn ix iy e k
 obtain ⟨e1, e2⟩ := jg e
 subst e2
 have h := qaM iy
 rw [e1] at h
 refine ⟨of_decide_eq_true h, ?_⟩
 rw [qaM ix]
 exact k _ H (jm.refl H) rfl
theorem qeu : OpS K qjW (fun x y H Q => y = .non /\ Q (.bl (!decide (x = .non))) H) := by
 intro A H x y d v u Q hn ix iy e k
 obtain ⟨e1, e2⟩ := jg e
 subst e2
 have h := qaM iy
 rw [e1] at h
 refine ⟨of_decide_eq_true h, ?_⟩
 rw [qaM ix]
 exact k _ H (jm.refl H) rfl
def ixD : D -> D -> Option D
 | .tup ds, .int i => atI ds i
 | .lst ds, .int i => atI ds i
 | .fz ns, .int i => (atI ns i).map D.int
 | _, _ => none
theorem IsL.atI {A : Addr -> Prop} {H : Hp} {ds : List D} {xs : List V} {i : Int} {d : D} (h : IsL K A H ds xs) (e : L2.atI ds i = some d) : ∃ v, L2.atI xs i = some v /\ Is K A H d v := by
 unfold L2.atI at e |-
 rw [h.length]
 cases e1 : ixN ds.length i with
 | none => rw [e1] at e; cases e
 | some j =>
  rw [e1] at e
  exact h.get e
theorem qp : OpS K ixD (fun x y H Q => qnF K x y H Q \/ qnG K x y H Q) := by
 intro A H x y d v u Q hn ix iy e k
 cases x <;> cases y <;> simp only [ixD] at e <;> try (cases e; done)
 ·rename_i ds i
  cases iy
  obtain ⟨a, xs, rfl, ta, il⟩ := ix
  obtain ⟨w, h1, h2⟩ := il.atI e
  exact .inr ⟨a, xs, i, w, rfl, rfl, ta.sq, h1, k w H (jm.refl H) h2⟩
 ·rename_i ds i
  cases iy
  obtain ⟨a, xs, rfl, _, ta, il⟩ := ix
  obtain ⟨w, h1, h2⟩ := il.atI e
  exact .inl ⟨a, xs, i, w, rfl, rfl, .inl (.inl ta), h1, k w H (jm.refl H) h2⟩
 ·rename_i ns i
  cases iy
  obtain ⟨a, rfl, ta⟩ := ix
  cases e1 : L2.atI ns i with
  | none => rw [e1] at e; cases e
  | some m =>
   rw [e1] at e
   cases e
   have h1 : L2.atI (ns.map V.int) i = some (V.int m) := by
    unfold L2.atI at e1 |-
    rw [lM_]
    cases e2 : ixN ns.length i with
    | none => rw [e2] at e1; cases e1
    | some j =>
     rw [e2] at e1
     have e3 : ns[j]? = some m := e1
     show (ns.map V.int)[j]? = some (V.int m)
     rw [gM_, e3]; rfl
   exact .inl ⟨a, _, i, .int m, rfl, rfl, ta.sq, h1, k _ H (jm.refl H) rfl⟩
theorem IsL.inv1 {A : Addr -> Prop} {H : Hp} {d : D} {vs : List V} (h : IsL K A H [d] vs) : ∃ v, vs = [v] /\ Is K A H d v := by
 obtain ⟨x, ys, e1, e2, e3⟩ := h
 have e3' : ys = [] := e3
 exact ⟨x, by rw [e1, e3'], e2⟩
theorem IsL.inv2 {A : Addr -> Prop} {H : Hp} {d d' : D} {vs : List V} (h : IsL K A H [d, d'] vs) : ∃ v w, vs = [v, w] /\ Is K A H d v /\ Is K A H d' w := by
 obtain ⟨x, ys, e1, e2, e3⟩ := h
 obtain ⟨w, e4, e5⟩ := IsL.inv1 e3
 exact ⟨x, w, by rw [e1, e4], e2, e5⟩
def qnd : List D -> Option D
 | [.int i] => some (.int (if i < 0 then -i else i))
 | _ => none
theorem qgc : qaF K qnd (fun xs H Q => ∃ i, xs = [.int i] /\ Q (.int (if i < 0 then -i else i)) H) := by
 intro A H xs d vs Q hn h e k
 unfold qnd at e
 split at e
 ·rename_i i
  obtain ⟨v, rfl, e2⟩ := IsL.inv1 h
  cases e2; cases e
  exact ⟨i, rfl, k _ H (jm.refl H) rfl⟩
 ·cases e
def qhN : List D -> Option D
 | [.int i, .int j] => some (.int (if j > i then j else i))
 | _ => none
def qfk : List D -> Option D
 | [.int i, .int j] => some (.int (if j < i then j else i))
 | _ => none
theorem qgd : qaF K qhN (fun xs H Q => ∃ i j, xs = [.int i, .int j] /\ Q (.int (if j > i then j else i)) H) := by
 intro A H xs d vs Q hn h e k
 unfold qhN at e
 split at e
 ·rename_i i j
  obtain ⟨v, w, rfl, e2, e3⟩ := IsL.inv2 h
  cases e2; cases e3; cases e
  exact ⟨i, j, rfl, k _ H (jm.refl H) rfl⟩
 ·cases e
theorem qc4 : qaF K qfk (fun xs H Q => ∃ i j, xs = [.int i, .int j] /\ Q (.int (if j < i then j else i)) H) := by
 intro A H xs d vs Q hn h e k
 unfold qfk at e
 split at e
 ·rename_i i j
  obtain ⟨v, w, rfl, e2, e3⟩ := IsL.inv2 h
  cases e2; cases e3; cases e
  exact ⟨i, j, rfl, k _ H (jm.refl H) rfl⟩
 ·cases e
def qa8 : List D -> Option D
 | [.int i, .int j] => if qfj i j then some (.tup [.int (i / j), .int (i % j)]) else none
 | _ => none
theorem qc5 : qaF K qa8 (fun xs H Q => ∃ i j, xs = [.int i, .int j] /\ qlB i j /\ ∀ p, H p = none -> Q (.ref p) (upd H p (.tup [.int (i / j), .int (i % j)]))) := by
 intro A H xs d vs Q hn h e k
 unfold qa8 at e
 split at e
 ·rename_i i j
  obtain ⟨v, w, rfl, e2, e3⟩ := IsL.inv2 h
  cases e2; cases e3
  obtain ⟨e6, e7⟩ := jg e
  subst e7
  exact ⟨i, j, rfl, qet e6, fun p hp => k _ _ (qA hp _) ⟨p, _, rfl, .inl qw, _, _, rfl, rfl, _, _, rfl, rfl, rfl⟩⟩
 ·cases e
def qoZ : List D -> Option D
 | [.int i] => some (.int i)
 | [.bl b] => some (.int (if b then 1 else 0))
 | _ => none
def qdT : List D -> Option D
 | [.tup ds] => some (.int ds.length)
 | [.lst ds] => some (.int ds.length)
 | [.fz ns] => some (.int ns.length)
 | [.str x] => if qO x.length then some (.int x.length) else none
 | _ => none
def qoo (K : Fr0) : List V -> Hp -> VK -> Prop := fun xs H Q => (∃ p ys, xs = [.ref p] /\ (SqL K H p ys \/ SqT K H p ys) /\ Q (.int ys.length) H) \/ (∃ z, xs = [.str z] /\ z.length <= sizeLine /\ Q (.int z.length) H)
theorem jE {X : Cx} : ut X (.builtin "len") (qoo X.K) := ut.or qcV qcW
theorem ye : qaF K qdT (qoo K) := by
 intro A H xs d vs Q hn h e k
 unfold qdT at e
 split at e
 ·obtain ⟨v, rfl, a, zs, rfl, ta, il⟩ := IsL.inv1 h
  cases e
  exact .inl ⟨a, zs, rfl, .inr ta.sq, by rw [il.length]; exact k _ H (jm.refl H) rfl⟩
 ·obtain ⟨v, rfl, a, zs, rfl, _, ta, il⟩ := IsL.inv1 h
  cases e
  exact .inl ⟨a, zs, rfl, .inl (.inl (.inl ta)), by rw [il.length]; exact k _ H (jm.refl H) rfl⟩
 ·obtain ⟨v, rfl, a, rfl, ta⟩ := IsL.inv1 h
  cases e
  exact .inl ⟨a, _, rfl, .inl ta.sq, by rw [lM_]; exact k _ H (jm.refl H) rfl⟩
 ·rename_i z
  obtain ⟨v, rfl, e2⟩ := IsL.inv1 h
  cases e2
  obtain ⟨e4, e5⟩ := jg e
  subst e5
  exact .inr ⟨z, rfl, of_decide_eq_true e4, k _ H (jm.refl H) rfl⟩
 ·cases e
def qev : List D -> Option D
 | [.tup ds] => some (.tup ds)
 | [.lst ds] => some (.tup ds)
 | _ => none
theorem qdU : qaF K qev (fun xs H Q => ∃ p ys, xs = [.ref p] /\ ((SqL K H p ys /\ ∀ l, H l = none -> Q (.ref l) (upd H l (.tup ys))) \/ (SqT K H p ys /\ Q (.ref p) H))) := by
 intro A H xs d vs Q hn h e k
 unfold qev at e
 split at e
 ·obtain ⟨v, rfl, a, zs, rfl, ta, il⟩ := IsL.inv1 h
  cases e
  exact ⟨a, zs, rfl, .inr ⟨ta.sq, k _ H (jm.refl H) ⟨a, zs, rfl, ta, il⟩⟩⟩
 ·obtain ⟨v, rfl, a, zs, rfl, _, ta, il⟩ := IsL.inv1 h
  cases e
  exact ⟨a, zs, rfl, .inl ⟨.inl (.inl ta), fun l hl => k _ _ (qA hl _) ⟨l, zs, rfl, .inl qw, IsL.ext (Ext.of_same (qA hl _)) (fun _ h _ => h) il⟩⟩⟩
 ·cases e
end
end L2.Sk
namespace L2.Sk
open PySem PySem.Spec PySem.Calls PyProof.Rows PySem.W
def qiV (h : Heap) (a D : Addr) : Prop := ∃ o, h.get? a = some o /\ o.cls = .ref D
theorem qiV.looks {M : Model} {h : Heap} {a D : Addr} (I : qiV h a D) : Looks M h (typeOf (.ref a)) (.ref D) := by
 obtain ⟨o, h1, h2⟩ := I
 rw [<- h2]
 exact (Looks.ld h1).andThen .now
section
variable {prog : Program} {w : World} {A : Around} {E : Value -> Shared -> Prop} {K : Frag} {h : Heap} {g : Array GenState} {d : Drawn} {t : Nat} {os : OsState} {a D : Addr}
theorem ql0 (hm : mroIn K D (.type "object") = some true) {tp : Value} {R : Result -> Shared -> Prop} (X : K.In h) (I : qiV h a D) (hq : R (.ok (.ret (.ref D))) ⟨h, g, d, t, os⟩) :
  codeAny (model prog w) A (.call (.builtin "getset_descriptor.__get__") ⟨[.builtin "object.__class__", .ref a, tp], []⟩) R ⟨h, g, d, t, os⟩ := by
 have L0 := I.looks (M := model prog w)
 have L1 := looks_mroIn (M := model prog w) X hm
 have hT5 : (⟨h, g, d, t, os⟩ : Shared).TypeIs (.builtin "object.__class__") "getset_descriptor" := F.typeOf_object_class
 refine codeAny_call_builtin F.slot_gs_get.plain F.entry_gs_get (F.slot_gs_get.check _ _ _ _ _ _ _ _ hT5 (F.args_gs_get _ _ _) ?_)
 have eo : ".".intercalate ("object.__class__".cutAt '.').dropLast = "object" := by decide +kernel
 repeat (any_goals (first | assumption | with_reducible refine L0.at ?_ | with_reducible refine L1.at ?_ | wp_step))
 rw [eo]
 refine L1.at ?_
 repeat (any_goals (first | assumption | with_reducible refine L0.at ?_ | wp_step))
 refine ⟨Code.quiet_builtin _ (by decide +kernel), codeAny_builtin F.entry_object_class ?_⟩
 repeat (any_goals (first | assumption | with_reducible refine L0.at ?_ | wp_step))
theorem qhO (ha : findIn K (.ref D) "__class__" = some (some (.builtin "object.__class__"))) (hm : mroIn K D (.type "object") = some true) {tk : Tok} {Q : Fin -> Shared -> Prop} (X : K.In h) (I : qiV h a D) (hq : Q (.done (.ret (.ref D))) ⟨h, g, d, t, os⟩) :
  wpAny (model prog w) A (Builtin.«object.__getattribute__» ⟨[.ref a, .str "__class__" tk], []⟩) Q E ⟨h, g, d, t, os⟩ := by
 have L0 := I.looks (M := model prog w)
 have L1 := looks_findIn (M := model prog w) X ha
 have hT5 : (⟨h, g, d, t, os⟩ : Shared).TypeIs (.builtin "object.__class__") "getset_descriptor" := F.typeOf_object_class
 have f5 := F.typeOf_object_class
 have f6 := F.slot_gs_get.lookup
 have f7 := F.slot_gs_set.lookup
 repeat (any_goals (first | assumption | with_reducible refine L0.at ?_ | with_reducible refine L1.at ?_ | wp_step))
 refine ql0 hm X I ?_
 repeat (any_goals (first | assumption | wp_step))
theorem qhP (hb : Looks (model prog w) h (isSubtype (.ref D) (.type "BaseException")) true) {nameV : Value} {Q : Unit -> Shared -> Prop} (I : qiV h a D) (hq : Q () ⟨h, g, d, t, os⟩) : wpAny (model prog w) A (checkBuiltinCall "BaseException.__getattribute__" ⟨[.ref a, nameV], []⟩) Q E ⟨h, g, d, t, os⟩ := by
 have hk : builtinKind "BaseException.__getattribute__" = some .slot := by decide +kernel
 have hsplit : splitId "BaseException.__getattribute__" = some ("BaseException", "__getattribute__") := by decide +kernel
 have L0 := I.looks (M := model prog w)
 have ha := F.args_bexc_ga (.ref a) nameV
 simp only [checkBuiltinCall, hk, hsplit]
 refine wpAny_bind ?_
 ·unfold isInstance
  repeat (first | with_reducible refine L0.at ?_ | with_reducible refine hb.at ?_ | wp_step)
  exact hq
theorem qnJ (FA : ExcAttrFacts "ValueError") (hga : findIn K (.ref D) "__getattribute__" = some (some (.builtin "BaseException.__getattribute__"))) (hgt : findIn K (.ref D) "__getattr__" = some none) (ha : findIn K (.ref D) "__class__" = some (some (.builtin "object.__class__"))) (hm : mroIn K D (.type "object") = some true)
  (hb : Looks (model prog w) h (isSubtype (.ref D) (.type "BaseException")) true) {tk : Tok} {fill expr : Bool} {Q : Value -> Shared -> Prop} (X : K.In h) (I : qiV h a D) (hq : Q (.ref D) ⟨h, g, d, t, os⟩) :
  wpAny (model prog w) A (getAttrBy (.ref a) (.str "__class__" tk) fill expr) Q E ⟨h, g, d, t, os⟩ := by
 have L0 := I.looks (M := model prog w)
 have L1 := looks_findIn (M := model prog w) X hga
 have L2 := looks_findIn (M := model prog w) X hgt
 have f3 := FA.ga.bind (.ref a)
 have hx0 : (expr && onTheHeap (Value.builtin "BaseException.__getattribute__")) = false := by cases expr <;> rfl
 have hx2 : (Value.builtin "BaseException.__getattribute__" == Value.builtin "object.__getattribute__") = false := by decide +kernel
 have hx1 : (onTheHeap (Value.ref D) && Value.builtin "BaseException.__getattribute__" == Value.builtin "object.__getattribute__") = false := by rw [hx2]; rfl
 repeat (any_goals (first | assumption | with_reducible refine L0.at ?_ | with_reducible refine L1.at ?_ | with_reducible refine L2.at ?_ | wp_step))
 refine codeAny_call_builtin FA.ga.plain F.entry_bexc_ga (qhP hb I (qhO ha hm X I ?_))
 repeat (any_goals (first | assumption | wp_step))
theorem qjX (FA : ExcAttrFacts "ValueError") (hga : findIn K (.ref D) "__getattribute__" = some (some (.builtin "BaseException.__getattribute__"))) (hgt : findIn K (.ref D) "__getattr__" = some none) (ha : findIn K (.ref D) "__class__" = some (some (.builtin "object.__class__"))) (hm : mroIn K D (.type "object") = some true)
  (hb : Looks (model prog w) h (isSubtype (.ref D) (.type "BaseException")) true) {Q : Option Value -> Shared -> Prop} (X : K.In h) (I : qiV h a D) (hq : Q (some (.ref D)) ⟨h, g, d, t + 1, os⟩) :
  wpAny (model prog w) A (getAttr? (.ref a) "__class__") Q E ⟨h, g, d, t, os⟩ := by
 unfold getAttr? getAttrBy?
 repeat (any_goals (first | assumption | with_reducible apply qnJ FA hga hgt ha hm hb X I | wp_step))
end
theorem qhQ {K : Frag} {a D : Addr} (c : XK6 K D) : KitX K (.ref a) (.ref D) (fun h => qiV h a D) where
 ty := fun _ _ _ I => I.looks
 it := fun _ _ X _ => by
  obtain ⟨cdD, hcD⟩ := Option.isSome_iff_exists.mp c.is
  unfold clsIn at hcD
  split at hcD
  ·rename_i c' d' cd' sl' ho
   intro A' Q' E' s' k q
   unfold isType loadHead
   exact wpAny_bind (wpAny_loadPart (k _ _ (X _ _ ho)) (wpAny_pure q))
  ·cases hcD
 ne := fun h tp dd its n sl X htp => by
  obtain ⟨cdD, hcD⟩ := Option.isSome_iff_exists.mp c.is
  refine Bool.eq_false_iff.mpr fun q => ?_
  have e : D = tp := Value.ref.inj (beq_iff_eq.mp q)
  subst e
  unfold clsIn at hcD
  split at hcD
  ·rename_i c' d' cd' sl' ho
   have z := (X _ _ ho).symm.trans htp
   cases z
  ·cases hcD
 ca := fun {prog w A E Q s} X p k => by
  have I := p
  obtain ⟨h, g, d, t, os⟩ := s
  exact qjX PySem.F.attrBase_ValueError.toExcAttrFacts c.ga c.gt c.cl c.ob (looks_subIn X c.be) X I k
theorem qfl {X : Cx} {pins : List (Addr × Obj)} {Z : St} {H : Hp} {s : Shared} {A : Around} {E : Value -> Shared -> Prop} {Q : Value -> Shared -> Prop} {a C : Addr} {c : Value} {b : Bool} (I : Inv X pins Z H s) (xc : XK6 X.K C) (hH : ∃ o vs, H a = some (.frz o (.own a)) /\ o.cls = .ref C /\ o.data = .fields vs)
  (e : kitOne X.K (.ref C) c = some b) (h : ∀ tk, Q (.bool b) { s with toks := tk }) : wpAny (model X.prog X.w) A (call (.builtin "isinstance") [.ref a, c]) Q E s := by
 obtain ⟨o, vs, h1, h2, _⟩ := hH
 obtain ⟨p, _⟩ := (show yU X.prog X.w H s.heap a (.frz o (.own a)) from I.hok a _ h1)
 exact kia_one (qhQ xc) I.kIn ⟨o, p, h2⟩ e (fun z => nomatch z) h
end L2.Sk
namespace L2.Sk
open PySem PySem.Spec PyProof.Rows
def tyD : D -> String
 | .non => "NoneType"
 | .bl _ => "bool"
 | .int _ => "int"
 | .str _ => "str"
 | .tup _ => "tuple"
 | .lst _ => "list"
 | .dic _ => "dict"
 | .fz _ => "list"
 | .exc _ => "exc"
def qdV (t T : String) : Bool := t == T || (t == "bool" && T == "int")
def qfm : List String := ["NoneType", "bool", "int", "str", "tuple", "list", "dict"]
theorem qjY (d : D) (h : ∀ C, d ≠ .exc C) : tyD d ∈ qfm := by
 cases d <;> first | (simp [tyD, qfm]; done) | exact absurd rfl (h _)
structure qla (K : Fr0) (T : String) : Prop where
 ok : ∀ t ∈ qfm, PySem.W.kitOne K (.type t) (.type T) = some (qdV t T)
 ex : T ∈ ["int", "bool", "str", "tuple", "list", "dict"]
 nx : qdV "exc" T = false
theorem qjZ {K : Fr0} : qla K "int" := ⟨fun t ht => by
 simp only [qfm, List.mem_cons, nN_, or_false] at ht
 rcases ht with rfl | rfl | rfl | rfl | rfl | rfl | rfl <;> kernel_rfl, by decide, by decide⟩
theorem qhR {K : Fr0} : qla K "bool" := ⟨fun t ht => by
 simp only [qfm, List.mem_cons, nN_, or_false] at ht
 rcases ht with rfl | rfl | rfl | rfl | rfl | rfl | rfl <;> kernel_rfl, by decide, by decide⟩
theorem wE {K : Fr0} : qla K "tuple" := ⟨fun t ht => by
 simp only [qfm, List.mem_cons, nN_, or_false] at ht
 rcases ht with rfl | rfl | rfl | rfl | rfl | rfl | rfl <;> kernel_rfl, by decide, by decide⟩
section
variable {X : Cx} {pins : List (Addr × Obj)} {Z : St} {H : Hp} {s : Shared} {A : Addr -> Prop} {E : Value -> Shared -> Prop} {Q : Value -> Shared -> Prop}
theorem ql1 {d : D} {v : V} {u : Value} {T : String} (I : Inv X pins Z H s) (h : Is X.K A H d v) (rv : jN v u) (kt : qla X.K T) (hQ : ∀ tk, Q (.bool (qdV (tyD d) T)) { s with toks := tk }) :
  wpAny (model X.prog X.w) X.A (call (.builtin "isinstance") [u, .type T]) Q E s := by
 by_cases hx : ∃ C, d = .exc C
 ·obtain ⟨C, rfl⟩ := hx
  obtain ⟨a, rfl, xa⟩ := h
  cases (show u = Value.ref a from rv)
  have q : ∀ tk, Q (.bool false) { s with toks := tk } := fun tk => by
   have := hQ tk
   rw [show tyD (.exc C) = "exc" from rfl, kt.nx] at this
   exact this
  obtain ⟨D0, h0, h1, h2⟩ := xa
  exact qfl I h1 h2 (h1.no T kt.ex) q
 have e := kt.ok (tyD d) (qjY d fun C hC => hx ⟨C, hC⟩)
 cases d with
 | exc C => exact absurd ⟨C, rfl⟩ hx
 | non => cases h; exact uC I rv .non e hQ
 | bl b => cases h; exact uC I rv (.bl b) e hQ
 | int i => cases h; exact uC I rv (.int i) e hQ
 | str x => cases h; exact uC I rv (.str x) e hQ
 | tup ds =>
  obtain ⟨a, xs, rfl, ta, il⟩ := h
  cases (show u = Value.ref a from rv)
  obtain ⟨its, r, p, z⟩ := I.tuple ta.sq
  obtain ⟨o, h1, h2, _⟩ := p
  exact PySem.W.kia_one PySem.W.kitx_tuple I.kIn ⟨o, h1, h2⟩ e (fun z => nomatch z) hQ
 | lst ds =>
  obtain ⟨a, xs, rfl, hA, ta, il⟩ := h
  exact uC I rv (.lst ta) e hQ
 | dic kvs =>
  obtain ⟨a, rfl, hA, ta⟩ := h
  exact uC I rv (.dK ta) e hQ
 | fz ns =>
  obtain ⟨a, rfl, ta⟩ := h
  cases (show u = Value.ref a from rv)
  obtain ⟨its, r, p, z⟩ := I.list ta.sq
  obtain ⟨o, h1, h2, _⟩ := p.isList
  exact PySem.W.kia_one PySem.W.kitx_list I.kIn ⟨o, h1, h2⟩ e (fun z => nomatch z) hQ
end
def qhS (T : String) (f : M D) : M D := bnd f fun d => ret (.bl (qdV (tyD d) T))
section
variable {X : Cx} {c : Fc} {a b e : Expr} {pos : Pos}
def qo0 (K : Fr0) (T : String) : List V -> Hp -> VK -> Prop := fun xs H Q => ∃ v d A, xs = [v, .ty T] /\ Is K A H d v /\ Q (.bl (qdV (tyD d) T)) H
theorem qhT {T : String} (kt : qla X.K T) : ut X (.builtin "isinstance") (qo0 X.K T) := by
 intro pins s Z H xs us Q I r h
 obtain ⟨v, d, A, rfl, hi, q⟩ := h
 obtain ⟨u, w, rfl, r1, r2⟩ := zg.two r
 cases (show w = Value.type T from r2)
 exact ql1 I hi r1 kt fun tk => ⟨.bl _, H, I.tok tk, rfl, q⟩
theorem qbN {T : String} {x : Str} {p p2 : Pos} {f : M D} (kt : qla X.K T) (hg : Gl X "isinstance") (hm : X.mg "isinstance" = none) (hg2 : Gl X x) (hm2 : X.mg x = none) (hv2 : bootBuiltins x = some (.type T)) (ha : DE X c a f)
  (hv : bootBuiltins "isinstance" = some (.builtin "isinstance") := by first | rfl | exact PySem.boot_isinstance) (hn2 : x ≠ "__name__" := by decide) (hdb2 : (x == ("__debug__" : Str)) = false := by decide)
  (he : starEach [a, .Name x p2] X.env = (false, eval a X.env) :: starEach [.Name x p2] X.env := by rfl) (hpl : (backTo pos (starEach [.Name x p2] X.env)).any (·.1) = false := by rfl) : DE X c (.Call (.Name "isinstance" p) [a, .Name x p2] [] pos) (qhS T f) := by
 obtain ⟨t, pa, w⟩ := ha
 refine ⟨_, qb4 (qhT kt) hg hm hv (uu pa (uu (qjC (v := .ty T) hg2 hm2 hv2 rfl hn2 hdb2) qaX (by rfl)) he) (by decide) (by decide) he hpl, fun U Z H Q r h => w U Z H _ r (Wp.bnd h fun d U1 v H1 r1 i1 g1 h1 => ?_)⟩
 exact ⟨v, d, _, rfl, i1, h1 _ H1 r1 rfl .refl⟩
end
def vp : List D -> Option (List Bool)
 | [] => some []
 | .bl b :: r => (vp r).map (b :: ·)
 | _ => none
def wF : List D -> Option (List Int)
 | [] => some []
 | .int i :: r => (wF r).map (i :: ·)
 | _ => none
theorem qa9 {K : Fr0} {A : Addr -> Prop} {H : Hp} : ∀ {ds : List D} {xs : List V} {bs : List Bool}, IsL K A H ds xs -> vp ds = some bs -> xs = bs.map V.bl
 | [], _, _, h, e => by cases e; exact h
 | .bl b :: r, _, bs, ⟨x, ys, hx, h1, h2⟩, e => by
  cases h1
  cases e1 : vp r with
  | none => simp [vp, e1] at e
  | some l =>
   simp [vp, e1] at e
   subst e
   rw [hx, qa9 h2 e1]; rfl
 | .non :: _, _, _, _, e => by cases e
 | .int _ :: _, _, _, _, e => by cases e
 | .str _ :: _, _, _, _, e => by cases e
 | .tup _ :: _, _, _, _, e => by cases e
 | .lst _ :: _, _, _, _, e => by cases e
 | .dic _ :: _, _, _, _, e => by cases e
 | .fz _ :: _, _, _, _, e => by cases e
 | .exc _ :: _, _, _, _, e => by cases e
theorem w5 {K : Fr0} {A : Addr -> Prop} {H : Hp} : ∀ {ds : List D} {xs : List V} {bs : List Int}, IsL K A H ds xs -> wF ds = some bs -> xs = bs.map V.int
 | [], _, _, h, e => by cases e; exact h
 | .int b :: r, _, bs, ⟨x, ys, hx, h1, h2⟩, e => by
  cases h1
  cases e1 : wF r with
  | none => simp [wF, e1] at e
  | some l =>
   simp [wF, e1] at e
   subst e
   rw [hx, w5 h2 e1]; rfl
 | .non :: _, _, _, _, e => by cases e
 | .bl _ :: _, _, _, _, e => by cases e
 | .str _ :: _, _, _, _, e => by cases e
 | .tup _ :: _, _, _, _, e => by cases e
 | .lst _ :: _, _, _, _, e => by cases e
 | .dic _ :: _, _, _, _, e => by cases e
 | .fz _ :: _, _, _, _, e => by cases e
 | .exc _ :: _, _, _, _, e => by cases e
theorem qhU {bs : List Bool} : ∀ {us : List Value}, zg (bs.map V.bl) us -> LSm.BoolsAre us bs := by
 induction bs with
 | nil => intro us r; rw [List.map_nil] at r; cases r; exact .nil
 | cons b bs ih =>
  intro us r
  rw [mC_] at r
  cases r with
  | cons r1 r2 =>
   cases (show _ = Value.bool b from r1)
   exact .cons b (ih r2)
section
variable {X : Cx}
theorem qew (hc : X.calm = true) : ut X (.builtin "all") (fun xs H Q => ∃ (p : Addr) (bs : List Bool), xs = [.ref p] /\ H p = some (.lst (bs.map V.bl)) /\ Q (.bl (bs.all id)) H) := by
 intro pins s Z H xs us Q I r h
 obtain ⟨p, bs, rfl, hp, q⟩ := h
 obtain ⟨u, rfl, ru⟩ := zg.one r
 cases ru
 obtain ⟨its, rv, pl, hz⟩ := I.list (SqL.of hp)
 have hl := pl.isList
 have hb := qhU rv
 have hlt : p < s.heap.objs.size := by obtain ⟨_, e, _⟩ := hl; exact Heap.lt_size e
 refine call_all_walk (wpAny_pyIter_list hl ?_)
 refine ⟨s.heap.objs.size, [s.heap.objs.size, p], [s.heap.objs.size], its.toArray.size, _, _, fun i => (bs[i]?).getD true, rfl, Walks.list (A := X.A.in1) (I.ok.hd hc) _ p (Nat.ne_of_lt hlt) its.toArray,
  ⟨⟨_, Heap.get?_push_size _ rfl, rfl, rfl⟩, hl.push _⟩, fun i v s' Q' E' hP hQ => ?_, fun h' tk hk => ?_⟩
 ·obtain ⟨b, e, rfl⟩ := hb.get i v (by simpa using hP)
  simp only [e, Option.getD_some] at hQ
  exact wpAny_truthy_bool hQ
 ·have e : ((List.range its.toArray.size).all fun i => (bs[i]?).getD true) = bs.all id := by
   rw [sT_, hb.length]; exact LSm.range_all bs
  rw [e]
  exact ⟨.bl _, H, I.kept (LSm.kept_iter hk), rfl, q⟩
theorem qhV (hc : X.calm = true) : ut X (.builtin "sum") (fun xs H Q => ∃ (p : Addr) (ns : List Int), xs = [.ref p] /\ H p = some (.lst (ns.map V.int)) /\ Q (.int ns.sum) H) := by
 intro pins s Z H xs us Q I r h
 obtain ⟨p, ns, rfl, hp, q⟩ := h
 obtain ⟨u, rfl, ru⟩ := zg.one r
 cases ru
 obtain ⟨its, rv, pl, hz⟩ := I.list (SqL.of hp)
 have hl := pl.isList
 have hi : IntsAre its ns := qbM rv
 obtain ⟨zs, hx⟩ := hi.allInts.items
 have hl' : s.heap.IsList p (intItems zs) := hx ▸ hl
 refine sum_intListG (I.ok.hd hc) hl' fun h' tk t' hk => ?_
 have e1 : ns = zs.toList.map (·.1) := by
  rw [<- nums_intItems, <- hx]
  exact (show numsOf its.toArray.toList = ns from hi.numsOf).symm
 have e2 : preSum (numAt zs) zs.size = ns.sum := by
  rw [preSum_eq, List.take_of_length_le (by simp), e1]
 rw [e2]
 exact ⟨.int _, H, I.kept hk, ⟨_, rfl⟩, q⟩
end
def qiW : List D -> Option D
 | [.lst ds] => (vp ds).map fun bs => .bl (bs.all id)
 | _ => none
def ql2 : List D -> Option D
 | [.lst ds] => (wF ds).map fun bs => .int bs.sum
 | _ => none
section
variable {K : Fr0}
theorem qc6 : qaF K qiW (fun xs H Q => ∃ (p : Addr) (bs : List Bool), xs = [.ref p] /\ H p = some (.lst (bs.map V.bl)) /\ Q (.bl (bs.all id)) H) := by
 intro A H xs d vs Q hn h e k
 unfold qiW at e
 split at e
 ·obtain ⟨v, rfl, a, zs, rfl, _, ta, il⟩ := IsL.inv1 h
  obtain ⟨bs, h1, h2⟩ := Option.map_eq_some_iff.mp e
  subst h2
  rw [qa9 il h1] at ta
  exact ⟨a, bs, rfl, ta, k _ H (jm.refl H) rfl⟩
 ·cases e
theorem qge : qaF K ql2 (fun xs H Q => ∃ (p : Addr) (ns : List Int), xs = [.ref p] /\ H p = some (.lst (ns.map V.int)) /\ Q (.int ns.sum) H) := by
 intro A H xs d vs Q hn h e k
 unfold ql2 at e
 split at e
 ·obtain ⟨v, rfl, a, zs, rfl, _, ta, il⟩ := IsL.inv1 h
  obtain ⟨bs, h1, h2⟩ := Option.map_eq_some_iff.mp e
  subst h2
  rw [w5 il h1] at ta
  exact ⟨a, bs, rfl, ta, k _ H (jm.refl H) rfl⟩
 ·cases e
end
section
variable {X : Cx}
def qiX (K : Fr0) : R2 := fun x y H Q => ∃ a b ys, x = .ref a /\ y = .ref b /\ SqT K H a [] /\ SqT K H b ys /\ Q (.ref b) H
theorem qhW : OpR X (binaryOp .Add) (qiX X.K) := by
 intro pins s Z H x y v u Q I rx ry h
 obtain ⟨a, b, ys, rfl, rfl, ha, hb, q⟩ := h
 cases rx
 cases ry
 obtain ⟨its, r1, p1, _⟩ := I.tuple ha
 obtain ⟨its2, r2, p2, _⟩ := I.tuple hb
 cases r1
 obtain ⟨⟨cls, dd, data, sl⟩, ho, hc, n, hd⟩ := id p1
 obtain ⟨⟨cls2, dd2, data2, sl2⟩, ho2, hc2, n2, hd2⟩ := id p2
 simp only at hc hd hc2 hd2
 subst hc hd hc2 hd2
 exact concat_meets ⟨_, ho, rfl⟩ ⟨_, ho2, rfl⟩ noFill_tuple_add seq_tuple_add PySem.F.slot_tuple_add PySem.F.entry_tuple_add (PySem.F.args_tuple_add_2 _ _)
   (tuple_addW0 a b [].toArray its2.toArray n n2 dd dd2 sl sl2 (by simp)) ⟨ho, ho2, ⟨.ref b, H, I, rfl, q⟩⟩
def ql3 (K : Fr0) : R2 := fun x y H Q => (∃ i j, x = .int i /\ y = .int j /\ Q (.int (i + j)) H) \/ ((∃ i j, x = .str i /\ y = .str j /\ i.length + j.length <= sizeLine /\ Q (.str (i ++ j)) H) \/ (qiX K x y H Q \/ (qlM K x y H Q \/ qol x y H Q)))
theorem zv : OpR X (binaryOp .Add) (ql3 X.K) := OpR.or qlD (OpR.or qfg (OpR.or qhW (OpR.or qjO qlS)))
end
def ue : D -> D -> Option D
 | .int i, .int j => some (.int (i + j))
 | .str x, .str y => if qO (x.length + y.length) then some (.str (x ++ y)) else none
 | .tup xs, .tup ys => if qO (xs.length + ys.length) then some (.tup (xs ++ ys)) else none
 | .lst xs, .lst ys => if qO (xs.length + ys.length) then some (.lst (xs ++ ys)) else none
 | _, _ => none
theorem zw {K : Fr0} : OpS K ue (ql3 K) := by
 intro A H x y d v u Q hn ix iy e k
 cases x <;> cases y <;> simp only [ue] at e <;> try (cases e; done)
 ·rename_i i j
  cases ix; cases iy; cases e
  exact .inl ⟨i, j, rfl, rfl, k _ H (jm.refl H) rfl⟩
 ·rename_i i j
  cases ix; cases iy
  obtain ⟨e1, e2⟩ := jg e
  subst e2
  exact .inr (.inl ⟨i, j, rfl, rfl, of_decide_eq_true e1, k _ H (jm.refl H) rfl⟩)
 ·rename_i ds es
  obtain ⟨a, xs, rfl, ta, il⟩ := ix
  obtain ⟨b, ys, rfl, tb, jl⟩ := iy
  obtain ⟨e1, e2⟩ := jg e
  subst e2
  have hs : xs.length + ys.length <= sizeLine := by rw [il.length, jl.length]; exact of_decide_eq_true e1
  refine .inr (.inr ?_)
  cases ds with
  | nil =>
   have hx : xs = [] := il
   subst hx
   exact .inl ⟨a, b, ys, rfl, rfl, ta.sq, tb.sq, k _ H (jm.refl H) ⟨b, ys, rfl, tb, jl⟩⟩
  | cons d0 ds =>
   refine .inr (.inl ⟨a, b, xs, ys, rfl, rfl, ta.sq, tb.sq, ?_, hs, fun hy => ?_, fun hy p hp => ?_⟩)
   ·obtain ⟨x, zs, hx, _⟩ := il
    rw [hx]; simp
   ·subst hy
    cases es with
    | nil => rw [List.append_nil] at k; exact k _ H (jm.refl H) ⟨a, xs, rfl, ta, il⟩
    | cons e0 es => obtain ⟨_, _, hx, _⟩ := jl; cases hx
   ·exact k _ _ (qA hp _) ⟨p, xs ++ ys, rfl, .inl qw, IsL.ext (Ext.of_same (qA hp _)) (fun _ h _ => h) (IsL.append il jl)⟩
 ·rename_i ds es
  obtain ⟨a, xs, rfl, hA, ta, il⟩ := ix
  obtain ⟨b, ys, rfl, hB, tb, jl⟩ := iy
  obtain ⟨e1, e2⟩ := jg e
  subst e2
  have hs : xs.length + ys.length <= sizeLine := by rw [il.length, jl.length]; exact of_decide_eq_true e1
  exact .inr (.inr (.inr (.inr ⟨a, b, xs, ys, rfl, rfl, ta, tb, hs, fun p hp => k _ _ (qA hp _) ⟨p, xs ++ ys, rfl, hn p hp, qw, IsL.ext (Ext.of_same (qA hp _)) (fun _ h _ => h) (IsL.append il jl)⟩⟩)))
section
variable {X : Cx}
end
def qnK (xs : List D) (lo hi : Option Int) : List D := (xs.drop (HT.sIx xs.length 0 lo)).take (HT.sIx xs.length xs.length hi - HT.sIx xs.length 0 lo)
def slD (x : D) (lo hi : Option Int) : Option D := match x with
 | .tup ds => some (.tup (qnK ds lo hi))
 | _ => none
section
variable {X : Cx} {c : Fc} {a b e : Expr} {pos p2 : Pos}
def asI : D -> Option Int
 | .int i => some i
 | _ => none
def ql4 (f : M D) : M (Option Int) := bnd f fun d => match d with
 | .int i => ret (some i)
 | _ => fun _ => .bad
def dsl (f : M D) (g k : M (Option Int)) : M D := bnd f fun d => bnd g fun l => bnd k fun u => lift (slD d l u)
end
def zD (X : Cx) (scope : Scope) (N' : List Str) (fp : List Addr) (cl : List (Str × Addr)) (C : Addr) (s₀ : Shared) (H₀ : Hp) (pn : List (Addr × Obj)) : Cx where
 prog := X.prog
 w := X.w
 K := X.K
 mg := X.mg
 base := X.base
 A := X.A
 N := N'
 s₀ := s₀
 H₀ := H₀
 env := compEnvC scope cl C X.env
 outer := X.stack
 stack := X.stack
 ex := fp
 fn := fun _ => false
 calm := X.calm
 pn := pn
 xe := fun _ _ => False
def PF (X : Cx) (ifs : List Expr) (t : TT) : Prop := ∀ (pins : List (Addr × Obj)) (s : Shared) (Z : St) (H : Hp) (Q : Bool -> Hp -> Prop), Inv X pins Z H s -> t Z H Q ->
 wpAny (model X.prog X.w) X.A (forIn ifs true fun c r => if r = true then do let ok <- isTrue c X.env (eval c X.env); pure (ForInStep.yield ok) else pure (ForInStep.yield r)) (TP X pins Z Q) X.xe s
theorem ql5 {X : Cx} : PF X [] (fun _ H Q => Q true H) := fun pins s Z H Q I h => wpAny_tests_nil ⟨H, I, h⟩
theorem ql6 {X : Cx} {e : Expr} {t : TT} (h : PT X e t) : PF X [e] t := fun pins s Z H Q I hw => wpAny_tests_one (h pins s Z H Q I hw)
structure CompScope (X : Cx) (scope : Scope) (N' : List Str) (nt : Nat) (fr : List Nat) : Prop where
 kind : scope.kind = .function
 nocell : ∀ y ∈ scope.names, y.2 ≠ .cell
 names : ∀ y ∈ scope.names, y.2 = .local -> scope.names.lookup y.1 = some .local
 frees : ∀ y ∈ scope.names, y.2 = .free -> X.env.kindOf y.1 = some .cell
 len : N'.length = nt + fr.length
 slot : ∀ i j, fr[i]? = some j -> ∃ x, N'[nt + i]? = some x /\ X.N[j]? = some x /\ scope.names.lookup x = some .free
theorem w6 {env : PySem.Env} : ∀ (names : List (Str × NameKind)) (cs : List (Str × Addr)), (∀ y ∈ names, y.2 = .free -> ∃ a, env.cells.lookup y.1 = some a) -> (∀ n a, cs.lookup n = some a -> env.cells.lookup n = some a) ->
  ∃ cl, (forIn names cs fun x r => match x with | (name, kind) => if (kind == NameKind.free) = true then do let a <- cellOf env name; pure (ForInStep.yield ((name, a) :: r)) else pure (ForInStep.yield r) : Sem (List (Str × Addr))) = pure cl /\
   (∀ n a, cl.lookup n = some a -> env.cells.lookup n = some a) /\ (∀ n, (∃ a, cs.lookup n = some a) -> ∃ a, cl.lookup n = some a) /\ ∀ y ∈ names, y.2 = .free -> ∃ a, cl.lookup y.1 = some a
 | [], cs, _, h => ⟨cs, rfl, h, fun _ h => h, fun y hy => by cases hy⟩
 | (n, k) :: r, cs, hf, h => by
  have hr : ∀ y ∈ r, y.2 = .free -> ∃ a, env.cells.lookup y.1 = some a := fun y hy => hf y (mM _ hy)
  rw [List.forIn_cons]
  by_cases hk : k = .free
  ·subst hk
   obtain ⟨a, ha⟩ := hf (n, .free) mS_ rfl
   have ha' : env.cells.lookup n = some a := ha
   have hcell : cellOf env n = pure a := by unfold cellOf; rw [ha']
   obtain ⟨cl, e1, e2, e3, e4⟩ := w6 r ((n, a) :: cs) hr (fun m b hm => by
    rw [List.lookup_cons] at hm
    cases e : m == n with
    | true => rw [e] at hm; cases hm; rw [eq_of_beq e]; exact ha'
    | false => rw [e] at hm; exact h m b hm)
   refine ⟨cl, ?_, e2, fun m ⟨b, hm⟩ => e3 m ?_, fun y hy hyf => ?_⟩
   ·show ((if (NameKind.free == NameKind.free) = true then _ else _) >>= _) = _
    rw [if_pos (by rfl), hcell]
    exact e1
   ·rw [List.lookup_cons]
    cases e : m == n with
    | true => exact ⟨a, rfl⟩
    | false => exact ⟨b, hm⟩
   ·rcases List.mem_cons.mp hy with rfl | hy
    ·exact e3 n ⟨a, by rw [List.lookup_cons]; simp⟩
    ·exact e4 y hy hyf
  ·have hb : (k == NameKind.free) = false := by simpa using hk
   obtain ⟨cl, e1, e2, e3, e4⟩ := w6 r cs hr h
   refine ⟨cl, ?_, e2, e3, fun y hy hyf => ?_⟩
   ·show ((if (k == NameKind.free) = true then _ else _) >>= _) = _
    rw [hb, if_neg Bool.false_ne_true]
    exact e1
   ·rcases List.mem_cons.mp hy with rfl | hy
    ·exact absurd hyf hk
    ·exact e4 y hy hyf
theorem closureFor_ok {env : PySem.Env} {scope : Scope} (hf : ∀ y ∈ scope.names, y.2 = .free -> ∃ a, env.cells.lookup y.1 = some a) :
  ∃ cl, closureFor scope env = pure cl /\ (∀ n a, cl.lookup n = some a -> env.cells.lookup n = some a) /\ ∀ y ∈ scope.names, y.2 = .free -> ∃ a, cl.lookup y.1 = some a := by
 obtain ⟨cl, e1, e2, _, e4⟩ := w6 scope.names [] hf (fun n a h => by cases h)
 refine ⟨cl, ?_, e2, e4⟩
 unfold closureFor
 show (forIn scope.names [] _ >>= _) = _
 have e5 : (forIn scope.names [] fun x r => match x with | (name, kind) => if (kind == NameKind.free) = true then do let a <- cellOf env name; pure (ForInStep.yield ((name, a) :: r)) else pure (ForInStep.yield r) : Sem (List (Str × Addr))) = pure cl := e1
 first
  | (rw [e5]; rfl)
  | (simp only [bind_pure_comp, e5]; rfl)
theorem yW {env : PySem.Env} : ∀ {names : List (Str × NameKind)} {x : Str}, names.lookup x = some .free -> env.scope.kind = .function -> env.kindOf x = some .cell ->
  (names.map fun (n, k) => if (k == NameKind.free && env.scope.kind == .function && env.kindOf n == some .cell) then (n, NameKind.cell) else (n, k)).lookup x = some .cell
 | [], _, h, _, _ => by simp at h
 | (n, k) :: r, x, h, hk, hx => by
  have ih := @yW env r x
  show List.lookup x ((if (k == NameKind.free && env.scope.kind == .function && env.kindOf n == some .cell) = true then (n, NameKind.cell) else (n, k)) :: _) = _
  cases hxn : x == n with
  | true =>
   have e : x = n := eq_of_beq hxn
   subst e
   simp only [List.lookup_cons, hxn] at h
   cases h
   rw [if_pos (by rw [hk, hx]; rfl)]
   simp only [List.lookup_cons, hxn]
  | false =>
   simp only [List.lookup_cons, hxn] at h
   by_cases hc : (k == NameKind.free && env.scope.kind == .function && env.kindOf n == some .cell) = true
   ·rw [if_pos hc]; simp only [List.lookup_cons, hxn]; exact ih h hk hx
   ·rw [if_neg hc]; simp only [List.lookup_cons, hxn]; exact ih h hk hx
theorem jS {env : PySem.Env} : ∀ {names : List (Str × NameKind)} {x : Str} {q : NameKind}, (names.map fun (n, k) => if (k == NameKind.free && env.scope.kind == .function && env.kindOf n == some .cell) then (n, NameKind.cell) else (n, k)).lookup x = some q ->
  q = .cell \/ q = .free -> (∀ y ∈ names, y.2 ≠ .cell) -> ∃ k, (x, k) ∈ names /\ k = .free
 | [], _, _, h, _, _ => by simp at h
 | (n, k) :: r, x, q, h, hq, hc => by
  have ih := @jS env r x q
  have h' : List.lookup x ((if (k == NameKind.free && env.scope.kind == .function && env.kindOf n == some .cell) = true then (n, NameKind.cell) else (n, k)) :: (r.map fun (n, k) => if (k == NameKind.free && env.scope.kind == .function && env.kindOf n == some .cell) then (n, NameKind.cell) else (n, k))) = some q := h
  have hr : ∀ y ∈ r, y.2 ≠ .cell := fun y hy => hc y (mM _ hy)
  by_cases hcd : (k == NameKind.free && env.scope.kind == .function && env.kindOf n == some .cell) = true
  ·rw [if_pos hcd] at h'
   cases hxn : x == n with
   | true =>
    have e : x = n := eq_of_beq hxn
    subst e
    refine ⟨k, mS_, ?_⟩
    rw [Bool.and_eq_true, Bool.and_eq_true] at hcd
    exact eq_of_beq hcd.1.1
   | false =>
    simp only [List.lookup_cons, hxn] at h'
    obtain ⟨k', m, e⟩ := ih h' hq hr
    exact ⟨k', mM _ m, e⟩
  ·rw [if_neg hcd] at h'
   cases hxn : x == n with
   | true =>
    have e : x = n := eq_of_beq hxn
    subst e
    simp only [List.lookup_cons, hxn] at h'
    cases h'
    rcases hq with rfl | rfl
    ·exact absurd rfl (hc (x, .cell) mS_)
    ·exact ⟨.free, mS_, rfl⟩
   | false =>
    simp only [List.lookup_cons, hxn] at h'
    obtain ⟨k', m, e⟩ := ih h' hq hr
    exact ⟨k', mM _ m, e⟩
def qJ (nt : Nat) (fr : List Nat) (Z : St) : St := List.replicate nt none ++ fr.map fun j => (Z[j]?).join
def qj0 (X : Cx) (tg : Expr) (ifs : List Expr) (elt : Expr) (scope : Scope) (N' : List Str) (wi : TI) (nt : Nat) (fr : List Nat) : TE := fun Z H Q => wi Z H fun J H1 => ∀ acc fp cl C s₀ H₀ pn, H1 acc = none ->
 ∃ (g : TG) (tt : TT) (te : TE), PG (zD X scope N' fp cl C s₀ H₀ pn) tg g /\ PF (zD X scope N' fp cl C s₀ H₀ pn) ifs tt /\ PE (zD X scope N' fp cl C s₀ H₀ pn) elt te /\
 ∃ W : Nat -> Nat -> St -> Hp -> Prop, (∃ m, W 0 m (qJ nt fr Z) (upd H1 acc (.lst []))) /\
 ∀ i m Z' H', W i m Z' H' -> (J.stop i H' /\ Q (.ref acc) H') \/ (J.go i H' /\ ∀ x H'', J.yld i H' x H'' -> g x Z' H'' fun Z2 H2 => tt Z2 H2 fun b H3 =>
  if b = true then te Z2 H3 fun y H4 => ∃ ys, H4 acc = some (.lst ys) /\ ys.length < sizeLine /\ ∃ m', m' < m /\ W (i + 1) m' Z2 (upd H4 acc (.lst (ys ++ [y]))) else ∃ m', m' < m /\ W (i + 1) m' Z2 H3)
section
variable {X : Cx} {tg iter elt : Expr} {ifs : List Expr} {scope : Scope} {pos : Pos} {wi : TI} {N' : List Str} {nt : Nat} {fr : List Nat}
theorem qba {prog : Program} {w : World} {A : Around} {R : Result -> Shared -> Prop} {s : Shared} {it acc : Value} {env : PySem.Env} (I : Nat -> Shared -> Prop)
  (turn : ∀ n s, I n s -> wpAny (model prog w) A (pyNext it) (fun r sQ => match r with
   | none => R (.ok .next) sQ
   | some v => wpAny (model prog w) A (letOwnedTupleGo tg it v) (fun _ s1' => wpAny (model prog w) A (assign tg env v) (fun _ sJ =>
     wpAny (model prog w) A (forIn ifs true fun c r => if r = true then do let ok <- isTrue c env (eval c env); pure (ForInStep.yield ok) else pure (ForInStep.yield r)) (fun ok sV =>
      if ok = true then wpAny (model prog w) A (eval elt env) (fun x sK =>
       wpAny (model prog w) A (call (.builtin "list.append") [acc, x]) (fun _ sY => ∃ m, m < n /\ I m sY) (fun _ _ => False) sK) (fun _ _ => False) sV
      else ∃ m, m < n /\ I m sV) (fun _ _ => False) sJ) (fun _ _ => False) s1') (fun _ _ => False) sQ) (fun _ _ => False) s)
  (n : Nat) (h : I n s) : codeAny (model prog w) A (.compLoop (.ListComp elt [⟨tg, iter, ifs, 0⟩] scope pos) 0 it acc env) R s := by
 refine codeAny_loop rfl I (fun n s hI => ?_) n h
 show wpAny _ A ((compTurn (.ListComp elt [⟨tg, iter, ifs, 0⟩] scope pos) 0 it acc env).onRaise (fun x => do noteFrame x env; theTreesLotGoes x)) _ _ s
 refine wpAny_noted ?_
 rw [compTurn_list]
 refine wpAny_bind (wpAny_standAt (wpAny_bind (wpAny_mono (turn n s hI) (fun r sQ hJ => ?_) fun _ _ h' => h'.elim)))
 cases r with
 | none => exact wpAny_pure hJ
 | some v =>
  refine wpAny_bind (wpAny_mono hJ (fun _ s1' hK' => ?_) fun _ _ h' => h'.elim)
  refine wpAny_bind (wpAny_mono hK' (fun _ sJ hX => wpAny_bind (wpAny_mono hX (fun ok sV hV => ?_) fun _ _ h' => h'.elim)) fun _ _ h' => h'.elim)
  cases ok with
  | false => exact wpAny_pure ⟨rfl, hV⟩
  | true =>
   exact wpAny_bind (wpAny_bind (wpAny_mono hV (fun x sK h₄ => wpAny_bind (wpAny_mono h₄ (fun _ sY h₅ => wpAny_pure (wpAny_pure ⟨rfl, h₅⟩)) fun _ _ h' => h'.elim)) fun _ _ h' => h'.elim))
theorem qbO {pins : List (Addr × Obj)} {Z : St} {H : Hp} {s : Shared} {hJ : Heap} {tk : Nat} {fp : List Addr} {cl : List (Str × Addr)} (S : CompScope X scope N' nt fr) (I : Inv X pins Z H s) (hfp : ∀ b ∈ fp, qdI X pins H b)
  (hex : ∀ b ∈ fp, ∃ o, s.heap.get? b = some o) (cl1 : ∀ n a, cl.lookup n = some a -> X.env.cells.lookup n = some a) (cl2 : ∀ y ∈ scope.names, y.2 = .free -> ∃ a, cl.lookup y.1 = some a)
  (hns : ∃ m, hJ.Ns s.heap.objs.size m) (old : ∀ b o, s.heap.get? b = some o -> hJ.get? b = some o) :
  Inv (zD X scope N' fp cl s.heap.objs.size s H (X.pn ++ pins)) [] (qJ nt fr Z) H { s with heap := hJ, toks := tk } := by
 have stkB : ∀ b ∈ frs X.stack, b = X.env.locals \/ b ∈ X.fs := fun b hb => List.mem_cons.mp (I.stkSub b hb)
 have hC : ∀ b o, s.heap.get? b = some o -> b ≠ s.heap.objs.size := fun b o e => Nat.ne_of_lt (Heap.lt_size e)
 obtain ⟨m, hn⟩ := hns
 refine ⟨⟨I.ok.mod, S.kind, I.ok.glob, I.ok.blt, Nat.le_refl _, fun x y c h1 h2 => I.ok.inj x y c (cl1 x c h1) (cl1 y c h2), fun x hx => ?_, fun x c hx => ?_, I.ok.hd, I.ok.frames, .inl rfl, fun b hb => ⟨?_, fun x c hx => (hfp b hb).2.2.2.2.1 x c (cl1 x c hx)⟩, I.bs, Nat.le_trans I.ok.bsz I.sz, fun b o e hb => ?_, fun b hb hb2 => ?_, I.stack, I.stkFree⟩,
  rfl, I.bare, Un.kept old, ⟨m, hn, fun i x v h1 h2 h3 => ?_⟩, fun x c hx => ?_, I.hok.fresh (Nat.le_refl _), fun x c hx => I.freeC x c (cl1 x c hx), fun p hp => ?_, I.hok.kept old, ?_⟩
 ·have hx' : ∃ k, (x, k) ∈ scope.names /\ k = .free := by
   rcases hx with hx | hx
   ·exact jS (env := X.env) (q := .cell) hx (.inl rfl) S.nocell
   ·exact jS (env := X.env) (q := .free) hx (.inr rfl) S.nocell
  obtain ⟨k, m, rfl⟩ := hx'
  exact cl2 (x, .free) m rfl
 ·have hx' : false = true := hx
  cases hx'
 ·obtain ⟨o, e⟩ := hex b hb
  exact hC b o e
 ·obtain ⟨f0, f1, f2, f3, f4, f5⟩ := hfp b hb
  rcases f3 with z | z
  ·exact I.ok.noex b o e z
  ·exact absurd (Nat.lt_of_lt_of_le (Heap.lt_size e) (Nat.le_trans I.ok.bsz z)) (Nat.lt_irrefl _)
 ·obtain ⟨f0, f1, f2, f3, f4, f5⟩ := hfp b hb
  rcases stkB b hb2 with z | z
  ·exact f1 z
  ·exact f2 z
 ·-- names
  have hi : nt <= i := by
   apply Nat.le_of_not_lt
   intro hlt
   unfold qJ at h2
   rw [List.getElem?_append_left (by simpa using hlt), List.getElem?_replicate] at h2
   split at h2 <;> cases h2
  have h2' : (fr.map fun j => (Z[j]?).join)[i - nt]? = some (some v) := by
   unfold qJ at h2
   rw [List.getElem?_append_right (by simpa using hi), List.length_replicate] at h2
   exact h2
  rw [gM_] at h2'
  cases ej : fr[i - nt]? with
  | none => rw [ej] at h2'; cases h2'
  | some j =>
   rw [ej] at h2'
   have hσ : (Z[j]?).join = some v := by simpa using h2'
   have hσ' : Z[j]? = some (some v) := by
    cases e : Z[j]? with
    | none => rw [e] at hσ; cases hσ
    | some o =>
     rw [e] at hσ
     have : o = some v := hσ
     rw [this]
   obtain ⟨y, hy1, hy2, hy3⟩ := S.slot (i - nt) j ej
   have hii : nt + (i - nt) = i := by omega
   rw [hii] at hy1
   have exy : y = x := by
    have h1' : N'[i]? = some x := h1
    rw [h1'] at hy1
    exact (Option.some.inj hy1).symm
   subst exy
   have hmem : (y, NameKind.free) ∈ scope.names := PySem.mem_of_lookup hy3
   have hcellk : X.env.kindOf y = some .cell := S.frees (y, .free) hmem rfl
   obtain ⟨m0, hn0, hl0⟩ := I.loc
   obtain ⟨u, ru, lk⟩ := hl0 j y v hy2 hσ' (.inr (.inl hcellk))
   refine ⟨u, ru, .inr ⟨.inl (yW hy3 I.ok.kind hcellk), ?_⟩⟩
   rcases lk with ⟨k1, _⟩ | ⟨_, c, e, z⟩
   ·rw [hcellk] at k1; cases k1
   ·obtain ⟨a, ea⟩ := cl2 (y, .free) hmem rfl
    have ea' := cl1 y a ea
    rw [e] at ea'
    cases ea'
    obtain ⟨o, ho, hd⟩ := z
    exact ⟨c, ea, o, old _ _ ho, hd⟩
 ·obtain ⟨v, o, ho, hd⟩ := I.cell x c (cl1 x c hx)
  exact ⟨v, o, old _ _ ho, hd⟩
 ·have hp' : p ∈ X.pn ++ pins := by
   rcases mA_.mp (show p ∈ (X.pn ++ pins) ++ [] from hp) with z | z
   ·exact z
   ·cases z
  obtain ⟨e, n, ne, nf, d⟩ := I.pin p hp'
  refine ⟨old _ _ e, n, hC _ _ e, fun z => ?_, d⟩
  rcases stkB p.1 z with z | z
  ·exact ne z
  ·exact nf z
 ·show (qJ nt fr Z).length = N'.length
  unfold qJ
  rw [lA_, List.length_replicate, lM_, S.len]
theorem qex {pins : List (Addr × Obj)} {Z Z' : St} {H H' : Hp} {s s' : Shared} {h' : Heap} {fp : List Addr} {cl : List (Str × Addr)} (I : Inv X pins Z H s) (hfp : ∀ b ∈ fp, qdI X pins H b)
  (J : Inv (zD X scope N' fp cl s.heap.objs.size s H (X.pn ++ pins)) [] Z' H' s') (sb : Heap.SameBut s.heap.objs.size s'.heap h') : Inv X pins Z H' { s' with heap := h' } := by
 have hC : H' s.heap.objs.size = none := J.free
 have u := J.base
 have big : ∀ b o, s.heap.get? b = some o -> b ≠ s.heap.objs.size := fun b o e => Nat.ne_of_lt (Heap.lt_size e)
 have get' : ∀ b, b ≠ s.heap.objs.size -> h'.get? b = s'.heap.get? b := fun b hb => sb.2 b hb
 have u2 : Un (frs X.stack) fp H H' s.heap h' :=
  ⟨fun b o e n hb hx => (get' b (big b o e)).trans (u.keep b o e n hb hx), fun b o e n hb hx => by
   obtain ⟨sl, q⟩ := u.slot b o e n hb hx
   exact ⟨sl, (get' b (big b o e)).trans q⟩, u.free, fun b o e hx => by
   obtain ⟨o', q⟩ := u.there b o e hx
   exact ⟨o', (get' b (big b o e)).trans q⟩, u.tups, u.frzs, u.tbls⟩
 refine I.call' (s' := { s' with heap := h' }) (ch := fp) J.os u2 (fun b o e => ?_) J.bare (fun b hb => ?_)
 ·refine (J.hok b o e).stay (fun c v hc q => ?_) (fun _ q => q) fun _ _ q => q
  refine (get' c ?_).trans q
  rintro rfl
  rcases hc with hc | hc
  ·rw [<- hc, hC] at e; cases e
  ·rw [hC] at hc; cases hc
 ·obtain ⟨f0, f1, f2, f3, f4, f5⟩ := hfp b hb
  exact ⟨f3, f1, f4, f5⟩
theorem qj1 (hc : X.calm = true) (hi : PI X tg iter wi) (S : CompScope X scope N' nt fr)
  (hs : ∀ x, foldedSetIterable iter X.env x = pure x := by intro _; rfl) : PE X (.ListComp elt [⟨tg, iter, ifs, 0⟩] scope pos) (qj0 X tg ifs elt scope N' wi nt fr) := by
 intro pins s Z H Q I hw
 obtain ⟨cl, hcl, cl1, cl2⟩ := closureFor_ok (env := X.env) (scope := scope) (fun y hy hf => I.ok.has y.1 (.inl (S.frees y hy hf)))
 rw [eval_ListComp]
 refine wpAny_comprehension_free (use := none) rfl hs hcl S.kind S.names (thn (hi pins s Z H _ I hw) fun v s1 h1 => thn h1 fun itv s2 h2 => ?_)
 obtain ⟨it, fp, tn, J, H2, e, I2, T, st2, f2, hR⟩ := h2
 subst e
 have hacc : H2 s2.heap.objs.size = none := I2.hok.fresh (Nat.le_refl _)
 refine wpAny_newObj_type (wpAny_newFunctionEnv S.nocell (by intro y hy; simp at hy) (fun hJ hns1 hsb1 => ?_) S.kind)
 dsimp only at hns1 hsb1 |-
 have I3 : Inv X pins Z (upd H2 s2.heap.objs.size (.lst [])) { s2 with heap := s2.heap.push { cls := .type "list", dict := none, data := .seq ([] : List Value).toArray } } :=
  I2.lnew (t' := s2.toks) (its := []) .nil (Nat.zero_le _)
 generalize hs3 : ({ s2 with heap := s2.heap.push { cls := .type "list", dict := none, data := .seq ([] : List Value).toArray } } : Shared) = s3 at I3
 have hh3 : s2.heap.push { cls := .type "list", dict := none, data := .seq ([] : List Value).toArray } = s3.heap := by rw [<- hs3]
 rw [hh3] at hns1 hsb1
 have old : ∀ b o, s3.heap.get? b = some o -> hJ.get? b = some o := fun b o q => hsb1.extBut b o (Nat.ne_of_lt (Heap.lt_size q)) (Heap.get?_push_of_some _ q)
 have objs2 : ∀ b ∈ fp, ∃ o, s2.heap.get? b = some o := fun b hb => by
  obtain ⟨o, q, _⟩ := T.obj 0 _ st2 b hb
  exact ⟨o, q⟩
 have keep23 : ∀ b o, s2.heap.get? b = some o -> s3.heap.get? b = some o := fun b o q => by rw [<- hh3]; exact Heap.get?_push_of_some _ q
 have fpne : ∀ b ∈ fp, b ≠ s2.heap.objs.size := fun b hb => by
  obtain ⟨o, q⟩ := objs2 b hb
  exact Nat.ne_of_lt (Heap.lt_size q)
 have f3 : ∀ b ∈ fp, qdI X pins (upd H2 s2.heap.objs.size (.lst [])) b := fun b hb => ⟨by rw [qv (fpne b hb)]; exact (f2 b hb).1, (f2 b hb).2⟩
 have J0 : Inv (zD X scope N' fp cl s3.heap.objs.size s3 (upd H2 s2.heap.objs.size (.lst [])) (X.pn ++ pins)) [] (qJ nt fr Z) (upd H2 s2.heap.objs.size (.lst [])) { s3 with heap := hJ, toks := s3.toks } :=
  qbO S I3 f3 (fun b hb => (objs2 b hb).imp fun o q => keep23 b o q) cl1 cl2 ⟨_, hns1⟩ old
 obtain ⟨g, tt, te, hg, hf, he, W, ⟨m0, w0⟩, turn⟩ := hR s2.heap.objs.size fp cl s3.heap.objs.size s3 (upd H2 s2.heap.objs.size (.lst [])) (X.pn ++ pins) hacc
 have T0 : tn 0 hJ := T.keep 0 _ _ st2 fun b hb o q => old b o (keep23 b o q)
 have s3e : ∀ tk : Nat, ({ s2 with heap := hJ, toks := tk } : Shared) = { s3 with heap := hJ, toks := tk } := fun tk => by rw [<- hs3]
 have loop : ∀ tk : Nat, codeAny (model X.prog X.w) X.A (.compLoop (.ListComp elt [⟨tg, iter, ifs, 0⟩] scope pos) 0 (.ref it) (.ref s2.heap.objs.size) (compEnvC scope cl s3.heap.objs.size X.env))
   (compPost (model X.prog X.w) X.A X.xe none (EP X pins Z Q) (.ref s2.heap.objs.size) s3.heap.objs.size) { s3 with heap := hJ, toks := tk } := fun tk => by
  have stat : ∀ {H' : Hp}, (∀ b ∈ fp, H' b = none) -> ∀ b ∈ fp, qdI (zD X scope N' fp cl s3.heap.objs.size s3 (upd H2 s2.heap.objs.size (.lst [])) (X.pn ++ pins)) [] H' b := fun {H'} hn b hb => by
   obtain ⟨o, q⟩ := objs2 b hb
   have hbC : b ≠ s3.heap.objs.size := Nat.ne_of_lt (Heap.lt_size (keep23 b o q))
   refine ⟨hn b hb, hbC, fun z => ?_, .inl hb, fun x c hx => (f2 b hb).2.2.2.2.1 x c (cl1 x c hx), fun p hp => ?_⟩
   ·rcases List.mem_cons.mp (I2.stkSub b z) with z | z
    ·exact (f2 b hb).2.1 z
    ·exact (f2 b hb).2.2.1 z
   ·have hp' : p ∈ X.pn ++ pins := by
     rcases mA_.mp (show p ∈ (X.pn ++ pins) ++ [] from hp) with z | z
     ·exact z
     ·cases z
    exact (f2 b hb).2.2.2.2.2 p hp'
  have fr0 : ∀ b ∈ fp, upd H2 s2.heap.objs.size (.lst []) b = none := fun b hb => (f3 b hb).1
  refine qba (fun n s' => ∃ i Z' H', Inv (zD X scope N' fp cl s3.heap.objs.size s3 (upd H2 s2.heap.objs.size (.lst [])) (X.pn ++ pins)) [] Z' H' s' /\ tn i s'.heap /\ (∀ b ∈ fp, H' b = none) /\ W i n Z' H') ?_ m0
   ⟨0, qJ nt fr Z, _, J0.tok tk, T0, fr0, w0⟩
  rintro n s4 ⟨i, Z4, H4, J4, st4, fr4, w4⟩
  rcases turn i n Z4 H4 w4 with ⟨stop, qn⟩ | ⟨go, step⟩
  ·refine thn (T.done (zD X scope N' fp cl s3.heap.objs.size s3 (upd H2 s2.heap.objs.size (.lst [])) (X.pn ++ pins)) rfl rfl rfl hc i [] s4 Z4 H4 _ J4 (stat fr4) st4 stop) fun r s5 ⟨hr, J5⟩ => ?_
   subst hr
   obtain ⟨m5, n5, _⟩ := J5.loc
   refine ⟨m5, n5, fun h' sb => ⟨.ref s2.heap.objs.size, H4, qex I3 f3 J5 sb, rfl, qn⟩⟩
  ·refine thn (T.item (zD X scope N' fp cl s3.heap.objs.size s3 (upd H2 s2.heap.objs.size (.lst [])) (X.pn ++ pins)) rfl rfl rfl hc i [] s4 Z4 H4 _ J4 (stat fr4) st4 go) fun r s5 ⟨u, hr, h5⟩ => ?_
   subst hr
   refine thn h5 fun _ s6 ⟨x, H6, J6, r6, y6, st6, fr6⟩ => ?_
   have J6' := J6.pinned (stat fr6) (T.obj _ _ st6)
   have again : ∀ {Z7 : St} {H7 : Hp} {s7 : Shared}, Inv (zD X scope N' fp cl s3.heap.objs.size s3 (upd H2 s2.heap.objs.size (.lst [])) (X.pn ++ pins)) ([] ++ qbL fp s6.heap) Z7 H7 s7 -> (∃ m', m' < n /\ W (i + 1) m' Z7 H7) ->
     ∃ m, m < n /\ ∃ i Z' H', Inv (zD X scope N' fp cl s3.heap.objs.size s3 (upd H2 s2.heap.objs.size (.lst [])) (X.pn ++ pins)) [] Z' H' s7 /\ tn i s7.heap /\ (∀ b ∈ fp, H' b = none) /\ W i m Z' H' := fun {Z7 H7 s7} I7 hm => by
    obtain ⟨m', hm, w7⟩ := hm
    refine ⟨m', hm, i + 1, Z7, H7, I7.unpinned, T.keep _ _ _ st6 fun b hb o q => (I7.pin (b, o) (mr_ _ (mr_ _ (yF hb q)))).1, fun b hb => ?_, w7⟩
    obtain ⟨o, q, d⟩ := T.obj _ _ st6 b hb
    exact (I7.pin (b, o) (mr_ _ (mr_ _ (yF hb q)))).2.1
   refine thn (hg _ s6 Z4 H6 x u _ J6' r6 (step x H6 y6)) fun _ s7 ⟨Z7, H7, J7, q7⟩ => ?_
   refine thn (hf _ s7 Z7 H7 _ J7 q7) fun ok s8 ⟨H8, J8, q8⟩ => ?_
   cases ok with
   | false =>
    rw [if_neg Bool.false_ne_true] at q8 |-
    exact again J8 q8
   | true =>
    rw [if_pos rfl] at q8 |-
    refine thn (he _ s8 Z7 H8 _ J8 q8) fun z s9 ⟨y, H9, J9, r9, ys, hys, hz, hm⟩ => ?_
    refine thn (qa0 _ s9 Z7 H9 (.ref s2.heap.objs.size) [y] (.ref s2.heap.objs.size) [z] (fun _ H' => H' = upd H9 s2.heap.objs.size (.lst (ys ++ [y]))) J9 rfl (.cons r9 .nil) ⟨_, ys, y, rfl, rfl, hys, hz, rfl⟩) fun _ s10 ⟨_, H10, J10, _, e10⟩ => ?_
    subst e10
    exact again J10 hm
 have z4 : ∀ tk : Nat, codeAny (model X.prog X.w) X.A (.compStart (.ListComp elt [⟨tg, iter, ifs, 0⟩] scope pos) 0 (.ref it) (.ref s2.heap.objs.size) (compEnvC scope cl s3.heap.objs.size X.env))
   (compPost (model X.prog X.w) X.A X.xe none (EP X pins Z Q) (.ref s2.heap.objs.size) s3.heap.objs.size) { s3 with heap := hJ, toks := tk } := fun tk =>
  codeAny_compStart_list (loop tk) (T.self X.A 0 _ _ _ T0 (loop tk))
 have fin := z4 (s2.toks + ([] : List (Str × Value)).length)
 rw [<- s3e] at fin
 rw [<- hh3] at fin
 rw [hh3] at fin |-
 exact fin
end
structure qhu (K : Fr0) (A : Addr -> Prop) (H : Hp) (ds : List D) (J : It) : Prop where
 go : ∀ H' i d, Ext A H H' -> ds[i]? = some d -> J.go i H'
 yl : ∀ H' i d x H'', Ext A H H' -> ds[i]? = some d -> J.yld i H' x H'' -> jm H' H'' /\ Is K A H'' d x
 stop : ∀ H', Ext A H H' -> J.stop ds.length H'
def CnT (c : Fc) (Z : St) (H : Hp) (a : Addr) : Prop := Cn c Z a /\ (H a).isSome = true
def WpI (K : Fr0) (c : Fc) (Z : St) (H : Hp) (Q : It -> Hp -> Prop) : R (List D × Env) -> Prop
 | .ok (ds, U) => ∀ J H', Rep K c U Z H' -> qhu K (CnT c Z H') H' ds J -> Gr c.O Z H H' -> Q J H'
 | .exc x U => ∀ H', Rep K c U Z H' -> Gr c.O Z H H' -> c.E x H'
 | .bad => False
def DI (X : Cx) (c : Fc) (tg it : Expr) (f : M (List D)) : Prop := ∃ w, PI X tg it w /\ ∀ U Z H Q, Rep X.K c U Z H -> WpI X.K c Z H Q (f U) -> w Z H Q
section
variable {X : Cx} {c : Fc} {tg a b e : Expr} {pos : Pos}
def qo1 (K : Fr0) (tl : TE) : TI := fun Z H R => tl Z H fun x H1 => (∃ a, x = .ref a /\ (∃ xs, SqL K H1 a xs) /\ R (Itl K a) H1) \/ (∃ a, x = .ref a /\ (∃ xs, SqT K H1 a xs) /\ R (Itt K a) H1)
theorem ql7 {tl : TE} (hl : PE X e tl) : PI X tg e (qo1 X.K tl) := by
 intro pins s Z H R I h
 refine thn (hl pins s Z H _ I h) fun v s1 ⟨x, H1, I1, r1, q1⟩ => ?_
 rcases q1 with ⟨a, e, ⟨xs, hq⟩, q⟩ | ⟨a, e, ⟨xs, hq⟩, q⟩
 ·subst e
  cases r1
  obtain ⟨its, rv, p, hz⟩ := I1.list hq
  refine wpAny_pyIter_list p.isList ?_
  refine ⟨s1.heap.objs.size, [s1.heap.objs.size], _, _, H1, rfl, I1.kept (t' := s1.toks) fun b o e => Heap.get?_push_of_some _ e, qfP a _, ⟨_, Heap.get?_push_size _ rfl, rfl, rfl⟩, fun b hb => ?_, q⟩
  have e : b = s1.heap.objs.size := by simpa using hb
  subst e
  exact I1.fpOk (Nat.le_refl _) (I1.hok.fresh (Nat.le_refl _))
 ·subst e
  cases r1
  obtain ⟨its, rv, p, hz⟩ := I1.tuple hq
  refine wpAny_pyIter_tuple (show s1.heap.IsTuple a its.toArray from p) ?_
  refine ⟨s1.heap.objs.size, [s1.heap.objs.size], _, _, H1, rfl, I1.kept (t' := s1.toks) fun b o e => Heap.get?_push_of_some _ e, qfe a _, ⟨_, Heap.get?_push_size _ rfl, rfl, rfl⟩, fun b hb => ?_, q⟩
  have e : b = s1.heap.objs.size := by simpa using hb
  subst e
  exact I1.fpOk (Nat.le_refl _) (I1.hok.fresh (Nat.le_refl _))
def qne : D -> Option (List D)
 | .tup ds => some ds
 | .lst ds => some ds
 | .fz ns => some (ns.map .int)
 | _ => none
theorem SqL.inj {K : Fr0} {H : Hp} {a : Addr} {xs ys : List V} (h : H a = some (.lst xs)) (q : SqL K H a ys) (hk : ∀ o, K.lookup a = some o -> False) : ys = xs := by
 rcases q with (q | ⟨o, q⟩) | ⟨o, _, _, q, _⟩
 ·rw [h] at q; cases q; rfl
 ·rw [h] at q; cases q
 ·exact (hk o q).elim
theorem qb8 {K : Fr0} {A : Addr -> Prop} {H : Hp} : ∀ ns : List Int, IsL K A H (ns.map .int) (ns.map V.int)
 | [] => rfl
 | n :: ns => ⟨.int n, ns.map V.int, rfl, rfl, qb8 ns⟩
theorem qgf {K : Fr0} {A : Addr -> Prop} {H : Hp} {ds : List D} {xs : List V} {a : Addr} (hs : ∀ H', Ext A H H' -> SqL K H' a xs) (il : IsL K A H ds xs) : qhu K A H ds (Itl K a) where
 go := fun H' i d ex hd => by
  obtain ⟨x, h1, h2⟩ := il.get hd
  exact ⟨xs, x, hs H' ex, h1⟩
 yl := fun H' i d x H'' ex hd y => by
  obtain ⟨e, y⟩ := y
  subst e
  obtain ⟨x', h1, h2⟩ := il.get hd
  have h3 := y xs (hs _ ex)
  rw [h1] at h3
  cases h3
  exact ⟨jm.refl _, Is.ext ex (fun _ h _ => h) h2⟩
 stop := fun H' ex => ⟨xs, hs H' ex, by rw [il.length]; exact Nat.le_refl _⟩
theorem ql8 {K : Fr0} {A : Addr -> Prop} {H : Hp} {ds : List D} {xs : List V} {a : Addr} (hs : uN K H a xs) (il : IsL K A H ds xs) : qhu K A H ds (Itt K a) where
 go := fun H' i d ex hd => by
  obtain ⟨x, h1, h2⟩ := il.get hd
  exact ⟨xs, x, (hs.elim (fun h => .inl (ex.tup _ _ h)) .inr : uN K H' a xs).sq, h1⟩
 yl := fun H' i d x H'' ex hd y => by
  obtain ⟨e, y⟩ := y
  subst e
  obtain ⟨x', h1, h2⟩ := il.get hd
  have h3 := y xs (hs.elim (fun h => .inl (ex.tup _ _ h)) .inr : uN K _ a xs).sq
  rw [h1] at h3
  cases h3
  exact ⟨jm.refl _, Is.ext ex (fun _ h _ => h) h2⟩
 stop := fun H' ex => ⟨xs, (hs.elim (fun h => .inl (ex.tup _ _ h)) .inr : uN K H' a xs).sq, by rw [il.length]; exact Nat.le_refl _⟩
def qbP (f : M D) : M (List D) := bnd f fun d => lift (qne d)
theorem wG {K : Fr0} {Z : St} {H : Hp} {Q : It -> Hp -> Prop} {o : Option (List D)} {U : Env} (h : WpI K c Z H Q (lift o U)) : ∃ ds, o = some ds /\ ∀ J H', Rep K c U Z H' -> qhu K (CnT c Z H') H' ds J -> Gr c.O Z H H' -> Q J H' := by
 cases o with
 | none => exact h.elim
 | some d => exact ⟨d, rfl, h⟩
theorem WpI.gr {K : Fr0} {Z : St} {H H1 : Hp} {Q : It -> Hp -> Prop} : ∀ {r : R (List D × Env)}, WpI K c Z H Q r -> Gr c.O Z H H1 -> WpI K c Z H1 Q r
 | .ok (d, U), h, g => fun v H' hr hi hg => h v H' hr hi (g.trans hg)
 | .exc x U, h, g => fun H' hr hg => h H' hr (g.trans hg)
 | .bad, h, _ => h
theorem Wp.bndI {K : Fr0} {Z : St} {H : Hp} {Q : It -> Hp -> Prop} {f : M D} {k : D -> M (List D)} {U : Env} {Q' : VK} (h : WpI K c Z H Q (Sk.bnd f k U)) (hQ : ∀ d U' v H', Rep K c U' Z H' -> Is K (Cn c Z) H' d v -> Gr c.O Z H H' -> WpI K c Z H' Q (k d U') -> Q' v H') : Wp K c Z H Q' (f U) := by
 unfold Sk.bnd at h
 cases e : f U with
 | ok p => rw [e] at h; exact fun v H' hr hi hg => hQ p.1 p.2 v H' hr hi hg (h.gr hg)
 | exc x U' => rw [e] at h; exact h
 | bad => rw [e] at h; exact h
theorem WpL.bndI {K : Fr0} {Z : St} {H : Hp} {Q : It -> Hp -> Prop} {f : M (List D)} {k : List D -> M (List D)} {U : Env} {Q' : List V -> Hp -> Prop} (h : WpI K c Z H Q (Sk.bnd f k U)) (hQ : ∀ d U' v H', Rep K c U' Z H' -> IsL K (Cn c Z) H' d v -> Gr c.O Z H H' -> WpI K c Z H' Q (k d U') -> Q' v H') : WpL K c Z H Q' (f U) := by
 unfold Sk.bnd at h
 cases e : f U with
 | ok p => rw [e] at h; exact fun v H' hr hi hg => hQ p.1 p.2 v H' hr hi hg (h.gr hg)
 | exc x U' => rw [e] at h; exact h
 | bad => rw [e] at h; exact h
theorem Is.tr {K : Fr0} {A : Addr -> Prop} {H : Hp} {d : D} {v : V} (h : Is K A H d v) : Is K (fun a => A a /\ (H a).isSome = true) H d v := Is.ext Ext.refl (fun a h1 h2 => ⟨h1, h2⟩) h
theorem wH {f : M D} (h : DE X c e f) : DI X c tg e (qbP f) := by
 obtain ⟨t, p, w⟩ := h
 refine ⟨_, ql7 p, fun U Z H Q r h => w U Z H _ r (Wp.bndI h fun d U1 v H1 r1 i1 g1 h1 => ?_)⟩
 obtain ⟨ds, e, h2⟩ := wG h1
 have i2 : Is X.K (CnT c Z H1) H1 d v := i1.tr
 cases d <;> simp only [qne] at e <;> try (cases e; done)
 ·cases e
  obtain ⟨a, xs, rfl, ta, il⟩ := i2
  exact .inr ⟨a, rfl, ⟨xs, ta.sq⟩, h2 _ H1 r1 (ql8 ta il) .refl⟩
 ·cases e
  obtain ⟨a, xs, rfl, hA, ta, il⟩ := i2
  exact .inl ⟨a, rfl, ⟨xs, .inl (.inl ta)⟩, h2 _ H1 r1 (qgf (fun H' ex => .inl (.inl (ex.at_ _ _ hA ta))) il) .refl⟩
 ·cases e
  obtain ⟨a, rfl, ta⟩ := i2
  exact .inl ⟨a, rfl, ⟨_, ta.sq⟩, h2 _ H1 r1 (qgf (fun H' ex => (ta.elim (fun ⟨o, h⟩ => .inl ⟨o, ex.frz _ _ _ h⟩) .inr : qlT X.K H' a _).sq) (qb8 _)) .refl⟩
def qb9 (lo : Int) (n : Nat) : List D := (List.range n).map fun i => .int (lo + (i : Nat))
theorem ql9 {K : Fr0} {A : Addr -> Prop} {H : Hp} (lo : Int) (n : Nat) : qhu K A H (qb9 lo n) (Itr lo n) where
 go := fun H' i d ex hd => by
  have : i < (qb9 lo n).length := (gI_.mp hd).1
  show i < n
  simpa [qb9] using this
 yl := fun H' i d x H'' ex hd y => by
  obtain ⟨e, y⟩ := y
  subst e
  subst y
  refine ⟨jm.refl _, ?_⟩
  unfold qb9 at hd
  rw [gM_] at hd
  cases e2 : (List.range n)[i]? with
  | none => rw [e2] at hd; cases hd
  | some j =>
   rw [e2] at hd
   have hj : j = i := by
    have := (gI_.mp e2).2
    simpa using this.symm
   subst hj
   cases hd
   rfl
 stop := fun H' ex => by show n <= (qb9 lo n).length; simp [qb9]
def qiY : List D -> Option (List D)
 | [.int j] => if decide (-(2 ^ 62) <= j) && decide (j < 2 ^ 62) then some (qb9 0 j.toNat) else none
 | _ => none
def vq (f : M (List D)) : M (List D) := bnd f fun ds => lift (qiY ds)
theorem uD {f : M (List D)} {p : Pos} (hg : Gl X "range") (hm : X.mg "range" = none) (ha : DA X c [a] f) (hs : starEach [a] X.env = [(false, eval a X.env)] := by rfl) : DI X c tg (.Call (.Name "range" p) [a] [] pos) (vq f) := by
 obtain ⟨t, p, w⟩ := ha
 refine ⟨_, qfQ hg hm p hs, fun U Z H Q r h => w U Z H _ r (WpL.bndI h fun ds U1 vs H1 r1 i1 g1 h1 => ?_)⟩
 obtain ⟨es, e, h2⟩ := wG h1
 unfold qiY at e
 split at e
 ·rename_i j
  obtain ⟨v, rfl, e2⟩ := IsL.inv1 i1
  cases e2
  by_cases hb : (decide (-(2 ^ 62) <= j) && decide (j < 2 ^ 62)) = true
  ·rw [if_pos hb] at e
   cases e
   rw [Bool.and_eq_true] at hb
   exact ⟨j, rfl, of_decide_eq_true hb.1, of_decide_eq_true hb.2, h2 _ H1 r1 (ql9 0 _) .refl⟩
  ·rw [if_neg hb] at e
   cases e
 ·cases e
def yf (g : D -> Env -> Option Env) (b : MS) : List D -> MS
 | [], U => .ok (.nx U)
 | d :: ds, U => match g d U with
  | none => .bad
  | some U1 => match b U1 with
   | .ok (.nx U2) => yf g b ds U2
   | .ok (.ct U2) => yf g b ds U2
   | .ok (.bk U2) => .ok (.nx U2)
   | .ok (.rt r U2) => .ok (.rt r U2)
   | .exc x U2 => .exc x U2
   | .bad => .bad
def qdW (f : M (List D)) (g : D -> Env -> Option Env) (b : MS) : MS := sbnd f fun ds => yf g b ds
theorem WpI.sbnd {K : Fr0} {Z : St} {H : Hp} {D' : qhs} {f : M (List D)} {k : List D -> MS} {U : Env} {Q' : It -> Hp -> Prop} (h : WpS K c Z H D' (Sk.sbnd f k U))
  (hQ : ∀ ds U' J H', Rep K c U' Z H' -> qhu K (CnT c Z H') H' ds J -> Gr c.O Z H H' -> WpS K c Z H' D' (k ds U') -> Q' J H') : WpI K c Z H Q' (f U) := by
 unfold Sk.sbnd at h
 cases e : f U with
 | ok p => rw [e] at h; exact fun v H' hr hi hg => hQ p.1 p.2 v H' hr hi hg (h.gr hg.s)
 | exc x U' => rw [e] at h; exact fun H' hr hg => h Z H' hr hg.s
 | bad => rw [e] at h; exact h
theorem GrS.extT {Z Z' : St} {H H' : Hp} (g : GrS c.O Z H Z' H') : Ext (CnT c Z H) H H' := ⟨g.ext.tup, g.ext.frz, fun b o hb h => g.ext.at_ b o hb.1.2 h⟩
theorem GrS.cnT {Z Z' : St} {H H' : Hp} (g : GrS c.O Z H Z' H') {a : Addr} (h : CnT c Z H a) : Cn c Z' a := ⟨h.1.1, g.cl a h.1.2 h.2⟩
theorem w8 {α : Type} {l : List α} {i : Nat} (h : i < l.length) : l.drop i = l[i] :: l.drop (i + 1) := List.drop_eq_getElem_cons h
theorem v6 {it : Expr} {body : List Stmt} {f : M (List D)} {g : D -> Env -> Option Env} {b : MS} (hp : PassesOwn (model X.prog X.w) X.A X.env X.xe) (hc : X.calm = true) (hi : DI X c tg it f) (hg : DG X c tg g) (hb : DSs X c body b)
  (hs : ∀ x, foldedSetIterable it X.env x = pure x := by intro _; rfl) : DS X c (.For tg it body [] pos) (qdW f g b) := by
 obtain ⟨wi, pi, wI⟩ := hi
 obtain ⟨tg', pg, wg⟩ := hg
 obtain ⟨tb, pb, wb⟩ := hb
 refine ⟨_, qlz hp hc pi pg pb hs, fun U Z H D' r h => wI U Z H _ r (WpI.sbnd h fun ds U1 J H1 r1 iok g1 h1 => ?_)⟩
 refine ⟨fun i m Z' H' => m = ds.length - i /\ i <= ds.length /\ ∃ U', Rep X.K c U' Z' H' /\ GrS c.O Z H1 Z' H' /\ WpS X.K c Z' H' D' (yf g b (ds.drop i) U'), ⟨ds.length, by simp, Nat.zero_le _, U1, r1, .refl, by simpa using h1⟩, ?_⟩
 rintro i m Z' H' ⟨rfl, hi, U', r', gs, w⟩
 by_cases hlt : i < ds.length
 ·refine .inr ⟨iok.go H' i ds[i] gs.extT (by simp [hlt]), fun Z2 H2 => ∃ U2, Rep X.K c U2 Z2 H2 /\ GrS c.O Z H1 Z2 H2 /\ WpS X.K c Z2 H2 D' (yf g b (ds.drop (i + 1)) U2), fun Z2 H2 n => ⟨ds.length - (i + 1), by omega, rfl, hlt, n⟩, fun x H'' y => ?_⟩
  obtain ⟨sm, ix⟩ := iok.yl H' i ds[i] x H'' gs.extT (by simp [hlt]) y
  rw [w8 hlt] at w
  unfold yf at w
  have gs2 : GrS c.O Z H1 Z' H'' := gs.trans (Gr.of_same sm).s
  have ix2 : Is X.K (Cn c Z') H'' ds[i] x := Is.ext Ext.refl (fun a ha _ => gs2.cnT ha) ix
  cases e1 : g ds[i] U' with
  | none => simp only [e1] at w; exact w.elim
  | some U2 =>
   simp only [e1] at w
   refine wg U' Z' H'' ds[i] x U2 _ (r'.same sm) ix2 e1 fun Z2 r2 g2 _ => wb U2 Z2 H'' _ r2 ?_
   have w2 := w.gr ((Gr.of_same sm).s.trans g2)
   have gs3 : GrS c.O Z H1 Z2 H'' := gs2.trans g2
   cases e2 : b U2 with
   | ok fl =>
    cases fl with
    | nx U3 => simp only [e2] at w2; exact fun Z3 H3 r3 g3 => ⟨U3, r3, gs3.trans g3, w2.gr g3⟩
    | ct U3 => simp only [e2] at w2; exact fun Z3 H3 r3 g3 => ⟨U3, r3, gs3.trans g3, w2.gr g3⟩
    | bk U3 => simp only [e2] at w2; exact w2
    | rt d U3 => simp only [e2] at w2; exact w2
   | exc x U3 => simp only [e2] at w2; exact w2
   | bad => simp only [e2] at w2; exact w2
 ·have hie : i = ds.length := by omega
  subst hie
  rw [List.drop_of_length_le (Nat.le_refl _)] at w
  exact .inl ⟨iok.stop H' gs.extT, w Z' H' r' .refl⟩
end
def cin (B0 : Addr -> Prop) (H1 : Hp) (O' : List Nat) (Io' : Addr -> Prop) (acc : Addr) (S' : Nat -> Option (Option V)) : Fc where
 O := O'
 P := O'
 B := fun a => B0 a /\ a ≠ acc
 H0 := upd H1 acc (.lst [])
 Io := fun a => Io' a \/ a = acc
 E := fun _ _ => False
 S := S'
def zt (g : D -> Env -> Option Env) (t : M Bool) (e : M D) : List D -> List D -> Env -> R (List D × Env)
 | [], acc, U => .ok (acc, U)
 | d :: ds, acc, U => match g d U with
  | none => .bad
  | some U1 => match t U1 with
   | .ok (true, U2) => match e U2 with
    | .ok (y, U3) => if qO (acc.length + 1) then zt g t e ds (acc ++ [y]) U3 else .bad
    | _ => .bad
   | .ok (false, U2) => zt g t e ds acc U2
   | _ => .bad
def jP (nt : Nat) (fr : List Nat) (U : Env) : Env := List.replicate nt none ++ fr.map fun j => (U[j]?).join
def qlb (fo : Option (Nat × Nat)) (Ue U : Env) : Env := match fo with
 | none => U
 | some (i, j) => U.set j (Ue[i]?).join
def yX (nt : Nat) (fr : List Nat) (fo : Option (Nat × Nat)) (f : M (List D)) (g : D -> Env -> Option Env) (t : M Bool) (e : M D) : M D := bnd f fun ds U => match zt g t e ds [] (jP nt fr U) with
 | .ok (ys, Ue) => .ok (.lst ys, qlb fo Ue U)
 | _ => .bad
def DF (X : Cx) (c : Fc) (ifs : List Expr) (f : M Bool) : Prop := ∃ t, PF X ifs t /\ ∀ U Z H Q, Rep X.K c U Z H -> WpB X.K c Z H Q (f U) -> t Z H Q
def foO (fo : Option (Nat × Nat)) : List Nat := match fo with
 | none => []
 | some (i, _) => [i]
section
variable {X : Cx} {c : Fc} {tg a b e : Expr} {pos : Pos}
theorem qaA : DF X c [] (ret true) := ⟨_, ql5, fun U Z H Q r h => h H r .refl⟩
theorem qiZ {f : M Bool} (h : DT X c e f) : DF X c [e] f := by
 obtain ⟨t, p, w⟩ := h
 exact ⟨_, ql6 p, w⟩
theorem WpI.bnd {K : Fr0} {Z : St} {H : Hp} {Q : VK} {f : M (List D)} {k : List D -> M D} {U : Env} {Q' : It -> Hp -> Prop} (h : Wp K c Z H Q (Sk.bnd f k U))
  (hQ : ∀ ds U' J H', Rep K c U' Z H' -> qhu K (CnT c Z H') H' ds J -> Gr c.O Z H H' -> Wp K c Z H' Q (k ds U') -> Q' J H') : WpI K c Z H Q' (f U) := by
 unfold Sk.bnd at h
 cases e : f U with
 | ok p => rw [e] at h; exact fun v H' hr hi hg => hQ p.1 p.2 v H' hr hi hg (h.gr hg)
 | exc x U' => rw [e] at h; exact h
 | bad => rw [e] at h; exact h
theorem Rep.grow {K : Fr0} {B0 : Addr -> Prop} {H1 : Hp} {O' : List Nat} {Io' : Addr -> Prop} {acc : Addr} {S' : Nat -> Option (Option V)} {U : Env} {Z : St} {H : Hp} {xs ys : List V} (r : Rep K (cin B0 H1 O' Io' acc S') U Z H) (h : H acc = some (.lst xs)) (ho : ∀ j ∈ O', Z[j]? ≠ some (some (.ref acc))) :
  Rep K (cin B0 H1 O' Io' acc S') U Z (upd H acc (.lst ys)) := by
 have ext : Ext (fun a => a ≠ acc) H (upd H acc (.lst ys)) := ⟨fun b zs hb => by rw [qv (wB hb h (by intro z; cases z))]; exact hb, fun b o u hb => by rw [qv (wB hb h (by intro z; cases z))]; exact hb, fun b o hb hq => by rw [qv hb]; exact hq⟩
 have cnext : Ext (Cn (cin B0 H1 O' Io' acc S') Z) H (upd H acc (.lst ys)) := ⟨ext.tup, ext.frz, fun b o hb hq => ext.at_ b o hb.1.2 hq⟩
 refine ⟨r.len, fun i d hd => ?_, fun j hj v hv => ?_, r.inj, r.b0, fun b o hb hio => ?_, fun b hb => ?_, r.pO, r.ps⟩
 ·obtain ⟨v, h1, h2⟩ := r.val i d hd
  refine ⟨v, h1, ?_⟩
  rcases h2 with ⟨hi, ds, a, zs, h3, h5, h6, h7⟩ | ⟨hi, h3⟩
  ·subst h5
   have ne : a ≠ acc := fun e => ho i hi (by rw [h1, e])
   exact .inl ⟨hi, ds, a, zs, h3, rfl, by rw [qv ne]; exact h6, IsL.ext cnext (fun _ h _ => h) h7⟩
  ·exact .inr ⟨hi, Is.ext cnext (fun _ h _ => h) h3⟩
 ·obtain ⟨a, zs, h1, h2, h3⟩ := r.own j hj v hv
  subst h1
  have ne : a ≠ acc := fun e => ho j hj (by rw [hv, e])
  exact ⟨a, zs, rfl, by rw [qv ne]; exact h2, h3⟩
 ·have ne : b ≠ acc := fun e => hio (.inr e)
  rw [qv ne]
  exact r.kp b o hb hio
 ·by_cases e : b = acc
  ·subst e; rw [qw] at hb; cases hb
  ·rw [qv e] at hb; exact r.dm b hb
theorem qbb {α : Type} {o : Option (Option α)} {a : α} (h : o.join = some a) : o = some (some a) := by
 cases o with
 | none => cases h
 | some x => have : x = some a := h; rw [this]
def qj2 (c : Fc) (nt : Nat) (fr : List Nat) (fo : Option (Nat × Nat)) : Prop := match fo with
 | none => ∀ j ∈ fr, j ∉ c.O
 | some (i, j) => j ∈ c.O /\ nt <= i /\ fr[i - nt]? = some j /\ ∀ k j', fr[k]? = some j' -> nt + k ≠ i -> j' ∉ c.O
def qcL (Z : St) (fo : Option (Nat × Nat)) (a : Addr) : Prop := match fo with
 | none => False
 | some (_, j) => Z[j]? = some (some (.ref a))
theorem w9 {nt : Nat} {fr : List Nat} {Z : St} {k j : Nat} (h : fr[k]? = some j) : (qJ nt fr Z)[nt + k]? = some (Z[j]?).join := by
 unfold qJ
 rw [List.getElem?_append_right (by simp), List.length_replicate, gM_, show nt + k - nt = k by omega, h]
 rfl
theorem qfn {nt : Nat} {fr : List Nat} {U : Env} {i : Nat} {d : D} (hd : (jP nt fr U)[i]? = some (some d)) : ∃ k j, i = nt + k /\ fr[k]? = some j /\ U[j]? = some (some d) := by
 have hi : nt <= i := by
  apply Nat.le_of_not_lt
  intro hlt
  unfold jP at hd
  rw [List.getElem?_append_left (by simpa using hlt), List.getElem?_replicate] at hd
  split at hd <;> cases hd
 unfold jP at hd
 rw [List.getElem?_append_right (by simpa using hi), List.length_replicate, gM_] at hd
 cases ej : fr[i - nt]? with
 | none => rw [ej] at hd; cases hd
 | some j =>
  rw [ej] at hd
  exact ⟨i - nt, j, by omega, ej, qbb (by simpa using hd)⟩
theorem yG {nt : Nat} {fr : List Nat} {Z : St} {i : Nat} {d : V} (hd : (qJ nt fr Z)[i]? = some (some d)) : ∃ k j, i = nt + k /\ fr[k]? = some j /\ Z[j]? = some (some d) := by
 have hi : nt <= i := by
  apply Nat.le_of_not_lt
  intro hlt
  unfold qJ at hd
  rw [List.getElem?_append_left (by simpa using hlt), List.getElem?_replicate] at hd
  split at hd <;> cases hd
 unfold qJ at hd
 rw [List.getElem?_append_right (by simpa using hi), List.length_replicate, gM_] at hd
 cases ej : fr[i - nt]? with
 | none => rw [ej] at hd; cases hd
 | some j =>
  rw [ej] at hd
  exact ⟨i - nt, j, by omega, ej, qbb (by simpa using hd)⟩
theorem Rep.entry {K : Fr0} {nt : Nat} {fr : List Nat} {fo : Option (Nat × Nat)} {acc : Addr} {U : Env} {Z : St} {H : Hp} (r : Rep K c U Z H) (hn : H acc = none) (hfo : qj2 c nt fr fo) :
  Rep K (cin (Cn c Z) H (foO fo) (qcL Z fo) acc fun j => (qJ nt fr Z)[j]?) (jP nt fr U) (qJ nt fr Z) (upd H acc (.lst [])) := by
 have sm : jm H (upd H acc (.lst [])) := qA hn _
 have ownI : ∀ i ∈ foO fo, ∀ v, (qJ nt fr Z)[i]? = some (some v) -> ∃ j, fo = some (i, j) /\ j ∈ c.O /\ Z[j]? = some (some v) := fun i hi v hv => by
  cases fo with
  | none => cases hi
  | some p =>
   obtain ⟨i', j'⟩ := p
   have e : i = i' := by simpa [foO] using hi
   subst e
   obtain ⟨h1, h2, h3, h4⟩ := hfo
   obtain ⟨k, j, e1, e2, e3⟩ := yG hv
   have hk : k = i - nt := by omega
   subst hk
   rw [h3] at e2
   cases e2
   exact ⟨j', rfl, h1, e3⟩
 have clI : ∀ a, Cl c.O Z a -> Cl (foO fo) (qJ nt fr Z) a := fun a ha i hi e => by
  obtain ⟨j, _, hj, e2⟩ := ownI i hi _ e
  exact ha j hj e2
 refine ⟨by simp [jP, qJ], fun i d hd => ?_, fun i hi v hv => ?_, fun i j a hi hj h1 h2 => ?_, ⟨fun a ha => ?_, fun q P pos eP => ?_⟩, fun b o hb hio => ?_, fun b hb => ?_, fun _ h => h, fun _ _ => rfl⟩
 ·obtain ⟨k, j, e1, e2, e3⟩ := qfn hd
  subst e1
  by_cases hO : nt + k ∈ foO fo
  ·obtain ⟨v, hv⟩ : ∃ v, Z[j]? = some (some v) := by
    obtain ⟨v, h1, _⟩ := r.val j d e3
    exact ⟨v, h1⟩
   have hc : (qJ nt fr Z)[nt + k]? = some (some v) := by rw [w9 e2, hv]; rfl
   obtain ⟨j', f1, f2, f3⟩ := ownI _ hO v hc
   subst f1
   obtain ⟨g1, g2, g3, g4⟩ := hfo
   rw [show nt + k - nt = k by omega, e2] at g3
   cases g3
   obtain ⟨ds, a, xs, h1, h3, h4, h5⟩ := r.getO g1 e3
   rw [hv] at h3
   cases h3
   exact ⟨.ref a, hc, .inl ⟨hO, ds, a, xs, h1, rfl, sm _ _ h4, IsL.ext (Ext.of_same sm) (fun b hb hs => ⟨⟨hb, fun e => by subst e; rw [hn] at hs; cases hs⟩, clI b hb.2⟩) h5⟩⟩
  ·have hj : j ∉ c.O := by
    cases fo with
    | none => exact hfo j (List.mem_of_getElem? e2)
    | some p =>
     obtain ⟨i', j'⟩ := p
     exact hfo.2.2.2 k j e2 (fun e => hO (by simp [foO, e]))
   obtain ⟨v, h1, h2⟩ := r.get hj e3
   refine ⟨v, by rw [w9 e2, h1]; rfl, .inr ⟨hO, ?_⟩⟩
   refine Is.ext (Ext.of_same sm) (fun a ha hs => ⟨⟨ha, fun e => ?_⟩, clI a ha.2⟩) h2
   subst e; rw [hn] at hs; cases hs
 ·obtain ⟨j, f1, f2, f3⟩ := ownI i hi v hv
  obtain ⟨a, xs, h1, h2, h3⟩ := r.own j f2 v f3
  subst h1 f1
  exact ⟨a, xs, rfl, sm _ _ h2, .inr ⟨hi, .inl f3⟩⟩
 ·cases fo with
  | none => cases hi
  | some p =>
   obtain ⟨i', j'⟩ := p
   have e : i = i' := by simpa [foO, cin] using hi
   have e2 : j = i' := by simpa [foO, cin] using hj
   rw [e, e2]
 ·have ha' : upd H acc (.lst []) a = none := ha
  by_cases e : a = acc
  ·subst e; rw [qw] at ha'; cases ha'
  ·rw [qv e] at ha'; exact ⟨r.new ha', e⟩
 ·have hP := (r.tb q P pos eP).1
  refine ⟨sm _ _ hP, fun z => ?_⟩
  rcases z with z | z
  ·cases fo with
   | none => exact z
   | some p =>
    obtain ⟨b, xs, e1, e2, _⟩ := r.own _ hfo.1 _ z
    cases e1
    rw [hP] at e2; cases e2
  ·rw [z, hn] at hP; cases hP
 ·exact hb
 ·exact hb
theorem Rep.leave {K : Fr0} {nt : Nat} {fr : List Nat} {fo : Option (Nat × Nat)} {acc : Addr} {U Ue : Env} {Z Ze : St} {H H' : Hp} (r : Rep K c U Z H) (hn : H acc = none) (hfo : qj2 c nt fr fo) (hf : ∀ i j, fo = some (i, j) -> Ze[i]? = (qJ nt fr Z)[i]?)
  (q : Rep K (cin (Cn c Z) H (foO fo) (qcL Z fo) acc fun j => (qJ nt fr Z)[j]?) Ue Ze H') : Rep K c (qlb fo Ue U) Z H' /\ Gr c.O Z H H' := by
 have kp : ∀ b o, H b = some o -> ¬ qcL Z fo b -> H' b = some o := fun b o hb hio => q.kp b o (by show upd H acc (.lst []) b = some o; rw [qv (qI hb hn)]; exact hb) fun z => z.elim hio fun e => absurd e (qI hb hn)
 have clean : ∀ b, Cl c.O Z b -> ¬ qcL Z fo b := fun b hb hio => by
  cases fo with
  | none => exact hio
  | some p => exact hb p.2 hfo.1 hio
 have dom : ∀ b, H' b = none -> H b = none := fun b hb => by
  have := q.dm b hb
  by_cases e : b = acc
  ·subst e; exact hn
  ·have this : upd H acc (.lst []) b = none := this
   rw [qv e] at this; exact this
 have notT : ∀ b xs, H b = some (.tup xs) -> ¬ qcL Z fo b := fun b xs hb hio => by
  cases fo with
  | none => exact hio
  | some p =>
   obtain ⟨a, ys, e1, e2, _⟩ := r.own p.2 hfo.1 _ hio
   cases e1; rw [hb] at e2; cases e2
 have notF : ∀ b o u, H b = some (.frz o u) -> ¬ qcL Z fo b := fun b o u hb hio => by
  cases fo with
  | none => exact hio
  | some p =>
   obtain ⟨a, ys, e1, e2, _⟩ := r.own p.2 hfo.1 _ hio
   cases e1; rw [hb] at e2; cases e2
 have gr : Gr c.O Z H H' := ⟨⟨fun b xs hb => kp b _ hb (notT b xs hb), fun b o u hb => kp b _ hb (notF b o u hb), fun b o hc hb => kp b o hb (clean b hc)⟩, dom⟩
 refine ⟨⟨?_, fun k d hd => ?_, fun j hj v hv => ?_, r.inj, r.b0, fun b o hb hio => ?_, fun b hb => r.dm b (dom b hb), r.pO, r.ps⟩, gr⟩
 ·cases fo with
  | none => exact r.len
  | some p => show (U.set _ _).length = _; rw [lS_]; exact r.len
 ·-- an old slot, or the one that came qlb
  have oldSlot : U[k]? = some (some d) -> (∀ i, fo ≠ some (i, k)) -> ∃ v, Z[k]? = some (some v) /\ ((k ∈ c.O /\ ∃ ds a xs, d = .lst ds /\ v = .ref a /\ H' a = some (.lst xs) /\ IsL K (Cn c Z) H' ds xs) \/ (k ∉ c.O /\ Is K (Cn c Z) H' d v)) := fun hk hne => by
   obtain ⟨v, h1, h2⟩ := r.val k d hk
   refine ⟨v, h1, ?_⟩
   rcases h2 with ⟨hi, ds, a, xs, h3, h5, h6, h7⟩ | ⟨hi, h3⟩
   ·subst h5
    refine .inl ⟨hi, ds, a, xs, h3, rfl, kp a _ h6 (fun hio => ?_), gr.isL h7⟩
    cases fo with
    | none => exact hio
    | some p =>
     obtain ⟨i', j'⟩ := p
     have e := r.inj k j' a hi hfo.1 h1 hio
     exact hne i' (by rw [e])
   ·exact .inr ⟨hi, gr.is h3⟩
  cases fo with
  | none => exact oldSlot hd (fun i e => by cases e)
  | some p =>
   obtain ⟨i', j'⟩ := p
   have hd' : (U.set j' (Ue[i']?).join)[k]? = some (some d) := hd
   by_cases e : k = j'
   ·subst e
    have hl : k < U.length := by
     have := (gI_.mp hd').1
     rwa [lS_] at this
    rw [List.getElem?_set_self hl] at hd'
    have he : Ue[i']? = some (some d) := qbb (Option.some.inj hd')
    obtain ⟨ds, a, xs, h1, h3, h4, h5⟩ := q.getO (show i' ∈ foO (some (i', k)) by simp [foO]) he
    have h3' := hf i' k rfl
    rw [h3] at h3'
    obtain ⟨k2, j2, e1, e2, e3⟩ := yG h3'.symm
    have hk2 : k2 = i' - nt := by omega
    subst hk2
    rw [hfo.2.2.1] at e2
    cases e2
    exact ⟨.ref a, e3, .inl ⟨hfo.1, ds, a, xs, h1, rfl, h4, IsL.ext Ext.refl (fun b hb _ => hb.1.1) h5⟩⟩
   ·rw [zu e] at hd'
    exact oldSlot hd' (fun i e2 => e (by cases e2; rfl))
 ·obtain ⟨a, xs, h1, h2, h3⟩ := r.own j hj v hv
  subst h1
  by_cases hio : qcL Z fo a
  ·cases fo with
   | none => exact hio.elim
   | some p =>
    obtain ⟨i', j'⟩ := p
    have hc : (qJ nt fr Z)[i']? = some (some (.ref a)) := by
     have := w9 (Z := Z) (nt := nt) hfo.2.2.1
     rw [show nt + (i' - nt) = i' by have := hfo.2.1; omega] at this
     rw [this]
     have hio' : Z[j']? = some (some (.ref a)) := hio
     rw [hio']; rfl
    have h3' := hf i' j' rfl
    rw [hc] at h3'
    obtain ⟨a', ys, e1, e2, _⟩ := q.own i' (by simp [foO, cin]) _ h3'
    cases e1
    exact ⟨a, ys, rfl, e2, h3⟩
  ·exact ⟨a, xs, rfl, kp a _ h2 hio, h3⟩
 ·by_cases hio2 : qcL Z fo b
  ·cases fo with
   | none => exact hio2.elim
   | some p =>
    obtain ⟨a, ys, e1, e2, e3⟩ := r.own p.2 hfo.1 _ hio2
    cases e1
    rcases e3 with e3 | e3
    ·rw [hb] at e3; cases e3
    ·exact absurd e3.2 hio
  ·exact kp b o (r.kp b o hb hio) hio2
theorem uP {it elt : Expr} {ifs : List Expr} {scope : Scope} {N' : List Str} {nt : Nat} {fr : List Nat} {fo : Option (Nat × Nat)} {f : M (List D)} {g : D -> Env -> Option Env} {t : M Bool} {k : M D} (hc : X.calm = true) (hi : DI X c tg it f) (S : CompScope X scope N' nt fr)
  (hfo : qj2 c nt fr fo)
  (hb : ∀ fp cl C s₀ H₀ pn B0 H1 Io' acc S', DG (zD X scope N' fp cl C s₀ H₀ pn) (cin B0 H1 (foO fo) Io' acc S') tg g /\ DF (zD X scope N' fp cl C s₀ H₀ pn) (cin B0 H1 (foO fo) Io' acc S') ifs t /\ DE (zD X scope N' fp cl C s₀ H₀ pn) (cin B0 H1 (foO fo) Io' acc S') elt k)
  (hs : ∀ x, foldedSetIterable it X.env x = pure x := by intro _; rfl) : DE X c (.ListComp elt [⟨tg, it, ifs, 0⟩] scope pos) (yX nt fr fo f g t k) := by
 obtain ⟨wi, pi, wI⟩ := hi
 refine ⟨_, qj1 hc pi S hs, fun U Z H Q r h => wI U Z H _ r (WpI.bnd h fun ds U1 J H1 r1 iok g1 h1 => ?_)⟩
 intro acc fp cl C s₀ H₀ pn hn
 obtain ⟨⟨tg', pg, wg⟩, ⟨tt, pt, wt⟩, ⟨te, pe, we⟩⟩ := hb fp cl C s₀ H₀ pn (Cn c Z) H1 (qcL Z fo) acc fun j => (qJ nt fr Z)[j]?
 refine ⟨tg', tt, te, pg, pt, pe, ?_⟩
 cases ew : zt g t k ds [] (jP nt fr U1) with
 | exc x U' => rw [ew] at h1; exact h1.elim
 | bad => rw [ew] at h1; exact h1.elim
 | ok p =>
  rw [ew] at h1
  obtain ⟨ys, Ue⟩ := p
  have h1 : ∀ v H', Rep X.K c (qlb fo Ue U1) Z H' -> Is X.K (Cn c Z) H' (.lst ys) v -> Gr c.O Z H1 H' -> Q v H' := h1
  have accO : ∀ j ∈ foO fo, (qJ nt fr Z)[j]? ≠ some (some (.ref acc)) := fun j hj e => by
   have r0 := r1.entry (acc := acc) hn hfo
   cases fo with
   | none => cases hj
   | some p =>
    obtain ⟨i', j'⟩ := p
    have e2 : j = i' := by simpa [foO] using hj
    subst e2
    obtain ⟨k2, j2, e1, e2, e3⟩ := yG e
    have hk2 : k2 = j - nt := by omega
    subst hk2
    rw [hfo.2.2.1] at e2
    cases e2
    obtain ⟨a, us, e4, e5, _⟩ := r1.own j' hfo.1 _ e3
    cases e4; rw [hn] at e5; cases e5
  refine ⟨fun i m Z' H' => m = ds.length - i /\ i <= ds.length /\ ∃ U' zs xs, Rep X.K (cin (Cn c Z) H1 (foO fo) (qcL Z fo) acc fun j => (qJ nt fr Z)[j]?) U' Z' H' /\ (∀ j ∈ foO fo, Z'[j]? = (qJ nt fr Z)[j]?) /\ H' acc = some (.lst xs) /\ IsL X.K (Cn (cin (Cn c Z) H1 (foO fo) (qcL Z fo) acc fun j => (qJ nt fr Z)[j]?) Z') H' zs xs /\ zt g t k (ds.drop i) zs U' = .ok (ys, Ue),
   ⟨ds.length, by simp, Nat.zero_le _, jP nt fr U1, [], [], r1.entry hn hfo, fun _ _ => rfl, qw, rfl, by simpa using ew⟩, ?_⟩
  rintro i m Z' H' ⟨rfl, hi, U', zs, xs, r', so, ha, iz, w⟩
  obtain ⟨_, gr⟩ := r1.leave hn hfo (fun i j e => so i (by rw [e]; simp [foO])) r'
  have ex : Ext (CnT c Z H1) H1 H' := ⟨gr.ext.tup, gr.ext.frz, fun b o hb hq => gr.ext.at_ b o hb.1.2 hq⟩
  have accC : ∀ τ : St, (∀ j ∈ foO fo, τ[j]? = (qJ nt fr Z)[j]?) -> Cl (foO fo) τ acc := fun τ hτ j hj e => accO j hj (by rw [<- hτ j hj]; exact e)
  by_cases hlt : i < ds.length
  ·refine .inr ⟨iok.go H' i ds[i] ex (by simp [hlt]), fun x H'' y => ?_⟩
   obtain ⟨sm, ix⟩ := iok.yl H' i ds[i] x H'' ex (by simp [hlt]) y
   rw [w8 hlt] at w
   unfold zt at w
   have ix2 : Is X.K (Cn (cin (Cn c Z) H1 (foO fo) (qcL Z fo) acc fun j => (qJ nt fr Z)[j]?) Z') H'' ds[i] x := Is.ext Ext.refl (fun a ha _ => ⟨⟨ha.1, fun e => by
    have := ha.2
    rw [e, hn] at this; cases this⟩, fun j hj e => by
     rw [so j hj] at e
     cases fo with
     | none => cases hj
     | some p =>
      obtain ⟨i', j'⟩ := p
      have e2 : j = i' := by simpa [foO, cin] using hj
      subst e2
      obtain ⟨k2, j2, e1, e2, e3⟩ := yG e
      have hk2 : k2 = j - nt := by omega
      subst hk2
      rw [hfo.2.2.1] at e2
      cases e2
      exact ha.1.2 j' hfo.1 e3⟩) ix
   cases e1 : g ds[i] U' with
   | none => simp only [e1] at w; cases w
   | some U2 =>
    simp only [e1] at w
    refine wg U' Z' H'' ds[i] x U2 _ (r'.same sm) ix2 e1 fun Z2 r2 g2 o2 => ?_
    have so2 : ∀ j ∈ foO fo, Z2[j]? = (qJ nt fr Z)[j]? := fun j hj => (o2 j hj).trans (so j hj)
    have ha2 : H'' acc = some (.lst xs) := sm _ _ ha
    have iz2 := g2.isL (IsL.ext (Ext.of_same sm) (fun _ h _ => h) iz)
    cases e2 : t U2 with
    | exc x U3 => simp only [e2] at w; cases w
    | bad => simp only [e2] at w; cases w
    | ok p2 =>
     obtain ⟨bb, U3⟩ := p2
     refine wt U2 Z2 H'' _ r2 ?_
     rw [e2]
     intro H3 r3 g3
     have ha3 : H3 acc = some (.lst xs) := g3.ext.at_ _ _ (accC Z2 so2) ha2
     have iz3 := g3.isL iz2
     cases bb with
     | false =>
      rw [if_neg Bool.false_ne_true]
      simp only [e2] at w
      exact ⟨ds.length - (i + 1), by omega, rfl, hlt, U3, zs, xs, r3, so2, ha3, iz3, w⟩
     | true =>
      rw [if_pos rfl]
      simp only [e2] at w
      cases e3 : k U3 with
      | exc x U4 => simp only [e3] at w; cases w
      | bad => simp only [e3] at w; cases w
      | ok p3 =>
       obtain ⟨d4, U4⟩ := p3
       simp only [e3] at w
       refine we U3 Z2 H3 _ r3 ?_
       rw [e3]
       intro y4 H4 r4 i4 g4
       have ha4 : H4 acc = some (.lst xs) := g4.ext.at_ _ _ (accC Z2 so2) ha3
       have hsz : qO (zs.length + 1) = true := by
        cases e5 : qO (zs.length + 1) with
        | true => rfl
        | false => rw [e5] at w; simp at w
       rw [if_pos hsz] at w
       have hsz' : zs.length + 1 <= sizeLine := of_decide_eq_true hsz
       have r5 := r4.grow (ys := xs ++ [y4]) ha4 (fun j hj e => accC Z2 so2 j hj e)
       have ext5 : Ext (Cn (cin (Cn c Z) H1 (foO fo) (qcL Z fo) acc fun j => (qJ nt fr Z)[j]?) Z2) H4 (upd H4 acc (.lst (xs ++ [y4]))) := ⟨fun b us hb => by rw [qv (wB hb ha4 (by intro z; cases z))]; exact hb, fun b o u hb => by rw [qv (wB hb ha4 (by intro z; cases z))]; exact hb, fun b o hb hq => by rw [qv hb.1.2]; exact hq⟩
       refine ⟨xs, ha4, by rw [iz3.length]; omega, ds.length - (i + 1), by omega, rfl, hlt, U4, zs ++ [d4], xs ++ [y4], r5, so2, qw, ?_, w⟩
       exact IsL.append (IsL.ext ext5 (fun _ h _ => h) (g4.isL iz3)) (IsL.one (Is.ext ext5 (fun _ h _ => h) i4))
  ·have hie : i = ds.length := by omega
   subst hie
   rw [List.drop_of_length_le (Nat.le_refl _)] at w
   unfold zt at w
   cases w
   obtain ⟨r6, g6⟩ := r1.leave hn hfo (fun i j e => so i (by rw [e]; simp [foO])) r'
   exact .inl ⟨iok.stop H' ex, h1 _ H' r6 ⟨acc, xs, rfl, r1.new hn, ha, IsL.ext Ext.refl (fun a ha hs => ha.1.1) iz⟩ g6⟩
end
theorem Rep.io {K : Fr0} {c : Fc} {U : Env} {Z : St} {H H' : Hp} {i : Nat} {a : Addr} {bs : List D} {xs : List V} (r : Rep K c U Z H) (hi : i ∈ c.O) (hs : Z[i]? = some (some (.ref a))) (kp : ∀ b o, b ≠ a -> H b = some o -> H' b = some o)
  (ha : H' a = some (.lst xs)) (him : True) (il : IsL K (Cn c Z) H' bs xs) (dm : ∀ b, H' b = none -> H b = none) : Rep K c (U.set i (some (.lst bs))) Z H' /\ Gr c.O Z H H' := by
 obtain ⟨a', xs0, e0, h0, hown⟩ := r.own i hi _ hs
 cases e0
 have gr : Gr c.O Z H H' := ⟨⟨fun b us hb => kp b _ (wB hb h0 (by intro z; cases z)) hb, fun b o u hb => kp b _ (wB hb h0 (by intro z; cases z)) hb, fun b o hc hb => kp b o (fun e => hc i hi (by rw [hs, e])) hb⟩, dm⟩
 refine ⟨⟨by rw [lS_]; exact r.len, fun k d hk => ?_, fun j hj v hv => ?_, r.inj, r.b0, fun b o hb hio => ?_, fun b hb => r.dm b (dm b hb), r.pO, r.ps⟩, gr⟩
 ·by_cases e : k = i
  ·subst e
   have hl : k < U.length := by
    have := (gI_.mp hk).1
    rwa [lS_] at this
   rw [List.getElem?_set_self hl] at hk
   cases hk
   exact ⟨.ref a, hs, .inl ⟨hi, bs, a, xs, rfl, rfl, ha, il⟩⟩
  ·rw [zu e] at hk
   obtain ⟨v, h1, h2⟩ := r.val k d hk
   refine ⟨v, h1, ?_⟩
   rcases h2 with ⟨hk2, ds, b, ys, h3, h5, h6, h7⟩ | ⟨hk2, h3⟩
   ·subst h5
    have ne : b ≠ a := fun e2 => e (r.inj k i a hk2 hi (by rw [h1, e2]) hs)
    exact .inl ⟨hk2, ds, b, ys, h3, rfl, kp b _ ne h6, gr.isL h7⟩
   ·exact .inr ⟨hk2, gr.is h3⟩
 ·obtain ⟨b, ys, h1, h2, h3⟩ := r.own j hj v hv
  subst h1
  by_cases e : b = a
  ·subst e; exact ⟨b, xs, rfl, ha, h3⟩
  ·exact ⟨b, ys, rfl, kp b _ e h2, h3⟩
 ·have ne : b ≠ a := fun e => by
   subst e
   rcases hown with z | z
   ·rw [hb] at z; cases z
   ·exact hio z.2
  exact kp b o ne (r.kp b o hb hio)
def zx (i : Nat) (U : Env) : Option (List D) := match U[i]? with
 | some (some (.lst ds)) => some ds
 | _ => none
theorem qgg {i : Nat} {U : Env} {ds : List D} (h : zx i U = some ds) : U[i]? = some (some (.lst ds)) := by
 unfold zx at h
 split at h
 ·rename_i e; cases h; exact e
 ·cases h
theorem Rep.getLO {K : Fr0} {c : Fc} {U : Env} {Z : St} {H : Hp} (r : Rep K c U Z H) {i : Nat} {ds : List D} (hi : i ∈ c.O) (h : zx i U = some ds) :
  ∃ a xs, True /\ Z[i]? = some (some (.ref a)) /\ H a = some (.lst xs) /\ IsL K (Cn c Z) H ds xs := by
 obtain ⟨ds', a, xs, h1, h3, h4, h5⟩ := r.getO hi (qgg h)
 cases h1
 exact ⟨a, xs, trivial, h3, h4, h5⟩
theorem zE {H : Hp} {a b : Addr} {o u : HO} (h : b ≠ a) (hb : H b = some o) : upd H a u b = some o := by rw [qv h]; exact hb
theorem qdX {H : Hp} {a b : Addr} {u : HO} (h : upd H a u b = none) : H b = none := by
 by_cases e : b = a
 ·subst e; rw [qw] at h; cases h
 ·rw [qv e] at h; exact h
section
variable {X : Cx} {c : Fc} {a b e : Expr} {pos : Pos}
def wm (i : Nat) (f : M D) : M D := fun U => match zx i U with
 | none => .bad
 | some _ => (bnd f fun d U => match zx i U with
  | some ds => if imm d && qO (ds.length + 1) then .ok (.non, U.set i (some (.lst (ds ++ [d])))) else .bad
  | none => .bad) U
theorem qgh {i : Nat} {x : Str} {p1 apos : Pos} {f : M D} (he : DE X c e f) (ho : i ∈ c.O := by exact of_decide_eq_true rfl) (hN : X.N[i]? = some x := by rfl) (hv : Vis X.env.scope x := by first | exact Or.inl rfl | exact Or.inr (Or.inl rfl) | exact Or.inr (Or.inr rfl)) (hd : (x == ("__debug__" : Str)) = false := by decide) (hcd : (x == ("__classdict__" : Str)) = false := by decide)
  (hbase : attributeBase (.Name x p1) "append" X.env (eval (.Name x p1) X.env) = eval (.Name x p1) X.env := by rfl)
  (hfew : ((backTo pos (starEach [e] X.env)).all (fun x => !x.1) && (backToKw pos (keywordEach [] X.env)).all (fun x => x.1.isSome)
   && decide ([e].length + ([] : List Keyword).length + (if ([] : List Keyword).isEmpty then 0 else 1) < 30)) = true := by rfl)
  (hline : (apos.endLine == pos.line) = true := by rfl) (hs : starEach [e] X.env = (false, eval e X.env) :: starEach [] X.env := by rfl) (hplain : (backTo pos (starEach [] X.env)).any (·.1) = false := by rfl) :
  DE X c (.Call (.Attribute (.Name x p1) "append" apos) [e] [] pos) (wm i f) := by
 obtain ⟨t, p, w⟩ := he
 refine ⟨_, qlQ PySem.F.plainAttrs_list PySem.F.slot_list_append PySem.F.type_list_append qa0 (vm hN hv hd hcd) (uu p qaX hs) hbase hfew hline hs hplain, fun U Z H Q r h => ?_⟩
 unfold wm at h
 cases e0 : zx i U with
 | none => rw [e0] at h; exact h.elim
 | some ds0 =>
  simp only [e0] at h
  obtain ⟨l, xs0, _, hl, hH, _⟩ := r.getLO ho e0
  refine ⟨.ref l, hl, .inl ⟨rfl, xs0, .inl (.inl hH)⟩, w U Z H _ r (Wp.bnd h fun d U1 v H1 r1 i1 g1 h1 => ?_)⟩
  cases e1 : zx i U1 with
  | none => simp only [e1] at h1; exact h1.elim
  | some ds =>
   simp only [e1] at h1
   by_cases hb : (imm d && qO (ds.length + 1)) = true
   ·rw [if_pos hb] at h1
    rw [Bool.and_eq_true] at hb
    obtain ⟨l', xs, him, hl', hH', il⟩ := r1.getLO ho e1
    rw [hl] at hl'
    cases hl'
    have hsz : ds.length + 1 <= sizeLine := of_decide_eq_true hb.2
    have ext : Ext (Cn c Z) H1 (upd H1 l (.lst (xs ++ [v]))) := ⟨fun b us hb => zE (wB hb hH' (by intro z; cases z)) hb, fun b o u hb => zE (wB hb hH' (by intro z; cases z)) hb, fun b o hb hq => zE (fun e => hb.2 i ho (by rw [hl, e])) hq⟩
    obtain ⟨r2, g2⟩ := r1.io (H' := upd H1 l (.lst (xs ++ [v]))) (bs := ds ++ [d]) ho hl (fun b o hb ho => zE hb ho) qw trivial
     (IsL.append (IsL.ext ext (fun _ h _ => h) il) (IsL.one (Is.ext ext (fun _ h _ => h) i1))) (fun b hb => qdX hb)
    exact ⟨l, xs, v, rfl, rfl, hH', by rw [il.length]; omega, h1 _ _ r2 rfl g2⟩
   ·rw [if_neg hb] at h1; exact h1.elim
def qdY (i : Nat) (k f : M D) : MS := sbnd f fun d U => match zx i U with
 | none => .bad
 | some _ => (sbnd k fun j U => match j, zx i U with
  | .int n, some ds => match ixN ds.length n with
   | some q => if imm d then .ok (.nx (U.set i (some (.lst (ds.set q d))))) else .bad
   | none => .bad
  | _, _ => .bad) U
theorem qgi {i : Nat} {x : Str} {p1 p2 : Pos} {ke : Expr} {f k : M D} (he : DE X c e f) (hk : DE X c ke k) (ho : i ∈ c.O := by exact of_decide_eq_true rfl) (hN : X.N[i]? = some x := by rfl) (hv : Vis X.env.scope x := by first | exact Or.inl rfl | exact Or.inr (Or.inl rfl) | exact Or.inr (Or.inr rfl)) (hd : (x == ("__debug__" : Str)) = false := by decide) (hcd : (x == ("__classdict__" : Str)) = false := by decide)
  (ha : ∀ v, assign (.Subscript (.Name x p1) ke p2) X.env v = (do
   let ov <- holding [v] (eval (.Name x p1) X.env)
   let iv <- holding [v, ov] (eval ke X.env)
   standAt p2
   holding [v, ov, iv] (setItem ov iv v)
   release [v, ov, iv] []) := by intro _; rfl)
  (hs : swapsWithSole [.Subscript (.Name x p1) ke p2] e pos.line X.env = pure false := by rfl) (hw : swappedStores [.Subscript (.Name x p1) ke p2] e X.env = pure none := by rfl) (h1 : (assignEach [.Subscript (.Name x p1) ke p2] X.env).map (·.2) = [assign (.Subscript (.Name x p1) ke p2) X.env] := by rfl) :
  DS X c (.Assign [.Subscript (.Name x p1) ke p2] e pos) (qdY i k f) := by
 obtain ⟨t, p, w⟩ := he
 obtain ⟨tk, pk, wk⟩ := hk
 refine ⟨_, qiM p (qlw (vm hN hv hd hcd) pk qhJ ha) hs hw h1, fun U Z H D r h => w U Z H _ r (Wp.sbnd h fun d U1 v H1 r1 i1 g1 h1 => ?_)⟩
 cases e0 : zx i U1 with
 | none => simp only [e0] at h1; exact h1.elim
 | some ds0 =>
  simp only [e0] at h1
  obtain ⟨l, xs0, _, hl, hH, _⟩ := r1.getLO ho e0
  refine ⟨.ref l, hl, wk U1 Z H1 _ r1 (Wp.sbnd h1 fun j U2 u H2 r2 i2 g2 h2 => ?_)⟩
  cases j with
  | int n =>
   cases e1 : zx i U2 with
   | none => simp only [e1] at h2; exact h2.elim
   | some ds =>
    simp only [e1] at h2
    cases e2 : ixN ds.length n with
    | none => simp only [e2] at h2; exact h2.elim
    | some q =>
     simp only [e2] at h2
     by_cases hb : imm d = true
     ·rw [if_pos hb] at h2
      obtain ⟨l', xs, him, hl', hH', il⟩ := r2.getLO ho e1
      rw [hl] at hl'
      cases hl'
      cases i2
      have i3 := g2.is i1
      have ext : Ext (Cn c Z) H2 (upd H2 l (.lst (xs.set q v))) := ⟨fun b us hb => zE (wB hb hH' (by intro z; cases z)) hb, fun b o u hb => zE (wB hb hH' (by intro z; cases z)) hb, fun b o hb hq => zE (fun e => hb.2 i ho (by rw [hl, e])) hq⟩
      obtain ⟨r3, g3⟩ := r2.io (H' := upd H2 l (.lst (xs.set q v))) (bs := ds.set q d) ho hl (fun b o hb ho => zE hb ho) qw trivial
       (IsL.set (Is.ext ext (fun _ h _ => h) i3) q (IsL.ext ext (fun _ h _ => h) il)) (fun b hb => qdX hb)
      exact ⟨l, xs, n, q, rfl, rfl, hH', by rw [il.length]; exact e2, h2 Z _ r3 g3.s⟩
     ·rw [if_neg hb] at h2; exact h2.elim
  | _ => exact h2.elim
structure qhX (K : Fr0) (c : Fc) (U : Env) (Z : St) (H : Hp) (a : Addr) : Prop where
 val : ∀ i d v, U[i]? = some (some d) -> i ∉ c.O -> Z[i]? = some (some v) -> Is K (fun b => Cn c Z b /\ b ≠ a) H d v
 cont : ∀ i ds b xs, U[i]? = some (some (.lst ds)) -> i ∈ c.O -> Z[i]? = some (some (.ref b)) -> H b = some (.lst xs) -> IsL K (Cn c Z) H ds xs -> IsL K (fun b => Cn c Z b /\ b ≠ a) H ds xs
 own : ∀ j ∈ c.O, Z[j]? ≠ some (some (.ref a))
 new : c.H0 a = none
theorem Is.fresh {K : Fr0} {A : Addr -> Prop} {H : Hp} {d : D} {v : V} {a : Addr} (h : Is K A H d v) (hn : H a = none) : Is K (fun b => A b /\ b ≠ a) H d v := Is.ext Ext.refl (fun b h1 h2 => ⟨h1, fun e => by rw [e, hn] at h2; cases h2⟩) h
theorem Rep.apart {K : Fr0} {U : Env} {Z : St} {H : Hp} {a : Addr} {o : HO} (r : Rep K c U Z H) (hn : H a = none) : qhX K c U Z (upd H a o) a where
 val := fun i d v h1 h2 h3 => by
  obtain ⟨w, h4, h5⟩ := r.get h2 h1
  rw [h3] at h4
  cases h4
  exact Is.ext (Ext.of_same (qA hn _)) (fun _ h _ => h) (h5.fresh hn)
 cont := fun i ds b xs h1 h2 h3 h4 _ => by
  obtain ⟨ds', a', ys, e1, e2, e3, e4⟩ := r.getO h2 h1
  cases e1
  rw [h3] at e2
  cases e2
  have := qA hn o _ _ e3
  rw [h4] at this
  cases this
  exact IsL.ext (Ext.of_same (qA hn _)) (fun b hb hs => ⟨hb, fun e => by rw [e, hn] at hs; cases hs⟩) e4
 own := fun j hj e => (r.new hn).2 j hj e
 new := r.dm a hn
theorem Rep.apart_same {K : Fr0} {U : Env} {Z : St} {H H' : Hp} {a : Addr} (r : Rep K c U Z H) (hn : H a = none) (sm : jm H H') : qhX K c U Z H' a where
 val := fun i d v h1 h2 h3 => by
  obtain ⟨w, h4, h5⟩ := r.get h2 h1
  rw [h3] at h4
  cases h4
  exact Is.ext (Ext.of_same sm) (fun _ h _ => h) (h5.fresh hn)
 cont := fun i ds b xs h1 h2 h3 h4 _ => by
  obtain ⟨ds', a', ys, e1, e2, e3, e4⟩ := r.getO h2 h1
  cases e1
  rw [h3] at e2
  cases e2
  have := sm _ _ e3
  rw [h4] at this
  cases this
  exact IsL.ext (Ext.of_same sm) (fun b hb hs => ⟨hb, fun e => by rw [e, hn] at hs; cases hs⟩) e4
 own := fun j hj e => (r.new hn).2 j hj e
 new := r.dm a hn
def WpN (K : Fr0) (c : Fc) (Z : St) (H : Hp) (Q : VK) : R (List D × Env) -> Prop
 | .ok (ds, U) => ∀ a xs H', H a = none -> Rep K c U Z H' -> qhX K c U Z H' a -> H' a = some (.lst xs) -> True -> IsL K (fun b => Cn c Z b /\ b ≠ a) H' ds xs -> Gr c.O Z H H' -> Q (.ref a) H'
 | .exc x U => ∀ H', Rep K c U Z H' -> Gr c.O Z H H' -> c.E x H'
 | .bad => False
def DN (X : Cx) (c : Fc) (e : Expr) (f : M (List D)) : Prop := ∃ t, PE X e t /\ ∀ U Z H Q, Rep X.K c U Z H -> WpN X.K c Z H Q (f U) -> t Z H Q
theorem WpN.gr {K : Fr0} {Z : St} {H H1 : Hp} {Q : VK} : ∀ {r : R (List D × Env)}, WpN K c Z H Q r -> Gr c.O Z H H1 -> WpN K c Z H1 Q r
 | .ok (d, U), h, g => fun a xs H' hn h1 h2 h3 h4 h5 hg => h a xs H' (g.dom a hn) h1 h2 h3 h4 h5 (g.trans hg)
 | .exc x U, h, g => fun H' hr hg => h H' hr (g.trans hg)
 | .bad, h, _ => h
theorem WpL.bndN {K : Fr0} {Z : St} {H : Hp} {Q : VK} {f : M (List D)} {k : List D -> M (List D)} {U : Env} {Q' : List V -> Hp -> Prop} (h : WpN K c Z H Q (Sk.bnd f k U)) (hQ : ∀ d U' v H', Rep K c U' Z H' -> IsL K (Cn c Z) H' d v -> Gr c.O Z H H' -> WpN K c Z H' Q (k d U') -> Q' v H') : WpL K c Z H Q' (f U) := by
 unfold Sk.bnd at h
 cases e : f U with
 | ok p => rw [e] at h; exact fun v H' hr hi hg => hQ p.1 p.2 v H' hr hi hg (h.gr hg)
 | exc x U' => rw [e] at h; exact h
 | bad => rw [e] at h; exact h
def qnf (f : M (List D)) : M (List D) := bnd f fun ds => lift (if immL ds && qO ds.length then some ds else none)
theorem qma {es : List Expr} {f : M (List D)} (h : DA X c es f) : DN X c (.List es pos) (qnf f) := by
 obtain ⟨t, p, w⟩ := h
 refine ⟨_, qf1 p, fun U Z H Q r h => w U Z H _ r (WpL.bndN h fun ds U1 vs H1 r1 i1 g1 h1 => ?_)⟩
 by_cases hb : (immL ds && qO ds.length) = true
 ·rw [if_pos hb] at h1
  rw [Bool.and_eq_true] at hb
  refine ⟨by rw [i1.length]; exact of_decide_eq_true hb.2, fun p hp => ?_⟩
  exact h1 p vs _ hp (r1.laid hp _) (r1.apart hp) qw trivial (IsL.ext (Ext.of_same (qA hp _)) (fun b h hs => ⟨h, fun e => by rw [e, hp] at hs; cases hs⟩) i1) (.of_same (qA hp _))
 ·rw [if_neg hb] at h1; exact h1.elim
theorem Cl.setO {O : List Nat} {Z : St} {i : Nat} {a b : Addr} (h : Cl O Z b) (hb : b ≠ a) : Cl O (Z.set i (some (.ref a))) b := fun j hj e => by
 by_cases hji : j = i
 ·subst hji
  have hl : j < Z.length := by
   have := (gI_.mp e).1
   rwa [lS_] at this
  rw [List.getElem?_set_self hl] at e
  cases e
  exact hb rfl
 ·rw [zu hji] at e
  exact h j hj e
theorem Rep.setO {K : Fr0} {U : Env} {Z : St} {H : Hp} {i : Nat} {a : Addr} {ds : List D} {xs : List V} (r : Rep K c U Z H) (hi : i ∈ c.O) (hP : i ∉ c.P) (ap : qhX K c U Z H a) (ha : H a = some (.lst xs)) (him : True) (il : IsL K (fun b => Cn c Z b /\ b ≠ a) H ds xs) :
  Rep K c (U.set i (some (.lst ds))) (Z.set i (some (.ref a))) H where
 len := by rw [lS_, lS_]; exact r.len
 val := fun j e hj => by
  by_cases e1 : j = i
  ·subst e1
   have hl : j < U.length := by
    have := (gI_.mp hj).1
    rwa [lS_] at this
   rw [List.getElem?_set_self hl] at hj
   cases hj
   exact ⟨.ref a, List.getElem?_set_self (by rw [<- r.len]; exact hl), .inl ⟨hi, ds, a, xs, rfl, rfl, ha, IsL.ext Ext.refl (fun b hb _ => ⟨hb.1.1, hb.1.2.setO hb.2⟩) il⟩⟩
  ·rw [zu e1] at hj
   obtain ⟨w, h1, h2⟩ := r.val j e hj
   refine ⟨w, by rw [zu e1]; exact h1, ?_⟩
   rcases h2 with ⟨g1, ds', b', xs', g3, g5, g6, g7⟩ | ⟨h3, h4⟩
   ·subst g3 g5
    exact .inl ⟨g1, ds', b', xs', rfl, rfl, g6, IsL.ext Ext.refl (fun b hb _ => ⟨hb.1.1, hb.1.2.setO hb.2⟩) (ap.cont j ds' b' xs' hj g1 h1 g6 g7)⟩
   ·exact .inr ⟨h3, Is.ext Ext.refl (fun b hb _ => ⟨hb.1.1, hb.1.2.setO hb.2⟩) (ap.val j e w hj h3 h1)⟩
 own := fun j hj w h => by
  by_cases e1 : j = i
  ·subst e1
   have hl : j < Z.length := by
    have := (gI_.mp h).1
    rwa [lS_] at this
   rw [List.getElem?_set_self hl] at h
   cases h
   exact ⟨a, xs, rfl, ha, .inl ap.new⟩
  ·rw [zu e1] at h
   exact r.own j hj w h
 inj := fun j k b hj hk h1 h2 => by
  by_cases e1 : j = i
  ·by_cases e2 : k = i
   ·rw [e1, e2]
   ·subst e1
    have hl : j < Z.length := by
     have := (gI_.mp h1).1
     rwa [lS_] at this
    rw [List.getElem?_set_self hl] at h1
    cases h1
    rw [zu e2] at h2
    exact absurd h2 (ap.own k hk)
  ·by_cases e2 : k = i
   ·subst e2
    have hl : k < Z.length := by
     have := (gI_.mp h2).1
     rwa [lS_] at this
    rw [List.getElem?_set_self hl] at h2
    cases h2
    rw [zu e1] at h1
    exact absurd h1 (ap.own j hj)
   ·rw [zu e1] at h1
    rw [zu e2] at h2
    exact r.inj j k b hj hk h1 h2
 b0 := r.b0
 kp := r.kp
 dm := r.dm
 pO := r.pO
 ps := fun j hj => by
  have e : j ≠ i := fun e => hP (e ▸ hj)
  rw [zu e]; exact r.ps j hj
def qca (i : Nat) (f : M (List D)) : MS := sbnd f fun ds U => .ok (.nx (U.set i (some (.lst ds))))
theorem qcb {i : Nat} {x : Str} {pos' : Pos} {f : M (List D)} (hN : X.N.Nodup) (he : DN X c e f) (ho : i ∈ c.O := by exact of_decide_eq_true rfl) (hP : i ∉ c.P := by exact of_decide_eq_false rfl) (hi : X.N[i]? = some x := by rfl) (hx : Loc X.env.scope x := by first | exact Or.inl rfl | exact Or.inr rfl) (hs : swapsWith e (some (.Name x pos')) pos.line X.env = pure false := by rfl) (hf : X.fn x = true \/ X.env.scope.names.lookup x = some .local := by first | exact .inl rfl | exact .inr rfl | assumption) :
  DS X c (.Assign [.Name x pos'] e pos) (qca i f) := by
 obtain ⟨t, p, w⟩ := he
 refine ⟨_, qiN hN hi hx p hs hf, fun U Z H D r h => w U Z H _ r ?_⟩
 unfold qca sbnd at h
 cases ef : f U with
 | bad => rw [ef] at h; exact h
 | exc z U' => rw [ef] at h; exact fun H' hr hg => h Z H' hr hg.s
 | ok q =>
  rw [ef] at h
  intro a xs H' hn r' ap ha him il g'
  exact h _ H' (r'.setO ho hP ap ha him il) ⟨g'.ext, fun b hb hs => hb.setO (fun e => by rw [e, hn] at hs; exact absurd hs (by simp)), g'.dom⟩
def qc7 (i : Nat) : M D := fun U => match zx i U with
 | some ds => .ok (.int ds.length, U)
 | none => .bad
theorem qj3 {i : Nat} {x : Str} {p p1 : Pos} (hg : Gl X "len") (hm : X.mg "len" = none) (ho : i ∈ c.O := by exact of_decide_eq_true rfl) (hN : X.N[i]? = some x := by rfl) (hv : Vis X.env.scope x := by first | exact Or.inl rfl | exact Or.inr (Or.inl rfl) | exact Or.inr (Or.inr rfl)) (hd : (x == ("__debug__" : Str)) = false := by decide) (hcd : (x == ("__classdict__" : Str)) = false := by decide) :
  DE X c (.Call (.Name "len" p) [.Name x p1] [] pos) (qc7 i) := by
 refine ⟨_, qb4 jE hg hm PySem.boot_len (uu (vm hN hv hd hcd) qaX), fun U Z H Q r h => ?_⟩
 unfold qc7 at h
 cases e0 : zx i U with
 | none => simp only [e0] at h; exact h.elim
 | some ds =>
  simp only [e0] at h
  obtain ⟨l, xs, him, hl, hH, il⟩ := r.getLO ho e0
  exact ⟨.ref l, hl, .inl ⟨l, xs, rfl, .inl (.inl (.inl hH)), by rw [il.length]; exact h _ H r rfl .refl⟩⟩
def qfo (i : Nat) : M D := fun U => match zx i U with
 | some ds => .ok (.tup ds, U)
 | none => .bad
theorem qgj {i : Nat} {x : Str} {p p1 : Pos} (hg : Gl X "tuple") (hm : X.mg "tuple" = none) (hb : bootBuiltins "tuple" = some (.type "tuple") := by first | rfl | exact PySem.boot_tuple) (ho : i ∈ c.O := by exact of_decide_eq_true rfl) (hN : X.N[i]? = some x := by rfl) (hv : Vis X.env.scope x := by first | exact Or.inl rfl | exact Or.inr (Or.inl rfl) | exact Or.inr (Or.inr rfl)) (hd : (x == ("__debug__" : Str)) = false := by decide) (hcd : (x == ("__classdict__" : Str)) = false := by decide) :
  DE X c (.Call (.Name "tuple" p) [.Name x p1] [] pos) (qfo i) := by
 refine ⟨_, qcT wC hg hm hb (uu (vm hN hv hd hcd) qaX), fun U Z H Q r h => ?_⟩
 unfold qfo at h
 cases e0 : zx i U with
 | none => simp only [e0] at h; exact h.elim
 | some ds =>
  simp only [e0] at h
  obtain ⟨l, xs, him, hl, hH, il⟩ := r.getLO ho e0
  refine ⟨.ref l, hl, l, xs, rfl, .inl ⟨.inl (.inl hH), fun p hp => h _ _ (r.laid hp _) ⟨p, xs, rfl, .inl qw, ?_⟩ (.of_same (qA hp _))⟩⟩
  exact IsL.ext (Ext.of_same (qA hp _)) (fun _ h _ => h) il
def qey (i : Nat) (g : M D) : M D := fun U => match zx i U with
 | none => .bad
 | some _ => (bnd g fun k U => match k, zx i U with
  | .int n, some ds => match atI ds n with
   | some d => .ok (d, U)
   | none => .bad
  | _, _ => .bad) U
theorem qgk {i : Nat} {x : Str} {p1 : Pos} {g : M D} (hb : DE X c b g) (hs : qdN b := by intro _ _; rfl) (ho : i ∈ c.O := by exact of_decide_eq_true rfl) (hN : X.N[i]? = some x := by rfl) (hv : Vis X.env.scope x := by first | exact Or.inl rfl | exact Or.inr (Or.inl rfl) | exact Or.inr (Or.inr rfl)) (hd : (x == ("__debug__" : Str)) = false := by decide) (hcd : (x == ("__classdict__" : Str)) = false := by decide) :
  DE X c (.Subscript (.Name x p1) b pos) (qey i g) := by
 obtain ⟨tb, pb, wb⟩ := hb
 refine ⟨_, qlN qf5 (vm hN hv hd hcd) pb hs, fun U Z H Q r h => ?_⟩
 unfold qey at h
 cases e0 : zx i U with
 | none => simp only [e0] at h; exact h.elim
 | some ds0 =>
  simp only [e0] at h
  obtain ⟨l, xs0, _, hl, hH, _⟩ := r.getLO ho e0
  refine ⟨.ref l, hl, wb U Z H _ r (Wp.bnd h fun k U1 v H1 r1 i1 g1 h1 => ?_)⟩
  cases k with
  | int n =>
   cases e1 : zx i U1 with
   | none => simp only [e1] at h1; exact h1.elim
   | some ds =>
    simp only [e1] at h1
    cases e2 : atI ds n with
    | none => simp only [e2] at h1; exact h1.elim
    | some d =>
     simp only [e2] at h1
     obtain ⟨l', xs, him, hl', hH', il⟩ := r1.getLO ho e1
     rw [hl] at hl'
     cases hl'
     cases i1
     obtain ⟨w, h3, h4⟩ := il.atI e2
     exact ⟨l, xs, n, w, rfl, rfl, .inl (.inl hH'), h3, h1 w H1 r1 h4 .refl⟩
  | _ => exact h1.elim
def qj4 (i : Nat) : MS := fun U => match zx i U with
 | some ds => .ok (.rt (.lst ds) U)
 | none => .bad
theorem qj5 {i : Nat} {x : Str} {p1 : Pos} (ho : i ∈ c.O := by exact of_decide_eq_true rfl) (hP : i ∉ c.P := by exact of_decide_eq_false rfl) (hN : X.N[i]? = some x := by rfl) (hv : Vis X.env.scope x := by first | exact Or.inl rfl | exact Or.inr (Or.inl rfl) | exact Or.inr (Or.inr rfl)) (hd : (x == ("__debug__" : Str)) = false := by decide) (hcd : (x == ("__classdict__" : Str)) = false := by decide) :
  DS X c (.Return (some (.Name x p1)) pos) (qj4 i) := by
 refine ⟨_, qiL (vm hN hv hd hcd), fun U Z H D r h => ?_⟩
 unfold qj4 at h
 cases e0 : zx i U with
 | none => simp only [e0] at h; exact h.elim
 | some ds =>
  simp only [e0] at h
  obtain ⟨l, xs, him, hl, hH, il⟩ := r.getLO ho e0
  obtain ⟨a, ys, e1, e2, e3⟩ := r.own i ho _ hl
  cases e1
  have hB : c.B l := by
   rcases e3 with z | z
   ·exact r.b0.1 l z
   ·exact absurd z.1 hP
  exact ⟨.ref l, hl, h (.ref l) Z H r ⟨l, xs, rfl, hB, hH, IsL.ext Ext.refl (fun _ h _ => h.1) il⟩ .refl⟩
end
def cfn (O P : List Nat) (A : Addr -> Prop) (H : Hp) (Io : Addr -> Prop) (E : Exn -> Hp -> Prop) (S : Nat -> Option (Option V)) : Fc where
 O := O
 P := P
 B := fun a => A a \/ H a = none
 H0 := H
 Io := Io
 E := E
 S := S
def ud (n : Nat) (ds : List D) : Env := ds.map some ++ List.replicate (n - ds.length) none
def spD (K : Fr0) (F : List D -> R D) : Sp := fun vs H Q _ => ∃ ds A, IsL K A H ds vs /\ qf8 K H /\ match F ds with
 | .ok d => ∀ v H', jm H H' -> Is K (fun a => A a \/ H a = none) H' d v -> Q v H'
 | _ => False
def qhv (K : Fr0) (F : List D -> List D -> R (D × List D)) : Sp := fun vs H Q _ => ∃ (bs ds : List D) (A : Addr -> Prop) (a : Addr) (xs vs' : List V), vs = .ref a :: vs' /\ H a = some (.lst xs) /\ qf8 K H /\ IsL K A H bs xs /\ ¬ A a /\ IsL K A H ds vs' /\ match F bs ds with
 | .ok (d, bs') => ∀ v H' xs', (∀ b o, b ≠ a -> H b = some o -> H' b = some o) -> (∀ b, H' b = none -> H b = none) -> H' a = some (.lst xs') -> True -> IsL K (fun b => A b \/ H b = none) H' bs' xs' -> Is K (fun b => A b \/ H b = none) H' d v -> Q v H'
 | _ => False
def dfn (n p : Nat) (body : MS) (ds : List D) : R D := if ds.length = p then match body (ud n ds) with
 | .ok (.rt d _) => .ok d
 | .ok (.nx _) => .ok .non
 | _ => .bad else .bad
def qbc (n p : Nat) (body : MS) (bs ds : List D) : R (D × List D) := if ds.length + 1 = p then match body (ud n (.lst bs :: ds)) with
 | .ok (.rt d U) => match zx 0 U with
  | some bs' => .ok (d, bs')
  | none => .bad
 | .ok (.nx U) => match zx 0 U with
  | some bs' => .ok (.non, bs')
  | none => .bad
 | _ => .bad else .bad
theorem wJ {N : List Str} {vs : List V} {i : Nat} {v : V} (h : (z4 N vs)[i]? = some (some v)) : vs[i]? = some v := by
 unfold z4 at h
 by_cases hi : i < vs.length
 ·rw [List.getElem?_append_left (by simpa using hi), gM_] at h
  cases e : vs[i]? with
  | none => rw [e] at h; cases h
  | some w => rw [e] at h; cases h; rfl
 ·rw [List.getElem?_append_right (by simpa using hi), List.getElem?_replicate] at h
  split at h <;> cases h
theorem qaN {N : List Str} {vs : List V} {i : Nat} {v : V} (h : vs[i]? = some v) : (z4 N vs)[i]? = some (some v) := by
 unfold z4
 have hi : i < vs.length := (gI_.mp h).1
 rw [List.getElem?_append_left (by simpa using hi), gM_, h]; rfl
theorem qc8 {n : Nat} {ds : List D} {i : Nat} {d : D} (h : (ud n ds)[i]? = some (some d)) : ds[i]? = some d := by
 unfold ud at h
 by_cases hi : i < ds.length
 ·rw [List.getElem?_append_left (by simpa using hi), gM_] at h
  cases e : ds[i]? with
  | none => rw [e] at h; cases h
  | some w => rw [e] at h; cases h; rfl
 ·rw [List.getElem?_append_right (by simpa using hi), List.getElem?_replicate] at h
  split at h <;> cases h
theorem qbd {K : Fr0} {N : List Str} {O : List Nat} {A : Addr -> Prop} {H : Hp} {E : Exn -> Hp -> Prop} {ds : List D} {vs : List V} (il : IsL K A H ds vs) (tb : qf8 K H) (hO : ∀ i ∈ O, ds.length <= i) :
  Rep K (cfn O [] A H (fun _ => False) E fun _ => none) (ud N.length ds) (z4 N vs) H where
 len := by unfold ud z4; simp [il.length]
 val := fun i d h => by
  have h1 := qc8 h
  obtain ⟨v, h2, h3⟩ := il.get h1
  have hi : i ∉ O := fun z => by
   have := (gI_.mp h1).1
   have := hO i z
   omega
  refine ⟨v, qaN h2, .inr ⟨hi, Is.ext Ext.refl (fun a ha _ => ⟨.inl ha, fun j hj e => ?_⟩) h3⟩⟩
  have := (gI_.mp (wJ e)).1
  have := hO j hj
  rw [il.length] at *
  omega
 own := fun j hj v h => by
  have := (gI_.mp (wJ h)).1
  have := hO j hj
  rw [il.length] at *
  omega
 inj := fun i j a hi hj h1 h2 => by
  have := (gI_.mp (wJ h1)).1
  have := hO i hi
  rw [il.length] at *
  omega
 b0 := ⟨fun a h => .inr h, tb⟩
 kp := fun b o h _ => h
 dm := fun b h => h
 pO := fun j hj => by cases hj
 ps := fun j hj => by cases hj
section
variable {P : Program} {w : World} {K : PySem.W.Frag} {mg : Str -> Option Value} {base : Heap}
theorem qx {x qual : Str} {st : Stmt} {f : Addr} {fd : FuncData} {N ps : List Str} {k : Nat} {O : List Nat} {body : MS} (F : Fun K x qual st f fd) (S : qs N ps (qe st)) (hO : ∀ i ∈ O, ps.length <= i)
  (hb : ∀ (cdv : Value) (A : Around) (outer : List PySem.Env) (s : Shared) (H : Hp) (E : XK) (B : Addr -> Prop), vn k (A.deeper (envOfC qual (qe st) s.heap.objs.size f cdv)) ->
   DSs (qhI CX0 P w K mg base N qual (qe st) f cdv A outer s H E).nox (cfn O [] B H (fun _ => False) (fun _ _ => False) fun _ => none) (qr st) body) :
  qbA P w K mg base CX0 (k + 1) f fd ps (spD K (dfn N.length ps.length body)) := by
 refine F.ok S (fun vs H Q E h => ?_) (fun cdv A outer s H vs Q E hr h => ?_)
 ·obtain ⟨ds, B, il, _, h⟩ := h
  unfold dfn at h
  by_cases e : ds.length = ps.length
  ·rw [il.length]; exact e
  ·rw [if_neg e] at h; exact h.elim
 ·obtain ⟨ds, B, il, tb, h⟩ := h
  obtain ⟨t, p, wt⟩ := hb cdv A outer s H E B hr
  refine ⟨t, p, ?_⟩
  unfold dfn at h
  by_cases e : ds.length = ps.length
  ·rw [if_pos e] at h
   refine wt (ud N.length ds) (z4 N vs) H _ (qbd il tb (fun i hi => by rw [e]; exact hO i hi)) ?_
   have same : ∀ {U : Env} {Z : St} {H' : Hp}, Rep K (cfn O [] B H (fun _ => False) (fun _ _ => False) fun _ => none) U Z H' -> jm H H' := fun r b o hb => r.kp b o hb fun z => z
   cases eb : body (ud N.length ds) with
   | bad => rw [eb] at h; exact h.elim
   | exc z U => rw [eb] at h; exact h.elim
   | ok fl =>
    rw [eb] at h
    cases fl with
    | nx U => exact fun Z' H' r' _ => h .non H' (same r') rfl
    | rt d U => exact fun v Z' H' r' i' _ => h v H' (same r') i'
    | bk U => exact h.elim
    | ct U => exact h.elim
  ·rw [if_neg e] at h; exact h.elim
theorem qj6 {x qual : Str} {st : Stmt} {f : Addr} {fd : FuncData} {N ps : List Str} {k : Nat} {O : List Nat} {body : MS} (F : Fun K x qual st f fd) (S : qs N ps (qe st)) (hO : ∀ i ∈ O, i = 0 \/ ps.length <= i) (h0 : 0 ∈ O)
  (hb : ∀ (cdv : Value) (A : Around) (outer : List PySem.Env) (s : Shared) (H : Hp) (E : XK) (B Io : Addr -> Prop) (S : Nat -> Option (Option V)), vn k (A.deeper (envOfC qual (qe st) s.heap.objs.size f cdv)) ->
   DSs (qhI CX0 P w K mg base N qual (qe st) f cdv A outer s H E).nox (cfn O [0] B H Io (fun _ _ => False) S) (qr st) body) :
  qbA P w K mg base CX0 (k + 1) f fd ps (qhv K (qbc N.length ps.length body)) := by
 refine F.ok S (fun vs H Q E h => ?_) (fun cdv A outer s H vs Q E hr h => ?_)
 ·obtain ⟨bs, ds, B, a, xs, vs', rfl, ha, him, ib, nA, il, h⟩ := h
  unfold qbc at h
  by_cases e : ds.length + 1 = ps.length
  ·rw [lC_, il.length]; exact e
  ·rw [if_neg e] at h; exact h.elim
 ·obtain ⟨bs, ds, B, a, xs, vs', rfl, ha, him, ib, nA, il, h⟩ := h
  obtain ⟨t, p, wt⟩ := hb cdv A outer s H E B (fun b => b = a) (fun j => (z4 N (.ref a :: vs'))[j]?) hr
  refine ⟨t, p, ?_⟩
  unfold qbc at h
  by_cases e : ds.length + 1 = ps.length
  ·rw [if_pos e] at h
   have only : ∀ j ∈ O, ∀ v, (z4 N (.ref a :: vs'))[j]? = some (some v) -> j = 0 /\ v = .ref a := fun j hj v hv => by
    have h1 := wJ hv
    rcases hO j hj with z | z
    ·subst z; cases h1; exact ⟨rfl, rfl⟩
    ·have := (gI_.mp h1).1
     rw [lC_, il.length] at this
     omega
   have r0 : Rep K (cfn O [0] B H (fun b => b = a) (fun _ _ => False) fun j => (z4 N (.ref a :: vs'))[j]?) (ud N.length (.lst bs :: ds)) (z4 N (.ref a :: vs')) H := by
    refine ⟨by unfold ud z4; simp [il.length], fun i d hd => ?_, fun j hj v hv => ?_, fun i j b hi hj h1 h2 => ?_, ⟨fun b hb => .inr hb, fun q P pos eP => ⟨(him q P pos eP).1, fun z => by have := (him q P pos eP).1; rw [z, ha] at this; cases this⟩⟩, fun b o hb _ => hb, fun b hb => hb, fun j hj => ?_, fun _ _ => rfl⟩
    ·have h1 := qc8 hd
     cases i with
     | zero =>
      cases h1
      exact ⟨.ref a, qaN rfl, .inl ⟨h0, bs, a, xs, rfl, rfl, ha, IsL.ext Ext.refl (fun b hb _ => ⟨.inl hb, fun j hj e2 => by obtain ⟨_, e3⟩ := only j hj _ e2; cases e3; exact nA hb⟩) ib⟩⟩
     | succ i =>
      have h1' : ds[i]? = some d := by simpa using h1
      obtain ⟨v, h2, h3⟩ := il.get h1'
      have hi : i + 1 ∉ O := fun z => by
       have h4 := (gI_.mp h1').1
       rcases hO _ z with q | q
       ·cases q
       ·omega
      refine ⟨v, qaN (by simpa using h2), .inr ⟨hi, Is.ext Ext.refl (fun b hb _ => ⟨.inl hb, fun j hj e2 => ?_⟩) h3⟩⟩
      obtain ⟨_, e3⟩ := only j hj _ e2
      cases e3
      exact nA hb
    ·obtain ⟨rfl, rfl⟩ := only j hj v hv
     exact ⟨a, xs, rfl, ha, .inr ⟨by simp [cfn], rfl⟩⟩
    ·rw [(only i hi _ h1).1, (only j hj _ h2).1]
    ·have : j = 0 := by simpa [cfn] using hj
     rw [this]; exact h0
   refine wt _ _ H _ r0 ?_
   have fin : ∀ {U : Env} {Z : St} {H' : Hp} {bs' : List D}, Rep K (cfn O [0] B H (fun b => b = a) (fun _ _ => False) fun j => (z4 N (.ref a :: vs'))[j]?) U Z H' -> zx 0 U = some bs' ->
     ∃ xs', H' a = some (.lst xs') /\ True /\ IsL K (fun b => B b \/ H b = none) H' bs' xs' := fun {U Z H' bs'} r e1 => by
    obtain ⟨l, ys, h1, h2, h3, h4⟩ := r.getLO h0 e1
    have h5 := r.ps 0 (by simp [cfn])
    have h6 : (cfn O [0] B H (fun b => b = a) (fun _ _ => False) fun j => (z4 N (.ref a :: vs'))[j]?).S 0 = some (some (.ref a)) := qaN rfl
    rw [h2, h6] at h5
    cases h5
    exact ⟨ys, h3, h1, IsL.ext Ext.refl (fun b hb _ => hb.1) h4⟩
   have kps : ∀ {U : Env} {Z : St} {H' : Hp}, Rep K (cfn O [0] B H (fun b => b = a) (fun _ _ => False) fun j => (z4 N (.ref a :: vs'))[j]?) U Z H' -> ∀ b o, b ≠ a -> H b = some o -> H' b = some o := fun r b o hb ho => r.kp b o ho hb
   cases eb : body (ud N.length (.lst bs :: ds)) with
   | bad => rw [eb] at h; exact h.elim
   | exc z U => rw [eb] at h; exact h.elim
   | ok fl =>
    rw [eb] at h
    cases fl with
    | nx U =>
     cases eg : zx 0 U with
     | none => simp only [eg] at h
     | some bs' =>
      simp only [eg] at h
      exact fun Z' H' r' _ => by
       obtain ⟨xs', h1, h2, h3⟩ := fin r' eg
       exact h .non H' xs' (kps r') (fun b hb => r'.dm b hb) h1 h2 h3 rfl
    | rt d U =>
     cases eg : zx 0 U with
     | none => simp only [eg] at h
     | some bs' =>
      simp only [eg] at h
      exact fun v Z' H' r' i' _ => by
       obtain ⟨xs', h1, h2, h3⟩ := fin r' eg
       exact h v H' xs' (kps r') (fun b hb => r'.dm b hb) h1 h2 h3 i'
    | bk U => exact h.elim
    | ct U => exact h.elim
  ·rw [if_neg e] at h; exact h.elim
end
section
variable {X : Cx} {c : Fc} {a b e : Expr} {pos : Pos}
def qg (F : List D -> R D) (g : M (List D)) : M D := bnd g fun ds U => match F ds with
 | .ok d => .ok (d, U)
 | _ => .bad
theorem qj7 {k : Nat} {f : Addr} {fd : FuncData} {ps : List Str} {F : List D -> R D} {x : Str} {p : Pos} {es : List Expr} {g : M (List D)} (G : qbA X.prog X.w X.K X.mg X.base CX0 k f fd ps (spD X.K F)) (hr : vn k X.A) (hg : Gl X x) (hm : X.mg x = some (.ref f)) (hk : PySem.W.keepIn X.K (.ref f) = true) (hb : wj X.K fd ps [])
  (ha : DA X c (e :: es) g) (hd : (x == ("__debug__" : Str)) = false := by decide) (he : starEach (e :: es) X.env = (false, eval e X.env) :: starEach es X.env := by rfl) (hpl : (backTo pos (starEach es X.env)).any (·.1) = false := by rfl) : DE X c (.Call (.Name x p) (e :: es) [] pos) (qg F g) := by
 obtain ⟨t, pa, w⟩ := ha
 refine ⟨_, qb3 G hr hg hm hk hb .nil qjR pa hd he hpl, fun U Z H Q r h => w U Z H _ r (WpL.bnd h fun ds U1 vs H1 r1 i1 g1 h1 => ?_)⟩
 rw [List.append_nil]
 refine ⟨ds, Cn c Z, i1, r1.tb, ?_⟩
 cases ef : F ds with
 | bad => simp only [ef] at h1; exact h1.elim
 | exc z U' => simp only [ef] at h1; exact h1.elim
 | ok d =>
  simp only [ef] at h1
  exact fun v H' sm i => h1 v H' (r1.same sm) (Is.ext Ext.refl (fun a ha _ => ha.elim id r1.new) i) (.of_same sm)
def qz (F : List D -> List D -> R (D × List D)) (i : Nat) (g : M (List D)) : M D := fun U => match zx i U with
 | none => .bad
 | some _ => (bnd g fun ds U => match zx i U with
  | none => .bad
  | some bs => match F bs ds with
   | .ok (d, bs') => .ok (d, U.set i (some (.lst bs')))
   | _ => .bad) U
theorem qgl {k i : Nat} {f : Addr} {fd : FuncData} {ps : List Str} {F : List D -> List D -> R (D × List D)} {x y : Str} {p p1 : Pos} {es : List Expr} {g : M (List D)} (G : qbA X.prog X.w X.K X.mg X.base CX0 k f fd ps (qhv X.K F)) (hr : vn k X.A) (hg : Gl X x) (hm : X.mg x = some (.ref f)) (hk : PySem.W.keepIn X.K (.ref f) = true) (hb : wj X.K fd ps [])
  (ha : DA X c es g) (ho : i ∈ c.O := by exact of_decide_eq_true rfl) (hN : X.N[i]? = some y := by rfl) (hv : Vis X.env.scope y := by first | exact Or.inl rfl | exact Or.inr (Or.inl rfl) | exact Or.inr (Or.inr rfl)) (hdy : (y == ("__debug__" : Str)) = false := by decide) (hcd : (y == ("__classdict__" : Str)) = false := by decide)
  (hd : (x == ("__debug__" : Str)) = false := by decide) (he : starEach (.Name y p1 :: es) X.env = (false, eval (.Name y p1) X.env) :: starEach es X.env := by rfl) (hpl : (backTo pos (starEach es X.env)).any (·.1) = false := by rfl) : DE X c (.Call (.Name x p) (.Name y p1 :: es) [] pos) (qz F i g) := by
 obtain ⟨t, pa, w⟩ := ha
 refine ⟨_, qb3 G hr hg hm hk hb .nil qjR (uu (vm hN hv hdy hcd) pa he) hd he hpl, fun U Z H Q r h => ?_⟩
 unfold qz at h
 cases e0 : zx i U with
 | none => simp only [e0] at h; exact h.elim
 | some ds0 =>
  simp only [e0] at h
  obtain ⟨l, xs0, _, hl, hH, _⟩ := r.getLO ho e0
  refine ⟨.ref l, hl, w U Z H _ r (WpL.bnd h fun ds U1 vs H1 r1 i1 g1 h1 => ?_)⟩
  show qhv X.K F (.ref l :: vs ++ []) H1 Q E0
  rw [List.append_nil]
  cases e1 : zx i U1 with
  | none => simp only [e1] at h1; exact h1.elim
  | some bs =>
   simp only [e1] at h1
   obtain ⟨l', xs, him, hl', hH', il⟩ := r1.getLO ho e1
   rw [hl] at hl'
   cases hl'
   refine ⟨bs, ds, Cn c Z, l, xs, vs, rfl, hH', r1.tb, il, fun hc => hc.2 i ho hl, i1, ?_⟩
   cases ef : F bs ds with
   | bad => simp only [ef] at h1; exact h1.elim
   | exc z U' => simp only [ef] at h1; exact h1.elim
   | ok q =>
    obtain ⟨d, bs'⟩ := q
    simp only [ef] at h1
    intro v H' xs' kp dm ha2 him2 il2 i2
    obtain ⟨r2, g2⟩ := r1.io (bs := bs') ho hl kp ha2 him2 (IsL.ext Ext.refl (fun a ha _ => ha.elim id r1.new) il2) dm
    exact h1 v H' r2 (Is.ext Ext.refl (fun a ha _ => ha.elim id r1.new) i2) g2
end
def qhY : Key -> PyData
 | .inl i => .int i
 | .inr x => .str x
mutual
def uv : D -> PyData
 | .non => .none
 | .bl b => .bool b
 | .int i => .int i
 | .str x => .str x
 | .tup ds => .tuple (toPDs ds)
 | .lst ds => .list (toPDs ds)
 | .dic kvs => .dict (kvs.map fun p => (qhY p.1, .int p.2))
 | .fz ns => .list (ns.map .int)
 | .exc _ => .dict [(.int (2 ^ 2000), .none)]
def toPDs : List D -> List PyData
 | [] => []
 | d :: ds => uv d :: toPDs ds
end
mutual
def noL : D -> Bool
 | .tup ds => noLs ds
 | .lst _ => false
 | .fz _ => false
 | _ => true
def noLs : List D -> Bool
 | [] => true
 | d :: ds => noL d && noLs ds
end
mutual
def noX : D -> Bool
 | .tup ds => noXs ds
 | .lst ds => noXs ds
 | .exc _ => false
 | _ => true
def noXs : List D -> Bool
 | [] => true
 | d :: ds => noX d && noXs ds
end
mutual
theorem qgm : ∀ {d : D}, (uv d).canLay0 = true -> noX d = true
 | .non, _ => rfl
 | .bl _, _ => rfl
 | .int _, _ => rfl
 | .str _, _ => rfl
 | .tup ds, h => by unfold noX; exact noXs_lay (by simpa [uv, PyData.canLay0] using h)
 | .lst ds, h => by unfold noX; exact noXs_lay (by simpa [uv, PyData.canLay0] using h)
 | .dic _, _ => rfl
 | .fz _, _ => rfl
 | .exc _, h => by simp [uv, PyData.canLay0] at h
theorem noXs_lay : ∀ {ds : List D}, PyData.canLayAll0 (toPDs ds) = true -> noXs ds = true
 | [], _ => rfl
 | d :: ds, h => by
  have h' : (uv d).canLay0 = true /\ PyData.canLayAll0 (toPDs ds) = true := by simpa [toPDs, PyData.canLayAll0] using h
  unfold noXs
  rw [qgm h'.1, noXs_lay h'.2]; rfl
end
theorem wK {h : Heap} : ∀ {ns : List Int} {us : List Value}, zg (ns.map V.int) us -> ∃ as, ReadsAll h us (ns.map .int) as
 | [], us, r => by
  rw [List.map_nil] at r; cases r; exact ⟨[], .nil⟩
 | n :: ns, us, r => by
  rw [mC_] at r
  cases r with
  | cons r1 r2 =>
   obtain ⟨t, e⟩ := r1
   subst e
   obtain ⟨as, q⟩ := wK (ns := ns) r2
   exact ⟨[] ++ as, .cons (.int n t) q⟩
theorem qdZ {α : Type} {x : α} {l l' : List α} (h1 : x ∉ l) (h2 : x ∉ l') : x ∉ l ++ l' := fun h => (mA_.mp h).elim h1 h2
theorem qbe {P : Program} {w : World} {h : Heap} : ∀ {kvs : List (Key × Int)} {es : List DictEntry} {vs : List (Key × Value)}, KV (kvs.map fun p => (p.1, V.int p.2)) vs -> Pairs (qb2 P w) es vs ->
  ReadsAll h (es.map (·.key)) ((kvs.map fun p => (qhY p.1, PyData.int p.2)).map (·.1)) [] /\ ReadsAll h (es.map (·.val)) ((kvs.map fun p => (qhY p.1, PyData.int p.2)).map (·.2)) []
 | [], es, vs, r, p => by
  have r' : KV ([] : List (Key × V)) vs := r
  unfold KV at r'
  cases r'
  cases p
  exact ⟨.nil, .nil⟩
 | (k, i) :: kvs, es, vs, r, p => by
  have r' : KV ((k, V.int i) :: kvs.map fun p => (p.1, V.int p.2)) vs := r
  unfold KV at r'
  cases r' with
  | cons r1 r2 =>
   cases p with
   | cons p1 p2 p3 =>
    obtain ⟨q1, q2⟩ := qbe (h := h) (kvs := kvs) r2 p3
    obtain ⟨e1, t, e2⟩ := r1
    have hk : ∀ {e : DictEntry} {kv : Key × Value}, k = kv.1 -> (qb2 P w).is kv.1 e.key = true -> Reads h e.key (qhY k) [] := fun {e kv} hk hi => by
     subst hk
     rcases zq hi with ⟨i, t, e1, e2⟩ | ⟨x, t, e1, e2⟩
     ·rw [e1, e2]; exact .int i t
     ·rw [e1, e2]; exact .str x t
    refine ⟨.cons (as := []) (bs := []) (hk e1 p1) q1, .cons (as := []) (bs := []) ?_ q2⟩
    show Reads h _ (.int i) []
    dsimp only
    rw [p2, e2]
    exact .int i t
section
variable {X : Cx} {pins : List (Addr × Obj)} {Z : St} {H : Hp} {s : Shared} {A : Addr -> Prop}
mutual
theorem wL (I : Inv X pins Z H s) : ∀ {d : D} {v : V} {u : Value}, noX d = true -> Is X.K A H d v -> jN v u -> ∃ as, Reads s.heap u (uv d) as /\ (noL d = true -> sysModules ∉ as)
 | .non, _, _, _, h, r => by cases h; cases r; exact ⟨[], .none, by simp⟩
 | .bl b, _, _, _, h, r => by cases h; cases r; exact ⟨[], .bool b, by simp⟩
 | .int i, _, _, _, h, r => by cases h; obtain ⟨t, rfl⟩ := r; exact ⟨[], .int i t, by simp⟩
 | .str x, _, _, _, h, r => by cases h; obtain ⟨t, rfl⟩ := r; exact ⟨[], .str x t, by simp⟩
 | .tup ds, _, _, nx, ⟨a, xs, hv, ta, il⟩, r => by
  subst hv
  cases r
  obtain ⟨its, rv, p, _⟩ := I.tuple ta.sq
  obtain ⟨o, h1, h2, n, h3⟩ := p
  obtain ⟨as, q, nl⟩ := readsL_of I (by simpa [noX] using nx) il rv
  exact ⟨as, .tuple h1 h2 h3 (by simpa using q), fun z => nl (by simpa [noL] using z)⟩
 | .lst ds, _, _, nx, ⟨a, xs, hv, _, ta, il⟩, r => by
  subst hv
  cases r
  obtain ⟨its, rv, p, _⟩ := I.list (SqL.of ta)
  obtain ⟨o, h1, h2, n, h3⟩ := p.isList
  obtain ⟨as, q, nl⟩ := readsL_of I (by simpa [noX] using nx) il rv
  exact ⟨a :: as, .list h1 h2 h3 (by simpa using q), fun z => by simp [noL] at z⟩
 | .dic kvs, _, _, _, ⟨a, hv, _, ta⟩, r => by
  subst hv
  cases r
  obtain ⟨hz, hS, vs, rk, o, es, ep, h1, h2, h3, h4, h5, h6⟩ := (show yU X.prog X.w H s.heap a (.dK _) from I.hok a _ ta)
  obtain ⟨q1, q2⟩ := qbe (h := s.heap) rk h5
  refine ⟨_, Reads.dict (as := []) (bs := []) h1 h2.1 h3 q1 q2, fun _ hm => ?_⟩
  have : sysModules = a := by simpa using hm
  rw [<- this] at hS
  simp at hS
 | .exc _, _, _, nx, _, _ => by simp [noX] at nx
 | .fz ns, _, _, _, ⟨a, hv, ta⟩, r => by
  subst hv
  cases r
  obtain ⟨its, rv, p, _⟩ := I.list ta.sq
  obtain ⟨o, h1, h2, n, h3⟩ := p.isList
  obtain ⟨as, q⟩ := wK rv
  exact ⟨a :: as, .list h1 h2 h3 (by simpa using q), fun z => by simp [noL] at z⟩
theorem readsL_of (I : Inv X pins Z H s) : ∀ {ds : List D} {xs : List V} {us : List Value}, noXs ds = true -> IsL X.K A H ds xs -> zg xs us -> ∃ as, ReadsAll s.heap us (toPDs ds) as /\ (noLs ds = true -> sysModules ∉ as)
 | [], _, _, _, h, r => by cases h; cases r; exact ⟨[], .nil, by simp⟩
 | d :: ds, _, _, nx, ⟨x, ys, hx, h1, h2⟩, r => by
  subst hx
  cases r with
  | cons r1 r2 =>
   have nx' : noX d = true /\ noXs ds = true := by simpa [noXs] using nx
   obtain ⟨as, q1, n1⟩ := wL I nx'.1 h1 r1
   obtain ⟨bs, q2, n2⟩ := readsL_of I nx'.2 h2 r2
   exact ⟨as ++ bs, .cons q1 q2, fun z => by
    have z' : noL d = true /\ noLs ds = true := by simpa [noLs] using z
    exact qdZ (n1 z'.1) (n2 z'.2)⟩
end
end
def qmb (d : D) : Bool := (uv d).showable && decide ((uv d).shown.length <= sizeLine) && decide ((uv d).depth <= 50) && (!(uv d).hasDict || noL d)
section
variable {X : Cx}
end
def qo2 : List D -> Option D
 | [d] => if qmb d then some (.str (uv d).shown) else none
 | _ => none
def qbB (d : D) : Bool := (uv d).canLay0 && decide ((uv d).depth <= 50)
def qi0 (K : Fr0) (neg : Bool) : R2 := fun x y H Q => ∃ d e A, Is K A H d x /\ Is K A H e y /\ qbB d = true /\ qbB e = true /\ Q (.bl (if neg then !PyData.eqv (uv d) (uv e) else PyData.eqv (uv d) (uv e))) H
section
variable {X : Cx}
theorem qcc {d : D} (h : qbB d = true) : SeqAt.shaped (uv d) = true := by
 unfold qbB at h
 unfold SeqAt.shaped
 simp only [Bool.and_eq_true, decide_eq_true_eq] at h |-
 exact ⟨h.1, by omega⟩
theorem qez {d : D} (h : qbB d = true) : noX d = true := by
 unfold qbB at h
 rw [Bool.and_eq_true] at h
 exact qgm h.1
theorem qmc {k : Nat} (hr : vn k X.A) : OpR X (compareOp .Eq) (qi0 X.K false) := by
 intro pins s Z H x y v u Q I rx ry h
 obtain ⟨d, e, A, h1, h2, o1, o2, q⟩ := h
 obtain ⟨as, r1, _⟩ := wL I (qez o1) h1 rx
 obtain ⟨bs, r2, _⟩ := wL I (qez o2) h2 ry
 exact SeqAt.compareEq_shaped r1 r2 (qcc o1) (qcc o2) hr.units ⟨.bl _, H, I, rfl, by simpa using q⟩
theorem qi1 {k : Nat} (hr : vn k X.A) : OpR X (compareOp .NotEq) (qi0 X.K true) := by
 intro pins s Z H x y v u Q I rx ry h
 obtain ⟨d, e, A, h1, h2, o1, o2, q⟩ := h
 obtain ⟨as, r1, _⟩ := wL I (qez o1) h1 rx
 obtain ⟨bs, r2, _⟩ := wL I (qez o2) h2 ry
 exact SeqAt.compareNe_shaped r1 r2 (qcc o1) (qcc o2) hr.units ⟨.bl _, H, I, rfl, by simpa using q⟩
end
def eqA (x y : D) : Option D := if qbB x && qbB y then some (.bl (PyData.eqv (uv x) (uv y))) else none
def neA (x y : D) : Option D := if qbB x && qbB y then some (.bl (!PyData.eqv (uv x) (uv y))) else none
theorem qj8 {K : Fr0} : OpS K eqA (qi0 K false) := by
 intro A H x y d v u Q hn ix iy e k
 obtain ⟨e1, e2⟩ := jg e
 rw [Bool.and_eq_true] at e1
 subst e2
 exact ⟨x, y, A, ix, iy, e1.1, e1.2, k _ H (jm.refl H) rfl⟩
theorem qj9 {K : Fr0} : OpS K neA (qi0 K true) := by
 intro A H x y d v u Q hn ix iy e k
 obtain ⟨e1, e2⟩ := jg e
 rw [Bool.and_eq_true] at e1
 subst e2
 exact ⟨x, y, A, ix, iy, e1.1, e1.2, k _ H (jm.refl H) rfl⟩
section
variable {X : Cx} {c : Fc} {a b e : Expr} {pos : Pos}
def qi2 (i : Nat) (g : M D) : M D := fun U => match zx i U with
 | none => .bad
 | some _ => (bnd g fun y U => match zx i U with
  | none => .bad
  | some ds => lift (neA (.lst ds) y) U) U
theorem qmd {i k : Nat} {x : Str} {p1 : Pos} {g : M D} (hr : vn k X.A) (hb : DE X c b g) (ho : i ∈ c.O := by exact of_decide_eq_true rfl) (hN : X.N[i]? = some x := by rfl) (hv : Vis X.env.scope x := by first | exact Or.inl rfl | exact Or.inr (Or.inl rfl) | exact Or.inr (Or.inr rfl)) (hd : (x == ("__debug__" : Str)) = false := by decide) (hcd : (x == ("__classdict__" : Str)) = false := by decide) :
  DT X c (.Compare (.Name x p1) [.NotEq] [b] pos) (tst (qi2 i g)) := by
 obtain ⟨tb, pb, wb⟩ := hb
 refine ⟨_, qfY (qi1 hr) (vm hN hv hd hcd) pb (qK _), fun U Z H Q r h => ?_⟩
 unfold tst qi2 bnd at h
 cases e0 : zx i U with
 | none => simp only [e0] at h; exact h.elim
 | some ds0 =>
  simp only [e0] at h
  obtain ⟨l, xs0, _, hl, hH, _⟩ := r.getLO ho e0
  refine ⟨.ref l, hl, wb U Z H _ r ?_⟩
  cases eg : g U with
  | bad => simp only [eg] at h; exact h
  | exc z U' => simp only [eg] at h; exact h
  | ok q =>
   obtain ⟨y, U1⟩ := q
   simp only [eg] at h
   intro u H1 r1 i1 g1
   cases e1 : zx i U1 with
   | none => simp only [e1] at h; exact h.elim
   | some ds =>
    simp only [e1] at h
    cases en : neA (.lst ds) y with
    | none => simp only [en, lift] at h; exact h.elim
    | some d =>
     simp only [en, lift, ret] at h
     obtain ⟨e3, e4⟩ := jg en
     rw [Bool.and_eq_true] at e3
     subst e4
     obtain ⟨l', xs, him, hl', hH', il⟩ := r1.getLO ho e1
     rw [hl] at hl'
     cases hl'
     refine ⟨.lst ds, y, fun _ => True, ⟨l, xs, rfl, trivial, hH', IsL.ext Ext.refl (fun _ h _ => trivial) il⟩, Is.ext Ext.refl (fun _ _ _ => trivial) i1, e3.1, e3.2, _, rfl, ?_⟩
     exact h H1 r1 g1
end
section
variable {prog : Program} {w : World} {A : Around} {E : Value -> Shared -> Prop} {s : Shared}
theorem qka {it tu : Addr} {k : Nat} {arr : Array Value} {x : Value} {Q : Value -> Shared -> Prop} (hI : s.heap.IsTupleIter it tu k) (hT : s.heap.IsTuple tu arr) (hx : arr[k]? = some x)
  (q : ∀ h', h'.IsTupleIter it tu (k + 1) -> Heap.SameBut it s.heap h' -> Q x { s with heap := h' }) : wpAny (model prog w) A (Builtin.SmallTypes.nextOf (.ref it)) Q E s := by
 obtain ⟨ob, e1, e2, e3⟩ := id hI
 obtain ⟨ot, f1, _, m, f2⟩ := hT
 unfold Builtin.SmallTypes.nextOf
 refine wpAny_bind (wpAny_callSpecial?_slot (name := Str.ofString "__next__") hI.typeIs F.slot_tuple_iterator_next (wpAny_call_entry F.slot_tuple_iterator_next hI.typeIs F.entry_tuple_iterator_next ?_ (F.args_tuple_iterator_next_1 _)))
 show wpAny (model prog w) _ (field (Value.ref it) 0 >>= _) _ _ s
 refine wpAny_bind (wpAny_field e1 e3 (x := Value.ref tu) rfl ?_)
 show wpAny (model prog w) _ (if (Value.ref tu == Value.none) = true then _ else _) _ _ s
 rw [if_neg (show ¬ ((Value.ref tu == Value.none) = true) from Bool.false_ne_true)]
 show wpAny (model prog w) _ (field (Value.ref it) 1 >>= _) _ _ s
 refine wpAny_bind (wpAny_field e1 e3 (x := Value.int k 0) rfl ?_)
 show wpAny (model prog w) _ (seqItems? (Value.ref tu) >>= _) _ _ s
 refine wpAny_bind (wpAny_seqItems f1 f2 ?_)
 simp only [Int.toNat_natCast, hx]
 refine wpAny_bind (wpAny_setField e1 e3 (by simp) (wpAny_pure ⟨x, rfl, wpAny_pure (q _ ?_ (Heap.SameBut.update ..))⟩))
 exact ⟨_, Heap.get?_update_self _ e1 (Obj.isFreed_of_fields (Obj.data_mapFields e3 _)), (Obj.cls_mapFields ..).trans e2, by rw [Obj.data_mapFields e3]; simp [rawInt]⟩
theorem qkb {it tu : Addr} {k : Nat} {arr : Array Value} {Q : Value -> Shared -> Prop} (hh : A.handled = none) (hI : s.heap.IsTupleIter it tu k) (hT : s.heap.IsTuple tu arr) (hx : arr[k]? = none)
  (q : ∀ h' e, Heap.ExtBut it s.heap h' -> (∃ o, h'.get? e = some o /\ o.cls = .type "StopIteration") -> E (.ref e) { s with heap := h' }) : wpAny (model prog w) A (Builtin.SmallTypes.nextOf (.ref it)) Q E s := by
 obtain ⟨ob, e1, e2, e3⟩ := id hI
 obtain ⟨ot, f1, _, m, f2⟩ := hT
 unfold Builtin.SmallTypes.nextOf
 refine wpAny_bind (wpAny_callSpecial?_slot (name := Str.ofString "__next__") hI.typeIs F.slot_tuple_iterator_next (wpAny_call_entry F.slot_tuple_iterator_next hI.typeIs F.entry_tuple_iterator_next ?_ (F.args_tuple_iterator_next_1 _)))
 show wpAny (model prog w) _ (field (Value.ref it) 0 >>= _) _ _ s
 refine wpAny_bind (wpAny_field e1 e3 (x := Value.ref tu) rfl ?_)
 show wpAny (model prog w) _ (if (Value.ref tu == Value.none) = true then _ else _) _ _ s
 rw [if_neg (show ¬ ((Value.ref tu == Value.none) = true) from Bool.false_ne_true)]
 show wpAny (model prog w) _ (field (Value.ref it) 1 >>= _) _ _ s
 refine wpAny_bind (wpAny_field e1 e3 (x := Value.int k 0) rfl ?_)
 show wpAny (model prog w) _ (seqItems? (Value.ref tu) >>= _) _ _ s
 refine wpAny_bind (wpAny_seqItems f1 f2 ?_)
 simp only [Int.toNat_natCast, hx]
 refine wpAny_bind (wpAny_rule (wpAny_bind (wpAny_setField e1 e3 (by simp) ?_)))
 show wpAny (model prog w) _ (newExc (Value.type "StopIteration") [] >>= _) _ _ _
 refine wpAny_bind ?_
 simp only [newExc, newTuple]
 refine wpAny_bind (wpAny_newObj_type ?_ (by size_fits))
 refine wpAny_bind (m := firstArgMember _ _) (wpAny_of_eq (a := Value.none) (by first | rfl | (simp only [firstArgMember]; rfl)) ?_)
 refine wpAny_newObj_type ?_ (by size_fits)
 simp only [raiseNew]
 refine wpAny_bind (wpAny_handled ?_)
 first | rw [show A.in1.handled = none from hh] | rw [hh]
 exact wpAny_bind (wpAny_pure (wpAny_throw (q _ _ (((Heap.SameBut.update ..).extBut.push _).push _) ⟨_, Heap.get?_push_size _ rfl, rfl⟩)))
end
theorem vN {prog : Program} {w : World} {A : Around} (hh : A.handled = none) (it tu : Addr) (hne : tu ≠ it) (arr : Array Value) :
  Draws prog w A it [it, tu] arr.size (fun i x => arr[i]? = some x) (fun i h => h.IsTupleIter it tu i /\ h.IsTuple tu arr) where
 live := fun i h st => by obtain ⟨⟨o, e, _⟩, _⟩ := st; exact ⟨o, e⟩
 frame := fun i h h' st k => by
  obtain ⟨h1, o, e, r⟩ := st
  exact ⟨h1.at fun o q => k it (by simp) o q, o, k tu (by simp) o e, r⟩
 item := fun i s Q E hi st q => qka st.1 st.2 (Array.getElem?_eq_getElem hi) fun h' h1 sb => q _ h' s.toks (Array.getElem?_eq_getElem hi) ⟨h1, by
  obtain ⟨o, e, r⟩ := st.2
  exact ⟨o, sb.extBut _ _ hne e, r⟩⟩ sb
 done := fun s Q E st q => qkb hh st.1 st.2 (Array.getElem?_eq_none (Nat.le_refl _)) q
structure ZAp (z TI TO i1 i2 : Addr) (fp1 fp2 : List Addr) : Prop where
 zTI : z ≠ TI
 zTO : z ≠ TO
 zi1 : z ≠ i1
 zi2 : z ≠ i2
 IO : TI ≠ TO
 Ii1 : TI ≠ i1
 Ii2 : TI ≠ i2
 Oi1 : TO ≠ i1
 Oi2 : TO ≠ i2
 ii : i1 ≠ i2
 z1 : z ∉ fp1
 z2 : z ∉ fp2
 O1 : TO ∉ fp1
 O2 : TO ∉ fp2
 i21 : i2 ∉ fp1
 i12 : i1 ∉ fp2
section
variable {prog : Program} {w : World} {A : Around} {E : Value -> Shared -> Prop} {s : Shared} {z TI TO i1 i2 : Addr} {fp1 fp2 : List Addr} {n1 n2 k : Nat} {P1 P2 : Nat -> Value -> Prop} {S1 S2 : Nat -> Heap -> Prop}
theorem yp {fp : List Addr} {a : Addr} {h h' : Heap} (sb : Heap.SameBut a h h') (ha : a ∉ fp) : ∀ b ∈ fp, ∀ o, h.get? b = some o -> h'.get? b = some o := fun b hb o e => sb.extBut _ _ (fun q => ha (q ▸ hb)) e
theorem qme (D1 : Draws prog w A i1 fp1 n1 P1 S1) (D2 : Draws prog w A i2 fp2 n2 P2 S2) (ap : ZAp z TI TO i1 i2 fp1 fp2) {p q : Value} (zz : IsZip s.heap z TI TO .none) (zI : IsPair s.heap TI (.ref i1) (.ref i2)) (zO : IsPair s.heap TO p q)
  (t1 : S1 k s.heap) (t2 : S2 k s.heap) (l1 : k < n1) (l2 : k < n2) {Q : Value -> Shared -> Prop}
  (fin : ∀ x y h' tk, P1 k x -> P2 k y -> IsZip h' z TI TO (rawInt s.heap.objs.size) -> IsPair h' TO x y -> S1 (k + 1) h' -> S2 (k + 1) h' -> IsPair h' s.heap.objs.size x y ->
   (∀ c o, c ≠ z -> c ≠ TO -> c ≠ i1 -> c ≠ i2 -> s.heap.get? c = some o -> h'.get? c = some o) -> Q (.ref s.heap.objs.size) { s with heap := h', toks := tk }) :
  wpAny (model prog w) A (Builtin.«zip.__next__» ⟨[.ref z], []⟩) (fun r s' => ∃ v, r = .done (.ret v) /\ Q v s') E s := by
 show wpAny (model prog w) A (field (Value.ref z) 2 >>= _) _ _ _
 refine wpAny_bind (wpAny_field zz rfl (x := Value.bool false) rfl ?_)
 show wpAny (model prog w) A (field (Value.ref z) 3 >>= _) _ _ _
 refine wpAny_bind (wpAny_field zz rfl (x := Value.ref TI) rfl (wpAny_bind (wpAny_seqItems zI rfl ?_)))
 show wpAny (model prog w) A (Builtin.SmallTypes.ownedTupleIsFree (Value.ref z) >>= _) _ _ _
 refine wpAny_bind ?_
 unfold Builtin.SmallTypes.ownedTupleIsFree
 refine wpAny_bind (wpAny_field zz rfl (x := Value.none) rfl (wpAny_pure ?_))
 simp only [if_true]
 refine wpAny_bind (wpAny_rule (wpAny_bind (wpAny_field zz rfl (x := Value.ref TO) rfl (wpAny_bind (wpAny_setField_rec zz (by simp) fun h1 zz1 b1 => ?_)))))
 replace zz1 : IsZip h1 z TI TO .ellipsis := zz1
 refine wpAny_bind ?_
 simp only [List.zipIdx_cons, List.zipIdx_nil, List.forIn_cons, List.forIn_nil]
 refine wpAny_bind (wpAny_bind (wpAny_onRaise ?_))
 show wpAny (model prog w) A (Builtin.SmallTypes.nextOf (Value.ref i1) >>= _) _ _ _
 refine wpAny_bind (D1.item k _ _ _ l1 (D1.frame _ _ _ t1 (yp b1 ap.z1)) fun x h2 tk2 px u1 b2 => wpAny_pure ?_)
 have zO2 : IsPair h2 TO p q := b2.extBut _ _ ap.Oi1 (b1.extBut _ _ ap.zTO.symm zO)
 refine wpAny_bind (wpAny_seqItems zO2 rfl (wpAny_bind (wpAny_updateSeq_pair zO2 fun h3 zO3 b3 => ?_)))
 replace zO3 : IsPair h3 TO x q := zO3
 refine wpAny_bind (wpAny_letGo (wpAny_pure (wpAny_bind (wpAny_bind (wpAny_onRaise ?_)))))
 show wpAny (model prog w) A (Builtin.SmallTypes.nextOf (Value.ref i2) >>= _) _ _ _
 have t2' : S2 k h3 := D2.frame _ _ _ (D2.frame _ _ _ (D2.frame _ _ _ t2 (yp b1 ap.z2)) (yp b2 ap.i12)) (yp b3 ap.O2)
 refine wpAny_bind (D2.item k _ _ _ l2 t2' fun y h4 tk4 py u2 b4 => wpAny_pure ?_)
 have zO4 : IsPair h4 TO x q := b4.extBut _ _ ap.Oi2 zO3
 refine wpAny_bind (wpAny_seqItems zO4 rfl (wpAny_bind (wpAny_updateSeq_pair zO4 fun h5 zO5 b5 => ?_)))
 replace zO5 : IsPair h5 TO x y := zO5
 refine wpAny_bind (wpAny_letGo (wpAny_pure (wpAny_pure (wpAny_bind (wpAny_seqItems zO5 rfl (wpAny_bind (wpAny_newTuple ?_)))))))
 have sz : h5.objs.size = s.heap.objs.size := by rw [b5.1, b4.1, b3.1, b2.1, b1.1]
 have zz5 : IsZip h5 z TI TO .ellipsis := b5.extBut _ _ ap.zTO (b4.extBut _ _ ap.zi2 (b3.extBut _ _ ap.zTO (b2.extBut _ _ ap.zi1 zz1)))
 have keep5 : ∀ c o, c ≠ z -> c ≠ TO -> c ≠ i1 -> c ≠ i2 -> s.heap.get? c = some o -> h5.get? c = some o := fun c o c1 c2 c3 c4 e => b5.extBut _ _ c2 (b4.extBut _ _ c4 (b3.extBut _ _ c2 (b2.extBut _ _ c3 (b1.extBut _ _ c1 e))))
 have v1 : S1 (k + 1) h5 := D1.frame _ _ _ (D1.frame _ _ _ (D1.frame _ _ _ u1 (yp b3 ap.O1)) (yp b4 ap.i21)) (yp b5 ap.O1)
 have v2 : S2 (k + 1) h5 := D2.frame _ _ _ u2 (yp b5 ap.O2)
 have lz : z < h5.objs.size := Heap.lt_size zz5
 show wpAny (model prog w) A (Builtin.SmallTypes.ownedTupleHandOut (Value.ref z) (Value.ref h5.objs.size) >>= _) _ _ _
 refine wpAny_bind ?_
 unfold Builtin.SmallTypes.ownedTupleHandOut
 have zz6 : IsZip (h5.push { cls := .type "tuple", data := .seq #[x, y] }) z TI TO .ellipsis := Heap.get?_push_of_some _ zz5
 refine wpAny_bind (wpAny_setField_rec zz6 (by simp) fun h7 zz7 b7 => ?_)
 replace zz7 : IsZip h7 z TI TO (rawInt h5.objs.size) := zz7
 refine wpAny_setField_rec zz7 (by simp) fun h8 zz8 b8 => ?_
 replace zz8 : IsZip h8 z TI TO (rawInt h5.objs.size) := zz8
 have up : ∀ c o, c ≠ z -> h5.get? c = some o -> h8.get? c = some o := fun c o c1 e => b8.extBut _ _ c1 (b7.extBut _ _ c1 (Heap.get?_push_of_some _ e))
 have new8 : IsPair h8 h5.objs.size x y := b8.extBut _ _ (Nat.ne_of_gt lz) (b7.extBut _ _ (Nat.ne_of_gt lz) (Heap.get?_push_size _ rfl))
 rw [sz] at zz8 new8
 refine wpAny_pure ⟨_, rfl, ?_⟩
 show Q (Value.ref h5.objs.size) _
 rw [sz]
 exact fin x y h8 tk4 px py zz8 (up _ _ ap.zTO.symm zO5) (D1.frame _ _ _ v1 fun b hb o e => up b o (fun q => ap.z1 (q ▸ hb)) e) (D2.frame _ _ _ v2 fun b hb o e => up b o (fun q => ap.z2 (q ▸ hb)) e) new8 fun c o c1 c2 c3 c4 e => up c o c1 (keep5 c o c1 c2 c3 c4 e)
theorem qhZ (hh : A.handled = none) (D1 : Draws prog w A i1 fp1 n1 P1 S1) (D2 : Draws prog w A i2 fp2 n2 P2 S2) (ap : ZAp z TI TO i1 i2 fp1 fp2) {p q : Value} (zz : IsZip s.heap z TI TO .none) (zI : IsPair s.heap TI (.ref i1) (.ref i2)) (zO : IsPair s.heap TO p q)
  (t1 : S1 k s.heap) (t2 : S2 k s.heap) (hk : k = min n1 n2) {Q : Fin -> Shared -> Prop}
  (fin : ∀ h' tk e, (∀ c o, c ≠ z -> c ≠ TO -> c ≠ i1 -> c ≠ i2 -> s.heap.get? c = some o -> h'.get? c = some o) -> (∃ o, h'.get? e = some o /\ o.cls = .type "StopIteration") -> E (.ref e) { s with heap := h', toks := tk }) :
  wpAny (model prog w) A (Builtin.«zip.__next__» ⟨[.ref z], []⟩) Q E s := by
 show wpAny (model prog w) A (field (Value.ref z) 2 >>= _) _ _ _
 refine wpAny_bind (wpAny_field zz rfl (x := Value.bool false) rfl ?_)
 show wpAny (model prog w) A (field (Value.ref z) 3 >>= _) _ _ _
 refine wpAny_bind (wpAny_field zz rfl (x := Value.ref TI) rfl (wpAny_bind (wpAny_seqItems zI rfl ?_)))
 show wpAny (model prog w) A (Builtin.SmallTypes.ownedTupleIsFree (Value.ref z) >>= _) _ _ _
 refine wpAny_bind ?_
 unfold Builtin.SmallTypes.ownedTupleIsFree
 refine wpAny_bind (wpAny_field zz rfl (x := Value.none) rfl (wpAny_pure ?_))
 simp only [if_true]
 refine wpAny_bind (wpAny_rule (wpAny_bind (wpAny_field zz rfl (x := Value.ref TO) rfl (wpAny_bind (wpAny_setField_rec zz (by simp) fun h1 zz1 b1 => ?_)))))
 replace zz1 : IsZip h1 z TI TO .ellipsis := zz1
 refine wpAny_bind ?_
 simp only [List.zipIdx_cons, List.zipIdx_nil, List.forIn_cons, List.forIn_nil]
 refine wpAny_bind (wpAny_bind (wpAny_onRaise ?_))
 show wpAny (model prog w) A (Builtin.SmallTypes.nextOf (Value.ref i1) >>= _) _ _ _
 have t1' : S1 k h1 := D1.frame _ _ _ t1 (yp b1 ap.z1)
 by_cases h12 : n1 <= n2
 ·have e1 : k = n1 := by rw [hk]; exact Nat.min_eq_left h12
  rw [e1] at t1'
  refine wpAny_bind (D1.done _ _ _ t1' fun h2 e b2 he => ?_)
  obtain ⟨oe, f1, f2⟩ := he
  have zz2 : IsZip h2 z TI TO .ellipsis := b2 _ _ ap.zi1 zz1
  have ez : e ≠ z := fun x => by subst x; rw [zz2] at f1; cases f1; simp at f2
  refine wpAny_setField_rec zz2 (by simp) fun h3 _ b3 => ?_
  exact fin h3 s.toks e (fun c o c1 _ c3 _ x => b3.extBut _ _ c1 (b2 _ _ c3 (b1.extBut _ _ c1 x))) ⟨oe, b3.extBut _ _ ez f1, f2⟩
 ·have e1 : k = n2 := by rw [hk]; exact Nat.min_eq_right (by omega)
  refine wpAny_bind (D1.item k _ _ _ (by omega) t1' fun x h2 tk2 px u1 b2 => wpAny_pure ?_)
  have zO2 : IsPair h2 TO p q := b2.extBut _ _ ap.Oi1 (b1.extBut _ _ ap.zTO.symm zO)
  refine wpAny_bind (wpAny_seqItems zO2 rfl (wpAny_bind (wpAny_updateSeq_pair zO2 fun h3 zO3 b3 => ?_)))
  refine wpAny_bind (wpAny_letGo (wpAny_pure (wpAny_bind (wpAny_bind (wpAny_onRaise ?_)))))
  show wpAny (model prog w) A (Builtin.SmallTypes.nextOf (Value.ref i2) >>= _) _ _ _
  have t2' : S2 k h3 := D2.frame _ _ _ (D2.frame _ _ _ (D2.frame _ _ _ t2 (yp b1 ap.z2)) (yp b2 ap.i12)) (yp b3 ap.O2)
  rw [e1] at t2'
  refine wpAny_bind (D2.done _ _ _ t2' fun h4 e b4 he => ?_)
  obtain ⟨oe, f1, f2⟩ := he
  have zz4 : IsZip h4 z TI TO .ellipsis := b4 _ _ ap.zi2 (b3.extBut _ _ ap.zTO (b2.extBut _ _ ap.zi1 zz1))
  have ez : e ≠ z := fun x => by subst x; rw [zz4] at f1; cases f1; simp at f2
  refine wpAny_setField_rec zz4 (by simp) fun h5 _ b5 => ?_
  exact fin h5 tk2 e (fun c o c1 c2 c3 c4 x => b5.extBut _ _ c1 (b4 _ _ c4 (b3.extBut _ _ c2 (b2.extBut _ _ c3 (b1.extBut _ _ c1 x))))) ⟨oe, b5.extBut _ _ ez f1, f2⟩
theorem qh0 {l1 l2 : Addr} {xs ys : Array Value} {Q : Value -> Shared -> Prop} (t1 : s.heap.IsTuple l1 xs) (t2 : s.heap.IsTuple l2 ys)
  (fin : ∀ h', IsZip h' (s.heap.objs.size + 4) (s.heap.objs.size + 2) (s.heap.objs.size + 3) .none -> IsPair h' (s.heap.objs.size + 2) (.ref s.heap.objs.size) (.ref (s.heap.objs.size + 1)) -> IsPair h' (s.heap.objs.size + 3) .none .none ->
   h'.IsTupleIter s.heap.objs.size l1 0 -> h'.IsTupleIter (s.heap.objs.size + 1) l2 0 -> (∀ c o, s.heap.get? c = some o -> h'.get? c = some o) -> Q (.ref (s.heap.objs.size + 4)) { s with heap := h' }) :
  wpAny (model prog w) A (call (.type "zip") [.ref l1, .ref l2]) Q E s := by
 have meets : Meets (Builtin.«zip.__new__» ⟨[.type "zip", .ref l1, .ref l2], []⟩) (fun _ R s => s.heap.IsTuple l1 xs /\ s.heap.IsTuple l2 ys /\
   R (.ok (.ret (.ref (s.heap.objs.size + 4)))) { s with heap := ((((s.heap.push { cls := .type "tuple_iterator", data := .fields #[.ref l1, .int 0 0] }).push { cls := .type "tuple_iterator", data := .fields #[.ref l2, .int 0 0] }).push { cls := .type "tuple", data := .seq #[.ref s.heap.objs.size, .ref (s.heap.objs.size + 1)] }).push { cls := .type "tuple", data := .seq #[.none, .none] }).push { cls := .type "zip", data := .fields #[.none, .bool false, .bool false, .ref (s.heap.objs.size + 2), .ref (s.heap.objs.size + 3)] } }) :=
  .of_wp fun prog w A R s h => by
   obtain ⟨hp, g, d, tk, os⟩ := s
   obtain ⟨ha, hb, h⟩ := h
   have hsub := sub_zip
   have hA : Heap.IsTuple (Shared.heap ⟨hp, g, d, tk, os⟩) l1 xs := ha
   have hB : Heap.IsTuple (Shared.heap ⟨hp.push { cls := .type "tuple_iterator", data := .fields #[.ref l1, .int 0 0] }, g, d, tk, os⟩) l2 ys := by
    obtain ⟨o, e, r⟩ := hb
    exact ⟨o, Heap.get?_push_of_some _ e, r⟩
   wp_walk using wpAny_pyIter_tuple hA, wpAny_pyIter_tuple hB
   simp only [Heap.size_push] at *
   exact ⟨_, rfl, h⟩
 refine callType_new F.called_zip (by decide) (F.typeCall_zip_2 _ _) (F.newCall_zip_2 _ _) (fun obj => F.args_object_init_3 obj _ _) F.entry_zip_new meets ⟨t1, t2, ?_⟩
 generalize e1 : s.heap.push { cls := .type "tuple_iterator", data := .fields #[.ref l1, .int 0 0] } = m1
 have s1 : m1.objs.size = s.heap.objs.size + 1 := by rw [<- e1, Heap.size_push]
 have q1 : m1.get? s.heap.objs.size = some { cls := .type "tuple_iterator", data := .fields #[.ref l1, .int 0 0] } := by rw [<- e1]; exact Heap.get?_push_size _ rfl
 have k1 : ∀ c o, s.heap.get? c = some o -> m1.get? c = some o := fun c o x => by rw [<- e1]; exact Heap.get?_push_of_some _ x
 generalize e2 : m1.push { cls := .type "tuple_iterator", data := .fields #[.ref l2, .int 0 0] } = m2
 have s2 : m2.objs.size = s.heap.objs.size + 2 := by rw [<- e2, Heap.size_push, s1]
 have q2 : m2.get? (s.heap.objs.size + 1) = some { cls := .type "tuple_iterator", data := .fields #[.ref l2, .int 0 0] } := by rw [<- e2, <- s1]; exact Heap.get?_push_size _ rfl
 have k2 : ∀ c o, m1.get? c = some o -> m2.get? c = some o := fun c o x => by rw [<- e2]; exact Heap.get?_push_of_some _ x
 generalize e3 : m2.push { cls := .type "tuple", data := .seq #[.ref s.heap.objs.size, .ref (s.heap.objs.size + 1)] } = m3
 have s3 : m3.objs.size = s.heap.objs.size + 3 := by rw [<- e3, Heap.size_push, s2]
 have q3 : m3.get? (s.heap.objs.size + 2) = some { cls := .type "tuple", data := .seq #[.ref s.heap.objs.size, .ref (s.heap.objs.size + 1)] } := by rw [<- e3, <- s2]; exact Heap.get?_push_size _ rfl
 have k3 : ∀ c o, m2.get? c = some o -> m3.get? c = some o := fun c o x => by rw [<- e3]; exact Heap.get?_push_of_some _ x
 generalize e4 : m3.push { cls := .type "tuple", data := .seq #[.none, .none] } = m4
 have s4 : m4.objs.size = s.heap.objs.size + 4 := by rw [<- e4, Heap.size_push, s3]
 have q4 : m4.get? (s.heap.objs.size + 3) = some { cls := .type "tuple", data := .seq #[.none, .none] } := by rw [<- e4, <- s3]; exact Heap.get?_push_size _ rfl
 have k4 : ∀ c o, m3.get? c = some o -> m4.get? c = some o := fun c o x => by rw [<- e4]; exact Heap.get?_push_of_some _ x
 generalize e5 : m4.push { cls := .type "zip", data := .fields #[.none, .bool false, .bool false, .ref (s.heap.objs.size + 2), .ref (s.heap.objs.size + 3)] } = m5
 have q5 : m5.get? (s.heap.objs.size + 4) = some { cls := .type "zip", data := .fields #[.none, .bool false, .bool false, .ref (s.heap.objs.size + 2), .ref (s.heap.objs.size + 3)] } := by rw [<- e5, <- s4]; exact Heap.get?_push_size _ rfl
 have k5 : ∀ c o, m4.get? c = some o -> m5.get? c = some o := fun c o x => by rw [<- e5]; exact Heap.get?_push_of_some _ x
 show _ /\ _
 exact ⟨⟨_, q5, rfl⟩, fin m5 q5 (k5 _ _ (k4 _ _ q3)) (k5 _ _ q4) ⟨_, k5 _ _ (k4 _ _ (k3 _ _ (k2 _ _ q1))), rfl, rfl⟩ ⟨_, k5 _ _ (k4 _ _ (k3 _ _ q2)), rfl, rfl⟩ fun c o x => k5 _ _ (k4 _ _ (k3 _ _ (k2 _ _ (k1 _ _ x))))⟩
end
section
variable {X : Cx} {pins : List (Addr × Obj)} {Z : St} {H : Hp} {s : Shared} {h' : Heap}
theorem qgn {ch : List Addr} {T : Addr} {o : HO} {t' : Nat} (I : Inv X pins Z H s) (k : ∀ b u, b ∉ ch -> s.heap.get? b = some u -> h'.get? b = some u) (hf : ∀ b ∈ ch, qdI X pins H b) (hT : s.heap.objs.size <= T) (new : yU X.prog X.w (upd H T o) h' T o) :
  Inv X pins Z (upd H T o) { s with heap := h', toks := t' } := by
 have hn : H T = none := I.hok.fresh hT
 have nch : ∀ b u, H b = some u -> b ∉ ch := fun b u e z => by rw [(hf b z).1] at e; cases e
 refine I.step (g' := s.gens) (d' := s.drawn) (ch := ch) (fun b hb => ⟨(hf b hb).2.2.2.1, (hf b hb).2.1, (hf b hb).2.2.2.2.1, (hf b hb).2.2.2.2.2⟩) (fun b u _ _ hc e _ => k b u hc e) (fun b u _ _ hc e _ => ⟨u.slots, k b u hc e⟩) (fun b u hc e n => ?_)
  (fun b u hc e => ⟨u, k b u hc e⟩) (fun b xs e => by rw [qv (qI e hn)]; exact e) (fun b u xs e => by rw [qv (qI e hn)]; exact e) (fun b ps y e => by rw [qv (qI e hn)]; exact e) (fun m hm => ?_) (fun b u e => ?_) I.bare
 ·rw [qv (Nat.ne_of_lt (Nat.lt_of_lt_of_le (Heap.lt_size e) hT))]; exact n
 ·obtain ⟨ob, es, ep, ho, r⟩ := hm
  exact ⟨ob, es, ep, k _ ob (fun z => (hf _ z).2.1 rfl) ho, r⟩
 ·by_cases hb : b = T
  ·subst hb; rw [qw] at e; cases e; exact new
  ·rw [qv hb] at e
   refine (I.hok b u e).stay (fun c v hc q => k c v ?_ q) (fun c q => by rw [qv (qI q hn)]; exact q) (fun c xs q => by rw [qv (qI q hn)]; exact q) fun c ob y q => by rw [qv (qI q hn)]; exact q
   rcases hc with z | z
   ·rw [z]; exact nch b u e
   ·exact nch c _ z
theorem qgo {ch : List Addr} {t' : Nat} (I : Inv X pins Z H s) (k : ∀ b u, b ∉ ch -> s.heap.get? b = some u -> h'.get? b = some u) (hf : ∀ b ∈ ch, qdI X pins H b) : Inv X pins Z H { s with heap := h', toks := t' } := by
 have nch : ∀ b u, H b = some u -> b ∉ ch := fun b u e z => by rw [(hf b z).1] at e; cases e
 refine I.step (g' := s.gens) (d' := s.drawn) (ch := ch) (fun b hb => ⟨(hf b hb).2.2.2.1, (hf b hb).2.1, (hf b hb).2.2.2.2.1, (hf b hb).2.2.2.2.2⟩) (fun b u _ _ hc e _ => k b u hc e) (fun b u _ _ hc e _ => ⟨u.slots, k b u hc e⟩) (fun b u hc e n => n)
  (fun b u hc e => ⟨u, k b u hc e⟩) (fun b xs e => e) (fun b u xs e => e) (fun _ _ _ e => e) (fun m hm => ?_) (fun b u e => ?_) I.bare
 ·obtain ⟨ob, es, ep, ho, r⟩ := hm
  exact ⟨ob, es, ep, k _ ob (fun z => (hf _ z).2.1 rfl) ho, r⟩
 ·refine (I.hok b u e).stay (fun c v hc q => k c v ?_ q) (fun c q => q) fun c xs q => q
  rcases hc with z | z
  ·rw [z]; exact nch b u e
  ·exact nch c _ z
end
def Itz (K : Fr0) (a1 a2 : Addr) (xs ys : List V) : It :=
 ⟨fun i H => i < min xs.length ys.length /\ SqT K H a1 xs /\ SqT K H a2 ys, fun i H x H' => ∃ p u v, H p = none /\ xs[i]? = some u /\ ys[i]? = some v /\ x = .ref p /\ H' = upd H p (.tup [u, v]), fun i H => i = min xs.length ys.length /\ SqT K H a1 xs /\ SqT K H a2 ys⟩
def ZSt (z TI TO i1 i2 a1 a2 : Addr) (i : Nat) (h : Heap) : Prop := IsZip h z TI TO .none /\ IsPair h TI (.ref i1) (.ref i2) /\ (∃ p q, IsPair h TO p q) /\ h.IsTupleIter i1 a1 i /\ h.IsTupleIter i2 a2 i
theorem qh1 {P : Program} {w : World} {K : Fr0} {es : List Expr} {kk : Nat} {pos : Pos} {z TI TO i1 i2 a1 a2 : Addr} {xs ys : List V} (ap : ZAp z TI TO i1 i2 [i1, a1] [i2, a2]) (n1 : a1 ≠ i1) (n2 : a2 ≠ i2) :
  qjJ P w K (.Tuple es kk pos) (Itz K a1 a2 xs ys) [z, TI, TO, i1, i2] z (ZSt z TI TO i1 i2 a1 a2) where
 mem := by simp
 obj := fun i h st b hb => by
  obtain ⟨h1, h2, ⟨p, q, h3⟩, ⟨o4, h4, c4, d4⟩, ⟨o5, h5, c5, d5⟩⟩ := st
  simp only [List.mem_cons, nN_, or_false] at hb
  rcases hb with rfl | rfl | rfl | rfl | rfl
  ·exact ⟨_, h1, fun v e => by cases (show Data.fields _ = Data.cell v from e)⟩
  ·exact ⟨_, h2, fun v e => by cases (show Data.seq _ _ = Data.cell v from e)⟩
  ·exact ⟨_, h3, fun v e => by cases (show Data.seq _ _ = Data.cell v from e)⟩
  ·exact ⟨_, h4, fun v e => by rw [d4] at e; cases e⟩
  ·exact ⟨_, h5, fun v e => by rw [d5] at e; cases e⟩
 keep := fun i h h' st k => by
  obtain ⟨h1, h2, ⟨p, q, h3⟩, h4, h5⟩ := st
  exact ⟨k z (by simp) _ h1, k TI (by simp) _ h2, ⟨p, q, k TO (by simp) _ h3⟩, h4.at fun o e => k i1 (by simp) o e, h5.at fun o e => k i2 (by simp) o e⟩
 item := by
  intro X hP hw hK hc i pins s Z H E I hf st hg
  subst hP hw hK
  obtain ⟨hlt, hx, hy⟩ := hg
  obtain ⟨h1, h2, ⟨p, q, h3⟩, h4, h5⟩ := st
  obtain ⟨it1, r1, p1, z1⟩ := I.tuple hx
  obtain ⟨it2, r2, p2, z2⟩ := I.tuple hy
  have l1 : i < it1.toArray.size := by rw [sT_, <- r1.length]; omega
  have l2 : i < it2.toArray.size := by rw [sT_, <- r2.length]; omega
  have hT : s.TypeIs (.ref z) "zip" := ⟨_, h1, rfl⟩
  have hh : X.A.in1.handled = none := I.ok.hd hc
  unfold pyNext
  refine wpAny_bind (wpAny_attempt (wpAny_callSpecial?_slot (name := Str.ofString "__next__") hT F.slot_zip_next (wpAny_call_entry F.slot_zip_next hT F.entry_zip_next
   (qme (vN hh i1 a1 n1 it1.toArray) (vN hh i2 a2 n2 it2.toArray) ap h1 h2 h3 ⟨h4, p1⟩ ⟨h5, p2⟩ l1 l2 fun x y h' tk px py zz zO u1 u2 new kp => wpAny_pure ?_) (F.args_zip_next_1 _))))
  refine ⟨.ref s.heap.objs.size, rfl, wpAny_letOwnedTupleGo_zip zz fun h2' zz2 sb => ?_⟩
  obtain ⟨xv, hxv⟩ : ∃ v, xs[i]? = some v := ⟨xs[i]'(by omega), gG (by omega)⟩
  obtain ⟨yv, hyv⟩ : ∃ v, ys[i]? = some v := ⟨ys[i]'(by omega), gG (by omega)⟩
  obtain ⟨x', ex, rx⟩ := r1.get hxv
  obtain ⟨y', ey, ry⟩ := r2.get hyv
  have exx : x' = x := by
   have : it1.toArray[i]? = some x := px
   rw [List.getElem?_toArray, ex] at this
   exact Option.some.inj this
  have eyy : y' = y := by
   have : it2.toArray[i]? = some y := py
   rw [List.getElem?_toArray, ey] at this
   exact Option.some.inj this
  subst exx eyy
  have lz : z < s.heap.objs.size := Heap.lt_size h1
  have keep : ∀ b u, b ∉ [z, TI, TO, i1, i2] -> s.heap.get? b = some u -> h2'.get? b = some u := fun b u hb e => by
   simp only [List.mem_cons, nN_, or_false, not_or] at hb
   exact sb.extBut _ _ hb.1 (kp b u hb.1 hb.2.2.1 hb.2.2.2.1 hb.2.2.2.2 e)
  have I2 : Inv X pins Z (upd H s.heap.objs.size (.tup [xv, yv])) { s with heap := h2', toks := tk } :=
   qgn I keep hf (Nat.le_refl _) ⟨by show 2 <= sizeLine; decide, [x', y'], .cons rx (.cons ry .nil), ⟨_, sb.extBut _ _ (Nat.ne_of_gt lz) new, rfl, _, rfl⟩⟩
  refine ⟨.ref s.heap.objs.size, upd H s.heap.objs.size (.tup [xv, yv]), I2, rfl, ⟨s.heap.objs.size, xv, yv, I.hok.fresh (Nat.le_refl _), hxv, hyv, rfl, rfl⟩, ?_, fun b hb => ?_⟩
  ·exact ⟨zz2, sb.extBut _ _ ap.zTI.symm (kp _ _ ap.zTI.symm ap.IO ap.Ii1 ap.Ii2 h2), ⟨_, _, sb.extBut _ _ ap.zTO.symm zO⟩, u1.1.at fun o e => sb.extBut _ _ ap.zi1.symm e, u2.1.at fun o e => sb.extBut _ _ ap.zi2.symm e⟩
  ·have hb1 : b ≠ s.heap.objs.size := by
    simp only [List.mem_cons, nN_, or_false] at hb
    obtain ⟨o4, g4, _⟩ := h4
    obtain ⟨o5, g5, _⟩ := h5
    rcases hb with rfl | rfl | rfl | rfl | rfl
    ·exact Nat.ne_of_lt (Heap.lt_size h1)
    ·exact Nat.ne_of_lt (Heap.lt_size h2)
    ·exact Nat.ne_of_lt (Heap.lt_size h3)
    ·exact Nat.ne_of_lt (Heap.lt_size g4)
    ·exact Nat.ne_of_lt (Heap.lt_size g5)
   rw [qv hb1]
   exact (hf b hb).1
 done := by
  intro X hP hw hK hc i pins s Z H E I hf st hg
  subst hP hw hK
  obtain ⟨hlt, hx, hy⟩ := hg
  obtain ⟨h1, h2, ⟨p, q, h3⟩, h4, h5⟩ := st
  obtain ⟨it1, r1, p1, z1⟩ := I.tuple hx
  obtain ⟨it2, r2, p2, z2⟩ := I.tuple hy
  have hT : s.TypeIs (.ref z) "zip" := ⟨_, h1, rfl⟩
  have hh : X.A.in1.handled = none := I.ok.hd hc
  unfold pyNext
  refine wpAny_bind (wpAny_attempt (wpAny_callSpecial?_slot (name := Str.ofString "__next__") hT F.slot_zip_next (wpAny_call_entry F.slot_zip_next hT F.entry_zip_next
   (qhZ hh (vN hh i1 a1 n1 it1.toArray) (vN hh i2 a2 n2 it2.toArray) ap h1 h2 h3 ⟨h4, p1⟩ ⟨h5, p2⟩ (by rw [sT_, sT_, <- r1.length, <- r2.length]; exact hlt) fun h' tk e kp he => ?_) (F.args_zip_next_1 _))))
  obtain ⟨o, ho, hcl⟩ := he
  refine wpAny_bind (wpAny_isInstance (T := "StopIteration") (b := true) ⟨o, ho, hcl⟩ isSubtype_stop (wpAny_pure ⟨rfl, qgo I (fun b u hb e => ?_) hf⟩))
  simp only [List.mem_cons, nN_, or_false, not_or] at hb
  exact kp b u hb.1 hb.2.2.1 hb.2.2.2.1 hb.2.2.2.2 e
 self := fun A i s Q E st h => wpAny_pyIter_zip st.1 h
section
variable {X : Cx} {c : Fc} {a b e : Expr} {pos : Pos} {es : List Expr} {kk : Nat} {tp : Pos}
theorem qkc (n l1 l2 : Nat) (h1 : l1 < n) (h2 : l2 < n) : ZAp (n + 4) (n + 2) (n + 3) n (n + 1) [n, l1] [n + 1, l2] := by
 refine ⟨?_, ?_, ?_, ?_, ?_, ?_, ?_, ?_, ?_, ?_, ?_, ?_, ?_, ?_, ?_, ?_⟩ <;> simp only [List.mem_cons, nN_, or_false, not_or, ne_eq] <;> (unfold Addr at *) <;> omega
def qo3 (K : Fr0) (ta : TA) : TI := fun Z H R => ta Z H fun vs H1 => ∃ a1 a2 xs ys, vs = [.ref a1, .ref a2] /\ SqT K H1 a1 xs /\ SqT K H1 a2 ys /\ R (Itz K a1 a2 xs ys) H1
theorem qmf {ta : TA} {p : Pos} (hg : Gl X "zip") (hm : X.mg "zip" = none) (ha : PA X [a, b] ta) (hs : starEach [a, b] X.env = [(false, eval a X.env), (false, eval b X.env)] := by rfl) (hs2 : starEach [b] X.env = [(false, eval b X.env)] := by rfl) :
  PI X (.Tuple es kk tp) (.Call (.Name "zip" p) [a, b] [] pos) (qo3 X.K ta) := by
 intro pins s Z H R I h
 refine Call_ (qax I hg hm PyProof.Rows.boot_zip (PyProof.Rows.callWith_type1 (thn (ha pos pins s Z H _ I h) fun us s1 ⟨vs, H1, I1, r1, q1⟩ => ?_) (by rw [hs, hs2]) (by rw [hs2]; rfl)))
 obtain ⟨a1, a2, xs, ys, e1, hx, hy, q⟩ := q1
 subst e1
 obtain ⟨u1, u2, rfl, ru1, ru2⟩ := zg.two r1
 cases (show u1 = Value.ref a1 from ru1)
 cases (show u2 = Value.ref a2 from ru2)
 obtain ⟨it1, v1, p1, z1⟩ := I1.tuple hx
 obtain ⟨it2, v2, p2, z2⟩ := I1.tuple hy
 refine qh0 (show s1.heap.IsTuple a1 it1.toArray from p1) (show s1.heap.IsTuple a2 it2.toArray from p2) fun h' zz zI zO g1 g2 kp => ?_
 refine wpAny_pyIter_zip zz ?_
 have la1 : a1 < s1.heap.objs.size := by obtain ⟨o, e, _⟩ := p1; exact Heap.lt_size e
 have la2 : a2 < s1.heap.objs.size := by obtain ⟨o, e, _⟩ := p2; exact Heap.lt_size e
 have ap : ZAp (s1.heap.objs.size + 4) (s1.heap.objs.size + 2) (s1.heap.objs.size + 3) s1.heap.objs.size (s1.heap.objs.size + 1) [s1.heap.objs.size, a1] [s1.heap.objs.size + 1, a2] := by
  exact qkc _ _ _ la1 la2
 refine ⟨s1.heap.objs.size + 4, [s1.heap.objs.size + 4, s1.heap.objs.size + 2, s1.heap.objs.size + 3, s1.heap.objs.size, s1.heap.objs.size + 1], _, _, H1, rfl, I1.kept (t' := s1.toks) kp, qh1 (xs := xs) (ys := ys) ap (Nat.ne_of_lt la1) (Nat.ne_of_lt (Nat.lt_succ_of_lt la2)), ⟨zz, zI, ⟨_, _, zO⟩, g1, g2⟩, fun b hb => ?_, q⟩
 simp only [List.mem_cons, nN_, or_false] at hb
 have hb2 : s1.heap.objs.size <= b := by
  rcases hb with e | e | e | e | e <;> rw [e]
  ·exact Nat.le_add_right _ _
  ·exact Nat.le_add_right _ _
  ·exact Nat.le_add_right _ _
  ·exact Nat.le_refl _
  ·exact Nat.le_add_right _ _
 exact I1.fpOk hb2 (I1.hok.fresh hb2)
def qaO : List D -> List D -> List D
 | x :: xs, y :: ys => .tup [x, y] :: qaO xs ys
 | _, _ => []
theorem qeA : ∀ {xs ys : List D} {i : Nat} {d : D}, (qaO xs ys)[i]? = some d -> ∃ x y, xs[i]? = some x /\ ys[i]? = some y /\ d = .tup [x, y]
 | [], _, _, _, h => by simp [qaO] at h
 | _ :: _, [], _, _, h => by simp [qaO] at h
 | x :: xs, y :: ys, 0, d, h => by
  have : D.tup [x, y] = d := by simpa [qaO] using h
  exact ⟨x, y, rfl, rfl, this.symm⟩
 | x :: xs, y :: ys, i + 1, d, h => by
  obtain ⟨u, v, h1, h2, h3⟩ := qeA (xs := xs) (ys := ys) (i := i) (d := d) (by simpa [qaO] using h)
  exact ⟨u, v, by simpa using h1, by simpa using h2, h3⟩
theorem qcd : ∀ (xs ys : List D), (qaO xs ys).length = min xs.length ys.length
 | [], ys => by simp [qaO]
 | _ :: _, [] => by simp [qaO]
 | x :: xs, y :: ys => by simp [qaO, qcd xs ys]
theorem qmg {K : Fr0} {A : Addr -> Prop} {H : Hp} {ds es : List D} {xs ys : List V} {a1 a2 : Addr} (t1 : uN K H a1 xs) (t2 : uN K H a2 ys) (i1 : IsL K A H ds xs) (i2 : IsL K A H es ys) : qhu K A H (qaO ds es) (Itz K a1 a2 xs ys) where
 go := fun H' i d ex hd => by
  have hl : i < (qaO ds es).length := (gI_.mp hd).1
  rw [qcd, <- i1.length, <- i2.length] at hl
  exact ⟨hl, (t1.elim (fun h => .inl (ex.tup _ _ h)) .inr : uN K H' a1 xs).sq, (t2.elim (fun h => .inl (ex.tup _ _ h)) .inr : uN K H' a2 ys).sq⟩
 yl := fun H' i d x H'' ex hd y => by
  obtain ⟨p, u, v, hp, hu, hv, rfl, rfl⟩ := y
  obtain ⟨dx, dy, h1, h2, rfl⟩ := qeA hd
  obtain ⟨u', g1, g2⟩ := i1.get h1
  obtain ⟨v', g3, g4⟩ := i2.get h2
  rw [hu] at g1
  rw [hv] at g3
  cases g1
  cases g3
  have sm := qA hp (.tup [u, v])
  exact ⟨sm, p, [u, v], rfl, .inl qw, u, [v], rfl, Is.ext (Ext.of_same sm) (fun _ h _ => h) (Is.ext ex (fun _ h _ => h) g2), v, [], rfl, Is.ext (Ext.of_same sm) (fun _ h _ => h) (Is.ext ex (fun _ h _ => h) g4), rfl⟩
 stop := fun H' ex => ⟨by rw [qcd, i1.length, i2.length], (t1.elim (fun h => .inl (ex.tup _ _ h)) .inr : uN K H' a1 xs).sq, (t2.elim (fun h => .inl (ex.tup _ _ h)) .inr : uN K H' a2 ys).sq⟩
def qmh : List D -> Option (List D)
 | [.tup xs, .tup ys] => some (qaO xs ys)
 | _ => none
def qi3 (f : M (List D)) : M (List D) := bnd f fun ds => lift (qmh ds)
theorem qgp {f : M (List D)} {p : Pos} (hg : Gl X "zip") (hm : X.mg "zip" = none) (ha : DA X c [a, b] f) (hs : starEach [a, b] X.env = [(false, eval a X.env), (false, eval b X.env)] := by rfl) (hs2 : starEach [b] X.env = [(false, eval b X.env)] := by rfl) :
  DI X c (.Tuple es kk tp) (.Call (.Name "zip" p) [a, b] [] pos) (qi3 f) := by
 obtain ⟨t, pa, w⟩ := ha
 refine ⟨_, qmf hg hm pa hs hs2, fun U Z H Q r h => w U Z H _ r (WpL.bndI h fun ds U1 vs H1 r1 i1 g1 h1 => ?_)⟩
 obtain ⟨es', e, h2⟩ := wG h1
 unfold qmh at e
 split at e
 ·obtain ⟨v, u, rfl, j1, j2⟩ := IsL.inv2 i1
  cases e
  obtain ⟨a1, xs, rfl, t1, il1⟩ := Is.tr j1
  obtain ⟨a2, ys, rfl, t2, il2⟩ := Is.tr j2
  exact ⟨a1, a2, xs, ys, rfl, t1.sq, t2.sq, h2 _ H1 r1 (qmg t1 t2 il1 il2) .refl⟩
 ·cases e
end
theorem qce : fillsNumberSlot (.type "tuple") "mul" = pure false := by
 first | kernel_rfl | (unfold fillsNumberSlot; kernel_rfl) | decide +kernel
theorem qfp : seqRepeat? (.type "tuple") = pure (some (.builtin "tuple.__mul__")) := by
 first | kernel_rfl | (unfold seqRepeat?; kernel_rfl) | decide +kernel
theorem qc9 (a : Int) (t : Tok) (l : Addr) (dd : Option Addr) (items : Array Value) (n : Nat) (sl : Array (Option Value)) :
  Meets (Builtin.«int.__rmul__» ⟨[.int a t, .ref l], []⟩) (fun _ R s => s.heap.get? l = some { cls := .type "tuple", dict := dd, data := .seq items n, slots := sl } /\ R (.ok (.ret .notImplemented)) s) :=
 .of_wp fun prog w A R s h => by
  obtain ⟨hp, g, d, tk, os⟩ := s
  obtain ⟨hl, h⟩ := h
  wp_walk using wpAny_loadPart' hl
  exact ⟨_, rfl, h⟩
theorem qmi (l : Addr) (dd : Option Addr) (items : Array Value) (n : Nat) (sl : Array (Option Value)) (k : Int) (t : Tok) (h0 : ¬ items.isEmpty = true) (h1 : ¬ (k == 1) = true) (h2 : ¬ k <= 0) (h3 : ¬ (decide (k < -(2 ^ 63)) || decide (k >= 2 ^ 63)) = true)
  (h4 : ¬ (items.size : Int) * k > (2 ^ 63 - 1) / 8) (h5 : ¬ Builtin.Tuple.tupleTooMany ((items.size : Int) * k) = true) (h6 : ((List.replicate k.toNat items).foldl (· ++ ·) #[]).size <= sizeLine) :
  Meets (Builtin.«tuple.__mul__» ⟨[.ref l, .int k t], []⟩) (fun _ R s => s.heap.get? l = some { cls := .type "tuple", dict := dd, data := .seq items n, slots := sl } /\
   R (.ok (.ret (.ref s.heap.objs.size))) { s with heap := s.heap.push { cls := .type "tuple", data := .seq ((List.replicate k.toNat items).foldl (· ++ ·) #[]) } }) :=
 .of_wp fun prog w A R s h => by
  obtain ⟨hp, g, d, tk, os⟩ := s
  obtain ⟨hl, h⟩ := h
  have f1 := AutoSeq1.idx_int
  have f2 := AutoSeq1.sub_tuple_tuple
  have h01 : ¬ (items.isEmpty || k == 1) = true := by simp only [Bool.or_eq_true, not_or]; exact ⟨h0, h1⟩
  have h02 : ¬ (decide (k <= 0) || items.isEmpty) = true := by simp only [Bool.or_eq_true, decide_eq_true_eq, not_or]; exact ⟨h2, h0⟩
  wp_walk using wpAny_loadPart' hl
  rw [if_neg h3]
  wp_walk using wpAny_loadPart' hl
  rw [if_neg h4]
  wp_walk using wpAny_loadPart' hl
  exact ⟨_, rfl, h⟩
section
variable {X : Cx}
def qmj (K : Fr0) : R2 := fun x y H Q => ∃ a xs k, x = .ref a /\ y = .int k /\ SqT K H a xs /\ xs ≠ [] /\ 2 <= k /\ xs.length * k.toNat <= sizeLine /\ ∀ p, H p = none -> Q (.ref p) (upd H p (.tup (List.replicate k.toNat xs).flatten))
theorem qkd : OpR X (binaryOp .Mult) (qmj X.K) := by
 intro pins s Z H x y v u Q I rx ry h
 obtain ⟨a, xs, k, rfl, rfl, hx, hne, hk, hz, q⟩ := h
 cases rx
 obtain ⟨t, rfl⟩ := ry
 obtain ⟨its, r, p1, _⟩ := I.tuple hx
 obtain ⟨⟨cls, dd, data, sl⟩, ho, hc, n, hd⟩ := id p1
 simp only at hc hd
 subst hc hd
 have hl := r.length
 have hnew : List.foldl (fun x1 x2 => x1 ++ x2) #[] (List.replicate k.toNat its.toArray) = (List.replicate k.toNat its).flatten.toArray := by
  have := qaZ its k.toNat []
  rw [List.nil_append] at this
  exact this
 have hlen : (List.replicate k.toNat its).flatten.length = k.toNat * its.length := qdO its k.toNat
 have hsl : (sizeLine : Nat) = 16777216 := sizeLine_eq
 have e0 : ¬ its.toArray.isEmpty = true := by
  intro e
  have : its = [] := by simpa using e
  rw [this] at hl
  exact hne (List.length_eq_zero_iff.mp hl)
 have pos1 : 1 <= its.length := by
  cases its with
  | nil => simp at e0
  | cons z zs => simp
 have kk : ((k.toNat : Nat) : Int) = k := Int.toNat_of_nonneg (by omega)
 have mm : (its.toArray.size : Int) * k = ((its.length * k.toNat : Nat) : Int) := by rw [sT_, Int.natCast_mul, kk]
 have zz : its.length * k.toNat <= sizeLine := by rw [<- hl]; exact hz
 have kle : k.toNat <= its.length * k.toNat := Nat.le_mul_of_pos_left _ pos1
 have T1 : s.TypeIs (.ref a) "tuple" := ⟨_, ho, rfl⟩
 refine wpAny_binaryOp_repeat_ref (T := "tuple") (U := "int") (by decide) T1 (fun s' => typeIs_int s' k t) qce F.fills_int_mul F.slot_int_rmul qfp F.slot_int_index.lookup
  (call_meets F.slot_int_rmul (typeIs_int s k t) F.entry_int_rmul (F.args_int_rmul_2 _ _) (qc9 k t a dd its.toArray n sl)
   ⟨ho, rfl, T1, call_meets F.slot_tuple_mul T1 F.entry_tuple_mul (F.args_tuple_mul_2 _ _) (qmi a dd its.toArray n sl k t e0 (by simp; omega) (by omega) (by simp; omega) (by rw [mm]; omega) ?_ (by rw [hnew, sT_, hlen, Nat.mul_comm]; exact zz)) ⟨ho, ?_⟩⟩)
 ·rw [mm]
  show ¬ decide (((its.length * k.toNat : Nat) : Int) > (sizeLine : Int)) = true
  rw [decide_eq_true_eq]
  omega
 ·rw [hnew]
  refine ⟨.ref s.heap.objs.size, _, I.laid (t' := s.toks) (o := .tup (List.replicate k.toNat xs).flatten) (fun b ob q => Heap.get?_push_of_some _ q) (Nat.le_refl _) ?_, rfl, q _ (I.hok.fresh (Nat.le_refl _))⟩
  exact ⟨by rw [qdO, Nat.mul_comm]; exact hz, _, r.rep k.toNat, IsTup.new _ _⟩
def qmk (K : Fr0) : R2 := fun x y H Q => (rI qlC (fun i j => .int (i * j))) x y H Q \/ (qmj K x y H Q \/ qom x y H Q)
theorem qM : OpR X (binaryOp .Mult) (qmk X.K) := OpR.or qlE (OpR.or qkd qiP)
end
def jp : D -> D -> Option D
 | .int i, .int j => if qdR i j then some (.int (i * j)) else none
 | .tup ds, .int k => if (!ds.isEmpty && decide (2 <= k)) && qO (ds.length * k.toNat) then some (.tup (List.replicate k.toNat ds).flatten) else none
 | .lst ds, .int k => if (decide (-(2 ^ 62) <= k) && decide (k < 2 ^ 62)) && qO (ds.length * k.toNat) then some (.lst (List.replicate k.toNat ds).flatten) else none
 | _, _ => none
theorem IsL.rep {K : Fr0} {A : Addr -> Prop} {H : Hp} {ds : List D} {xs : List V} (h : IsL K A H ds xs) : ∀ k : Nat, IsL K A H (List.replicate k ds).flatten (List.replicate k xs).flatten
 | 0 => by simp [IsL]
 | k + 1 => by
  rw [rS_, rS_, List.flatten_cons, List.flatten_cons]
  exact IsL.append h (IsL.rep h k)
theorem qE {K : Fr0} : OpS K jp (qmk K) := by
 intro A H x y d v u Q hn ix iy e k
 cases x <;> cases y <;> simp only [jp] at e <;> try (cases e; done)
 ·rename_i i j
  obtain ⟨e1, e2⟩ := jg e
  subst e2
  cases ix; cases iy
  exact .inl ⟨i, j, rfl, rfl, qhM e1, k _ H (jm.refl H) rfl⟩
 ·rename_i ds j
  obtain ⟨a, xs, rfl, ta, il⟩ := ix
  cases iy
  obtain ⟨e1, e2⟩ := jg e
  subst e2
  rw [Bool.and_eq_true, Bool.and_eq_true] at e1
  obtain ⟨⟨e3, e4⟩, e5⟩ := e1
  refine .inr (.inl ⟨a, xs, j, rfl, rfl, ta.sq, fun z => ?_, of_decide_eq_true e4, by rw [il.length]; exact of_decide_eq_true e5, fun p hp => k _ _ (qA hp _) ⟨p, _, rfl, .inl qw, IsL.ext (Ext.of_same (qA hp _)) (fun _ h _ => h) (IsL.rep il _)⟩⟩)
  have := il.length
  rw [z] at this
  have : ds = [] := List.length_eq_zero_iff.mp this.symm
  rw [this] at e3
  simp at e3
 ·rename_i ds j
  obtain ⟨a, xs, rfl, _, ta, il⟩ := ix
  cases iy
  obtain ⟨e1, e2⟩ := jg e
  subst e2
  rw [Bool.and_eq_true, Bool.and_eq_true] at e1
  obtain ⟨⟨e3, e4⟩, e5⟩ := e1
  have e3' := of_decide_eq_true e3
  have e4' := of_decide_eq_true e4
  refine .inr (.inr ⟨a, j, xs, rfl, rfl, ta, by omega, by omega, by rw [il.length]; exact of_decide_eq_true e5, fun p hp => k _ _ (qA hp _) ⟨p, _, rfl, hn p hp, qw, IsL.ext (Ext.of_same (qA hp _)) (fun _ h _ => h) (IsL.rep il _)⟩⟩)
def qi4 : D -> Option D
 | .int i => some (.int (-i))
 | _ => none
def d1 (F : D -> Option D) (f : M D) : M D := bnd f fun x => lift (F x)
section
variable {X : Cx} {c : Fc} {a b e : Expr} {pos : Pos}
theorem qml {f : M D} (h : DE X c a f) : DE X c (.UnaryOp .USub a pos) (d1 qi4 f) := by
 obtain ⟨t, p, w⟩ := h
 refine ⟨_, qnw qlF p, fun U Z H Q r h => w U Z H _ r (Wp.bnd h fun d U1 v H1 r1 i1 g1 h1 => ?_)⟩
 obtain ⟨d', e, h2⟩ := h1.lift
 cases d <;> simp only [qi4] at e <;> try (cases e; done)
 rename_i i
 cases e
 cases i1
 exact ⟨i, rfl, h2 _ H1 r1 rfl .refl⟩
def qfN (i j : Nat) (f : M (List D)) : MS := sbnd f fun ds U => match ds with
 | [d, e] => .ok (.nx ((U.set i (some d)).set j (some e)))
 | _ => .bad
theorem qeB {i j : Nat} {x y : Str} {f : M (List D)} {px py pt : Pos} {kt k2 pt2} (hN : X.N.Nodup) (ha : DA X c [a, b] f) (hw : swappedStores [.Tuple [.Name x px, .Name y py] kt pt] (.Tuple [a, b] k2 pt2) X.env = pure (some [x, y])) (hc : X.calm = true := by rfl) (hi : X.N[i]? = some x := by rfl) (hj : X.N[j]? = some y := by rfl) (hij : i ≠ j := by decide)
  (hx : X.env.scope.names.lookup x = some .local := by rfl) (hy : X.env.scope.names.lookup y = some .local := by rfl) (ho : i ∉ c.O := by exact of_decide_eq_false rfl) (hp : j ∉ c.O := by exact of_decide_eq_false rfl)
  (hs : swapsWithSole [.Tuple [.Name x px, .Name y py] kt pt] (.Tuple [a, b] k2 pt2) pos.line X.env = pure false := by rfl) :
  DS X c (.Assign [.Tuple [.Name x px, .Name y py] kt pt] (.Tuple [a, b] k2 pt2) pos) (qfN i j f) := by
 obtain ⟨t, p, w⟩ := ha
 refine ⟨_, qlx hc hN hi hj hij hx hy p hw hs, fun U Z H D r h => w U Z H _ r (WpL.sbnd h fun ds U1 vs H1 r1 i1 g1 h1 => ?_)⟩
 match ds, i1, h1 with
 | [], _, h1 => exact h1.elim
 | [_], _, h1 => exact h1.elim
 | [d, e], i1, h1 =>
  obtain ⟨v, u, rfl, j1, j2⟩ := IsL.inv2 i1
  refine ⟨v, u, rfl, h1 _ H1 ((r1.set ho j1).set hp ?_) ((GrS.set ho).trans (GrS.set hp))⟩
  exact (GrS.set (H := H1) ho).is j2
 | _ :: _ :: _ :: _, _, h1 => exact h1.elim
mutual
def immF : D -> Bool
 | .tup ds => immFs ds
 | .lst _ => false
 | .dic _ => false
 | _ => true
def immFs : List D -> Bool
 | [] => true
 | d :: ds => immF d && immFs ds
end
mutual
theorem Is.immF {K : Fr0} {A B : Addr -> Prop} {H : Hp} : ∀ {d : D} {v : V}, immF d = true -> Is K A H d v -> Is K B H d v
 | .non, _, _, h => h
 | .bl _, _, _, h => h
 | .int _, _, _, h => h
 | .str _, _, _, h => h
 | .tup ds, _, i, ⟨a, xs, hv, h, r⟩ => ⟨a, xs, hv, h, IsL.immF (by simpa [Sk.immF] using i) r⟩
 | .lst _, _, i, _ => by simp [Sk.immF] at i
 | .dic _, _, i, _ => by simp [Sk.immF] at i
 | .fz _, _, _, h => h
 | .exc _, _, _, h => h
theorem IsL.immF {K : Fr0} {A B : Addr -> Prop} {H : Hp} : ∀ {ds : List D} {xs : List V}, immFs ds = true -> IsL K A H ds xs -> IsL K B H ds xs
 | [], _, _, h => h
 | d :: ds, _, i, ⟨x, ys, hx, h, r⟩ => by
  have i' : Sk.immF d = true /\ immFs ds = true := by simpa [immFs] using i
  exact ⟨x, ys, hx, Is.immF i'.1 h, IsL.immF i'.2 r⟩
end
def qgq (F : List D -> R D) (g : M (List D)) : M (List D) := bnd g fun ds U => if immFs ds then match F ds with
 | .ok (.lst bs) => if immL bs then .ok (bs, U) else .bad
 | _ => .bad else .bad
theorem qke {k : Nat} {f : Addr} {fd : FuncData} {ps : List Str} {F : List D -> R D} {x : Str} {p : Pos} {es : List Expr} {g : M (List D)} (G : qbA X.prog X.w X.K X.mg X.base CX0 k f fd ps (spD X.K F)) (hr : vn k X.A) (hg : Gl X x) (hm : X.mg x = some (.ref f)) (hk : PySem.W.keepIn X.K (.ref f) = true) (hb : wj X.K fd ps [])
  (ha : DA X c (e :: es) g) (hd : (x == ("__debug__" : Str)) = false := by decide) (he : starEach (e :: es) X.env = (false, eval e X.env) :: starEach es X.env := by rfl) (hpl : (backTo pos (starEach es X.env)).any (·.1) = false := by rfl) : DN X c (.Call (.Name x p) (e :: es) [] pos) (qgq F g) := by
 obtain ⟨t, pa, w⟩ := ha
 refine ⟨_, qb3 G hr hg hm hk hb .nil qjR pa hd he hpl, fun U Z H Q r h => w U Z H _ r (WpL.bndN h fun ds U1 vs H1 r1 i1 g1 h1 => ?_)⟩
 rw [List.append_nil]
 by_cases him : immFs ds = true
 ·rw [if_pos him] at h1
  refine ⟨ds, fun _ => False, IsL.immF him i1, r1.tb, ?_⟩
  cases ef : F ds with
  | bad => simp only [ef] at h1; exact h1.elim
  | exc z U' => simp only [ef] at h1; exact h1.elim
  | ok d =>
   cases d with
   | lst bs =>
    simp only [ef] at h1
    by_cases hb2 : immL bs = true
    ·rw [if_pos hb2] at h1
     intro v H' sm i
     obtain ⟨a, xs, rfl, hA, ha2, il⟩ := i
     have hn : H1 a = none := hA.elim False.elim id
     exact h1 a xs H' hn (r1.same sm) (r1.apart_same hn sm) ha2 trivial (IsL.imm hb2 il) (.of_same sm)
    ·rw [if_neg hb2] at h1; exact h1.elim
   | _ => simp only [ef] at h1; exact h1.elim
 ·rw [if_neg him] at h1; exact h1.elim
end
structure qkf (outer : Scope) (N : List Str) (scope : Scope) (N' : List Str) (nt : Nat) (fr : List Nat) : Prop where
 kind : scope.kind = .function
 nocell : ∀ y ∈ scope.names, y.2 ≠ .cell
 names : ∀ y ∈ scope.names, y.2 = .local -> scope.names.lookup y.1 = some .local
 frees : ∀ y ∈ scope.names, y.2 = .free -> outer.names.lookup y.1 = some .cell
 len : N'.length = nt + fr.length
 slots : ∀ p ∈ fr.zipIdx, N'[nt + p.2]? = N[p.1]? /\ ((N[p.1]?).bind fun x => scope.names.lookup x) = some .free
theorem qkf.ok {X : Cx} {outer : Scope} {N : List Str} {scope : Scope} {N' : List Str} {nt : Nat} {fr : List Nat} (S : qkf outer N scope N' nt fr) (h1 : X.env.scope = outer) (h2 : X.N = N) : CompScope X scope N' nt fr := by
 subst h1 h2
 refine ⟨S.kind, S.nocell, S.names, S.frees, S.len, fun i j h => ?_⟩
 have hm : (j, i) ∈ fr.zipIdx := by
  rw [List.mem_iff_getElem?]
  refine ⟨i, ?_⟩
  rw [List.getElem?_zipIdx, h]
  simp
 obtain ⟨h3, h4⟩ := S.slots (j, i) hm
 cases e : X.N[j]? with
 | none =>
  have h4' : ((X.N[j]?).bind fun x => scope.names.lookup x) = some .free := h4
  rw [e] at h4'; cases h4'
 | some x =>
  have h4' : ((X.N[j]?).bind fun x => scope.names.lookup x) = some .free := h4
  rw [e] at h4'
  exact ⟨x, by
    have h3' : N'[nt + i]? = X.N[j]? := h3
    rw [h3', e], rfl, h4'⟩
structure qC (P : Program) (w : World) (K : PySem.W.Frag) (mg : Str -> Option Value) (base : Heap) (k : Nat) (x : Str) (ps : List Str) (sp : Sp) : Prop where
 ex : ∃ f fd, qbA P w K mg base CX0 k f fd ps sp /\ mg x = some (.ref f) /\ PySem.W.keepIn K (.ref f) = true /\ wj K fd ps []
theorem qaB : bootBuiltins "len" = some (.builtin "len") := by decide +kernel
theorem qmm : bootBuiltins "abs" = some (.builtin "abs") := by decide +kernel
theorem qgr : bootBuiltins "max" = some (.builtin "max") := by decide +kernel
theorem qi5 : bootBuiltins "min" = some (.builtin "min") := by decide +kernel
theorem qi6 : bootBuiltins "all" = some (.builtin "all") := by decide +kernel
theorem qmn : bootBuiltins "sum" = some (.builtin "sum") := by decide +kernel
theorem qgs : bootBuiltins "divmod" = some (.builtin "divmod") := by decide +kernel
theorem qmo : bootBuiltins "int" = some (.type "int") := by decide +kernel
theorem qkg : bootBuiltins "bool" = some (.type "bool") := by decide +kernel
theorem uQ : bootBuiltins "tuple" = some (.type "tuple") := by decide +kernel
theorem z6 : bootBuiltins "isinstance" = some (.builtin "isinstance") := by decide +kernel
def uL : MS := fun U => .ok (.nx U)
def qbQ : MS := fun _ => .bad
theorem qH {X : Cx} {c : Fc} : DSs X c [] uL := qjT
theorem vt {X : Cx} {c : Fc} {st : Stmt} : DS X c st qbQ := qhL
theorem qq {X : Cx} : IxR X (fun x y H Q => qnF X.K x y H Q \/ qnG X.K x y H Q) := qf5.or qlO
theorem qkh {c : Fc} {nt : Nat} {fr : List Nat} {i j : Nat} (h1 : j ∈ c.O) (h2 : nt <= i) (h3 : fr[i - nt]? = some j) (h4 : ∀ p ∈ fr.zipIdx, nt + p.2 ≠ i -> p.1 ∉ c.O) : qj2 c nt fr (some (i, j)) :=
 ⟨h1, h2, h3, fun k j' h hk => h4 (j', k) (by rw [List.mem_iff_getElem?]; exact ⟨k, by rw [List.getElem?_zipIdx, h]; simp⟩) hk⟩
def eqB (x y : D) : Option D := match sc2 x y with
 | some b => some (.bl b)
 | none => eqA x y
def neB (x y : D) : Option D := match sc2 x y with
 | some b => some (.bl (!b))
 | none => neA x y
theorem v7 {X : Cx} {k : Nat} (hr : vn k X.A) : OpR X (compareOp .Eq) (fun x y H Q => rEq x y H Q \/ qi0 X.K false x y H Q) := OpR.or qny (qmc hr)
theorem qbR {X : Cx} {k : Nat} (hr : vn k X.A) : OpR X (compareOp .NotEq) (fun x y H Q => rNe x y H Q \/ qi0 X.K true x y H Q) := OpR.or qnz (qi1 hr)
theorem uw {K : Fr0} : OpS K eqB (fun x y H Q => rEq x y H Q \/ qi0 K false x y H Q) := by
 intro A H x y d v u Q hn ix iy e k
 unfold eqB at e
 cases e1 : sc2 x y with
 | some b => simp only [e1] at e; exact .inl (qjU A H x y d v u Q hn ix iy (by unfold eqS; rw [e1]; exact e) k)
 | none => simp only [e1] at e; exact .inr (qj8 A H x y d v u Q hn ix iy e k)
theorem qaa {K : Fr0} : OpS K neB (fun x y H Q => rNe x y H Q \/ qi0 K true x y H Q) := by
 intro A H x y d v u Q hn ix iy e k
 unfold neB at e
 cases e1 : sc2 x y with
 | some b => simp only [e1] at e; exact .inl (qjV A H x y d v u Q hn ix iy (by unfold neS; rw [e1]; exact e) k)
 | none => simp only [e1] at e; exact .inr (qj9 A H x y d v u Q hn ix iy e k)
end L2.Sk
namespace L2.Sk
section
variable {α β : Type} {U : Env} {f g k : M D} {t u : M Bool} {l m : M (List D)} {p q r : MS}
theorem qcf (a : α) : ret a U = .ok (a, U) := rfl
theorem qgt (o : Option α) : lift o U = match o with | some a => .ok (a, U) | none => .bad := by cases o <;> rfl
theorem qnL {f : M α} {k : α -> M β} : bnd f k U = match f U with | .ok (a, U') => k a U' | .exc x U' => .exc x U' | .bad => .bad := rfl
theorem qmp (i : Nat) : dv i U = match U[i]? with | some (some d) => .ok (d, U) | _ => .bad := rfl
theorem jq : qd f l U = match f U with | .ok (d, U1) => (match l U1 with | .ok (ds, U2) => .ok (d :: ds, U2) | .exc x U' => .exc x U' | .bad => .bad) | .exc x U' => .exc x U' | .bad => .bad := by
 simp only [qd, bnd, sbnd]
 cases f U with
 | ok z =>
  obtain ⟨z1, U1⟩ := z
  simp only [ret]
  cases l U1 with
  | ok z => obtain ⟨z2, U2⟩ := z; rfl
  | exc x U' => rfl
  | bad => rfl
 | exc x U' => rfl
 | bad => rfl
theorem qeC : qaL l U = match l U with | .ok (ds, U1) => (if qO ds.length then .ok (.tup ds, U1) else .bad) | .exc x U' => .exc x U' | .bad => .bad := by
 simp only [qaL, bnd, sbnd]
 cases l U with
 | ok z =>
  obtain ⟨z1, U1⟩ := z
  cases h : qO z1.length <;> simp [h, lift, ret]
 | exc x U' => rfl
 | bad => rfl
theorem qgu : qa3 l U = match l U with | .ok (ds, U1) => (if qO ds.length then .ok (.lst ds, U1) else .bad) | .exc x U' => .exc x U' | .bad => .bad := by
 simp only [qa3, bnd, sbnd]
 cases l U with
 | ok z =>
  obtain ⟨z1, U1⟩ := z
  cases h : qO z1.length <;> simp [h, lift, ret]
 | exc x U' => rfl
 | bad => rfl
theorem qi7 : qnf l U = match l U with | .ok (ds, U1) => (if immL ds && qO ds.length then .ok (ds, U1) else .bad) | .exc x U' => .exc x U' | .bad => .bad := by
 simp only [qnf, bnd, sbnd]
 cases l U with
 | ok z =>
  obtain ⟨z1, U1⟩ := z
  cases h : (immL z1 && qO z1.length) <;> simp [h, lift, ret]
 | exc x U' => rfl
 | bad => rfl
theorem qnM (F : D -> D -> Option D) : d2 F f g U = match f U with | .ok (x, U1) => (match g U1 with | .ok (y, U2) => (match F x y with | some d => .ok (d, U2) | none => .bad) | .exc x U' => .exc x U' | .bad => .bad) | .exc x U' => .exc x U' | .bad => .bad := by
 simp only [d2, bnd, sbnd]
 cases f U with
 | ok z =>
  obtain ⟨z1, U1⟩ := z
  dsimp only <;>
  cases g U1 with
  | ok z => obtain ⟨z2, U2⟩ := z; (dsimp only; cases F z1 z2 <;> rfl)
  | exc x U' => rfl
  | bad => rfl
 | exc x U' => rfl
 | bad => rfl
theorem qnN (F : D -> Option D) : d1 F f U = match f U with | .ok (x, U1) => (match F x with | some d => .ok (d, U1) | none => .bad) | .exc x U' => .exc x U' | .bad => .bad := by
 simp only [d1, bnd, sbnd]
 cases f U with
 | ok z =>
  obtain ⟨z1, U1⟩ := z
  (dsimp only; cases F z1 <;> rfl)
 | exc x U' => rfl
 | bad => rfl
theorem qab (F : List D -> Option D) : jo F l U = match l U with | .ok (xs, U1) => (match F xs with | some d => .ok (d, U1) | none => .bad) | .exc x U' => .exc x U' | .bad => .bad := by
 simp only [jo, bnd, sbnd]
 cases l U with
 | ok z =>
  obtain ⟨z1, U1⟩ := z
  (dsimp only; cases F z1 <;> rfl)
 | exc x U' => rfl
 | bad => rfl
theorem j8 (F : List D -> R D) : qg F l U = match l U with | .ok (xs, U1) => (match F xs with | .ok d => .ok (d, U1) | _ => .bad) | .exc x U' => .exc x U' | .bad => .bad := by
 simp only [qg, bnd, sbnd]
 cases l U with
 | ok z =>
  obtain ⟨z1, U1⟩ := z
  cases F z1 <;> rfl
 | exc x U' => rfl
 | bad => rfl
theorem qi8 (T : String) : qhS T f U = match f U with | .ok (d, U1) => .ok (.bl (qdV (tyD d) T), U1) | .exc x U' => .exc x U' | .bad => .bad := by
 simp only [qhS, bnd, sbnd]
 cases f U with
 | ok z =>
  obtain ⟨z1, U1⟩ := z
  rfl
 | exc x U' => rfl
 | bad => rfl
theorem qki : tst f U = match f U with | .ok (d, U1) => (match asB d with | some b => .ok (b, U1) | none => .bad) | .exc x U' => .exc x U' | .bad => .bad := by
 simp only [tst, bnd, sbnd]
 cases f U with
 | ok z =>
  obtain ⟨z1, U1⟩ := z
  (dsimp only; cases asB z1 <;> rfl)
 | exc x U' => rfl
 | bad => rfl
theorem uf (b : Bool) : asB (.bl b) = some b := rfl
theorem qgv : wX t U = match t U with | .ok (b, U1) => .ok (!b, U1) | .exc x U' => .exc x U' | .bad => .bad := by
 simp only [wX, bnd, sbnd]
 cases t U with
 | ok z =>
  obtain ⟨z1, U1⟩ := z
  rfl
 | exc x U' => rfl
 | bad => rfl
theorem qeD : qcY t u U = match t U with | .ok (b, U1) => (bif b then u U1 else .ok (false, U1)) | .exc x U' => .exc x U' | .bad => .bad := by
 simp only [qcY, bnd, sbnd]
 cases t U with
 | ok z =>
  obtain ⟨z1, U1⟩ := z
  cases z1 <;> rfl
 | exc x U' => rfl
 | bad => rfl
theorem qd0 : tor t u U = match t U with | .ok (b, U1) => (bif b then .ok (true, U1) else u U1) | .exc x U' => .exc x U' | .bad => .bad := by
 simp only [tor, bnd, sbnd]
 cases t U with
 | ok z =>
  obtain ⟨z1, U1⟩ := z
  cases z1 <;> rfl
 | exc x U' => rfl
 | bad => rfl
theorem qeE : qht f g U = match f U with | .ok (d, U1) => (match asB d with | some b => (bif b then g U1 else .ok (.bl false, U1)) | none => .bad) | .exc x U' => .exc x U' | .bad => .bad := by
 simp only [qht, bnd, sbnd]
 cases f U with
 | ok z =>
  obtain ⟨z1, U1⟩ := z
  simp only [qgt]
  cases asB z1 with
  | none => rfl
  | some b => cases b <;> rfl
 | exc x U' => rfl
 | bad => rfl
theorem qmq : dor f g U = match f U with | .ok (d, U1) => (match asB d with | some b => (bif b then .ok (.bl true, U1) else g U1) | none => .bad) | .exc x U' => .exc x U' | .bad => .bad := by
 simp only [dor, bnd, sbnd]
 cases f U with
 | ok z =>
  obtain ⟨z1, U1⟩ := z
  simp only [qgt]
  cases asB z1 with
  | none => rfl
  | some b => cases b <;> rfl
 | exc x U' => rfl
 | bad => rfl
theorem qi9 : qnc f U = match f U with | .ok (d, U1) => (match asB d with | some b => .ok (.bl (!b), U1) | none => .bad) | .exc x U' => .exc x U' | .bad => .bad := by
 simp only [qnc, bnd, sbnd]
 cases f U with
 | ok z =>
  obtain ⟨z1, U1⟩ := z
  simp only [qgt]
  cases asB z1 with
  | none => rfl
  | some b => cases b <;> rfl
 | exc x U' => rfl
 | bad => rfl
theorem qh2 : dif t f g U = match t U with | .ok (b, U1) => (bif b then f U1 else g U1) | .exc x U' => .exc x U' | .bad => .bad := by
 simp only [dif, bnd, sbnd]
 cases t U with
 | ok z =>
  obtain ⟨z1, U1⟩ := z
  cases z1 <;> rfl
 | exc x U' => rfl
 | bad => rfl
theorem qh3 : sif t p q U = match t U with | .ok (b, U1) => (bif b then p U1 else q U1) | .exc x U' => .exc x U' | .bad => .bad := by
 simp only [sif, bnd, sbnd]
 cases t U with
 | ok z =>
  obtain ⟨z1, U1⟩ := z
  cases z1 <;> rfl
 | exc x U' => rfl
 | bad => rfl
theorem qja : qT p q U = match p U with | .ok (.nx U') => q U' | z => z := by
 unfold qT
 cases p U with
 | ok z => cases z <;> rfl
 | exc x U' => rfl
 | bad => rfl
theorem wM : z0 f U = match f U with | .ok (d, U1) => .ok (.rt d U1) | .exc x U' => .exc x U' | .bad => .bad := by
 simp only [z0, bnd, sbnd]
 cases f U with
 | ok z =>
  obtain ⟨z1, U1⟩ := z
  rfl
 | exc x U' => rfl
 | bad => rfl
theorem qbf (i : Nat) : zM i f U = match f U with | .ok (d, U1) => .ok (.nx (U1.set i (some d))) | .exc x U' => .exc x U' | .bad => .bad := by
 simp only [zM, bnd, sbnd]
 cases f U with
 | ok z =>
  obtain ⟨z1, U1⟩ := z
  rfl
 | exc x U' => rfl
 | bad => rfl
theorem qcg (i : Nat) : qca i l U = match l U with | .ok (ds, U1) => .ok (.nx (U1.set i (some (.lst ds)))) | .exc x U' => .exc x U' | .bad => .bad := by
 simp only [qca, bnd, sbnd]
 cases l U with
 | ok z =>
  obtain ⟨z1, U1⟩ := z
  rfl
 | exc x U' => rfl
 | bad => rfl
theorem qch : yc f U = match f U with | .ok (_, U1) => .ok (.nx U1) | .exc x U' => .exc x U' | .bad => .bad := by
 simp only [yc, bnd, sbnd]
 cases f U with
 | ok z =>
  obtain ⟨z1, U1⟩ := z
  rfl
 | exc x U' => rfl
 | bad => rfl
theorem qjb : uL U = .ok (.nx U) := rfl
theorem qeF (i j : Nat) : qfN i j l U = match l U with | .ok ([d, e], U1) => .ok (.nx ((U1.set i (some d)).set j (some e))) | .ok _ => .bad | .exc x U' => .exc x U' | .bad => .bad := by
 simp only [qfN, bnd, sbnd]
 cases l U with
 | ok z =>
  obtain ⟨z1, U1⟩ := z
  match z1 with
  | [] => rfl
  | [_] => rfl
  | [_, _] => rfl
  | _ :: _ :: _ :: _ => rfl
 | exc x U' => rfl
 | bad => rfl
theorem qgw (G : D -> Env -> Option Env) : qlX f G U = match f U with | .ok (d, U1) => (match G d U1 with | some U2 => .ok (.nx U2) | none => .bad) | .exc x U' => .exc x U' | .bad => .bad := by
 simp only [qlX, bnd, sbnd]
 cases f U with
 | ok z =>
  obtain ⟨z1, U1⟩ := z
  dsimp only <;>
  cases G z1 U1 <;> rfl
 | exc x U' => rfl
 | bad => rfl
theorem ve (G : D -> Env -> Option Env) (b : MS) : qdW l G b U = match l U with | .ok (ds, U1) => yf G b ds U1 | .exc x U' => .exc x U' | .bad => .bad := by
 simp only [qdW, bnd, sbnd]
 cases l U with
 | ok z =>
  obtain ⟨z1, U1⟩ := z
  rfl
 | exc x U' => rfl
 | bad => rfl
theorem qbg : qbP f U = match f U with | .ok (d, U1) => (match qne d with | some ds => .ok (ds, U1) | none => .bad) | .exc x U' => .exc x U' | .bad => .bad := by
 simp only [qbP, bnd, sbnd]
 cases f U with
 | ok z =>
  obtain ⟨z1, U1⟩ := z
  (dsimp only; cases qne z1 <;> rfl)
 | exc x U' => rfl
 | bad => rfl
theorem qgx : vq l U = match l U with | .ok (d, U1) => (match qiY d with | some ds => .ok (ds, U1) | none => .bad) | .exc x U' => .exc x U' | .bad => .bad := by
 simp only [vq, bnd, sbnd]
 cases l U with
 | ok z =>
  obtain ⟨z1, U1⟩ := z
  (dsimp only; cases qiY z1 <;> rfl)
 | exc x U' => rfl
 | bad => rfl
theorem qda : qi3 l U = match l U with | .ok (d, U1) => (match qmh d with | some ds => .ok (ds, U1) | none => .bad) | .exc x U' => .exc x U' | .bad => .bad := by
 simp only [qi3, bnd, sbnd]
 cases l U with
 | ok z =>
  obtain ⟨z1, U1⟩ := z
  (dsimp only; cases qmh z1 <;> rfl)
 | exc x U' => rfl
 | bad => rfl
theorem qbh {nt : Nat} {fr : List Nat} {fo : Option (Nat × Nat)} {G : D -> Env -> Option Env} {e : M D} : yX nt fr fo l G t e U = match l U with
  | .ok (ds, U1) => (match zt G t e ds [] (jP nt fr U1) with | .ok (ys, Ue) => .ok (.lst ys, qlb fo Ue U1) | _ => .bad) | .exc x U' => .exc x U' | .bad => .bad := by
 simp only [yX, bnd, sbnd]
 cases l U with
 | ok z =>
  obtain ⟨z1, U1⟩ := z
  dsimp only <;>
  cases zt G t e z1 [] (jP nt fr U1) with
  | ok z => obtain ⟨z2, U2⟩ := z; rfl
  | exc x U' => rfl
  | bad => rfl
 | exc x U' => rfl
 | bad => rfl
theorem qdb (F : List D -> List D -> R (D × List D)) (i : Nat) : qz F i l U = match zx i U with
  | none => .bad
  | some _ => (match l U with
   | .ok (ds, U1) => (match zx i U1 with
    | none => .bad
    | some bs => (match F bs ds with | .ok (d, bs') => .ok (d, U1.set i (some (.lst bs'))) | _ => .bad))
   | .exc x U' => .exc x U' | .bad => .bad) := by
 simp only [qz, bnd]
 cases zx i U with
 | none => rfl
 | some _ =>
  dsimp only <;>
  cases l U with
  | ok z =>
   obtain ⟨z1, U1⟩ := z
   dsimp only <;>
   cases zx i U1 with
   | none => rfl
   | some bs =>
    dsimp only <;>
    cases F bs z1 with
    | ok z => obtain ⟨z2, z3⟩ := z; rfl
    | exc x U' => rfl
    | bad => rfl
  | exc x U' => rfl
  | bad => rfl
theorem qgy (F : List D -> R D) : qgq F l U = match l U with
  | .ok (ds, U1) => (if immFs ds then (match F ds with | .ok (.lst bs) => (if immL bs then .ok (bs, U1) else .bad) | _ => .bad) else .bad) | .exc x U' => .exc x U' | .bad => .bad := by
 simp only [qgq, bnd, sbnd]
 cases l U with
 | ok z =>
  obtain ⟨z1, U1⟩ := z
  dsimp only <;>
  cases immFs z1 with
  | false => rfl
  | true =>
   simp only [if_true]
   cases F z1 with
   | ok z => cases z <;> rfl
   | exc x U' => rfl
   | bad => rfl
 | exc x U' => rfl
 | bad => rfl
theorem qgz (i : Nat) : qey i f U = match zx i U with
  | none => .bad
  | some _ => (match f U with
   | .ok (k, U1) => (match k, zx i U1 with
    | .int n, some ds => (match atI ds n with | some d => .ok (d, U1) | none => .bad)
    | _, _ => .bad)
   | .exc x U' => .exc x U' | .bad => .bad) := by
 simp only [qey, bnd]
 cases zx i U with
 | none => rfl
 | some _ =>
  dsimp only <;>
  cases f U with
  | ok z =>
   obtain ⟨z1, U1⟩ := z
   dsimp only <;>
   cases z1 <;> cases zx i U1 <;> try rfl
  | exc x U' => rfl
  | bad => rfl
theorem qd1 (i : Nat) : qdY i k f U = match f U with
  | .ok (d, U1) => (match zx i U1 with
   | none => .bad
   | some _ => (match k U1 with
    | .ok (j, U2) => (match j, zx i U2 with
     | .int n, some ds => (match ixN ds.length n with
      | some q => if imm d then .ok (.nx (U2.set i (some (.lst (ds.set q d))))) else .bad
      | none => .bad)
     | _, _ => .bad)
    | .exc x U' => .exc x U' | .bad => .bad))
  | .exc x U' => .exc x U' | .bad => .bad := by
 simp only [qdY, bnd, sbnd]
 cases f U with
 | ok z =>
  obtain ⟨z1, U1⟩ := z
  dsimp only <;>
  cases zx i U1 with
  | none => rfl
  | some _ =>
   dsimp only <;>
   cases k U1 with
   | ok z =>
    obtain ⟨z2, U2⟩ := z
    dsimp only <;>
    cases z2 <;> cases zx i U2 <;> try rfl
   | exc x U' => rfl
   | bad => rfl
 | exc x U' => rfl
 | bad => rfl
theorem qgA (i : Nat) : qc7 i U = match zx i U with | some ds => .ok (.int ds.length, U) | none => .bad := by
 unfold qc7
 cases zx i U <;> rfl
theorem qd2 (i : Nat) : qfo i U = match zx i U with | some ds => .ok (.tup ds, U) | none => .bad := by
 unfold qfo
 cases zx i U <;> rfl
theorem qjc (i : Nat) : qi2 i f U = match zx i U with
  | none => .bad
  | some _ => (match f U with
   | .ok (y, U1) => (match zx i U1 with
    | none => .bad
    | some ds => (match neA (.lst ds) y with | some d => .ok (d, U1) | none => .bad))
   | .exc x U' => .exc x U' | .bad => .bad) := by
 simp only [qi2, bnd]
 cases zx i U with
 | none => rfl
 | some _ =>
  dsimp only <;>
  cases f U with
  | ok z =>
   obtain ⟨z1, U1⟩ := z
   dsimp only <;>
   cases zx i U1 with
   | none => rfl
   | some ds => (dsimp only; cases neA (.lst ds) z1 <;> rfl)
  | exc x U' => rfl
  | bad => rfl
theorem qdc (i : Nat) : wm i f U = match zx i U with
  | none => .bad
  | some _ => (match f U with
   | .ok (d, U1) => (match zx i U1 with
    | some ds => if imm d && qO (ds.length + 1) then .ok (.non, U1.set i (some (.lst (ds ++ [d])))) else .bad
    | none => .bad)
   | .exc x U' => .exc x U' | .bad => .bad) := by
 simp only [wm, bnd]
 cases zx i U with
 | none => rfl
 | some _ =>
  dsimp only <;>
  cases f U with
  | ok z =>
   obtain ⟨z1, U1⟩ := z
   dsimp only <;>
   cases zx i U1 <;> rfl
  | exc x U' => rfl
  | bad => rfl
theorem qmr {g k : M (Option Int)} : dsl f g k U = match f U with
  | .ok (d, U1) => (match g U1 with
   | .ok (lo, U2) => (match k U2 with
    | .ok (hi, U3) => (match slD d lo hi with | some x => .ok (x, U3) | none => .bad)
    | .exc x U' => .exc x U' | .bad => .bad)
   | .exc x U' => .exc x U' | .bad => .bad)
  | .exc x U' => .exc x U' | .bad => .bad := by
 simp only [dsl, bnd, sbnd]
 cases f U with
 | ok z =>
  obtain ⟨z1, U1⟩ := z
  dsimp only <;>
  cases g U1 with
  | ok z =>
   obtain ⟨z2, U2⟩ := z
   dsimp only <;>
   cases k U2 with
   | ok z => obtain ⟨z3, U3⟩ := z; (dsimp only; cases slD z1 z2 z3 <;> rfl)
   | exc x U' => rfl
   | bad => rfl
  | exc x U' => rfl
  | bad => rfl
 | exc x U' => rfl
 | bad => rfl
theorem qgB : ql4 f U = match f U with | .ok (.int i, U1) => .ok (some i, U1) | .ok _ => .bad | .exc x U' => .exc x U' | .bad => .bad := by
 simp only [ql4, bnd, sbnd]
 cases f U with
 | ok z =>
  obtain ⟨z1, U1⟩ := z
  cases z1 <;> rfl
 | exc x U' => rfl
 | bad => rfl
end
theorem yY {n : Nat} (h : n <= 1000000) : qO n = true := by
 unfold qO
 exact decide_eq_true (Nat.le_trans h (by rw [PySem.sizeLine_eq]; decide))
theorem qkj {n p : Nat} {body : MS} {ds : List D} {d : D} {U : Env} (h : ds.length = p) (e : body (ud n ds) = .ok (.rt d U)) : dfn n p body ds = .ok d := by
 unfold dfn; rw [if_pos h, e]
theorem qgC {n p : Nat} {body : MS} {bs ds bs' : List D} {d : D} {U : Env} (h : ds.length + 1 = p) (e : body (ud n (.lst bs :: ds)) = .ok (.rt d U)) (g : zx 0 U = some bs') : qbc n p body bs ds = .ok (d, bs') := by
 unfold qbc; rw [if_pos h, e]; simp only [g]
end L2.Sk
namespace L2.Sk
open PySem PySem.Spec PyProof.Rows
section
variable {prog : Program} {w : World} {A : Around} {E : Value -> Shared -> Prop} {s : Shared}
theorem qgD {l : Addr} {xs : Array Value} {Q : Value -> Shared -> Prop} (t1 : s.heap.IsTuple l xs)
  (fin : ∀ h', IsEnum h' (s.heap.objs.size + 1) s.heap.objs.size 0 .none -> h'.IsTupleIter s.heap.objs.size l 0 -> (∀ c o, s.heap.get? c = some o -> h'.get? c = some o) -> Q (.ref (s.heap.objs.size + 1)) { s with heap := h' }) :
  wpAny (model prog w) A (call (.type "enumerate") [.ref l]) Q E s := by
 have meets : Meets (Builtin.«enumerate.__new__» ⟨[.type "enumerate", .ref l], []⟩) (fun _ R s => s.heap.IsTuple l xs /\
   R (.ok (.ret (.ref (s.heap.objs.size + 1)))) { s with heap := (s.heap.push { cls := .type "tuple_iterator", data := .fields #[.ref l, .int 0 0] }).push { cls := .type "enumerate", data := .fields #[.none, .bool false, .ref s.heap.objs.size, rawInt 0, .none, .none] } }) :=
  .of_wp fun prog w A R s h => by
   obtain ⟨hp, g, d, tk, os⟩ := s
   obtain ⟨ha, h⟩ := h
   have hsub := sub_enumerate
   have hA : Heap.IsTuple (Shared.heap ⟨hp, g, d, tk, os⟩) l xs := ha
   obtain ⟨o, ho, _⟩ := id ha
   have ho' : hp.get? l = some o := ho
   wp_walk using AutoSeq1.wpAny_loadPart' ho'
   refine wpAny_stack_any fun st => wpAny_pure ?_
   split
   ·rename_i c _ _ _ _ _
    cases (c == Value.type "enumerate")
    ·wp_walk using AutoSeq1.wpAny_loadPart' ho', wpAny_pyIter_tuple hA
     simp only [Heap.size_push] at *
     exact ⟨_, rfl, h⟩
    ·wp_walk using AutoSeq1.wpAny_loadPart' ho', wpAny_pyIter_tuple hA
     simp only [Heap.size_push] at *
     exact ⟨_, rfl, h⟩
   ·wp_walk using AutoSeq1.wpAny_loadPart' ho', wpAny_pyIter_tuple hA
    simp only [Heap.size_push] at *
    exact ⟨_, rfl, h⟩
 refine callType_new F.called_enumerate (by decide) (F.typeCall_enumerate_1 _) (F.newCall_enumerate_1 _) (fun obj => F.args_object_init_2 obj _) F.entry_enumerate_new meets ⟨t1, ?_⟩
 generalize e1 : s.heap.push { cls := .type "tuple_iterator", data := .fields #[.ref l, .int 0 0] } = m1
 have s1 : m1.objs.size = s.heap.objs.size + 1 := by rw [<- e1, Heap.size_push]
 have q1 : m1.get? s.heap.objs.size = some { cls := .type "tuple_iterator", data := .fields #[.ref l, .int 0 0] } := by rw [<- e1]; exact Heap.get?_push_size _ rfl
 have k1 : ∀ c o, s.heap.get? c = some o -> m1.get? c = some o := fun c o x => by rw [<- e1]; exact Heap.get?_push_of_some _ x
 generalize e2 : m1.push { cls := .type "enumerate", data := .fields #[.none, .bool false, .ref s.heap.objs.size, rawInt 0, .none, .none] } = m2
 have q2 : m2.get? (s.heap.objs.size + 1) = some { cls := .type "enumerate", data := .fields #[.none, .bool false, .ref s.heap.objs.size, rawInt 0, .none, .none] } := by rw [<- e2, <- s1]; exact Heap.get?_push_size _ rfl
 have k2 : ∀ c o, m1.get? c = some o -> m2.get? c = some o := fun c o x => by rw [<- e2]; exact Heap.get?_push_of_some _ x
 show _ /\ _
 exact ⟨⟨_, q2, rfl⟩, fin m2 q2 ⟨_, k2 _ _ q1, rfl, rfl⟩ fun c o x => k2 _ _ (k1 _ _ x)⟩
end
def Ite (K : Fr0) (a : Addr) (xs : List V) : It :=
 ⟨fun i H => i < xs.length /\ SqT K H a xs, fun i H x H' => ∃ p u, H p = none /\ xs[i]? = some u /\ x = .ref p /\ H' = upd H p (.tup [.int i, u]), fun i H => i = xs.length /\ SqT K H a xs⟩
def ESt (z i1 a1 : Addr) (i : Nat) (h : Heap) : Prop := (∃ old, IsEnum h z i1 i old) /\ h.IsTupleIter i1 a1 i
theorem qgE {P : Program} {w : World} {K : Fr0} {es : List Expr} {kk : Nat} {pos : Pos} {z i1 a1 : Addr} {xs : List V} (zi : z ≠ i1) (za : z ≠ a1) (n1 : a1 ≠ i1) :
  qjJ P w K (.Tuple es kk pos) (Ite K a1 xs) [z, i1] z (ESt z i1 a1) where
 mem := by simp
 obj := fun i h st b hb => by
  obtain ⟨⟨old, h1⟩, ⟨o4, h4, c4, d4⟩⟩ := st
  simp only [List.mem_cons, nN_, or_false] at hb
  rcases hb with rfl | rfl
  ·exact ⟨_, h1, fun v e => by cases (show Data.fields _ = Data.cell v from e)⟩
  ·exact ⟨_, h4, fun v e => by rw [d4] at e; cases e⟩
 keep := fun i h h' st k => by
  obtain ⟨⟨old, h1⟩, h4⟩ := st
  exact ⟨⟨old, k z (by simp) _ h1⟩, h4.at fun o e => k i1 (by simp) o e⟩
 item := by
  intro X hP hw hK hc i pins s Z H E I hf st hg
  subst hP hw hK
  obtain ⟨hlt, hx⟩ := hg
  obtain ⟨⟨old, h1⟩, h4⟩ := st
  obtain ⟨it1, r1, p1, z1⟩ := I.tuple hx
  have l1 : i < it1.toArray.size := by rw [sT_, <- r1.length]; omega
  have hh : X.A.in1.handled = none := I.ok.hd hc
  refine wpAny_pyNext_enum_itemD (vN hh i1 a1 n1 it1.toArray) h1 ⟨h4, p1⟩ l1 zi (by simp [zi, za]) fun x h' tk px ho u1 new hsz kp => ?_
  refine ⟨.ref s.heap.objs.size, rfl, wpAny_letOwnedTupleGo_enum ho fun h2' zz2 sb => ?_⟩
  obtain ⟨xv, hxv⟩ : ∃ v, xs[i]? = some v := ⟨xs[i]'(by omega), gG (by omega)⟩
  obtain ⟨x', ex, rx⟩ := r1.get hxv
  have exx : x' = x := by
   have : it1.toArray[i]? = some x := px
   rw [List.getElem?_toArray, ex] at this
   exact Option.some.inj this
  subst exx
  have lz : z < s.heap.objs.size := Heap.lt_size h1
  have keep : ∀ b u, b ∉ [z, i1] -> s.heap.get? b = some u -> h2'.get? b = some u := fun b u hb e => by
   simp only [List.mem_cons, nN_, or_false, not_or] at hb
   exact (sb.2 b hb.1).trans (kp b u hb.1 hb.2 e)
  have I2 : Inv X pins Z (upd H s.heap.objs.size (.tup [.int i, xv])) { s with heap := h2', toks := tk + 1 } :=
   qgn I keep hf (Nat.le_refl _) ⟨by show 2 <= sizeLine; decide, [.int i tk, x'], .cons ⟨tk, rfl⟩ (.cons rx .nil), ⟨_, (sb.2 _ (Nat.ne_of_gt lz)).trans new, rfl, _, rfl⟩⟩
  refine ⟨.ref s.heap.objs.size, upd H s.heap.objs.size (.tup [.int i, xv]), I2, rfl, ⟨s.heap.objs.size, xv, I.hok.fresh (Nat.le_refl _), hxv, rfl, rfl⟩, ?_, fun b hb => ?_⟩
  ·exact ⟨⟨_, by simpa using zz2⟩, u1.1.at fun o e => (sb.2 i1 zi.symm).trans e⟩
  ·have hb1 : b ≠ s.heap.objs.size := by
    simp only [List.mem_cons, nN_, or_false] at hb
    obtain ⟨o4, g4, _⟩ := h4
    rcases hb with rfl | rfl
    ·exact Nat.ne_of_lt (Heap.lt_size h1)
    ·exact Nat.ne_of_lt (Heap.lt_size g4)
   rw [qv hb1]
   exact (hf b hb).1
 done := by
  intro X hP hw hK hc i pins s Z H E I hf st hg
  subst hP hw hK
  obtain ⟨hlt, hx⟩ := hg
  obtain ⟨⟨old, h1⟩, h4⟩ := st
  obtain ⟨it1, r1, p1, z1⟩ := I.tuple hx
  have hh : X.A.in1.handled = none := I.ok.hd hc
  have e : i = it1.toArray.size := by rw [sT_, <- r1.length]; exact hlt
  subst e
  refine wpAny_pyNext_enum_endD (vN hh i1 a1 n1 it1.toArray) h1 ⟨h4, p1⟩ fun h' kp => ⟨rfl, qgo (t' := s.toks) I (fun b u hb e => ?_) hf⟩
  simp only [List.mem_cons, nN_, or_false, not_or] at hb
  exact kp b u hb.2 e
 self := fun A i s Q E st h => by
  obtain ⟨⟨old, h1⟩, _⟩ := st
  exact wpAny_pyIter_enum h1 h
section
variable {X : Cx} {c : Fc} {a b e : Expr} {pos : Pos} {es : List Expr} {kk : Nat} {tp : Pos}
def qnO (K : Fr0) (ta : TA) : TI := fun Z H R => ta Z H fun vs H1 => ∃ a1 xs, vs = [.ref a1] /\ SqT K H1 a1 xs /\ R (Ite K a1 xs) H1
theorem qkk {ta : TA} {p : Pos} (hg : Gl X "enumerate") (hm : X.mg "enumerate" = none) (ha : PA X [a] ta) (hs : starEach [a] X.env = [(false, eval a X.env)] := by rfl) :
  PI X (.Tuple es kk tp) (.Call (.Name "enumerate" p) [a] [] pos) (qnO X.K ta) := by
 intro pins s Z H R I h
 refine Call_ (qax I hg hm PyProof.Rows.boot_enumerate (PyProof.Rows.callWith_type1 (thn (ha pos pins s Z H _ I h) fun us s1 ⟨vs, H1, I1, r1, q1⟩ => ?_) (by rw [hs]; rfl) (by rfl)))
 obtain ⟨a1, xs, e1, hx, q⟩ := q1
 subst e1
 obtain ⟨u1, rfl, ru1⟩ := zg.one r1
 cases (show u1 = Value.ref a1 from ru1)
 obtain ⟨it1, v1, p1, z1⟩ := I1.tuple hx
 refine qgD (show s1.heap.IsTuple a1 it1.toArray from p1) fun h' zz g1 kp => ?_
 refine wpAny_pyIter_enum zz ?_
 have la1 : a1 < s1.heap.objs.size := by obtain ⟨o, e, _⟩ := p1; exact Heap.lt_size e
 refine ⟨s1.heap.objs.size + 1, [s1.heap.objs.size + 1, s1.heap.objs.size], _, _, H1, rfl, I1.kept (t' := s1.toks) kp, qgE (xs := xs) (Nat.succ_ne_self _) (Nat.ne_of_gt (Nat.lt_succ_of_lt la1)) (Nat.ne_of_lt la1), ⟨⟨_, zz⟩, g1⟩, fun b hb => ?_, q⟩
 simp only [List.mem_cons, nN_, or_false] at hb
 have hb2 : s1.heap.objs.size <= b := by
  rcases hb with e | e <;> rw [e]
  ·exact Nat.le_add_right _ _
  ·exact Nat.le_refl _
 exact I1.fpOk hb2 (I1.hok.fresh hb2)
def wn (k : Nat) : List D -> List D
 | [] => []
 | x :: xs => .tup [.int (k : Nat), x] :: wn (k + 1) xs
theorem qbi : ∀ (k : Nat) (xs : List D), (wn k xs).length = xs.length
 | _, [] => rfl
 | k, x :: xs => by simp [wn, qbi (k + 1) xs]
theorem qdd : ∀ {xs : List D} {k i : Nat} {d : D}, (wn k xs)[i]? = some d -> ∃ x, xs[i]? = some x /\ d = .tup [.int ((k + i : Nat) : Int), x]
 | [], _, _, _, h => by simp [wn] at h
 | x :: xs, k, 0, d, h => by
  have : D.tup [.int (k : Nat), x] = d := by simpa [wn] using h
  exact ⟨x, rfl, this.symm⟩
 | x :: xs, k, i + 1, d, h => by
  obtain ⟨y, h1, h2⟩ := qdd (xs := xs) (k := k + 1) (i := i) (d := d) (by simpa [wn] using h)
  exact ⟨y, by simpa using h1, by rw [h2]; congr 4; omega⟩
theorem qkl {K : Fr0} {A : Addr -> Prop} {H : Hp} {ds : List D} {xs : List V} {a1 : Addr} (t1 : uN K H a1 xs) (i1 : IsL K A H ds xs) : qhu K A H (wn 0 ds) (Ite K a1 xs) where
 go := fun H' i d ex hd => by
  have hl : i < (wn 0 ds).length := (gI_.mp hd).1
  rw [qbi, <- i1.length] at hl
  exact ⟨hl, (t1.elim (fun h => .inl (ex.tup _ _ h)) .inr : uN K H' a1 xs).sq⟩
 yl := fun H' i d x H'' ex hd y => by
  obtain ⟨p, u, hp, hu, rfl, rfl⟩ := y
  obtain ⟨dx, h1, rfl⟩ := qdd hd
  obtain ⟨u', g1, g2⟩ := i1.get h1
  rw [hu] at g1
  cases g1
  have sm := qA hp (.tup [.int i, u])
  exact ⟨sm, p, [.int i, u], rfl, .inl qw, .int i, [u], rfl, by rw [Nat.zero_add]; rfl, u, [], rfl, Is.ext (Ext.of_same sm) (fun _ h _ => h) (Is.ext ex (fun _ h _ => h) g2), rfl⟩
 stop := fun H' ex => ⟨by rw [qbi, i1.length], (t1.elim (fun h => .inl (ex.tup _ _ h)) .inr : uN K H' a1 xs).sq⟩
def qgF : List D -> Option (List D)
 | [.tup xs] => some (wn 0 xs)
 | _ => none
def qgG (f : M (List D)) : M (List D) := bnd f fun ds => lift (qgF ds)
theorem qkm {f : M (List D)} {p : Pos} (hg : Gl X "enumerate") (hm : X.mg "enumerate" = none) (ha : DA X c [a] f) (hs : starEach [a] X.env = [(false, eval a X.env)] := by rfl) :
  DI X c (.Tuple es kk tp) (.Call (.Name "enumerate" p) [a] [] pos) (qgG f) := by
 obtain ⟨t, pa, w⟩ := ha
 refine ⟨_, qkk hg hm pa hs, fun U Z H Q r h => w U Z H _ r (WpL.bndI h fun ds U1 vs H1 r1 i1 g1 h1 => ?_)⟩
 obtain ⟨es', e, h2⟩ := wG h1
 unfold qgF at e
 split at e
 ·obtain ⟨v, rfl, j1⟩ := IsL.inv1 i1
  cases e
  obtain ⟨a1, xs, rfl, t1, il1⟩ := Is.tr j1
  exact ⟨a1, xs, rfl, t1.sq, h2 _ H1 r1 (qkl t1 il1) .refl⟩
 ·cases e
end
def vD : D -> V
 | .bl b => .bl b
 | .int i => .int i
 | .str x => .str x
 | _ => .non
def flD : D -> Bool
 | .non => true
 | .bl _ => true
 | .int _ => true
 | .str _ => true
 | _ => false
def sqD : D -> Option (List D)
 | .tup ds => some ds
 | .lst ds => some ds
 | _ => none
def inD (x y : D) : Option D := match sqD y with
 | some ds => if flD x && ds.all flD then some (.bl (ds.any fun d => eqV (vD d) (vD x))) else none
 | none => none
theorem qd3 {l : M (List D)} {U : Env} : qgG l U = match l U with | .ok (d, U1) => (match qgF d with | some ds => .ok (ds, U1) | none => .bad) | .exc x U' => .exc x U' | .bad => .bad := by
 simp only [qgG, bnd]
 cases l U with
 | ok z => obtain ⟨z1, U1⟩ := z; (dsimp only; cases qgF z1 <;> rfl)
 | exc x U' => rfl
 | bad => rfl
section
variable {X : Cx} {tg iter elt : Expr} {ifs : List Expr} {scope : Scope} {pos : Pos} {wi : TI} {N' : List Str} {nt : Nat} {fr : List Nat}
theorem qkn {i : Nat} {x : Str} {pos' spos : Pos} (hN : X.N.Nodup) (hix : X.N[i]? = some x) (hx : Loc X.env.scope x) (hfx : X.fn x = true \/ X.env.scope.names.lookup x = some .local) (hc : X.calm = true) (hi : PI X tg iter wi) (S : CompScope X scope N' nt fr)
  (hsw : swapsWith (.ListComp elt [⟨tg, iter, ifs, 0⟩] scope pos) (some (.Name x pos')) spos.line X.env = pure true)
  (hs : ∀ x, foldedSetIterable iter X.env x = pure x := by intro _; rfl) : PS X (.Assign [.Name x pos'] (.ListComp elt [⟨tg, iter, ifs, 0⟩] scope pos) spos) (fun D Z H => qj0 X tg ifs elt scope N' wi nt fr Z H fun v H' => D.nx (Z.set i (some v)) H') := by
 intro pins s Z H D I hw
 obtain ⟨cl, hcl, cl1, cl2⟩ := closureFor_ok (env := X.env) (scope := scope) (fun y hy hf => I.ok.has y.1 (.inl (S.frees y hy hf)))
 rw [exec_Assign_Name_used _ _ _ _ hsw]
 refine wpAny_bind (wpAny_standAt (wpAny_bind ?_))
 show wpAny (model X.prog X.w) X.A (comprehension (.ListComp elt [⟨tg, iter, ifs, 0⟩] scope pos) scope X.env _ (newList []) false (eval iter X.env) (some (assign (.Name x pos') X.env)) >>= fun _ => pure ()) _ _ s
 refine wpAny_bind (thn (Q := fun _ s' => SP X pins D .next s') ?_ fun _ s' q => wpAny_pure (wpAny_pure q))
 refine wpAny_comprehension_free (use := some (assign (.Name x pos') X.env)) rfl hs hcl S.kind S.names (thn (hi pins s Z H _ I hw) fun v s1 h1 => thn h1 fun itv s2 h2 => ?_)
 obtain ⟨it, fp, tn, J, H2, e, I2, T, st2, f2, hR⟩ := h2
 subst e
 have hacc : H2 s2.heap.objs.size = none := I2.hok.fresh (Nat.le_refl _)
 refine wpAny_newObj_type (wpAny_newFunctionEnv S.nocell (by intro y hy; simp at hy) (fun hJ hns1 hsb1 => ?_) S.kind)
 dsimp only at hns1 hsb1 |-
 have I3 : Inv X pins Z (upd H2 s2.heap.objs.size (.lst [])) { s2 with heap := s2.heap.push { cls := .type "list", dict := none, data := .seq ([] : List Value).toArray } } :=
  I2.lnew (t' := s2.toks) (its := []) .nil (Nat.zero_le _)
 generalize hs3 : ({ s2 with heap := s2.heap.push { cls := .type "list", dict := none, data := .seq ([] : List Value).toArray } } : Shared) = s3 at I3
 have hh3 : s2.heap.push { cls := .type "list", dict := none, data := .seq ([] : List Value).toArray } = s3.heap := by rw [<- hs3]
 rw [hh3] at hns1 hsb1
 have old : ∀ b o, s3.heap.get? b = some o -> hJ.get? b = some o := fun b o q => hsb1.extBut b o (Nat.ne_of_lt (Heap.lt_size q)) (Heap.get?_push_of_some _ q)
 have objs2 : ∀ b ∈ fp, ∃ o, s2.heap.get? b = some o := fun b hb => by
  obtain ⟨o, q, _⟩ := T.obj 0 _ st2 b hb
  exact ⟨o, q⟩
 have keep23 : ∀ b o, s2.heap.get? b = some o -> s3.heap.get? b = some o := fun b o q => by rw [<- hh3]; exact Heap.get?_push_of_some _ q
 have fpne : ∀ b ∈ fp, b ≠ s2.heap.objs.size := fun b hb => by
  obtain ⟨o, q⟩ := objs2 b hb
  exact Nat.ne_of_lt (Heap.lt_size q)
 have f3 : ∀ b ∈ fp, qdI X pins (upd H2 s2.heap.objs.size (.lst [])) b := fun b hb => ⟨by rw [qv (fpne b hb)]; exact (f2 b hb).1, (f2 b hb).2⟩
 have J0 : Inv (zD X scope N' fp cl s3.heap.objs.size s3 (upd H2 s2.heap.objs.size (.lst [])) (X.pn ++ pins)) [] (qJ nt fr Z) (upd H2 s2.heap.objs.size (.lst [])) { s3 with heap := hJ, toks := s3.toks } :=
  qbO S I3 f3 (fun b hb => (objs2 b hb).imp fun o q => keep23 b o q) cl1 cl2 ⟨_, hns1⟩ old
 obtain ⟨g, tt, te, hg, hf, he, W, ⟨m0, w0⟩, turn⟩ := hR s2.heap.objs.size fp cl s3.heap.objs.size s3 (upd H2 s2.heap.objs.size (.lst [])) (X.pn ++ pins) hacc
 have T0 : tn 0 hJ := T.keep 0 _ _ st2 fun b hb o q => old b o (keep23 b o q)
 have s3e : ∀ tk : Nat, ({ s2 with heap := hJ, toks := tk } : Shared) = { s3 with heap := hJ, toks := tk } := fun tk => by rw [<- hs3]
 have loop : ∀ tk : Nat, codeAny (model X.prog X.w) X.A (.compLoop (.ListComp elt [⟨tg, iter, ifs, 0⟩] scope pos) 0 (.ref it) (.ref s2.heap.objs.size) (compEnvC scope cl s3.heap.objs.size X.env))
   (compPost (model X.prog X.w) X.A X.xe (some (assign (.Name x pos') X.env)) (fun _ s' => SP X pins D .next s') (.ref s2.heap.objs.size) s3.heap.objs.size) { s3 with heap := hJ, toks := tk } := fun tk => by
  have stat : ∀ {H' : Hp}, (∀ b ∈ fp, H' b = none) -> ∀ b ∈ fp, qdI (zD X scope N' fp cl s3.heap.objs.size s3 (upd H2 s2.heap.objs.size (.lst [])) (X.pn ++ pins)) [] H' b := fun {H'} hn b hb => by
   obtain ⟨o, q⟩ := objs2 b hb
   have hbC : b ≠ s3.heap.objs.size := Nat.ne_of_lt (Heap.lt_size (keep23 b o q))
   refine ⟨hn b hb, hbC, fun z => ?_, .inl hb, fun x c hx => (f2 b hb).2.2.2.2.1 x c (cl1 x c hx), fun p hp => ?_⟩
   ·rcases List.mem_cons.mp (I2.stkSub b z) with z | z
    ·exact (f2 b hb).2.1 z
    ·exact (f2 b hb).2.2.1 z
   ·have hp' : p ∈ X.pn ++ pins := by
     rcases mA_.mp (show p ∈ (X.pn ++ pins) ++ [] from hp) with z | z
     ·exact z
     ·cases z
    exact (f2 b hb).2.2.2.2.2 p hp'
  have fr0 : ∀ b ∈ fp, upd H2 s2.heap.objs.size (.lst []) b = none := fun b hb => (f3 b hb).1
  refine qba (fun n s' => ∃ i Z' H', Inv (zD X scope N' fp cl s3.heap.objs.size s3 (upd H2 s2.heap.objs.size (.lst [])) (X.pn ++ pins)) [] Z' H' s' /\ tn i s'.heap /\ (∀ b ∈ fp, H' b = none) /\ W i n Z' H') ?_ m0
   ⟨0, qJ nt fr Z, _, J0.tok tk, T0, fr0, w0⟩
  rintro n s4 ⟨i, Z4, H4, J4, st4, fr4, w4⟩
  rcases turn i n Z4 H4 w4 with ⟨stop, qn⟩ | ⟨go, step⟩
  ·refine thn (T.done (zD X scope N' fp cl s3.heap.objs.size s3 (upd H2 s2.heap.objs.size (.lst [])) (X.pn ++ pins)) rfl rfl rfl hc i [] s4 Z4 H4 _ J4 (stat fr4) st4 stop) fun r s5 ⟨hr, J5⟩ => ?_
   subst hr
   obtain ⟨m5, n5, _⟩ := J5.loc
   have I5 : Inv X pins Z H4 s5 := qex I3 f3 J5 (Heap.SameBut.refl ..)
   have lC : X.env.locals ≠ s3.heap.objs.size := Nat.ne_of_lt I3.lt
   have cC : ∀ y c, X.env.cells.lookup y = some c -> c ≠ s3.heap.objs.size := fun y c hy => by
    obtain ⟨v, o, ho, _⟩ := I3.cell y c hy
    exact Nat.ne_of_lt (Heap.lt_size ho)
   have pC : ∀ p ∈ X.pn ++ pins, p.1 ≠ s3.heap.objs.size := fun p hp => Nat.ne_of_lt (Heap.lt_size (I3.pin p hp).1)
   refine wpAny_assign_Name (qcM (v := .ref s2.heap.objs.size) I5 hN hix hx rfl (fun s'' I6 ⟨a, sb, ha⟩ => ?_) hfx)
   have aC : s3.heap.objs.size ≠ a := by
    rcases ha with rfl | ha
    ·exact lC.symm
    ·exact (cC _ _ ha).symm
   exact ⟨m5, n5.sameBut sb aC, fun h' sb' => ⟨_, H4, I6.turned (t' := s''.toks) (fun b o hb q => (sb'.2 b hb).trans q) J5.free lC.symm (.inr I3.sz) cC pC, qn⟩⟩
  ·refine thn (T.item (zD X scope N' fp cl s3.heap.objs.size s3 (upd H2 s2.heap.objs.size (.lst [])) (X.pn ++ pins)) rfl rfl rfl hc i [] s4 Z4 H4 _ J4 (stat fr4) st4 go) fun r s5 ⟨u, hr, h5⟩ => ?_
   subst hr
   refine thn h5 fun _ s6 ⟨x, H6, J6, r6, y6, st6, fr6⟩ => ?_
   have J6' := J6.pinned (stat fr6) (T.obj _ _ st6)
   have again : ∀ {Z7 : St} {H7 : Hp} {s7 : Shared}, Inv (zD X scope N' fp cl s3.heap.objs.size s3 (upd H2 s2.heap.objs.size (.lst [])) (X.pn ++ pins)) ([] ++ qbL fp s6.heap) Z7 H7 s7 -> (∃ m', m' < n /\ W (i + 1) m' Z7 H7) ->
     ∃ m, m < n /\ ∃ i Z' H', Inv (zD X scope N' fp cl s3.heap.objs.size s3 (upd H2 s2.heap.objs.size (.lst [])) (X.pn ++ pins)) [] Z' H' s7 /\ tn i s7.heap /\ (∀ b ∈ fp, H' b = none) /\ W i m Z' H' := fun {Z7 H7 s7} I7 hm => by
    obtain ⟨m', hm, w7⟩ := hm
    refine ⟨m', hm, i + 1, Z7, H7, I7.unpinned, T.keep _ _ _ st6 fun b hb o q => (I7.pin (b, o) (mr_ _ (mr_ _ (yF hb q)))).1, fun b hb => ?_, w7⟩
    obtain ⟨o, q, d⟩ := T.obj _ _ st6 b hb
    exact (I7.pin (b, o) (mr_ _ (mr_ _ (yF hb q)))).2.1
   refine thn (hg _ s6 Z4 H6 x u _ J6' r6 (step x H6 y6)) fun _ s7 ⟨Z7, H7, J7, q7⟩ => ?_
   refine thn (hf _ s7 Z7 H7 _ J7 q7) fun ok s8 ⟨H8, J8, q8⟩ => ?_
   cases ok with
   | false =>
    rw [if_neg Bool.false_ne_true] at q8 |-
    exact again J8 q8
   | true =>
    rw [if_pos rfl] at q8 |-
    refine thn (he _ s8 Z7 H8 _ J8 q8) fun z s9 ⟨y, H9, J9, r9, ys, hys, hz, hm⟩ => ?_
    refine thn (qa0 _ s9 Z7 H9 (.ref s2.heap.objs.size) [y] (.ref s2.heap.objs.size) [z] (fun _ H' => H' = upd H9 s2.heap.objs.size (.lst (ys ++ [y]))) J9 rfl (.cons r9 .nil) ⟨_, ys, y, rfl, rfl, hys, hz, rfl⟩) fun _ s10 ⟨_, H10, J10, _, e10⟩ => ?_
    subst e10
    exact again J10 hm
 have z4 : ∀ tk : Nat, codeAny (model X.prog X.w) X.A (.compStart (.ListComp elt [⟨tg, iter, ifs, 0⟩] scope pos) 0 (.ref it) (.ref s2.heap.objs.size) (compEnvC scope cl s3.heap.objs.size X.env))
   (compPost (model X.prog X.w) X.A X.xe (some (assign (.Name x pos') X.env)) (fun _ s' => SP X pins D .next s') (.ref s2.heap.objs.size) s3.heap.objs.size) { s3 with heap := hJ, toks := tk } := fun tk =>
  codeAny_compStart_list (loop tk) (T.self X.A 0 _ _ _ T0 (loop tk))
 have fin := z4 (s2.toks + ([] : List (Str × Value)).length)
 rw [<- s3e] at fin
 rw [<- hh3] at fin
 rw [hh3] at fin |-
 exact fin
end
section
variable {X : Cx} {c : Fc}
def DC (X : Cx) (c : Fc) (tg it elt : Expr) (ifs : List Expr) (scope : Scope) (N' : List Str) (nt : Nat) (fr : List Nat) (f : M D) : Prop := ∃ wi, PI X tg it wi /\ ∀ U Z H Q, Rep X.K c U Z H -> Wp X.K c Z H Q (f U) -> qj0 X tg ifs elt scope N' wi nt fr Z H Q
theorem qko {it elt tg : Expr} {ifs : List Expr} {scope : Scope} {N' : List Str} {nt : Nat} {fr : List Nat} {fo : Option (Nat × Nat)} {f : M (List D)} {g : D -> Env -> Option Env} {t : M Bool} {k : M D} (hc : X.calm = true) (hi : DI X c tg it f) (S : CompScope X scope N' nt fr)
  (hfo : qj2 c nt fr fo)
  (hb : ∀ fp cl C s₀ H₀ pn B0 H1 Io' acc S', DG (zD X scope N' fp cl C s₀ H₀ pn) (cin B0 H1 (foO fo) Io' acc S') tg g /\ DF (zD X scope N' fp cl C s₀ H₀ pn) (cin B0 H1 (foO fo) Io' acc S') ifs t /\ DE (zD X scope N' fp cl C s₀ H₀ pn) (cin B0 H1 (foO fo) Io' acc S') elt k)
  : DC X c tg it elt ifs scope N' nt fr (yX nt fr fo f g t k) := by
 obtain ⟨wi, pi, wI⟩ := hi
 refine ⟨wi, pi, fun U Z H Q r h => wI U Z H _ r (WpI.bnd h fun ds U1 J H1 r1 iok g1 h1 => ?_)⟩
 intro acc fp cl C s₀ H₀ pn hn
 obtain ⟨⟨tg', pg, wg⟩, ⟨tt, pt, wt⟩, ⟨te, pe, we⟩⟩ := hb fp cl C s₀ H₀ pn (Cn c Z) H1 (qcL Z fo) acc fun j => (qJ nt fr Z)[j]?
 refine ⟨tg', tt, te, pg, pt, pe, ?_⟩
 cases ew : zt g t k ds [] (jP nt fr U1) with
 | exc x U' => rw [ew] at h1; exact h1.elim
 | bad => rw [ew] at h1; exact h1.elim
 | ok p =>
  rw [ew] at h1
  obtain ⟨ys, Ue⟩ := p
  have h1 : ∀ v H', Rep X.K c (qlb fo Ue U1) Z H' -> Is X.K (Cn c Z) H' (.lst ys) v -> Gr c.O Z H1 H' -> Q v H' := h1
  have accO : ∀ j ∈ foO fo, (qJ nt fr Z)[j]? ≠ some (some (.ref acc)) := fun j hj e => by
   have r0 := r1.entry (acc := acc) hn hfo
   cases fo with
   | none => cases hj
   | some p =>
    obtain ⟨i', j'⟩ := p
    have e2 : j = i' := by simpa [foO] using hj
    subst e2
    obtain ⟨k2, j2, e1, e2, e3⟩ := yG e
    have hk2 : k2 = j - nt := by omega
    subst hk2
    rw [hfo.2.2.1] at e2
    cases e2
    obtain ⟨a, us, e4, e5, _⟩ := r1.own j' hfo.1 _ e3
    cases e4; rw [hn] at e5; cases e5
  refine ⟨fun i m Z' H' => m = ds.length - i /\ i <= ds.length /\ ∃ U' zs xs, Rep X.K (cin (Cn c Z) H1 (foO fo) (qcL Z fo) acc fun j => (qJ nt fr Z)[j]?) U' Z' H' /\ (∀ j ∈ foO fo, Z'[j]? = (qJ nt fr Z)[j]?) /\ H' acc = some (.lst xs) /\ IsL X.K (Cn (cin (Cn c Z) H1 (foO fo) (qcL Z fo) acc fun j => (qJ nt fr Z)[j]?) Z') H' zs xs /\ zt g t k (ds.drop i) zs U' = .ok (ys, Ue),
   ⟨ds.length, by simp, Nat.zero_le _, jP nt fr U1, [], [], r1.entry hn hfo, fun _ _ => rfl, qw, rfl, by simpa using ew⟩, ?_⟩
  rintro i m Z' H' ⟨rfl, hi, U', zs, xs, r', so, ha, iz, w⟩
  obtain ⟨_, gr⟩ := r1.leave hn hfo (fun i j e => so i (by rw [e]; simp [foO])) r'
  have ex : Ext (CnT c Z H1) H1 H' := ⟨gr.ext.tup, gr.ext.frz, fun b o hb hq => gr.ext.at_ b o hb.1.2 hq⟩
  have accC : ∀ τ : St, (∀ j ∈ foO fo, τ[j]? = (qJ nt fr Z)[j]?) -> Cl (foO fo) τ acc := fun τ hτ j hj e => accO j hj (by rw [<- hτ j hj]; exact e)
  by_cases hlt : i < ds.length
  ·refine .inr ⟨iok.go H' i ds[i] ex (by simp [hlt]), fun x H'' y => ?_⟩
   obtain ⟨sm, ix⟩ := iok.yl H' i ds[i] x H'' ex (by simp [hlt]) y
   rw [w8 hlt] at w
   unfold zt at w
   have ix2 : Is X.K (Cn (cin (Cn c Z) H1 (foO fo) (qcL Z fo) acc fun j => (qJ nt fr Z)[j]?) Z') H'' ds[i] x := Is.ext Ext.refl (fun a ha _ => ⟨⟨ha.1, fun e => by
    have := ha.2
    rw [e, hn] at this; cases this⟩, fun j hj e => by
     rw [so j hj] at e
     cases fo with
     | none => cases hj
     | some p =>
      obtain ⟨i', j'⟩ := p
      have e2 : j = i' := by simpa [foO, cin] using hj
      subst e2
      obtain ⟨k2, j2, e1, e2, e3⟩ := yG e
      have hk2 : k2 = j - nt := by omega
      subst hk2
      rw [hfo.2.2.1] at e2
      cases e2
      exact ha.1.2 j' hfo.1 e3⟩) ix
   cases e1 : g ds[i] U' with
   | none => simp only [e1] at w; cases w
   | some U2 =>
    simp only [e1] at w
    refine wg U' Z' H'' ds[i] x U2 _ (r'.same sm) ix2 e1 fun Z2 r2 g2 o2 => ?_
    have so2 : ∀ j ∈ foO fo, Z2[j]? = (qJ nt fr Z)[j]? := fun j hj => (o2 j hj).trans (so j hj)
    have ha2 : H'' acc = some (.lst xs) := sm _ _ ha
    have iz2 := g2.isL (IsL.ext (Ext.of_same sm) (fun _ h _ => h) iz)
    cases e2 : t U2 with
    | exc x U3 => simp only [e2] at w; cases w
    | bad => simp only [e2] at w; cases w
    | ok p2 =>
     obtain ⟨bb, U3⟩ := p2
     refine wt U2 Z2 H'' _ r2 ?_
     rw [e2]
     intro H3 r3 g3
     have ha3 : H3 acc = some (.lst xs) := g3.ext.at_ _ _ (accC Z2 so2) ha2
     have iz3 := g3.isL iz2
     cases bb with
     | false =>
      rw [if_neg Bool.false_ne_true]
      simp only [e2] at w
      exact ⟨ds.length - (i + 1), by omega, rfl, hlt, U3, zs, xs, r3, so2, ha3, iz3, w⟩
     | true =>
      rw [if_pos rfl]
      simp only [e2] at w
      cases e3 : k U3 with
      | exc x U4 => simp only [e3] at w; cases w
      | bad => simp only [e3] at w; cases w
      | ok p3 =>
       obtain ⟨d4, U4⟩ := p3
       simp only [e3] at w
       refine we U3 Z2 H3 _ r3 ?_
       rw [e3]
       intro y4 H4 r4 i4 g4
       have ha4 : H4 acc = some (.lst xs) := g4.ext.at_ _ _ (accC Z2 so2) ha3
       have hsz : qO (zs.length + 1) = true := by
        cases e5 : qO (zs.length + 1) with
        | true => rfl
        | false => rw [e5] at w; simp at w
       rw [if_pos hsz] at w
       have hsz' : zs.length + 1 <= sizeLine := of_decide_eq_true hsz
       have r5 := r4.grow (ys := xs ++ [y4]) ha4 (fun j hj e => accC Z2 so2 j hj e)
       have ext5 : Ext (Cn (cin (Cn c Z) H1 (foO fo) (qcL Z fo) acc fun j => (qJ nt fr Z)[j]?) Z2) H4 (upd H4 acc (.lst (xs ++ [y4]))) := ⟨fun b us hb => by rw [qv (wB hb ha4 (by intro z; cases z))]; exact hb, fun b o u hb => by rw [qv (wB hb ha4 (by intro z; cases z))]; exact hb, fun b o hb hq => by rw [qv hb.1.2]; exact hq⟩
       refine ⟨xs, ha4, by rw [iz3.length]; omega, ds.length - (i + 1), by omega, rfl, hlt, U4, zs ++ [d4], xs ++ [y4], r5, so2, qw, ?_, w⟩
       exact IsL.append (IsL.ext ext5 (fun _ h _ => h) (g4.isL iz3)) (IsL.one (Is.ext ext5 (fun _ h _ => h) i4))
  ·have hie : i = ds.length := by omega
   subst hie
   rw [List.drop_of_length_le (Nat.le_refl _)] at w
   unfold zt at w
   cases w
   obtain ⟨r6, g6⟩ := r1.leave hn hfo (fun i j e => so i (by rw [e]; simp [foO])) r'
   exact .inl ⟨iok.stop H' ex, h1 _ H' r6 ⟨acc, xs, rfl, r1.new hn, ha, IsL.ext Ext.refl (fun a ha hs => ha.1.1) iz⟩ g6⟩
theorem qkp {i : Nat} {x : Str} {pos' spos pos : Pos} {tg it elt : Expr} {ifs : List Expr} {scope : Scope} {N' : List Str} {nt : Nat} {fr : List Nat} {f : M D} (hN : X.N.Nodup) (h : DC X c tg it elt ifs scope N' nt fr f) (hc : X.calm = true) (S : CompScope X scope N' nt fr)
  (ho : i ∉ c.O := by exact of_decide_eq_false rfl) (hix : X.N[i]? = some x := by rfl) (hx : Loc X.env.scope x := by first | exact Or.inl rfl | exact Or.inr rfl) (hfx : X.fn x = true \/ X.env.scope.names.lookup x = some .local := by first | exact .inl rfl | exact .inr rfl | assumption)
  (hsw : swapsWith (.ListComp elt [⟨tg, it, ifs, 0⟩] scope pos) (some (.Name x pos')) spos.line X.env = pure true := by rfl) (hs : ∀ x, foldedSetIterable it X.env x = pure x := by intro _; rfl) :
  DS X c (.Assign [.Name x pos'] (.ListComp elt [⟨tg, it, ifs, 0⟩] scope pos) spos) (zM i f) := by
 obtain ⟨wi, pi, w⟩ := h
 refine ⟨_, qkn hN hix hx hfx hc pi S hsw hs, fun U Z H D r h => w U Z H _ r (Wp.sbnd h fun d U1 v H1 r1 i1 g1 h1 => ?_)⟩
 exact h1 _ H1 (r1.set ho i1) (.set ho)
end
def qgH : List Int -> Int
 | [] => 0
 | [n] => n
 | n :: m :: ns => max n (qgH (m :: ns))
theorem qeG : ∀ (n : Int) (ns : List Int), qgH (n :: ns) ∈ n :: ns
 | n, [] => mS_
 | n, m :: ns => by
  have h := qeG m ns
  show max n (qgH (m :: ns)) ∈ _
  rw [Int.max_def]
  split
  ·exact mM _ h
  ·exact mS_
theorem qgI : ∀ (n : Int) (ns : List Int), ∀ k ∈ n :: ns, k <= qgH (n :: ns)
 | n, [] => fun k hk => by
  have : k = n := by simpa using hk
  rw [this]; exact Int.le_refl _
 | n, m :: ns => fun k hk => by
  have h := qgI m ns
  show k <= max n (qgH (m :: ns))
  rcases List.mem_cons.mp hk with rfl | hk
  ·exact Int.le_max_left ..
  ·exact Int.le_trans (h k hk) (Int.le_max_right ..)
theorem qgJ {ns : List Int} {z : Int} (h1 : z ∈ ns) (h2 : ∀ n ∈ ns, n <= z) : qgH ns = z := by
 cases ns with
 | nil => cases h1
 | cons n ns => exact Int.le_antisymm (h2 _ (qeG n ns)) (qgI n ns z h1)
theorem qde {zs : Array (Int × Tok)} {i : Nat} (h : i < zs.size) : (zs.toList.map (·.1))[i]? = some (numAt zs i) := by
 have h' : i < zs.toList.length := by simpa using h
 rw [gM_, gG h']
 simp [numAt, h]
section
variable {X : Cx}
theorem qdf (hc : X.calm = true) : ut X (.builtin "max") (fun xs H Q => ∃ (p : Addr) (ns : List Int), xs = [.ref p] /\ H p = some (.lst (ns.map V.int)) /\ ns ≠ [] /\ Q (.int (qgH ns)) H) := by
 intro pins s Z H xs us Q I r h
 obtain ⟨p, ns, rfl, hp, hne, q⟩ := h
 obtain ⟨u, rfl, ru⟩ := zg.one r
 cases ru
 obtain ⟨its, rv, pl, hz⟩ := I.list (SqL.of hp)
 have hl := pl.isList
 have hi : IntsAre its ns := qbM rv
 obtain ⟨zs, hx⟩ := hi.allInts.items
 have hl' : s.heap.IsList p (intItems zs) := hx ▸ hl
 have e1 : ns = zs.toList.map (·.1) := by
  rw [<- nums_intItems, <- hx]
  exact (show numsOf its.toArray.toList = ns from hi.numsOf).symm
 have hsz : 0 < zs.size := by
  cases hzz : zs.toList with
  | nil => rw [hzz] at e1; exact absurd e1 hne
  | cons a b =>
   have : zs.size = zs.toList.length := by simp
   rw [this, hzz]; simp
 refine max_intList (I.ok.hd hc) hl' hsz fun v h' tk hv hk => ?_
 obtain ⟨t, rfl⟩ := intItems_at hv
 obtain ⟨b1, b2⟩ := argBest_gt (numAt zs) (zs.size - 1)
 have e2 : qgH ns = numAt zs (argBest (fun i j => decide (numAt zs i > numAt zs j)) (zs.size - 1)) := by
  refine qgJ ?_ fun n hn => ?_
  ·rw [e1]
   exact List.mem_of_getElem? (qde (by omega))
  ·rw [e1] at hn
   obtain ⟨j, hj⟩ := List.mem_iff_getElem?.mp hn
   have hj2 : j < zs.size := by
    have := (gI_.mp hj).1
    simpa using this
   rw [qde hj2] at hj
   cases hj
   exact b2 j (by omega)
 rw [<- e2]
 exact ⟨.int _, H, I.kept hk, ⟨_, rfl⟩, q⟩
end
def qfq : List D -> Option D
 | [.lst ds] => match wF ds with
  | some (n :: ns) => some (.int (qgH (n :: ns)))
  | _ => none
 | _ => none
theorem qbS {K : Fr0} : qaF K qfq (fun xs H Q => ∃ (p : Addr) (ns : List Int), xs = [.ref p] /\ H p = some (.lst (ns.map V.int)) /\ ns ≠ [] /\ Q (.int (qgH ns)) H) := by
 intro A H xs d vs Q hn h e k
 unfold qfq at e
 split at e
 ·obtain ⟨v, rfl, a, zs, rfl, _, ta, il⟩ := IsL.inv1 h
  split at e
  ·rename_i n ns hi
   cases e
   rw [w5 il hi] at ta
   exact ⟨a, n :: ns, rfl, ta, by simp, k _ H (jm.refl H) rfl⟩
  ·cases e
 ·cases e
def yq (t : M Bool) (b : MS) : Nat -> MS
 | 0, _ => .bad
 | n + 1, U => match t U with
  | .ok (true, U1) => match b U1 with
   | .ok (.nx U2) => yq t b n U2
   | .ok (.ct U2) => yq t b n U2
   | .ok (.bk U2) => .ok (.nx U2)
   | .ok (.rt d U2) => .ok (.rt d U2)
   | .exc x U2 => .exc x U2
   | .bad => .bad
  | .ok (false, U1) => .ok (.nx U1)
  | .exc x U1 => .exc x U1
  | .bad => .bad
open Classical in
noncomputable def qbj (t : M Bool) (b : MS) : MS := fun U => if h : ∃ n, yq t b n U ≠ .bad then yq t b h.choose U else .bad
theorem vO {t : M Bool} {b : MS} : ∀ {n : Nat} {U : Env} (k : Nat), yq t b n U ≠ .bad -> yq t b (n + k) U = yq t b n U
 | 0, U, k, h => absurd rfl h
 | n + 1, U, k, h => by
  have e : n + 1 + k = (n + k) + 1 := by omega
  rw [e]
  unfold yq at h |-
  cases et : t U with
  | ok p =>
   obtain ⟨v, U1⟩ := p
   rw [et] at h
   cases v with
   | false => rfl
   | true =>
    dsimp only at h |-
    cases eb : b U1 with
    | ok fl =>
     rw [eb] at h
     cases fl with
     | nx U2 => exact vO k h
     | ct U2 => exact vO k h
     | bk U2 => rfl
     | rt d U2 => rfl
    | exc x U2 => rfl
    | bad => rfl
  | exc x U1 => rfl
  | bad => rfl
theorem qdg {t : M Bool} {b : MS} {n : Nat} {U : Env} {r : R Fl} (h : yq t b n U = r) (hb : r ≠ .bad) : qbj t b U = r := by
 have hx : ∃ n, yq t b n U ≠ .bad := ⟨n, by rw [h]; exact hb⟩
 unfold qbj
 rw [dif_pos hx]
 have hc := hx.choose_spec
 generalize hx.choose = m at hc
 rcases Nat.le_total m n with hl | hl
 ·obtain ⟨k, rfl⟩ := Nat.exists_eq_add_of_le hl
  rw [<- vO k hc]; exact h
 ·obtain ⟨k, rfl⟩ := Nat.exists_eq_add_of_le hl
  rw [vO k (by rw [h]; exact hb)]; exact h
theorem qfr {t : M Bool} {b : MS} {U : Env} : ∃ n, qbj t b U = yq t b n U := by
 unfold qbj
 split
 ·exact ⟨_, rfl⟩
 ·exact ⟨0, rfl⟩
section
variable {X : Cx} {c : Fc} {pos : Pos}
theorem qeH {e : Expr} {body : List Stmt} {t : M Bool} {b : MS} (hp : PassesOwn (model X.prog X.w) X.A X.env X.xe) (ht : DT X c e t) (hb : DSs X c body b) : DS X c (.While e body [] pos) (qbj t b) := by
 obtain ⟨tc, pc, wc⟩ := ht
 obtain ⟨tb, pb, wb⟩ := hb
 refine ⟨_, qhD hp pc pb, fun U Z H D' r h => ?_⟩
 obtain ⟨n, en⟩ := qfr (t := t) (b := b) (U := U)
 rw [en] at h
 refine ⟨fun m Z' H' => ∃ U', Rep X.K c U' Z' H' /\ WpS X.K c Z' H' D' (yq t b m U'), ⟨n, U, r, h⟩, ?_⟩
 rintro m Z' H' ⟨U', r', w⟩
 cases m with
 | zero => exact w.elim
 | succ m =>
  unfold yq at w
  refine wc U' Z' H' _ r' ?_
  cases et : t U' with
  | bad => rw [et] at w; exact w
  | exc x U1 => rw [et] at w; exact fun H1 r1 g1 => w Z' H1 r1 g1.s
  | ok p =>
   obtain ⟨v, U1⟩ := p
   rw [et] at w
   intro H1 r1 g1
   cases v with
   | false =>
    rw [if_neg Bool.false_ne_true]
    exact w Z' H1 r1 g1.s
   | true =>
    rw [if_pos rfl]
    dsimp only at w
    refine ⟨fun Z2 H2 => ∃ U2, Rep X.K c U2 Z2 H2 /\ WpS X.K c Z2 H2 D' (yq t b m U2), fun Z2 H2 q => ⟨m, Nat.lt_succ_self m, q⟩, wb U1 Z' H1 _ r1 ?_⟩
    have w2 := w.gr g1.s
    cases e2 : b U1 with
    | ok fl =>
     cases fl with
     | nx U3 => simp only [e2] at w2; exact fun Z3 H3 r3 g3 => ⟨U3, r3, w2.gr g3⟩
     | ct U3 => simp only [e2] at w2; exact fun Z3 H3 r3 g3 => ⟨U3, r3, w2.gr g3⟩
     | bk U3 => simp only [e2] at w2; exact w2
     | rt d U3 => simp only [e2] at w2; exact w2
    | exc x U3 => simp only [e2] at w2; exact w2
    | bad => simp only [e2] at w2; exact w2
end
def qlc (K : Fr0) (a : Addr) (ns : List Int) : Prop := ∃ (o : Obj) (its : Array Value) (n : Nat), K.lookup a = some o /\ o.cls = .type "tuple" /\ o.data = .seq its n /\ its.size <= sizeLine /\ zg (ns.map V.int) its.toList
theorem qlc.is {K : Fr0} {a : Addr} {ns : List Int} (h : qlc K a ns) (H : Hp) (A : Addr -> Prop) : Is K A H (.tup (ns.map .int)) (.ref a) := ⟨a, _, rfl, .inr h, qb8 ns⟩
theorem qh4 {X : Cx} {c : Fc} {x : Str} {a : Addr} {ns : List Int} {pos : Pos} (hg : Gl X x) (hm : X.mg x = some (.ref a)) (ht : qlc X.K a ns) (hdb : (x == ("__debug__" : Str)) = false := by decide) : DE X c (.Name x pos) (ret (.tup (ns.map .int))) :=
 qf9 (v := .ref a) hg hm rfl (fun H A => ht.is H A) hdb
theorem qnP {K : Fr0} {a : Addr} {od : Option Addr} {its : Array Value} {n : Nat} {sl : Array (Option Value)} {i j : Int} {t u : Tok} (h : K.lookup a = some ⟨.type "tuple", od, .seq its n, sl⟩) (e : its.toList = [.int i t, .int j u]) : qlc K a [i, j] :=
 ⟨_, its, n, h, rfl, rfl, by
  have : its.size = 2 := by rw [<- Array.length_toList, e]; rfl
  rw [this]; decide, by rw [e]; exact .cons ⟨t, rfl⟩ (.cons ⟨u, rfl⟩ .nil)⟩
def qnQ (h : Heap) (e T : Addr) (cls : Value) : Prop :=
 ∃ oe vs oT ts a0, h.get? e = some oe /\ (oe.cls = cls /\ vs[2]? = some .none /\ vs[0]? = some a0) /\ oe.data = .fields vs /\ vs[1]? = some (.ref T) /\ T ≠ e /\ h.get? T = some oT /\ oT.data = .fields ts /\ ts[3]? = some .none
def CX1 (P : Program) (w : World) : CXT := fun outer H s E u s' => ∃ e T C H', u = .ref e /\ s'.os = s.os /\ AllBare s'.gens /\ Un (frs outer) [] H H' s.heap s'.heap /\ HOk P w H' s'.heap /\
 s.heap.get? e = none /\ s.heap.get? T = none /\ H' e = none /\ H' T = none /\ qnQ s'.heap e T (.ref C) /\ E (.ref C) none H'
structure Lft (h h' : Heap) (ch fs : List Addr) : Prop where
 keep : ∀ b o, b ∉ ch -> b ∉ fs -> h.get? b = some o -> h'.get? b = some o
 slot : ∀ b o, b ∈ fs -> h.get? b = some o -> ∃ sl, h'.get? b = some { o with slots := sl }
section
variable {M : Model} {A : Around} {E : Value -> Shared -> Prop} {s : Shared}
end
section
variable {X : Cx} {pins : List (Addr × Obj)} {Z : St} {H : Hp} {s : Shared}
end
structure XC (base : Heap) (C : Addr) (bm : List Value) : Prop where
 hasBase : bm.contains (.type "BaseException") = true
 ex : ∃ nm q N bs hdct sn sub ab col dd k0 k1 k2 k3 k5 newId initId B bmB mN, base.get? C = some (excClassObj nm q C N bs bm hdct sn sub ab col dd k0 k1 k2 k3 k5 newId) /\ base.Ns N mN /\ mN "__init__" = none /\ OwnTail base bmB bm /\ ExcBaseFacts B newId initId bmB
section
variable {X : Cx} {c : Fc} {e : Expr} {es : List Expr} {pos cpos np : Pos}
structure XL (X : Cx) (c : Fc) (cl : Str -> Option Addr) (E : XK) : Prop where
 made : ∀ C pins Z H s h' a us, Inv X pins Z H s -> Heap.MadeExcOf s.heap h' a (.ref C) us -> E (.ref C) none H -> X.xe (.ref a) { s with heap := h' }
 pass : qaY (CX1 X.prog X.w) X E
 wish : ∀ x C H', cl x.cls = some C -> c.E x H' -> E (.ref C) none H'
structure XL2 (X : Cx) (c : Fc) (cl : Str -> Option Addr) (E : XK) : Prop where
 pass : qaY (CX1 X.prog X.w) X E
 wish : ∀ x C H', cl x.cls = some C -> c.E x H' -> E (.ref C) none H'
theorem XL.two {X : Cx} {c : Fc} {cl : Str -> Option Addr} {E : XK} (L : XL X c cl E) : XL2 X c cl E := ⟨L.pass, L.wish⟩
def qms (x : Str) (f : M (List D)) : MS := fun U => match f U with
 | .ok (ds, U') => if qO ds.length then .exc ⟨x, .non⟩ U' else .bad
 | .exc z U' => .exc z U'
 | .bad => .bad
def spX (K : Fr0) (cl : Str -> Option Addr) (F : List D -> R D) : Sp := fun vs H Q E => ∃ ds A, IsL K A H ds vs /\ qf8 K H /\ match F ds with
 | .ok d => ∀ v H', jm H H' -> Is K (fun a => A a \/ H a = none) H' d v -> Q v H'
 | .exc x _ => ∃ C, cl x.cls = some C /\ ∀ H', jm H H' -> E (.ref C) none H'
 | .bad => False
def qjd (RN : List Str) (F : List D -> R D) (g : M (List D)) : M D := bnd g fun ds U => match F ds with
 | .ok d => .ok (d, U)
 | .exc x _ => if RN.contains x.cls then .exc x U else .bad
 | .bad => .bad
def qeI (F : List D -> R D) (g : M (List D)) : M D := bnd g fun ds U => match F ds with
 | .ok d => .ok (d, U)
 | _ => .bad
theorem qh5 {k : Nat} {f : Addr} {fd : FuncData} {ps : List Str} {F : List D -> R D} {x : Str} {p : Pos} {g : M (List D)} {cl : Str -> Option Addr}
  (G : qbA X.prog X.w X.K X.mg X.base (CX1 X.prog X.w) k f fd ps (spX X.K cl F)) (hr : vn k X.A) (hg : Gl X x) (hm : X.mg x = some (.ref f)) (hk : PySem.W.keepIn X.K (.ref f) = true) (hb : wj X.K fd ps [])
  (ha : DA X c (e :: es) g) (hd : (x == ("__debug__" : Str)) = false := by decide) (he : starEach (e :: es) X.env = (false, eval e X.env) :: starEach es X.env := by rfl) (hpl : (backTo pos (starEach es X.env)).any (·.1) = false := by rfl) : DE X c (.Call (.Name x p) (e :: es) [] pos) (qeI F g) := by
 obtain ⟨t, pa, w⟩ := ha
 refine ⟨_, qb3 (E := fun _ _ _ => False) G hr hg hm hk hb .nil (fun _ _ _ _ _ _ _ ⟨_, _, _, _, _, _, _, _, _, _, _, _, _, _, z⟩ => z.elim) pa hd he hpl, fun U Z H Q r h => w U Z H _ r (WpL.bnd h fun ds U1 vs H1 r1 i1 g1 h1 => ?_)⟩
 rw [List.append_nil]
 refine ⟨ds, Cn c Z, i1, r1.tb, ?_⟩
 cases ef : F ds with
 | bad => simp only [ef] at h1; exact h1.elim
 | exc z U' => simp only [ef] at h1; exact h1.elim
 | ok d =>
  simp only [ef] at h1
  exact fun v H' sm i => h1 v H' (r1.same sm) (Is.ext Ext.refl (fun a ha _ => ha.elim id r1.new) i) (.of_same sm)
end
section
variable {P : Program} {w : World} {K : PySem.W.Frag} {mg : Str -> Option Value} {base : Heap}
structure qkq (P : Program) (w : World) (K : PySem.W.Frag) (mg : Str -> Option Value) (base : Heap) (k : Nat) (x : Str) (ps : List Str) (sp : Sp) : Prop where
 ex : ∃ f fd, qbA P w K mg base (CX1 P w) k f fd ps sp /\ mg x = some (.ref f) /\ PySem.W.keepIn K (.ref f) = true /\ wj K fd ps []
end
section
variable {M : Model} {A : Around} {E : Value -> Shared -> Prop}
variable {nm q nm' q' : Str} {C S N N' : Addr} {bs bm bs' bm' : List Value} {hdct hdct' : Bool} {sn sn' : List Str} {sub sub' : List Value} {ab ab' : Bool} {col col' : Option Bool} {dd dd' : Option Addr} {k0 k1 k2 k3 k5 j0 j1 j2 j3 j5 : Option Value} {newId newId' : String}
end
end L2.Sk
namespace L2
open PySem PySem.Spec PyProof.Rows
def uE (A : Around) (H : Hp) : Prop := ∃ e oe u vs, A.handled = some (.ref e) /\ H e = some (.frz oe u) /\ oe.data = .fields vs /\ vs[2]? = some .none
def qmt (A : Around) (sp : Sp) (dvs : List V) (E : XK) (t : TA) : TE := fun Z H Q => t Z H fun vs H1 => uE A H1 /\ sp (vs ++ dvs) H1 Q E
structure wo (k : Nat) (A : Around) : Prop where
 dp : A.depth + 3 * k + 5 < recursionLimit
 un : A.units + 16 * k + 200 < cLine
 gd : A.guards = some []
theorem wo.mono {j k : Nat} {A : Around} (r : wo k A) (h : j <= k) : wo j A := ⟨by have := r.dp; omega, by have := r.un; omega, r.gd⟩
theorem wo.deeper {k : Nat} {A : Around} (r : wo (k + 1) A) (env : Env) : wo k (A.deeper env) :=
 ⟨by have := r.dp; show A.depth + 1 + 3 * k + 5 < _; omega, by have := r.un; show A.units + 3 + 16 * k + 200 < _; omega, r.gd⟩
theorem wo.depth {k : Nat} {A : Around} (r : wo k A) : A.depth < recursionLimit := by have := r.dp; omega
structure qh6 (P : Program) (w : World) (K : PySem.W.Frag) (mg : Str -> Option Value) (base : Heap) (CX : CXT) (k : Nat) (f : Addr) (fd : FuncData) (ps : List Str) (sp : Sp) : Prop where
 len : ∀ vs H Q E, sp vs H Q E -> vs.length = ps.length
 run : ∀ (A : Around) (outer : List Env) (s : Shared) (H : Hp) (args : Args) (us : List Value) (vs : List V) (Q : VK) (E : XK), wo k A -> uE A H -> qlI P w K mg base A outer s H -> BindsTo s fd args (ps.zip us) -> zg vs us -> sp vs H Q E ->
  codeAny (model P w) A (.call (.ref f) args) (CR CX outer P w H s Q E) s
section
variable {X : Cx} {CX : CXT} {k : Nat} {f C : Addr} {fd : FuncData} {ps : List Str} {sp : Sp} {dvs : List V} {ds : List Value} {E : XK} {x m : Str} {p pos apos : Pos} {e o : Expr} {es : List Expr} {ta : TE} {t : TA}
theorem qkr {pins : List (Addr × Obj)} {Z : St} {H : Hp} {s : Shared} {Q : VK} {us : List Value} {vs : List V} (F : qh6 X.prog X.w X.K X.mg X.base CX k f fd ps sp) (hr : wo k X.A) (hb : wj X.K fd ps ds) (hd : zg dvs ds) (hx : qaY CX X E)
  (I : Inv X pins Z H s) (r : zg vs us) (al : uE X.A H) (h : sp (vs ++ dvs) H Q E) : wpAny (model X.prog X.w) X.A (call (.ref f) us) (EP X pins Z Q) X.xe s := by
 have r2 : zg (vs ++ dvs) (us ++ ds) := r.append hd
 have hl : (us ++ ds).length = ps.length := by rw [<- r2.length]; exact F.len _ _ _ _ h
 refine wpAny_call (codeAny_mono (F.run X.A X.stack s H ⟨us, []⟩ (us ++ ds) (vs ++ dvs) Q E hr al I.env0 (hb s us I.kIn hl) r2 h) fun r s' hq => ?_)
 cases r with
 | error e => exact hx pins Z H s e s' I hq
 | ok fl =>
  cases fl with
  | ret u => exact I.after hq
  | next => exact False.elim hq
  | brk => exact False.elim hq
  | cont => exact False.elim hq
theorem qh7 (F : qh6 X.prog X.w X.K X.mg X.base CX k f fd ps sp) (hr : wo k X.A) (hg : Gl X x) (hm : X.mg x = some (.ref f)) (hk : PySem.W.keepIn X.K (.ref f) = true) (hb : wj X.K fd ps ds) (hd : zg dvs ds) (hx : qaY CX X E)
  (ha : PA X (e :: es) t) (hdb : (x == ("__debug__" : Str)) = false := by decide) (he : starEach (e :: es) X.env = (false, eval e X.env) :: starEach es X.env := by rfl) (hpl : (backTo pos (starEach es X.env)).any (·.1) = false := by rfl) :
  PE X (.Call (.Name x p) (e :: es) [] pos) (qmt X.A sp dvs E t) := by
 intro pins s Z H Q I h
 refine wpAny_Call_Name_kw (qdK I hg hm ?_ hdb)
 refine PySem.W.callWith_K (h₀ := X.base) I.ok.mod.kin hk (thn (ha pos pins s Z H _ I h) fun us s1 ⟨vs, H1, I1, r, q⟩ => ⟨I1.kIn, ?_⟩) he hpl
 exact qkr F hr hb hd hx I1 r q.1 q.2
end
end L2
namespace L2.Sk
open PySem PySem.Spec PyProof.Rows
def isT (b : Bool) : Value -> Bool
 | .bool a => a == b
 | _ => false
section
variable {X : Cx}
end
def qop (x : D) (ys : List D) : Option D := match x, ys with
 | .lst ds, [.bl b] => (vp ds).map fun bs => .int (bs.countP (· == b))
 | _, _ => none
def qmu (F : D -> List D -> Option D) (f : M D) (g : M (List D)) : M D := bnd f fun x => match x with
 | .lst ds => bnd g fun ys => lift (F (.lst ds) ys)
 | _ => fun _ => .bad
section
variable {X : Cx} {c : Fc} {o e : Expr} {es : List Expr} {apos cpos : Pos}
end
def isI (b : Int) : Value -> Bool
 | .int a _ => a == b
 | _ => false
section
variable {X : Cx}
end
def qoq (x : D) (ys : List D) : Option D := match x, ys with
 | .lst ds, [.int b] => (wF ds).map fun ns => .int (ns.countP (· == b))
 | _, _ => none
section
variable {X : Cx} {pins : List (Addr × Obj)} {Z : St} {H : Hp} {s : Shared} {xe : Value -> Shared -> Prop}
theorem un_held {H' : Hp} {h' : Heap} {e : Addr} {o : HO} (u : Un (frs X.stack) [] H H' s.heap h') (he : s.heap.get? e = none) (hHe : H' e = none) : Un (frs X.stack) [] H (upd H' e o) s.heap h' := by
 have ne : ∀ b ob, s.heap.get? b = some ob -> b ≠ e := fun b ob q z => by rw [z, he] at q; cases q
 have ne' : ∀ b u, H' b = some u -> b ≠ e := fun b u q z => by rw [z, hHe] at q; cases q
 refine ⟨u.keep, u.slot, fun b ob q n hx => by rw [qv (ne b ob q)]; exact u.free b ob q n hx, u.there, fun b xs q => ?_, fun b ob w q => ?_, fun b ps y q => ?_⟩
 ·have := u.tups b xs q
  rw [qv (ne' b _ this)]; exact this
 ·have := u.frzs b ob w q
  rw [qv (ne' b _ this)]; exact this
 ·have := u.tbls b ps y q
  rw [qv (ne' b _ this)]; exact this
end
structure qpo (K : Fr0) (base : Heap) (RN : List Str) (S : Addr) : Prop where
 sup : ∃ bm, XC base S bm
 own : ∀ n C, clR K RN n = some C -> ∃ bm, XC base C bm /\ (Value.ref C :: bm).contains (.ref S) = true
 ki : ∀ n C, clR K RN n = some C -> XK6 K C
def ch (H6 : Hp) : Fc := ⟨[], [], fun a => H6 a = none, H6, fun _ => False, fun _ _ => False, fun _ => none⟩
section
variable {X : Cx} {c : Fc} {pos np hpos p1 p2 p3 p4 : Pos} {body : List Stmt}
end
end L2.Sk
namespace L2.Sk
open PySem PySem.Spec PyProof.Rows PySem.W
def bmV : List Value := [.type "ValueError", .type "Exception", .type "BaseException", .type "object"]
def qfs (K : Fr0) (C S : Addr) : Bool := match K.lookup C with
 | some ⟨_, _, .cls cd, _⟩ => cd.mro.contains (.ref S)
 | _ => false
theorem qng {K : Fr0} {h : Heap} {C S : Addr} (X : K.In h) (q : excIn K C bmV "ValueError.__new__" = true) (hs : qfs K C S = true) : ∃ bm, XC h C bm /\ (Value.ref C :: bm).contains (.ref S) = true := by
 unfold excIn at q
 split at q
 ·rename_i dd cd sl ho
  split at q
  ·rename_i C' bm k0 k1 k2 k3 n k5 hm hl
   simp only [Bool.and_eq_true, beq_iff_eq, Bool.not_eq_true'] at q
   obtain ⟨⟨⟨⟨⟨e1, e2⟩, hdel⟩, ht⟩, hok⟩, hni⟩ := q
   subst e1 e2
   unfold qfs at hs
   rw [ho] at hs
   dsimp only at hs
   rw [hm] at hs
   obtain ⟨nm, bs, mro, ns, qn, hd, sn, sub, ab, col, del⟩ := cd
   dsimp only at hm hdel hok hni
   subst hm hdel
   have hz : sl = #[k0, k1, k2, k3, some (.builtin _), k5] := Array.toList_inj.mp hl
   subst hz
   have hT := tail_of_in X ht
   refine ⟨bm, ⟨hT.hasType (by decide +kernel), nm, qn, ns, bs, hd, sn, sub, ab, col, dd, k0, k1, k2, k3, k5, _, "ValueError.__init__", "ValueError", bmV, _, X _ _ ho, .of_isNs (isNs_of_in X hok), nsMap_none_of_in X hok hni, hT, PySem.F.excBase_ValueError⟩, hs⟩
  ·cases q
 ·cases q
def qks (K : Fr0) (D : Addr) : Bool :=
 findIn K (.ref D) "__getattribute__" == some (some (.builtin "BaseException.__getattribute__")) && findIn K (.ref D) "__getattr__" == some none &&
 findIn K (.ref D) "__class__" == some (some (.builtin "object.__class__")) && mroIn K D (.type "object") == some true && subIn K (.ref D) (.type "BaseException") == some true && (clsIn K D).isSome &&
 (["int", "bool", "str", "tuple", "list", "dict"].all fun T => kitOne K (.ref D) (.type T) == some false)
theorem qmv {K : Fr0} {D : Addr} (h : qks K D = true) : XK6 K D := by
 unfold qks at h
 simp only [Bool.and_eq_true, beq_iff_eq] at h
 obtain ⟨⟨⟨⟨⟨⟨h1, h2⟩, h3⟩, h4⟩, h5⟩, h6⟩, h7⟩ := h
 exact ⟨h1, h2, h3, h4, h5, h6, fun T hT => by simpa using List.all_eq_true.mp h7 T hT⟩
def qh8 (n m : Str) : Bool := n == m || m == "SackError"
def qmw (K : Fr0) (S : Addr) (TN : List Str) (n : Str) : Bool := match qa2 K n with
 | some C => excIn K C bmV "ValueError.__new__" && qfs K C S && qks K C && kitOne K (.ref C) (.type "ValueError") == some true &&
  TN.all fun m => match qa2 K m with
   | some Cm => kitOne K (.ref C) (.ref Cm) == some (qh8 n m)
   | none => false
 | none => false
def qor (K : Fr0) (RN TN : List Str) : Bool := match qa2 K "SackError" with
 | some S => excIn K S bmV "ValueError.__new__" && qfs K S S && RN.all (qmw K S TN)
 | none => false
structure XT (K : Fr0) (mg : Str -> Option Value) (RN TN : List Str) : Prop where
 all : qor K RN TN = true
 mgc : ∀ n C, qa2 K n = some C -> mg n = some (.ref C)
section
variable {K : Fr0} {mg : Str -> Option Value} {RN TN : List Str}
theorem XT.sup (t : XT K mg RN TN) : ∃ S, qa2 K "SackError" = some S /\ excIn K S bmV "ValueError.__new__" = true /\ qfs K S S = true /\ RN.all (qmw K S TN) = true := by
 have h := t.all
 unfold qor at h
 split at h
 ·rename_i S e
  simp only [Bool.and_eq_true] at h
  exact ⟨S, e, h.1.1, h.1.2, h.2⟩
 ·cases h
theorem XT.row (t : XT K mg RN TN) {S : Addr} (hS : qa2 K "SackError" = some S) {n : Str} (hn : RN.contains n = true) : qmw K S TN n = true := by
 obtain ⟨S', e, _, _, h⟩ := t.sup
 rw [hS] at e
 cases e
 exact List.all_eq_true.mp h n (by simpa using hn)
theorem XT.cls (t : XT K mg RN TN) {n : Str} {C : Addr} (h : clR K RN n = some C) : qa2 K n = some C /\ ∃ S, qa2 K "SackError" = some S /\ excIn K C bmV "ValueError.__new__" = true /\ qfs K C S = true /\ XK6 K C /\ kitOne K (.ref C) (.type "ValueError") = some true /\
  ∀ m ∈ TN, ∃ Cm, qa2 K m = some Cm /\ kitOne K (.ref C) (.ref Cm) = some (qh8 n m) := by
 unfold clR at h
 split at h
 ·rename_i hn
  obtain ⟨S, hS, _⟩ := t.sup
  have r := t.row hS hn
  unfold qmw at r
  rw [h] at r
  simp only [Bool.and_eq_true, beq_iff_eq] at r
  obtain ⟨⟨⟨⟨r1, r2⟩, r3⟩, r4⟩, r5⟩ := r
  refine ⟨h, S, hS, r1, r2, qmv r3, r4, fun m hm => ?_⟩
  have := List.all_eq_true.mp r5 m hm
  split at this
  ·rename_i Cm e
   exact ⟨Cm, e, by simpa using this⟩
  ·cases this
 ·cases h
theorem XT.has (t : XT K mg RN TN) {n : Str} (hn : RN.contains n = true) : ∃ C, clR K RN n = some C := by
 obtain ⟨S, hS, _⟩ := t.sup
 have r := t.row hS hn
 unfold qmw at r
 split at r
 ·rename_i C e
  exact ⟨C, by unfold clR; rw [if_pos hn]; exact e⟩
 ·cases r
end
def qos (RN : List Str) (m : Str) (f : M D) : M D := bnd f fun d => match d with
 | .exc n => if RN.contains n then ret (.bl (m == "ValueError" || qh8 n m)) else fun _ => .bad
 | _ => fun _ => .bad
section
variable {X : Cx} {c : Fc} {a b e : Expr} {pos : Pos} {RN TN : List Str}
end
section
variable {P : Program} {w : World} {K : PySem.W.Frag} {mg : Str -> Option Value} {base : Heap}
structure qkt (P : Program) (w : World) (K : PySem.W.Frag) (mg : Str -> Option Value) (base : Heap) (k : Nat) (x : Str) (ps : List Str) (sp : Sp) : Prop where
 ex : ∃ f fd, qh6 P w K mg base CX0 k f fd ps sp /\ mg x = some (.ref f) /\ PySem.W.keepIn K (.ref f) = true /\ wj K fd ps []
end
end L2.Sk
namespace L2.Sk
open PySem PySem.Spec PyProof.Rows
section
variable {U : Env} {f g : M D} {l : M (List D)} {p q : MS} {RN : List Str}
theorem qeJ (F : List D -> R D) : qjd RN F l U = match l U with | .ok (xs, U1) => (match F xs with | .ok d => .ok (d, U1) | .exc x _ => (if RN.contains x.cls then .exc x U1 else .bad) | .bad => .bad) | .exc x U' => .exc x U' | .bad => .bad := by
 simp only [qjd, bnd]
 cases l U with
 | ok z => obtain ⟨z1, U1⟩ := z; cases F z1 <;> rfl
 | exc x U' => rfl
 | bad => rfl
theorem qeK (F : List D -> R D) : qeI F l U = match l U with | .ok (xs, U1) => (match F xs with | .ok d => .ok (d, U1) | _ => .bad) | .exc x U' => .exc x U' | .bad => .bad := by
 simp only [qeI, bnd]
 cases l U with
 | ok z => obtain ⟨z1, U1⟩ := z; cases F z1 <;> rfl
 | exc x U' => rfl
 | bad => rfl
theorem qeL (x : Str) : qms x l U = match l U with | .ok (ds, U') => (if qO ds.length then .exc ⟨x, .non⟩ U' else .bad) | .exc z U' => .exc z U' | .bad => .bad := rfl
theorem qje (m : Str) : qos RN m f U = match f U with | .ok (.exc n, U1) => (if RN.contains n then .ok (.bl (m == "ValueError" || qh8 n m), U1) else .bad) | .ok _ => .bad | .exc x U' => .exc x U' | .bad => .bad := by
 simp only [qos, bnd]
 cases f U with
 | ok z =>
  obtain ⟨z1, U1⟩ := z
  cases z1 <;> first | rfl | (dsimp only; split <;> rfl)
 | exc x U' => rfl
 | bad => rfl
theorem qgK (F : D -> List D -> Option D) : qmu F f l U = match f U with
  | .ok (.lst ds, U1) => (match l U1 with | .ok (ys, U2) => (match F (.lst ds) ys with | some d => .ok (d, U2) | none => .bad) | .exc x U' => .exc x U' | .bad => .bad)
  | .ok _ => .bad | .exc x U' => .exc x U' | .bad => .bad := by
 simp only [qmu, bnd]
 cases f U with
 | ok z =>
  obtain ⟨z1, U1⟩ := z
  cases z1 with
  | lst ds =>
   show bnd l (fun ys => lift (F (D.lst ds) ys)) U1 = (match l U1 with | .ok (ys, U2) => (match F (.lst ds) ys with | some d => .ok (d, U2) | none => .bad) | .exc x U' => .exc x U' | .bad => .bad)
   unfold bnd
   cases l U1 with
   | ok z => obtain ⟨z2, U2⟩ := z; (dsimp only; cases F (.lst ds) z2 <;> rfl)
   | exc x U' => rfl
   | bad => rfl
  | _ => rfl
 | exc x U' => rfl
 | bad => rfl
end
def unO (_ : Nat) (c : Fc) : Fc := { c with O := [], P := [], B := fun _ => True }
theorem Gr.unSame {c : Fc} {Z : St} {H H' : Hp} {i : Nat} (g : Gr (unO i c).O Z H H') : jm H H' := fun b o h => g.ext.at_ b o (fun j hj => by cases hj) h
theorem Rep.un {K : Fr0} {c : Fc} {U : Env} {Z : St} {H : Hp} {i : Nat} (r : Rep K c U Z H) (_ : i ∈ c.O) : Rep K (unO i c) U Z H := by
 have all : ∀ b : Addr, Cn (unO i c) Z b := fun b => ⟨trivial, fun j hj => by cases hj⟩
 refine ⟨r.len, fun k d hk => ?_, fun j hj => (by cases hj), fun k j a hk => (by cases hk), ⟨fun _ _ => trivial, r.b0.2⟩, r.kp, r.dm, fun j hj => (by cases hj), fun j hj => (by cases hj)⟩
 obtain ⟨v, h1, h2⟩ := r.val k d hk
 refine ⟨v, h1, .inr ⟨fun z => (by cases z), ?_⟩⟩
 rcases h2 with ⟨hk2, ds, a, xs, h3, h5, h6, h7⟩ | ⟨hk2, h3⟩
 ·subst h3 h5
  exact ⟨a, xs, rfl, all a, h6, IsL.ext Ext.refl (fun b _ _ => all b) h7⟩
 ·exact Is.ext Ext.refl (fun b _ _ => all b) h3
theorem Gr.un {c : Fc} {Z : St} {H H' : Hp} {i : Nat} (g : Gr (unO i c).O Z H H') : Gr c.O Z H H' := .of_same g.unSame
open Classical in
open Classical in
open Classical in
section
variable {X : Cx} {c : Fc} {e : Expr} {pos : Pos}
def qpp : List D -> Option (List D)
 | [.int i, .int j] => if decide (-(2 ^ 62) <= i) && decide (i < 2 ^ 62) && decide (-(2 ^ 62) <= j) && decide (j < 2 ^ 62) then some (qb9 i (j - i).toNat) else none
 | _ => none
theorem XL2.un {i : Nat} {cl : Str -> Option Addr} {E : XK} (L : XL2 X c cl E) : XL2 X (unO i c) cl E := ⟨L.pass, L.wish⟩
def qjf (i n : Nat) (g : D -> Env -> Option Env) (b : MS) : Nat -> MS
 | 0, U => match zx i U with
  | some ds => if ds.length <= n then .ok (.nx U) else .bad
  | none => .bad
 | m + 1, U => match zx i U with
  | some ds => match ds[n - (m + 1)]? with
   | none => .bad
   | some d => match g d U with
    | none => .bad
    | some U1 => match b U1 with
     | .ok (.nx U2) => qjf i n g b m U2
     | .ok (.ct U2) => qjf i n g b m U2
     | .ok (.bk U2) => .ok (.nx U2)
     | .ok (.rt r U2) => .ok (.rt r U2)
     | .exc x U2 => .exc x U2
     | .bad => .bad
  | none => .bad
end
section
variable {U : Env} {f : M D} {t : M Bool} {n : M (List D)}
open Classical in
open Classical in
open Classical in
end
def inA (x y : D) : Option D := match sqD y with
 | some ds => if qbB x && qbB y then some (.bl ((toPDs ds).any fun y => PyData.eqv y (uv x))) else none
 | none => none
section
variable {X : Cx}
end
section
variable {prog : Program} {w : World} {A : Around} {R : Result -> Shared -> Prop} {I : Addr} {fp wr : List Addr} {n : Nat} {P : Nat -> Value -> Prop} {St : Nat -> Heap -> Prop}
end
section
variable {prog : Program} {w : World} {A : Around} {E : Value -> Shared -> Prop} {s : Shared}
end
def qmx : List D -> Option (List (List Int))
 | [] => some []
 | .tup ts :: r => match wF ts, qmx r with
  | some n, some ns => some (n :: ns)
  | _, _ => none
 | _ => none
def qnR (ns : List (List Int)) (i : Nat) : List Int := (ns[i]?).getD []
def qnS (ns : List (List Int)) : Nat := argBest (fun i j => HT.lexLt (qnR ns i) (qnR ns j)) (ns.length - 1)
def qo4 : List D -> Option D
 | [.lst ds] => match qmx ds with
  | some (n :: ns) => some (.tup ((qnR (n :: ns) (qnS (n :: ns))).map .int))
  | _ => none
 | _ => none
section
variable {X : Cx}
end
def qot (x : D) (ys : List D) : Option D := match x, ys with
 | .lst ds, [d] => if ds.all qbB && qbB d then (ds.findIdx? fun e => PyData.eqv (uv e) (uv d)).map fun j => .int j else none
 | _, _ => none
section
variable {prog : Program} {w : World} {A : Around} {E : Value -> Shared -> Prop} {s : Shared}
end
section
variable {X : Cx} {c : Fc} {a b e : Expr} {pos : Pos} {es : List Expr} {kk : Nat} {tp : Pos}
end
section
variable {X : Cx} {c : Fc} {a b e : Expr} {pos : Pos} {es : List Expr} {kk : Nat} {tp : Pos}
def qmy : List D -> Option (List D)
 | [.lst xs] => some (wn 0 xs)
 | _ => none
def qmz (f : M (List D)) : M (List D) := bnd f fun ds => lift (qmy ds)
end
section
variable {X : Cx} {c : Fc} {pos : Pos}
end
section
variable {prog : Program} {w : World} {A : Around} {E : Value -> Shared -> Prop} {s : Shared}
end
theorem uE.laid {A : Around} {H : Hp} {p : Addr} {o : HO} (x : uE A H) (h : H p = none) : uE A (upd H p o) := by
 obtain ⟨e, oe, u, vs, h1, h2, h3⟩ := x
 exact ⟨e, oe, u, vs, h1, by rw [qv (qI h2 h)]; exact h2, h3⟩
theorem uE.rep {K : Fr0} {c : Fc} {A : Around} (x : uE A c.H0) (hio : ∀ a, ¬ c.Io a) (U : Env) (Z : St) (H : Hp) (r : Rep K c U Z H) : uE A H := by
 obtain ⟨e, oe, u, vs, h1, h2, h3⟩ := x
 exact ⟨e, oe, u, vs, h1, r.kp _ _ h2 (hio e), h3⟩
end L2.Sk
namespace L2
open PySem PySem.Spec PyProof.Rows L2.Sk
structure qo5 (P : Program) (w : World) (K : PySem.W.Frag) (tg : Expr) (J : It) (fp : List Addr) (it : Addr) (tn : Nat -> Heap -> Prop) : Prop where
 mem : it ∈ fp
 obj : ∀ i h, tn i h -> ∀ b ∈ fp, ∃ o, h.get? b = some o /\ ∀ v, o.data ≠ .cell v
 keep : ∀ i h h', tn i h -> (∀ b ∈ fp, ∀ o, h.get? b = some o -> h'.get? b = some o) -> tn i h'
 item : ∀ (X : Cx), X.prog = P -> X.w = w -> X.K = K -> uE X.A X.H₀ -> ∀ (i : Nat) (pins : List (Addr × Obj)) (s : Shared) (Z : St) (H : Hp) (E : Value -> Shared -> Prop), Inv X pins Z H s -> (∀ b ∈ fp, qdI X pins H b) -> tn i s.heap -> J.go i H ->
  wpAny (model P w) X.A (pyNext (.ref it)) (fun r s1 => ∃ u, r = some u /\
   wpAny (model P w) X.A (letOwnedTupleGo tg (.ref it) u) (fun _ s2 => ∃ x H', Inv X pins Z H' s2 /\ jN x u /\ J.yld i H x H' /\ tn (i + 1) s2.heap /\ ∀ b ∈ fp, H' b = none) E s1) E s
 done : ∀ (X : Cx), X.prog = P -> X.w = w -> X.K = K -> uE X.A X.H₀ -> ∀ (i : Nat) (pins : List (Addr × Obj)) (s : Shared) (Z : St) (H : Hp) (E : Value -> Shared -> Prop), Inv X pins Z H s -> (∀ b ∈ fp, qdI X pins H b) -> tn i s.heap -> J.stop i H ->
  wpAny (model P w) X.A (pyNext (.ref it)) (fun r s1 => r = none /\ Inv X pins Z H s1) E s
 self : ∀ (A : Around) (i : Nat) (s : Shared) (Q : Value -> Shared -> Prop) (E : Value -> Shared -> Prop), tn i s.heap -> Q (.ref it) s -> wpAny (model P w) A (pyIter (.ref it)) Q E s
section
variable {X : Cx} {tg : Expr}
end
end L2
namespace L2.Sk
open PySem PySem.Spec PyProof.Rows
section
variable {X : Cx} {tg iter elt : Expr} {ifs : List Expr} {scope : Scope} {pos : Pos} {wi : TI} {N' : List Str} {nt : Nat} {fr : List Nat}
end
section
variable {X : Cx} {c : Fc} {tg a b e : Expr} {pos : Pos}
end
theorem wo.units {k : Nat} {A : Around} (r : wo k A) : A.units + 64 < cLine := by have := r.un; omega
section
variable {X : Cx} {c : Fc} {e : Expr} {es : List Expr} {pos : Pos}
theorem qh9 {k : Nat} {f : Addr} {fd : FuncData} {ps : List Str} {F : List D -> R D} {x : Str} {p : Pos} {g : M (List D)} (hal : ∀ U Z H, Rep X.K c U Z H -> uE X.A H)
  (G : qh6 X.prog X.w X.K X.mg X.base CX0 k f fd ps (spD X.K F)) (hr : wo k X.A) (hg : Gl X x) (hm : X.mg x = some (.ref f)) (hk : PySem.W.keepIn X.K (.ref f) = true) (hb : wj X.K fd ps [])
  (ha : DA X c (e :: es) g) (hd : (x == ("__debug__" : Str)) = false := by decide) (he : starEach (e :: es) X.env = (false, eval e X.env) :: starEach es X.env := by rfl) (hpl : (backTo pos (starEach es X.env)).any (·.1) = false := by rfl) : DE X c (.Call (.Name x p) (e :: es) [] pos) (qg F g) := by
 obtain ⟨t, pa, w⟩ := ha
 refine ⟨_, qh7 (E := fun _ _ _ => False) G hr hg hm hk hb .nil (fun _ _ _ _ _ _ _ z => z.elim) pa hd he hpl, fun U Z H Q r h => w U Z H _ r (WpL.bnd h fun ds U1 vs H1 r1 i1 g1 h1 => ⟨hal _ _ _ r1, ?_⟩)⟩
 rw [List.append_nil]
 refine ⟨ds, Cn c Z, i1, r1.tb, ?_⟩
 cases ef : F ds with
 | bad => simp only [ef] at h1; exact h1.elim
 | exc z U' => simp only [ef] at h1; exact h1.elim
 | ok d =>
  simp only [ef] at h1
  exact fun v H' sm i => h1 v H' (r1.same sm) (Is.ext Ext.refl (fun a ha _ => ha.elim id r1.new) i) (.of_same sm)
end
section
variable {prog : Program} {w : World} {A : Around} {R : Result -> Shared -> Prop} {I : Addr} {fp wr : List Addr} {n : Nat} {P : Nat -> Value -> Prop} {St : Nat -> Heap -> Prop} {dv : Value}
end
section
variable {prog : Program} {w : World} {A : Around} {E : Value -> Shared -> Prop} {s : Shared}
end
section
variable {prog : Program} {w : World} {A : Around} {R : Result -> Shared -> Prop} {I : Addr} {fp wr : List Addr} {n : Nat} {P : Nat -> Value -> Prop} {St : Nat -> Heap -> Prop} {dv : Value}
end
section
variable {prog : Program} {w : World} {A : Around} {E : Value -> Shared -> Prop} {s : Shared}
end
section
variable {prog : Program} {w : World} {A : Around} {E : Value -> Shared -> Prop} {s : Shared}
end
section
variable {X : Cx}
end
section
variable {X : Cx} {c : Fc} {a b e : Expr} {pos : Pos}
def qjg (F : List D -> List D -> Option D) (f g : M (List D)) : M D := bnd f fun xs => bnd g fun zs => lift (F xs zs)
def CallKS (K : Fr0) (F : List D -> List D -> Option D) (r : List V -> List V -> Hp -> VK -> Prop) : Prop := ∀ A H xs zs d vs ws (Q : VK), (∀ a, H a = none -> A a) -> IsL K A H xs vs -> IsL K A H zs ws -> F xs zs = some d -> (∀ u H', jm H H' -> Is K A H' d u -> Q u H') -> r vs ws H Q
end
def qo6 (xs zs : List D) : Option D := match xs, zs with
 | [.lst ds], [z] => (wF ds).map fun ns => if ns = [] then z else .int (qgH ns)
 | _, _ => none
def slB (x : D) (lo hi : Option Int) : Option D := match x with
 | .tup ds => some (.tup (qnK ds lo hi))
 | .lst ds => some (.lst (qnK ds lo hi))
 | _ => none
def qou (f : M D) (g k : M (Option Int)) : M D := bnd f fun d => bnd g fun l => bnd k fun u => lift (slB d l u)
section
variable {X : Cx} {c : Fc} {a b e : Expr} {pos p2 : Pos}
theorem Wp.bndN {K : Fr0} {Z : St} {H : Hp} {Q : VK} {f : M D} {k : D -> M (List D)} {U : Env} {Q' : VK} (h : WpN K c Z H Q (Sk.bnd f k U)) (hQ : ∀ d U' v H', Rep K c U' Z H' -> Is K (Cn c Z) H' d v -> Gr c.O Z H H' -> WpN K c Z H' Q (k d U') -> Q' v H') : Wp K c Z H Q' (f U) := by
 unfold Sk.bnd at h
 cases e : f U with
 | ok p => rw [e] at h; exact fun v H' hr hi hg => hQ p.1 p.2 v H' hr hi hg (h.gr hg)
 | exc x U' => rw [e] at h; exact h
 | bad => rw [e] at h; exact h
def qku (x y : D) : Option (List D) := match x, y with
 | .lst ds, .int k => if (decide (-(2 ^ 62) <= k) && decide (k < 2 ^ 62)) && (qO (ds.length * k.toNat) && immL ds) then some (List.replicate k.toNat ds).flatten else none
 | _, _ => none
def qmA (f g : M D) : M (List D) := bnd f fun x => bnd g fun y => lift (qku x y)
theorem qia {K : Fr0} {Z : St} {H : Hp} {Q : VK} {o : Option (List D)} {U : Env} (h : WpN K c Z H Q (lift o U)) : ∃ ds, o = some ds /\ WpN K c Z H Q (.ok (ds, U)) := by
 cases o with
 | none => exact h.elim
 | some d => exact ⟨d, rfl, h⟩
theorem qmB {f g : M D} (ha : DE X c a f) (hb : DE X c b g) : DN X c (.BinOp a .Mult b pos) (qmA f g) := by
 obtain ⟨ta, pa, wa⟩ := ha
 obtain ⟨tb, pb, wb⟩ := hb
 refine ⟨_, qlA qiP pa pb, fun U Z H Q r h => wa U Z H _ r (Wp.bndN h fun x U1 v H1 r1 i1 g1 h1 => wb U1 Z H1 _ r1 (Wp.bndN h1 fun y U2 u H2 r2 i2 g2 h2 => ?_))⟩
 obtain ⟨ds', e, h3⟩ := qia h2
 have i1' := g2.is i1
 unfold qku at e
 split at e
 ·rename_i ds k
  obtain ⟨p, xs, rfl, hA, hp, il⟩ := i1'
  have iu : u = V.int k := i2
  subst iu
  split at e
  ·rename_i hb
   simp only [Bool.and_eq_true, decide_eq_true_eq] at hb
   obtain ⟨⟨b1, b2⟩, b3, b4⟩ := hb
   have b3 : ds.length * k.toNat <= sizeLine := of_decide_eq_true b3
   cases e
   refine ⟨p, k, xs, rfl, rfl, hp, by omega, by omega, by rw [il.length]; exact b3, fun q hq => ?_⟩
   exact h3 q _ _ hq (r2.laid hq _) (r2.apart hq) qw trivial (IsL.ext (Ext.of_same (qA hq _)) (fun _ h _ => h) (IsL.rep (IsL.imm b4 il) _)) (.of_same (qA hq _))
  ·cases e
 ·cases e
def qo7 (f : M D) : M (List D) := bnd f fun x => lift (match x with
 | .lst ds => if immL ds then some ds else none
 | .tup ds => if immL ds then some ds else none
 | _ => none)
def qgL (i : Nat) (f : M D) : M D := fun U => match zx i U with
 | none => .bad
 | some _ => (bnd f fun d U => match d, zx i U with
  | .lst es, some ds => if immL es && qO (ds.length + es.length) then .ok (.non, U.set i (some (.lst (ds ++ es)))) else .bad
  | _, _ => .bad) U
def qov (f : M (List D)) : M (List D) := fun U => match f U with
 | .ok ([.tup _], _) => qgG f U
 | _ => qmz f U
end
section
variable {U : Env} {f g : M D} {l k : M (List D)}
theorem qnh (F : List D -> List D -> Option D) : qjg F l k U = match l U with | .ok (xs, U1) => (match k U1 with | .ok (zs, U2) => (match F xs zs with | some d => .ok (d, U2) | none => .bad) | .exc x U' => .exc x U' | .bad => .bad) | .exc x U' => .exc x U' | .bad => .bad := by
 simp only [qjg, bnd]
 cases l U with
 | ok z =>
  obtain ⟨z1, U1⟩ := z
  dsimp only
  cases k U1 with
  | ok z => obtain ⟨z2, U2⟩ := z; (dsimp only; cases F z1 z2 <;> rfl)
  | exc x U' => rfl
  | bad => rfl
 | exc x U' => rfl
 | bad => rfl
theorem qmC : qmA f g U = match f U with | .ok (x, U1) => (match g U1 with | .ok (y, U2) => (match qku x y with | some ds => .ok (ds, U2) | none => .bad) | .exc x U' => .exc x U' | .bad => .bad) | .exc x U' => .exc x U' | .bad => .bad := by
 simp only [qmA, bnd]
 cases f U with
 | ok z =>
  obtain ⟨z1, U1⟩ := z
  dsimp only
  cases g U1 with
  | ok z => obtain ⟨z2, U2⟩ := z; (dsimp only; cases qku z1 z2 <;> rfl)
  | exc x U' => rfl
  | bad => rfl
 | exc x U' => rfl
 | bad => rfl
theorem qmD (i : Nat) : qgL i f U = match zx i U with
  | none => .bad
  | some _ => (match f U with | .ok (d, U1) => (match d, zx i U1 with | .lst es, some ds => (if immL es && qO (ds.length + es.length) then .ok (.non, U1.set i (some (.lst (ds ++ es)))) else .bad) | _, _ => .bad) | .exc x U' => .exc x U' | .bad => .bad) := by
 unfold qgL
 cases zx i U with
 | none => rfl
 | some z =>
  simp only [bnd]
  cases f U with
  | ok z => obtain ⟨z1, U1⟩ := z; rfl
  | exc x U' => rfl
  | bad => rfl
theorem qow (p q : M (Option Int)) : qou f p q U = match f U with | .ok (d, U1) => (match p U1 with | .ok (l, U2) => (match q U2 with | .ok (u, U3) => (match slB d l u with | some r => .ok (r, U3) | none => .bad) | .exc x U' => .exc x U' | .bad => .bad) | .exc x U' => .exc x U' | .bad => .bad) | .exc x U' => .exc x U' | .bad => .bad := by
 simp only [qou, bnd]
 cases f U with
 | ok z =>
  obtain ⟨z1, U1⟩ := z
  dsimp only
  cases p U1 with
  | ok z =>
   obtain ⟨z2, U2⟩ := z
   dsimp only
   cases q U2 with
   | ok z => obtain ⟨z3, U3⟩ := z; (dsimp only; cases slB z1 z2 z3 <;> rfl)
   | exc x U' => rfl
   | bad => rfl
  | exc x U' => rfl
  | bad => rfl
 | exc x U' => rfl
 | bad => rfl
end
section
variable {X : Cx} {c : Fc} {e : Expr} {es : List Expr} {pos : Pos}
theorem dC {k j : Nat} {ps : List Str} {F : List D -> R D} {x : Str} {p : Pos} {g : M (List D)} (C : qC X.prog X.w X.K X.mg X.base k x ps (spD X.K F)) (hr : vn j X.A) (ha : DA X c (e :: es) g)
  (hk : k <= j := by decide) (hg : Gl X x := by rfl) (hd : (x == ("__debug__" : Str)) = false := by decide) (he : starEach (e :: es) X.env = (false, eval e X.env) :: starEach es X.env := by rfl) (hpl : (backTo pos (starEach es X.env)).any (·.1) = false := by rfl) : DE X c (.Call (.Name x p) (e :: es) [] pos) (qg F g) := by
 obtain ⟨f, fd, G, m, kk, b⟩ := C.ex
 exact qj7 G (hr.mono hk) hg m kk b ha hd he hpl
theorem nC {k j : Nat} {ps : List Str} {F : List D -> R D} {x : Str} {p : Pos} {g : M (List D)} (C : qC X.prog X.w X.K X.mg X.base k x ps (spD X.K F)) (hr : vn j X.A) (ha : DA X c (e :: es) g)
  (hk : k <= j := by decide) (hg : Gl X x := by rfl) (hd : (x == ("__debug__" : Str)) = false := by decide) (he : starEach (e :: es) X.env = (false, eval e X.env) :: starEach es X.env := by rfl) (hpl : (backTo pos (starEach es X.env)).any (·.1) = false := by rfl) : DN X c (.Call (.Name x p) (e :: es) [] pos) (qgq F g) := by
 obtain ⟨f, fd, G, m, kk, b⟩ := C.ex
 exact qke G (hr.mono hk) hg m kk b ha hd he hpl
theorem iC {k j i : Nat} {ps : List Str} {F : List D -> List D -> R (D × List D)} {x y : Str} {p p1 : Pos} {g : M (List D)} (C : qC X.prog X.w X.K X.mg X.base k x ps (qhv X.K F)) (hr : vn j X.A) (ha : DA X c es g)
  (hk : k <= j := by decide) (hg : Gl X x := by rfl) (ho : i ∈ c.O := by exact of_decide_eq_true rfl) (hN : X.N[i]? = some y := by rfl) (hv : Vis X.env.scope y := by first | exact Or.inl rfl | exact Or.inr (Or.inl rfl) | exact Or.inr (Or.inr rfl)) (hdy : (y == ("__debug__" : Str)) = false := by decide) (hcd : (y == ("__classdict__" : Str)) = false := by decide)
  (hd : (x == ("__debug__" : Str)) = false := by decide) (he : starEach (.Name y p1 :: es) X.env = (false, eval (.Name y p1) X.env) :: starEach es X.env := by rfl) (hpl : (backTo pos (starEach es X.env)).any (·.1) = false := by rfl) : DE X c (.Call (.Name x p) (.Name y p1 :: es) [] pos) (qz F i g) := by
 obtain ⟨f, fd, G, m, kk, b⟩ := C.ex
 exact qgl G (hr.mono hk) hg m kk b ha ho hN hv hdy hcd hd he hpl
theorem pC {k j : Nat} {ps : List Str} {F : List D -> R D} {x : Str} {p : Pos} {g : M (List D)} {cl : Str -> Option Addr} (C : qkq X.prog X.w X.K X.mg X.base k x ps (spX X.K cl F)) (hr : vn j X.A) (ha : DA X c (e :: es) g)
  (hk : k <= j := by decide) (hg : Gl X x := by rfl) (hd : (x == ("__debug__" : Str)) = false := by decide) (he : starEach (e :: es) X.env = (false, eval e X.env) :: starEach es X.env := by rfl) (hpl : (backTo pos (starEach es X.env)).any (·.1) = false := by rfl) : DE X c (.Call (.Name x p) (e :: es) [] pos) (qeI F g) := by
 obtain ⟨f, fd, G, m, kk, b⟩ := C.ex
 exact qh5 G (hr.mono hk) hg m kk b ha hd he hpl
theorem lC {k j : Nat} {ps : List Str} {F : List D -> R D} {x : Str} {p : Pos} {g : M (List D)} (hal : ∀ U Z H, Rep X.K c U Z H -> uE X.A H) (C : qkt X.prog X.w X.K X.mg X.base k x ps (spD X.K F)) (hr : wo j X.A) (ha : DA X c (e :: es) g)
  (hk : k <= j := by decide) (hg : Gl X x := by rfl) (hd : (x == ("__debug__" : Str)) = false := by decide) (he : starEach (e :: es) X.env = (false, eval e X.env) :: starEach es X.env := by rfl) (hpl : (backTo pos (starEach es X.env)).any (·.1) = false := by rfl) : DE X c (.Call (.Name x p) (e :: es) [] pos) (qg F g) := by
 obtain ⟨f, fd, G, m, kk, b⟩ := C.ex
 exact qh9 hal G (hr.mono hk) hg m kk b ha hd he hpl
theorem gI {x : Str} {i : Int} (h : ∃ t, X.mg x = some (.int i t)) (hg : Gl X x := by rfl) (hd : (x == ("__debug__" : Str)) = false := by decide) : DE X c (.Name x pos) (ret (.int i)) := by
 obtain ⟨t, h⟩ := h
 exact qf9 (v := .int i) (d := .int i) hg h ⟨_, rfl⟩ (fun _ _ => rfl) hd
theorem gT {x : Str} {ns : List Int} (h : ∃ a, X.mg x = some (.ref a) /\ qlc X.K a ns) (hg : Gl X x := by rfl) (hd : (x == ("__debug__" : Str)) = false := by decide) : DE X c (.Name x pos) (ret (.tup (ns.map .int))) := by
 obtain ⟨a, h1, h2⟩ := h
 exact qh4 hg h1 h2 hd
end
theorem nd (N : List Str) (h : N.Nodup := by decide +kernel) : N.Nodup := h
theorem cs {X : Cx} (N N' : List Str) (nt : Nat) (fr : List Nat) (outer : Scope) {scope : Scope} (h0 : scope.kind = .function := by rfl) (h1 : ∀ y ∈ scope.names, y.2 ≠ .cell := by decide +kernel) (h2 : ∀ y ∈ scope.names, y.2 = .local -> scope.names.lookup y.1 = some .local := by decide +kernel)
  (h3 : ∀ y ∈ scope.names, y.2 = .free -> outer.names.lookup y.1 = some .cell := by decide +kernel) (h4 : N'.length = nt + fr.length := by rfl) (h5 : ∀ p ∈ fr.zipIdx, N'[nt + p.2]? = N[p.1]? /\ ((N[p.1]?).bind fun x => scope.names.lookup x) = some .free := by decide +kernel)
  (h6 : X.env.scope = outer := by rfl) (h7 : X.N = N := by rfl) : CompScope X scope N' nt fr := qkf.ok (outer := outer) (N := N) ⟨h0, h1, h2, h3, h4, h5⟩ h6 h7
theorem f0 {c : Fc} {nt : Nat} (fr O : List Nat) (e : c.O = O := by rfl) (h : ∀ j ∈ fr, j ∉ O := by decide) : qj2 c nt fr none := fun j hj => by rw [e]; exact h j hj
theorem f1 {c : Fc} (nt : Nat) (fr O : List Nat) (i j : Nat) (e : c.O = O := by rfl) (h1 : j ∈ O := by decide) (h2 : nt <= i := by decide) (h3 : fr[i - nt]? = some j := by rfl) (h4 : ∀ p ∈ fr.zipIdx, nt + p.2 ≠ i -> p.1 ∉ O := by decide) : qj2 c nt fr (some (i, j)) :=
 qkh (by rw [e]; exact h1) h2 h3 (by rw [e]; exact h4)
section
variable {X : Cx} {c : Fc}
end
end L2.Sk
namespace L2.Sk
open PySem PySem.Spec PyProof.Rows
def qib : V -> List V -> Hp -> VK -> Prop := fun x vs H Q => ∃ l xs y, x = .ref l /\ vs = [.int 0, y] /\ H l = some (.lst xs) /\ xs.length < sizeLine /\ Q .non (upd H l (.lst (y :: xs)))
theorem qft {X : Cx} : MtM X "list.insert" qib := by
 intro pins s Z H x vs v us Q I rx rv h
 obtain ⟨l, xs, y, rfl, rfl, hH, hz, q⟩ := h
 cases rx
 obtain ⟨u0, u, rfl, r0, ru⟩ := rv.two
 obtain ⟨tk, rfl⟩ := r0
 obtain ⟨z, its, n, r, hl, e⟩ := I.lstM hH
 refine call_meets PySem.F.slot_list_insert ⟨_, e, rfl⟩ PySem.F.entry_list_insert (PySem.F.args_list_insert_3 _ _ _) (PySem.AutoSeq1.list_insert_list_int_val_1 l its.toArray n 0 _ u (by decide) (by rw [sT_]; omega)) ⟨e, ?_⟩
 refine ⟨.non, _, I.lset (its' := u :: its) (ys := y :: xs) hH e ?_ (.cons ru r) ?_, rfl, q⟩
 ·simp
 ·rw [lC_]
  omega
section
variable {X : Cx} {c : Fc} {a b e : Expr} {pos : Pos}
def vv (i : Nat) (f : M D) : M D := fun U => match zx i U with
 | none => .bad
 | some _ => (bnd f fun d U => match zx i U with
  | some ds => if qO (ds.length + 1) then .ok (.non, U.set i (some (.lst (d :: ds)))) else .bad
  | none => .bad) U
theorem qgM {i : Nat} {x : Str} {p1 apos cp : Pos} {cj : Nat} {f : M D} (he : DE X c e f) (ho : i ∈ c.O := by exact of_decide_eq_true rfl) (hN : X.N[i]? = some x := by rfl) (hv : Vis X.env.scope x := by first | exact Or.inl rfl | exact Or.inr (Or.inl rfl) | exact Or.inr (Or.inr rfl)) (hd : (x == ("__debug__" : Str)) = false := by decide) (hcd : (x == ("__classdict__" : Str)) = false := by decide)
  (hbase : attributeBase (.Name x p1) "insert" X.env (eval (.Name x p1) X.env) = eval (.Name x p1) X.env := by rfl)
  (hfew : ((backTo pos (starEach [.Constant (.int 0) cj cp, e] X.env)).all (fun x => !x.1) && (backToKw pos (keywordEach [] X.env)).all (fun x => x.1.isSome)
   && decide ([Expr.Constant (.int 0) cj cp, e].length + ([] : List Keyword).length + (if ([] : List Keyword).isEmpty then 0 else 1) < 30)) = true := by rfl)
  (hline : (apos.endLine == pos.line) = true := by rfl) (hs : starEach [.Constant (.int 0) cj cp, e] X.env = (false, eval (.Constant (.int 0) cj cp) X.env) :: starEach [e] X.env := by rfl) (hs2 : starEach [e] X.env = (false, eval e X.env) :: starEach [] X.env := by rfl) (hplain : (backTo pos (starEach [e] X.env)).any (·.1) = false := by rfl) :
  DE X c (.Call (.Attribute (.Name x p1) "insert" apos) [.Constant (.int 0) cj cp, e] [] pos) (vv i f) := by
 obtain ⟨t, p, w⟩ := he
 refine ⟨_, qlQ PySem.F.plainAttrs_list PySem.F.slot_list_insert PySem.F.type_list_insert qft (vm hN hv hd hcd) (uu qiK (uu p qaX hs2) hs) hbase hfew hline hs hplain, fun U Z H Q r h => ?_⟩
 unfold vv at h
 cases e0 : zx i U with
 | none => rw [e0] at h; exact h.elim
 | some ds0 =>
  simp only [e0] at h
  obtain ⟨l, xs0, _, hl, hH, _⟩ := r.getLO ho e0
  refine ⟨.ref l, hl, .inl ⟨rfl, xs0, .inl (.inl hH)⟩, w U Z H _ r (Wp.bnd h fun d U1 v H1 r1 i1 g1 h1 => ?_)⟩
  cases e1 : zx i U1 with
  | none => simp only [e1] at h1; exact h1.elim
  | some ds =>
   simp only [e1] at h1
   by_cases hb : qO (ds.length + 1) = true
   ·rw [if_pos hb] at h1
    obtain ⟨l', xs, him, hl', hH', il⟩ := r1.getLO ho e1
    rw [hl] at hl'
    cases hl'
    have hsz : ds.length + 1 <= sizeLine := of_decide_eq_true hb
    have ext : Ext (Cn c Z) H1 (upd H1 l (.lst (v :: xs))) := ⟨fun b us hb => zE (wB hb hH' (by intro z; cases z)) hb, fun b o u hb => zE (wB hb hH' (by intro z; cases z)) hb, fun b o hb hq => zE (fun e => hb.2 i ho (by rw [hl, e])) hq⟩
    obtain ⟨r2, g2⟩ := r1.io (H' := upd H1 l (.lst (v :: xs))) (bs := d :: ds) ho hl (fun b o hb ho => zE hb ho) qw trivial
     ⟨v, xs, rfl, Is.ext ext (fun _ h _ => h) i1, IsL.ext ext (fun _ h _ => h) il⟩ (fun b hb => qdX hb)
    exact ⟨l, xs, v, rfl, rfl, hH', by rw [il.length]; omega, h1 _ _ r2 rfl g2⟩
   ·rw [if_neg hb] at h1; exact h1.elim
def qic (f : M (List D)) : M (List D) := bnd f fun ds => lift (if qO ds.length then some ds else none)
theorem qkv {es : List Expr} {f : M (List D)} (h : DA X c es f) : DN X c (.List es pos) (qic f) := by
 obtain ⟨t, p, w⟩ := h
 refine ⟨_, qf1 p, fun U Z H Q r h => w U Z H _ r (WpL.bndN h fun ds U1 vs H1 r1 i1 g1 h1 => ?_)⟩
 by_cases hb : qO ds.length = true
 ·rw [if_pos hb] at h1
  refine ⟨by rw [i1.length]; exact of_decide_eq_true hb, fun p hp => ?_⟩
  exact h1 p vs _ hp (r1.laid hp _) (r1.apart hp) qw trivial (IsL.ext (Ext.of_same (qA hp _)) (fun b h hs => ⟨h, fun e => by rw [e, hp] at hs; cases hs⟩) i1) (.of_same (qA hp _))
 ·rw [if_neg hb] at h1; exact h1.elim
end
theorem qci : Slot "reversed" "__init__" "object.__init__" :=
 .of (owner := "object") (n := "__init__") (by rw [typeLookup_type, builtinLookup_eq_fast]; kernel_rfl) (by decide +kernel) (by decide +kernel) (by decide +kernel) (by first | exact Or.inl (by kernel_rfl) | exact Or.inr (by kernel_rfl)) (by rw [isSubtype_type]; kernel_rfl)
theorem qfu : TypeCalled "reversed" "reversed.__new__" "object.__init__" := ⟨by decide +kernel, F.create_reversed, ⟨_, _, F.mro_reversed⟩, F.made_reversed, F.plain_reversed_new, F.sub_reversed_self, qci⟩
theorem jF : Slot "reversed" "__next__" "reversed.__next__" :=
 .of (owner := "reversed") (n := "__next__") (by rw [typeLookup_type, builtinLookup_eq_fast]; kernel_rfl) (by decide +kernel) (by decide +kernel) (by decide +kernel) (by first | exact Or.inl (by kernel_rfl) | exact Or.inr (by kernel_rfl)) (by rw [isSubtype_type]; kernel_rfl)
theorem v8 : entryFor table "reversed.__next__" = some Builtin.«reversed.__next__» := entryFor_of_tree (by kernel_rfl)
theorem qjh : typeLookup (.type "tuple") (Str.ofString "__reversed__") = pure none := by rw [typeLookup_type, builtinLookup_eq_fast]; kernel_rfl
theorem qcj : typeLookup (.type "tuple") (Str.ofString "__getitem__") = pure (some (.builtin "tuple.__getitem__")) := by rw [typeLookup_type, builtinLookup_eq_fast]; kernel_rfl
theorem qeM : isSubtype (.type "tuple") (.type "dict") = pure false := by rw [isSubtype_type]; kernel_rfl
theorem qgN {l : Addr} {xs : Array Value} (hz : xs.size <= sizeLine) : Meets (Builtin.«reversed.__new__» ⟨[.type "reversed", .ref l], []⟩) (fun _ R s => s.heap.IsTuple l xs /\
   R (.ok (.ret (.ref s.heap.objs.size))) { s with heap := s.heap.push { cls := .type "reversed", data := .fields #[.ref l, rawInt ((xs.size : Int) - 1)] }, toks := s.toks + 1 + 1 }) :=
 .of_wp fun prog w A R s h => by
  obtain ⟨hp, g, d, tk, os⟩ := s
  obtain ⟨ha, h⟩ := h
  have hsub := F.sub_reversed_self
  have f1 := qjh
  have f2 := qcj
  have f3 := qeM
  have hA : Heap.IsTuple (Shared.heap ⟨hp, g, d, tk, os⟩) l xs := ha
  obtain ⟨o, e1, hc, m, hd⟩ := ha
  unfold Builtin.«reversed.__new__»
  refine wpAny_bind ?_
  wp_walk
  rw [hc]
  refine wpAny_of_eq (a := none) qjh ?_
  dsimp only
  refine wpAny_bind ?_
  show wpAny (model prog w) A.in1 (isInstance (Value.ref l) (Value.type "dict") >>= _) _ _ _
  refine wpAny_bind (wpAny_isInstance (T := "tuple") (b := false) ⟨o, e1, hc⟩ qeM ?_)
  show wpAny (model prog w) A.in1 (specialOf (Value.ref l) (Str.ofString "__getitem__") >>= _) _ _ _
  refine wpAny_bind ?_
  wp_walk
  rw [hc]
  refine wpAny_of_eq (a := some (.builtin "tuple.__getitem__")) qcj ?_
  dsimp only
  rw [if_pos (by decide +kernel)]
  refine wpAny_pure ?_
  rw [if_neg (by decide)]
  have hfit : (xs.size : Int) < 2 ^ 63 := by have := qaW; omega
  refine wpAny_bind (len_tuple hA hfit ?_)
  wp_walk
  exact ⟨_, rfl, h⟩
def qo8 (l : Addr) (i : Int) : Obj := { cls := .type "reversed", data := .fields #[.ref l, rawInt i] }
def qbD (h : Heap) (z l : Addr) (i : Int) : Prop := h.get? z = some (qo8 l i)
section
variable {prog : Program} {w : World} {A : Around} {E : Value -> Shared -> Prop} {s : Shared}
theorem qid {l : Addr} {xs : Array Value} {Q : Value -> Shared -> Prop} (t1 : s.heap.IsTuple l xs) (hz : xs.size <= sizeLine)
  (fin : ∀ h', qbD h' s.heap.objs.size l ((xs.size : Int) - 1) -> (∀ c o, s.heap.get? c = some o -> h'.get? c = some o) -> Q (.ref s.heap.objs.size) { s with heap := h', toks := s.toks + 1 + 1 }) :
  wpAny (model prog w) A (call (.type "reversed") [.ref l]) Q E s := by
 refine callType_new qfu (by decide) (F.typeCall_reversed_1 _) (F.newCall_reversed_1 _) (fun obj => F.args_object_init_2 obj _) F.entry_reversed_new (qgN hz) ⟨t1, ?_⟩
 exact ⟨⟨_, Heap.get?_push_size _ rfl, rfl⟩, fin _ (Heap.get?_push_size _ rfl) fun c o x => Heap.get?_push_of_some _ x⟩
theorem wN (a : Value) : argsOk "reversed.__next__" ⟨[a], []⟩ := by
 unfold argsOk; kernel_rfl
theorem qmE {z l : Addr} {xs : Array Value} {i : Nat} {x : Value} {Q : Value -> Shared -> Prop} (zz : qbD s.heap z l (i : Int)) (t1 : s.heap.IsTuple l xs) (hx : xs[i]? = some x) (hz : xs.size <= sizeLine)
  (fin : ∀ h' tk, qbD h' z l ((i : Int) - 1) -> Heap.SameBut z s.heap h' -> Q x { s with heap := h', toks := tk }) :
  wpAny (model prog w) A (Builtin.«reversed.__next__» ⟨[.ref z], []⟩) (fun r s' => ∃ v, r = .done (.ret v) /\ Q v s') E s := by
 have hT : s.TypeIs (.ref l) "tuple" := by obtain ⟨o, e, hc, _⟩ := t1; exact ⟨o, e, hc⟩
 unfold Builtin.«reversed.__next__»
 refine wpAny_bind (wpAny_of_eq (a := (Value.ref z, [])) rfl ?_)
 dsimp only
 refine wpAny_bind (wpAny_field zz rfl (x := Value.ref l) rfl ?_)
 refine wpAny_bind (wpAny_field zz rfl (x := rawInt (i : Int)) rfl ?_)
 show wpAny (model prog w) A (if ((i : Nat) : Int) < 0 then _ else _) _ _ s
 rw [if_neg (by omega)]
 refine wpAny_bind (wpAny_specialOf hT qcj ?_)
 show wpAny (model prog w) A (if (false : Bool) = true then _ else _) _ _ s
 rw [if_neg (by decide)]
 refine wpAny_bind (wpAny_mkInt ?_)
 have hi : i < xs.size := (Array.getElem?_eq_some_iff.mp hx).1
 have hl63 := qaW
 have hsq : seqIndex? (i : Int) xs.size = some i := by
  unfold seqIndex?
  simp only []
  first
   | (rw [if_neg (by omega)]; simp; omega)
   | (simp; omega)
   | (split <;> simp_all <;> omega)
 refine wpAny_bind (wpAny_attempt (PyProof.Rows.getItem_tuple (j := i) t1 (by omega) (by omega) hsq hx ?_))
 dsimp only
 refine wpAny_bind (wpAny_field zz rfl (x := rawInt (i : Int)) rfl ?_)
 refine wpAny_bind (wpAny_setField_rec zz (by simp) fun h' zz' b' => ?_)
 exact wpAny_pure ⟨x, rfl, fin h' _ zz' b'⟩
theorem qie (hh : A.handled = none) {z l : Addr} {Q : Fin -> Shared -> Prop} (zz : qbD s.heap z l (-1))
  (fin : ∀ h' e, Heap.ExtBut z s.heap h' -> (∃ o, h'.get? e = some o /\ o.cls = .type "StopIteration") -> E (.ref e) { s with heap := h' }) :
  wpAny (model prog w) A (Builtin.«reversed.__next__» ⟨[.ref z], []⟩) Q E s := by
 unfold Builtin.«reversed.__next__»
 refine wpAny_bind (wpAny_of_eq (a := (Value.ref z, [])) rfl ?_)
 dsimp only
 refine wpAny_bind (wpAny_field zz rfl (x := Value.ref l) rfl ?_)
 refine wpAny_bind (wpAny_field zz rfl (x := rawInt (-1)) rfl ?_)
 show wpAny (model prog w) A (if (-1 : Int) < 0 then _ else _) _ _ s
 rw [if_pos (by decide)]
 refine wpAny_bind (wpAny_rule (wpAny_bind ?_))
 show wpAny (model prog w) A (setField (Value.ref z) 1 (rawInt (-1)) >>= fun _ => setField (Value.ref z) 0 Value.none) _ _ _
 refine wpAny_bind (wpAny_setField_rec zz (by simp) fun h1 zz1 b1 => wpAny_setField_rec zz1 (by simp) fun h2 zz2 b2 => ?_)
 refine wpAny_bind ?_
 show wpAny (model prog w) _ (newExc (Value.type "StopIteration") [] >>= _) _ _ _
 refine wpAny_bind ?_
 simp only [newExc, newTuple]
 refine wpAny_bind (wpAny_newObj_type ?_ (by size_fits))
 refine wpAny_bind (m := firstArgMember _ _) (wpAny_of_eq (a := Value.none) (by first | rfl | (simp only [firstArgMember]; rfl)) ?_)
 refine wpAny_newObj_type ?_ (by size_fits)
 simp only [raiseNew]
 refine wpAny_bind (wpAny_handled ?_)
 rw [hh]
 exact wpAny_bind (wpAny_pure (wpAny_throw (fin _ _ (fun b o hb e => Heap.get?_push_of_some _ (Heap.get?_push_of_some _ (b2.extBut b o hb (b1.extBut b o hb e)))) ⟨_, Heap.get?_push_size _ rfl, rfl⟩)))
end
theorem wO : Slot "reversed" "__iter__" "reversed.__iter__" :=
 .of (owner := "reversed") (n := "__iter__") (by rw [typeLookup_type, builtinLookup_eq_fast]; kernel_rfl) (by decide +kernel) (by decide +kernel) (by decide +kernel) (by first | exact Or.inl (by kernel_rfl) | exact Or.inr (by kernel_rfl)) (by rw [isSubtype_type]; kernel_rfl)
theorem qck (a : Value) : argsOk "reversed.__iter__" ⟨[a], []⟩ := by
 unfold argsOk; kernel_rfl
theorem qbE : entryFor table "reversed.__iter__" = some Builtin.«dict_keyiterator.__iter__» := by
 refine entryFor_alias (id' := "dict_keyiterator.__iter__") ?_ ?_ ?_ ?_
 ·kernel_rfl
 ·first | rfl | decide +kernel
 ·decide +kernel
 ·kernel_rfl
theorem qeN {prog : Program} {w : World} {A : Around} {E : Value -> Shared -> Prop} {s : Shared} {z l : Addr} {i : Int} {Q : Value -> Shared -> Prop} (zz : qbD s.heap z l i) (h : Q (.ref z) s) : wpAny (model prog w) A (pyIter (.ref z)) Q E s := by
 have hT : s.TypeIs (.ref z) "reversed" := ⟨_, zz, rfl⟩
 refine wpAny_pyIter_slot hT wO (wpAny_call_entry wO hT qbE ?_ (qck _))
 show wpAny _ _ (PySem.ret (Value.ref z)) _ _ s
 exact wpAny_pure ⟨_, rfl, "reversed", _, hT, jF.lookup, h⟩
def Itv (K : Fr0) (a : Addr) (xs : List V) : It :=
 ⟨fun i H => i < xs.length /\ SqT K H a xs, fun i H x H' => H' = H /\ xs.reverse[i]? = some x, fun i H => i = xs.length /\ SqT K H a xs⟩
theorem qif {P : Program} {w : World} {K : Fr0} {tg : Expr} {z a : Addr} {xs : List V} (hne : a ≠ z) : qjJ P w K tg (Itv K a xs) [z] z (fun i h => qbD h z a ((xs.length : Int) - 1 - (i : Nat))) where
 mem := by simp
 obj := fun i h st b hb => by
  have e : b = z := by simpa using hb
  subst e
  exact ⟨_, st, fun v e => by cases (show Data.fields _ = Data.cell v from e)⟩
 keep := fun i h h' st k => k z (by simp) _ st
 item := by
  intro X hP hw hK hc i pins s Z H E I hf st hg
  subst hP hw hK
  obtain ⟨hlt, hx⟩ := hg
  obtain ⟨f0, f1, f2, f3, f4, f5⟩ := hf z (by simp)
  obtain ⟨its, r1, p1, z1⟩ := I.tuple hx
  have hlen := r1.length
  have ei : ((xs.length : Int) - 1 - (i : Nat)) = ((xs.length - 1 - i : Nat) : Int) := by omega
  have st' : qbD s.heap z a ((xs.length - 1 - i : Nat) : Int) := by rw [<- ei]; exact st
  obtain ⟨xv, hxv⟩ : ∃ v, xs[xs.length - 1 - i]? = some v := ⟨xs[xs.length - 1 - i]'(by omega), gG (by omega)⟩
  obtain ⟨x', ex, rx⟩ := r1.get hxv
  have hT : s.TypeIs (.ref z) "reversed" := ⟨_, st, rfl⟩
  unfold pyNext
  refine wpAny_bind (wpAny_attempt (wpAny_callSpecial?_slot (name := Str.ofString "__next__") hT jF (wpAny_call_entry jF hT v8
   (qmE st' p1 (x := x') (by rw [List.getElem?_toArray]; exact ex) (by rw [sT_, <- hlen]; exact z1) fun h' tk zz' sb => wpAny_pure ?_) (wN _))))
  have I1 : Inv X pins Z H { s with heap := h', toks := tk } := I.turned (fun b o hb e => sb.extBut b o hb e) f0 f1 f3 f4 f5
  have st2 : qbD h' z a ((xs.length : Int) - 1 - ((i + 1 : Nat) : Int)) := by
   have e2 : ((xs.length - 1 - i : Nat) : Int) - 1 = (xs.length : Int) - 1 - ((i + 1 : Nat) : Int) := by omega
   rw [<- e2]; exact zz'
  refine ⟨x', rfl, qhE (s := { s with heap := h', toks := tk }) (n := "reversed") st2 rfl rfl (by decide) ⟨xv, H, I1, rx, ⟨rfl, ?_⟩, st2, fun b hb => (hf b hb).1⟩⟩
  rw [List.getElem?_reverse hlt]
  exact hxv
 done := by
  intro X hP hw hK hc i pins s Z H E I hf st hg
  subst hP hw hK
  obtain ⟨hlt, hx⟩ := hg
  obtain ⟨f0, f1, f2, f3, f4, f5⟩ := hf z (by simp)
  have ei : ((xs.length : Int) - 1 - (i : Nat)) = -1 := by omega
  have st' : qbD s.heap z a (-1) := by rw [<- ei]; exact st
  have hT : s.TypeIs (.ref z) "reversed" := ⟨_, st, rfl⟩
  have hh : X.A.in1.handled = none := I.ok.hd hc
  unfold pyNext
  refine wpAny_bind (wpAny_attempt (wpAny_callSpecial?_slot (name := Str.ofString "__next__") hT jF (wpAny_call_entry jF hT v8
   (qie hh st' fun h' e kp he => ?_) (wN _))))
  obtain ⟨o, ho, hcl⟩ := he
  exact wpAny_bind (wpAny_isInstance (T := "StopIteration") (b := true) ⟨o, ho, hcl⟩ isSubtype_stop (wpAny_pure ⟨rfl, I.turned (t' := s.toks) (fun b o hb e => kp b o hb e) f0 f1 f3 f4 f5⟩))
 self := fun A i s Q E st h => qeN st h
section
variable {X : Cx} {c : Fc} {a e : Expr} {pos : Pos} {tg : Expr}
def qo9 (K : Fr0) (ta : TA) : TI := fun Z H R => ta Z H fun vs H1 => ∃ b xs, vs = [.ref b] /\ SqT K H1 b xs /\ R (Itv K b xs) H1
theorem qmF {ta : TA} {p : Pos} (hg : Gl X "reversed") (hm : X.mg "reversed" = none) (ha : PA X [a] ta) (hs : starEach [a] X.env = [(false, eval a X.env)] := by rfl) :
  PI X tg (.Call (.Name "reversed" p) [a] [] pos) (qo9 X.K ta) := by
 intro pins s Z H R I h
 refine Call_ (qax I hg hm PyProof.Rows.boot_reversed (PyProof.Rows.callWith_type1 (thn (ha pos pins s Z H _ I h) fun us s1 ⟨vs, H1, I1, r1, q1⟩ => ?_) hs rfl))
 obtain ⟨b, xs, e1, hx, q⟩ := q1
 subst e1
 obtain ⟨u1, rfl, ru1⟩ := zg.one r1
 cases (show u1 = Value.ref b from ru1)
 obtain ⟨its, v1, p1, z1⟩ := I1.tuple hx
 have hlen := v1.length
 refine qid (show s1.heap.IsTuple b its.toArray from p1) (by rw [sT_, <- hlen]; exact z1) fun h' zz kp => ?_
 refine qeN zz ?_
 have lb : b < s1.heap.objs.size := by obtain ⟨o, e, _⟩ := p1; exact Heap.lt_size e
 have zz' : qbD h' s1.heap.objs.size b ((xs.length : Int) - 1 - ((0 : Nat) : Int)) := by
  have e : ((its.toArray.size : Nat) : Int) - 1 = (xs.length : Int) - 1 - ((0 : Nat) : Int) := by rw [sT_, hlen]; omega
  rw [<- e]; exact zz
 refine ⟨s1.heap.objs.size, [s1.heap.objs.size], _, _, H1, rfl, I1.kept (t' := s1.toks + 1 + 1) kp, qif (xs := xs) (Nat.ne_of_lt lb), zz', fun d hd => ?_, q⟩
 have e : d = s1.heap.objs.size := by simpa using hd
 subst e
 exact I1.fpOk (Nat.le_refl _) (I1.hok.fresh (Nat.le_refl _))
theorem qmG {K : Fr0} {A : Addr -> Prop} {H : Hp} {ds : List D} {xs : List V} {b : Addr} (t1 : uN K H b xs) (i1 : IsL K A H ds xs) : qhu K A H ds.reverse (Itv K b xs) where
 go := fun H' i d ex hd => by
  have hl : i < ds.reverse.length := (gI_.mp hd).1
  rw [List.length_reverse, <- i1.length] at hl
  exact ⟨hl, (t1.elim (fun h => .inl (ex.tup _ _ h)) .inr : uN K H' b xs).sq⟩
 yl := fun H' i d x H'' ex hd y => by
  obtain ⟨rfl, hy⟩ := y
  have hl : i < ds.length := by
   have := (gI_.mp hd).1
   rwa [List.length_reverse] at this
  rw [List.getElem?_reverse hl] at hd
  rw [List.getElem?_reverse (by rw [i1.length]; exact hl), i1.length] at hy
  obtain ⟨x', g1, g2⟩ := i1.get hd
  rw [hy] at g1
  cases g1
  exact ⟨fun _ _ h => h, Is.ext ex (fun _ h _ => h) g2⟩
 stop := fun H' ex => ⟨by rw [List.length_reverse, i1.length], (t1.elim (fun h => .inl (ex.tup _ _ h)) .inr : uN K H' b xs).sq⟩
def qni : List D -> Option (List D)
 | [.tup xs] => some xs.reverse
 | _ => none
def qmH (f : M (List D)) : M (List D) := bnd f fun ds => lift (qni ds)
theorem qmI {f : M (List D)} {p : Pos} (hg : Gl X "reversed") (hm : X.mg "reversed" = none) (ha : DA X c [a] f) (hs : starEach [a] X.env = [(false, eval a X.env)] := by rfl) :
  DI X c tg (.Call (.Name "reversed" p) [a] [] pos) (qmH f) := by
 obtain ⟨t, pa, w⟩ := ha
 refine ⟨_, qmF hg hm pa hs, fun U Z H Q r h => w U Z H _ r (WpL.bndI h fun ds U1 vs H1 r1 i1 g1 h1 => ?_)⟩
 obtain ⟨es', e, h2⟩ := wG h1
 unfold qni at e
 split at e
 ·obtain ⟨v, rfl, j1⟩ := IsL.inv1 i1
  cases e
  obtain ⟨a1, xs, rfl, t1, il1⟩ := Is.tr j1
  exact ⟨a1, xs, rfl, t1.sq, h2 _ H1 r1 (qmG t1 il1) .refl⟩
 ·cases e
theorem qmJ {l : M (List D)} {U : Env} : qmH l U = match l U with | .ok (d, U1) => (match qni d with | some ds => .ok (ds, U1) | none => .bad) | .exc x U' => .exc x U' | .bad => .bad := by
 simp only [qmH, bnd]
 cases l U with
 | ok z => obtain ⟨z1, U1⟩ := z; (dsimp only; cases qni z1 <;> rfl)
 | exc x U' => rfl
 | bad => rfl
theorem qgO {f : M D} {U : Env} (i : Nat) : vv i f U = match zx i U with
  | none => .bad
  | some _ => (match f U with
   | .ok (d, U1) => (match zx i U1 with | some ds => (if qO (ds.length + 1) then .ok (.non, U1.set i (some (.lst (d :: ds)))) else .bad) | none => .bad)
   | .exc x U' => .exc x U' | .bad => .bad) := by
 unfold vv
 cases zx i U with
 | none => rfl
 | some z =>
  simp only [bnd]
  cases f U with
  | ok z => obtain ⟨z1, U1⟩ := z; rfl
  | exc x U' => rfl
  | bad => rfl
end
end L2.Sk
namespace HT
open PySem PySem.Spec PyProof.Rows
section
variable {prog : Program} {w : World} {A : Around} {E : Value -> Shared -> Prop} {s : Shared}
end
end HT
namespace L2
open PySem PySem.Spec PyProof.Rows
section
variable {X : Cx} {e : Expr} {te : TE} {ste : Expr} {ts : TO} {pos p2 : Pos}
end
end L2
namespace L2.Sk
open PySem PySem.Spec PyProof.Rows
theorem IsL.rev {K : Fr0} {A : Addr -> Prop} {H : Hp} : ∀ {ds : List D} {xs : List V}, IsL K A H ds xs -> IsL K A H ds.reverse xs.reverse := by
 intro ds
 induction ds with
 | nil =>
  intro xs h
  cases xs with
  | nil => exact h
  | cons x xs => exact absurd h.length (by simp)
 | cons d ds ih =>
  intro xs h
  obtain ⟨x, ys, rfl, h1, h2⟩ := h
  rw [List.reverse_cons, List.reverse_cons]
  have one : IsL K A H [d] [x] := ⟨x, [], rfl, h1, IsL.take 0 h2⟩
  exact IsL.append (ih h2) one
def qnT : D -> Option D
 | .tup ds => some (.tup ds.reverse)
 | .lst ds => some (.lst ds.reverse)
 | _ => none
def qmK (f : M D) : M D := bnd f fun d => lift (qnT d)
section
variable {X : Cx} {c : Fc} {a : Expr} {pos p2 p3 p4 : Pos} {cj : Nat}
theorem qnU {f : M D} {U : Env} : qmK f U = match f U with | .ok (d, U1) => (match qnT d with | some x => .ok (x, U1) | none => .bad) | .exc x U' => .exc x U' | .bad => .bad := by
 simp only [qmK, bnd]
 cases f U with
 | ok z => obtain ⟨z1, U1⟩ := z; (dsimp only; cases qnT z1 <;> rfl)
 | exc x U' => rfl
 | bad => rfl
end
section
variable {X : Cx} {c : Fc}
end
end L2.Sk
namespace L2
open PySem PySem.Spec PyProof.Rows
def qpa (X : Cx) (Pt : Addr) (q : Str) (params : Arguments) (body : Expr) (scope : Scope) (pos : Pos) : TE := fun _ H Q => H Pt = some (.lam pos q) /\
 ∀ (f c : Addr) (oc : Obj) (vs : Array Value) (t : Tok) (cl : List (Str × Addr)) (pm ctv : Value) (H1 : Hp), jm H H1 -> H1 f = some (.frz (PySem.W.kla_obj "<lambda>" q params body scope cl pm c ctv) (.own f)) -> H1 c = some (.frz oc (.own c)) ->
  oc.data = .fields vs -> vs[1]? = some (.str q t) -> (∀ n a, cl.lookup n = some a -> X.env.cells.lookup n = some a) -> (∀ y ∈ scope.names, y.2 = .free -> ∃ a, cl.lookup y.1 = some a) -> Q (.ref f) H1
section
variable {X : Cx} {pins : List (Addr × Obj)} {Z : St} {H : Hp} {s : Shared}
theorem wP {H : Hp} {a : Addr} {o : HO} (h : H a = none) : jm H (upd H a o) := fun b u q => by rw [qv (qI q h)]; exact q
theorem qmL {c0 Pt : Addr} {q : Str} {params : Arguments} {body : Expr} {scope : Scope} {pos : Pos} (hq : X.env.qual ++ "<lambda>" = q) (hcode : X.env.code = .ref c0) (hC : PySem.W.codeHdIn X.K c0 Pt = true)
  (hfr : ∀ y ∈ scope.names, y.2 = .free -> X.env.kindOf y.1 = some .cell) (hdef : defaultsOf params X.env = ([], [])) : PE X (.Lambda params body scope pos) (qpa X Pt q params body scope pos) := by
 intro pins s Z H Q I ⟨hP, h⟩
 obtain ⟨cl, hcl, cl1, cl2⟩ := Sk.closureFor_ok (env := X.env) (scope := scope) (fun y hy hf => I.ok.has y.1 (.inl (hfr y hy hf)))
 have C : PySem.W.CodeHd s.heap c0 Pt := PySem.W.codeHd_of_K I.kIn hC
 have hg : s.heap.Ns mainGlobals X.mg := I.mod.glob.keeps I.bk
 obtain ⟨bm, ob, b1, b2, b3, b4, b5, b6⟩ := I.mod.bm
 have b3' := I.bk _ _ b3
 have hPo : ∃ ps, s.heap.get? Pt = some (PySem.W.tabObj ps) := by
  rcases I.hok Pt _ hP with e | ⟨_, _, _, _, _, _, _, e⟩
  ·exact ⟨_, e⟩
  ·exact ⟨_, e⟩
 obtain ⟨ps0, hPo⟩ := hPo
 have hgP : mainGlobals ≠ Pt := fun z => by
  obtain ⟨o, es, ep, e, hd, _⟩ := hg
  rw [z, hPo] at e; cases e; cases hd
 have hbP : bm ≠ Pt := fun z => by rw [z, hPo] at b3'; cases b3'; cases b4
 have hbG : bm ≠ mainGlobals := fun z => by
  obtain ⟨o, es, ep, e, hd, _⟩ := hg
  rw [z, e] at b3'; cases b3'; rw [hd] at b6; cases b6
 have hB : s.heap.BuiltinsAt X.mg Pt := ⟨bm, ob, b1, b2, hbG, hbP, b3', b4, b5, b6⟩
 refine PySem.W.kla_eval hdef ?_
 rw [hq]
 rcases I.hok Pt _ hP with e | ⟨c', oc, vs, t, h1, h2, h3, e⟩
 ·refine PySem.W.kla_makeFunction hcl I.ok.glob hg hcode C e trivial rfl hgP hB fun c' ctv h' tk hx hge hlt hrec htb => ?_
  obtain ⟨c2, oc, vs, t, e2, hoc, hd, hv⟩ := hrec
  cases e2
  have htb' : h'.get? Pt = some { cls := .none, data := .fields #[rawInt pos.line, rawInt pos.col, .ref c'] } := by simpa using htb
  have hHc : H c' = none := I.hok.fresh hge
  have hsz : s.heap.objs.size <= h'.objs.size := Nat.le_trans hge (Nat.le_of_lt hlt)
  have hHf : H h'.objs.size = none := I.hok.fresh hsz
  have hfc : h'.objs.size ≠ c' := Nat.ne_of_gt hlt
  have hH2f : upd H c' (.frz oc (.own c')) h'.objs.size = none := by rw [qv hfc]; exact hHf
  let fo : Obj := PySem.W.kla_obj "<lambda>" q params body scope cl ((X.mg "__name__").getD .none) c' ctv
  have sm : jm H (upd (upd H c' (.frz oc (.own c'))) h'.objs.size (.frz fo (.own h'.objs.size))) := fun b u z => wP hH2f b u (wP hHc b u z)
  have keep : ∀ b o, b ≠ Pt -> s.heap.get? b = some o -> (h'.push fo).get? b = some o := fun b o hb z => Heap.get?_push_of_some _ (hx b o hb z)
  have nP : ∀ b, H b = none -> b ≠ Pt := fun b z w => by rw [w, hP] at z; cases z
  have un : Un X.fs [] H (upd (upd H c' (.frz oc (.own c'))) h'.objs.size (.frz fo (.own h'.objs.size))) s.heap (h'.push fo) := by
   refine ⟨fun b o z n _ _ => keep b o (nP b n) z, fun b o z n _ _ => ⟨o.slots, keep b o (nP b n) z⟩, fun b o z n _ => ?_, fun b o z _ => ?_, fun b xs z => sm _ _ z, fun b o u z => sm _ _ z, fun b p u z => sm _ _ z⟩
   ·have hlt2 := Heap.lt_size z
    rw [qv (Nat.ne_of_lt (Nat.lt_of_lt_of_le hlt2 hsz)), qv (Nat.ne_of_lt (Nat.lt_of_lt_of_le hlt2 hge))]
    exact n
   ·by_cases hb : b = Pt
    ·exact ⟨_, by rw [hb]; exact Heap.get?_push_of_some _ htb'⟩
    ·exact ⟨o, keep b o hb z⟩
  have hf1 : (upd (upd H c' (.frz oc (.own c'))) h'.objs.size (.frz fo (.own h'.objs.size))) c' = some (.frz oc (.own c')) := by rw [qv hfc.symm, qw]
  have hok : HOk X.prog X.w (upd (upd H c' (.frz oc (.own c'))) h'.objs.size (.frz fo (.own h'.objs.size))) (h'.push fo) := fun b u z => by
   by_cases hb1 : b = h'.objs.size
   ·subst hb1
    rw [qw] at z; cases z
    exact ⟨Heap.get?_push_size _ rfl, _, Heap.get?_push_size _ rfl⟩
   ·rw [qv hb1] at z
    by_cases hb2 : b = c'
    ·subst hb2
     rw [qw] at z; cases z
     exact ⟨Heap.get?_push_of_some _ hoc, _, Heap.get?_push_of_some _ hoc⟩
    ·rw [qv hb2] at z
     by_cases hb3 : b = Pt
     ·subst hb3
      rw [hP] at z; cases z
      exact .inr ⟨c', oc, vs, t, hf1, hd, hv, Heap.get?_push_of_some _ htb'⟩
     ·refine (I.hok b u z).stay (fun c v hc r => keep c v (fun w => ?_) r) (fun c r => sm _ _ r) (fun c xs r => sm _ _ r) fun c o y r => sm _ _ r
      rcases hc with hc | hc
      ·exact hb3 (hc ▸ w)
      ·rw [w, hP] at hc; cases hc
  exact ⟨.ref h'.objs.size, _, I.un un hok, rfl, h h'.objs.size c' oc vs t cl ((X.mg "__name__").getD .none) ctv _ sm qw hf1 hd hv cl1 cl2⟩
 ·have ht : TriplesOk (#[rawInt pos.line, rawInt pos.col, .ref c'] : Array Value).toList := trivial
  have hf : codeAmong pos (#[rawInt pos.line, rawInt pos.col, .ref c'] : Array Value).toList = some (.ref c') := by
   show (if ((pos.line : Int) == pos.line && (pos.col : Int) == pos.col) = true then _ else _) = _
   rw [if_pos (by simp)]
  refine PySem.W.kla_makeFunctionHit hcl I.ok.glob hg hcode C e ht hf hB fun ctv h' tk hk hsz => ?_
  have hHf : H h'.objs.size = none := I.hok.fresh hsz
  have J := I.laid (t' := tk) (o := .frz (PySem.W.kla_obj "<lambda>" q params body scope cl ((X.mg "__name__").getD .none) c' ctv) (.own h'.objs.size)) (fun b o z => Heap.get?_push_of_some _ (hk b o z)) hsz
   (show yU X.prog X.w _ (h'.push (PySem.W.kla_obj "<lambda>" q params body scope cl ((X.mg "__name__").getD .none) c' ctv)) h'.objs.size (.frz _ (.own _)) from ⟨Heap.get?_push_size _ rfl, _, Heap.get?_push_size _ rfl⟩)
  exact ⟨.ref h'.objs.size, _, J, rfl, h h'.objs.size c' oc vs t cl ((X.mg "__name__").getD .none) ctv _ (wP hHf) qw (wP hHf _ _ h1) h2 h3 cl1 cl2⟩
def qgP (X : Cx) (N' : List Str) (q : Str) (scope : Scope) (cl : List (Str × Addr)) (f c : Addr) (A : Around) (s : Shared) (H : Hp) : Cx where
 prog := X.prog
 w := X.w
 K := X.K
 mg := X.mg
 base := X.base
 A := A.deeper (PySem.W.envX q scope s.heap.objs.size f (.ref c) cl)
 N := N'
 s₀ := s
 H₀ := H
 env := PySem.W.envX q scope s.heap.objs.size f (.ref c) cl
 outer := X.stack
 stack := PySem.W.envX q scope s.heap.objs.size f (.ref c) cl :: X.stack
 ex := []
 fn := fun _ => false
 calm := true
 pn := []
 xe := fun _ _ => False
theorem qgQ {N' : List Str} {fr : List Nat} {q x : Str} {scope : Scope} {cl : List (Str × Addr)} {f c : Addr} {A : Around} {h1 : Heap} {tk : Nat} {v : V} {u : Value} {ws : List V} (S : Sk.CompScope X scope N' 1 fr) (I : Inv X pins Z H s)
  (cl1 : ∀ n a, cl.lookup n = some a -> X.env.cells.lookup n = some a) (cl2 : ∀ y ∈ scope.names, y.2 = .free -> ∃ a, cl.lookup y.1 = some a) (hA : A.handled = none) (hAf : A.frames = some X.stack)
  (hx : N'[0]? = some x) (hxl : scope.names.lookup x = some .local) (rv : jN v u) (hwl : ws.length = fr.length) (hws : ∀ (k j : Nat), fr[k]? = some j -> ∃ y, ws[k]? = some y /\ Z[j]? = some (some y))
  (hns : h1.Ns s.heap.objs.size fun y => ([(x, u)] : List (Str × Value)).reverse.lookup y) (old : ∀ b o, s.heap.get? b = some o -> h1.get? b = some o) :
  Inv (qgP X N' q scope cl f c A s H) [] (z4 N' (v :: ws)) H { s with heap := h1, toks := tk } := by
 have noA : ∀ b : Addr, b ∉ (qgP X N' q scope cl f c A s H).ex := fun b z => absurd (show b ∈ ([] : List Addr) from z) (by simp)
 have hN : N'.length = (v :: ws).length := by rw [S.len, lC_, hwl]; omega
 have hst : z4 N' (v :: ws) = (v :: ws).map some := by
  unfold z4
  rw [hN, Nat.sub_self]
  simp
 refine ⟨⟨I.ok.mod, S.kind, rfl, rfl, Nat.le_refl _, fun x y c h1 h2 => I.ok.inj x y c (cl1 x c h1) (cl1 y c h2), fun y hy => ?_, fun y c hy => ?_, fun _ => hA, Around.frames_deeper hAf, .inr ⟨rfl, rfl⟩, fun b z => absurd z (noA b), I.bs, Nat.le_trans I.ok.bsz I.sz, fun b _ _ => noA b, fun b z => absurd z (noA b), I.stack, I.stkFree⟩,
  rfl, I.bare, Un.kept old, ⟨_, hns, fun i y w e1 e2 e3 => ?_⟩, fun y c hy => ?_, I.hok.fresh (Nat.le_refl _), fun y c hy => I.freeC y c (cl1 y c hy), fun p hp => absurd (show p ∈ ([] : List (Addr × Obj)) from hp) (by simp), I.hok.kept old, ?_⟩
 ·have hy : scope.names.lookup y = some .cell \/ scope.names.lookup y = some .free := hy
  rcases hy with hy | hy
  ·exact absurd rfl (S.nocell _ (PySem.mem_of_lookup hy))
  ·exact cl2 (y, .free) (PySem.mem_of_lookup hy) rfl
 ·have hy' : false = true := hy
  cases hy'
 ·rw [hst] at e2
  cases i with
  | zero =>
   have e1' : N'[0]? = some y := e1
   rw [hx] at e1'; cases e1'
   have e2' : some v = some w := by simpa using e2
   cases e2'
   refine ⟨u, rv, .inl ⟨hxl, ?_⟩⟩
   simp
  | succ i =>
   have e2' : ws[i]? = some w := by simpa using e2
   have hi : i < fr.length := by rw [<- hwl]; exact (gI_.mp e2').1
   obtain ⟨j, hj⟩ : ∃ j, fr[i]? = some j := ⟨_, gG hi⟩
   obtain ⟨y', g1, g2⟩ := hws i j hj
   rw [e2'] at g1; cases g1
   obtain ⟨z, z1, z2, z3⟩ := S.slot i j hj
   have hz : z = y := by
    have e1' : N'[i + 1]? = some y := e1
    rw [Nat.add_comm 1 i, e1'] at z1
    exact (Option.some.inj z1).symm
   subst hz
   have hmem : (z, NameKind.free) ∈ scope.names := PySem.mem_of_lookup z3
   have hck : X.env.kindOf z = some .cell := S.frees (z, .free) hmem rfl
   obtain ⟨m0, hn0, hl0⟩ := I.loc
   obtain ⟨u', ru, lk⟩ := hl0 j z w z2 g2 (.inr (.inl hck))
   refine ⟨u', ru, .inr ⟨.inr z3, ?_⟩⟩
   rcases lk with ⟨k1, _⟩ | ⟨_, c', e, y1⟩
   ·rw [hck] at k1; cases k1
   ·obtain ⟨a, ea⟩ := cl2 (z, .free) hmem rfl
    have ea' := cl1 z a ea
    rw [e] at ea'
    cases ea'
    obtain ⟨o, ho, hd⟩ := y1
    exact ⟨c', ea, o, old _ _ ho, hd⟩
 ·obtain ⟨w, o, ho, hd⟩ := I.cell y c (cl1 y c hy)
  exact ⟨w, o, old _ _ ho, hd⟩
 ·rw [hst, lM_, <- hN]; rfl
theorem qig {N' : List Str} {fr : List Nat} {q x : Str} {params : Arguments} {body : Expr} {scope : Scope} {cl : List (Str × Addr)} {f c : Addr} {oc : Obj} {vs : Array Value} {t : Tok} {pm ctv : Value} {A : Around} {v : V} {u : Value} {ws : List V} {te : TE} {Q : VK}
  (S : Sk.CompScope X scope N' 1 fr) (I : Inv X pins Z H s) (hf : H f = some (.frz (PySem.W.kla_obj "<lambda>" q params body scope cl pm c ctv) (.own f))) (hc : H c = some (.frz oc (.own c))) (hd : oc.data = .fields vs) (hv : vs[1]? = some (.str q t))
  (cl1 : ∀ n a, cl.lookup n = some a -> X.env.cells.lookup n = some a) (cl2 : ∀ y ∈ scope.names, y.2 = .free -> ∃ a, cl.lookup y.1 = some a) (hA : A.handled = none) (hAf : A.frames = some X.stack) (hdp : A.depth < recursionLimit)
  (hb : ∀ u, bindArgs (PySem.W.kla_fn "<lambda>" q params body scope cl pm (.ref c) ctv) ⟨[u], []⟩ = pure [(x, u)])
  (hx : N'[0]? = some x) (hxl : scope.names.lookup x = some .local) (hco : scope.isCoroutine = false) (hgen : scope.isGenerator = false)
  (rv : jN v u) (hwl : ws.length = fr.length) (hws : ∀ (k j : Nat), fr[k]? = some j -> ∃ y, ws[k]? = some y /\ Z[j]? = some (some y))
  (he : PE (qgP X N' q scope cl f c A s H) body te) (hq : te (z4 N' (v :: ws)) H Q) : wpAny (model X.prog X.w) A (call (.ref f) [u]) (CE X.stack X.prog X.w H s Q) (fun _ _ => False) s := by
 refine wpAny_call (PySem.W.kla_callFunE hdp (I.hok f _ hf).1 rfl hco hgen rfl ⟨c, oc, vs, t, rfl, (I.hok c _ hc).1, hd, hv⟩ ?_)
 rw [hb]
 refine wpAny_pure (wpAny_newFunctionEnv S.nocell (fun y hy => ?_) (fun h1 hns hsb => ⟨I.nolimit.fresh _ hsb, ?_⟩) S.kind)
 ·have e : y = (x, u) := by simpa using hy
  rw [e]; exact hxl
 ·show codeAny _ _ (.expr body (PySem.W.envX q scope s.heap.objs.size f (.ref c) cl)) _ _
  have old : ∀ b o, s.heap.get? b = some o -> h1.get? b = some o := fun b o e => hsb.extBut b o (Nat.ne_of_lt (Heap.lt_size e)) (Heap.get?_push_of_some _ e)
  have J := qgQ (q := q) (f := f) (c := c) (h1 := h1) (tk := s.toks + ([(x, u)] : List (Str × Value)).length) S I cl1 cl2 hA hAf hx hxl rv hwl hws hns old
  exact PySem.W.kla_codeExpr (wpAny_mono (he [] _ _ H Q J hq) (fun v' s' ⟨y, H', J', r', q'⟩ => ⟨y, H', J'.os, J'.bare, J'.base, J'.hok, r', q'⟩) fun _ _ z => z.elim)
end
end L2
namespace L2.Srt
open PySem PySem.W PyProof.Rows
def uM {α : Type} (cmp : Nat -> Nat -> Bool) : KasT α -> α
 | .ret a => a
 | .ask i j k => uM cmp (k (cmp i j))
theorem uF {α β : Type} {cmp : Nat -> Nat -> Bool} {f : α -> KasT β} : ∀ t : KasT α, uM cmp (t.bind f) = uM cmp (f (uM cmp t))
 | .ret _ => rfl
 | .ask i j k => uF (k (cmp i j))
def qaP {α : Type} (n : Nat) (R : α -> Prop) : KasT α -> Prop
 | .ret a => R a
 | .ask i j k => i < n /\ j < n /\ ∀ b, qaP n R (k b)
theorem qaP.bind {α β : Type} {n : Nat} {R : α -> Prop} {R' : β -> Prop} {f : α -> KasT β} (hf : ∀ a, R a -> qaP n R' (f a)) : ∀ {t : KasT α}, qaP n R t -> qaP n R' (t.bind f)
 | .ret _, h => hf _ h
 | .ask _ _ _, ⟨h1, h2, h3⟩ => ⟨h1, h2, fun b => qaP.bind hf (h3 b)⟩
theorem qaP.run {α : Type} {n : Nat} {R : α -> Prop} {cmp : Nat -> Nat -> Bool} : ∀ {t : KasT α}, qaP n R t -> R (uM cmp t)
 | .ret _, h => h
 | .ask i j k, h => qaP.run (t := k (cmp i j)) (h.2.2 (cmp i j))
def Pl (n : Nat) (p : Array Nat) : Prop := p.size = n /\ p.toList.Perm (List.range n)
theorem Pl.of_perm {n : Nat} {p q : Array Nat} (h : Pl n p) (hq : q.Perm p) : Pl n q := ⟨hq.size_eq.trans h.1, (Array.perm_iff_toList_perm.mp hq).trans h.2⟩
theorem Pl.lt {n : Nat} {p : Array Nat} (h : Pl n p) (hn : 0 < n) (k : Nat) : p.getD k 0 < n := by
 by_cases hk : k < p.size
 ·have e : p.getD k 0 = p[k] := by simp [Array.getD, hk]
  rw [e]
  have hm : p[k] ∈ p.toList := by simp
  exact mR_.mp (h.2.mem_iff.mp hm)
 ·have e : p.getD k 0 = 0 := by simp [Array.getD, hk]
  rw [e]; exact hn
theorem Pl.rev {n : Nat} {p : Array Nat} (h : Pl n p) (i j : Nat) : Pl n (kas_rev p i j) := h.of_perm (mirror_perm _ _ _ _)
theorem qcl {n : Nat} (hn : 0 < n) {p : Array Nat} (h : Pl n p) : ∀ f m, qaP n (fun _ => True) (kas_asc p f m)
 | 0, _ => True.intro
 | f + 1, m => ⟨h.lt hn _, h.lt hn _, fun c => by
  dsimp only
  split
  ·exact True.intro
  ·exact qcl hn h f (m + 1)⟩
theorem wQ {n : Nat} (hn : 0 < n) : ∀ f {p : Array Nat} (_ : Pl n p) m q, qaP n (fun r => Pl n r.1) (kas_desc f p m q)
 | 0, _, h, _, _ => h
 | f + 1, p, h, m, q => ⟨h.lt hn _, h.lt hn _, fun c => by
  dsimp only
  split
  ·split
   ·exact wQ hn f (h.rev _ _) _ _
   ·exact wQ hn f h _ _
  ·refine ⟨h.lt hn _, h.lt hn _, fun d => ?_⟩
   dsimp only
   split
   ·exact h
   ·exact wQ hn f h _ _⟩
theorem qbT {n : Nat} (hn : 0 < n) {p : Array Nat} (h : Pl n p) (m nrem : Nat) : qaP n (fun r => Pl n r.2) (kas_tail3 m nrem p) :=
 qaP.bind (R := fun _ => True) (n := n) (R' := fun r : Nat × Array Nat => Pl n r.2) (f := fun k => .ret (k, kas_rev p 0 m)) (fun _ _ => h.rev 0 m) (qcl hn (h.rev _ _) _ _)
theorem wR {n : Nat} (hn : 0 < n) {p : Array Nat} (h : Pl n p) (m nrem : Nat) : qaP n (fun r => Pl n r.2) (kas_descPart m nrem p) :=
 qaP.bind (R := fun r => Pl n r.1) (fun r hr => by
  split
  ·exact qbT hn (hr.rev _ _) _ _
  ·exact qbT hn hr _ _) (wQ hn _ h _ _)
theorem qfv {n : Nat} (hn : 0 < n) {p : Array Nat} (h : Pl n p) (nrem : Nat) : qaP n (fun r => Pl n r.2) (kas_count nrem p) :=
 qaP.bind (R := fun _ => True) (fun m _ => by
  split
  ·exact h
  ·split
   ·refine ⟨h.lt hn _, h.lt hn _, fun c => ?_⟩
    dsimp only
    split
    ·exact h
    ·exact wR hn (h.rev _ _) _ _
   ·exact wR hn h _ _) (qcl hn h _ _)
theorem qac {n : Nat} (hn : 0 < n) {p : Array Nat} (h : Pl n p) (k : Nat) : ∀ f l r, qaP n (fun _ => True) (kas_place p k f l r)
 | 0, _, _ => True.intro
 | f + 1, l, r => by
  unfold kas_place
  split
  ·exact True.intro
  ·refine ⟨h.lt hn _, h.lt hn _, fun c => ?_⟩
   dsimp only
   split
   ·exact qac hn h k f _ _
   ·exact qac hn h k f _ _
theorem qeO {n : Nat} (hn : 0 < n) : ∀ f {p : Array Nat} (_ : Pl n p) k, qaP n (Pl n) (kas_bin f p k)
 | 0, _, h, _ => h
 | f + 1, p, h, k => qaP.bind (R := fun _ => True) (fun l _ => qeO hn f (h.of_perm (bubble_perm _ _ _)) _) (qac hn h k _ _ _)
theorem fits_sort {n : Nat} (hn : 0 < n) : qaP n (Pl n) (kas_sort n) :=
 qaP.bind (R := fun r => Pl n r.2) (fun r hr => by
  split
  ·exact qeO hn _ hr _
  ·exact hr) (qfv hn ⟨by simp, by simp⟩ _)
def ord (ks : List Int) : List Nat := if ks.length < 2 then List.range ks.length else (uM (fun i j => decide (ks.getD i 0 < ks.getD j 0)) (kas_sort ks.length)).toList
theorem ord_perm (ks : List Int) : (ord ks).Perm (List.range ks.length) := by
 unfold ord
 split
 ·exact .refl _
 ·exact (qaP.run (fits_sort (by omega))).2
def qmM {α : Type} [Inhabited α] (ks : List Int) (xs : List α) : List α := (ord ks).map fun i => xs.getD i default
theorem map_getD_range {α : Type} (d : α) (xs : List α) : (List.range xs.length).map (fun i => xs.getD i d) = xs := by
 refine List.ext_getElem (by simp) fun i h1 h2 => ?_
 simp at h1 |-
 simp [h1]
theorem byKeys_perm {α : Type} [Inhabited α] {ks : List Int} {xs : List α} (h : ks.length = xs.length) : (qmM ks xs).Perm xs := by
 have := (ord_perm ks).map fun i => xs.getD i default
 rw [h, map_getD_range] at this
 exact this
section
variable {prog : Program} {w : World} {A : Around} {s : Shared}
theorem qdh {vs : List Value} {ks : List Int} (hk : IntsAre vs ks) {i : Nat} (hi : i < ks.length) : ∃ t, vs.getD i Value.none = .int (ks.getD i 0) t := by
 obtain ⟨t, e⟩ := hk.get i ks[i] (gG hi)
 exact ⟨t, by simp [List.getD, e, hi]⟩
theorem wp_run {α : Type} {vs : List Value} {ks : List Int} {R : α -> Prop} {G : α -> Shared -> Prop} (hk : IntsAre vs ks) : ∀ {t : KasT α}, qaP ks.length R t -> G (uM (fun i j => decide (ks.getD i 0 < ks.getD j 0)) t) s -> t.kasWp (kas_ask prog w A oneType' vs) G s
 | .ret _, _, h => h
 | .ask i j k, ⟨h1, h2, h3⟩, h => by
  obtain ⟨t1, e1⟩ := qdh hk h1
  obtain ⟨t2, e2⟩ := qdh hk h2
  show wpAny (model prog w) A (keyLt' oneType' (vs.getD i Value.none) (vs.getD j Value.none)) _ _ s
  rw [e1, e2]
  exact kat_lt_int (wp_run hk (h3 _) h)
end
end L2.Srt
set_option maxHeartbeats 1000000
namespace L2
open PySem PySem.Spec PyProof.Rows
structure SS (X : Cx) (H0 : Hp) (s0 : Shared) (H : Hp) (s : Shared) : Prop where
 os : s.os = s0.os
 bare : AllBare s.gens
 un : Un (frs X.stack) [] H0 H s0.heap s.heap
 hok : HOk X.prog X.w H s.heap
 same : jm H0 H
section
variable {X : Cx} {pins : List (Addr × Obj)} {Z : St} {H0 H : Hp} {s0 s : Shared} {h' : Heap} {b a kS : Addr}
theorem SS.inv (z : SS X H0 s0 H s) (I : Inv X pins Z H0 s0) : Inv X pins Z H s := by
 obtain ⟨hh, g, d, t, os'⟩ := s
 obtain rfl : os' = s0.os := z.os
 exact I.call (h' := hh) (g' := g) (d' := d) (t' := t) (ch := []) z.un z.hok z.bare (fun b z => absurd z (by simp))
theorem SS.of (I : Inv X pins Z H s) : SS X H s H s := ⟨rfl, I.bare, .refl, I.hok, fun _ _ h => h⟩
theorem SS.kept (z : SS X H0 s0 H s) (k : ∀ b u, s.heap.get? b = some u -> h'.get? b = some u) (tk : Nat) : SS X H0 s0 H { s with heap := h', toks := tk } :=
 ⟨z.os, z.bare, z.un.trans (Un.kept k), z.hok.kept k, z.same⟩
theorem SS.poke (z : SS X H0 s0 H s) (hb : H b = none) (hb0 : s0.heap.objs.size <= b) (sb : Heap.SameBut b s.heap h') (tk : Nat) : SS X H0 s0 H { s with heap := h', toks := tk } := by
 have ne : ∀ c o, s0.heap.get? c = some o -> c ≠ b := fun c o e => Nat.ne_of_lt (Nat.lt_of_lt_of_le (Heap.lt_size e) hb0)
 refine ⟨z.os, z.bare, ⟨fun c o e n f x => (sb.2 c (ne c o e)).trans (z.un.keep c o e n f x), fun c o e n f x => ?_, z.un.free, fun c o e x => ?_, z.un.tups, z.un.frzs, z.un.tbls⟩, fun c u q => ?_, z.same⟩
 ·obtain ⟨sl, q⟩ := z.un.slot c o e n f x
  exact ⟨sl, (sb.2 c (ne c o e)).trans q⟩
 ·obtain ⟨o', q⟩ := z.un.there c o e x
  exact ⟨o', (sb.2 c (ne c o e)).trans q⟩
 ·refine (z.hok c u q).stay (fun d v hd r => (sb.2 d ?_).trans r) (fun _ q => q) fun _ _ q => q
  rintro rfl
  rcases hd with rfl | hd
  ·rw [hb] at q; cases q
  ·rw [hb] at hd; cases hd
theorem SS.call {Q : VK} {u : Value} {s' : Shared} (z : SS X H0 s0 H s) (h : CE X.stack X.prog X.w H s Q u s') (hq : ∀ v H', Q v H' -> jm H H') : ∃ v H', jN v u /\ Q v H' /\ SS X H0 s0 H' s' /\ Un (frs X.stack) [] H H' s.heap s'.heap := by
 obtain ⟨v, H', os, bare, un, hok, r, q⟩ := h
 exact ⟨v, H', r, q, ⟨os.trans z.os, bare, z.un.trans un, hok, fun b o e => hq v H' q b o (z.same b o e)⟩, un⟩
end
section
variable {X : Cx} {H0 H : Hp} {s0 s : Shared} {a kS : Addr} {A : Around} {E : Value -> Shared -> Prop} {f : Value} {vs : List Value} {ks : List Int} {e1 : Nat} {P : PySem.Fin -> Shared -> Prop}
abbrev qkw (ks : List Int) (vs : List Value) : List Value := (Srt.ord ks).map fun i => vs.getD i Value.none
theorem qeP (h : ks.length = vs.length) : (qkw ks vs).length = vs.length := by
 rw [lM_, (Srt.ord_perm ks).length_eq, lR_, h]
abbrev qkx (X : Cx) (H0 : Hp) (s0 : Shared) (A : Around) (f v : Value) (k : Int) : Prop := ∀ s' H', SS X H0 s0 H' s' ->
 wpAny (model X.prog X.w) A (call f [v]) (fun u s2 => (∃ t, u = .int k t) /\ ∃ H2, SS X H0 s0 H2 s2 /\ Un (frs X.stack) [] H' H2 s'.heap s2.heap) (fun _ _ => False) s'
abbrev qeQ (X : Cx) (H0 : Hp) (s0 : Shared) (a : Addr) (out : List Value) (P : PySem.Fin -> Shared -> Prop) : Prop :=
 ∀ H' s' c, SS X H0 s0 H' s' -> H' a = none -> s'.heap.get? a = some (seqObj "list" out.toArray c) -> P (.done (.ret .none)) s'
theorem qeR {st : SortSt} {out : List Value} {kA : Array Value} {e : Nat} (z : SS X H0 s0 H s) (gk : s.heap.get? kS = some (seqObj "list" kA e)) (ga : s.heap.get? a = some (seqObj "list" #[] e1)) (nk : H kS = none) (na : H a = none)
  (lk : s0.heap.objs.size <= kS) (la : s0.heap.objs.size <= a) (hka : kS ≠ a) (hkz : kA.size < 64) (hoz : out.length < 64) (ho : (arrOf st).map (·.2) = out.toArray) (hf : failedOf st = none) (fin : qeQ X H0 s0 a out P) :
  wpAny (model X.prog X.w) A (ksk_tail a false e1 (.ref kS) st) P E s := by
 have sb1 := Heap.SameBut.update s.heap kS (Obj.mapSeq fun _ => (#[] : Array Value))
 have ga1 := (sb1.2 a hka.symm).trans ga
 have z1 := z.poke nk lk sb1 s.toks
 have sb2 := Heap.SameBut.update (s.heap.update kS (Obj.mapSeq fun _ => (#[] : Array Value))) a (Obj.mapSeq fun _ => out.toArray)
 have z2 := z1.poke na la sb2 s.toks
 unfold ksk_tail
 dsimp only
 rw [ho]
 refine wpAny_bind (listUpdate_at gk rfl ?_ (by rw [sizeLine_eq]; omega) (Nat.zero_le _))
 refine wpAny_bind (wpAny_letGo (wpAny_bind (seqEpoch_at ga1 rfl ?_)))
 refine wpAny_bind (listUpdate_at ga1 rfl ?_ (Nat.zero_le _) (by show (out.toArray).size <= _; rw [sT_, sizeLine_eq]; omega))
 rw [hf]
 simp only [bne_self_eq_false, Bool.false_eq_true, if_false]
 exact wpAny_pure (fin H _ _ z2 na (get?_update_seq ga1 fun _ => out.toArray))
theorem qky {kA : Array Value} {e : Nat} (z : SS X H0 s0 H s) (gk : s.heap.get? kS = some (seqObj "list" kA e)) (ga : s.heap.get? a = some (seqObj "list" #[] e1)) (nk : H kS = none) (na : H a = none)
  (lk : s0.heap.objs.size <= kS) (la : s0.heap.objs.size <= a) (hka : kS ≠ a) (hk : IntsAre kA.toList ks) (hlen : ks.length = vs.length) (h64 : vs.length < 64) (fin : qeQ X H0 s0 a (qkw ks vs) P) :
  wpAny (model X.prog X.w) A (ksk_end a false vs.toArray e1 (.ref kS) kA) P E s := by
 have hkz : kA.size = vs.length := by
  have h1 := hk.length
  rw [Array.length_toList] at h1
  omega
 unfold ksk_end
 dsimp only
 rw [if_neg (by decide)]
 by_cases h2 : vs.length < 2
 ·have h2' : vs.toArray.size < 2 := by rw [sT_]; exact h2
  rw [if_pos h2', if_pos h2']
  refine wpAny_bind (wpAny_pure ?_)
  rw [StateT.run_pure]
  refine wpAny_bind (wpAny_pure ?_)
  dsimp only
  refine qeR z gk ga nk na lk la hka (by omega) (by rw [qeP hlen]; exact h64) ?_ rfl fin
  have e0 : qkw ks vs = vs := by
   show (Srt.ord ks).map _ = vs
   unfold Srt.ord
   rw [if_pos (by omega), hlen]
   exact Srt.map_getD_range _ vs
  rw [e0]
  apply Array.toList_inj.mp
  show ((kA.zip vs.toArray).map (·.2)).toList = vs.toArray.toList
  rw [Array.toList_map, ksk_zip, List.map_snd_zip (Nat.le_of_eq (by rw [Array.length_toList]; exact hkz.symm))]
 ·have h2' : ¬ vs.toArray.size < 2 := by rw [sT_]; exact h2
  rw [if_neg h2', if_neg h2', ksk_kind hk (by omega)]
  refine wpAny_bind (wpAny_pure ?_)
  have ekA : kA = kA.toList.toArray := by simp
  rw [ekA]
  have hl : kA.toList.length = vs.length := by rw [Array.length_toList]; exact hkz
  refine wpAny_bind (wpAny_mono (PySem.W.kat_run (Q := fun st' s' => s' = s /\ (arrOf st').map (·.2) = (qkw ks vs).toArray /\ failedOf st' = none) (G := fun p s' => s' = s /\ p.toList = Srt.ord ks) hl (by omega) h64 (fun p st' s' a1 a2 a3 a4 => ?_) ?_) ?_ fun _ _ x => x)
  ·refine ⟨a4.1, ?_, a3⟩
   rw [PySem.W.kat_snds hl a2, a4.2]
  ·have ft := Srt.fits_sort (n := ks.length) (by omega)
   rw [<- hlen]
   refine Srt.wp_run hk ft ⟨rfl, ?_⟩
   unfold Srt.ord
   rw [if_neg (by omega)]
  ·rintro ⟨⟨⟩, st'⟩ s' ⟨rfl, h3, h4⟩
   dsimp only
   exact qeR z gk ga nk na lk la hka (by omega) (by rw [qeP hlen]; exact h64) h3 h4 fin
theorem qih (z : SS X H0 s0 H s) (gk : s.heap.get? kS = some (seqObj "list" #[] 0)) (ga : s.heap.get? a = some (seqObj "list" #[] e1)) (nk : H kS = none) (na : H a = none)
  (lk : s0.heap.objs.size <= kS) (la : s0.heap.objs.size <= a) (hka : kS ≠ a) (hlen : ks.length = vs.length) (h64 : vs.length < 64) (hfr : ∀ b ∈ frs X.stack, b < s0.heap.objs.size)
  (turn : ∀ (i : Nat) (v : Value) (k : Int), vs[i]? = some v -> ks[i]? = some k -> qkx X H0 s0 A f v k) (fin : qeQ X H0 s0 a (qkw ks vs) P) : wpAny (model X.prog X.w) A (ksk_rest a f false vs.toArray e1 (.ref kS)) P E s := by
 have nf : ∀ c, s0.heap.objs.size <= c -> c ∉ frs X.stack := fun c hc hm => absurd (Nat.lt_of_lt_of_le (hfr c hm) hc) (Nat.lt_irrefl _)
 unfold ksk_rest
 refine wpAny_bind (wpAny_rule ?_)
 rw [List.forIn_toArray]
 refine wpAny_bind (ksk_fold (fun i s' => ∃ H' kA e, SS X H0 s0 H' s' /\ H' kS = none /\ H' a = none /\ s'.heap.get? kS = some (seqObj "list" kA e) /\ s'.heap.get? a = some (seqObj "list" #[] e1) /\ IntsAre kA.toList (ks.take i)) vs 0 s
  ⟨H, #[], 0, z, nk, na, gk, ga, by simpa using IntsAre.nil⟩ ?step ?done)
 case step =>
  rintro j x s' hx ⟨H', kA, e, z', k1, a1, g1, g2, hi⟩
  rw [Nat.zero_add] at hi |-
  have hj : j < vs.length := (gI_.mp hx).1
  obtain ⟨k, hkj⟩ : ∃ k, ks[j]? = some k := ⟨_, gG (by omega)⟩
  have hz : kA.size <= vs.length := by
   have h1 := hi.length
   rw [Array.length_toList, List.length_take] at h1
   omega
  refine wpAny_bind (wpAny_attempt (wpAny_mono (turn j x k hx hkj s' H' z') (fun v s2 hv => ?_) fun _ _ hF => hF.elim))
  obtain ⟨⟨t, rfl⟩, H2, z2, u2⟩ := hv
  dsimp only
  have gk2 := u2.keep kS _ g1 k1 (nf kS lk) (by simp)
  have ga2 := u2.keep a _ g2 a1 (nf a la) (by simp)
  have nk2 := u2.free kS _ g1 k1 (by simp)
  have na2 := u2.free a _ g2 a1 (by simp)
  have sb := Heap.SameBut.update s2.heap kS (Obj.mapSeq (·.push (.int k t)))
  refine wpAny_bind (listUpdate_at gk2 rfl ?_ (by rw [sizeLine_eq]; omega) (by show (kA.push _).size <= _; rw [Array.size_push, sizeLine_eq]; omega))
  refine wpAny_pure ⟨rfl, H2, kA.push (.int k t), _, z2.poke nk2 lk sb s2.toks, nk2, na2, get?_update_seq gk2 (·.push (.int k t)), (sb.2 a hka.symm).trans ga2, ?_⟩
  have ek : ks.take (j + 1) = ks.take j ++ [k] := by rw [List.take_add_one, hkj]; simp
  have ea : (kA.push (Value.int k t)).toList = kA.toList ++ [Value.int k t] := by simp
  rw [ea, ek]
  exact ksk_snoc hi
 case done =>
  rintro s' ⟨H', kA, e, z', k1, a1, g1, g2, hi⟩
  have e3 : ks.take (0 + vs.length) = ks := List.take_of_length_le (by omega)
  rw [e3] at hi
  refine wpAny_bind (listItems_at g1 rfl ?_)
  exact qky z' g1 g2 k1 a1 lk la hka hi hlen h64 fin
theorem qii {n : Nat} (z : SS X H0 s0 H s) (ho : s.heap.get? a = some (seqObj "list" vs.toArray n)) (na : H a = none) (la : s0.heap.objs.size <= a) (hs0 : s0.heap.objs.size <= s.heap.objs.size) (hlen : ks.length = vs.length) (h64 : vs.length < 64) (hfr : ∀ b ∈ frs X.stack, b < s0.heap.objs.size)
  (turn : ∀ (i : Nat) (v : Value) (k : Int), vs[i]? = some v -> ks[i]? = some k -> qkx X H0 s0 A f v k) (fin : qeQ X H0 s0 a (qkw ks vs) P) : wpAny (model X.prog X.w) A (ksk_tree a f false) P E s := by
 have hlt : a < s.heap.objs.size := Heap.lt_size ho
 have sb := Heap.SameBut.update s.heap a (Obj.mapSeq fun _ => (#[] : Array Value))
 obtain ⟨e1, ho1⟩ : ∃ e1, (s.heap.update a (Obj.mapSeq fun _ => (#[] : Array Value))).get? a = some (seqObj "list" #[] e1) := ⟨_, get?_update_seq ho fun _ => #[]⟩
 have z1 := z.poke na la sb s.toks
 have hsz : ((s.heap.update a (Obj.mapSeq fun _ => (#[] : Array Value))).push (seqObj "tuple" vs.toArray 0)).objs.size = s.heap.objs.size + 1 := by rw [size_push', Heap.size_update]
 unfold ksk_tree
 refine wpAny_bind (listItems_at ho rfl (wpAny_bind (listUpdate_at ho rfl ?_ (by rw [sT_, sizeLine_eq]; omega) (Nat.zero_le _))))
 refine wpAny_bind (seqEpoch_at ho1 rfl (wpAny_bind (wpAny_newTuple ?_ (by show vs.length <= _; rw [sizeLine_eq]; omega))))
 refine wpAny_bind (wpAny_newList (wpAny_holding ?_) (Nat.zero_le _))
 have kp : ∀ b u, (s.heap.update a (Obj.mapSeq fun _ => (#[] : Array Value))).get? b = some u -> (((s.heap.update a (Obj.mapSeq fun _ => (#[] : Array Value))).push (seqObj "tuple" vs.toArray 0)).push (seqObj "list" #[] 0)).get? b = some u :=
  fun b u q => Heap.get?_push_of_some _ (Heap.get?_push_of_some _ q)
 have z3 := z1.kept kp s.toks
 refine qih (kS := ((s.heap.update a (Obj.mapSeq fun _ => (#[] : Array Value))).push (seqObj "tuple" vs.toArray 0)).objs.size) z3 (Heap.get?_push_size _ rfl) (kp _ _ ho1) ?_ na (by rw [hsz]; omega) la (by rw [hsz]; exact Nat.ne_of_gt (Nat.lt_succ_of_lt hlt)) hlen h64 hfr turn fin
 cases q : H ((s.heap.update a (Obj.mapSeq fun _ => (#[] : Array Value))).push (seqObj "tuple" vs.toArray 0)).objs.size with
 | none => rfl
 | some u =>
  have := z.hok.lt q
  rw [hsz] at this
  exact absurd (Nat.lt_of_succ_lt this) (Nat.lt_irrefl _)
end
section
variable {X : Cx} {pins : List (Addr × Obj)} {Z : St} {H : Hp} {s : Shared} {l f : Addr} {vs : List Value} {ks : List Int} {Q : Value -> Shared -> Prop} {E : Value -> Shared -> Prop}
theorem qfw (I : Inv X pins Z H s) (hl : s.heap.IsList l vs.toArray) (hlen : ks.length = vs.length) (h64 : vs.length < 64) (turn : ∀ (i : Nat) (v : Value) (k : Int), vs[i]? = some v -> ks[i]? = some k -> qkx X H s X.A.in1.in1 (.ref f) v k)
  (fin : ∀ D H' s' c, s.heap.objs.size <= D -> SS X H s H' s' -> H' D = none -> s'.heap.get? D = some (seqObj "list" (qkw ks vs).toArray c) -> Q (.ref D) s') : wpAny (model X.prog X.w) X.A (call (.builtin "sorted") [.ref l] [(Str.ofString "key", .ref f)]) Q E s := by
 refine call_function_entry_kw kind_sorted plain_sorted entry_sorted (ksk_s1 _ _) ?_
 unfold Builtin.«sorted»
 refine wpAny_bind (m := checkCount "sorted" 1 1 _) (wpAny_pure (wpAny_bind (collect_list hl ?_ (by rw [sizeLine_eq]; omega))))
 refine wpAny_bind (wpAny_newList ?_ (by rw [sizeLine_eq]; omega))
 have hsz : ((s.heap.push (seqObj "list" #[] 0)).update s.heap.objs.size (Obj.mapSeq (· ++ vs.toArray))).objs.size = s.heap.objs.size + 1 := by rw [Heap.size_update, size_push']
 have hD : (((s.heap.push (seqObj "list" #[] 0)).update s.heap.objs.size (Obj.mapSeq (· ++ vs.toArray))).push (seqObj "list" vs.toArray 0)).get? (s.heap.objs.size + 1) = some (seqObj "list" vs.toArray 0) := by rw [<- hsz]; exact Heap.get?_push_size _ rfl
 have keep : ∀ b o, s.heap.get? b = some o -> (((s.heap.push (seqObj "list" #[] 0)).update s.heap.objs.size (Obj.mapSeq (· ++ vs.toArray))).push (seqObj "list" vs.toArray 0)).get? b = some o := fun b o q => by
  have hb := Heap.lt_size q
  rw [Heap.get?_push_ne _ _ _ (by rw [hsz]; exact Nat.ne_of_lt (Nat.lt_succ_of_lt hb)), Heap.get?_update_ne _ _ _ _ (Nat.ne_of_lt hb), Heap.get?_push_ne _ _ _ (Nat.ne_of_lt hb)]
  exact q
 have z := (SS.of I).kept keep s.toks
 have hfr : ∀ b ∈ frs X.stack, b < s.heap.objs.size := fun b hb => by
  obtain ⟨_, o, ho, _⟩ := I.stack.mem hb
  exact Heap.lt_size ho
 have hszs : s.heap.objs.size <= (((s.heap.push (seqObj "list" #[] 0)).update s.heap.objs.size (Obj.mapSeq (· ++ vs.toArray))).push (seqObj "list" vs.toArray 0)).objs.size := by rw [size_push', hsz]; omega
 show wpAny _ _ _ _ _ { s with heap := ((s.heap.push (seqObj "list" #[] 0)).update s.heap.objs.size (Obj.mapSeq (· ++ vs.toArray))).push (seqObj "list" vs.toArray 0) }
 rw [hsz]
 refine wpAny_bind (wpAny_holding (wpAny_call_entry_kw slot_list_sort ⟨_, hD, rfl⟩ entry_list_sort ?body (ksk_l1 _ _)))
 case body =>
  show wpAny (model X.prog X.w) X.A.in1.in1 (Builtin.«list.sort» ⟨[.ref (s.heap.objs.size + 1)], [(Str.ofString "key", .ref f)]⟩) _ _ _
  rw [ksk_t1]
  refine qii (X := X) (H0 := H) (s0 := s) (H := H) z hD (I.hok.fresh (Nat.le_succ _)) (Nat.le_succ _) hszs hlen h64 hfr turn fun H' s' c z' n' g' => ⟨_, rfl, ?_⟩
  exact wpAny_pure ⟨_, rfl, fin _ H' s' c (Nat.le_succ _) z' n' g'⟩
end
end L2
set_option maxHeartbeats 1000000
namespace L2
open PySem PySem.Spec PyProof.Rows
def CallKS (X : Cx) (f : Value) (ks : List Str) (r : St -> List V -> List V -> Hp -> VK -> Prop) : Prop := ∀ (pins : List (Addr × Obj)) (s : Shared) (Z : St) (H : Hp) (xs : List V) (us : List Value) (zs : List V) (ws : List Value) (Q : VK),
 Inv X pins Z H s -> zg xs us -> zg zs ws -> r Z xs zs H Q -> wpAny (model X.prog X.w) X.A (call f us (ks.zip ws)) (EP X pins Z Q) X.xe s
theorem qgR {X : Cx} {x : Str} {p pos : Pos} {e : Expr} {es : List Expr} {kws : List Keyword} {t tk : TA} {id : String} {ks : List Str} {r : St -> List V -> List V -> Hp -> VK -> Prop} (hc : CallKS X (.builtin id) ks r) (hg : Gl X x) (hm : X.mg x = none) (hv : bootBuiltins x = some (.builtin id)) (ha : PA X (e :: es) t) (hkw : PK X kws tk)
  (hall : (backToKw pos (keywordEach kws X.env)).all (·.1.isSome) = true := by rfl) (hks : (backToKw pos (keywordEach kws X.env)).filterMap (·.1) = ks := by rfl) (hn : x ≠ "__name__" := by decide) (hdb : (x == ("__debug__" : Str)) = false := by decide)
  (he : starEach (e :: es) X.env = (false, eval e X.env) :: starEach es X.env := by rfl) (hpl : ((backTo pos (starEach (e :: es) X.env)).any (·.1) || (backToKw pos (keywordEach kws X.env)).any (·.1.isNone)) = false := by rfl) :
  PE X (.Call (.Name x p) (e :: es) kws pos) (fun Z H Q => t Z H fun vs H1 => tk Z H1 fun zs H2 => r Z vs zs H2 Q) := by
 intro pins s Z H Q I h
 refine wpAny_Call_Name_kw (qax I hg hm hv ?_ hn hdb)
 refine PySem.W.callWith_of (P := fun _ => True) hpl (fun _ _ => ⟨.machine, .inr (.inl rfl), .now⟩) (evalArgs_kw2 hall (thn (ha pos pins s Z H _ I h) fun us s1 ⟨vs, H1, I1, r1, q1⟩ => ?_) he)
 refine thn (hkw pos pins s1 Z H1 _ I1 q1) fun ws s2 ⟨zs, H2, I2, rz, q2⟩ => ⟨trivial, ?_⟩
 rw [hks, List.nil_append]
 exact hc pins s2 Z H2 vs us zs ws Q I2 r1 rz q2
def qmN (X : Cx) (N' : List Str) (fr : List Nat) (q : Str) (params : Arguments) (body : Expr) (scope : Scope) : St -> List V -> List V -> Hp -> VK -> Prop := fun Z xs zs H Q =>
 ∃ (a f kc : Addr) (ys : List V) (oc : Obj) (vs : Array Value) (t : Tok) (cl : List (Str × Addr)) (pm ctv : Value) (ks : List Int) (ws : List V), xs = [.ref a] /\ zs = [.ref f] /\ SqL X.K H a ys /\ ys.length < 64 /\ ks.length = ys.length /\
  H f = some (.frz (PySem.W.kla_obj "<lambda>" q params body scope cl pm kc ctv) (.own f)) /\ H kc = some (.frz oc (.own kc)) /\ oc.data = .fields vs /\ vs[1]? = some (.str q t) /\
  (∀ n a, cl.lookup n = some a -> X.env.cells.lookup n = some a) /\ (∀ y ∈ scope.names, y.2 = .free -> ∃ a, cl.lookup y.1 = some a) /\ ws.length = fr.length /\ (∀ (k j : Nat), fr[k]? = some j -> ∃ y, ws[k]? = some y /\ Z[j]? = some (some y)) /\
  (∀ (i : Nat) (y : V) (k : Int), ys[i]? = some y -> ks[i]? = some k -> ∀ H' s', jm H H' -> ∃ tb, PE (qgP X N' q scope cl f kc X.A.in1.in1 s' H') body tb /\ tb (z4 N' (y :: ws)) H' (fun v H2 => v = .int k /\ jm H' H2)) /\
  ∀ H' p, jm H H' -> H' p = none -> Q (.ref p) (upd H' p (.lst ((Srt.ord ks).map fun i => ys.getD i .non)))
theorem qdi {ys : List V} {its : List Value} (r : zg ys its) : ∀ l : List Nat, (∀ i ∈ l, i < ys.length) -> zg (l.map fun i => ys.getD i .non) (l.map fun i => its.getD i Value.none)
 | [], _ => .nil
 | i :: l, h => by
  refine .cons ?_ (qdi r l fun j hj => h j (mM _ hj))
  have hi := h i mS_
  obtain ⟨u, hu, rv⟩ := r.get (gG hi)
  have e1 : ys.getD i V.non = ys[i] := by simp [hi]
  have e2 : its.getD i Value.none = u := by simp [List.getD, hu]
  show jN (ys.getD i V.non) (its.getD i Value.none)
  rw [e1, e2]
  exact rv
section
variable {X : Cx} {N' : List Str} {fr : List Nat} {q x : Str} {params : Arguments} {body : Expr} {scope : Scope} {k : Nat}
theorem qfx (S : Sk.CompScope X scope N' 1 fr) (hc : X.calm = true) (hr : vn k X.A) (hb : ∀ cl pm cd ctv u, bindArgs (PySem.W.kla_fn "<lambda>" q params body scope cl pm cd ctv) ⟨[u], []⟩ = pure [(x, u)])
  (hx : N'[0]? = some x) (hxl : scope.names.lookup x = some .local) (hco : scope.isCoroutine = false) (hgen : scope.isGenerator = false) : CallKS X (.builtin "sorted") [Str.ofString "key"] (qmN X N' fr q params body scope) := by
 intro pins s Z H xs us zs wz Q I rx rz h
 obtain ⟨a, f, kc, ys, oc, vs, t, cl, pm, ctv, ks, ws, rfl, rfl, hs, h64, hlen, hf, hk, hd, hv, cl1, cl2, hwl, hws, key, hq⟩ := h
 cases rx with
 | cons ra rr =>
 cases rr
 cases rz with
 | cons rf rr =>
 cases rr
 cases ra
 cases rf
 obtain ⟨its, r, ht, hz⟩ := I.list hs
 have hl := r.length
 refine qfw (ks := ks) I ht.isList (by omega) (by omega) (fun i v k' hvi hki s' H' z => ?_) fun D H' s' c hD z' n' g' => ?_
 ·have hi : i < ys.length := by rw [hl]; exact (gI_.mp hvi).1
  obtain ⟨u, hu, ry⟩ := r.get (gG hi)
  rw [hvi] at hu; cases hu
  obtain ⟨tb, pb, qb⟩ := key i ys[i] k' (gG hi) hki H' s' z.same
  refine thn (qig (A := X.A.in1.in1) S (z.inv I) (z.same _ _ hf) (z.same _ _ hk) hd hv cl1 cl2 (I.ok.hd hc) I.ok.frames hr.depth (hb _ _ _ _) hx hxl hco hgen ry hwl hws pb qb) fun u s2 ce => ?_
  obtain ⟨v', H2, r2, ⟨rfl, sm⟩, z2, u2⟩ := z.call ce fun v H' q => q.2
  obtain ⟨t2, rfl⟩ := r2
  exact ⟨⟨t2, rfl⟩, H2, z2, u2⟩
 ·have hpl : ∀ i ∈ Srt.ord ks, i < ys.length := fun i hi => by
   have := (Srt.ord_perm ks).mem_iff.mp hi
   rw [<- hlen]; exact mR_.mp this
  have hnone : s.heap.get? D = none := Heap.get?_none_of_le hD
  have rp := qdi r (Srt.ord ks) hpl
  have ol : ((Srt.ord ks).map fun i => ys.getD i V.non).length <= sizeLine := by
   rw [lM_, (Srt.ord_perm ks).length_eq, lR_, sizeLine_eq]; omega
  have ne' : ∀ c u, H' c = some u -> c ≠ D := fun c u q z => by rw [z, n'] at q; cases q
  have hok : HOk X.prog X.w (upd H' D (.lst ((Srt.ord ks).map fun i => ys.getD i .non))) s'.heap := fun b u e => by
   by_cases hbD : b = D
   ·subst hbD
    rw [qw] at e; cases e
    exact ⟨ol, _, _, rp, g'⟩
   ·rw [qv hbD] at e
    exact (z'.hok b u e).stay (fun _ _ _ q => q) (fun c q => by rw [qv (ne' c _ q)]; exact q) (fun c xs q => by rw [qv (ne' c _ q)]; exact q) fun c ob y q => by rw [qv (ne' c _ q)]; exact q
  have un := Sk.un_held (o := .lst ((Srt.ord ks).map fun i => ys.getD i .non)) z'.un hnone n'
  have zz : SS X H s (upd H' D (.lst ((Srt.ord ks).map fun i => ys.getD i .non))) s' := ⟨z'.os, z'.bare, un, hok, fun b o e => wP n' b o (z'.same b o e)⟩
  exact ⟨.ref D, _, zz.inv I, rfl, hq H' D z'.same n'⟩
end
end L2
namespace L2.Sk
open PySem PySem.Spec PyProof.Rows
def qld (U : Env) : List Nat -> Option (List D)
 | [] => some []
 | j :: fr => match U[j]?, qld U fr with
  | some (some d), some ds => some (d :: ds)
  | _, _ => none
def qbk (g : M D) (n : Nat) (cs : List D) : List D -> Option (List Int)
 | [] => some []
 | d :: ds => match g (ud n (d :: cs)), qbk g n cs ds with
  | .ok (.int k, _), some ks => some (k :: ks)
  | _, _ => none
def qfy (l : List Nat) (ds : List D) : List D := l.map fun i => ds.getD i .non
def qeS (n : Nat) (fr : List Nat) (f g : M D) : M D := bnd f fun d U => match d with
 | .lst ds => if ds.length < 64 then match qld U fr with
   | some cs => match qbk g n cs ds with
    | some ks => .ok (.lst (qfy (Srt.ord ks) ds), U)
    | none => .bad
   | none => .bad
  else .bad
 | _ => .bad
theorem qdj {g : M D} {n : Nat} {cs : List D} : ∀ {ds : List D} {ks : List Int}, qbk g n cs ds = some ks -> ks.length = ds.length
 | [], ks, h => by cases h; rfl
 | d :: ds, ks, h => by
  unfold qbk at h
  split at h
  ·rename_i e2; cases h; rw [lC_, lC_, qdj e2]
  ·cases h
theorem qdk {g : M D} {n : Nat} {cs : List D} : ∀ {ds : List D} {ks : List Int} {i : Nat} {d : D} {k : Int}, qbk g n cs ds = some ks -> ds[i]? = some d -> ks[i]? = some k -> ∃ U, g (ud n (d :: cs)) = .ok (.int k, U)
 | [], _, _, _, _, _, h, _ => by simp at h
 | d0 :: ds, ks, i, d, k, h, h1, h2 => by
  unfold qbk at h
  split at h
  ·rename_i k0 U0 ks0 e1 e2
   cases h
   cases i with
   | zero =>
    have a1 : d0 = d := by simpa using h1
    have a2 : k0 = k := by simpa using h2
    subst a1 a2
    exact ⟨_, e1⟩
   | succ i => exact qdk e2 (by simpa using h1) (by simpa using h2)
  ·cases h
theorem qgS {K : Fr0} {c : Fc} {U : Env} {Z : St} {H : Hp} (r : Rep K c U Z H) : ∀ {fr : List Nat} {cs : List D}, qld U fr = some cs -> (∀ j ∈ fr, j ∉ c.O) ->
  ∃ ws, ws.length = fr.length /\ (∀ (k j : Nat), fr[k]? = some j -> ∃ y, ws[k]? = some y /\ Z[j]? = some (some y)) /\ IsL K (Cn c Z) H cs ws
 | [], cs, h, _ => by cases h; exact ⟨[], rfl, fun k j e => by simp at e, rfl⟩
 | j0 :: fr, cs, h, ho => by
  unfold qld at h
  split at h
  ·rename_i d ds e1 e2
   cases h
   obtain ⟨ws, a1, a2, a3⟩ := qgS r e2 fun j hj => ho j (mM _ hj)
   obtain ⟨v, b1, b2⟩ := r.get (ho j0 mS_) e1
   refine ⟨v :: ws, by rw [lC_, lC_, a1], fun k j e => ?_, v, ws, rfl, b2, a3⟩
   cases k with
   | zero =>
    have : j0 = j := by simpa using e
    subst this
    exact ⟨v, rfl, b1⟩
   | succ k => exact a2 k j (by simpa using e)
  ·cases h
theorem IsL.pick {K : Fr0} {A : Addr -> Prop} {H : Hp} {ds : List D} {xs : List V} (il : IsL K A H ds xs) : ∀ l : List Nat, (∀ i ∈ l, i < ds.length) -> IsL K A H (qfy l ds) (l.map fun i => xs.getD i .non)
 | [], _ => rfl
 | i :: l, h => by
  have hi := h i mS_
  obtain ⟨y, hy, iy⟩ := il.get (gG hi)
  refine ⟨xs.getD i .non, _, rfl, ?_, IsL.pick il l fun j hj => h j (mM _ hj)⟩
  have e1 : ds.getD i D.non = ds[i] := by simp [hi]
  have e2 : xs.getD i V.non = y := by simp [List.getD, hy]
  rw [e2]
  show Is K A H (ds.getD i D.non) y
  rw [e1]
  exact iy
section
variable {X : Cx} {c : Fc} {e : Expr} {p pos kpos lpos : Pos} {N' : List Str} {fr : List Nat} {x : Str} {params : Arguments} {body : Expr} {scope : Scope} {k : Nat} {c0 Pt : Addr}
theorem qij {f g : M D} (he : DE X c e f) (S : CompScope X scope N' 1 fr) (hfo : ∀ j ∈ fr, j ∉ c.O) (hr : vn k X.A) (hg : Gl X "sorted") (hm : X.mg "sorted" = none) (hcode : X.env.code = .ref c0) (hC : PySem.W.codeHdIn X.K c0 Pt = true) (hlm : qbC X.K = some (c0, Pt, lpos))
  (hb : ∀ cl f kc s' H' B, DE (qgP X N' qk8 scope cl f kc X.A.in1.in1 s' H') (cfn [] [] B H' (fun _ => False) (fun _ _ => False) fun _ => none) body g)
  (hc : X.calm = true := by rfl) (hq : X.env.qual ++ "<lambda>" = qk8 := by rfl) (hdef : defaultsOf params X.env = ([], []) := by rfl)
  (hbind : ∀ cl pm cd ctv u, bindArgs (PySem.W.kla_fn "<lambda>" qk8 params body scope cl pm cd ctv) ⟨[u], []⟩ = pure [(x, u)] := by intros; rfl)
  (hx : N'[0]? = some x := by rfl) (hxl : scope.names.lookup x = some .local := by rfl) (hco : scope.isCoroutine = false := by rfl) (hgen : scope.isGenerator = false := by rfl)
  (hst : starEach [e] X.env = (false, eval e X.env) :: starEach [] X.env := by rfl) (hpl : ((backTo pos (starEach [e] X.env)).any (·.1) || (backToKw pos (keywordEach [⟨some "key", .Lambda params body scope lpos, kpos⟩] X.env)).any (·.1.isNone)) = false := by rfl) :
  DE X c (.Call (.Name "sorted" p) [e] [⟨some "key", .Lambda params body scope lpos, kpos⟩] pos) (qeS N'.length fr f g) := by
 obtain ⟨te, pe, we⟩ := he
 refine ⟨_, qgR (qfx S hc hr hbind hx hxl hco hgen) hg hm rfl (uu pe qaX hst) (qjN (qmL hq hcode hC S.frees hdef) qlK) (he := hst) (hpl := hpl), fun U Z H Q r h => ?_⟩
 refine we U Z H _ r (Wp.bnd h fun d U1 v H1 r1 i1 g1 h1 => ?_)
 refine ⟨(r1.tb _ _ _ hlm).1, fun f kc oc vs t cl pm ctv H2 sm hf hk hd hv cl1 cl2 => ?_⟩
 have r2 := r1.same sm
 cases d <;> try exact h1.elim
 rename_i ds
 by_cases h64 : ds.length < 64
 case neg => simp only [h64, if_false] at h1; exact h1.elim
 simp only [h64, if_true] at h1
 cases hcp : qld U1 fr with
 | none => simp only [hcp] at h1; exact h1.elim
 | some cs =>
  simp only [hcp] at h1
  cases hks : qbk g N'.length cs ds with
  | none => simp only [hks] at h1; exact h1.elim
  | some ks =>
   simp only [hks] at h1
   obtain ⟨ws, w1, w2, w3⟩ := qgS r2 hcp hfo
   have hl := qdj hks
   have i2 : Is X.K (Cn c Z) H2 (.lst ds) v := Is.ext (Ext.of_same sm) (fun _ h _ => h) i1
   obtain ⟨a, ys, rfl, hA, ta, il⟩ := i2
   have hyl := il.length
   refine ⟨a, f, kc, ys, oc, vs, t, cl, pm, ctv, ks, ws, rfl, rfl, .inl (.inl ta), by omega, by omega, hf, hk, hd, hv, cl1, cl2, w1, w2, fun i y k' hy hki H' s' sm' => ?_, fun H' p' sm' hp => ?_⟩
   ·obtain ⟨tb, pb, wb⟩ := hb cl f kc s' H' (Cn c Z)
    have hi : i < ds.length := by rw [<- hyl]; exact (gI_.mp hy).1
    obtain ⟨y', e1, e2⟩ := il.get (gG hi)
    rw [hy] at e1; cases e1
    obtain ⟨U', eg⟩ := qdk hks (gG hi) hki
    have il' : IsL X.K (Cn c Z) H' (ds[i] :: cs) (y :: ws) := ⟨y, ws, rfl, Is.ext (Ext.of_same sm') (fun _ h _ => h) e2, IsL.ext (Ext.of_same sm') (fun _ h _ => h) w3⟩
    refine ⟨tb, pb, wb (ud N'.length (ds[i] :: cs)) (z4 N' (y :: ws)) H' _ (qbd il' (r2.same sm').tb fun i hi => by cases hi) ?_⟩
    rw [eg]
    exact fun v' H3 r3 i3 g3 => ⟨i3, fun b o q => g3.ext.at_ b o (fun j hj => by cases hj) q⟩
   ·have r3 := r2.same sm'
    have hpl : ∀ i ∈ Srt.ord ks, i < ds.length := fun i hi => by
     have := (Srt.ord_perm ks).mem_iff.mp hi
     rw [<- hl]; exact mR_.mp this
    have ip := IsL.pick (IsL.ext (Ext.of_same sm') (fun _ h _ => h) il) (Srt.ord ks) hpl
    have smA : jm H1 (upd H' p' (.lst ((Srt.ord ks).map fun i => ys.getD i .non))) := fun b o q => qA hp _ b o (sm' b o (sm b o q))
    exact h1 _ _ (r3.laid hp _) ⟨p', _, rfl, r3.new hp, qw, IsL.ext (Ext.of_same (qA hp _)) (fun _ h _ => h) ip⟩ (.of_same smA)
theorem qik {n : Nat} {fr : List Nat} {f g : M D} {U U1 : Env} {ds cs : List D} {ks : List Int} (h : f U = .ok (.lst ds, U1)) (h64 : ds.length < 64) (hc : qld U1 fr = some cs) (hk : qbk g n cs ds = some ks) : qeS n fr f g U = .ok (.lst (qfy (Srt.ord ks) ds), U1) := by
 unfold qeS bnd
 simp only [h, h64, if_true, hc, hk]
end
end L2.Sk
namespace L2
open PySem PySem.Spec PyProof.Rows
theorem walk_lam {l : PySem.W.OpenLaw} {n k : Nat} {q : Program} {loose : List Str} {XP : (Str -> Option Value) -> Heap -> Prop} {YP : World -> Heap -> Prop} {d : DefRec} {K : Params -> PySem.W.Frag} {CX : World -> CXT} {sp : World -> Sp} {x : Str}
  (hn : l.most = some n) (hn2 : n <= sizeLine) (hdf : d.params.defaults = []) (hr : vn k callerA)
  (hY : ∀ (w : World) (h : Heap), YP w h -> (K w.params).In h) {lm : World -> Option (Addr × Addr × Pos × Str)}
  (hlm : ∀ (w : World) (mean : ExcName -> Option Value) (mg mb : Str -> Option Value) (h : Heap) (c Pt : Addr) (pos : Pos) (z : Str), Top q (PySem.W.looseW q loose) mean mg mb h -> (K w.params).In h -> lm w = some (c, Pt, pos, z) ->
   PySem.W.CodeHd h c Pt /\ h.get? Pt = some (PySem.W.tabObj #[]) /\ (K w.params).lookup Pt = none)
  (F : ∀ (w : World) (mg : Str -> Option Value) (fa : Addr) (h : Heap), (K w.params).In h -> h.Ns mainGlobals mg -> mg d.name = some (.ref fa) ->
   ∃ fd : FuncData, (∀ (s : Shared) (u : Value), BindsTo s fd ⟨[u], []⟩ [(x, u)]) /\
    ∀ base : Heap, (K w.params).In base -> base.Ns mainGlobals mg -> qbA l.prog w (K w.params) mg base (CX w) k fa fd [x] (sp w))
  (hsp : ∀ (w : World) (H : Hp) (a : Addr) (ns : List Int), ns.length <= n -> qna H -> (∀ c Pt pos z, lm w = some (c, Pt, pos, z) -> H Pt = some (.lam pos z)) -> SqL (K w.params) H a (ns.map V.int) -> sp w [.ref a] H (fun v _ => v = .bl true) fun _ _ _ => False)
  (hCX : ∀ (w : World) (H : Hp) (s : Shared) (e : Value) (s' : Shared), CX w [] H s (fun _ _ _ => False) e s' -> False) :
  PySem.W.WalkO q loose XP YP l.row.toRowW d [] (fun f vs => PySem.call f vs) := by
 refine Att.attach_call hn hdf fun w s₀ sQ mg mb fa o pm cd doc a vs ns G Y ho hd hcd hmg hobj hints hlen hg => ?_
 have KX := hY w _ Y
 obtain ⟨fd, hb, hF⟩ := F w mg fa _ KX G.T.g hmg
 exact qhK (lm := lm w) KX G.T.g G.T.b G.T.builtins G.T.nolimit G.T.bmain (fun c Pt pos z => hlm w _ mg mb _ c Pt pos z G.T KX) hg hobj hints (Nat.le_trans hlen hn2) hr hF hb (fun H hO hT hS => hsp w H a ns hlen hO hT hS) fun H e s' => hCX w H sQ e s'
end L2
namespace L2.Sk
open PySem PySem.Spec PyProof.Rows
theorem qkz {K : Fr0} {c Pt : Addr} {pos : Pos} (hl : qbC K = some (c, Pt, pos)) : PySem.W.tabIn K "dearest_first" = some (c, Pt) := by
 unfold qbC at hl
 split at hl
 ·rename_i c' P' f e1 e2
  split at hl
  ·cases h3 : qiQ (FuncData.body _) with
   | none => rw [h3] at hl; cases hl
   | some p3 => rw [h3] at hl; cases hl; exact e1
  ·cases hl
 ·cases hl
theorem lam_table {q : Program} {loose : List Str} {mean : ExcName -> Option Value} {mg mb : Str -> Option Value} {h : Heap} {K : Fr0} {c Pt : Addr} {pos : Pos} {d : DefRec} (T : Top q loose mean mg mb h) (X : K.In h) (hl : qbC K = some (c, Pt, pos))
  (hd : (recsOf q).find? (fun e => e.name == ("dearest_first" : Str)) = some d) (hK : PySem.W.noTabs K = true) : PySem.W.CodeHd h c Pt /\ h.get? Pt = some (PySem.W.tabObj #[]) /\ K.lookup Pt = none := by
 have ht := qkz hl
 obtain ⟨h1, h2⟩ := PySem.W.tab_of T X hd ht
 refine ⟨h1, h2, ?_⟩
 cases e : K.lookup Pt with
 | none => rfl
 | some o =>
  have e2 := X _ _ e
  rw [h2] at e2
  cases e2
  have h3 := List.all_eq_true.mp hK (Pt, PySem.W.tabObj #[]) (PySem.W.mem_of_lookupK e)
  exact absurd (show false = true from h3) Bool.false_ne_true
section
variable {P : Program} {w : World} {K : PySem.W.Frag} {mg : Str -> Option Value} {base : Heap}
theorem qil {x qual : Str} {st : Stmt} {f : Addr} {fd : FuncData} {N ps : List Str} {k : Nat} {O : List Nat} {body : MS} (F : Fun K x qual st f fd) (S : qs N ps (qe st)) (hO : ∀ i ∈ O, ps.length <= i)
  (hb : ∀ (A : Around) (outer : List PySem.Env) (s : Shared) (H : Hp) (E : XK) (B : Addr -> Prop), vn k (A.deeper (envOfC qual (qe st) s.heap.objs.size f fd.code)) ->
   DSs (qhI CX0 P w K mg base N qual (qe st) f fd.code A outer s H E).nox (cfn O [] B H (fun _ => False) (fun _ _ => False) fun _ => none) (qr st) body) :
  qbA P w K mg base CX0 (k + 1) f fd ps (spD K (dfn N.length ps.length body)) := by
 obtain ⟨oc, od, kV, doc, pm, an, cdv, ct, osl, rfl, lk, hcd⟩ := F.ex
 refine qlL lk hcd S (fun vs H Q E h => ?_) fun A outer s H vs Q E hr h => ?_
 ·obtain ⟨ds, B, il, _, h⟩ := h
  unfold dfn at h
  by_cases e : ds.length = ps.length
  ·rw [il.length]; exact e
  ·rw [if_neg e] at h; exact h.elim
 ·obtain ⟨ds, B, il, tb, h⟩ := h
  obtain ⟨t, p, wt⟩ := hb A outer s H E B hr
  refine ⟨t, p.nox, ?_⟩
  unfold dfn at h
  by_cases e : ds.length = ps.length
  ·rw [if_pos e] at h
   refine wt (ud N.length ds) (z4 N vs) H _ (qbd il tb (fun i hi => by rw [e]; exact hO i hi)) ?_
   have same : ∀ {U : Env} {Z : St} {H' : Hp}, Rep K (cfn O [] B H (fun _ => False) (fun _ _ => False) fun _ => none) U Z H' -> jm H H' := fun r b o hb => r.kp b o hb fun z => z
   cases eb : body (ud N.length ds) with
   | bad => rw [eb] at h; exact h.elim
   | exc z U => rw [eb] at h; exact h.elim
   | ok fl =>
    rw [eb] at h
    cases fl with
    | nx U => exact fun Z' H' r' _ => h .non H' (same r') rfl
    | rt d U => exact fun v Z' H' r' i' _ => h v H' (same r') i'
    | bk U => exact h.elim
    | ct U => exact h.elim
  ·rw [if_neg e] at h; exact h.elim
end
section
variable {X : Cx} {c : Fc} {a b e : Expr} {pos : Pos}
def qnV (i : Nat) (f : M D) : M D := fun U => match zx i U with
 | none => .bad
 | some _ => (bnd f fun d U => match d, (zx i U).bind wF with
  | .int b, some ns => match ns.findIdx? (· == b) with
   | some j => .ok (.non, U.set i (some (.lst ((ns.eraseIdx j).map D.int))))
   | none => .bad
  | _, _ => .bad) U
end
end L2.Sk
namespace L2.Sk
open PySem PySem.Spec PyProof.Rows
section
variable {X : Cx}
theorem qeT : OpR X (compareOp .IsNot) (fun x y H Q => ∃ a b, x = .bl a /\ y = .bl b /\ Q (.bl (a != b)) H) := by
 intro pins s Z H x y v u Q I rx ry h
 obtain ⟨a, b, rfl, rfl, q⟩ := h
 cases rx
 cases ry
 exact isnot_bool (qY I q rfl)
end
def qpq : D -> D -> Option D
 | .bl a, .bl b => some (.bl (a == b))
 | _, _ => none
def qfz : D -> D -> Option D
 | .bl a, .bl b => some (.bl (a != b))
 | _, _ => none
theorem qdl {K : Fr0} : OpS K qfz (fun x y H Q => ∃ a b, x = .bl a /\ y = .bl b /\ Q (.bl (a != b)) H) := by
 intro A H x y d v u Q hn ix iy e k
 cases x <;> cases y <;> simp only [qfz] at e <;> first
  | (cases e; done)
  | (cases ix; cases iy; cases e; exact ⟨_, _, rfl, rfl, k _ H (jm.refl H) rfl⟩)
end L2.Sk
namespace L2
open PySem PySem.Spec PyProof.Rows
section
variable {X : Cx} {pos : Pos}
theorem qgT {h : Heap} {a : Addr} {items : Array Value} (p : PlainL h a items) : h.IsList a items := by
 obtain ⟨o, n, e, h1, h2, d⟩ := p
 exact ⟨o, e, h1, n, d⟩
def qpb (K : PySem.W.Frag) (n : Nat) (t : TGs) : TG := fun v Z H Q => ∃ a xs, v = .ref a /\ SqL K H a xs /\ xs.length = n /\ t xs Z H Q
theorem qmO {es : List Expr} {k : Nat} {t : TGs} {n : Nat} (hc : X.calm = true) (h : PGs X es t)
  (hn : (assignEach es X.env).length = n := by rfl) (hst : (assignEach es X.env).findIdx? (·.1) = none := by rfl) : PG X (.Tuple es k pos) (qpb X.K n t) := by
 intro pins s Z H v u Q I r hw
 obtain ⟨a, xs, e1, hq, hl, hw⟩ := hw
 subst e1
 cases r
 obtain ⟨its, rv, ht, hz⟩ := I.list hq
 have hsz : (assignEach es X.env).length = its.toArray.size := by simp [hn, <- hl, rv.length]
 unfold assign
 refine wpAny_bind (wpAny_standAt ?_)
 unfold unpack
 rw [hst, hsz]
 refine wpAny_bind (wpAny_holding (PySem.W.kun_itemsOf (I.ok.hd hc) (qgT ht) fun h' hx => ?_))
 have I1 : Inv X pins Z H { s with heap := h' } := I.kept (t' := s.toks) fun b o e => hx b o (Nat.ne_of_lt (Heap.lt_size e)) e
 exact h pins _ Z H xs _ Q I1 (by simpa using rv) hw
end
end L2
namespace L2.Sk
open PySem PySem.Spec PyProof.Rows
section
variable {X : Cx} {c : Fc}
def qox (n : Nat) (g : List D -> Env -> Option Env) : D -> Env -> Option Env
 | .lst ds, U => if ds.length = n then g ds U else none
 | _, _ => none
theorem qmP {es : List Expr} {k n : Nat} {p : Pos} {g : List D -> Env -> Option Env} (hc : X.calm = true) (h : DGs X c es g) (hn : (assignEach es X.env).length = n := by rfl) (hst : (assignEach es X.env).findIdx? (·.1) = none := by rfl) : DG X c (.Tuple es k p) (qox n g) := by
 obtain ⟨t, p, w⟩ := h
 refine ⟨_, qmO (n := n) hc p hn hst, fun U Z H d v U' N r h e q => ?_⟩
 cases d with
 | lst ds =>
  obtain ⟨a, xs, rfl, _, ta, il⟩ := h
  have e' : (if ds.length = n then g ds U else none) = some U' := e
  by_cases hl : ds.length = n
  ·rw [if_pos hl] at e'
   exact ⟨a, xs, rfl, SqL.of ta, by rw [il.length]; exact hl, w U Z H ds xs U' N r il e' q⟩
  ·rw [if_neg hl] at e'; cases e'
 | _ => cases e
end
end L2.Sk
namespace L2.Sk
namespace Law
open PySem PySem.Spec PyProof.Rows
set_option maxHeartbeats 4000000
theorem qji (ds : List D) (r : Env) : zx 0 (some (.lst ds) :: r) = some ds := rfl
theorem qjj (i : Nat) (o : Option D) (r : Env) : zx (i + 1) (o :: r) = zx i r := rfl
theorem ix0 (a b c : D) : ixD (.tup [a, b, c]) (.int 0) = some a := rfl
theorem ix1 (a b c : D) : ixD (.tup [a, b, c]) (.int 1) = some b := rfl
theorem ix2 (a b c : D) : ixD (.tup [a, b, c]) (.int 2) = some c := rfl
theorem uR (i j : Int) : neB (.int i) (.int j) = some (.bl (!decide (i = j))) := rfl
theorem qad (i j : Int) : eqB (.int i) (.int j) = some (.bl (decide (i = j))) := rfl
theorem vw (ds : List D) : qdV (tyD (.tup ds)) "tuple" = true := rfl
theorem ug (ds : List D) : qdT [.tup ds] = some (.int ds.length) := rfl
theorem qbU (d : D) : isN d .non = some (.bl (yx d)) := rfl
theorem qgU (d : D) : qjW d .non = some (.bl (!yx d)) := rfl
theorem vx (i j : Int) : gtD (.int i) (.int j) = some (.bl (decide (j < i))) := rfl
theorem qgV (i j : Int) : ltD (.int i) (.int j) = some (.bl (decide (i < j))) := rfl
theorem qd4 (i j : Int) : leD (.int i) (.int j) = some (.bl (decide (i <= j))) := rfl
local macro_rules | `(tactic| push_cast [$xs,*]) => `(tactic| simp only [ud, qcf, qmp, jq, qeC, qgu, qi7, qnM, qnN, qab, j8, qi8, qki, uf, qgv, qeD, qd0, qeE, qmq, qi9, qh2, qh3, wM, qbf, qcg, qch, qjb, qeF, qgw, ve, qbg, qgx, qda, qdb, qgy, qgz, qd1, qgA, qd2, qjc, qdc, qmr, qgB, lC_, lN_, mC_, List.map_nil, List.replicate, List.nil_append, List.cons_append, List.append_nil, List.getElem?_cons_zero, List.getElem?_cons_succ, List.set_cons_zero, List.set_cons_succ, Nat.reduceAdd, Nat.reduceSub, Nat.sub_self, Nat.zero_add, reduceIte, Bool.not_true, Bool.not_false, Bool.false_eq_true, if_true, if_false, ite_true, ite_false, cond_true, cond_false, decide_true, decide_false, ix0, ix1, ix2, vw, ug, uR, qad, qbU, qgU, vx, qgV, qd4, qji, qjj, qeJ, qeK, qeL, qje, qgK, qd3, $xs,*])
theorem yZ {n p : Nat} {body : MS} {ds : List D} {d : D} (h : ds.length = p) (e : ∃ U, body (ud n ds) = .ok (.rt d U)) : dfn n p body ds = .ok d := by
 obtain ⟨U, e⟩ := e
 exact qkj h e
def qkA : D -> Bool
 | .int _ => true
 | _ => false
def zN : D -> Bool
 | .int i => decide (0 <= i)
 | _ => false
def qgW : D -> Bool
 | .int i => decide (0 < i)
 | _ => false
def vf : D -> Bool
 | .tup [a, b, c] => qgW a && zN b && (yx c || zN c)
 | _ => false
theorem qoy {ds : List D} (h : ds.length = 3) : ∃ a b c, ds = [a, b, c] := by
 match ds, h with
 | [a, b, c], _ => exact ⟨a, b, c, rfl⟩
theorem qbV {ds : List D} (h : ds.length ≠ 3) : vf (.tup ds) = false := by
 match ds, h with
 | [], _ => rfl
 | [_], _ => rfl
 | [_, _], _ => rfl
 | [a, b, c], h => exact absurd rfl h
 | _ :: _ :: _ :: _ :: _, _ => rfl
theorem qo {p q : MS} {U U' : Env} (h : p U = .ok (.nx U')) : qT p q U = q U' := by rw [qja, h]
theorem uh {p q : MS} {U U' : Env} {d : D} (h : p U = .ok (.rt d U')) : qT p q U = .ok (.rt d U') := by rw [qja, h]
theorem qmQ {e : M D} {f : D -> D} : ∀ (ds acc : List D) (o : Option D), (∀ d ∈ ds, e [some d] = .ok (f d, [some d])) -> acc.length + ds.length <= 1000 -> ∃ U', zt (qF 0) (ret true) e ds acc [o] = .ok (acc ++ ds.map f, U')
 | [], acc, o, _, _ => ⟨[o], by simp [zt]⟩
 | d :: ds, acc, o, h, hl => by
  have hl' : acc.length + (ds.length + 1) <= 1000 := hl
  obtain ⟨U', q⟩ := qmQ ds (acc ++ [f d]) (some d) (fun x hx => h x (mM _ hx)) (by rw [lA_, List.length_singleton]; omega)
  refine ⟨U', ?_⟩
  unfold zt
  simp only [qF, List.set_cons_zero, ret, h d mS_, yY (show acc.length + 1 <= 1000000 by omega), if_true, q]
  simp
theorem qdm (f : D -> Bool) : ∀ ds : List D, vp (ds.map fun d => D.bl (f d)) = some (ds.map f)
 | [] => rfl
 | d :: ds => by simp [vp, qdm f ds]
theorem all_map {ds : List D} {f : D -> Bool} : qiW [.lst (ds.map fun d => D.bl (f d))] = some (.bl (ds.all f)) := by
 simp only [qiW, qdm, Option.map_some]
 congr 2
 rw [List.all_map]
 rfl
theorem qkB {F : List D -> R D} {f : D -> Bool} {xs : M (List D)} {ds : List D} {U : Env} (hx : xs U = .ok (ds, U)) (hF : ∀ d ∈ ds, F [d] = .ok (.bl (f d))) (hl : ds.length <= 1000) :
  jo qiW (qd (yX 1 [] none xs (qF 0) (ret true) (qg F (qd (dv 0) (ret [])))) (ret [])) U = .ok (.bl (ds.all f), U) := by
 obtain ⟨U', q⟩ := qmQ (e := qg F (qd (dv 0) (ret []))) (f := fun d => D.bl (f d)) ds [] none (fun x hm => by push_cast []; rw [hF x hm]) (by simpa using hl)
 have q' : zt (qF 0) (ret true) (qg F (qd (dv 0) (ret []))) ds [] (jP 1 [] U) = .ok ([] ++ ds.map fun d => D.bl (f d), U') := q
 simp only [qab, jq, qbh, hx, q', qcf, List.nil_append, all_map]
 rfl
def uS : D -> Bool
 | .tup ds => decide (ds.length <= 12) && ds.all vf
 | _ => false
def leI : D -> D -> Bool
 | .int i, .int j => decide (i <= j)
 | _, _ => false
def qd5 (k x : D) : Bool := match k with
 | .tup [_, _, m] => zN x && (yx m || leI x m)
 | _ => false
def vP : List D -> List D -> Bool
 | k :: ks, x :: xs => qd5 k x && vP ks xs
 | _, _ => true
def qeU : D -> D -> Bool
 | .tup xs, .tup ks => decide (xs.length = ks.length) && vP ks xs
 | _, _ => false
theorem qeV {e : M D} {f : D -> D -> Bool} : ∀ (ks xs acc : List D) (o o' : Option D), (∀ k ∈ ks, ∀ x, e [some k, some x] = .ok (.bl (f k x), [some k, some x])) -> acc.length + ks.length <= 1000 ->
  ∃ (bs : List Bool) (U' : Env), zt (qes 2 (jM (qF 0) (jM (qF 1) qdP))) (ret true) e (qaO ks xs) acc [o, o'] = .ok (acc ++ bs.map D.bl, U') /\ bs.all id = (qaO ks xs).all fun p => match p with | .tup [k, x] => f k x | _ => false
 | [], xs, acc, o, o', _, _ => ⟨[], [o, o'], by simp [qaO, zt], rfl⟩
 | k :: ks, [], acc, o, o', _, _ => ⟨[], [o, o'], by simp [qaO, zt], rfl⟩
 | k :: ks, x :: xs, acc, o, o', h, hl => by
  have hl' : acc.length + (ks.length + 1) <= 1000 := hl
  obtain ⟨bs, U', q, r⟩ := qeV ks xs (acc ++ [.bl (f k x)]) (some k) (some x) (fun y hy => h y (mM _ hy)) (by rw [lA_, List.length_singleton]; omega)
  refine ⟨f k x :: bs, U', ?_, ?_⟩
  ·unfold qaO zt
   simp only [qes, jM, qF, qdP, lC_, lN_, Nat.reduceAdd, Nat.zero_add, if_true, Option.bind_some, List.set_cons_zero, List.set_cons_succ, ret, h k mS_, yY (show acc.length + 1 <= 1000000 by omega), q]
   simp
  ·unfold qaO
   rw [List.all_cons, List.all_cons, r]
   rfl
theorem qeW : ∀ bs : List Bool, vp (bs.map D.bl) = some bs
 | [] => rfl
 | b :: bs => by simp [vp, qeW bs]
theorem qaC : ∀ (ks xs : List D), ((qaO ks xs).all fun p => match p with | .tup [k, x] => qd5 k x | _ => false) = vP ks xs
 | [], _ => rfl
 | _ :: _, [] => rfl
 | k :: ks, x :: xs => by
  unfold qaO vP
  rw [List.all_cons, qaC ks xs]
theorem qmR {ds : List D} {i : Nat} {d : D} (h : ds[i]? = some d) : ixD (.tup ds) (.int (i : Nat)) = some d := by
 have hi : i < ds.length := (gI_.mp h).1
 show atI ds (i : Int) = some d
 unfold atI ixN
 rw [if_pos (by omega), if_pos (by omega)]
 simpa using h
theorem vQ {l : M (List D)} {U U1 : Env} {j : Int} (e : l U = .ok ([.int j], U1)) (h0 : 0 <= j) (h : j <= 1000000) : vq l U = .ok (qb9 0 j.toNat, U1) := by
 have h1 : (-(2 ^ 62) <= j) := by omega
 have h2 : (j < 2 ^ 62) := by omega
 have e2 : qiY [.int j] = some (qb9 0 j.toNat) := by
  simp only [qiY, h1, h2, decide_true, Bool.and_self, if_true]
 have e3 : vq l U = lift (qiY [.int j]) U1 := by
  show bnd l (fun ds => lift (qiY ds)) U = _
  rw [qnL, e]
 rw [e3, e2]
 rfl
theorem qgX {n m : Int} (h0 : 0 < m) (h1 : m < 1606938044258990275541962092341162602522202993782792835301376) : qa8 [.int n, .int m] = some (.tup [.int (n / m), .int (n % m)]) := by
 simp only [qa8, qfj, h0, h1, decide_true, Bool.and_self, if_true]
theorem at0 (d : D) (r : List D) : atI (d :: r) 0 = some d := by
 unfold atI ixN
 rw [if_pos (by omega), if_pos (by simp)]
 rfl
theorem qpc : ixN 1 0 = some 0 := by decide
theorem ui (i j : Int) : ue (.int i) (.int j) = some (.int (i + j)) := rfl
theorem qcm (i j : Int) : qiT (.int i) (.int j) = some (.int (i - j)) := rfl
theorem qgY {ds : List D} {k : Int} (h0 : 0 <= k) (h1 : k < ds.length) : ∃ d ∈ ds, ixD (.lst ds) (.int k) = some d := by
 obtain ⟨i, rfl⟩ := Int.eq_ofNat_of_zero_le h0
 have hi : i < ds.length := by omega
 refine ⟨ds[i], List.getElem_mem hi, ?_⟩
 show atI ds (i : Int) = _
 unfold atI ixN
 rw [if_pos (by omega), if_pos (by omega)]
 show ds[(i : Int).toNat]? = _
 rw [Int.toNat_natCast, gG hi]
theorem qpd (i : Int) : jp (.int 2) (.int i) = some (.int (2 * i)) := by
 have h : qdR 2 i = true := by
  unfold qdR
  have : yd 2 = true := by decide
  rw [this]; rfl
 simp only [jp, h, if_true]
def qkC (c m : D) : Prop := m = c \/ ∃ j, m = .int j /\ 0 <= j /\ j <= 5
def zP (k : D) : Prop := ∃ a b m, k = .tup [.int a, .int b, m] /\ 1 <= a /\ a <= 25 /\ 0 <= b /\ b <= 39 /\ qkC .non m
theorem zP.imm {k : D} (h : zP k) : imm k = true := by
 obtain ⟨a, b, m, rfl, _, _, _, _, hm⟩ := h
 rcases hm with rfl | ⟨j, rfl, _⟩ <;> rfl
theorem zP.lay {k : D} (h : zP k) : (uv k).canLay0 = true /\ (uv k).depth = 1 := by
 obtain ⟨a, b, m, rfl, _, _, _, _, hm⟩ := h
 rcases hm with rfl | ⟨j, rfl, _⟩ <;> exact ⟨rfl, rfl⟩
theorem qjk : ∀ ks : List D, (∀ k ∈ ks, zP k) -> PyData.canLayAll0 (toPDs ks) = true /\ PyData.depthAll (toPDs ks) <= 1
 | [], _ => ⟨rfl, Nat.zero_le _⟩
 | k :: ks, h => by
  obtain ⟨h1, h2⟩ := qjk ks fun x hx => h x (mM _ hx)
  obtain ⟨g1, g2⟩ := (h k mS_).lay
  unfold toPDs
  simp only [PyData.canLayAll0, PyData.depthAll, h1, g1, g2, Bool.and_self, true_and]
  omega
theorem qd6 {ks : List D} (h : ∀ k ∈ ks, zP k) : ∃ b, neA (.lst ks) (.lst []) = some (.bl b) /\ (b = true -> ks ≠ []) := by
 obtain ⟨h1, h2⟩ := qjk ks h
 have e1 : qbB (.lst ks) = true := by
  have e : qbB (.lst ks) = (PyData.canLayAll0 (toPDs ks) && decide (PyData.depthAll (toPDs ks) + 1 <= 50)) := by
   simp only [qbB, uv, PyData.canLay0, PyData.depth]
  rw [e, h1, Bool.true_and, decide_eq_true_eq]
  omega
 have e2 : qbB (.lst []) = true := rfl
 refine ⟨!PyData.eqv (uv (.lst ks)) (uv (.lst [])), by simp only [neA, e1, e2, Bool.and_self, if_true], fun hb hn => ?_⟩
 subst hn
 exact absurd hb (by decide)
theorem qmS {ds : List D} {k : Int} (h0 : 0 <= k) (h1 : k < ds.length) : ∃ d ∈ ds, atI ds k = some d := by
 obtain ⟨d, hd, e⟩ := qgY h0 h1
 exact ⟨d, hd, e⟩
theorem qim (j : Nat) : (qb9 0 j).length = j := by simp [qb9]
theorem uT {i j : Int} (h : 0 < j) : qdS (.int i) (.int j) = some (.int (i % j)) := by
 simp only [qdS, qk9, h, decide_true, if_true]
theorem wS {i j : Int} (h : 0 < j) (h1 : j < 1606938044258990275541962092341162602522202993782792835301376) : uO (.int i) (.int j) = some (.int (i / j)) := by
 simp only [uO, qk9, qfj, h, h1, decide_true, Bool.and_self, if_true]
theorem qgZ {i j : Int} (h : yd i = true) : jp (.int i) (.int j) = some (.int (i * j)) := by
 simp only [jp, qdR, h, Bool.true_or, if_true]
theorem qin {i j : Int} (h : yd j = true) : jp (.int i) (.int j) = some (.int (i * j)) := by
 simp only [jp, qdR, h, Bool.or_true, if_true]
theorem qkD {i : Int} (h0 : 0 <= i) (h1 : i < 2000000000) : yd i = true := by
 unfold yd
 rw [Bool.and_eq_true, decide_eq_true_eq, decide_eq_true_eq]
 constructor <;> omega
def facts : List Int := [48271, 69621, 16807, 39373, 30269, 40014, 40692, 50021, 61687, 71993, 83869, 95561, 30307]
structure qpr (w e : Nat) (d : D) : Prop where
 lv : (uv d).leavesShort 40 = true
 sh : (uv d).showable = true
 wt : (uv d).weight <= w
 dp : (uv d).depth <= e
def plain (d : D) : Bool := !(uv d).hasDict && noL d
theorem neg_int (i : Int) : qi4 (.int i) = some (.int (-i)) := rfl
theorem qio {xs ys : List D} (h : xs.length + ys.length <= 1000000) : ue (.lst xs) (.lst ys) = some (.lst (xs ++ ys)) := by
 simp only [ue, yY h, if_true]
def pt (p : Int) : D -> Int
 | .tup [.int a, .int b, _] => if p = 0 then a else b
 | _ => 0
def num : D -> Int
 | .int x => x
 | _ => 0
def qnW (p : Int) : List D -> List D -> List Int
 | k :: ks, x :: xs => (pt p k * num x) :: qnW p ks xs
 | _, _ => []
theorem qcn : ∀ ns : List Int, wF (ns.map D.int) = some ns
 | [] => rfl
 | n :: ns => by simp [wF, qcn ns]
theorem qfA (xs : List D) : qev [.lst xs] = some (.tup xs) := rfl
theorem qnX {F : List D -> R D} {f g h : M D} {U : Env} {a b c d : D} (hf : f U = .ok (a, U)) (hg : g U = .ok (b, U)) (hh : h U = .ok (c, U)) (e : F [a, b, c] = .ok d) : qg F (qd f (qd g (qd h (ret [])))) U = .ok (d, U) := by
 have e1 : qd h (ret []) U = .ok ([c], U) := by rw [jq, hh]; rfl
 have e2 : qd g (qd h (ret [])) U = .ok ([b, c], U) := by rw [jq, hg]; dsimp only; rw [e1]
 have e3 : qd f (qd g (qd h (ret []))) U = .ok ([a, b, c], U) := by rw [jq, hf]; dsimp only; rw [e2]
 rw [j8, e3]
 dsimp only
 rw [e]
theorem qdn {F : List D -> Option D} {f : M D} {U : Env} {a d : D} (hf : f U = .ok (a, U)) (e : F [a] = some d) : jo F (qd f (ret [])) U = .ok (d, U) := by
 have e0 : qd f (ret []) U = .ok ([a], U) := by rw [jq, hf]; rfl
 rw [qab, e0]
 dsimp only
 rw [e]
theorem qip (i j : Int) : qfk [.int i, .int j] = some (.int (if j < i then j else i)) := rfl
theorem qiq {α : Type} {e : M D} {t : M Bool} {k f : α -> D} {p : α -> Bool} {r : Env} : ∀ (as : List α) (acc : List D) (o : Option D), (∀ a ∈ as, t (some (k a) :: r) = .ok (p a, some (k a) :: r)) -> (∀ a ∈ as, p a = true -> e (some (k a) :: r) = .ok (f a, some (k a) :: r)) -> acc.length + as.length <= 1000000 ->
  ∃ o', zt (qF 0) t e (as.map k) acc (o :: r) = .ok (acc ++ (as.filter p).map f, o' :: r)
 | [], acc, o, _, _, _ => ⟨o, by simp [zt]⟩
 | a :: as, acc, o, ht, he, hl => by
  have hl' : acc.length + (as.length + 1) <= 1000000 := hl
  have h1 := ht a mS_
  rw [mC_]
  unfold zt
  simp only [qF, List.set_cons_zero, h1]
  cases hp : p a with
  | false =>
   obtain ⟨o', q⟩ := qiq as acc (some (k a)) (fun x hx => ht x (mM _ hx)) (fun x hx => he x (mM _ hx)) (by omega)
   refine ⟨o', ?_⟩
   simp only [q, ft_, hp, Bool.false_eq_true, if_false]
  | true =>
   obtain ⟨o', q⟩ := qiq as (acc ++ [f a]) (some (k a)) (fun x hx => ht x (mM _ hx)) (fun x hx => he x (mM _ hx)) (by rw [lA_, List.length_singleton]; omega)
   refine ⟨o', ?_⟩
   simp only [he a mS_ hp, yY (show acc.length + 1 <= 1000000 by omega), if_true, q, ft_, hp, mC_, aA_, List.singleton_append]
theorem qjl {α : Type} {e : M D} {t : M Bool} {k : α -> D} {xs : M (List D)} {U r : Env} {fr : List Nat} (as : List α) (p : α -> Bool) (f : α -> D) (hx : xs U = .ok (as.map k, U)) (hr : jP 1 fr U = none :: r) (hl : as.length <= 1000000)
  (ht : ∀ a ∈ as, t (some (k a) :: r) = .ok (p a, some (k a) :: r)) (he : ∀ a ∈ as, p a = true -> e (some (k a) :: r) = .ok (f a, some (k a) :: r)) : yX 1 fr none xs (qF 0) t e U = .ok (.lst ((as.filter p).map f), U) := by
 obtain ⟨o', q⟩ := qiq as [] none ht he (by simpa using hl)
 rw [qbh, hx]
 simp only [hr, q, List.nil_append]
 rfl
theorem wu {α : Type} (as : List α) : as.filter (fun _ => true) = as := by simp
theorem qeX {α : Type} {e : M D} {k : α -> D} {xs : M (List D)} {U r : Env} {fr : List Nat} (as : List α) (f : α -> D) (hx : xs U = .ok (as.map k, U)) (hr : jP 1 fr U = none :: r) (hl : as.length <= 1000000)
  (he : ∀ a ∈ as, e (some (k a) :: r) = .ok (f a, some (k a) :: r)) : yX 1 fr none xs (qF 0) (ret true) e U = .ok (.lst (as.map f), U) := by
 rw [qjl as (fun _ => true) f hx hr hl (fun _ _ => rfl) fun a ha _ => he a ha, wu]
theorem qbl {α β : Type} {G : D -> Env -> Option Env} {b : MS} {k : α -> D} {step : β -> α -> β} {Inv : Nat -> β -> Env -> Prop} : ∀ (as : List α) (n : Nat) (s : β) (U : Env), Inv n s U ->
  (∀ a ∈ as, ∀ m s U, n <= m -> m < n + as.length -> Inv m s U -> ∃ U1 U2, G (k a) U = some U1 /\ b U1 = .ok (.nx U2) /\ Inv (m + 1) (step s a) U2) ->
  ∃ U', yf G b (as.map k) U = .ok (.nx U') /\ Inv (n + as.length) (as.foldl step s) U'
 | [], n, s, U, h, _ => ⟨U, rfl, h⟩
 | a :: as, n, s, U, h, H => by
  obtain ⟨U1, U2, h1, h2, h3⟩ := H a mS_ n s U (Nat.le_refl _) (by rw [lC_]; omega) h
  obtain ⟨U', q, w⟩ := qbl as (n + 1) (step s a) U2 h3 fun x hx m s U m1 m2 => H x (mM _ hx) m s U (by omega) (by rw [lC_]; omega)
  refine ⟨U', ?_, ?_⟩
  ·rw [mC_]
   unfold yf
   simp only [h1, h2]
   exact q
  ·rw [lC_, show n + (as.length + 1) = n + 1 + as.length by omega]
   exact w
theorem qfB {f : M D} {U : Env} {a : D} (hf : f U = .ok (a, U)) : qd f (ret []) U = .ok ([a], U) := by rw [jq, hf]; rfl
theorem qdo {f g : M D} {U : Env} {a b : D} (hf : f U = .ok (a, U)) (hg : g U = .ok (b, U)) : qd f (qd g (ret [])) U = .ok ([a, b], U) := by rw [jq, hf]; simp only [qfB hg]
theorem qjm {f g : M D} {U : Env} {a b : D} (hf : f U = .ok (a, U)) (hg : g U = .ok (b, U)) : qaL (qd f (qd g (ret []))) U = .ok (.tup [a, b], U) := by rw [qeC, qdo hf hg]; simp only [lC_, lN_, yY (show 0 + 1 + 1 <= 1000000 by omega), if_true]
theorem qbW {F : List D -> R D} {f : M D} {U : Env} {a d : D} (hf : f U = .ok (a, U)) (e : F [a] = .ok d) : qg F (qd f (ret [])) U = .ok (d, U) := by rw [j8, qfB hf]; simp only [e]
theorem qQ {F : List D -> R D} {f g : M D} {U : Env} {a b d : D} (hf : f U = .ok (a, U)) (hg : g U = .ok (b, U)) (e : F [a, b] = .ok d) : qg F (qd f (qd g (ret []))) U = .ok (d, U) := by rw [j8, qdo hf hg]; simp only [e]
theorem qi {F : D -> D -> Option D} {f g : M D} {U : Env} {a b d : D} (hf : f U = .ok (a, U)) (hg : g U = .ok (b, U)) (e : F a b = some d) : d2 F f g U = .ok (d, U) := by rw [qnM, hf]; simp only [hg, e]
theorem qZ {f : M D} {U : Env} {b : Bool} (hf : f U = .ok (.bl b, U)) : tst f U = .ok (b, U) := by rw [qki, hf]; rfl
theorem qle {t : M Bool} {p q : MS} {U : Env} (h : t U = .ok (true, U)) : sif t p q U = p U := by rw [qh3, h]; rfl
theorem qdJ {t : M Bool} {p q : MS} {U : Env} (h : t U = .ok (false, U)) : sif t p q U = q U := by rw [qh3, h]; rfl
theorem ji {G : D -> Env -> Option Env} {b : MS} {d : D} {ds : List D} {U U1 U2 : Env} (h1 : G d U = some U1) (h2 : b U1 = .ok (.nx U2)) : yf G b (d :: ds) U = yf G b ds U2 := by
 show (match G d U with | none => R.bad | some U1 => _) = _
 rw [h1]
 simp only [h2]
theorem qpe {i j : Nat} {f g : M D} {U U1 U2 : Env} {a b : D} (hf : f U = .ok (a, U1)) (hg : g U1 = .ok (b, U2)) : qfN i j (qd f (qd g (ret []))) U = .ok (.nx ((U2.set i (some a)).set j (some b))) := by
 rw [qeF, jq, hf]
 simp only [jq, hg, qcf]
def mD : Option Int -> D
 | none => .non
 | some j => .int j
abbrev Kd := Int × Int × Option Int
def kD (x : Kd) : D := .tup [.int x.1, .int x.2.1, mD x.2.2]
def okK (x : Kd) : Prop := 0 < x.1 /\ 0 <= x.2.1 /\ (∀ j, x.2.2 = some j -> 0 <= j)
theorem qg0 {x : Kd} (h : okK x) : vf (kD x) = true := by
 obtain ⟨a, b, m⟩ := x
 obtain ⟨h1, h2, h3⟩ := h
 have e1 : qgW (.int a) = true := decide_eq_true h1
 have e2 : zN (.int b) = true := decide_eq_true h2
 cases m with
 | none => simp only [kD, mD, vf, e1, e2, yx, Bool.true_and, Bool.true_or]
 | some j =>
  have e3 : zN (.int j) = true := decide_eq_true (h3 j rfl)
  simp only [kD, mD, vf, e1, e2, e3, Bool.true_and, Bool.or_true]
theorem qfC {ks : List Kd} (h : ∀ x ∈ ks, okK x) (hl : ks.length <= 12) : uS (.tup (ks.map kD)) = true := by
 have : (ks.map kD).all vf = true := by
  rw [List.all_map]
  exact List.all_eq_true.mpr fun x hx => qg0 (h x hx)
 simp only [uS, lM_, hl, decide_true, this, Bool.true_and]
theorem qg1 {α : Type} {ds : List α} {n : Nat} {d : α} (h : ds[n]? = some d) : atI ds (n : Int) = some d := by
 unfold atI ixN
 have hl := (gI_.mp h).1
 rw [if_pos (by omega), if_pos (by omega)]
 show ds[(n : Int).toNat]? = _
 rw [Int.toNat_natCast]; exact h
theorem qdp {ns : List Int} : qbB (.tup (ns.map D.int)) = true := by
 have h : ∀ ns : List Int, PyData.canLayAll0 (toPDs (ns.map D.int)) = true /\ PyData.depthAll (toPDs (ns.map D.int)) = 0 := fun ns => by
  induction ns with
  | nil => exact ⟨rfl, rfl⟩
  | cons n ns ih => exact ⟨by simp only [mC_, toPDs, uv, PyData.canLayAll0, PyData.canLay0, ih.1, Bool.and_self], by simp only [mC_, toPDs, uv, PyData.depthAll, PyData.depth, ih.2]; rfl⟩
 obtain ⟨h1, h2⟩ := h ns
 simp only [qbB, uv, PyData.canLay0, PyData.depth, h1, h2]
 rfl
theorem qir : ∀ ns ms : List Int, PyData.eqv (.tuple (toPDs (ns.map D.int))) (.tuple (toPDs (ms.map D.int))) = decide (ns = ms) := by
 have h : ∀ ns ms : List Int, PyData.eqvAll (toPDs (ns.map D.int)) (toPDs (ms.map D.int)) = decide (ns = ms) := fun ns => by
  induction ns with
  | nil => intro ms; cases ms <;> rfl
  | cons n ns ih =>
   intro ms
   cases ms with
   | nil => rfl
   | cons m ms =>
    simp only [mC_, toPDs, uv, PyData.eqvAll, PyData.eqv, ih ms, List.cons.injEq, Bool.decide_and]
    rfl
 intro ns ms
 simp only [PyData.eqv, h]
theorem qkE (a b c d : Int) : eqB (.tup [.int a, .int b]) (.tup [.int c, .int d]) = some (.bl (decide (a = c) && decide (b = d))) := by
 have h1 := qdp (ns := [a, b])
 have h2 := qdp (ns := [c, d])
 have h3 := qir [a, b] [c, d]
 simp only [mC_, List.map_nil] at h1 h2 h3
 have e : eqB (.tup [.int a, .int b]) (.tup [.int c, .int d]) = eqA (.tup [.int a, .int b]) (.tup [.int c, .int d]) := rfl
 rw [e]
 unfold eqA
 rw [h1, h2]
 show some (D.bl (PyData.eqv (.tuple (toPDs [.int a, .int b])) (.tuple (toPDs [.int c, .int d])))) = _
 rw [h3]
 simp only [List.cons.injEq, and_true, Bool.decide_and]
theorem qg2 {α : Type} {e : M D} {t : M Bool} {u v f : α -> D} {p : α -> Bool} {r : Env} : ∀ (as : List α) (acc : List D) (o o' : Option D), (∀ a ∈ as, t (some (u a) :: some (v a) :: r) = .ok (p a, some (u a) :: some (v a) :: r)) -> (∀ a ∈ as, p a = true -> e (some (u a) :: some (v a) :: r) = .ok (f a, some (u a) :: some (v a) :: r)) -> acc.length + as.length <= 1000000 ->
  ∃ o1 o2, zt (qes 2 (jM (qF 0) (jM (qF 1) qdP))) t e (as.map fun a => .tup [u a, v a]) acc (o :: o' :: r) = .ok (acc ++ (as.filter p).map f, o1 :: o2 :: r)
 | [], acc, o, o', _, _, _ => ⟨o, o', by simp [zt]⟩
 | a :: as, acc, o, o', ht, he, hl => by
  have hl' : acc.length + (as.length + 1) <= 1000000 := hl
  have h1 := ht a mS_
  rw [mC_]
  unfold zt
  have hg : qes 2 (jM (qF 0) (jM (qF 1) qdP)) (.tup [u a, v a]) (o :: o' :: r) = some (some (u a) :: some (v a) :: r) := rfl
  simp only [hg, h1]
  cases hp : p a with
  | false =>
   obtain ⟨o1, o2, q⟩ := qg2 as acc (some (u a)) (some (v a)) (fun x hx => ht x (mM _ hx)) (fun x hx => he x (mM _ hx)) (by omega)
   refine ⟨o1, o2, ?_⟩
   simp only [q, ft_, hp, Bool.false_eq_true, if_false]
  | true =>
   obtain ⟨o1, o2, q⟩ := qg2 as (acc ++ [f a]) (some (u a)) (some (v a)) (fun x hx => ht x (mM _ hx)) (fun x hx => he x (mM _ hx)) (by rw [lA_, List.length_singleton]; omega)
   refine ⟨o1, o2, ?_⟩
   simp only [he a mS_ hp, yY (show acc.length + 1 <= 1000000 by omega), if_true, q, ft_, hp, mC_, aA_, List.singleton_append]
theorem qg3 {α : Type} {e : M D} {t : M Bool} {u v : α -> D} {xs : M (List D)} {U r : Env} {fr : List Nat} (as : List α) (p : α -> Bool) (f : α -> D) (hx : xs U = .ok (as.map fun a => .tup [u a, v a], U)) (hr : jP 2 fr U = none :: none :: r) (hl : as.length <= 1000000)
  (ht : ∀ a ∈ as, t (some (u a) :: some (v a) :: r) = .ok (p a, some (u a) :: some (v a) :: r)) (he : ∀ a ∈ as, p a = true -> e (some (u a) :: some (v a) :: r) = .ok (f a, some (u a) :: some (v a) :: r)) : yX 2 fr none xs (qes 2 (jM (qF 0) (jM (qF 1) qdP))) t e U = .ok (.lst ((as.filter p).map f), U) := by
 obtain ⟨o1, o2, q⟩ := qg2 as [] none none ht he (by simpa using hl)
 rw [qbh, hx]
 simp only [hr, q, List.nil_append]
 rfl
def kAt (ks : List Kd) (p : Nat) : Kd := (ks[p]?).getD (1, 0, none)
theorem qkF {ks : List Kd} {p : Nat} (h : p < ks.length) : ks[p]? = some (kAt ks p) := by
 unfold kAt
 rw [gG h]
 rfl
theorem qoz (n : Nat) : qb9 0 n = (List.range n).map fun i => D.int (i : Nat) := by
 unfold qb9
 refine mL_ fun i _ => ?_
 rw [Int.zero_add]
theorem qdq {ks : List Kd} : ∀ (l : List Kd) (k : Nat), (∀ i, i < l.length -> l[i]? = ks[k + i]?) -> wn k (l.map kD) = (List.range l.length).map fun i => .tup [.int ((k + i : Nat) : Int), kD (kAt ks (k + i))]
 | [], _, _ => rfl
 | x :: l, k, h => by
  have h0 := h 0 (by simp)
  have e0 : kAt ks (k + 0) = x := by unfold kAt; rw [<- h0]; rfl
  rw [mC_, lC_, List.range_succ_eq_map, mC_, mm_, e0]
  show D.tup [.int (k : Nat), kD x] :: wn (k + 1) (l.map kD) = _
  rw [qdq l (k + 1) fun i hi => by
   have := h (i + 1) (by rw [lC_]; omega)
   rw [show k + 1 + i = k + (i + 1) by omega, <- this]
   rfl]
  congr 1
  refine mL_ fun i _ => ?_
  show D.tup [.int ((k + 1 + i : Nat) : Int), kD (kAt ks (k + 1 + i))] = D.tup [.int ((k + (i + 1) : Nat) : Int), kD (kAt ks (k + (i + 1)))]
  rw [show k + 1 + i = k + (i + 1) by omega]
theorem qmT (ks : List Kd) : wn 0 (ks.map kD) = (List.range ks.length).map fun i => .tup [.int (i : Nat), kD (kAt ks i)] := by
 rw [qdq (ks := ks) ks 0 fun i _ => by rw [Nat.zero_add]]
 refine mL_ fun i _ => ?_
 rw [Nat.zero_add]
def yz (T B : Nat) : Nat := T / Nat.gcd T B
def yr (T B : Nat) : Nat := B / Nat.gcd T B
def frD (t b : Nat) : D := .tup [.int (t : Nat), .int (b : Nat)]
def wT (T B : Nat) : D := frD (yz T B) (yr T B)
theorem jG (T : Nat) {B : Nat} (hB : 0 < B) : ∃ g, 0 < g /\ T = g * yz T B /\ B = g * yr T B /\ 0 < yr T B /\ yr T B <= B /\ yz T B <= T := by
 have hg : 0 < Nat.gcd T B := Nat.gcd_pos_of_pos_right _ hB
 have h1 : T = Nat.gcd T B * yz T B := (Nat.mul_div_cancel' (Nat.gcd_dvd_left T B)).symm
 have h2 : B = Nat.gcd T B * yr T B := (Nat.mul_div_cancel' (Nat.gcd_dvd_right T B)).symm
 refine ⟨Nat.gcd T B, hg, h1, h2, ?_, Nat.div_le_self _ _, Nat.div_le_self _ _⟩
 apply Nat.pos_of_ne_zero
 intro z
 rw [z, Nat.mul_zero] at h2
 omega
theorem qmU {T B T' B' : Nat} (hB : 0 < B) (hB' : 0 < B') (h : T * B' = T' * B) : yz T B = yz T' B' /\ yr T B = yr T' B' := by
 have hg : 0 < Nat.gcd T B := Nat.gcd_pos_of_pos_right _ hB
 have hg' : 0 < Nat.gcd T' B' := Nat.gcd_pos_of_pos_right _ hB'
 have t1 : T = Nat.gcd T B * yz T B := (Nat.mul_div_cancel' (Nat.gcd_dvd_left T B)).symm
 have b1 : B = Nat.gcd T B * yr T B := (Nat.mul_div_cancel' (Nat.gcd_dvd_right T B)).symm
 have t2 : T' = Nat.gcd T' B' * yz T' B' := (Nat.mul_div_cancel' (Nat.gcd_dvd_left T' B')).symm
 have b2 : B' = Nat.gcd T' B' * yr T' B' := (Nat.mul_div_cancel' (Nat.gcd_dvd_right T' B')).symm
 have key : Nat.gcd T B * B' = Nat.gcd T' B' * B := by
  rw [<- Nat.gcd_mul_right T B' B, <- Nat.gcd_mul_right T' B B', h, Nat.mul_comm B B']
 generalize Nat.gcd T B = g at *
 generalize Nat.gcd T' B' = g' at *
 generalize yz T B = t at *
 generalize yr T B = b at *
 generalize yz T' B' = t' at *
 generalize yr T' B' = b' at *
 subst t1 b1 t2 b2
 have hgg : 0 < g * g' := Nat.mul_pos hg hg'
 have eb : b = b' := by
  refine Nat.eq_of_mul_eq_mul_left hgg ?_
  grind
 subst eb
 have hb : 0 < b := by
  apply Nat.pos_of_ne_zero
  intro z
  subst z
  simp at hB
 refine ⟨?_, rfl⟩
 refine Nat.eq_of_mul_eq_mul_left (Nat.mul_pos hgg hb) ?_
 grind
theorem qg4 {T B T' B' : Nat} (hB : 0 < B) (hB' : 0 < B') (h : T * B' = T' * B) : wT T B = wT T' B' := by
 obtain ⟨e1, e2⟩ := qmU hB hB' h
 unfold wT
 rw [e1, e2]
theorem qeY (a : Nat) {b : Nat} (h : 0 < b) : qdS (.int (a : Nat)) (.int (b : Nat)) = some (.int ((a % b : Nat) : Int)) := by
 rw [uT (by omega)]
 rfl
theorem yg (a : Nat) {b : Nat} (h : 0 < b) (h1 : b < 1606938044258990275541962092341162602522202993782792835301376) : uO (.int (a : Nat)) (.int (b : Nat)) = some (.int ((a / b : Nat) : Int)) := by
 rw [wS (by omega) (by omega)]
 rfl
theorem qkG {n : Nat} (h : n <= 18000000000000000000) : yd (n : Int) = true := by
 unfold yd
 rw [Bool.and_eq_true, decide_eq_true_eq, decide_eq_true_eq]
 constructor <;> omega
theorem qjn {a : Nat} (b : Nat) (h : a <= 18000000000000000000) : jp (.int (a : Nat)) (.int (b : Nat)) = some (.int ((a * b : Nat) : Int)) := by
 rw [qgZ (qkG h)]
 rfl
theorem jQ (a : Nat) {b : Nat} (h : b <= 18000000000000000000) : jp (.int (a : Nat)) (.int (b : Nat)) = some (.int ((a * b : Nat) : Int)) := by
 rw [qin (qkG h)]
 rfl
theorem qis (a b : Nat) : ue (.int (a : Nat)) (.int (b : Nat)) = some (.int ((a + b : Nat) : Int)) := rfl
theorem qaG (t b : Nat) : ixD (frD t b) (.int 0) = some (.int (t : Nat)) := rfl
theorem vy (t b : Nat) : ixD (frD t b) (.int 1) = some (.int (b : Nat)) := rfl
end Law
end L2.Sk
namespace L2.Sk.Law
end L2.Sk.Law
namespace L2.Sk
namespace Law
open PySem PySem.Spec PyProof.Rows
set_option maxHeartbeats 4000000
open Classical in
open Classical in
theorem qmV {α : Type} {e : M D} {t : M Bool} {k : α -> D} {xs : M (List D)} {U r : Env} {fr : List Nat} {i j : Nat} (as : List α) (p : α -> Bool) (f : α -> D) (hx : xs U = .ok (as.map k, U)) (hr : jP 1 fr U = none :: r) (hl : as.length <= 1000000)
  (ht : ∀ a ∈ as, t (some (k a) :: r) = .ok (p a, some (k a) :: r)) (he : ∀ a ∈ as, p a = true -> e (some (k a) :: r) = .ok (f a, some (k a) :: r)) (hb : ∀ o : Option D, U.set j ((o :: r)[i]?).join = U) :
  yX 1 fr (some (i, j)) xs (qF 0) t e U = .ok (.lst ((as.filter p).map f), U) := by
 obtain ⟨o', q⟩ := qiq as [] none ht he (by simpa using hl)
 rw [qbh, hx]
 simp only [hr, q, List.nil_append]
 show R.ok (D.lst ((as.filter p).map f), U.set j ((o' :: r)[i]?).join) = _
 rw [hb o']
theorem qlf {t u : M Bool} {U : Env} (h1 : t U = .ok (false, U)) (h2 : u U = .ok (false, U)) : tor t u U = .ok (false, U) := by rw [qd0, h1]; exact h2
theorem qoA {t u : M Bool} {U : Env} (h1 : t U = .ok (true, U)) : tor t u U = .ok (true, U) := by rw [qd0, h1]; rfl
theorem qit {t u : M Bool} {U : Env} (h1 : t U = .ok (false, U)) : qcY t u U = .ok (false, U) := by rw [qeD, h1]; rfl
theorem qg5 {t u : M Bool} {U : Env} {b : Bool} (h1 : t U = .ok (true, U)) (h2 : u U = .ok (b, U)) : qcY t u U = .ok (b, U) := by rw [qeD, h1]; exact h2
theorem qaD {F : List D -> R D} {f g h : M D} {U : Env} {a b c d : D} (hf : f U = .ok (a, U)) (hg : g U = .ok (b, U)) (hh : h U = .ok (c, U)) (e : F [a, b, c] = .ok d) : qg F (qd f (qd g (qd h (ret [])))) U = .ok (d, U) := qnX hf hg hh e
theorem qmW {F : List D -> Option D} {f g : M D} {U : Env} {a b d : D} (hf : f U = .ok (a, U)) (hg : g U = .ok (b, U)) (e : F [a, b] = some d) : jo F (qd f (qd g (ret []))) U = .ok (d, U) := by
 rw [qab, qdo hf hg]
 simp only [e]
theorem y0 {i : Nat} {f : M D} {U U1 : Env} {d : D} (h : f U = .ok (d, U1)) : zM i f U = .ok (.nx (U1.set i (some d))) := by rw [qbf, h]
theorem zQ {f : M D} {U U1 : Env} {d : D} (h : f U = .ok (d, U1)) : z0 f U = .ok (.rt d U1) := by rw [wM, h]
def big : Nat := 1606938044258990275541962092341162602522202993782792835301376
def Mx : Nat := 18000000000000000000
abbrev Nk := Nat × Nat × Option Nat
def nk (x : Nk) : Kd := ((x.1 : Int), (x.2.1 : Int), x.2.2.map fun m : Nat => (m : Int))
def tK (x : Nk) : D := kD (nk x)
def nAt (ks : List Nk) (p : Nat) : Nk := ks.getD p (0, 0, none)
def zS (ks : List Nk) : Nat := ks.foldl (fun p x => p * x.1) 1
def qd7 (ks : List Nk) (p : Nat) : Int := -((nAt ks p).2.1 : Int) * ((zS ks / (nAt ks p).1 : Nat) : Int)
def plN (ks : List Nk) : List Nat := (List.range ks.length).filter fun i => decide (0 < (nAt ks i).2.1)
def uc (ks : List Nk) : List Nat := (Srt.ord ((plN ks).map (qd7 ks))).map fun i => (plN ks).getD i 0
def goN (x : Nk) (r : Nat) : Bool := match x.2.2 with
 | some m => decide (m * x.1 <= r)
 | none => false
def mN (x : Nk) : Nat := x.2.2.getD 0
def shN (x : Nk) (r : Nat) : Nat × Nat := if goN x r then (mN x, 1) else (yz r x.1, yr r x.1)
def bhN (x : Nk) (r : Nat) : Nat := if goN x r then r - mN x * x.1 else 0
def shS (ks : List Nk) (s : Nat × List (Nat × Nat)) (p : Nat) : Nat × List (Nat × Nat) := (bhN (nAt ks p) s.1, s.2.set p (shN (nAt ks p) s.1))
def shs (ks : List Nk) (r : Nat) : List (Nat × Nat) := ((uc ks).foldl (shS ks) (r, List.replicate ks.length (0, 1))).2
def swS (s : Nat × Nat) (z : Nk × Nat × Nat) : Nat × Nat := (s.1 * z.2.2 + z.2.1 * z.1.2.1 * s.2, s.2 * z.2.2)
def swN (ks : List Nk) (r : Nat) : Nat × Nat := (ks.zip (shs ks r)).foldl swS (0, 1)
def fr (p : Nat × Nat) : D := frD p.1 p.2
theorem vz {ks : List Nk} {p : Nat} (h : p < ks.length) : ks[p]? = some (nAt ks p) := by
 unfold nAt
 simp [h]
theorem jh {ks : List Nk} {p : Nat} (h : p < ks.length) : nAt ks p ∈ ks := List.mem_of_getElem? (vz h)
theorem qdr {ks : List Nk} {p : Nat} (h : p < ks.length) : ixD (.tup (ks.map tK)) (.int (p : Nat)) = some (tK (nAt ks p)) := qmR (by rw [gM_, vz h]; rfl)
theorem tk0 (x : Nk) : ixD (tK x) (.int 0) = some (.int (x.1 : Nat)) := rfl
theorem tk1 (x : Nk) : ixD (tK x) (.int 1) = some (.int (x.2.1 : Nat)) := rfl
theorem tk2 (x : Nk) : ixD (tK x) (.int 2) = some (mD (x.2.2.map fun m : Nat => (m : Int))) := rfl
theorem qjo (ks : List Nk) : ks.map tK = (ks.map nk).map kD := by rw [mm_]; rfl
theorem qnY {x : Nk} (h : 0 < x.1) : okK (nk x) := ⟨by show (0 : Int) < (x.1 : Int); omega, by show (0 : Int) <= (x.2.1 : Int); omega, fun j e => by
 obtain ⟨m, _, hm⟩ := Option.map_eq_some_iff.mp (show x.2.2.map (fun m : Nat => (m : Int)) = some j from e)
 omega⟩
theorem vR {ks : List Nk} (h : ∀ x ∈ ks, 0 < x.1) (hl : ks.length <= 12) : uS (.tup (ks.map tK)) = true := by
 rw [qjo]
 exact qfC (fun x hx => by obtain ⟨y, hy, rfl⟩ := mP_.mp hx; exact qnY (h y hy)) (by rw [lM_]; exact hl)
theorem qkH (ks : List Nk) : wn 0 (ks.map tK) = (List.range ks.length).map fun i => .tup [.int (i : Nat), tK (nAt ks i)] := by
 rw [qjo, qmT, lM_]
 refine mL_ fun i hi => ?_
 have hi' := mR_.mp hi
 have e : kAt (ks.map nk) i = nk (nAt ks i) := by
  have h1 := qkF (ks := ks.map nk) (p := i) (by rw [lM_]; exact hi')
  rw [gM_, vz hi'] at h1
  exact (Option.some.inj h1).symm
 rw [e]
 rfl
theorem wU (ks : List Nk) : (uc ks).Perm (plN ks) := Srt.byKeys_perm (α := Nat) (ks := (plN ks).map (qd7 ks)) (xs := plN ks) (by rw [lM_])
theorem yA {ks : List Nk} {p : Nat} : p ∈ uc ks ↔ p < ks.length /\ 0 < (nAt ks p).2.1 := by
 rw [(wU ks).mem_iff]
 unfold plN
 rw [List.mem_filter, mR_, decide_eq_true_eq]
theorem qae (ks : List Nk) : (uc ks).Nodup := (wU ks).nodup_iff.mpr ((List.nodup_range).sublist List.filter_sublist)
theorem qds {α : Type} {g : M D} {n : Nat} {cs : List D} {k : α -> D} {key : α -> Int} : ∀ {as : List α}, (∀ a ∈ as, ∃ U, g (ud n (k a :: cs)) = .ok (.int (key a), U)) -> qbk g n cs (as.map k) = some (as.map key)
 | [], _ => rfl
 | a :: as, h => by
  obtain ⟨U, e⟩ := h a mS_
  rw [mC_, mC_]
  unfold qbk
  rw [e, qds fun b hb => h b (mM _ hb)]
theorem qg6 {α : Type} {k : α -> D} {l : List Nat} {as : List α} (d : α) (h : ∀ i ∈ l, i < as.length) : qfy l (as.map k) = (l.map fun i => as.getD i d).map k := by
 unfold qfy
 rw [mm_]
 refine mL_ fun i hi => ?_
 have hi' := h i hi
 show (as.map k).getD i D.non = k (as.getD i d)
 simp [hi']
theorem vA (r : Nat) {w : Nat} (h : 0 < w) : 0 < yr r w /\ yr r w <= w := by
 obtain ⟨g, g0, e1, e2, e3, e4, e5⟩ := jG r h
 exact ⟨e3, e4⟩
theorem qmX {x : Nk} (h : 0 < x.1) (r : Nat) : 0 < (shN x r).2 /\ (shN x r).2 <= x.1 := by
 unfold shN
 split
 ·exact ⟨Nat.one_pos, h⟩
 ·exact vA r h
theorem qg7 (ks : List Nk) : ∀ (l : List Nat) (s : Nat × List (Nat × Nat)), (l.foldl (shS ks) s).2.length = s.2.length
 | [], s => rfl
 | p :: l, s => by
  rw [fo_, qg7 ks l]
  exact lS_
theorem jT (ks : List Nk) (r : Nat) : (shs ks r).length = ks.length := by
 unfold shs
 rw [qg7]
 exact List.length_replicate
theorem qjp {ks : List Nk} (h : ∀ x ∈ ks, 0 < x.1) : ∀ (l : List Nat) (s : Nat × List (Nat × Nat)), (∀ p ∈ l, p < ks.length) -> (∀ (i : Nat) (z : Nat × Nat), s.2[i]? = some z -> 0 < z.2 /\ z.2 <= (nAt ks i).1) ->
  ∀ (i : Nat) (z : Nat × Nat), (l.foldl (shS ks) s).2[i]? = some z -> 0 < z.2 /\ z.2 <= (nAt ks i).1
 | [], s, _, hs => hs
 | p :: l, s, hl, hs => by
  rw [fo_]
  refine qjp h l _ (fun q hq => hl q (mM _ hq)) fun i z e => ?_
  have e' : (s.2.set p (shN (nAt ks p) s.1))[i]? = some z := e
  rw [List.getElem?_set] at e'
  split at e'
  ·rename_i hpi
   subst hpi
   split at e'
   ·cases e'
    exact qmX (h _ (jh (hl p mS_))) _
   ·cases e'
  ·exact hs i z e'
theorem qjq {ks : List Nk} (h : ∀ x ∈ ks, 0 < x.1) (r : Nat) : ∀ (i : Nat) (z : Nat × Nat), (shs ks r)[i]? = some z -> 0 < z.2 /\ z.2 <= (nAt ks i).1 := by
 refine qjp h (uc ks) _ (fun p hp => (yA.mp hp).1) fun i z e => ?_
 have e' : (List.replicate ks.length ((0 : Nat), (1 : Nat)))[i]? = some z := e
 rw [List.getElem?_replicate] at e'
 split at e'
 ·rename_i hi
  cases e'
  exact ⟨Nat.one_pos, h _ (jh hi)⟩
 ·cases e'
theorem qeZ {ks : List Nk} (h : ∀ x ∈ ks, 0 < x.1) (r : Nat) : ∀ z ∈ ks.zip (shs ks r), 0 < z.2.2 /\ z.2.2 <= z.1.1 := fun z hz => by
 obtain ⟨i, hi⟩ := List.mem_iff_getElem?.mp hz
 rw [List.getElem?_zip_eq_some] at hi
 have hl : i < ks.length := (gI_.mp hi.1).1
 have := qjq h r i z.2 hi.2
 rw [vz hl] at hi
 have e : nAt ks i = z.1 := Option.some.inj hi.1
 rw [e] at this
 exact this
theorem qfD (p : Nat) : ∀ ks : List Nk, ks.foldl (fun p x => p * x.1) p = p * zS ks := by
 intro ks
 induction ks generalizing p with
 | nil => simp [zS]
 | cons x ks ih =>
  unfold zS
  rw [fo_, fo_, ih, ih (1 * x.1), Nat.one_mul, Nat.mul_assoc]
theorem yH (x : Nk) (ks : List Nk) : zS (x :: ks) = x.1 * zS ks := by
 show (x :: ks).foldl (fun p x => p * x.1) 1 = _
 rw [fo_, qfD, Nat.one_mul]
theorem qbm {ks : List Nk} (h : ∀ x ∈ ks, 0 < x.1) : 0 < zS ks := by
 induction ks with
 | nil => exact Nat.one_pos
 | cons x ks ih =>
  rw [yH]
  exact Nat.mul_pos (h x mS_) (ih fun y hy => h y (mM _ hy))
theorem qaQ {ks : List Nk} (h : ∀ x ∈ ks, 0 < x.1) {x : Nk} (hx : x ∈ ks) : x.1 <= zS ks := by
 induction ks with
 | nil => cases hx
 | cons y ks ih =>
  rw [yH]
  have hp := qbm fun z hz => h z (mM _ hz)
  rcases List.mem_cons.mp hx with e | hx
  ·subst e; exact Nat.le_mul_of_pos_right _ hp
  ·exact Nat.le_trans (ih (fun z hz => h z (mM _ hz)) hx) (Nat.le_mul_of_pos_left _ (h y mS_))
theorem qe0 : ∀ (l : List (Nk × Nat × Nat)) (s : Nat × Nat), (∀ z ∈ l, 0 < z.2.2 /\ z.2.2 <= z.1.1) -> 0 < s.2 -> 0 < (l.foldl swS s).2 /\ (l.foldl swS s).2 <= s.2 * zS (l.map (·.1))
 | [], s, _, h => ⟨h, by simp [zS]⟩
 | z :: l, s, hz, h => by
  obtain ⟨h1, h2⟩ := hz z mS_
  rw [fo_, mC_, yH]
  obtain ⟨a1, a2⟩ := qe0 l (swS s z) (fun y hy => hz y (mM _ hy)) (Nat.mul_pos h h1)
  refine ⟨a1, Nat.le_trans a2 ?_⟩
  show s.2 * z.2.2 * _ <= s.2 * (z.1.1 * _)
  rw [Nat.mul_assoc]
  exact Nat.mul_le_mul_left _ (Nat.mul_le_mul_right _ h2)
theorem qg8 (T : Nat) {B : Nat} (hB : 0 < B) : yz T B / yr T B = T / B := by
 obtain ⟨g, g0, e1, e2, e3, e4, e5⟩ := jG T hB
 generalize yz T B = t at *
 generalize yr T B = b at *
 rw [e1, e2, Nat.mul_div_mul_left _ _ g0]
theorem qkI (T u : Nat) {B c : Nat} (hB : 0 < B) (hc : 0 < c) : wT (yz T B * c + u * yr T B) (yr T B * c) = wT (T * c + u * B) (B * c) := by
 obtain ⟨g, g0, e1, e2, e3, _, _⟩ := jG T hB
 refine qg4 (Nat.mul_pos e3 hc) (Nat.mul_pos hB hc) ?_
 generalize yz T B = t at *
 generalize yr T B = b at *
 rw [e1, e2]
 grind
theorem qd8 {ks : List Nk} {l : List (Nat × Nat)} (h : l.length = ks.length) : (ks.zip l).map (·.1) = ks := List.map_fst_zip (by omega)
end Law
end L2.Sk
namespace L2.Srt
open PySem PySem.W PyProof.Rows
section
variable (ks : List Int)
abbrev kk (i : Nat) : Int := ks.getD i 0
abbrev cm (i j : Nat) : Bool := decide (ks.getD i 0 < ks.getD j 0)
def Lx (i j : Nat) : Prop := kk ks i < kk ks j \/ (kk ks i = kk ks j /\ i < j)
theorem Lx.le {i j : Nat} (h : Lx ks i j) : kk ks i <= kk ks j := by rcases h with h | h <;> omega
structure qe1 (n m : Nat) (p : Array Nat) : Prop where
 sz : p.size = n
 mn : m <= n
 id : ∀ k, m <= k -> k < n -> p.getD k 0 = k
 lo : ∀ k, k < m -> p.getD k 0 < m
 so : ∀ i j, i < j -> j < m -> Lx ks (p.getD i 0) (p.getD j 0)
end
theorem qaf {p q : Array Nat} {k j : Nat} (h : p[k]? = q[j]?) : p.getD k 0 = q.getD j 0 := by
 rw [Array.getD_eq_getD_getElem?, Array.getD_eq_getD_getElem?, h]
theorem qco {p : Array Nat} {i j : Nat} (hj : j <= p.size) (hij : i <= j) (k : Nat) : (kas_rev p i j).getD k 0 = if i <= k /\ k < j then p.getD (i + j - 1 - k) 0 else p.getD k 0 := by
 have h := getElem?_mirror (xs := p) (i := i) (j := j) hj ((j - i) / 2) (by omega) k
 unfold kas_rev
 by_cases hk : i <= k /\ k < j
 ·rw [if_pos hk]
  by_cases hm : (i <= k /\ k < i + (j - i) / 2) \/ (j - (j - i) / 2 <= k /\ k < j)
  ·rw [if_pos hm] at h
   exact qaf h
  ·rw [if_neg hm] at h
   have e : i + j - 1 - k = k := by omega
   rw [e]
   exact qaf h
 ·rw [if_neg hk]
  rw [if_neg (by omega)] at h
  exact qaf h
theorem qcp (p : Array Nat) (i j : Nat) : (kas_rev p i j).size = p.size := mirror_size _ _ _ _
theorem qkJ {p : Array Nat} {k l : Nat} (hk : k < p.size) (hl : l <= k) (j : Nat) : (bubble p k (k - l)).getD j 0 = if j = l then p.getD k 0 else if l < j /\ j <= k then p.getD (j - 1) 0 else p.getD j 0 := by
 have h := getElem?_bubble (xs := p) (src := k) hk (k - l) (by omega) j
 rw [show k - (k - l) = l by omega] at h
 by_cases h1 : j = l
 ·rw [if_pos h1] at h |-
  exact qaf h
 ·rw [if_neg h1] at h |-
  by_cases h2 : l < j /\ j <= k
  ·rw [if_pos h2] at h |-
   exact qaf h
  ·rw [if_neg h2] at h |-
   exact qaf h
section
variable {ks : List Int}
theorem qg9 {n : Nat} {p : Array Nat} : ∀ (f m : Nat), f = n - m -> 1 <= m -> qe1 ks n m p -> ∃ m', uM (cm ks) (kas_asc p f m) = m' /\ m <= m' /\ qe1 ks n m' p /\ (m' < n -> kk ks (p.getD m' 0) < kk ks (p.getD (m' - 1) 0))
 | 0, m, hf, h1, S => ⟨m, rfl, Nat.le_refl _, S, fun h => by omega⟩
 | f + 1, m, hf, h1, S => by
  show ∃ m', uM (cm ks) (if cm ks (p.getD m 0) (p.getD (m - 1) 0) = true then KasT.ret m else kas_asc p f (m + 1)) = m' /\ _
  by_cases c : kk ks (p.getD m 0) < kk ks (p.getD (m - 1) 0)
  ·rw [if_pos (decide_eq_true c)]
   exact ⟨m, rfl, Nat.le_refl _, S, fun _ => c⟩
  ·rw [if_neg (by simpa using c)]
   have hid : p.getD m 0 = m := S.id m (Nat.le_refl _) (by omega)
   have S' : qe1 ks n (m + 1) p := by
    refine ⟨S.sz, by omega, fun k a b => S.id k (by omega) b, fun k a => ?_, fun i j a b => ?_⟩
    ·by_cases e : k < m
     ·have := S.lo k e; omega
     ·have : k = m := by omega
      rw [this, hid]; omega
    ·by_cases e : j < m
     ·exact S.so i j a e
     ·have ej : j = m := by omega
      subst ej
      have l1 := S.lo i a
      have k1 : kk ks (p.getD i 0) <= kk ks (p.getD (j - 1) 0) := by
       by_cases e2 : i = j - 1
       ·rw [e2]; exact Int.le_refl _
       ·exact (S.so i (j - 1) (by omega) (by omega)).le
      have c' : kk ks (p.getD (j - 1) 0) <= kk ks (p.getD j 0) := Int.not_lt.mp c
      unfold Lx
      rw [hid] at c' |-
      omega
   obtain ⟨m', e1, e2, e3, e4⟩ := qg9 f (m + 1) (by omega) (by omega) S'
   exact ⟨m', e1, by omega, e3, e4⟩
structure Dwn (ks : List Int) (n m q : Nat) (p : Array Nat) : Prop where
 sz : p.size = n
 mn : m <= n
 qm : q + 1 <= m
 id : ∀ k, m <= k -> k < n -> p.getD k 0 = k
 lo : ∀ k, k < m -> p.getD k 0 < m
 a1 : ∀ i j, i < m - (q + 1) -> m - (q + 1) <= j -> j < m -> kk ks (p.getD j 0) < kk ks (p.getD i 0)
 a2 : ∀ i j, i < j -> j < m - (q + 1) -> Lx ks (p.getD j 0) (p.getD i 0)
 bl : ∀ i j, m - (q + 1) <= i -> i < j -> j < m -> kk ks (p.getD i 0) = kk ks (p.getD j 0) /\ p.getD i 0 < p.getD j 0
theorem Dwn.turned {n m q : Nat} {p : Array Nat} (d : Dwn ks n m q p) : (kas_rev p (m - (q + 1)) m).size = n /\ (∀ k, m <= k -> k < n -> (kas_rev p (m - (q + 1)) m).getD k 0 = k) /\ (∀ k, k < m -> (kas_rev p (m - (q + 1)) m).getD k 0 < m) /\
  (∀ i j, i < j -> j < m -> Lx ks ((kas_rev p (m - (q + 1)) m).getD j 0) ((kas_rev p (m - (q + 1)) m).getD i 0)) /\ (∀ i, i < m -> kk ks (p.getD (m - 1) 0) <= kk ks ((kas_rev p (m - (q + 1)) m).getD i 0)) := by
 have hqm := d.qm
 have hs : m <= p.size := by rw [d.sz]; exact d.mn
 have g := fun k => qco (p := p) (i := m - (q + 1)) (j := m) hs (by omega) k
 refine ⟨by rw [qcp, d.sz], fun k a b => ?_, fun k a => ?_, fun i j a b => ?_, fun i a => ?_⟩
 ·rw [g, if_neg (by omega)]; exact d.id k a b
 ·rw [g]
  split
  ·exact d.lo _ (by omega)
  ·exact d.lo k a
 ·rw [g i, g j]
  by_cases hi : m - (q + 1) <= i
  ·rw [if_pos ⟨by omega, b⟩, if_pos ⟨hi, by omega⟩]
   have := d.bl (m - (q + 1) + m - 1 - j) (m - (q + 1) + m - 1 - i) (by omega) (by omega) (by omega)
   exact .inr ⟨this.1, this.2⟩
  ·rw [if_neg (show ¬ (m - (q + 1) <= i /\ i < m) by omega)]
   by_cases hj : m - (q + 1) <= j
   ·rw [if_pos ⟨hj, b⟩]
    exact .inl (d.a1 i _ (by omega) (by omega) (by omega))
   ·rw [if_neg (by omega)]
    exact d.a2 i j a (by omega)
 ·have key : ∀ j, m - (q + 1) <= j -> j < m -> kk ks (p.getD (m - 1) 0) = kk ks (p.getD j 0) := fun j h1 h2 => by
   by_cases e : j = m - 1
   ·rw [e]
   ·exact (d.bl j (m - 1) h1 (by omega) (by omega)).1.symm
  rw [g i]
  by_cases hi : m - (q + 1) <= i
  ·rw [if_pos ⟨hi, a⟩]
   exact Int.le_of_eq (key _ (by omega) (by omega))
  ·rw [if_neg (by omega)]
   exact Int.le_of_lt (d.a1 i (m - 1) (by omega) (by omega) (by omega))
theorem Dwn.next {n m : Nat} {p : Array Nat} (hsz : p.size = n) (hm : 1 <= m) (hmn : m < n) (hid : ∀ k, m <= k -> k < n -> p.getD k 0 = k) (hlo : ∀ k, k < m -> p.getD k 0 < m) (ho : ∀ i j, i < j -> j < m -> Lx ks (p.getD j 0) (p.getD i 0))
  (hk : ∀ i, i < m -> kk ks (p.getD m 0) < kk ks (p.getD i 0)) : Dwn ks n (m + 1) 0 p := by
 refine ⟨hsz, hmn, by omega, fun k a b => hid k (by omega) b, fun k a => ?_, fun i j a b c => ?_, fun i j a b => ho i j a (by omega), fun i j a b c => by omega⟩
 ·by_cases e : k < m
  ·have := hlo k e; omega
  ·have : k = m := by omega
   rw [this, hid m (Nat.le_refl _) hmn]; omega
 ·have : j = m := by omega
  subst this
  exact hk i (by omega)
theorem qoB {n m : Nat} {p : Array Nat} (d : Dwn ks n m 0 p) : ∀ k, (kas_rev p (m - (0 + 1)) m).getD k 0 = p.getD k 0 := fun k => by
 have hqm := d.qm
 rw [qco (by rw [d.sz]; exact d.mn) (by omega)]
 split
 ·congr 1; omega
 ·rfl
theorem qcq {n : Nat} : ∀ (f m q : Nat) {p : Array Nat}, f = n - m -> Dwn ks n m q p -> ∃ r, uM (cm ks) (kas_desc f p m q) = r /\ Dwn ks n r.2.1 r.2.2 r.1
 | 0, m, q, p, hf, d => ⟨(p, m, q), rfl, d⟩
 | f + 1, m, q, p, hf, d => by
  show ∃ r, uM (cm ks) (if cm ks (p.getD m 0) (p.getD (m - 1) 0) = true then (if q > 0 then kas_desc f (kas_rev p (m - (q + 1)) m) (m + 1) 0 else kas_desc f p (m + 1) 0)
   else .ask (p.getD (m - 1) 0) (p.getD m 0) fun c => if c = true then .ret (p, m, q) else kas_desc f p (m + 1) (q + 1)) = r /\ _
  have hmn : m < n := by have := d.mn; omega
  have hqm := d.qm
  have hid := d.id m (Nat.le_refl _) hmn
  obtain ⟨t1, t2, t3, t4, t5⟩ := d.turned
  by_cases c : kk ks (p.getD m 0) < kk ks (p.getD (m - 1) 0)
  ·rw [if_pos (decide_eq_true c)]
   by_cases hq : q > 0
   ·rw [if_pos hq]
    have hm' : (kas_rev p (m - (q + 1)) m).getD m 0 = p.getD m 0 := by rw [t2 m (Nat.le_refl _) hmn, hid]
    exact qcq f (m + 1) 0 (by omega) (Dwn.next t1 (by omega) hmn t2 t3 t4 fun i hi => by rw [hm']; exact Int.lt_of_lt_of_le c (t5 i hi))
   ·rw [if_neg hq]
    have e : q = 0 := by omega
    subst e
    have g := qoB d
    refine qcq f (m + 1) 0 (by omega) (Dwn.next d.sz (by omega) hmn d.id d.lo (fun i j a b => ?_) fun i hi => ?_)
    ·have := t4 i j a b
     rw [g, g] at this
     exact this
    ·have := t5 i hi
     rw [g] at this
     exact Int.lt_of_lt_of_le c this
  ·rw [if_neg (by simpa using c)]
   show ∃ r, uM (cm ks) (if cm ks (p.getD (m - 1) 0) (p.getD m 0) = true then .ret (p, m, q) else kas_desc f p (m + 1) (q + 1)) = r /\ _
   by_cases c2 : kk ks (p.getD (m - 1) 0) < kk ks (p.getD m 0)
   ·rw [if_pos (decide_eq_true c2)]
    exact ⟨(p, m, q), rfl, d⟩
   ·rw [if_neg (by simpa using c2)]
    have ek : kk ks (p.getD (m - 1) 0) = kk ks (p.getD m 0) := by
     have a1 : kk ks (p.getD (m - 1) 0) <= kk ks (p.getD m 0) := Int.not_lt.mp c
     have a2 : kk ks (p.getD m 0) <= kk ks (p.getD (m - 1) 0) := Int.not_lt.mp c2
     omega
    refine qcq f (m + 1) (q + 1) (by omega) ⟨d.sz, hmn, by omega, fun k a b => d.id k (by omega) b, fun k a => ?_, fun i j a b c => ?_, fun i j a b => d.a2 i j a (by omega), fun i j a b c => ?_⟩
    ·by_cases e : k < m
     ·have := d.lo k e; omega
     ·have : k = m := by omega
      rw [this, hid]; omega
    ·by_cases e : j < m
     ·exact d.a1 i j (by omega) (by omega) e
     ·have : j = m := by omega
      subst this
      rw [<- ek]
      exact d.a1 i (j - 1) (by omega) (by omega) (by omega)
    ·by_cases e : j < m
     ·exact d.bl i j (by omega) b e
     ·have : j = m := by omega
      subst this
      have l1 := d.lo i b
      refine ⟨?_, by rw [hid]; exact l1⟩
      rw [<- ek]
      by_cases e2 : i = j - 1
      ·rw [e2]
      ·exact (d.bl i (j - 1) (by omega) (by omega) (by omega)).1
theorem qe2 {n m : Nat} {p : Array Nat} (hsz : p.size = n) (hm : 1 <= m) (hmn : m <= n) (hid : ∀ k, m <= k -> k < n -> p.getD k 0 = k) (hlo : ∀ k, k < m -> p.getD k 0 < m) (ho : ∀ i j, i < j -> j < m -> Lx ks (p.getD j 0) (p.getD i 0)) :
  qe1 ks n (uM (cm ks) (kas_tail3 m n p)).1 (uM (cm ks) (kas_tail3 m n p)).2 /\ 1 <= (uM (cm ks) (kas_tail3 m n p)).1 := by
 have g := fun k => qco (p := p) (i := 0) (j := m) (by rw [hsz]; exact hmn) (Nat.zero_le _) k
 have S : qe1 ks n m (kas_rev p 0 m) := by
  refine ⟨by rw [qcp, hsz], hmn, fun k a b => ?_, fun k a => ?_, fun i j a b => ?_⟩
  ·rw [g, if_neg (by omega)]; exact hid k a b
  ·rw [g, if_pos ⟨Nat.zero_le _, a⟩]; exact hlo _ (by omega)
  ·rw [g, g, if_pos ⟨Nat.zero_le _, by omega⟩, if_pos ⟨Nat.zero_le _, b⟩]
   exact ho _ _ (by omega) (by omega)
 obtain ⟨m', e1, e2, e3, _⟩ := qg9 (n - m) m rfl hm S
 have e : uM (cm ks) (kas_tail3 m n p) = (m', kas_rev p 0 m) := by
  unfold kas_tail3
  rw [uF, e1]
  rfl
 rw [e]
 exact ⟨e3, by show 1 <= m'; omega⟩
theorem qbn {n m : Nat} {p : Array Nat} (d : Dwn ks n (m + 1) 0 p) : qe1 ks n (uM (cm ks) (kas_descPart m n p)).1 (uM (cm ks) (kas_descPart m n p)).2 /\ 1 <= (uM (cm ks) (kas_descPart m n p)).1 := by
 obtain ⟨r, e1, e2⟩ := qcq (n - (m + 1)) (m + 1) 0 rfl d
 obtain ⟨t1, t2, t3, t4, _⟩ := e2.turned
 have hqm := e2.qm
 unfold kas_descPart
 rw [uF, e1]
 by_cases hq : r.2.2 > 0
 ·rw [if_pos hq]
  exact qe2 t1 (by omega) e2.mn t2 t3 t4
 ·rw [if_neg hq]
  obtain ⟨p', m', q'⟩ := r
  have e : q' = 0 := by show q' = 0; have : ¬ q' > 0 := hq; omega
  subst e
  have g := qoB e2
  refine qe2 e2.sz (by omega) e2.mn e2.id e2.lo fun i j a b => ?_
  have := t4 i j a b
  rw [g, g] at this
  exact this
theorem qiu {n : Nat} (hn : 1 <= n) : qe1 ks n (uM (cm ks) (kas_count n (List.toArray (List.range n)))).1 (uM (cm ks) (kas_count n (List.toArray (List.range n)))).2 /\ 1 <= (uM (cm ks) (kas_count n (List.toArray (List.range n)))).1 := by
 have hr : ∀ k, k < n -> (List.toArray (List.range n)).getD k 0 = k := fun k hk => by simp [Array.getD, hk]
 have S1 : qe1 ks n 1 (List.toArray (List.range n)) := ⟨by simp, hn, fun k _ b => hr k b, fun k a => by rw [hr k (by omega)]; exact a, fun i j a b => by omega⟩
 obtain ⟨m, e1, e2, e3, e4⟩ := qg9 (n - 1) 1 rfl (Nat.le_refl _) S1
 unfold kas_count
 rw [uF, e1]
 by_cases h1 : m = n
 ·rw [if_pos (by rw [h1]; simp)]
  exact ⟨e3, e2⟩
 ·rw [if_neg (by simpa using h1)]
  have hmn : m < n := by have := e3.mn; omega
  have hk := e4 hmn
  by_cases h2 : m > 1
  ·rw [if_pos h2]
   show qe1 ks n (uM (cm ks) (if cm ks ((List.toArray (List.range n)).getD 0 0) ((List.toArray (List.range n)).getD (m - 1) 0) = true then .ret (m, List.toArray (List.range n)) else kas_descPart m n (kas_rev (List.toArray (List.range n)) 0 m))).1 _ /\ _
   by_cases c : kk ks ((List.toArray (List.range n)).getD 0 0) < kk ks ((List.toArray (List.range n)).getD (m - 1) 0)
   ·rw [show uM (cm ks) (KasT.ask ((List.toArray (List.range n)).getD 0 0) ((List.toArray (List.range n)).getD (m - 1) 0) fun c => if c = true then .ret (m, List.toArray (List.range n)) else kas_descPart m n (kas_rev (List.toArray (List.range n)) 0 m)) = uM (cm ks) (if cm ks ((List.toArray (List.range n)).getD 0 0) ((List.toArray (List.range n)).getD (m - 1) 0) = true then .ret (m, List.toArray (List.range n)) else kas_descPart m n (kas_rev (List.toArray (List.range n)) 0 m)) from rfl, if_pos (decide_eq_true c)]
    exact ⟨e3, e2⟩
   ·rw [show uM (cm ks) (KasT.ask ((List.toArray (List.range n)).getD 0 0) ((List.toArray (List.range n)).getD (m - 1) 0) fun c => if c = true then .ret (m, List.toArray (List.range n)) else kas_descPart m n (kas_rev (List.toArray (List.range n)) 0 m)) = uM (cm ks) (if cm ks ((List.toArray (List.range n)).getD 0 0) ((List.toArray (List.range n)).getD (m - 1) 0) = true then .ret (m, List.toArray (List.range n)) else kas_descPart m n (kas_rev (List.toArray (List.range n)) 0 m)) from rfl, if_neg (by simpa using c)]
    generalize hp : List.toArray (List.range n) = p at *
    have g := fun k => qco (p := p) (i := 0) (j := m) (by rw [e3.sz]; omega) (Nat.zero_le _) k
    have al : ∀ i, i < m -> kk ks (p.getD i 0) = kk ks (p.getD 0 0) := fun i hi => by
     have c' : kk ks (p.getD (m - 1) 0) <= kk ks (p.getD 0 0) := Int.not_lt.mp c
     have a1 : kk ks (p.getD 0 0) <= kk ks (p.getD i 0) := by
      by_cases e : i = 0
      ·rw [e]; exact Int.le_refl _
      ·exact (e3.so 0 i (by omega) hi).le
     have a2 : kk ks (p.getD i 0) <= kk ks (p.getD (m - 1) 0) := by
      by_cases e : i = m - 1
      ·rw [e]; exact Int.le_refl _
      ·exact (e3.so i (m - 1) (by omega) (by omega)).le
     omega
    refine qbn (Dwn.next (by rw [qcp, e3.sz]) (by omega) hmn (fun k a b => by rw [g, if_neg (by omega)]; exact e3.id k a b) (fun k a => by rw [g, if_pos ⟨Nat.zero_le _, a⟩]; exact e3.lo _ (by omega)) (fun i j a b => ?_) fun i hi => ?_)
    ·rw [g, g, if_pos ⟨Nat.zero_le _, b⟩, if_pos ⟨Nat.zero_le _, by omega⟩]
     exact e3.so _ _ (by omega) (by omega)
    ·have h9 := al (m - 1) (by omega)
     rw [g m, g i, if_neg (by omega), if_pos ⟨Nat.zero_le _, hi⟩, al (0 + m - 1 - i) (by omega), <- h9]
     exact hk
  ·rw [if_neg h2]
   have em : m = 1 := by omega
   subst em
   exact qbn (Dwn.next e3.sz (Nat.le_refl _) hmn e3.id e3.lo (fun i j a b => by omega) fun i hi => by
    have : i = 0 := by omega
    subst this
    exact hk)
theorem qcr {n k : Nat} {p : Array Nat} (S : qe1 ks n k p) : ∀ (f l r : Nat), r - l <= f -> l <= r -> r <= k -> (∀ i, i < l -> kk ks (p.getD i 0) <= kk ks (p.getD k 0)) -> (∀ i, r <= i -> i < k -> kk ks (p.getD k 0) < kk ks (p.getD i 0)) ->
  ∃ l', uM (cm ks) (kas_place p k f l r) = l' /\ l' <= k /\ (∀ i, i < l' -> kk ks (p.getD i 0) <= kk ks (p.getD k 0)) /\ (∀ i, l' <= i -> i < k -> kk ks (p.getD k 0) < kk ks (p.getD i 0))
 | 0, l, r, hf, h1, h2, a, b => ⟨l, rfl, by omega, a, fun i c d => b i (by omega) d⟩
 | f + 1, l, r, hf, h1, h2, a, b => by
  have mono : ∀ i j, i <= j -> j < k -> kk ks (p.getD i 0) <= kk ks (p.getD j 0) := fun i j hij hj => by
   by_cases e : i = j
   ·rw [e]; exact Int.le_refl _
   ·exact (S.so i j (by omega) hj).le
  unfold kas_place
  by_cases hge : l >= r
  ·rw [if_pos hge]
   exact ⟨l, rfl, by omega, a, fun i c d => b i (by omega) d⟩
  ·rw [if_neg hge]
   show ∃ l', uM (cm ks) (if cm ks (p.getD k 0) (p.getD ((l + r) / 2) 0) = true then kas_place p k f l ((l + r) / 2) else kas_place p k f ((l + r) / 2 + 1) r) = l' /\ _
   by_cases c : kk ks (p.getD k 0) < kk ks (p.getD ((l + r) / 2) 0)
   ·rw [if_pos (decide_eq_true c)]
    exact qcr S f l ((l + r) / 2) (by omega) (by omega) (by omega) a fun i x y => Int.lt_of_lt_of_le c (mono _ _ x y)
   ·rw [if_neg (by simpa using c)]
    exact qcr S f ((l + r) / 2 + 1) r (by omega) (by omega) h2 (fun i x => Int.le_trans (mono i ((l + r) / 2) (by omega) (by omega)) (Int.not_lt.mp c)) b
theorem qjr {n : Nat} : ∀ (f k : Nat) {p : Array Nat}, f = n - k -> qe1 ks n k p -> qe1 ks n n (uM (cm ks) (kas_bin f p k))
 | 0, k, p, hf, S => by
  have : k = n := by have := S.mn; omega
  subst this
  exact S
 | f + 1, k, p, hf, S => by
  have hkn : k < n := by omega
  have hid := S.id k (Nat.le_refl _) hkn
  obtain ⟨l, e1, e2, e3, e4⟩ := qcr S k 0 k (by omega) (Nat.zero_le _) (Nat.le_refl _) (fun i h => by omega) (fun i h1 h2 => by omega)
  show qe1 ks n n (uM (cm ks) ((kas_place p k k 0 k).bind fun l => kas_bin f (bubble p k (k - l)) (k + 1)))
  rw [uF, e1]
  have g := fun j => qkJ (p := p) (k := k) (l := l) (by rw [S.sz]; exact hkn) e2 j
  refine qjr f (k + 1) (by omega) ⟨by rw [bubble_size, S.sz], hkn, fun j a b => ?_, fun j a => ?_, fun i j a b => ?_⟩
  ·rw [g, if_neg (by omega), if_neg (by omega)]; exact S.id j (by omega) b
  ·rw [g]
   split
   ·rw [hid]; omega
   ·split
    ·have := S.lo (j - 1) (by omega); omega
    ·have := S.lo j (by omega); omega
  ·rw [g i, g j]
   have lk : ∀ z, z < k -> z < l -> Lx ks (p.getD z 0) (p.getD k 0) := fun z hz hl => by
    have h1 := e3 z hl
    have h2 := S.lo z hz
    unfold Lx
    rw [hid] at h1 |-
    omega
   have gk : ∀ z, l <= z -> z < k -> Lx ks (p.getD k 0) (p.getD z 0) := fun z hl hz => .inl (e4 z hl hz)
   by_cases hi : i = l
   ·rw [if_pos hi, if_neg (by omega), if_pos ⟨by omega, by omega⟩]
    exact gk _ (by omega) (by omega)
   ·rw [if_neg hi]
    by_cases hj : j = l
    ·rw [if_pos hj, if_neg (by omega)]
     exact lk i (by omega) (by omega)
    ·rw [if_neg hj]
     by_cases hi2 : l < i /\ i <= k
     ·rw [if_pos hi2, if_pos ⟨by omega, by omega⟩]
      exact S.so _ _ (by omega) (by omega)
     ·rw [if_neg hi2]
      by_cases hj2 : l < j /\ j <= k
      ·rw [if_pos hj2]
       exact S.so _ _ (by omega) (by omega)
      ·rw [if_neg hj2]
       exact S.so _ _ a (by omega)
theorem qkK {n : Nat} (hn : 1 <= n) : qe1 ks n n (uM (cm ks) (kas_sort n)) := by
 obtain ⟨S, h1⟩ := qiu (ks := ks) hn
 unfold kas_sort
 rw [uF]
 by_cases h : (uM (cm ks) (kas_count n (List.toArray (List.range n)))).1 < n
 ·rw [if_pos h]
  have e : max (uM (cm ks) (kas_count n (List.toArray (List.range n)))).1 1 = (uM (cm ks) (kas_count n (List.toArray (List.range n)))).1 := by omega
  rw [e]
  exact qjr _ _ rfl S
 ·rw [if_neg h]
  have e : (uM (cm ks) (kas_count n (List.toArray (List.range n)))).1 = n := by have := S.mn; omega
  rw [e] at S
  exact S
end
theorem ord_sorted (ks : List Int) : (ord ks).Pairwise (Lx ks) := by
 unfold ord
 split
 ·rename_i h
  match hk : ks.length, h with
  | 0, _ => exact List.Pairwise.nil
  | 1, _ => exact List.pairwise_singleton _ _
 ·have S := qkK (ks := ks) (n := ks.length) (by omega)
  rw [List.pairwise_iff_getElem]
  intro i j hi hj hij
  have hz := S.sz
  rw [Array.length_toList] at hi hj
  have := S.so i j hij (by rw [<- hz]; exact hj)
  have e1 : (uM (cm ks) (kas_sort ks.length)).getD i 0 = (uM (cm ks) (kas_sort ks.length)).toList[i]'(by rw [Array.length_toList]; exact hi) := by simp [Array.getD, hi]
  have e2 : (uM (cm ks) (kas_sort ks.length)).getD j 0 = (uM (cm ks) (kas_sort ks.length)).toList[j]'(by rw [Array.length_toList]; exact hj) := by simp [Array.getD, hj]
  rw [e1, e2] at this
  exact this
end L2.Srt
namespace L2.Sk
namespace Law
open PySem PySem.Spec PyProof.Rows
set_option maxHeartbeats 4000000
def Rx (ks : List Nk) (i j : Nat) : Prop := (nAt ks j).2.1 * (nAt ks i).1 < (nAt ks i).2.1 * (nAt ks j).1 \/ ((nAt ks j).2.1 * (nAt ks i).1 = (nAt ks i).2.1 * (nAt ks j).1 /\ i < j)
theorem qdt {ks : List Nk} {x : Nk} (h : x ∈ ks) : x.1 ∣ zS ks := by
 induction ks with
 | nil => cases h
 | cons y ks ih =>
  rw [yH]
  rcases List.mem_cons.mp h with e | h
  ·subst e; exact Nat.dvd_mul_right _ _
  ·exact Nat.dvd_trans (ih h) (Nat.dvd_mul_left _ _)
theorem qnZ {a b p q v w P : Nat} (hv : 0 < v) (hw : 0 < w) (hP : 0 < P) (h1 : v * p = P) (h2 : w * q = P) : (b * q < a * p ↔ b * v < a * w) /\ (b * q = a * p ↔ b * v = a * w) := by
 have e1 : b * q * (v * w) = b * v * P := by rw [<- h2]; simp only [Nat.mul_comm, Nat.mul_left_comm]
 have e2 : a * p * (v * w) = a * w * P := by rw [<- h1]; simp only [Nat.mul_comm, Nat.mul_left_comm]
 have hvw : 0 < v * w := Nat.mul_pos hv hw
 constructor
 ·constructor
  ·intro h
   have := Nat.mul_lt_mul_of_pos_right h hvw
   rw [e1, e2] at this
   exact Nat.lt_of_mul_lt_mul_right this
  ·intro h
   have := Nat.mul_lt_mul_of_pos_right h hP
   rw [<- e1, <- e2] at this
   exact Nat.lt_of_mul_lt_mul_right this
 ·constructor
  ·intro h
   have : b * v * P = a * w * P := by rw [<- e1, <- e2, h]
   exact Nat.eq_of_mul_eq_mul_right hP this
  ·intro h
   have : b * q * (v * w) = a * p * (v * w) := by rw [e1, e2, h]
   exact Nat.eq_of_mul_eq_mul_right hvw this
theorem qkL {ks : List Nk} (hw : ∀ x ∈ ks, 0 < x.1) {i j : Nat} (hi : i < ks.length) (hj : j < ks.length) :
  (qd7 ks i < qd7 ks j ↔ (nAt ks j).2.1 * (nAt ks i).1 < (nAt ks i).2.1 * (nAt ks j).1) /\ (qd7 ks i = qd7 ks j ↔ (nAt ks j).2.1 * (nAt ks i).1 = (nAt ks i).2.1 * (nAt ks j).1) := by
 have a1 := jh hi
 have a2 := jh hj
 have d1 : (nAt ks i).1 * (zS ks / (nAt ks i).1) = zS ks := Nat.mul_div_cancel' (qdt a1)
 have d2 : (nAt ks j).1 * (zS ks / (nAt ks j).1) = zS ks := Nat.mul_div_cancel' (qdt a2)
 obtain ⟨c1, c2⟩ := qnZ (a := (nAt ks i).2.1) (b := (nAt ks j).2.1) (hw _ a1) (hw _ a2) (qbm hw) d1 d2
 have e : ∀ p, qd7 ks p = -(((nAt ks p).2.1 * (zS ks / (nAt ks p).1) : Nat) : Int) := fun p => by
  unfold qd7
  rw [Int.neg_mul]
  rfl
 rw [e i, e j, <- c1, <- c2]
 constructor <;> omega
theorem qkM (ks : List Nk) : (plN ks).Pairwise (· < ·) := (List.pairwise_lt_range).sublist List.filter_sublist
theorem qha {ks : List Nk} {p : Nat} : p ∈ plN ks ↔ p < ks.length /\ 0 < (nAt ks p).2.1 := by
 unfold plN
 rw [List.mem_filter, mR_, decide_eq_true_eq]
theorem qbo {ks : List Nk} (hw : ∀ x ∈ ks, 0 < x.1) : (uc ks).Pairwise (Rx ks) := by
 unfold uc
 rw [List.pairwise_map]
 refine (Srt.ord_sorted ((plN ks).map (qd7 ks))).imp_of_mem fun {a b} ha hb hab => ?_
 have la : a < (plN ks).length := by
  have := (Srt.ord_perm _).mem_iff.mp ha
  rw [lM_] at this
  exact mR_.mp this
 have lb : b < (plN ks).length := by
  have := (Srt.ord_perm _).mem_iff.mp hb
  rw [lM_] at this
  exact mR_.mp this
 have ea : (plN ks).getD a 0 = (plN ks)[a] := by simp [la]
 have eb : (plN ks).getD b 0 = (plN ks)[b] := by simp [lb]
 have ka : ((plN ks).map (qd7 ks)).getD a 0 = qd7 ks ((plN ks)[a]) := by simp [la]
 have kb : ((plN ks).map (qd7 ks)).getD b 0 = qd7 ks ((plN ks)[b]) := by simp [lb]
 have ma := (qha.mp (List.getElem_mem la)).1
 have mb := (qha.mp (List.getElem_mem lb)).1
 obtain ⟨k1, k2⟩ := qkL hw ma mb
 rw [ea, eb]
 unfold Srt.Lx Srt.kk at hab
 rw [ka, kb] at hab
 rcases hab with h | ⟨h, hlt⟩
 ·exact .inl (k1.mp h)
 ·exact .inr ⟨k2.mp h, List.pairwise_iff_getElem.mp (qkM ks) a b la lb hlt⟩
theorem Rx.le {ks : List Nk} {i j : Nat} (h : Rx ks i j) : (nAt ks j).2.1 * (nAt ks i).1 <= (nAt ks i).2.1 * (nAt ks j).1 := by rcases h with h | h <;> omega
def zF (t b : Nat) (x : Nk) : Nat := x.2.1 * b - x.1 * t
def bdN (t b : Nat) : List Nk -> Nat -> Option Nat
 | [], T => some T
 | x :: ks, T => if x.1 * t < x.2.1 * b then (match x.2.2 with
  | none => none
  | some m => bdN t b ks (T + zF t b x * m)) else bdN t b ks T
def spN (ks : List Nk) : List Nat -> Nat -> Nat × Nat
 | [], _ => (0, 1)
 | p :: l, r => if goN (nAt ks p) r then spN ks l (bhN (nAt ks p) r) else (yz (nAt ks p).2.1 (nAt ks p).1, yr (nAt ks p).2.1 (nAt ks p).1)
theorem uU {t b : Nat} : ∀ (ks : List Nk) (T : Nat), (∀ x ∈ ks, x.1 * t < x.2.1 * b -> x.2.2.isSome = true) -> bdN t b ks T = some (T + (ks.map fun x => zF t b x * mN x).sum)
 | [], T, _ => by simp [bdN]
 | x :: ks, T, h => by
  have ih := fun T => uU ks T fun y hy => h y (mM _ hy)
  unfold bdN
  rw [mC_, List.sum_cons]
  by_cases c : x.1 * t < x.2.1 * b
  ·rw [if_pos c]
   obtain ⟨m, hm⟩ := Option.isSome_iff_exists.mp (h x mS_ c)
   have e : mN x = m := by unfold mN; rw [hm]; rfl
   rw [hm, e]
   simp only [ih]
   congr 1
   omega
  ·rw [if_neg c, ih]
   have : zF t b x = 0 := by unfold zF; omega
   rw [this]
   simp
theorem qcs (ks : List Nk) : (List.range ks.length).map (nAt ks) = ks := by
 refine List.ext_getElem (by simp) fun i h1 h2 => ?_
 have := vz (ks := ks) (p := i) h2
 rw [gG h2] at this
 simp [(Option.some.inj this)]
theorem qag {f : Nat -> Nat} {q : Nat -> Bool} : ∀ l : List Nat, (∀ i ∈ l, q i = false -> f i = 0) -> ((l.filter q).map f).sum = (l.map f).sum
 | [], _ => rfl
 | i :: l, h => by
  have ih := qag (f := f) (q := q) l fun j hj => h j (mM _ hj)
  cases c : q i with
  | true => rw [List.filter_cons_of_pos c, mC_, mC_, List.sum_cons, List.sum_cons, ih]
  | false =>
   rw [List.filter_cons_of_neg (by rw [c]; simp), mC_, List.sum_cons, ih, h i mS_ c, Nat.zero_add]
theorem qaR {ks : List Nk} {f : Nat -> Nat} (h : ∀ i, (nAt ks i).2.1 = 0 -> f i = 0) : ((List.range ks.length).map f).sum = ((uc ks).map f).sum := by
 rw [((wU ks).map f).sum_nat]
 unfold plN
 rw [qag]
 intro i _ hi
 refine h i ?_
 simpa using hi
theorem qhb {B : Nat} {v : Nat -> Nat} {u : Nat -> Nk × Nat × Nat} : ∀ (l : List Nat) (s : Nat × Nat) (A : Nat), s.1 * B = s.2 * A -> (∀ i ∈ l, (u i).2.1 * B = v i * (u i).2.2) -> ((l.map u).foldl swS s).1 * B = ((l.map u).foldl swS s).2 * (A + (l.map fun i => v i * (u i).1.2.1).sum)
 | [], s, A, h, _ => by simpa using h
 | i :: l, s, A, h, hv => by
  have h1 := hv i mS_
  have := qhb (B := B) (v := v) (u := u) l (swS s (u i)) (A + v i * (u i).1.2.1) (by
   show (s.1 * (u i).2.2 + (u i).2.1 * (u i).1.2.1 * s.2) * B = s.2 * (u i).2.2 * (A + v i * (u i).1.2.1)
   generalize (u i).2.2 = z2 at *
   generalize (u i).2.1 = z1 at *
   generalize (u i).1.2.1 = g at *
   generalize v i = w at *
   have a1 : s.1 * z2 * B = s.2 * A * z2 := by rw [<- h]; simp only [Nat.mul_comm, Nat.mul_left_comm]
   have a2 : z1 * g * s.2 * B = w * z2 * g * s.2 := by rw [<- h1]; simp only [Nat.mul_comm, Nat.mul_left_comm]
   rw [Nat.add_mul, a1, a2, Nat.mul_add]
   simp only [Nat.mul_comm, Nat.mul_left_comm]) fun j hj => hv j (mM _ hj)
  rw [mC_, fo_, mC_, List.sum_cons]
  rw [Nat.add_assoc] at this
  exact this
theorem vB {ks : List Nk} : ∀ (l : List Nat) (s : Nat × List (Nat × Nat)) (p : Nat), p ∉ l -> (l.foldl (shS ks) s).2.getD p (0, 1) = s.2.getD p (0, 1)
 | [], s, p, _ => rfl
 | q :: l, s, p, h => by
  rw [fo_, vB l _ p fun hp => h (mM _ hp)]
  show (s.2.set q _).getD p (0, 1) = _
  have : q ≠ p := fun e => h (by rw [e]; exact mS_)
  simp [List.getD, List.getElem?_set, this]
theorem qdu {F : List (Nat × Nat)} {p : Nat} {z : Nat × Nat} (h : p < F.length) : (F.set p z).getD p (0, 1) = z := by simp [List.getD, h]
theorem sh0 {x : Nk} (h : 0 < x.1) : (shN x 0).1 = 0 /\ bhN x 0 = 0 := by
 unfold shN bhN
 cases c : goN x 0 with
 | false =>
  refine ⟨?_, by simp⟩
  show yz 0 x.1 = 0
  unfold yz
  rw [Nat.zero_div]
 | true =>
  refine ⟨?_, by simp⟩
  show mN x = 0
  unfold goN at c
  unfold mN
  cases e : x.2.2 with
  | none => rfl
  | some m =>
   rw [e] at c
   have : m * x.1 <= 0 := by simpa using c
   rcases Nat.mul_eq_zero.mp (Nat.le_zero.mp this) with h0 | h0
   ·exact h0
   ·omega
theorem qct {ks : List Nk} (hw : ∀ x ∈ ks, 0 < x.1) : ∀ (l : List Nat) (F : List (Nat × Nat)), (∀ p ∈ l, p < ks.length) -> F.length = ks.length -> l.Nodup -> ∀ p ∈ l, ((l.foldl (shS ks) (0, F)).2.getD p (0, 1)).1 = 0
 | [], F, _, _, _, p, hp => by cases hp
 | q :: l, F, hl, hF, hn, p, hp => by
  have hq := hl q mS_
  obtain ⟨s0, b0⟩ := sh0 (hw _ (jh hq))
  rw [fo_]
  have es : shS ks (0, F) q = (0, F.set q (shN (nAt ks q) 0)) := by
   show (bhN (nAt ks q) 0, _) = _
   rw [b0]
  rw [es]
  obtain ⟨n1, n2⟩ := List.nodup_cons.mp hn
  rcases List.mem_cons.mp hp with e | hp
  ·subst e
   rw [vB l _ p n1, qdu (by rw [hF]; exact hq)]
   exact s0
  ·exact qct hw l _ (fun y hy => hl y (mM _ hy)) (by rw [lS_]; exact hF) n2 p hp
theorem wV (T : Nat) {B : Nat} (hB : 0 < B) : T * yr T B = B * yz T B := by
 obtain ⟨g, g0, e1, e2, e3, _, _⟩ := jG T hB
 generalize yz T B = t at *
 generalize yr T B = b at *
 rw [e1, e2]
 simp only [Nat.mul_comm, Nat.mul_left_comm]
theorem qhc (T : Nat) {B : Nat} (hB : 0 < B) : Nat.gcd (yz T B) (yr T B) = 1 := by
 have hg : 0 < Nat.gcd T B := Nat.gcd_pos_of_pos_right _ hB
 show Nat.gcd (T / Nat.gcd T B) (B / Nat.gcd T B) = 1
 rw [Nat.gcd_div (Nat.gcd_dvd_left T B) (Nat.gcd_dvd_right T B)]
 exact Nat.div_self hg
theorem qe3 {gp wp gx wx t b : Nat} (hx : 0 < wx) (e : gx * b = wx * t) : (gx * wp <= gp * wx -> wp * t <= gp * b) /\ (gp * wx <= gx * wp -> gp * b <= wp * t) := by
 constructor
 ·intro h
  have a1 : gx * wp * b <= gp * wx * b := Nat.mul_le_mul_right _ h
  have a2 : gx * wp * b = wp * t * wx := by
   rw [Nat.mul_right_comm, e]
   simp only [Nat.mul_comm, Nat.mul_left_comm]
  have a3 : gp * wx * b = gp * b * wx := Nat.mul_right_comm _ _ _
  rw [a2, a3] at a1
  exact Nat.le_of_mul_le_mul_right a1 hx
 ·intro h
  have a1 : gp * wx * b <= gx * wp * b := Nat.mul_le_mul_right _ h
  have a2 : gx * wp * b = wp * t * wx := by
   rw [Nat.mul_right_comm, e]
   simp only [Nat.mul_comm, Nat.mul_left_comm]
  have a3 : gp * wx * b = gp * b * wx := Nat.mul_right_comm _ _ _
  rw [a2, a3] at a1
  exact Nat.le_of_mul_le_mul_right a1 hx
def pv (p a : Nat) (v : Nat -> Nat) (q : Nat) : Nat := if q = p then a else v q
theorem wW (p a : Nat) (v : Nat -> Nat) : pv p a v p = a := if_pos rfl
theorem qah {p q a : Nat} {v : Nat -> Nat} (h : q ≠ p) : pv p a v q = v q := if_neg h
structure qoC (ks : List Nk) (l : List Nat) (r : Nat) (F : List (Nat × Nat)) (t b : Nat) : Prop where
 b0 : 0 < b
 g1 : Nat.gcd t b = 1
 at' : (t = 0 /\ b = 1) \/ ∃ x ∈ l, (nAt ks x).2.1 * b = (nAt ks x).1 * t
 fin : ∀ p ∈ l, (nAt ks p).1 * t < (nAt ks p).2.1 * b -> (nAt ks p).2.2.isSome = true
 sum : ∃ (B : Nat) (v : Nat -> Nat), 0 < B /\ (∀ p ∈ l, ((l.foldl (shS ks) (r, F)).2.getD p (0, 1)).1 * B = v p * ((l.foldl (shS ks) (r, F)).2.getD p (0, 1)).2) /\ b * (l.map fun p => v p * (nAt ks p).2.1).sum = B * (r * t + (l.map fun p => zF t b (nAt ks p) * mN (nAt ks p)).sum)
theorem uG {f : Nat -> Nat} : ∀ l : List Nat, (∀ p ∈ l, f p = 0) -> (l.map f).sum = 0
 | [], _ => rfl
 | p :: l, h => by rw [mC_, List.sum_cons, h p mS_, uG l fun q hq => h q (mM _ hq)]
theorem qn0 {ks : List Nk} (hw : ∀ x ∈ ks, 0 < x.1) : ∀ (l : List Nat) (r : Nat) (F : List (Nat × Nat)), (∀ p ∈ l, p < ks.length) -> F.length = ks.length -> l.Nodup -> l.Pairwise (Rx ks) -> qoC ks l r F (spN ks l r).1 (spN ks l r).2
 | [], r, F, _, _, _, _ => ⟨Nat.one_pos, by simp [spN], .inl ⟨rfl, rfl⟩, fun p hp => (nN_ hp).elim, 1, fun _ => 0, Nat.one_pos, fun p hp => (nN_ hp).elim, by simp [spN]⟩
 | p :: l, r, F, hl, hF, hn, hs => by
  have hp := hl p mS_
  have hl' : ∀ y ∈ l, y < ks.length := fun y hy => hl y (mM _ hy)
  obtain ⟨n1, n2⟩ := List.nodup_cons.mp hn
  obtain ⟨s1, s2⟩ := List.pairwise_cons.mp hs
  have w0 := hw _ (jh hp)
  cases c : goN (nAt ks p) r with
  | true =>
   have e1 : spN ks (p :: l) r = spN ks l (bhN (nAt ks p) r) := by
    show (if goN (nAt ks p) r then _ else _) = _
    rw [if_pos c]
   have eb : bhN (nAt ks p) r = r - mN (nAt ks p) * (nAt ks p).1 := by unfold bhN; rw [if_pos c]
   have es : shN (nAt ks p) r = (mN (nAt ks p), 1) := by unfold shN; rw [if_pos c]
   have hm : (nAt ks p).2.2.isSome = true /\ mN (nAt ks p) * (nAt ks p).1 <= r := by
    unfold goN at c
    unfold mN
    cases em : (nAt ks p).2.2 with
    | none => rw [em] at c; cases c
    | some m => rw [em] at c; exact ⟨rfl, by simpa using c⟩
   have d := qn0 hw l (bhN (nAt ks p) r) (F.set p (shN (nAt ks p) r)) hl' (by rw [lS_]; exact hF) n2 s2
   rw [e1]
   generalize spN ks l (bhN (nAt ks p) r) = tb at *
   obtain ⟨t, b⟩ := tb
   simp only at d |-
   obtain ⟨b0, g1, ha, hf, B, v, hB, hv, hsum⟩ := d
   have hge : (nAt ks p).1 * t <= (nAt ks p).2.1 * b := by
    rcases ha with ⟨rfl, rfl⟩ | ⟨x, hx, ex⟩
    ·simp
    ·exact (qe3 (hw _ (jh (hl' x hx))) ex).1 (s1 x hx).le
   have hfold : (p :: l).foldl (shS ks) (r, F) = l.foldl (shS ks) (bhN (nAt ks p) r, F.set p (shN (nAt ks p) r)) := rfl
   refine ⟨b0, g1, ?_, fun q hq => ?_, B, pv p (B * mN (nAt ks p)) v, hB, fun q hq => ?_, ?_⟩
   ·rcases ha with h | ⟨x, hx, ex⟩
    ·exact .inl h
    ·exact .inr ⟨x, mM _ hx, ex⟩
   ·rcases List.mem_cons.mp hq with e | hq
    ·subst e; exact fun _ => hm.1
    ·exact hf q hq
   ·rw [hfold]
    rcases List.mem_cons.mp hq with e | hq
    ·subst e
     rw [vB l _ q n1]
     show ((F.set q (shN (nAt ks q) r)).getD q (0, 1)).1 * B = _ * ((F.set q (shN (nAt ks q) r)).getD q (0, 1)).2
     rw [qdu (by rw [hF]; exact hp), es, wW]
     simp only [Nat.mul_one]
     exact Nat.mul_comm _ _
    ·have : q ≠ p := fun e => n1 (e ▸ hq)
     rw [qah this]
     exact hv q hq
   ·have ev : (l.map fun q => pv p (B * mN (nAt ks p)) v q * (nAt ks q).2.1) = l.map fun q => v q * (nAt ks q).2.1 := mL_ fun q hq => by
     have : q ≠ p := fun e => n1 (e ▸ hq)
     rw [qah this]
    rw [mC_, mC_, List.sum_cons, List.sum_cons, ev, wW, Nat.mul_add, hsum, eb]
    generalize (l.map fun p => zF t b (nAt ks p) * mN (nAt ks p)).sum = S at *
    unfold zF
    generalize mN (nAt ks p) = m at *
    generalize (nAt ks p).1 = w at *
    generalize (nAt ks p).2.1 = g at *
    obtain ⟨q, rfl⟩ : ∃ q, r = m * w + q := ⟨r - m * w, by omega⟩
    obtain ⟨z, hz⟩ : ∃ z, g * b = w * t + z := ⟨g * b - w * t, by omega⟩
    rw [hz, Nat.add_sub_cancel_left, Nat.add_sub_cancel_left]
    have : b * (B * m * g) = B * (m * (w * t + z)) := by
     rw [<- hz]
     simp only [Nat.mul_comm, Nat.mul_left_comm]
    rw [this, <- Nat.mul_add]
    congr 1
    rw [Nat.mul_add, Nat.add_mul]
    have a1 : m * (w * t) = m * w * t := (Nat.mul_assoc _ _ _).symm
    have a2 : z * m = m * z := Nat.mul_comm _ _
    omega
  | false =>
   have e1 : spN ks (p :: l) r = (yz (nAt ks p).2.1 (nAt ks p).1, yr (nAt ks p).2.1 (nAt ks p).1) := by
    show (if goN (nAt ks p) r then _ else _) = _
    rw [if_neg (by rw [c]; simp)]
   have eb : bhN (nAt ks p) r = 0 := by unfold bhN; rw [if_neg (by rw [c]; simp)]
   have es : shN (nAt ks p) r = (yz r (nAt ks p).1, yr r (nAt ks p).1) := by unfold shN; rw [if_neg (by rw [c]; simp)]
   have hfold : (p :: l).foldl (shS ks) (r, F) = l.foldl (shS ks) (0, F.set p (shN (nAt ks p) r)) := by rw [<- eb]; rfl
   rw [e1]
   have ex := wV (nAt ks p).2.1 w0
   have er := wV r w0
   have lb := vA (nAt ks p).2.1 w0
   have lr := vA r w0
   have gg := qhc (nAt ks p).2.1 w0
   simp only
   generalize yz (nAt ks p).2.1 (nAt ks p).1 = t at *
   generalize yr (nAt ks p).2.1 (nAt ks p).1 = b at *
   have hle : ∀ q ∈ l, (nAt ks q).2.1 * b <= (nAt ks q).1 * t := fun q hq => (qe3 w0 ex).2 (s1 q hq).le
   have m0 : ∀ q ∈ p :: l, zF t b (nAt ks q) = 0 := fun q hq => by
    unfold zF
    rcases List.mem_cons.mp hq with e | hq
    ·subst e; omega
    ·have := hle q hq; omega
   refine ⟨lb.1, gg, .inr ⟨p, mS_, ex⟩, fun q hq h => ?_, yr r (nAt ks p).1, pv p (yz r (nAt ks p).1) (fun _ => 0), lr.1, fun q hq => ?_, ?_⟩
   ·have := m0 q hq
    unfold zF at this
    omega
   ·rw [hfold]
    rcases List.mem_cons.mp hq with e | hq
    ·subst e
     rw [vB l _ q n1]
     show ((F.set q (shN (nAt ks q) r)).getD q (0, 1)).1 * _ = _ * ((F.set q (shN (nAt ks q) r)).getD q (0, 1)).2
     rw [qdu (by rw [hF]; exact hp), es, wW]
    ·have : q ≠ p := fun e => n1 (e ▸ hq)
     rw [qah this, Nat.zero_mul, qct hw l _ hl' (by rw [lS_]; exact hF) n2 q hq, Nat.zero_mul]
   ·rw [uG (p :: l) (f := fun q => zF t b (nAt ks q) * mN (nAt ks q)) fun q hq => by rw [m0 q hq, Nat.zero_mul]]
    rw [mC_, List.sum_cons, uG l (f := fun q => pv p (yz r (nAt ks p).1) (fun _ => 0) q * (nAt ks q).2.1) fun q hq => by
     have : q ≠ p := fun e => n1 (e ▸ hq)
     rw [qah this, Nat.zero_mul], wW, Nat.add_zero, Nat.add_zero]
    generalize yz r (nAt ks p).1 = u at *
    generalize yr r (nAt ks p).1 = B at *
    generalize (nAt ks p).1 = w at *
    generalize (nAt ks p).2.1 = g at *
    have a1 : b * (u * g) = u * (g * b) := by simp only [Nat.mul_comm, Nat.mul_left_comm]
    have a2 : B * (r * t) = r * B * t := by simp only [Nat.mul_comm, Nat.mul_left_comm]
    rw [a1, a2, ex, er]
    simp only [Nat.mul_comm, Nat.mul_left_comm]
def zU (ks : List Nk) (r : Nat) : Nat × Nat := spN ks (uc ks) r
theorem qaS {ks : List Nk} (hw : ∀ x ∈ ks, 0 < x.1) (r : Nat) : 0 < (zU ks r).2 /\ Nat.gcd (zU ks r).1 (zU ks r).2 = 1 := by
 have d := qn0 hw (uc ks) r (List.replicate ks.length (0, 1)) (fun p hp => (yA.mp hp).1) List.length_replicate (qae ks) (qbo hw)
 exact ⟨d.b0, d.g1⟩
theorem uV {ks : List Nk} (hw : ∀ x ∈ ks, 0 < x.1) (r : Nat) : ∃ T, bdN (zU ks r).1 (zU ks r).2 ks (r * (zU ks r).1) = some T /\ T * (swN ks r).2 = (swN ks r).1 * (zU ks r).2 := by
 have d := qn0 hw (uc ks) r (List.replicate ks.length (0, 1)) (fun p hp => (yA.mp hp).1) List.length_replicate (qae ks) (qbo hw)
 have d' : qoC ks (uc ks) r (List.replicate ks.length (0, 1)) (zU ks r).1 (zU ks r).2 := d
 generalize (zU ks r).1 = t at *
 generalize (zU ks r).2 = b at *
 obtain ⟨b0, g1, ha, hf, B, v, hB, hv, hsum⟩ := d'
 refine ⟨_, uU ks _ fun x hx hlt => ?_, ?_⟩
 ·obtain ⟨i, hi⟩ := List.mem_iff_getElem?.mp hx
  have hil : i < ks.length := (gI_.mp hi).1
  rw [vz hil] at hi
  cases hi
  refine hf i (yA.mpr ⟨hil, ?_⟩) hlt
  refine Nat.pos_of_ne_zero fun e => ?_
  rw [e, Nat.zero_mul] at hlt
  omega
 ·have e1 : (ks.map fun x => zF t b x * mN x) = (List.range ks.length).map fun i => zF t b (nAt ks i) * mN (nAt ks i) := by
   conv => lhs; rw [<- qcs ks]
   rw [mm_]
   rfl
  rw [e1, qaR (f := fun i => zF t b (nAt ks i) * mN (nAt ks i)) fun i h => by
   unfold zF
   rw [h, Nat.zero_mul, Nat.zero_sub, Nat.zero_mul]]
  let v' : Nat -> Nat := fun i => if i ∈ uc ks then v i else 0
  have hz : ks.zip (shs ks r) = (List.range ks.length).map fun i => (nAt ks i, (shs ks r).getD i (0, 1)) := by
   refine List.ext_getElem (by simp [jT]) fun i h1 h2 => ?_
   have hi : i < ks.length := by simpa using h2
   have := vz hi
   rw [gG hi] at this
   have hi2 : i < (shs ks r).length := by rw [jT]; exact hi
   simp [Option.some.inj this, hi2]
  have val := qhb (B := B) (v := v') (u := fun i => (nAt ks i, (shs ks r).getD i (0, 1))) (List.range ks.length) (0, 1) 0 (by simp) fun i hi => by
   show ((shs ks r).getD i (0, 1)).1 * B = v' i * ((shs ks r).getD i (0, 1)).2
   by_cases hd : i ∈ uc ks
   ·show _ = (if i ∈ uc ks then v i else 0) * _
    rw [if_pos hd]
    exact hv i hd
   ·show _ = (if i ∈ uc ks then v i else 0) * _
    rw [if_neg hd, Nat.zero_mul]
    have : (shs ks r).getD i (0, 1) = (List.replicate ks.length ((0 : Nat), (1 : Nat))).getD i (0, 1) := vB (uc ks) _ i hd
    rw [this]
    have hi' : i < ks.length := mR_.mp hi
    simp [List.getD, hi']
  rw [<- hz, qaR (f := fun i => v' i * (nAt ks i).2.1) fun i h => by rw [h, Nat.mul_zero]] at val
  have ev : ((uc ks).map fun i => v' i * (nAt ks i).2.1) = (uc ks).map fun i => v i * (nAt ks i).2.1 := mL_ fun i hi => by
   show (if i ∈ uc ks then v i else 0) * _ = _
   rw [if_pos hi]
  rw [ev] at val
  have val' : (swN ks r).1 * B = (swN ks r).2 * ((uc ks).map fun i => v i * (nAt ks i).2.1).sum := by
   have : (ks.zip (shs ks r)).foldl swS (0, 1) = swN ks r := rfl
   rw [this, Nat.zero_add] at val
   exact val
  generalize ((uc ks).map fun i => v i * (nAt ks i).2.1).sum = X at *
  generalize (r * t + ((uc ks).map fun i => zF t b (nAt ks i) * mN (nAt ks i)).sum) = Y at *
  generalize (swN ks r).1 = N at *
  generalize (swN ks r).2 = Dn at *
  have : B * (Y * Dn) = B * (N * b) := by
   have a1 : B * (Y * Dn) = B * Y * Dn := (Nat.mul_assoc _ _ _).symm
   have a2 : B * (N * b) = N * B * b := by simp only [Nat.mul_comm, Nat.mul_left_comm]
   rw [a1, a2, <- hsum, val']
   simp only [Nat.mul_comm, Nat.mul_left_comm]
  exact Nat.eq_of_mul_eq_mul_left hB this
def vg (n : Nat) (f : Nat -> Nat) : Nat := ((List.range n).map f).sum
theorem jH (n : Nat) (f : Nat -> Nat) : vg (n + 1) f = vg n f + f n := by
 unfold vg
 rw [List.range_succ, List.map_append, List.sum_append]
 simp
theorem qbX {n : Nat} {f g : Nat -> Nat} (h : ∀ p, p < n -> f p = g p) : vg n f = vg n g := by
 unfold vg
 rw [mL_ fun p hp => h p (mR_.mp hp)]
theorem qcu {f g : Nat -> Nat} : ∀ n : Nat, (∀ p, p < n -> f p <= g p) -> vg n f <= vg n g
 | 0, _ => Nat.le_refl _
 | n + 1, h => by
  rw [jH, jH]
  have := qcu n fun p hp => h p (by omega)
  have := h n (by omega)
  omega
theorem qcv {f g : Nat -> Nat} : ∀ n : Nat, vg n (fun p => f p + g p) = vg n f + vg n g
 | 0 => rfl
 | n + 1 => by
  rw [jH, jH, jH, qcv n]
  omega
theorem uj {f : Nat -> Nat} (c : Nat) : ∀ n : Nat, vg n (fun p => c * f p) = c * vg n f
 | 0 => rfl
 | n + 1 => by
  rw [jH, jH, uj c n, Nat.mul_add]
def okY (ks : List Nk) (y : Nat -> Nat) : Prop := ∀ p, p < ks.length -> ∀ m, (nAt ks p).2.2 = some m -> y p <= m
def wY (ks : List Nk) (y : Nat -> Nat) : Nat := vg ks.length fun p => (nAt ks p).1 * y p
def gY (ks : List Nk) (y : Nat -> Nat) : Nat := vg ks.length fun p => (nAt ks p).2.1 * y p
theorem qbp {t b : Nat} : ∀ (ks : List Nk) (T T' : Nat), bdN t b ks T = some T' -> (∀ x ∈ ks, x.1 * t < x.2.1 * b -> x.2.2.isSome = true)
 | [], T, T', _, x, hx, _ => by cases hx
 | y :: ks, T, T', e, x, hx, c => by
  unfold bdN at e
  rcases List.mem_cons.mp hx with rfl | hx
  ·rw [if_pos c] at e
   cases em : x.2.2 with
   | none => rw [em] at e; cases e
   | some m => rfl
  ·split at e
   ·cases em : y.2.2 with
    | none => rw [em] at e; cases e
    | some m => rw [em] at e; exact qbp ks _ T' e x hx c
   ·exact qbp ks _ T' e x hx c
theorem qfE {ks : List Nk} {t b r T : Nat} {y : Nat -> Nat} (hy : okY ks y) (hr : wY ks y <= r) (e : bdN t b ks (r * t) = some T) : gY ks y * b <= T := by
 have hf := qbp ks _ _ e
 rw [uU ks _ hf] at e
 have e' := Option.some.inj e
 have e1 : (ks.map fun x => zF t b x * mN x).sum = vg ks.length fun i => zF t b (nAt ks i) * mN (nAt ks i) := by
  conv => lhs; rw [<- qcs ks]
  rw [mm_]
  rfl
 rw [e1] at e'
 have h1 : gY ks y * b = vg ks.length fun p => b * ((nAt ks p).2.1 * y p) := by
  rw [uj, Nat.mul_comm]
  rfl
 have h2 : (vg ks.length fun p => b * ((nAt ks p).2.1 * y p)) <= vg ks.length fun p => t * ((nAt ks p).1 * y p) + zF t b (nAt ks p) * mN (nAt ks p) := by
  refine qcu _ fun p hp => ?_
  have a1 : b * ((nAt ks p).2.1 * y p) = (nAt ks p).2.1 * b * y p := by simp only [Nat.mul_comm, Nat.mul_left_comm]
  have a2 : t * ((nAt ks p).1 * y p) = (nAt ks p).1 * t * y p := by simp only [Nat.mul_comm, Nat.mul_left_comm]
  rw [a1, a2]
  by_cases c : (nAt ks p).1 * t < (nAt ks p).2.1 * b
  ·obtain ⟨m, hm⟩ := Option.isSome_iff_exists.mp (hf _ (jh hp) c)
   have em : mN (nAt ks p) = m := by unfold mN; rw [hm]; rfl
   have ym := hy p hp m hm
   rw [em]
   have a3 : (nAt ks p).2.1 * b = (nAt ks p).1 * t + zF t b (nAt ks p) := by unfold zF; omega
   rw [a3, Nat.add_mul]
   have := Nat.mul_le_mul_left (zF t b (nAt ks p)) ym
   omega
  ·have : (nAt ks p).2.1 * b * y p <= (nAt ks p).1 * t * y p := Nat.mul_le_mul_right _ (by omega)
   omega
 rw [qcv, uj (f := fun p => (nAt ks p).1 * y p), <- h1] at h2
 have h3 : t * wY ks y <= r * t := by rw [Nat.mul_comm r]; exact Nat.mul_le_mul_left _ hr
 have h4 : (vg ks.length fun p => (nAt ks p).1 * y p) = wY ks y := rfl
 rw [h4] at h2
 omega
theorem qpf {ks : List Nk} (hw : ∀ x ∈ ks, 0 < x.1) {r : Nat} {y : Nat -> Nat} (hy : okY ks y) (hr : wY ks y <= r) : gY ks y * (swN ks r).2 <= (swN ks r).1 := by
 obtain ⟨T, e, c⟩ := uV hw r
 obtain ⟨b0, _⟩ := qaS hw r
 have h := qfE hy hr e
 generalize (zU ks r).2 = b at *
 generalize (swN ks r).1 = N at *
 generalize (swN ks r).2 = Dn at *
 have : gY ks y * Dn * b <= N * b := by
  rw [<- c, Nat.mul_right_comm]
  exact Nat.mul_le_mul_right _ h
 exact Nat.le_of_mul_le_mul_right this b0
def shA (ks : List Nk) (r p : Nat) : Nat × Nat := (shs ks r).getD p (0, 1)
def flA (ks : List Nk) (r p : Nat) : Nat := (shA ks r p).1 / (shA ks r p).2
structure Shv (ks : List Nk) (l : List Nat) (r G B : Nat) (s : Nat -> Nat × Nat) (v : Nat -> Nat) : Prop where
 b0 : 0 < B
 val : ∀ p ∈ l, (s p).1 * B = v p * (s p).2
 wt : (l.map fun p => (nAt ks p).1 * v p).sum <= r * B
 mo : ∀ p ∈ l, ∀ m, (nAt ks p).2.2 = some m -> v p <= m * B
 fl : ∀ p ∈ l, (s p).1 / (s p).2 * B <= v p
 gn : (l.map fun p => v p * (nAt ks p).2.1).sum <= B * (l.map fun p => (s p).1 / (s p).2 * (nAt ks p).2.1).sum + (B - 1) * G
theorem shv {ks : List Nk} (hw : ∀ x ∈ ks, 0 < x.1) {G : Nat} (hG : ∀ x ∈ ks, x.2.1 <= G) : ∀ (l : List Nat) (r : Nat) (F : List (Nat × Nat)), (∀ p ∈ l, p < ks.length) -> F.length = ks.length -> l.Nodup -> ∃ B v, Shv ks l r G B (fun p => (l.foldl (shS ks) (r, F)).2.getD p (0, 1)) v
 | [], r, F, _, _, _ => ⟨1, fun _ => 0, Nat.one_pos, fun p hp => (nN_ hp).elim, Nat.zero_le _, fun p hp => (nN_ hp).elim, fun p hp => (nN_ hp).elim, Nat.zero_le _⟩
 | p :: l, r, F, hl, hF, hn => by
  have hp := hl p mS_
  have hl' : ∀ y ∈ l, y < ks.length := fun y hy => hl y (mM _ hy)
  obtain ⟨n1, n2⟩ := List.nodup_cons.mp hn
  have w0 := hw _ (jh hp)
  have ne : ∀ q ∈ l, q ≠ p := fun q hq e => n1 (e ▸ hq)
  cases c : goN (nAt ks p) r with
  | true =>
   have eb : bhN (nAt ks p) r = r - mN (nAt ks p) * (nAt ks p).1 := by unfold bhN; rw [if_pos c]
   have es : shN (nAt ks p) r = (mN (nAt ks p), 1) := by unfold shN; rw [if_pos c]
   have hm : (nAt ks p).2.2 = some (mN (nAt ks p)) /\ mN (nAt ks p) * (nAt ks p).1 <= r := by
    unfold goN at c
    unfold mN
    cases em : (nAt ks p).2.2 with
    | none => rw [em] at c; cases c
    | some m => rw [em] at c; exact ⟨rfl, by simpa using c⟩
   obtain ⟨B, v, h1, h2, h3, h4, h5, h6⟩ := shv hw hG l (bhN (nAt ks p) r) (F.set p (shN (nAt ks p) r)) hl' (by rw [lS_]; exact hF) n2
   have hfold : (p :: l).foldl (shS ks) (r, F) = l.foldl (shS ks) (bhN (nAt ks p) r, F.set p (shN (nAt ks p) r)) := rfl
   have hsp : ((p :: l).foldl (shS ks) (r, F)).2.getD p (0, 1) = (mN (nAt ks p), 1) := by
    rw [hfold, vB l _ p n1]
    show (F.set p (shN (nAt ks p) r)).getD p (0, 1) = _
    rw [qdu (by rw [hF]; exact hp), es]
   rw [hfold] at hsp
   rw [hfold]
   generalize (l.foldl (shS ks) (bhN (nAt ks p) r, F.set p (shN (nAt ks p) r))).2 = F' at *
   rw [eb] at h3
   have e1 : (l.map fun q => (nAt ks q).1 * pv p (B * mN (nAt ks p)) v q) = l.map fun q => (nAt ks q).1 * v q := mL_ fun q hq => by rw [qah (ne q hq)]
   have e2 : (l.map fun q => pv p (B * mN (nAt ks p)) v q * (nAt ks q).2.1) = l.map fun q => v q * (nAt ks q).2.1 := mL_ fun q hq => by rw [qah (ne q hq)]
   refine ⟨B, pv p (B * mN (nAt ks p)) v, h1, fun q hq => ?_, ?_, fun q hq m em => ?_, fun q hq => ?_, ?_⟩
   ·rcases List.mem_cons.mp hq with e | hq
    ·subst e
     show (F'.getD q (0, 1)).1 * B = _ * (F'.getD q (0, 1)).2
     rw [hsp, wW]
     simp only [Nat.mul_one]
     exact Nat.mul_comm _ _
    ·rw [qah (ne q hq)]; exact h2 q hq
   ·rw [mC_, List.sum_cons, e1, wW]
    obtain ⟨z, hz⟩ : ∃ z, r = mN (nAt ks p) * (nAt ks p).1 + z := ⟨r - mN (nAt ks p) * (nAt ks p).1, by omega⟩
    rw [hz, Nat.add_sub_cancel_left] at h3
    rw [hz, Nat.add_mul]
    have : (nAt ks p).1 * (B * mN (nAt ks p)) = mN (nAt ks p) * (nAt ks p).1 * B := by simp only [Nat.mul_comm, Nat.mul_left_comm, Nat.mul_assoc]
    omega
   ·rcases List.mem_cons.mp hq with e | hq
    ·subst e
     rw [wW]
     rw [hm.1] at em
     cases em
     rw [Nat.mul_comm]
     exact Nat.le_refl _
    ·rw [qah (ne q hq)]; exact h4 q hq m em
   ·rcases List.mem_cons.mp hq with e | hq
    ·subst e
     show (F'.getD q (0, 1)).1 / (F'.getD q (0, 1)).2 * B <= _
     rw [hsp, wW, Nat.div_one, Nat.mul_comm]
     exact Nat.le_refl _
    ·rw [qah (ne q hq)]; exact h5 q hq
   ·rw [mC_, mC_, List.sum_cons, List.sum_cons, e2, wW, hsp, Nat.div_one, Nat.mul_add]
    have : B * mN (nAt ks p) * (nAt ks p).2.1 = B * (mN (nAt ks p) * (nAt ks p).2.1) := Nat.mul_assoc _ _ _
    show _ <= B * (mN (nAt ks p) * (nAt ks p).2.1) + _ + _
    omega
  | false =>
   have eb : bhN (nAt ks p) r = 0 := by unfold bhN; rw [if_neg (by rw [c]; simp)]
   have es : shN (nAt ks p) r = (yz r (nAt ks p).1, yr r (nAt ks p).1) := by unfold shN; rw [if_neg (by rw [c]; simp)]
   have hfold : (p :: l).foldl (shS ks) (r, F) = l.foldl (shS ks) (0, F.set p (shN (nAt ks p) r)) := by rw [<- eb]; rfl
   have hsp : ((p :: l).foldl (shS ks) (r, F)).2.getD p (0, 1) = (yz r (nAt ks p).1, yr r (nAt ks p).1) := by
    rw [hfold, vB l _ p n1]
    show (F.set p (shN (nAt ks p) r)).getD p (0, 1) = _
    rw [qdu (by rw [hF]; exact hp), es]
   have hz := qct hw l (F.set p (shN (nAt ks p) r)) hl' (by rw [lS_]; exact hF) n2
   rw [hfold] at hsp
   rw [hfold]
   generalize (l.foldl (shS ks) (0, F.set p (shN (nAt ks p) r))).2 = F' at *
   have er := wV r w0
   have lr := (vA r w0).1
   have g0 := hG _ (jh hp)
   generalize yz r (nAt ks p).1 = u at *
   generalize yr r (nAt ks p).1 = B at *
   have e1 : (l.map fun q => (nAt ks q).1 * pv p u (fun _ => 0) q).sum = 0 := uG l fun q hq => by rw [qah (ne q hq), Nat.mul_zero]
   have e2 : (l.map fun q => pv p u (fun _ => 0) q * (nAt ks q).2.1).sum = 0 := uG l fun q hq => by rw [qah (ne q hq), Nat.zero_mul]
   refine ⟨B, pv p u (fun _ => 0), lr, fun q hq => ?_, ?_, fun q hq m em => ?_, fun q hq => ?_, ?_⟩
   ·rcases List.mem_cons.mp hq with e | hq
    ·subst e
     show (F'.getD q (0, 1)).1 * B = _ * (F'.getD q (0, 1)).2
     rw [hsp, wW]
    ·show (F'.getD q (0, 1)).1 * B = _ * (F'.getD q (0, 1)).2
     rw [qah (ne q hq), hz q hq, Nat.zero_mul, Nat.zero_mul]
   ·rw [mC_, List.sum_cons, e1, wW, Nat.add_zero, er]
    exact Nat.le_refl _
   ·rcases List.mem_cons.mp hq with e | hq
    ·subst e
     rw [wW]
     unfold goN at c
     rw [em] at c
     have c' : r < m * (nAt ks q).1 := by
      have : ¬ m * (nAt ks q).1 <= r := by simpa using c
      omega
     have a1 : (nAt ks q).1 * u <= (nAt ks q).1 * (m * B) := by
      rw [<- er]
      have := Nat.mul_le_mul_right B (Nat.le_of_lt c')
      have a2 : (nAt ks q).1 * (m * B) = m * (nAt ks q).1 * B := by simp only [Nat.mul_comm, Nat.mul_left_comm, Nat.mul_assoc]
      omega
     exact Nat.le_of_mul_le_mul_left a1 w0
    ·rw [qah (ne q hq)]; exact Nat.zero_le _
   ·rcases List.mem_cons.mp hq with e | hq
    ·subst e
     show (F'.getD q (0, 1)).1 / (F'.getD q (0, 1)).2 * B <= _
     rw [hsp, wW]
     exact Nat.div_mul_le_self u B
    ·show (F'.getD q (0, 1)).1 / (F'.getD q (0, 1)).2 * B <= _
     rw [hz q hq, Nat.zero_div, Nat.zero_mul]
     exact Nat.zero_le _
   ·rw [mC_, mC_, List.sum_cons, List.sum_cons, e2, wW, hsp, Nat.add_zero]
    have hr : u = B * (u / B) + u % B := (Nat.div_add_mod u B).symm
    have hlt : u % B <= B - 1 := by have := Nat.mod_lt u lr; omega
    have a1 : u * (nAt ks p).2.1 = B * (u / B * (nAt ks p).2.1) + u % B * (nAt ks p).2.1 := by
     conv => lhs; rw [hr]
     rw [Nat.add_mul, Nat.mul_assoc]
    have a2 : u % B * (nAt ks p).2.1 <= (B - 1) * G := Nat.mul_le_mul hlt g0
    rw [a1]
    show _ <= B * (u / B * (nAt ks p).2.1 + _) + _
    rw [Nat.mul_add]
    omega
theorem vS {ks : List Nk} (hw : ∀ x ∈ ks, 0 < x.1) {G : Nat} (hG : ∀ x ∈ ks, x.2.1 <= G) (r : Nat) : ∃ B v, 0 < B /\ (∀ p, p < ks.length -> (shA ks r p).1 * B = v p * (shA ks r p).2) /\ wY ks v <= r * B /\ (∀ p, p < ks.length -> ∀ m, (nAt ks p).2.2 = some m -> v p <= m * B) /\ (∀ p, p < ks.length -> flA ks r p * B <= v p) /\ gY ks v <= B * gY ks (flA ks r) + (B - 1) * G /\ (swN ks r).1 * B = (swN ks r).2 * gY ks v := by
 obtain ⟨B, v, h1, h2, h3, h4, h5, h6⟩ := shv hw hG (uc ks) r (List.replicate ks.length (0, 1)) (fun p hp => (yA.mp hp).1) List.length_replicate (qae ks)
 have out : ∀ p, p < ks.length -> p ∉ uc ks -> shA ks r p = (0, 1) := fun p hp hd => by
  have : (shs ks r).getD p (0, 1) = (List.replicate ks.length ((0 : Nat), (1 : Nat))).getD p (0, 1) := vB (uc ks) _ p hd
  unfold shA
  rw [this]
  simp [List.getD, hp]
 let v' : Nat -> Nat := fun i => if i ∈ uc ks then v i else 0
 have vi : ∀ i, i ∈ uc ks -> v' i = v i := fun i hi => if_pos hi
 have vo : ∀ i, i ∉ uc ks -> v' i = 0 := fun i hi => if_neg hi
 have val : ∀ p, p < ks.length -> (shA ks r p).1 * B = v' p * (shA ks r p).2 := fun p hp => by
  by_cases hd : p ∈ uc ks
  ·rw [vi p hd]; exact h2 p hd
  ·rw [vo p hd, out p hp hd, Nat.zero_mul, Nat.zero_mul]
 refine ⟨B, v', h1, val, ?_, fun p hp m em => ?_, fun p hp => ?_, ?_, ?_⟩
 ·have e : wY ks v' = ((List.range ks.length).map fun p => (nAt ks p).1 * v' p).sum := rfl
  have e2 : ((List.range ks.length).map fun p => (nAt ks p).1 * v' p).sum = ((uc ks).map fun p => (nAt ks p).1 * v' p).sum := by
   rw [((wU ks).map _).sum_nat]
   unfold plN
   rw [qag]
   intro i hi hz
   have : i ∉ uc ks := fun hd => by
    have := (yA.mp hd).2
    simp [this] at hz
   rw [vo i this, Nat.mul_zero]
  rw [e, e2, mL_ (g := fun p => (nAt ks p).1 * v p) fun p hp => by rw [vi p hp]]
  exact h3
 ·by_cases hd : p ∈ uc ks
  ·rw [vi p hd]; exact h4 p hd m em
  ·rw [vo p hd]; exact Nat.zero_le _
 ·by_cases hd : p ∈ uc ks
  ·rw [vi p hd]; exact h5 p hd
  ·unfold flA
   rw [out p hp hd, Nat.zero_div, Nat.zero_mul]
   exact Nat.zero_le _
 ·have e1 : gY ks v' = ((uc ks).map fun p => v p * (nAt ks p).2.1).sum := by
   have : gY ks v' = ((List.range ks.length).map fun p => (nAt ks p).2.1 * v' p).sum := rfl
   rw [this, qaR (f := fun p => (nAt ks p).2.1 * v' p) fun i h => by rw [h, Nat.zero_mul]]
   rw [mL_ fun p hp => by rw [vi p hp, Nat.mul_comm]]
  have e2 : gY ks (flA ks r) = ((uc ks).map fun p => (shA ks r p).1 / (shA ks r p).2 * (nAt ks p).2.1).sum := by
   have : gY ks (flA ks r) = ((List.range ks.length).map fun p => (nAt ks p).2.1 * flA ks r p).sum := rfl
   rw [this, qaR (f := fun p => (nAt ks p).2.1 * flA ks r p) fun i h => by rw [h, Nat.zero_mul]]
   rw [mL_ fun p hp => Nat.mul_comm _ _]
   rfl
  rw [e1, e2]
  exact h6
 ·have hz : ks.zip (shs ks r) = (List.range ks.length).map fun i => (nAt ks i, (shs ks r).getD i (0, 1)) := by
   refine List.ext_getElem (by simp [jT]) fun i h1 h2 => ?_
   have hi : i < ks.length := by simpa using h2
   have := vz hi
   rw [gG hi] at this
   have hi2 : i < (shs ks r).length := by rw [jT]; exact hi
   simp [Option.some.inj this, hi2]
  have sv := qhb (B := B) (v := v') (u := fun i => (nAt ks i, (shs ks r).getD i (0, 1))) (List.range ks.length) (0, 1) 0 (by simp) fun i hi => val i (mR_.mp hi)
  rw [<- hz, Nat.zero_add] at sv
  have : ((List.range ks.length).map fun i => v' i * (nAt ks i).2.1).sum = gY ks v' := by
   show _ = ((List.range ks.length).map fun p => (nAt ks p).2.1 * v' p).sum
   rw [mL_ fun p hp => Nat.mul_comm _ _]
  rw [this] at sv
  exact sv
theorem qhd {ks : List Nk} {t b r T B : Nat} {v : Nat -> Nat} (hv : ∀ p, p < ks.length -> ∀ m, (nAt ks p).2.2 = some m -> v p <= m * B) (hr : wY ks v <= r * B) (e : bdN t b ks (r * t) = some T) : gY ks v * b <= T * B := by
 have hf := qbp ks _ _ e
 rw [uU ks _ hf] at e
 have e' := Option.some.inj e
 have e1 : (ks.map fun x => zF t b x * mN x).sum = vg ks.length fun i => zF t b (nAt ks i) * mN (nAt ks i) := by
  conv => lhs; rw [<- qcs ks]
  rw [mm_]
  rfl
 rw [e1] at e'
 have h1 : gY ks v * b = vg ks.length fun p => b * ((nAt ks p).2.1 * v p) := by
  rw [uj, Nat.mul_comm]
  rfl
 have h2 : (vg ks.length fun p => b * ((nAt ks p).2.1 * v p)) <= vg ks.length fun p => t * ((nAt ks p).1 * v p) + B * (zF t b (nAt ks p) * mN (nAt ks p)) := by
  refine qcu _ fun p hp => ?_
  have a1 : b * ((nAt ks p).2.1 * v p) = (nAt ks p).2.1 * b * v p := by simp only [Nat.mul_comm, Nat.mul_left_comm, Nat.mul_assoc]
  have a2 : t * ((nAt ks p).1 * v p) = (nAt ks p).1 * t * v p := by simp only [Nat.mul_comm, Nat.mul_left_comm, Nat.mul_assoc]
  rw [a1, a2]
  by_cases c : (nAt ks p).1 * t < (nAt ks p).2.1 * b
  ·obtain ⟨m, hm⟩ := Option.isSome_iff_exists.mp (hf _ (jh hp) c)
   have em : mN (nAt ks p) = m := by unfold mN; rw [hm]; rfl
   have ym := hv p hp m hm
   rw [em]
   have a3 : (nAt ks p).2.1 * b = (nAt ks p).1 * t + zF t b (nAt ks p) := by unfold zF; omega
   rw [a3, Nat.add_mul]
   have a4 := Nat.mul_le_mul_left (zF t b (nAt ks p)) ym
   have a5 : zF t b (nAt ks p) * (m * B) = B * (zF t b (nAt ks p) * m) := by simp only [Nat.mul_comm, Nat.mul_left_comm, Nat.mul_assoc]
   omega
  ·have : (nAt ks p).2.1 * b * v p <= (nAt ks p).1 * t * v p := Nat.mul_le_mul_right _ (by omega)
   omega
 rw [qcv, uj (f := fun p => (nAt ks p).1 * v p), uj (f := fun p => zF t b (nAt ks p) * mN (nAt ks p)), <- h1] at h2
 have h3 : t * wY ks v <= r * t * B := by
  have : t * wY ks v <= t * (r * B) := Nat.mul_le_mul_left _ hr
  have a : t * (r * B) = r * t * B := by simp only [Nat.mul_comm, Nat.mul_left_comm, Nat.mul_assoc]
  omega
 have h4 : (vg ks.length fun p => (nAt ks p).1 * v p) = wY ks v := rfl
 rw [h4] at h2
 rw [<- e', Nat.add_mul]
 have h5 : B * (vg ks.length fun p => zF t b (nAt ks p) * mN (nAt ks p)) = (vg ks.length fun p => zF t b (nAt ks p) * mN (nAt ks p)) * B := Nat.mul_comm _ _
 omega
theorem qhe : ∀ {l : List Nat} {n : Nat}, n ∈ l -> n <= l.sum
 | [], _, h => (nN_ h).elim
 | a :: l, n, h => by
  rw [List.sum_cons]
  rcases List.mem_cons.mp h with e | h
  ·omega
  ·have := qhe h; omega
theorem qaT {ks : List Nk} (hw : ∀ x ∈ ks, 0 < x.1) {r r' t b T : Nat} (h : r <= r') (e : bdN t b ks (r' * t) = some T) : (swN ks r).1 * b <= T * (swN ks r).2 := by
 obtain ⟨G, hG⟩ : ∃ G, ∀ x ∈ ks, x.2.1 <= G := ⟨(ks.map fun x => x.2.1).sum, fun x hx => qhe (mP_.mpr ⟨x, hx, rfl⟩)⟩
 obtain ⟨B, v, b0, _, h3, h4, _, _, h7⟩ := vS hw hG r
 have w := qhd h4 (Nat.le_trans h3 (Nat.mul_le_mul_right _ h)) e
 have : (swN ks r).1 * b * B <= T * (swN ks r).2 * B := by
  rw [Nat.mul_right_comm, h7, Nat.mul_right_comm T]
  have a : (swN ks r).2 * gY ks v * b = gY ks v * b * (swN ks r).2 := by simp only [Nat.mul_comm, Nat.mul_left_comm, Nat.mul_assoc]
  rw [a]
  exact Nat.mul_le_mul_right _ w
 exact Nat.le_of_mul_le_mul_right this b0
def ofN (x : Nk) (r : Nat) : Nat := match x.2.2 with
 | none => r / x.1
 | some m => if m < r / x.1 then m else r / x.1
def mxN (l : List Nat) : Nat := l.foldl (fun a b => if b > a then b else a) 0
def vk : List Nk -> Nat -> Nat
 | [], _ => 0
 | x :: ks, r => mxN ((List.range (ofN x r + 1)).map fun t => t * x.2.1 + vk ks (r - t * x.1))
theorem qd9 : ∀ (l : List Nat) (a : Nat), a <= l.foldl (fun a b => if b > a then b else a) a /\ (∀ b ∈ l, b <= l.foldl (fun a b => if b > a then b else a) a) /\ (l.foldl (fun a b => if b > a then b else a) a = a \/ l.foldl (fun a b => if b > a then b else a) a ∈ l)
 | [], a => ⟨Nat.le_refl _, fun b hb => (nN_ hb).elim, .inl rfl⟩
 | c :: l, a => by
  obtain ⟨h1, h2, h3⟩ := qd9 l (if c > a then c else a)
  rw [fo_]
  refine ⟨?_, fun b hb => ?_, ?_⟩
  ·exact Nat.le_trans (show a <= (if c > a then c else a) by split <;> omega) h1
  ·rcases List.mem_cons.mp hb with rfl | hb
   ·exact Nat.le_trans (show b <= (if b > a then b else a) by split <;> omega) h1
   ·exact h2 b hb
  ·rcases h3 with h3 | h3
   ·rw [h3]
    split
    ·exact .inr mS_
    ·exact .inl rfl
   ·exact .inr (mM _ h3)
theorem qe4 {l : List Nat} {b : Nat} (h : b ∈ l) : b <= mxN l := (qd9 l 0).2.1 b h
theorem qhf {l : List Nat} (h : l ≠ []) : mxN l ∈ l := by
 rcases (qd9 l 0).2.2 with e | e
 ·cases l with
  | nil => exact absurd rfl h
  | cons a l =>
   have h0 := qe4 (l := a :: l) mS_
   have : mxN (a :: l) = 0 := e
   rw [this]
   have : a = 0 := by omega
   rw [<- this]
   exact mS_
 ·exact e
theorem qe5 {x : Nk} {r t : Nat} (h0 : 0 < x.1) : t <= ofN x r ↔ (t * x.1 <= r /\ ∀ m, x.2.2 = some m -> t <= m) := by
 unfold ofN
 cases e : x.2.2 with
 | none =>
  show t <= r / x.1 ↔ _
  rw [Nat.le_div_iff_mul_le h0]
  exact ⟨fun h => ⟨h, fun m em => by cases em⟩, fun h => h.1⟩
 | some m =>
  show t <= (if m < r / x.1 then m else r / x.1) ↔ _
  have := Nat.le_div_iff_mul_le (x := t) (y := r) h0
  constructor
  ·intro h
   refine ⟨this.mp ?_, fun j em => ?_⟩
   ·split at h <;> omega
   ·cases em
    split at h <;> omega
  ·intro h
   have a := this.mpr h.1
   have b := h.2 m rfl
   split <;> omega
theorem qdv (n : Nat) (f : Nat -> Nat) : vg (n + 1) f = f 0 + vg n fun p => f (p + 1) := by
 induction n with
 | zero => simp [vg]
 | succ n ih =>
  rw [jH, ih, jH]
  omega
theorem qhg (x : Nk) (ks : List Nk) (y : Nat -> Nat) : wY (x :: ks) y = x.1 * y 0 + wY ks fun p => y (p + 1) := by
 unfold wY
 rw [lC_, qdv]
 rfl
theorem qhh (x : Nk) (ks : List Nk) (y : Nat -> Nat) : gY (x :: ks) y = x.2.1 * y 0 + gY ks fun p => y (p + 1) := by
 unfold gY
 rw [lC_, qdv]
 rfl
theorem qdw : ∀ {ks : List Nk} {r : Nat} {y : Nat -> Nat}, (∀ x ∈ ks, 0 < x.1) -> okY ks y -> wY ks y <= r -> gY ks y <= vk ks r
 | [], r, y, _, _, _ => Nat.le_refl _
 | x :: ks, r, y, hw, hy, hr => by
  rw [qhg] at hr
  rw [qhh]
  have x0 := hw x mS_
  have ht : y 0 <= ofN x r := (qe5 x0).mpr ⟨by rw [Nat.mul_comm]; omega, fun m em => hy 0 (by rw [lC_]; omega) m em⟩
  have ih := qdw (ks := ks) (r := r - y 0 * x.1) (y := fun p => y (p + 1)) (fun z hz => hw z (mM _ hz)) (fun p hp m em => hy (p + 1) (by rw [lC_]; omega) m em) (by rw [Nat.mul_comm (y 0)]; omega)
  have := qe4 (l := (List.range (ofN x r + 1)).map fun t => t * x.2.1 + vk ks (r - t * x.1)) (mP_.mpr ⟨y 0, mR_.mpr (by omega), rfl⟩)
  show _ <= mxN _
  have a : x.2.1 * y 0 = y 0 * x.2.1 := Nat.mul_comm _ _
  omega
theorem qe6 : ∀ (ks : List Nk) (r : Nat), (∀ x ∈ ks, 0 < x.1) -> ∃ y, okY ks y /\ wY ks y <= r /\ gY ks y = vk ks r
 | [], r, _ => ⟨fun _ => 0, fun p hp => absurd hp (Nat.not_lt_zero _), Nat.zero_le _, rfl⟩
 | x :: ks, r, hw => by
  have x0 := hw x mS_
  have hm := qhf (l := (List.range (ofN x r + 1)).map fun t => t * x.2.1 + vk ks (r - t * x.1)) (by simp)
  obtain ⟨t, ht, e⟩ := mP_.mp hm
  have ht' := (qe5 x0).mp (show t <= ofN x r by have := mR_.mp ht; omega)
  obtain ⟨y, y1, y2, y3⟩ := qe6 ks (r - t * x.1) fun z hz => hw z (mM _ hz)
  refine ⟨fun p => if p = 0 then t else y (p - 1), fun p hp m em => ?_, ?_, ?_⟩
  ·cases p with
   | zero => exact ht'.2 m em
   | succ p =>
    show y p <= m
    exact y1 p (by rw [lC_] at hp; omega) m em
  ·rw [qhg]
   show x.1 * t + wY ks y <= r
   have := ht'.1
   rw [Nat.mul_comm x.1]
   omega
  ·rw [qhh]
   show x.2.1 * t + gY ks y = mxN _
   rw [y3, Nat.mul_comm]
   exact e
section
variable {ks : List Nk} (hw : ∀ x ∈ ks, 0 < x.1)
include hw
theorem qjs (r : Nat) : 0 < (swN ks r).2 := (qe0 (ks.zip (shs ks r)) (0, 1) (qeZ hw r) Nat.one_pos).1
theorem qjt : ∃ G, ∀ x ∈ ks, x.2.1 <= G := ⟨(ks.map fun x => x.2.1).sum, fun x hx => qhe (mP_.mpr ⟨x, hx, rfl⟩)⟩
theorem qaU (r : Nat) : okY ks (flA ks r) /\ wY ks (flA ks r) <= r := by
 obtain ⟨G, hG⟩ := qjt hw
 obtain ⟨B, v, b0, _, h3, h4, h5, _, _⟩ := vS hw hG r
 refine ⟨fun p hp m em => Nat.le_of_mul_le_mul_right (Nat.le_trans (h5 p hp) (h4 p hp m em)) b0, ?_⟩
 refine Nat.le_of_mul_le_mul_right (Nat.le_trans ?_ h3) b0
 show vg _ _ * B <= _
 rw [Nat.mul_comm, <- uj]
 refine qcu _ fun p hp => ?_
 have a : B * ((nAt ks p).1 * flA ks r p) = (nAt ks p).1 * (flA ks r p * B) := by simp only [Nat.mul_comm, Nat.mul_left_comm, Nat.mul_assoc]
 rw [a]
 exact Nat.mul_le_mul_left _ (h5 p hp)
theorem qbY (r : Nat) : vk ks r * (swN ks r).2 <= (swN ks r).1 := by
 obtain ⟨y, y1, y2, y3⟩ := qe6 ks r hw
 rw [<- y3]
 exact qpf hw y1 y2
theorem qiv (r : Nat) {G : Nat} (hG : ∀ x ∈ ks, x.2.1 <= G) (g0 : 0 < G) : (swN ks r).1 < (gY ks (flA ks r) + G) * (swN ks r).2 := by
 obtain ⟨B, v, b0, _, _, _, _, h6, h7⟩ := vS hw hG r
 have p0 := qjs hw r
 have a1 : gY ks v < B * (gY ks (flA ks r) + G) := by
  rw [Nat.mul_add]
  have : (B - 1) * G + G = B * G := by
   obtain ⟨k, rfl⟩ : ∃ k, B = k + 1 := ⟨B - 1, by omega⟩
   rw [Nat.add_sub_cancel, Nat.add_mul, Nat.one_mul]
  omega
 have a2 : (swN ks r).2 * gY ks v < (swN ks r).2 * (B * (gY ks (flA ks r) + G)) := Nat.mul_lt_mul_of_pos_left a1 p0
 rw [<- h7] at a2
 have a3 : (swN ks r).2 * (B * (gY ks (flA ks r) + G)) = (gY ks (flA ks r) + G) * (swN ks r).2 * B := by simp only [Nat.mul_comm, Nat.mul_left_comm, Nat.mul_assoc]
 rw [a3] at a2
 exact Nat.lt_of_mul_lt_mul_right a2
theorem qhi (r : Nat) (h : ∀ p, p < ks.length -> (shA ks r p).2 = 1) : gY ks (flA ks r) * (swN ks r).2 = (swN ks r).1 := by
 obtain ⟨G, hG⟩ := qjt hw
 obtain ⟨B, v, b0, h2, _, _, _, _, h7⟩ := vS hw hG r
 have e : gY ks v = B * gY ks (flA ks r) := by
  show vg _ _ = B * vg _ _
  rw [<- uj]
  refine qbX fun p hp => ?_
  have := h2 p hp
  rw [h p hp, Nat.mul_one] at this
  unfold flA
  rw [h p hp, Nat.div_one, <- this]
  simp only [Nat.mul_comm, Nat.mul_left_comm, Nat.mul_assoc]
 rw [e] at h7
 have : gY ks (flA ks r) * (swN ks r).2 * B = (swN ks r).1 * B := by
  rw [h7]
  simp only [Nat.mul_comm, Nat.mul_left_comm, Nat.mul_assoc]
 exact Nat.eq_of_mul_eq_mul_right b0 this
theorem qe7 (r : Nat) : gY ks (flA ks r) <= vk ks r := qdw hw (qaU hw r).1 (qaU hw r).2
theorem qfF (r : Nat) (h : ∀ p, p < ks.length -> (shA ks r p).2 = 1) : gY ks (flA ks r) = vk ks r := by
 have a := qe7 hw r
 have b := qbY hw r
 rw [<- qhi hw r h] at b
 have := Nat.le_of_mul_le_mul_right b (qjs hw r)
 omega
theorem qkN {r r' : Nat} (h : r <= r') : (swN ks r).1 * (swN ks r').2 <= (swN ks r').1 * (swN ks r).2 := by
 obtain ⟨T, e, c⟩ := uV hw r'
 have b0 := (qaS hw r').1
 have s := qaT hw h e
 generalize (zU ks r').2 = b at *
 have : (swN ks r).1 * (swN ks r').2 * b <= (swN ks r').1 * (swN ks r).2 * b := by
  have a1 : (swN ks r).1 * (swN ks r').2 * b = (swN ks r).1 * b * (swN ks r').2 := by simp only [Nat.mul_comm, Nat.mul_left_comm, Nat.mul_assoc]
  have a2 : (swN ks r').1 * (swN ks r).2 * b = T * (swN ks r).2 * (swN ks r').2 := by
   have : (swN ks r').1 * (swN ks r).2 * b = (swN ks r').1 * b * (swN ks r).2 := by simp only [Nat.mul_comm, Nat.mul_left_comm, Nat.mul_assoc]
   rw [this, <- c]
   simp only [Nat.mul_comm, Nat.mul_left_comm, Nat.mul_assoc]
  rw [a1, a2]
  exact Nat.mul_le_mul_right _ s
 exact Nat.le_of_mul_le_mul_right this b0
theorem qkO (r : Nat) : ((swN ks r).1 * (swN ks (r + 2)).2 + (swN ks (r + 2)).1 * (swN ks r).2) * (swN ks (r + 1)).2 <= (swN ks (r + 1)).1 * 2 * ((swN ks r).2 * (swN ks (r + 2)).2) := by
 obtain ⟨T, e, c⟩ := uV hw (r + 1)
 have b0 := (qaS hw (r + 1)).1
 have hf := qbp ks _ _ e
 have e0 := uU ks (r * (zU ks (r + 1)).1) hf
 have e1 := uU ks ((r + 1) * (zU ks (r + 1)).1) hf
 have e2 := uU ks ((r + 2) * (zU ks (r + 1)).1) hf
 rw [e1] at e
 have eT := Option.some.inj e
 have s0 := qaT hw (Nat.le_refl r) e0
 have s2 := qaT hw (Nat.le_refl (r + 2)) e2
 generalize (zU ks (r + 1)).2 = b at *
 generalize (zU ks (r + 1)).1 = t at *
 generalize (ks.map fun x => zF t b x * mN x).sum = C at *
 generalize (swN ks r).1 = n0 at *
 generalize (swN ks r).2 = d0 at *
 generalize (swN ks (r + 1)).1 = n1 at *
 generalize (swN ks (r + 1)).2 = d1 at *
 generalize (swN ks (r + 2)).1 = n2 at *
 generalize (swN ks (r + 2)).2 = d2 at *
 have hT : r * t + C + ((r + 2) * t + C) = 2 * T := by
  rw [<- eT, Nat.add_mul, Nat.add_mul, Nat.one_mul]
  omega
 have u0 := Nat.mul_le_mul_right (d2 * d1) s0
 have u2 := Nat.mul_le_mul_right (d0 * d1) s2
 have key : (n0 * d2 + n2 * d0) * d1 * b <= n1 * 2 * (d0 * d2) * b := by
  have l : (n0 * d2 + n2 * d0) * d1 * b = n0 * b * (d2 * d1) + n2 * b * (d0 * d1) := by grind
  have rr : n1 * 2 * (d0 * d2) * b = (r * t + C) * d0 * (d2 * d1) + ((r + 2) * t + C) * d2 * (d0 * d1) := by
   have h1 : n1 * 2 * (d0 * d2) * b = 2 * (n1 * b) * (d0 * d2) := by simp only [Nat.mul_comm, Nat.mul_left_comm, Nat.mul_assoc]
   have h2 : (r * t + C) * d0 * (d2 * d1) + ((r + 2) * t + C) * d2 * (d0 * d1) = (r * t + C + ((r + 2) * t + C)) * (d0 * d2 * d1) := by grind
   rw [h1, <- c, h2, hT]
   simp only [Nat.mul_comm, Nat.mul_left_comm, Nat.mul_assoc]
  rw [l, rr]
  omega
 exact Nat.le_of_mul_le_mul_right key b0
end
def top (i : Nat) : Stmt := PySem.Challenge.pw_sackloads_k28_whole_shares_and_loads.main.body.getD i (.Pass ⟨0, 0, 0, 0⟩)
abbrev zH : Stmt := top 64
abbrev zd : Stmt := top 33
abbrev qN : Stmt := top 34
abbrev jU : Stmt := top 35
abbrev z7 : Stmt := top 37
abbrev qV : Stmt := top 28
abbrev zJ : Stmt := top 29
abbrev jv : Stmt := top 36
abbrev yI : Stmt := top 11
abbrev yJ : Stmt := top 12
abbrev jw : Stmt := top 16
abbrev uH : Stmt := top 13
abbrev jV : Stmt := top 14
abbrev jx : Stmt := top 15
abbrev z8 : Stmt := top 38
abbrev qai : Stmt := top 30
abbrev z9 : Stmt := top 39
abbrev ja : Stmt := top 62
abbrev yK : Stmt := top 63
abbrev jW : Stmt := top 59
abbrev yL : Stmt := top 40
abbrev yM : Stmt := top 31
abbrev jy : Stmt := top 32
abbrev qaj : Stmt := top 41
abbrev jz : Stmt := top 42
abbrev qX : Stmt := top 20
abbrev yN : Stmt := top 17
abbrev y7 : Stmt := top 18
abbrev jX : Stmt := top 19
abbrev qak : Stmt := top 21
abbrev qbZ : Stmt := top 22
abbrev jY : Stmt := top 44
abbrev jb : Stmt := top 43
abbrev jc : Stmt := top 23
abbrev jZ : Stmt := top 49
abbrev jA : Stmt := top 50
abbrev jr : Stmt := top 51
abbrev js : Stmt := top 52
abbrev yO : Stmt := top 47
abbrev jB : Stmt := top 48
abbrev jd : Stmt := top 53
abbrev jC : Stmt := top 54
abbrev zy : Stmt := top 65
abbrev zK : Stmt := top 60
abbrev zL : Stmt := top 61
abbrev yP : Stmt := top 57
abbrev j4 : Stmt := top 56
abbrev yQ : Stmt := top 58
abbrev qbF : Stmt := top 66
structure Txt (K : PySem.W.Frag) (mg : Str -> Option Value) : Prop where
 b_abs : mg "abs" = none
 b_all : mg "all" = none
 b_bool : mg "bool" = none
 b_divmod : mg "divmod" = none
 b_enumerate : mg "enumerate" = none
 b_int : mg "int" = none
 b_isinstance : mg "isinstance" = none
 b_len : mg "len" = none
 b_max : mg "max" = none
 b_min : mg "min" = none
 b_range : mg "range" = none
 b_reversed : mg "reversed" = none
 b_sorted : mg "sorted" = none
 b_sum : mg "sum" = none
 b_tuple : mg "tuple" = none
 b_zip : mg "zip" = none
 c_ASKED_AT_MOST : ∃ t, mg "ASKED_AT_MOST" = some (.int 200 t)
 c_BOTTOM : ∃ t, mg "BOTTOM" = some (.int 1 t)
 c_KINDS_AT_MOST : ∃ t, mg "KINDS_AT_MOST" = some (.int 12 t)
 c_MOST : ∃ t, mg "MOST" = some (.int 2 t)
 c_NOTHING : ∃ a, mg "NOTHING" = some (.ref a) /\ qlc K a [0, 1]
 c_TOP : ∃ t, mg "TOP" = some (.int 0 t)
 c_WEIGHT : ∃ t, mg "WEIGHT" = some (.int 0 t)
 c_WORTH : ∃ t, mg "WORTH" = some (.int 1 t)
noncomputable def ux : MS :=
  (z0 (d2 leD (d2 jp (d2 ixD (dv 0) (ret (.int 0))) (d2 ixD (dv 1) (ret (.int 1)))) (d2 jp (d2 ixD (dv 1) (ret (.int 0))) (d2 ixD (dv 0) (ret (.int 1))))))
noncomputable def qG : List D -> R D := dfn 2 2 ux
noncomputable def j6 : MS :=
  (qT (zM 1 (ret (.int 1)))
  (qT (qdW (qbP (dv 0)) (qF 2) (zM 1 (d2 jp (dv 1) (d2 ixD (dv 2) (ret (.int 0))))))
  (z0 (dv 1))))
noncomputable def je : List D -> R D := dfn 3 1 j6
noncomputable def jI : MS :=
  (qT (zM 1 (qg je (qd (dv 0) (ret []))))
  (qT (zM 2 (yX 2 [] none (qgG (qd (dv 0) (ret []))) (qes 2 (jM (qF 0) (jM (qF 1) qdP))) (tst (d2 gtD (d2 ixD (dv 1) (ret (.int 1))) (ret (.int 0)))) (dv 0)))
  (z0 (qeS 3 [1, 0] (dv 2) (d2 jp (d1 qi4 (d2 ixD (d2 ixD (dv 2) (dv 0)) (ret (.int 1)))) (d2 uO (dv 1) (d2 ixD (d2 ixD (dv 2) (dv 0)) (ret (.int 0)))))))))
noncomputable def qU : List D -> R D := dfn 3 1 jI
noncomputable def wv : MS :=
  (z0 (qht (d2 qjW (d2 ixD (dv 0) (ret (.int 2))) (ret .non)) (d2 leD (d2 jp (d2 ixD (dv 0) (ret (.int 2))) (d2 ixD (dv 0) (ret (.int 0)))) (dv 1))))
noncomputable def zA : List D -> R D := dfn 2 2 wv
noncomputable def uW : MS :=
  (z0 (dif (tst (qg zA (qd (dv 0) (qd (dv 1) (ret []))))) (d2 qiT (dv 1) (d2 jp (d2 ixD (dv 0) (ret (.int 2))) (d2 ixD (dv 0) (ret (.int 0))))) (ret (.int 0))))
noncomputable def zk : List D -> R D := dfn 2 2 uW
noncomputable def jJ : MS :=
  (qT (qbj (tst (d2 gtD (dv 1) (ret (.int 0)))) (qT (zM 2 (d2 qdS (dv 0) (dv 1)))
  (qT (zM 0 (dv 1))
  (zM 1 (dv 2)))))
  (z0 (dv 0)))
noncomputable def zl : List D -> R D := dfn 3 2 jJ
noncomputable def uy : MS :=
  (qT (zM 2 (qg zl (qd (dv 0) (qd (dv 1) (ret [])))))
  (z0 (qaL (qd (d2 uO (dv 0) (dv 2)) (qd (d2 uO (dv 1) (dv 2)) (ret []))))))
noncomputable def qR : List D -> R D := dfn 3 2 uy
noncomputable def vC : MS :=
  (z0 (dif (tst (qg zA (qd (dv 0) (qd (dv 1) (ret []))))) (qaL (qd (d2 ixD (dv 0) (ret (.int 2))) (qd (ret (.int 1)) (ret [])))) (qg qR (qd (dv 1) (qd (d2 ixD (dv 0) (ret (.int 0))) (ret []))))))
noncomputable def yh : List D -> R D := dfn 2 2 vC
noncomputable def qal : MS :=
  (z0 (qht (qhS "int" (dv 0)) (qnc (qhS "bool" (dv 0)))))
noncomputable def vT : List D -> R D := dfn 1 1 qal
noncomputable def qam : MS :=
  (z0 (qht (qg vT (qd (dv 0) (ret []))) (d2 geD (dv 0) (ret (.int 0)))))
noncomputable def qW : List D -> R D := dfn 1 1 qam
noncomputable def yi : MS :=
  (sif (wX (tst (qg qW (qd (dv 0) (ret []))))) qbQ uL)
noncomputable def zV : List D -> R D := dfn 1 1 yi
noncomputable def qbq : MS :=
  (qT (sif (tor (wX (tst (qhS "tuple" (dv 0)))) (tst (d2 neB (jo qdT (qd (dv 0) (ret []))) (ret (.int 3))))) (z0 (ret (.bl false))) uL)
  (qT (sif (tor (wX (tst (qg qW (qd (d2 ixD (dv 0) (ret (.int 0))) (ret []))))) (tst (d2 eqB (d2 ixD (dv 0) (ret (.int 0))) (ret (.int 0))))) (z0 (ret (.bl false))) uL)
  (z0 (qht (qg qW (qd (d2 ixD (dv 0) (ret (.int 1))) (ret []))) (dor (d2 isN (d2 ixD (dv 0) (ret (.int 2))) (ret .non)) (qg qW (qd (d2 ixD (dv 0) (ret (.int 2))) (ret []))))))))
noncomputable def vE : List D -> R D := dfn 1 1 qbq
noncomputable def qan : MS :=
  (qT (sif (tor (wX (tst (qhS "tuple" (dv 0)))) (tst (d2 gtD (jo qdT (qd (dv 0) (ret []))) (ret (.int 12))))) (z0 (ret (.bl false))) uL)
  (z0 (jo qiW (qd (yX 1 [] none (qbP (dv 0)) (qF 0) (ret true) (qg vE (qd (dv 0) (ret [])))) (ret [])))))
noncomputable def vU : List D -> R D := dfn 1 1 qan
noncomputable def yj : MS :=
  (sif (wX (tst (qg vU (qd (dv 0) (ret []))))) qbQ uL)
noncomputable def zW : List D -> R D := dfn 1 1 yj
noncomputable def uX : MS :=
  (qT (yc (qg zW (qd (dv 0) (ret []))))
  (qT (yc (qg zV (qd (dv 1) (ret []))))
  (qT (qca 2 (qmA (qa3 (qd (ret (.tup [.int 0, .int 1])) (ret []))) (jo qdT (qd (dv 0) (ret [])))))
  (qT (zM 3 (dv 1))
  (qT (qdW (qbP (qg qU (qd (dv 0) (ret [])))) (qF 4) (qT (qdY 2 (dv 4) (qg yh (qd (d2 ixD (dv 0) (dv 4)) (qd (dv 3) (ret [])))))
  (zM 3 (qg zk (qd (d2 ixD (dv 0) (dv 4)) (qd (dv 3) (ret [])))))))
  (z0 (qfo 2)))))))
noncomputable def zb : List D -> R D := dfn 5 2 uX
noncomputable def qea : MS :=
  (z0 (qg qR (qd (d2 ue (d2 jp (d2 ixD (dv 0) (ret (.int 0))) (d2 ixD (dv 1) (ret (.int 1)))) (d2 jp (d2 ixD (dv 1) (ret (.int 0))) (d2 ixD (dv 0) (ret (.int 1))))) (qd (d2 jp (d2 ixD (dv 0) (ret (.int 1))) (d2 ixD (dv 1) (ret (.int 1)))) (ret [])))))
noncomputable def qao : List D -> R D := dfn 2 2 qea
noncomputable def uY : MS :=
  (qT (zM 2 (ret (.tup [.int 0, .int 1])))
  (qT (qdW (qi3 (qd (dv 0) (qd (qg zb (qd (dv 0) (qd (dv 1) (ret [])))) (ret [])))) (qes 2 (jM (qF 3) (jM (qF 4) qdP))) (zM 2 (qg qao (qd (dv 2) (qd (qaL (qd (d2 jp (d2 ixD (dv 4) (ret (.int 0))) (d2 ixD (dv 3) (ret (.int 1)))) (qd (d2 ixD (dv 4) (ret (.int 1))) (ret [])))) (ret []))))))
  (z0 (dv 2))))
noncomputable def qS : List D -> R D := dfn 5 2 uY
noncomputable def uZ : MS :=
  (qT (qbj (tst (d2 neB (dv 1) (ret (.int 0)))) (qfN 0 1 (qd (dv 1) (qd (d2 qdS (dv 0) (dv 1)) (ret [])))))
  (z0 (dv 0)))
noncomputable def yB : List D -> R D := dfn 2 2 uZ
noncomputable def qap : MS :=
  (qT (zM 2 (qg yB (qd (dv 0) (qd (dv 1) (ret [])))))
  (z0 (qaL (qd (d2 uO (dv 0) (dv 2)) (qd (d2 uO (dv 1) (dv 2)) (ret []))))))
noncomputable def yR : List D -> R D := dfn 3 2 qap
noncomputable def u3 : MS :=
  (qT (qlX (jo qa8 (qd (qey 0 (ret (.int 0))) (qd (dv 1) (ret [])))) (qes 2 (jM (qF 2) (jM (qF 3) qdP))))
  (qT (qdY 0 (ret (.int 0)) (dv 2))
  (z0 (dv 3))))
noncomputable def ql : List D -> List D -> R (D × List D) := qbc 4 2 u3
noncomputable def vV : MS :=
  (qT (zM 3 (d2 jp (dv 1) (d2 ixD (dv 2) (ret (.int 0)))))
  (qT (qdW (qbP (dv 0)) (qF 4) (qT (zM 5 (d2 qiT (d2 jp (d2 ixD (dv 4) (ret (.int 1))) (d2 ixD (dv 2) (ret (.int 1)))) (d2 jp (d2 ixD (dv 4) (ret (.int 0))) (d2 ixD (dv 2) (ret (.int 0))))))
  (qT (sif (qcY (tst (d2 gtD (dv 5) (ret (.int 0)))) (tst (d2 isN (d2 ixD (dv 4) (ret (.int 2))) (ret .non)))) (z0 (ret .non)) uL)
  (sif (tst (d2 gtD (dv 5) (ret (.int 0)))) (zM 3 (d2 ue (dv 3) (d2 jp (dv 5) (d2 ixD (dv 4) (ret (.int 2)))))) uL))))
  (z0 (qg qR (qd (dv 3) (qd (d2 ixD (dv 2) (ret (.int 1))) (ret [])))))))
noncomputable def vW : List D -> R D := dfn 6 3 vV
noncomputable def qaq : MS :=
  (qT (sif (tor (wX (tst (qhS "tuple" (dv 0)))) (tst (d2 neB (jo qdT (qd (dv 0) (ret []))) (ret (.int 2))))) (z0 (ret (.bl false))) uL)
  (qT (sif (tor (wX (tst (qg qW (qd (d2 ixD (dv 0) (ret (.int 0))) (ret []))))) (tor (wX (tst (qg qW (qd (d2 ixD (dv 0) (ret (.int 1))) (ret []))))) (tst (d2 eqB (d2 ixD (dv 0) (ret (.int 1))) (ret (.int 0)))))) (z0 (ret (.bl false))) uL)
  (z0 (d2 eqB (qg zl (qd (d2 ixD (dv 0) (ret (.int 0))) (qd (d2 ixD (dv 0) (ret (.int 1))) (ret [])))) (ret (.int 1))))))
noncomputable def vX : List D -> R D := dfn 1 1 qaq
noncomputable def yk : MS :=
  (sif (wX (tst (qg vX (qd (dv 0) (ret []))))) qbQ uL)
noncomputable def vF : List D -> R D := dfn 1 1 yk
noncomputable def qeb : MS :=
  (qT (yc (qg zW (qd (dv 0) (ret []))))
  (qT (yc (qg zV (qd (dv 1) (ret []))))
  (qT (yc (qg vF (qd (dv 2) (ret []))))
  (z0 (qg vW (qd (dv 0) (qd (dv 1) (qd (dv 2) (ret [])))))))))
noncomputable def qar : List D -> R D := dfn 3 3 qeb
noncomputable def uk : MS :=
  (qT (yc (qg zW (qd (dv 0) (ret []))))
  (qT (yc (qg zV (qd (dv 1) (ret []))))
  (qT (zM 2 (dv 1))
  (qT (qdW (qbP (qg qU (qd (dv 0) (ret [])))) (qF 3) (qT (sif (wX (tst (qg zA (qd (d2 ixD (dv 0) (dv 3)) (qd (dv 2) (ret [])))))) (z0 (qg qR (qd (d2 ixD (d2 ixD (dv 0) (dv 3)) (ret (.int 1))) (qd (d2 ixD (d2 ixD (dv 0) (dv 3)) (ret (.int 0))) (ret []))))) uL)
  (zM 2 (qg zk (qd (d2 ixD (dv 0) (dv 3)) (qd (dv 2) (ret [])))))))
  (z0 (ret (.tup [.int 0, .int 1])))))))
noncomputable def ul : List D -> R D := dfn 4 2 uk
noncomputable def yt : MS :=
  (z0 (jo ql2 (qd (yX 2 [2] none (qi3 (qd (dv 0) (qd (dv 1) (ret [])))) (qes 2 (jM (qF 0) (jM (qF 1) qdP))) (ret true) (d2 jp (d2 ixD (dv 0) (dv 2)) (dv 1))) (ret []))))
noncomputable def zG : List D -> R D := dfn 3 3 yt
noncomputable def qas : MS :=
  (z0 (qht (qg qW (qd (dv 1) (ret []))) (dor (d2 isN (d2 ixD (dv 0) (ret (.int 2))) (ret .non)) (d2 leD (dv 1) (d2 ixD (dv 0) (ret (.int 2)))))))
noncomputable def yS : List D -> R D := dfn 2 2 qas
noncomputable def qbr : MS :=
  (qT (yc (qg zW (qd (dv 1) (ret []))))
  (qT (sif (tor (wX (tst (qhS "tuple" (dv 0)))) (tst (d2 neB (jo qdT (qd (dv 0) (ret []))) (jo qdT (qd (dv 1) (ret [])))))) (z0 (ret (.bl false))) uL)
  (z0 (jo qiW (qd (yX 2 [] none (qi3 (qd (dv 1) (qd (dv 0) (ret [])))) (qes 2 (jM (qF 0) (jM (qF 1) qdP))) (ret true) (qg yS (qd (dv 0) (qd (dv 1) (ret []))))) (ret []))))))
noncomputable def uI : List D -> R D := dfn 2 2 qbr
noncomputable def y8 : MS :=
  (sif (wX (tst (qg uI (qd (dv 1) (qd (dv 0) (ret [])))))) qbQ uL)
noncomputable def u4 : List D -> R D := dfn 2 2 y8
noncomputable def qec : MS :=
  (qT (yc (qg u4 (qd (dv 0) (qd (dv 1) (ret [])))))
  (z0 (qg zG (qd (dv 0) (qd (dv 1) (qd (ret (.int 1)) (ret [])))))))
noncomputable def uz : List D -> R D := dfn 2 2 qec
noncomputable def qhj : MS :=
  (qT (yc (qg u4 (qd (dv 0) (qd (dv 1) (ret [])))))
  (qT (yc (qg zV (qd (dv 2) (ret []))))
  (z0 (d2 leD (qg zG (qd (dv 0) (qd (dv 1) (qd (ret (.int 0)) (ret []))))) (dv 2)))))
noncomputable def qdx : List D -> R D := dfn 3 3 qhj
noncomputable def qat : MS :=
  (z0 (jo qev (qd (yX 1 [] none (qbP (qg zb (qd (dv 0) (qd (dv 1) (ret []))))) (qF 0) (ret true) (d2 uO (d2 ixD (dv 0) (ret (.int 0))) (d2 ixD (dv 0) (ret (.int 1))))) (ret []))))
noncomputable def vY : List D -> R D := dfn 2 2 qat
noncomputable def u5 : MS :=
  (qT (zM 2 (qg qS (qd (dv 0) (qd (dv 1) (ret [])))))
  (z0 (d2 uO (d2 ixD (dv 2) (ret (.int 0))) (d2 ixD (dv 2) (ret (.int 1))))))
noncomputable def zn : List D -> R D := dfn 3 2 u5
noncomputable def u6 : MS :=
  (qT (zM 2 (d2 uO (dv 1) (d2 ixD (dv 0) (ret (.int 0)))))
  (z0 (dif (tst (d2 isN (d2 ixD (dv 0) (ret (.int 2))) (ret .non))) (dv 2) (jo qfk (qd (dv 2) (qd (d2 ixD (dv 0) (ret (.int 2))) (ret [])))))))
noncomputable def jK : List D -> R D := dfn 3 2 u6
noncomputable def ww : MS :=
  (z0 (d2 qiT (dv 2) (d2 jp (dv 1) (d2 ixD (dv 0) (ret (.int 0))))))
noncomputable def u7 : List D -> R D := dfn 3 3 ww
noncomputable def vG : MS :=
  (z0 (d2 ue (d2 jp (dv 1) (d2 ixD (dv 0) (ret (.int 1)))) (d2 ixD (dv 2) (qg u7 (qd (dv 0) (qd (dv 1) (qd (dv 3) (ret []))))))))
noncomputable def um : List D -> R D := dfn 4 4 vG
noncomputable def wy : MS :=
  (z0 (jo qfq (qd (yX 1 [0, 1, 2] none (vq (qd (d2 ue (qg jK (qd (dv 0) (qd (dv 2) (ret [])))) (ret (.int 1))) (ret []))) (qF 0) (ret true) (qg um (qd (dv 1) (qd (dv 0) (qd (dv 2) (qd (dv 3) (ret []))))))) (ret []))))
noncomputable def jt : List D -> R D := dfn 3 3 wy
noncomputable def wA : MS :=
  (qT (qca 2 (qic (qd (d2 jp (qa3 (qd (ret (.int 0)) (ret []))) (d2 ue (dv 1) (ret (.int 1)))) (ret []))))
  (qT (qdW (qmH (qd (dv 0) (ret []))) (qF 3) (yc (vv 2 (yX 1 [3, 2] (some (2, 2)) (vq (qd (d2 ue (dv 1) (ret (.int 1))) (ret []))) (qF 0) (ret true) (qg jt (qd (dv 1) (qd (qey 2 (ret (.int 0))) (qd (dv 0) (ret [])))))))))
  (qj4 2)))
noncomputable def u8 : List D -> R D := dfn 4 2 wA
noncomputable def uJ : MS :=
  (sif (tst (d2 gtD (dv 0) (ret (.int 200)))) qbQ uL)
noncomputable def qau : List D -> R D := dfn 1 1 uJ
noncomputable def yn : MS :=
  (qT (yc (qg zW (qd (dv 0) (ret []))))
  (qT (yc (qg zV (qd (dv 1) (ret []))))
  (yc (qg qau (qd (dv 1) (ret []))))))
noncomputable def vH : List D -> R D := dfn 2 2 yn
noncomputable def u9 : MS :=
  (qT (yc (qg vH (qd (dv 0) (qd (dv 1) (ret [])))))
  (z0 (d2 ixD (qg u8 (qd (dv 0) (qd (dv 1) (ret [])))) (ret (.int 0)))))
noncomputable def yC : List D -> R D := dfn 2 2 u9
noncomputable def vI : MS :=
  (z0 (d2 ixD (qg yC (qd (dv 0) (qd (dv 1) (ret [])))) (dv 1)))
noncomputable def uo : List D -> R D := dfn 2 2 vI
noncomputable def vJ : MS :=
  (qT (qfN 2 3 (qd (qg uo (qd (dv 0) (qd (dv 1) (ret [])))) (qd (qg qS (qd (dv 0) (qd (dv 1) (ret [])))) (ret []))))
  (qT (sif (tor (wX (tst (d2 leD (dv 2) (qg zn (qd (dv 0) (qd (dv 1) (ret []))))))) (wX (tst (qg qG (qd (qaL (qd (qg zn (qd (dv 0) (qd (dv 1) (ret [])))) (qd (ret (.int 1)) (ret [])))) (qd (dv 3) (ret []))))))) (z0 (ret (.bl false))) uL)
  (qT (zM 4 (qg vY (qd (dv 0) (qd (dv 1) (ret [])))))
  (qT (sif (tor (tst (d2 qfz (qg uI (qd (dv 4) (qd (dv 0) (ret [])))) (ret (.bl true)))) (tor (tst (d2 qfz (qg qdx (qd (dv 0) (qd (dv 4) (qd (dv 1) (ret []))))) (ret (.bl true)))) (tst (d2 gtD (qg uz (qd (dv 0) (qd (dv 4) (ret [])))) (dv 2))))) (z0 (ret (.bl false))) uL)
  (qT (zM 5 (jo qfq (qd (d2 ue (qa3 (qd (ret (.int 0)) (ret []))) (yX 1 [] none (qbP (dv 0)) (qF 0) (ret true) (d2 ixD (dv 0) (ret (.int 1))))) (ret []))))
  (qT (sif (qcY (tst (d2 gtD (dv 5) (ret (.int 0)))) (tst (qg qG (qd (qaL (qd (d2 ue (qg uz (qd (dv 0) (qd (dv 4) (ret [])))) (dv 5)) (qd (ret (.int 1)) (ret [])))) (qd (dv 3) (ret [])))))) (z0 (ret (.bl false))) uL)
  (qT (sif (qcY (tst (d2 eqB (yX 1 [] none (qbP (qg zb (qd (dv 0) (qd (dv 1) (ret []))))) (qF 0) (tst (d2 neB (d2 ixD (dv 0) (ret (.int 1))) (ret (.int 1)))) (dv 0)) (qa3 (ret [])))) (tst (d2 neB (qg uz (qd (dv 0) (qd (dv 4) (ret [])))) (dv 2)))) (z0 (ret (.bl false))) uL)
  (z0 (d2 eqB (qg qar (qd (dv 0) (qd (dv 1) (qd (qg ul (qd (dv 0) (qd (dv 1) (ret [])))) (ret []))))) (dv 3))))))))))
noncomputable def uq : List D -> R D := dfn 6 2 vJ
noncomputable def j9 : MS :=
  (qT (zM 2 (qz ql 0 (qd (ret (.int 6)) (ret []))))
  (qT (qfN 3 4 (qd (d2 ue (ret (.int 1)) (qz ql 0 (qd (ret (.int 7)) (ret [])))) (qd (qz ql 0 (qd (ret (.int 10)) (ret []))) (ret []))))
  (qT (sif (tst (d2 eqB (dv 2) (ret (.int 1)))) (zM 4 (d2 jp (ret (.int 2)) (dv 3))) uL)
  (qT (sif (tst (d2 eqB (dv 2) (ret (.int 2)))) (zM 4 (d2 ue (dv 3) (qz ql 0 (qd (ret (.int 3)) (ret []))))) uL)
  (qT (sif (tst (d2 eqB (dv 2) (ret (.int 3)))) (qfN 3 4 (qd (d2 ue (ret (.int 1)) (qz ql 0 (qd (ret (.int 25)) (ret [])))) (qd (qz ql 0 (qd (ret (.int 40)) (ret []))) (ret [])))) uL)
  (qT (zM 5 (d2 ixD (qa3 (qd (ret (.int 1)) (qd (ret (.int 1)) (qd (ret (.int 1)) (qd (ret (.int 2)) (qd (ret (.int 3)) (qd (ret (.int 0)) (qd (ret (.int 5)) (qd (dv 1) (ret [])))))))))) (qz ql 0 (qd (ret (.int 8)) (ret [])))))
  (z0 (qaL (qd (dv 3) (qd (dv 4) (qd (dv 5) (ret []))))))))))))
noncomputable def zr : List D -> List D -> R (D × List D) := qbc 6 2 j9
noncomputable def ya : MS :=
  (qT (qca 3 (qnf (ret [])))
  (qT (qdW (vq (qd (qz ql 0 (qd (d2 ue (dv 1) (ret (.int 1))) (ret []))) (ret []))) (qF 4) (qT (zM 5 (qz zr 0 (qd (dv 2) (ret []))))
  (qT (sif (qcY (tst (qi2 3 (qa3 (ret [])))) (tst (d2 eqB (qz ql 0 (qd (ret (.int 7)) (ret []))) (ret (.int 6))))) (zM 5 (qey 3 (qz ql 0 (qd (qc7 3) (ret []))))) uL)
  (yc (wm 3 (dv 5))))))
  (z0 (qfo 3))))
noncomputable def yb : List D -> List D -> R (D × List D) := qbc 6 3 ya
noncomputable def qav : MS :=
  (qT (zM 2 (qa3 (qd (ret (.int 48271)) (qd (ret (.int 69621)) (qd (ret (.int 16807)) (qd (ret (.int 39373)) (qd (ret (.int 30269)) (qd (ret (.int 40014)) (qd (ret (.int 40692)) (qd (ret (.int 50021)) (qd (ret (.int 61687)) (qd (ret (.int 71993)) (qd (ret (.int 83869)) (qd (ret (.int 95561)) (qd (ret (.int 30307)) (ret []))))))))))))))))
  (qT (zM 3 (d2 ue (d2 ue (d2 jp (d2 ue (d2 qdS (dv 0) (ret (.int 2147483647))) (ret (.int 12345))) (d2 ixD (dv 2) (d2 qdS (dv 1) (ret (.int 13))))) (d2 jp (ret (.int 977)) (dv 1))) (d2 jp (ret (.int 7919)) (d2 uO (dv 1) (ret (.int 13))))))
  (qT (zM 3 (d2 qdS (dv 3) (ret (.int 1000000007))))
  (z0 (d2 uO (d2 qdS (d2 ue (d2 jp (dv 3) (dv 3)) (d2 jp (ret (.int 48271)) (dv 1))) (ret (.int 1000000007))) (ret (.int 7)))))))
noncomputable def yT : List D -> R D := dfn 4 2 qav
noncomputable def va : MS :=
  (qT (sif (tst (d2 ltD (dv 1) (jo qdT (qd (dv 0) (ret []))))) (z0 (d2 ixD (dv 0) (dv 1))) uL)
  (z0 (ret (.int 0))))
noncomputable def j7 : List D -> R D := dfn 2 2 va
noncomputable def vZ : MS :=
  (qT (zM 2 (qg j7 (qd (dv 0) (qd (dv 1) (ret [])))))
  (qT (sif (tst (d2 eqB (d2 qdS (dv 2) (ret (.int 2))) (ret (.int 0)))) (z0 (qa3 (qd (d2 uO (jo qnd (qd (dv 2) (ret []))) (ret (.int 2))) (ret [])))) uL)
  (qT (zM 3 (ret (.int 0)))
  (qT (qdW (vq (qd (ret (.int 40)) (ret []))) (qF 4) (zM 3 (d2 ue (d2 jp (dv 3) (ret (.int 142857143))) (qg yT (qd (dv 2) (qd (dv 4) (ret [])))))))
  (z0 (qa3 (qd (dv 3) (ret []))))))))
noncomputable def uK : List D -> R D := dfn 5 2 vZ
noncomputable def qkP : MS :=
  (qT (qdW (vq (qd (jo qhN (qd (ret (.int 1)) (qd (jo qfk (qd (jo qdT (qd (dv 0) (ret []))) (qd (ret (.int 4)) (ret [])))) (ret [])))) (ret []))) (qF 1) (qT (qca 2 (qgq uK (qd (dv 0) (qd (dv 1) (ret [])))))
  (qT (zM 3 (qz yb 2 (qd (ret (.int 6)) (qd (ret .non) (ret [])))))
  (qT (zM 4 (qz ql 2 (qd (ret (.int 61)) (ret []))))
  (qT (sif (wX (tst (qg uq (qd (dv 3) (qd (dv 4) (ret [])))))) (z0 (ret (.bl false))) uL)
  (qT (qdW (qbP (qa3 (qd (qaL (qd (ret (.int 0)) (qd (ret (.int 1)) (ret [])))) (qd (qaL (qd (ret (.int 1)) (qd (ret (.int 1)) (ret [])))) (qd (qaL (qd (ret (.int 2)) (qd (ret (.int 1)) (ret [])))) (qd (qg yR (qd (qz ql 2 (qd (ret (.int 30)) (ret []))) (qd (d2 ue (ret (.int 1)) (qz ql 2 (qd (ret (.int 9)) (ret [])))) (ret [])))) (ret []))))))) (qF 5) (qT (zM 6 (qg qar (qd (dv 3) (qd (dv 4) (qd (dv 5) (ret []))))))
  (sif (qcY (tst (d2 qjW (dv 6) (ret .non))) (wX (tst (qg qG (qd (qg qS (qd (dv 3) (qd (dv 4) (ret [])))) (qd (dv 6) (ret []))))))) (z0 (ret (.bl false))) uL)))
  (qT (qlX (yX 1 [3, 4] none (vq (qd (ret (.int 3)) (ret []))) (qF 0) (ret true) (qg qS (qd (dv 1) (qd (d2 ue (dv 2) (dv 0)) (ret []))))) (qox 3 (jM (qF 7) (jM (qF 8) (jM (qF 9) qdP)))))
  (qT (zM 10 (qaL (qd (d2 jp (d2 ixD (dv 8) (ret (.int 0))) (ret (.int 2))) (qd (d2 ixD (dv 8) (ret (.int 1))) (ret [])))))
  (qT (zM 11 (qaL (qd (d2 ue (d2 jp (d2 ixD (dv 7) (ret (.int 0))) (d2 ixD (dv 9) (ret (.int 1)))) (d2 jp (d2 ixD (dv 9) (ret (.int 0))) (d2 ixD (dv 7) (ret (.int 1))))) (qd (d2 jp (d2 ixD (dv 7) (ret (.int 1))) (d2 ixD (dv 9) (ret (.int 1)))) (ret [])))))
  (sif (tor (wX (tst (qg qG (qd (dv 11) (qd (dv 10) (ret [])))))) (wX (tst (qg qG (qd (dv 7) (qd (dv 8) (ret []))))))) (z0 (ret (.bl false))) uL))))))))))
  (z0 (ret (.bl true))))
noncomputable def qed : List D -> R D := dfn 12 1 qkP
local macro_rules | `(tactic| push_cast [$xs,*]) => `(tactic| simp only [ud, qcf, qmp, jq, qeC, qgu, qi7, qnM, qnN, qab, j8, qi8, qki, uf, qgv, qeD, qd0, qeE, qmq, qi9, qh2, qh3, wM, qbf, qcg, qch, qjb, qeF, qgw, ve, qbg, qgx, qda, qdb, qgy, qgz, qd1, qgA, qd2, qjc, qdc, qmr, qgB, lC_, lN_, mC_, List.map_nil, List.replicate, List.nil_append, List.cons_append, List.append_nil, List.getElem?_cons_zero, List.getElem?_cons_succ, List.set_cons_zero, List.set_cons_succ, Nat.reduceAdd, Nat.reduceSub, Nat.sub_self, Nat.zero_add, reduceIte, Bool.not_true, Bool.not_false, Bool.false_eq_true, if_true, if_false, ite_true, ite_false, cond_true, cond_false, decide_true, decide_false, ix0, ix1, ix2, vw, ug, uR, qad, qbU, qgU, vx, qgV, qd4, qji, qjj, qeJ, qeK, qeL, qje, qgK, qd3, $xs,*])
theorem qcw (d : D) : vT [d] = .ok (.bl (qkA d)) := by
 unfold vT qal
 refine yZ rfl ⟨[some d], ?_⟩
 push_cast []
 cases d <;> rfl
theorem zB (d : D) : qW [d] = .ok (.bl (zN d)) := by
 unfold qW qam
 refine yZ rfl ⟨[some d], ?_⟩
 push_cast []
 rw [qcw]
 cases d <;> rfl
theorem qdy (d : D) : vE [d] = .ok (.bl (vf d)) := by
 unfold vE qbq
 refine yZ rfl ⟨[some d], ?_⟩
 cases d with
 | tup ds =>
  by_cases h : ds.length = 3
  ·obtain ⟨a, b, c, rfl⟩ := qoy h
   refine (qo (U' := [some (.tup [a, b, c])]) rfl).trans ?_
   by_cases hp : qgW a = true
   ·refine (qo (U' := [some (.tup [a, b, c])]) ?_).trans ?_
    ·cases a with
     | int i =>
      have h2 : 0 < i := of_decide_eq_true hp
      have h0 : 0 <= i := by omega
      have h1 : ¬ i = 0 := by omega
      push_cast [ix0, zB, zN, qad, uf, h0, h1, decide_true, decide_false]
     | _ => exact absurd hp (by simp [qgW])
    ·push_cast [ix1, ix2, zB, qbU, vf, hp, uf, Bool.true_and]
     cases hb : zN b <;> cases hc : yx c <;> rfl
   ·refine (uh (d := .bl false) (U' := [some (.tup [a, b, c])]) ?_).trans ?_
    ·cases a with
     | int i =>
      have h2 : ¬ 0 < i := fun z => hp (decide_eq_true z)
      push_cast [ix0, zB, zN, qad, uf]
      by_cases h0 : 0 <= i
      ·have h1 : i = 0 := by omega
       subst h1; rfl
      ·simp only [h0, decide_false]
       rfl
     | _ => rfl
    ·have hp' : qgW a = false := by simpa using hp
     simp only [vf, hp', Bool.false_and]
  ·refine (uh (d := .bl false) (U' := [some (.tup ds)]) ?_).trans ?_
   ·push_cast []
    have h3 : ¬ ((ds.length : Int) = 3) := by omega
    simp only [vw, ug, uR, h3, decide_false, uf]
    rfl
   ·rw [qbV h]
 | _ => rfl
theorem qcx (d : D) : vU [d] = .ok (.bl (uS d)) := by
 unfold vU qan
 refine yZ rfl ⟨[some d], ?_⟩
 cases d with
 | tup ds =>
  by_cases h : ds.length <= 12
  ·have h2 : ¬ ((12 : Int) < (ds.length : Int)) := by omega
   refine (qo (U' := [some (.tup ds)]) ?_).trans ?_
   ·push_cast [vw, ug, vx, h2, decide_false, uf]
   ·rw [wM, qkB (F := vE) (f := vf) (xs := qbP (dv 0)) (ds := ds) (U := [some (.tup ds)]) rfl (fun d _ => qdy d) (by omega)]
    simp only [uS, h, decide_true, Bool.true_and]
  ·have h2 : ((12 : Int) < (ds.length : Int)) := by omega
   refine (uh (d := .bl false) (U' := [some (.tup ds)]) ?_).trans ?_
   ·push_cast [vw, ug, vx, h2, decide_true, uf]
   ·simp only [uS, h, decide_false, Bool.false_and]
 | _ => rfl
theorem qcy (k x : D) (hk : vf k = true) : yS [k, x] = .ok (.bl (qd5 k x)) := by
 cases k with
 | tup ds =>
  by_cases h : ds.length = 3
  ·obtain ⟨a, b, c, rfl⟩ := qoy h
   unfold yS qas
   refine yZ rfl ⟨[some (.tup [a, b, c]), some x], ?_⟩
   push_cast [ix2, zB, qbU, uf, qd5]
   cases hx : zN x with
   | false => rfl
   | true =>
    cases hc : yx c with
    | true => rfl
    | false =>
     have hcc : zN c = true := by
      simp only [vf, hc, Bool.false_or, Bool.and_eq_true] at hk
      exact hk.2
     cases x with
     | int i =>
      cases c with
      | int j => rfl
      | _ => cases hcc
     | _ => cases hx
  ·rw [qbV h] at hk; cases hk
 | _ => cases hk
theorem zX (d : D) (h : uS d = true) : zW [d] = .ok .non := by
 have e : yj [some d] = .ok (.nx [some d]) := by
  unfold yj
  push_cast [qcx, h, uf]
 show (match yj [some d] with | .ok (.rt d _) => R.ok d | .ok (.nx _) => .ok .non | _ => .bad) = _
 rw [e]
theorem qaE (t s : D) (hs : uS s = true) : uI [t, s] = .ok (.bl (qeU t s)) := by
 cases s with
 | tup ks =>
  have hs2 := hs
  simp only [uS, Bool.and_eq_true, decide_eq_true_eq] at hs2
  obtain ⟨hl, ha⟩ := hs2
  unfold uI qbr
  refine yZ rfl ⟨[some t, some (.tup ks)], ?_⟩
  refine (qo (U' := [some t, some (.tup ks)]) ?_).trans ?_
  ·push_cast [zX _ hs]
  cases t with
  | tup xs =>
   by_cases h : xs.length = ks.length
   ·refine (qo (U' := [some (.tup xs), some (.tup ks)]) ?_).trans ?_
    ·push_cast [vw, ug, uR, h, decide_true, uf]
    ·obtain ⟨bs, U', q, r⟩ := qeV (e := qg yS (qd (dv 0) (qd (dv 1) (ret [])))) (f := qd5) ks xs [] none none (fun k hk x => by
      push_cast [qcy k x (List.all_eq_true.mp ha k hk)]) (by simp; omega)
     have q' : zt (qes 2 (jM (qF 0) (jM (qF 1) qdP))) (ret true) (qg yS (qd (dv 0) (qd (dv 1) (ret [])))) (qaO ks xs) [] (jP 2 [] [some (.tup xs), some (.tup ks)]) = .ok ([] ++ bs.map D.bl, U') := q
     rw [qaC] at r
     simp only [wM, qab, jq, qbh, qda, qmp, qcf, List.getElem?_cons_zero, List.getElem?_cons_succ, qmh, q', List.nil_append, qiW, qeW, Option.map_some, r, qeU, h, decide_true, Bool.true_and]
     rfl
   ·refine (uh (d := .bl false) (U' := [some (.tup xs), some (.tup ks)]) ?_).trans ?_
    ·have h2 : ¬ ((xs.length : Int) = (ks.length : Int)) := by omega
     push_cast [vw, ug, uR, h2, decide_false, uf]
    ·simp only [qeU, h, decide_false, Bool.false_and]
  | _ => rfl
 | _ => cases hs
theorem zY (n : Nat) : zV [.int (n : Nat)] = .ok .non := by
 have h : zN (.int (n : Nat)) = true := by
  show decide (0 <= (n : Int)) = true
  exact decide_eq_true (by omega)
 have e : yi [some (.int (n : Nat))] = .ok (.nx [some (.int (n : Nat))]) := by
  unfold yi
  push_cast [zB, h, uf]
 show (match yi [some (.int (n : Nat))] with | .ok (.rt d _) => R.ok d | .ok (.nx _) => .ok .non | _ => .bad) = _
 rw [e]
theorem ex1 {F : List D -> R D} {l : M (List D)} {U : Env} {ds : List D} {d : D} (hl : l U = .ok (ds, U)) (h : F ds = .ok d) : yc (qg F l) U = .ok (.nx U) := by
 rw [qch, j8, hl]
 simp only [h]
theorem cx2 {F : List D -> R D} {f g : M D} {U : Env} {a b d : D} (hf : f U = .ok (a, U)) (hg : g U = .ok (b, U)) (e : F [a, b] = .ok d) : qg F (qd f (qd g (ret []))) U = .ok (d, U) := by
 rw [j8, qdo hf hg]
 simp only [e]
theorem cp2 {F : List D -> R D} {f g : M D} {U : Env} {a b d : D} (hf : f U = .ok (a, U)) (hg : g U = .ok (b, U)) (e : F [a, b] = .ok d) : qg F (qd f (qd g (ret []))) U = .ok (d, U) := by
 rw [j8, qdo hf hg]
 simp only [e]
theorem qpg {f g : M D} {U : Env} {d : D} (hf : f U = .ok (.bl true, U)) (hg : g U = .ok (d, U)) : qht f g U = .ok (d, U) := by
 rw [qeE, hf]
 exact hg
theorem qph {f g : M D} {U : Env} (hf : f U = .ok (.bl false, U)) : qht f g U = .ok (.bl false, U) := by
 rw [qeE, hf]
 rfl
theorem qn1 {t : M Bool} {f g : M D} {U : Env} {d : D} (ht : t U = .ok (true, U)) (hf : f U = .ok (d, U)) : dif t f g U = .ok (d, U) := by
 rw [qh2, ht]
 exact hf
theorem qn2 {t : M Bool} {f g : M D} {U : Env} {d : D} (ht : t U = .ok (false, U)) (hg : g U = .ok (d, U)) : dif t f g U = .ok (d, U) := by
 rw [qh2, ht]
 exact hg
theorem gt0 (n : Nat) : gtD (.int (n : Nat)) (.int 0) = some (.bl (decide (0 < n))) := by
 rw [vx]
 congr 2
 rw [decide_eq_decide]
 omega
theorem leN (a b : Nat) : leD (.int (a : Nat)) (.int (b : Nat)) = some (.bl (decide (a <= b))) := by
 rw [qd4]
 congr 2
 rw [decide_eq_decide]
 omega
theorem qkQ : ∀ (b a : Nat) (o : Option D), ∃ n o', yq (tst (d2 gtD (dv 1) (ret (.int 0)))) (qT (zM 2 (d2 qdS (dv 0) (dv 1))) (qT (zM 0 (dv 1)) (zM 1 (dv 2)))) n [some (.int (a : Nat)), some (.int (b : Nat)), o] = .ok (.nx [some (.int (Nat.gcd a b : Nat)), some (.int 0), o']) := by
 intro b
 induction b using Nat.strongRecOn with
 | _ b ih =>
  intro a o
  by_cases h : 0 < b
  ·obtain ⟨n, o', q⟩ := ih (a % b) (Nat.mod_lt _ h) b (some (.int ((a % b : Nat) : Int)))
   refine ⟨n + 1, o', ?_⟩
   unfold yq
   have t : tst (d2 gtD (dv 1) (ret (.int 0))) [some (.int (a : Nat)), some (.int (b : Nat)), o] = .ok (true, [some (.int (a : Nat)), some (.int (b : Nat)), o]) := qZ (qi rfl rfl (by rw [gt0, decide_eq_true h]))
   have s : (qT (zM 2 (d2 qdS (dv 0) (dv 1))) (qT (zM 0 (dv 1)) (zM 1 (dv 2)))) [some (.int (a : Nat)), some (.int (b : Nat)), o] = .ok (.nx [some (.int (b : Nat)), some (.int ((a % b : Nat) : Int)), some (.int ((a % b : Nat) : Int))]) := by
    refine (qo (U' := [some (.int (a : Nat)), some (.int (b : Nat)), some (.int ((a % b : Nat) : Int))]) ?_).trans rfl
    rw [qbf, qi rfl rfl (qeY a h)]
    rfl
   simp only [t, s]
   have e : Nat.gcd a b = Nat.gcd b (a % b) := by
    rw [Nat.gcd_comm a b, Nat.gcd_rec b a, Nat.gcd_comm]
   rw [e]
   exact q
  ·have e : b = 0 := by omega
   subst e
   refine ⟨1, o, ?_⟩
   unfold yq
   have t : tst (d2 gtD (dv 1) (ret (.int 0))) [some (.int (a : Nat)), some (.int ((0 : Nat) : Int)), o] = .ok (false, [some (.int (a : Nat)), some (.int ((0 : Nat) : Int)), o]) := qZ (qi rfl rfl (by rw [gt0]; rfl))
   simp only [t]
   rw [Nat.gcd_zero_right]
   rfl
theorem yo (a b : Nat) : zl [.int (a : Nat), .int (b : Nat)] = .ok (.int (Nat.gcd a b : Nat)) := by
 unfold zl jJ
 obtain ⟨n, o', q⟩ := qkQ b a none
 refine yZ rfl ⟨[some (.int (Nat.gcd a b : Nat)), some (.int 0), o'], ?_⟩
 exact (qo (qdg q (by intro z; cases z))).trans rfl
theorem jf (T : Nat) {B : Nat} (hB : 0 < B) (hb : B < big) : qR [.int (T : Nat), .int (B : Nat)] = .ok (wT T B) := by
 have hg : 0 < Nat.gcd T B := Nat.gcd_pos_of_pos_right _ hB
 have hg2 : Nat.gcd T B < big := Nat.lt_of_le_of_lt (Nat.gcd_le_right _ hB) hb
 unfold qR uy
 refine yZ rfl ⟨[some (.int (T : Nat)), some (.int (B : Nat)), some (.int (Nat.gcd T B : Nat))], ?_⟩
 refine (qo (U' := [some (.int (T : Nat)), some (.int (B : Nat)), some (.int (Nat.gcd T B : Nat))]) ?_).trans ?_
 ·show zM 2 _ [some (.int (T : Nat)), some (.int (B : Nat)), none] = _
  rw [qbf, qQ rfl rfl (yo T B)]
  rfl
 ·rw [wM, qjm (qi rfl rfl (yg T hg hg2)) (qi rfl rfl (yg B hg hg2))]
  rfl
theorem qfG {t b u c : Nat} (h1 : c <= Mx) (h2 : u <= Mx \/ b <= Mx) (hb : 0 < b) (hc : 0 < c) (hl : b * c < big) : qao [frD t b, frD u c] = .ok (wT (t * c + u * b) (b * c)) := by
 unfold qao qea
 let U : Env := [some (frD t b), some (frD u c)]
 refine yZ rfl ⟨U, ?_⟩
 show z0 _ U = _
 have e2 : jp (.int (u : Nat)) (.int (b : Nat)) = some (.int ((u * b : Nat) : Int)) := h2.elim (fun h => qjn b h) (fun h => jQ u h)
 rw [wM, qQ (qi (qi (qi rfl rfl (qaG t b)) (qi rfl rfl (vy u c)) (jQ t h1)) (qi (qi rfl rfl (qaG u c)) (qi rfl rfl (vy t b)) e2) (qis _ _)) (qi (qi rfl rfl (vy t b)) (qi rfl rfl (vy u c)) (jQ b h1)) (jf _ (Nat.mul_pos hb hc) hl)]
theorem v3 {ks : List Nk} (hw : ∀ x ∈ ks, x.1 <= Mx) : je [.tup (ks.map tK)] = .ok (.int (zS ks : Nat)) := by
 unfold je j6
 let S : Option D := some (.tup (ks.map tK))
 obtain ⟨U', q, o2, rfl⟩ := qbl (G := qF 2) (b := (zM 1 (d2 jp (dv 1) (d2 ixD (dv 2) (ret (.int 0)))))) (k := tK) (step := fun (p : Nat) (x : Nk) => p * x.1) (Inv := fun n p U => ∃ o2, U = [S, some (.int (p : Nat)), o2]) ks 0 1 [S, some (.int 1), none] ⟨none, rfl⟩ (fun x hx n p U _ _ => by
  rintro ⟨o2, rfl⟩
  refine ⟨[S, some (.int (p : Nat)), some (tK x)], [S, some (.int ((p * x.1 : Nat) : Int)), some (tK x)], rfl, ?_, _, rfl⟩
  rw [qbf, qi rfl (qi rfl rfl (tk0 x)) (jQ p (hw x hx))]
  rfl)
 refine yZ rfl ⟨[S, some (.int (zS ks : Nat)), o2], ?_⟩
 refine (qo (U' := [S, some (.int 1), none]) rfl).trans ((qo (U' := [S, some (.int (zS ks : Nat)), o2]) ?_).trans rfl)
 rw [ve]
 exact q
theorem ur {ks : List Nk} (hw : ∀ x ∈ ks, 0 < x.1) (hl : ks.length <= 12) (hp : zS ks <= Mx) : qU [.tup (ks.map tK)] = .ok (.lst ((uc ks).map fun i => D.int (i : Nat))) := by
 have hwM : ∀ x ∈ ks, x.1 <= Mx := fun x hx => Nat.le_trans (qaQ hw hx) hp
 let S : Option D := some (.tup (ks.map tK))
 let P : Option D := some (.int (zS ks : Nat))
 let L : Option D := some (.lst ((plN ks).map fun i => D.int (i : Nat)))
 unfold qU jI
 refine yZ rfl ⟨[S, P, L], ?_⟩
 refine (qo (U' := [S, P, none]) (y0 (qbW rfl (v3 hwM)))).trans ?_
 refine (qo (U' := [S, P, L]) ?_).trans ?_
 ·refine y0 (i := 2) (U := [S, P, none]) (U1 := [S, P, none]) (d := .lst ((plN ks).map fun i => D.int (i : Nat))) ?_
  refine qg3 (u := fun i : Nat => D.int (i : Nat)) (v := fun i => tK (nAt ks i)) (r := []) (List.range ks.length) (fun i => decide (0 < (nAt ks i).2.1)) (fun i => D.int (i : Nat)) ?_ rfl (by rw [lR_]; omega) (fun i hi => qZ (qi (qi rfl rfl (tk1 _)) rfl (gt0 _))) (fun i _ _ => rfl)
  rw [qd3]
  show (match qgF [D.tup (ks.map tK)] with | some ds => R.ok (ds, [S, P, none]) | none => .bad) = _
  rw [<- qkH]
  rfl
 ·refine zQ ?_
  have hks : qbk (d2 jp (d1 qi4 (d2 ixD (d2 ixD (dv 2) (dv 0)) (ret (.int 1)))) (d2 uO (dv 1) (d2 ixD (d2 ixD (dv 2) (dv 0)) (ret (.int 0))))) 3 [.int (zS ks : Nat), .tup (ks.map tK)] ((plN ks).map fun i => D.int (i : Nat)) = some ((plN ks).map (qd7 ks)) := by
   refine qds fun i hi => ?_
   have hi' : i < ks.length := by
    unfold plN at hi
    exact mR_.mp (List.mem_filter.mp hi).1
   have hx := jh hi'
   let U : Env := [some (.int (i : Nat)), P, S]
   refine ⟨U, ?_⟩
   show (d2 jp (d1 qi4 (d2 ixD (d2 ixD (dv 2) (dv 0)) (ret (.int 1)))) (d2 uO (dv 1) (d2 ixD (d2 ixD (dv 2) (dv 0)) (ret (.int 0))))) U = _
   have hq : zS ks / (nAt ks i).1 <= 18000000000000000000 := Nat.le_trans (Nat.div_le_self _ _) hp
   have e1 : d1 qi4 (d2 ixD (d2 ixD (dv 2) (dv 0)) (ret (.int 1))) U = .ok (.int (-((nAt ks i).2.1 : Int)), U) := by
    have e0 : d2 ixD (d2 ixD (dv 2) (dv 0)) (ret (.int 1)) U = .ok (.int ((nAt ks i).2.1 : Nat), U) := qi (qi rfl rfl (qdr hi')) rfl (tk1 _)
    rw [qnN, e0]
    rfl
   exact qi e1 (qi rfl (qi (qi rfl rfl (qdr hi')) rfl (tk0 _)) (yg _ (hw _ hx) (Nat.lt_of_le_of_lt (hwM _ hx) (by decide)))) (qin (qkG hq))
  have h64 : ((plN ks).map fun i => D.int (i : Nat)).length < 64 := by
   rw [lM_]
   have := List.length_filter_le (fun i => decide (0 < (nAt ks i).2.1)) (List.range ks.length)
   rw [lR_] at this
   unfold plN
   omega
  have hk := qik (n := 3) (fr := [1, 0]) (f := dv 2) (g := (d2 jp (d1 qi4 (d2 ixD (d2 ixD (dv 2) (dv 0)) (ret (.int 1)))) (d2 uO (dv 1) (d2 ixD (d2 ixD (dv 2) (dv 0)) (ret (.int 0)))))) (U := [S, P, L]) (U1 := [S, P, L]) rfl h64 (cs := [.int (zS ks : Nat), .tup (ks.map tK)]) rfl hks
  have hp2 : qfy (Srt.ord ((plN ks).map (qd7 ks))) ((plN ks).map fun i => D.int (i : Nat)) = (uc ks).map fun i => D.int (i : Nat) := by
   refine qg6 0 fun i hi => ?_
   have := (Srt.ord_perm _).mem_iff.mp hi
   rw [lM_] at this
   exact mR_.mp this
  rw [hp2] at hk
  exact hk
theorem qpi (w g m : Nat) : ixD (tK (w, g, some m)) (.int 2) = some (.int (m : Nat)) := rfl
theorem qkR (w g m r : Nat) : d2 ixD (dv 0) (ret (.int 2)) [some (tK (w, g, some m)), some (.int (r : Nat))] = .ok (.int (m : Nat), [some (tK (w, g, some m)), some (.int (r : Nat))]) := qi rfl rfl (qpi w g m)
theorem qmY (w g m r : Nat) : d2 qjW (d2 ixD (dv 0) (ret (.int 2))) (ret .non) [some (tK (w, g, some m)), some (.int (r : Nat))] = .ok (.bl true, [some (tK (w, g, some m)), some (.int (r : Nat))]) := qi (qkR w g m r) rfl rfl
theorem qju (w g m r : Nat) (h : w <= Mx) : d2 jp (d2 ixD (dv 0) (ret (.int 2))) (d2 ixD (dv 0) (ret (.int 0))) [some (tK (w, g, some m)), some (.int (r : Nat))] = .ok (.int ((m * w : Nat) : Int), [some (tK (w, g, some m)), some (.int (r : Nat))]) := qi (qkR w g m r) (qi rfl rfl (tk0 (w, g, some m))) (jQ m h)
theorem qn3 (w g m r : Nat) (h : w <= Mx) : d2 leD (d2 jp (d2 ixD (dv 0) (ret (.int 2))) (d2 ixD (dv 0) (ret (.int 0)))) (dv 1) [some (tK (w, g, some m)), some (.int (r : Nat))] = .ok (.bl (decide (m * w <= r)), [some (tK (w, g, some m)), some (.int (r : Nat))]) := qi (qju w g m r h) rfl (leN _ _)
theorem qmZ (w g m r : Nat) (h : w <= Mx) (hr : m * w <= r) : d2 qiT (dv 1) (d2 jp (d2 ixD (dv 0) (ret (.int 2))) (d2 ixD (dv 0) (ret (.int 0)))) [some (tK (w, g, some m)), some (.int (r : Nat))] = .ok (.int ((r - m * w : Nat) : Int), [some (tK (w, g, some m)), some (.int (r : Nat))]) := by
 refine qi rfl (qju w g m r h) ?_
 rw [qcm]
 congr 2
 omega
theorem qkS (w g r : Nat) : d2 qjW (d2 ixD (dv 0) (ret (.int 2))) (ret .non) [some (tK (w, g, none)), some (.int (r : Nat))] = .ok (.bl false, [some (tK (w, g, none)), some (.int (r : Nat))]) := qi (qi rfl rfl (tk2 (w, g, none))) rfl rfl
theorem qoD (w g m r : Nat) : goN (w, g, some m) r = decide (m * w <= r) := rfl
theorem qn4 (w g r : Nat) : goN (w, g, none) r = false := rfl
theorem uA {x : Nk} (h : x.1 <= Mx) (r : Nat) : zA [tK x, .int (r : Nat)] = .ok (.bl (goN x r)) := by
 obtain ⟨w, g, m⟩ := x
 unfold zA wv
 cases m with
 | none =>
  rw [qn4]
  exact yZ rfl ⟨[some (tK (w, g, none)), some (.int (r : Nat))], zQ (qph (qkS w g r))⟩
 | some m =>
  rw [qoD]
  exact yZ rfl ⟨[some (tK (w, g, some m)), some (.int (r : Nat))], zQ (qpg (qmY w g m r) (qn3 w g m r h))⟩
theorem qdz : Mx < big := by decide
theorem qn5 {x : Nk} {r : Nat} (h : goN x r = true) : shN x r = (mN x, 1) := by unfold shN; rw [h]; rfl
theorem qn6 {x : Nk} {r : Nat} (h : goN x r = false) : shN x r = (yz r x.1, yr r x.1) := by unfold shN; rw [h]; rfl
theorem qn7 {x : Nk} {r : Nat} (h : goN x r = true) : bhN x r = r - mN x * x.1 := by unfold bhN; rw [h]; rfl
theorem qn8 {x : Nk} {r : Nat} (h : goN x r = false) : bhN x r = 0 := by unfold bhN; rw [h]; rfl
theorem qbs {x : Nk} (h0 : 0 < x.1) (h : x.1 <= Mx) (r : Nat) : yh [tK x, .int (r : Nat)] = .ok (fr (shN x r)) := by
 have t := qZ (qQ (U := [some (tK x), some (.int (r : Nat))]) (f := dv 0) (g := dv 1) rfl rfl (uA h r))
 unfold yh vC
 cases hg : goN x r with
 | true =>
  rw [qn5 hg]
  rw [hg] at t
  obtain ⟨w, g, m⟩ := x
  cases m with
  | none => rw [qn4] at hg; cases hg
  | some m => exact yZ rfl ⟨[some (tK (w, g, some m)), some (.int (r : Nat))], zQ (qn1 t (qjm (qkR w g m r) rfl))⟩
 | false =>
  rw [qn6 hg]
  rw [hg] at t
  exact yZ rfl ⟨[some (tK x), some (.int (r : Nat))], zQ (qn2 t (qQ rfl (qi rfl rfl (tk0 x)) (jf r h0 (Nat.lt_of_le_of_lt h qdz))))⟩
theorem vh {x : Nk} (h : x.1 <= Mx) (r : Nat) : zk [tK x, .int (r : Nat)] = .ok (.int (bhN x r : Nat)) := by
 have t := qZ (qQ (U := [some (tK x), some (.int (r : Nat))]) (f := dv 0) (g := dv 1) rfl rfl (uA h r))
 unfold zk uW
 cases hg : goN x r with
 | true =>
  rw [qn7 hg]
  rw [hg] at t
  obtain ⟨w, g, m⟩ := x
  cases m with
  | none => rw [qn4] at hg; cases hg
  | some m =>
   rw [qoD] at hg
   exact yZ rfl ⟨[some (tK (w, g, some m)), some (.int (r : Nat))], zQ (qn1 t (qmZ w g m r h (of_decide_eq_true hg)))⟩
 | false =>
  rw [qn8 hg]
  rw [hg] at t
  exact yZ rfl ⟨[some (tK x), some (.int (r : Nat))], zQ (qn2 t rfl)⟩
theorem qpj (n : Nat) : (List.replicate n [D.tup [.int 0, .int 1]]).flatten = (List.replicate n ((0 : Nat), (1 : Nat))).map fr := by
 induction n with
 | zero => rfl
 | succ n ih => rw [rS_, List.flatten_cons, ih, rS_]; rfl
theorem qkT (n : Nat) (hn : n <= 12) : qku (.lst [.tup [.int 0, .int 1]]) (.int (n : Nat)) = some ((List.replicate n ((0 : Nat), (1 : Nat))).map fr) := by
 unfold qku
 have c0 : (2 : Int) ^ 62 = 4611686018427387904 := by decide
 have c1 : decide (-(2 ^ 62) <= ((n : Nat) : Int)) = true := decide_eq_true (by rw [c0]; omega)
 have c2 : decide (((n : Nat) : Int) < 2 ^ 62) = true := decide_eq_true (by rw [c0]; omega)
 have c3 : qO ([D.tup [.int 0, .int 1]].length * ((n : Nat) : Int).toNat) = true := yY (by rw [Int.toNat_natCast]; simp only [lC_, lN_]; omega)
 have c4 : immL [D.tup [.int 0, .int 1]] = true := rfl
 simp only [c1, c2, c3, c4, Bool.and_self, if_true]
 rw [Int.toNat_natCast, qpj]
theorem qkU {f g : M D} {U : Env} {x y : D} {ds : List D} (hf : f U = .ok (x, U)) (hg : g U = .ok (y, U)) (e : qku x y = some ds) : qmA f g U = .ok (ds, U) := by
 rw [qmC, hf]
 simp only [hg, e]
theorem qkV {i : Nat} {k f : M D} {U : Env} {L : List (Nat × Nat)} {q : Nat} {v : Nat × Nat} (hf : f U = .ok (fr v, U)) (hk : k U = .ok (.int (q : Nat), U)) (hL : zx i U = some (L.map fr)) (hq : q < L.length) : qdY i k f U = .ok (.nx (U.set i (some (.lst ((L.set q v).map fr))))) := by
 have e : ixN (L.map fr).length ((q : Nat) : Int) = some q := by
  unfold ixN
  rw [lM_, if_pos (by omega), if_pos (by omega), Int.toNat_natCast]
 have him : imm (fr v) = true := rfl
 rw [qd1, hf]
 simp only [hL, hk, e, him, if_true, List.map_set]
theorem yu {ks : List Nk} (hw : ∀ x ∈ ks, 0 < x.1) (hl : ks.length <= 12) (hp : zS ks <= Mx) (r : Nat) : zb [.tup (ks.map tK), .int (r : Nat)] = .ok (.tup ((shs ks r).map fr)) := by
 have hwM : ∀ x ∈ ks, x.1 <= Mx := fun x hx => Nat.le_trans (qaQ hw hx) hp
 let S : Option D := some (.tup (ks.map tK))
 let R0 : Option D := some (.int (r : Nat))
 let L0 : List (Nat × Nat) := List.replicate ks.length (0, 1)
 obtain ⟨U', q, o4, hlen, rfl⟩ := qbl (G := qF 4) (b := (qT (qdY 2 (dv 4) (qg yh (qd (d2 ixD (dv 0) (dv 4)) (qd (dv 3) (ret []))))) (zM 3 (qg zk (qd (d2 ixD (dv 0) (dv 4)) (qd (dv 3) (ret []))))))) (k := fun i : Nat => D.int (i : Nat)) (step := shS ks) (Inv := fun n s U => ∃ o4, s.2.length = ks.length /\ U = [S, R0, some (.lst (s.2.map fr)), some (.int (s.1 : Nat)), o4]) (uc ks) 0 (r, L0) [S, R0, some (.lst (L0.map fr)), R0, none] ⟨none, List.length_replicate, rfl⟩ (fun p hp' n s U _ _ => by
  rintro ⟨o4, hs, rfl⟩
  have hpl := (yA.mp hp').1
  have hx := jh hpl
  let U1 : Env := [S, R0, some (.lst (s.2.map fr)), some (.int (s.1 : Nat)), some (.int (p : Nat))]
  let U2 : Env := [S, R0, some (.lst ((s.2.set p (shN (nAt ks p) s.1)).map fr)), some (.int (s.1 : Nat)), some (.int (p : Nat))]
  refine ⟨U1, [S, R0, some (.lst ((s.2.set p (shN (nAt ks p) s.1)).map fr)), some (.int (bhN (nAt ks p) s.1 : Nat)), some (.int (p : Nat))], rfl, ?_, _, (lS_).trans hs, rfl⟩
  refine (qo (U' := U2) ?_).trans ?_
  ·exact qkV (U := U1) (i := 2) (qQ (qi rfl rfl (qdr hpl)) rfl (qbs (hw _ hx) (hwM _ hx) s.1)) rfl rfl (by rw [hs]; exact hpl)
  ·exact y0 (qQ (qi rfl rfl (qdr hpl)) rfl (vh (hwM _ hx) s.1)))
 unfold zb uX
 refine yZ rfl ⟨[S, R0, some (.lst ((shs ks r).map fr)), some (.int (((uc ks).foldl (shS ks) (r, L0)).1 : Nat)), o4], ?_⟩
 refine (qo (U' := [S, R0, none, none, none]) (ex1 rfl (zX _ (vR hw hl)))).trans ?_
 refine (qo (U' := [S, R0, none, none, none]) (ex1 rfl (zY r))).trans ?_
 refine (qo (U' := [S, R0, some (.lst (L0.map fr)), none, none]) ?_).trans ?_
 ·have a1 : qa3 (qd (ret (.tup [.int 0, .int 1])) (ret [])) [S, R0, none, none, none] = .ok (.lst [.tup [.int 0, .int 1]], [S, R0, none, none, none]) := by push_cast [yY (show 1 <= 1000000 by omega)]
  have a2 : jo qdT (qd (dv 0) (ret [])) [S, R0, none, none, none] = .ok (.int (ks.length : Nat), [S, R0, none, none, none]) := qdn rfl (by
   show some (D.int ((ks.map tK).length : Nat)) = _
   rw [lM_])
  rw [qcg, qkU a1 a2 (qkT ks.length hl)]
  rfl
 refine (qo (U' := [S, R0, some (.lst (L0.map fr)), R0, none]) rfl).trans ?_
 refine (qo (U' := [S, R0, some (.lst ((shs ks r).map fr)), some (.int (((uc ks).foldl (shS ks) (r, L0)).1 : Nat)), o4]) ?_).trans ?_
 ·have e0 : qbP (qg qU (qd (dv 0) (ret []))) [S, R0, some (.lst (L0.map fr)), R0, none] = .ok ((uc ks).map fun i => D.int (i : Nat), [S, R0, some (.lst (L0.map fr)), R0, none]) := by
   rw [qbg, qbW rfl (ur hw hl hp)]
   rfl
  rw [ve, e0]
  exact q
 ·rw [wM, qd2]
  rfl
theorem qiw (ks : List Nk) (l : List (Nat × Nat)) : qaO (ks.map tK) (l.map fr) = (ks.zip l).map fun z => D.tup [tK z.1, fr z.2] := by
 induction ks generalizing l with
 | nil => rfl
 | cons x ks ih =>
  cases l with
  | nil => rfl
  | cons y l => rw [mC_, mC_, List.zip_cons_cons, mC_, <- ih]; rfl
theorem jn {ks : List Nk} (hw : ∀ x ∈ ks, 0 < x.1) (hg : ∀ x ∈ ks, x.2.1 <= Mx) (hl : ks.length <= 12) (hp : zS ks <= Mx) (r : Nat) : qS [.tup (ks.map tK), .int (r : Nat)] = .ok (wT (swN ks r).1 (swN ks r).2) := by
 have hz := qeZ hw r
 let S : Option D := some (.tup (ks.map tK))
 let R0 : Option D := some (.int (r : Nat))
 have main : ∀ (l : List (Nk × Nat × Nat)) (s : Nat × Nat) (o3 o4 : Option D), (∀ z ∈ l, z ∈ ks.zip (shs ks r)) -> 0 < s.2 -> s.2 * zS (l.map (·.1)) <= Mx -> ∃ p3 p4, yf (qes 2 (jM (qF 3) (jM (qF 4) qdP))) (zM 2 (qg qao (qd (dv 2) (qd (qaL (qd (d2 jp (d2 ixD (dv 4) (ret (.int 0))) (d2 ixD (dv 3) (ret (.int 1)))) (qd (d2 ixD (dv 4) (ret (.int 1))) (ret [])))) (ret []))))) (l.map fun z => D.tup [tK z.1, fr z.2]) [S, R0, some (wT s.1 s.2), o3, o4] = .ok (.nx [S, R0, some (wT (l.foldl swS s).1 (l.foldl swS s).2), p3, p4]) := by
  intro l
  induction l with
  | nil => intro s o3 o4 _ _ _; exact ⟨o3, o4, rfl⟩
  | cons z l ih =>
   intro s o3 o4 hm hs hb
   have hzm := hm z mS_
   obtain ⟨z1, z2⟩ := hz z hzm
   have hzk : z.1 ∈ ks := (List.of_mem_zip (show (z.1, z.2) ∈ ks.zip (shs ks r) from hzm)).1
   have hlp : ∀ x ∈ l.map (·.1), 0 < x.1 := fun x hx => by
    obtain ⟨y, hy, rfl⟩ := mP_.mp hx
    exact hw _ (List.of_mem_zip (show (y.1, y.2) ∈ ks.zip (shs ks r) from hm y (mM _ hy))).1
   have hpp := qbm hlp
   rw [mC_, yH] at hb
   have hb2 : s.2 * z.2.2 * zS (l.map (·.1)) <= Mx := by
    refine Nat.le_trans ?_ hb
    rw [Nat.mul_assoc]
    exact Nat.mul_le_mul_left _ (Nat.mul_le_mul_right _ z2)
   have hsz : s.2 * z.2.2 <= Mx := Nat.le_trans (Nat.le_mul_of_pos_right _ hpp) hb2
   have hs1 : s.2 <= Mx := Nat.le_trans (Nat.le_mul_of_pos_right _ z1) hsz
   have hz3 : z.2.2 <= Mx := Nat.le_trans (Nat.le_mul_of_pos_left _ hs) hsz
   obtain ⟨l1, l2⟩ := vA s.1 hs
   obtain ⟨p3, p4, e⟩ := ih (swS s z) (some (tK z.1)) (some (fr z.2)) (fun y hy => hm y (mM _ hy)) (Nat.mul_pos hs z1) hb2
   refine ⟨p3, p4, ?_⟩
   rw [mC_, ji (U1 := [S, R0, some (wT s.1 s.2), some (tK z.1), some (fr z.2)]) (U2 := [S, R0, some (wT (swS s z).1 (swS s z).2), some (tK z.1), some (fr z.2)]) rfl ?_]
   ·exact e
   ·let U1 : Env := [S, R0, some (wT s.1 s.2), some (tK z.1), some (fr z.2)]
    have ea : qao [wT s.1 s.2, frD (z.2.1 * z.1.2.1) z.2.2] = .ok (wT (swS s z).1 (swS s z).2) := by
     have := qfG (t := yz s.1 s.2) (b := yr s.1 s.2) (u := z.2.1 * z.1.2.1) (c := z.2.2) hz3 (.inr (Nat.le_trans l2 hs1)) l1 z1 (Nat.lt_of_le_of_lt (Nat.le_trans (Nat.mul_le_mul_right _ l2) hsz) qdz)
     rw [qkI _ _ hs z1] at this
     exact this
    have et : qaL (qd (d2 jp (d2 ixD (dv 4) (ret (.int 0))) (d2 ixD (dv 3) (ret (.int 1)))) (qd (d2 ixD (dv 4) (ret (.int 1))) (ret []))) U1 = .ok (frD (z.2.1 * z.1.2.1) z.2.2, U1) :=
     qjm (qi (qi rfl rfl (qaG _ _)) (qi rfl rfl (tk1 _)) (jQ _ (hg _ hzk))) (qi rfl rfl (vy _ _))
    exact y0 (U := U1) (qQ rfl et ea)
 obtain ⟨p3, p4, q⟩ := main (ks.zip (shs ks r)) (0, 1) none none (fun _ h => h) Nat.one_pos (by rw [Nat.one_mul, qd8 (jT ks r)]; exact hp)
 unfold qS uY
 refine yZ rfl ⟨[S, R0, some (wT (swN ks r).1 (swN ks r).2), p3, p4], ?_⟩
 refine (qo (U' := [S, R0, some (wT 0 1), none, none]) rfl).trans ((qo (U' := [S, R0, some (wT (swN ks r).1 (swN ks r).2), p3, p4]) ?_).trans rfl)
 have e0 : (qi3 (qd (dv 0) (qd (qg zb (qd (dv 0) (qd (dv 1) (ret [])))) (ret [])))) [S, R0, some (wT 0 1), none, none] = .ok ((ks.zip (shs ks r)).map fun z => D.tup [tK z.1, fr z.2], [S, R0, some (wT 0 1), none, none]) := by
  rw [qda, qdo rfl (cp2 rfl rfl (yu hw hl hp r)), <- qiw]
  rfl
 rw [ve, e0]
 exact q
theorem qn9 {ks : List Nk} (hw : ∀ x ∈ ks, 0 < x.1) (hp : zS ks <= Mx) (r : Nat) : 0 < (swN ks r).2 /\ (swN ks r).2 <= Mx := by
 obtain ⟨a1, a2⟩ := qe0 (ks.zip (shs ks r)) (0, 1) (qeZ hw r) Nat.one_pos
 rw [Nat.one_mul, qd8 (jT ks r)] at a2
 exact ⟨a1, Nat.le_trans a2 hp⟩
theorem qaH {ks : List Nk} (hw : ∀ x ∈ ks, 0 < x.1) (hg : ∀ x ∈ ks, x.2.1 <= Mx) (hl : ks.length <= 12) (hp : zS ks <= Mx) (r : Nat) : zn [.tup (ks.map tK), .int (r : Nat)] = .ok (.int ((swN ks r).1 / (swN ks r).2 : Nat)) := by
 obtain ⟨s1, s2⟩ := qn9 hw hp r
 obtain ⟨l1, l2⟩ := vA (swN ks r).1 s1
 let S : Option D := some (.tup (ks.map tK))
 let R0 : Option D := some (.int (r : Nat))
 unfold zn u5
 refine yZ rfl ⟨[S, R0, some (wT (swN ks r).1 (swN ks r).2)], ?_⟩
 refine (qo (U' := [S, R0, some (wT (swN ks r).1 (swN ks r).2)]) (y0 (U1 := [S, R0, none]) (cx2 rfl rfl (jn hw hg hl hp r)))).trans ?_
 ·refine zQ ?_
  have := yg (yz (swN ks r).1 (swN ks r).2) l1 (Nat.lt_of_le_of_lt (Nat.le_trans l2 s2) (by decide))
  rw [qg8 _ s1] at this
  exact qi (qi rfl rfl (qaG _ _)) (qi rfl rfl (vy _ _)) this
theorem qpk {t : M Bool} {b : MS} {n : Nat} {U U1 U2 : Env} (h : t U = .ok (true, U1)) (hb : b U1 = .ok (.nx U2)) : yq t b (n + 1) U = yq t b n U2 := by
 show (match t U with | .ok (true, U1) => (match b U1 with | .ok (.nx U2) => yq t b n U2 | .ok (.ct U2) => yq t b n U2 | .ok (.bk U2) => .ok (.nx U2) | .ok (.rt d U2) => .ok (.rt d U2) | .exc x U2 => .exc x U2 | .bad => .bad) | .ok (false, U1) => .ok (.nx U1) | .exc x U1 => .exc x U1 | .bad => .bad) = _
 simp only [h, hb]
theorem qpl {t : M Bool} {b : MS} {n : Nat} {U U1 : Env} (h : t U = .ok (false, U1)) : yq t b (n + 1) U = .ok (.nx U1) := by
 show (match t U with | .ok (true, U1) => (match b U1 with | .ok (.nx U2) => yq t b n U2 | .ok (.ct U2) => yq t b n U2 | .ok (.bk U2) => .ok (.nx U2) | .ok (.rt d U2) => .ok (.rt d U2) | .exc x U2 => .exc x U2 | .bad => .bad) | .ok (false, U1) => .ok (.nx U1) | .exc x U1 => .exc x U1 | .bad => .bad) = _
 simp only [h]
theorem ne0 (n : Nat) : neB (.int (n : Nat)) (.int 0) = some (.bl (!decide (n = 0))) := by
 rw [uR]
 congr 2
 rw [<- decide_not, <- decide_not, decide_eq_decide]
 omega
theorem qkW : ∀ (b a : Nat), ∃ n, yq (tst (d2 neB (dv 1) (ret (.int 0)))) (qfN 0 1 (qd (dv 1) (qd (d2 qdS (dv 0) (dv 1)) (ret [])))) n [some (.int (a : Nat)), some (.int (b : Nat))] = .ok (.nx [some (.int (Nat.gcd a b : Nat)), some (.int 0)]) := by
 intro b
 induction b using Nat.strongRecOn with
 | _ b ih =>
  intro a
  by_cases h : 0 < b
  ·obtain ⟨n, q⟩ := ih (a % b) (Nat.mod_lt _ h) b
   refine ⟨n + 1, ?_⟩
   have t : tst (d2 neB (dv 1) (ret (.int 0))) [some (.int (a : Nat)), some (.int (b : Nat))] = .ok (true, [some (.int (a : Nat)), some (.int (b : Nat))]) := qZ (qi rfl rfl (by rw [ne0, decide_eq_false (by omega)]; rfl))
   have s : (qfN 0 1 (qd (dv 1) (qd (d2 qdS (dv 0) (dv 1)) (ret [])))) [some (.int (a : Nat)), some (.int (b : Nat))] = .ok (.nx [some (.int (b : Nat)), some (.int ((a % b : Nat) : Int))]) := by
    rw [qeF, qdo rfl (qi rfl rfl (qeY a h))]
    rfl
   have e : Nat.gcd a b = Nat.gcd b (a % b) := by
    rw [Nat.gcd_comm a b, Nat.gcd_rec b a, Nat.gcd_comm]
   rw [qpk t s, e]
   exact q
  ·have e : b = 0 := by omega
   subst e
   refine ⟨1, ?_⟩
   have t : tst (d2 neB (dv 1) (ret (.int 0))) [some (.int (a : Nat)), some (.int ((0 : Nat) : Int))] = .ok (false, [some (.int (a : Nat)), some (.int ((0 : Nat) : Int))]) := qZ (qi rfl rfl (by rw [ne0]; rfl))
   rw [qpl t, Nat.gcd_zero_right]
   rfl
theorem qaI (a b : Nat) : yB [.int (a : Nat), .int (b : Nat)] = .ok (.int (Nat.gcd a b : Nat)) := by
 unfold yB uZ
 obtain ⟨n, q⟩ := qkW b a
 refine yZ rfl ⟨[some (.int (Nat.gcd a b : Nat)), some (.int 0)], ?_⟩
 exact (qo (qdg q (by intro z; cases z))).trans rfl
theorem qcz (T : Nat) {B : Nat} (hB : 0 < B) (hb : B < big) : yR [.int (T : Nat), .int (B : Nat)] = .ok (wT T B) := by
 have hg : 0 < Nat.gcd T B := Nat.gcd_pos_of_pos_right _ hB
 have hg2 : Nat.gcd T B < big := Nat.lt_of_le_of_lt (Nat.gcd_le_right _ hB) hb
 unfold yR qap
 refine yZ rfl ⟨[some (.int (T : Nat)), some (.int (B : Nat)), some (.int (Nat.gcd T B : Nat))], ?_⟩
 refine (qo (U' := [some (.int (T : Nat)), some (.int (B : Nat)), some (.int (Nat.gcd T B : Nat))]) ?_).trans ?_
 ·show zM 2 _ [some (.int (T : Nat)), some (.int (B : Nat)), none] = _
  rw [qbf, qQ rfl rfl (qaI T B)]
  rfl
 ·rw [wM, qjm (qi rfl rfl (yg T hg hg2)) (qi rfl rfl (yg B hg hg2))]
  rfl
def iD (i : Nat) : D := .int (i : Nat)
theorem gtM (a b : Nat) : gtD (.int (a : Nat)) (.int (b : Nat)) = some (.bl (decide (b < a))) := by
 rw [vx]
 congr 2
 rw [decide_eq_decide]
 omega
section
variable {ks : List Nk} (hw : ∀ x ∈ ks, 0 < x.1) (hg : ∀ x ∈ ks, x.2.1 <= Mx) (hl : ks.length <= 12) (hp : zS ks <= Mx)
include hw hg hl hp
end
theorem qee (n : Nat) : List.range (n + 1) = 0 :: (List.range n).map (· + 1) := by
 rw [List.range_succ_eq_map]
section
variable {ks : List Nk} (hw : ∀ x ∈ ks, 0 < x.1) (hg : ∀ x ∈ ks, x.2.1 <= Mx) (hl : ks.length <= 12) (hp : zS ks <= Mx)
include hw hg hl hp
end
def smN (x : Nk) : Prop := 0 < x.1 /\ x.1 <= 25 /\ x.2.1 <= 39 /\ ∀ m, x.2.2 = some m -> m <= 5
theorem qdA : ∀ ks : List D, (∀ k ∈ ks, zP k) -> ∃ ns : List Nk, ks = ns.map tK /\ ns.length = ks.length /\ ∀ x ∈ ns, smN x
 | [], _ => ⟨[], rfl, rfl, fun x hx => by cases hx⟩
 | k :: ks, h => by
  obtain ⟨ns, e1, e2, e3⟩ := qdA ks fun x hx => h x (mM _ hx)
  obtain ⟨a, b, m, rfl, h1, h2, h3, h4, hm⟩ := h k mS_
  have hm2 : ∃ y : Option Nat, m = mD (y.map fun m : Nat => (m : Int)) /\ ∀ j, y = some j -> j <= 5 := by
   rcases hm with rfl | ⟨j, rfl, j0, j1⟩
   ·exact ⟨none, rfl, fun j e => by cases e⟩
   ·refine ⟨some j.toNat, ?_, fun i e => by cases e; omega⟩
    show D.int j = D.int (j.toNat : Nat)
    rw [Int.toNat_of_nonneg j0]
  obtain ⟨y, rfl, hy⟩ := hm2
  refine ⟨(a.toNat, b.toNat, y) :: ns, ?_, by rw [lC_, lC_, e2], fun x hx => ?_⟩
  ·rw [mC_, <- e1]
   congr 1
   show D.tup [.int a, .int b, _] = D.tup [.int (a.toNat : Nat), .int (b.toNat : Nat), _]
   rw [Int.toNat_of_nonneg (by omega : 0 <= a), Int.toNat_of_nonneg h3]
   rfl
  ·rcases List.mem_cons.mp hx with rfl | hx
   ·exact ⟨by show 0 < a.toNat; omega, by show a.toNat <= 25; omega, by show b.toNat <= 39; omega, hy⟩
   ·exact e3 x hx
theorem qhk : ∀ (ks : List Nk) (n : Nat), (∀ x ∈ ks, x.1 <= 25) -> ks.length <= n -> zS ks <= 25 ^ n
 | [], n, _, _ => Nat.one_le_pow n 25 (by decide)
 | x :: ks, n, h, hl => by
  rw [lC_] at hl
  obtain ⟨m, rfl⟩ : ∃ m, n = m + 1 := ⟨n - 1, by omega⟩
  rw [yH, Nat.pow_succ, Nat.mul_comm]
  exact Nat.mul_le_mul (qhk ks m (fun y hy => h y (mM _ hy)) (by omega)) (h x mS_)
structure Sm (ks : List Nk) : Prop where
 w : ∀ x ∈ ks, 0 < x.1
 g : ∀ x ∈ ks, x.2.1 <= Mx
 l : ks.length <= 12
 p : zS ks <= Mx
theorem Sm.of {ks : List Nk} (h : ∀ x ∈ ks, smN x) (hl : ks.length <= 12) : Sm ks :=
 ⟨fun x hx => (h x hx).1, fun x hx => Nat.le_trans (h x hx).2.2.1 (by decide), hl, Nat.le_trans (qhk ks 12 (fun x hx => (h x hx).2.1) hl) (by decide)⟩
theorem jL {n m : Int} (h0 : 0 < m) (h1 : m < 1606938044258990275541962092341162602522202993782792835301376) : ql [.int n] [.int m] = .ok (.int (n % m), [.int (n / m)]) := by
 unfold ql
 refine qgC (U := [some (.lst [.int (n / m)]), some (.int m), some (.int (n / m)), some (.int (n % m))]) rfl ?_ rfl
 unfold u3
 refine (qo (U' := [some (.lst [.int n]), some (.int m), some (.int (n / m)), some (.int (n % m))]) ?_).trans ?_
 ·push_cast [at0, qgX h0 h1, qes, jM, qF, qdP, Option.bind_some]
 ·refine (qo (U' := [some (.lst [.int (n / m)]), some (.int m), some (.int (n / m)), some (.int (n % m))]) ?_).trans rfl
  push_cast [qpc, imm]
theorem qfH (n : Int) (c : D) : ∃ a b m n', zr [.int n] [c] = .ok (.tup [.int a, .int b, m], [.int n']) /\ 1 <= a /\ a <= 25 /\ 0 <= b /\ b <= 39 /\ qkC c m := by
 have s2 : ∀ n k : Int, ∃ n' a b, (qfN 3 4 (qd (d2 ue (ret (.int 1)) (qz ql 0 (qd (ret (.int 7)) (ret [])))) (qd (qz ql 0 (qd (ret (.int 10)) (ret []))) (ret [])))) [some (.lst [.int n]), some c, some (.int k), none, none, none] = .ok (.nx [some (.lst [.int n']), some c, some (.int k), some (.int a), some (.int b), none]) /\ 1 <= a /\ a <= 7 /\ 0 <= b /\ b <= 9 := by
  intro n k
  refine ⟨n / 7 / 10, 1 + n % 7, n / 7 % 10, ?_, by omega, by omega, by omega, by omega⟩
  push_cast [jL (m := 7) (by decide) (by decide), jL (m := 10) (by decide) (by decide), ui]
 have s3 : ∀ n k a b : Int, 1 <= a -> a <= 7 -> 0 <= b -> b <= 9 -> ∃ b', (sif (tst (d2 eqB (dv 2) (ret (.int 1)))) (zM 4 (d2 jp (ret (.int 2)) (dv 3))) uL) [some (.lst [.int n]), some c, some (.int k), some (.int a), some (.int b), none] = .ok (.nx [some (.lst [.int n]), some c, some (.int k), some (.int a), some (.int b'), none]) /\ 0 <= b' /\ b' <= 14 := by
  intro n k a b h1 h2 h3 h4
  by_cases hk : k = 1
  ·refine ⟨2 * a, ?_, by omega, by omega⟩
   push_cast [hk, qpd]
  ·refine ⟨b, ?_, by omega, by omega⟩
   push_cast [hk]
 have s4 : ∀ n k a b : Int, 1 <= a -> a <= 7 -> 0 <= b -> b <= 14 -> ∃ n' b', (sif (tst (d2 eqB (dv 2) (ret (.int 2)))) (zM 4 (d2 ue (dv 3) (qz ql 0 (qd (ret (.int 3)) (ret []))))) uL) [some (.lst [.int n]), some c, some (.int k), some (.int a), some (.int b), none] = .ok (.nx [some (.lst [.int n']), some c, some (.int k), some (.int a), some (.int b'), none]) /\ 0 <= b' /\ b' <= 14 := by
  intro n k a b h1 h2 h3 h4
  by_cases hk : k = 2
  ·refine ⟨n / 3, a + n % 3, ?_, by omega, by omega⟩
   push_cast [hk, ui, jL (m := 3) (by decide) (by decide)]
  ·refine ⟨n, b, ?_, by omega, by omega⟩
   push_cast [hk]
 have s5 : ∀ n k a b : Int, 1 <= a -> a <= 7 -> 0 <= b -> b <= 14 -> ∃ n' a' b', (sif (tst (d2 eqB (dv 2) (ret (.int 3)))) (qfN 3 4 (qd (d2 ue (ret (.int 1)) (qz ql 0 (qd (ret (.int 25)) (ret [])))) (qd (qz ql 0 (qd (ret (.int 40)) (ret []))) (ret [])))) uL) [some (.lst [.int n]), some c, some (.int k), some (.int a), some (.int b), none] = .ok (.nx [some (.lst [.int n']), some c, some (.int k), some (.int a'), some (.int b'), none]) /\ 1 <= a' /\ a' <= 25 /\ 0 <= b' /\ b' <= 39 := by
  intro n k a b h1 h2 h3 h4
  by_cases hk : k = 3
  ·refine ⟨n / 25 / 40, 1 + n % 25, n / 25 % 40, ?_, by omega, by omega, by omega, by omega⟩
   push_cast [hk, ui, jL (m := 25) (by decide) (by decide), jL (m := 40) (by decide) (by decide)]
  ·refine ⟨n, a, b, ?_, by omega, by omega, by omega, by omega⟩
   push_cast [hk]
 have s6 : ∀ n k a b : Int, ∃ n' m, (zM 5 (d2 ixD (qa3 (qd (ret (.int 1)) (qd (ret (.int 1)) (qd (ret (.int 1)) (qd (ret (.int 2)) (qd (ret (.int 3)) (qd (ret (.int 0)) (qd (ret (.int 5)) (qd (dv 1) (ret [])))))))))) (qz ql 0 (qd (ret (.int 8)) (ret []))))) [some (.lst [.int n]), some c, some (.int k), some (.int a), some (.int b), none] = .ok (.nx [some (.lst [.int n']), some c, some (.int k), some (.int a), some (.int b), some m]) /\ qkC c m := by
  intro n k a b
  obtain ⟨m, hm, e⟩ := qgY (ds := [.int 1, .int 1, .int 1, .int 2, .int 3, .int 0, .int 5, c]) (k := n % 8) (by omega) (by simp; omega)
  refine ⟨n / 8, m, ?_, ?_⟩
  ·push_cast [jL (m := 8) (by decide) (by decide), yY (show 8 <= 1000000 by omega), e]
  ·simp only [List.mem_cons, nN_, or_false] at hm
   rcases hm with h | h | h | h | h | h | h | h
   ·exact .inr ⟨_, h, by omega, by omega⟩
   ·exact .inr ⟨_, h, by omega, by omega⟩
   ·exact .inr ⟨_, h, by omega, by omega⟩
   ·exact .inr ⟨_, h, by omega, by omega⟩
   ·exact .inr ⟨_, h, by omega, by omega⟩
   ·exact .inr ⟨_, h, by omega, by omega⟩
   ·exact .inr ⟨_, h, by omega, by omega⟩
   ·exact .inl h
 obtain ⟨n2, a2, b2, e2, p2, q2, r2, t2⟩ := s2 (n / 6) (n % 6)
 obtain ⟨b3, e3, r3, t3⟩ := s3 n2 (n % 6) a2 b2 p2 q2 r2 t2
 obtain ⟨n4, b4, e4, r4, t4⟩ := s4 n2 (n % 6) a2 b3 p2 q2 r3 t3
 obtain ⟨n5, a5, b5, e5, p5, q5, r5, t5⟩ := s5 n4 (n % 6) a2 b4 p2 q2 r4 t4
 obtain ⟨n6, m, e6, g6⟩ := s6 n5 (n % 6) a5 b5
 refine ⟨a5, b5, m, n6, ?_, p5, q5, r5, t5, g6⟩
 unfold zr
 refine qgC (U := [some (.lst [.int n6]), some c, some (.int (n % 6)), some (.int a5), some (.int b5), some m]) rfl ?_ rfl
 unfold j9
 refine (qo (U' := [some (.lst [.int (n / 6)]), some c, some (.int (n % 6)), none, none, none]) ?_).trans ?_
 ·push_cast [jL (m := 6) (by decide) (by decide)]
 refine (qo e2).trans ?_
 refine (qo e3).trans ?_
 refine (qo e4).trans ?_
 refine (qo e5).trans ?_
 refine (qo e6).trans ?_
 push_cast [yY (show 3 <= 1000000 by omega)]
theorem qfI (n : Int) (ks : List D) (o4 o5 : Option D) (h : ∀ k ∈ ks, zP k) (hl : ks.length <= 6) : ∃ n' k', zP k' /\ (qT (zM 5 (qz zr 0 (qd (dv 2) (ret [])))) (qT (sif (qcY (tst (qi2 3 (qa3 (ret [])))) (tst (d2 eqB (qz ql 0 (qd (ret (.int 7)) (ret []))) (ret (.int 6))))) (zM 5 (qey 3 (qz ql 0 (qd (qc7 3) (ret []))))) uL) (yc (wm 3 (dv 5))))) [some (.lst [.int n]), some (.int 6), some .non, some (.lst ks), o4, o5] = .ok (.nx [some (.lst [.int n']), some (.int 6), some .non, some (.lst (ks ++ [k'])), o4, some k']) := by
 obtain ⟨a, b, m, n1, e1, p1, p2, p3, p4, p5⟩ := qfH n .non
 have gk : zP (.tup [.int a, .int b, m]) := ⟨a, b, m, rfl, p1, p2, p3, p4, p5⟩
 obtain ⟨b0, eb, hb⟩ := qd6 h
 have s1 : (zM 5 (qz zr 0 (qd (dv 2) (ret [])))) [some (.lst [.int n]), some (.int 6), some .non, some (.lst ks), o4, o5] = .ok (.nx [some (.lst [.int n1]), some (.int 6), some .non, some (.lst ks), o4, some (.tup [.int a, .int b, m])]) := by
  push_cast [e1]
 have s2 : ∃ n' k', zP k' /\ (sif (qcY (tst (qi2 3 (qa3 (ret [])))) (tst (d2 eqB (qz ql 0 (qd (ret (.int 7)) (ret []))) (ret (.int 6))))) (zM 5 (qey 3 (qz ql 0 (qd (qc7 3) (ret []))))) uL) [some (.lst [.int n1]), some (.int 6), some .non, some (.lst ks), o4, some (.tup [.int a, .int b, m])] = .ok (.nx [some (.lst [.int n']), some (.int 6), some .non, some (.lst ks), o4, some k']) := by
  cases b0 with
  | false =>
   refine ⟨n1, _, gk, ?_⟩
   push_cast [eb, yY (show 0 <= 1000000 by omega)]
  | true =>
   have hne := hb rfl
   have hpos : 0 < ks.length := List.length_pos_iff.mpr hne
   by_cases h6 : n1 % 7 = 6
   ·obtain ⟨k', hk', e⟩ := qmS (ds := ks) (k := n1 / 7 % (ks.length : Int)) (Int.emod_nonneg _ (by omega)) (Int.emod_lt_of_pos _ (by omega))
    refine ⟨n1 / 7 / (ks.length : Int), k', h k' hk', ?_⟩
    push_cast [eb, yY (show 0 <= 1000000 by omega), jL (m := 7) (by decide) (by decide), h6, jL (m := (ks.length : Int)) (by omega) (by omega), e]
   ·refine ⟨n1 / 7, _, gk, ?_⟩
    push_cast [eb, yY (show 0 <= 1000000 by omega), jL (m := 7) (by decide) (by decide), h6]
 obtain ⟨n2, k', gk', e2⟩ := s2
 refine ⟨n2, k', gk', ?_⟩
 refine (qo s1).trans ((qo e2).trans ?_)
 push_cast [gk'.imm, yY (show ks.length + 1 <= 1000000 by omega), Bool.and_self]
theorem qb0 : ∀ (ds : List D) (n : Int) (ks : List D) (o4 o5 : Option D), (∀ k ∈ ks, zP k) -> ks.length + ds.length <= 6 ->
  ∃ n' ks' o4' o5', yf (qF 4) (qT (zM 5 (qz zr 0 (qd (dv 2) (ret [])))) (qT (sif (qcY (tst (qi2 3 (qa3 (ret [])))) (tst (d2 eqB (qz ql 0 (qd (ret (.int 7)) (ret []))) (ret (.int 6))))) (zM 5 (qey 3 (qz ql 0 (qd (qc7 3) (ret []))))) uL) (yc (wm 3 (dv 5))))) ds [some (.lst [.int n]), some (.int 6), some .non, some (.lst ks), o4, o5] = .ok (.nx [some (.lst [.int n']), some (.int 6), some .non, some (.lst ks'), o4', o5']) /\ (∀ k ∈ ks', zP k) /\ ks'.length <= 6
 | [], n, ks, o4, o5, h, hl => ⟨n, ks, o4, o5, rfl, h, by simpa using hl⟩
 | d :: ds, n, ks, o4, o5, h, hl => by
  have hl' : ks.length + (ds.length + 1) <= 6 := hl
  obtain ⟨n1, k', gk, e⟩ := qfI n ks (some d) o5 h (by omega)
  obtain ⟨n', ks', o4', o5', q, g, l⟩ := qb0 ds n1 (ks ++ [k']) (some d) (some k') (fun x hx => (mA_.mp hx).elim (h x) fun hx => by
   rw [List.mem_singleton] at hx; subst hx; exact gk) (by rw [lA_, List.length_singleton]; omega)
  refine ⟨n', ks', o4', o5', ?_, g, l⟩
  unfold yf
  simp only [qF, List.set_cons_zero, List.set_cons_succ, e]
  exact q
theorem qfJ (n : Int) : ∃ ks n', yb [.int n] [.int 6, .non] = .ok (.tup ks, [.int n']) /\ (∀ k ∈ ks, zP k) /\ ks.length <= 6 := by
 obtain ⟨n', ks', o4', o5', q, g, l⟩ := qb0 (qb9 0 (n % 7).toNat) (n / 7) [] none none (fun _ h => by cases h) (by rw [qim]; simp; omega)
 refine ⟨ks', n', ?_, g, l⟩
 unfold yb
 refine qgC (U := [some (.lst [.int n']), some (.int 6), some .non, some (.lst ks'), o4', o5']) rfl ?_ rfl
 unfold ya
 refine (qo (U' := [some (.lst [.int n]), some (.int 6), some .non, some (.lst []), none, none]) ?_).trans ?_
 ·push_cast [immL, yY (show 0 <= 1000000 by omega), Bool.and_self]
 refine (qo (U' := [some (.lst [.int n']), some (.int 6), some .non, some (.lst ks'), o4', o5']) ?_).trans ?_
 ·rw [ve, vQ (j := n % 7) (U1 := [some (.lst [.int (n / 7)]), some (.int 6), some .non, some (.lst []), none, none]) ?_ (by omega) (by omega)]
  ·exact q
  ·push_cast [ui, jL (m := 7) (by decide) (by decide), Int.reduceAdd]
 ·push_cast []
theorem qkX (ns : List Int) (i : Int) (h0 : 0 <= i) : ∃ x, j7 [.fz ns, .int i] = .ok (.int x) := by
 by_cases h : i < ns.length
 ·obtain ⟨j, rfl⟩ := Int.eq_ofNat_of_zero_le h0
  have hj : j < ns.length := by omega
  have e : ixD (.fz ns) (.int (j : Int)) = some (.int ns[j]) := by
   show (atI ns (j : Int)).map D.int = _
   unfold atI ixN
   rw [if_pos (by omega), if_pos (by omega)]
   show (ns[(j : Int).toNat]?).map D.int = _
   rw [Int.toNat_natCast, gG hj]; rfl
  refine ⟨ns[j], ?_⟩
  unfold j7 va
  refine yZ rfl ⟨[some (.fz ns), some (.int (j : Int))], ?_⟩
  refine (uh (d := .int ns[j]) (U' := [some (.fz ns), some (.int (j : Int))]) ?_)
  push_cast [e, qdT, h]
 ·refine ⟨0, ?_⟩
  unfold j7 va
  refine yZ rfl ⟨[some (.fz ns), some (.int i)], ?_⟩
  refine (qo (U' := [some (.fz ns), some (.int i)]) ?_).trans rfl
  push_cast [qdT, h]
theorem qm0 (x j : Int) (h0 : 0 <= j) (h1 : j < 40) : ∃ v, yT [.int x, .int j] = .ok (.int v) := by
 obtain ⟨m, hm, e⟩ := qgY (ds := [.int 48271, .int 69621, .int 16807, .int 39373, .int 30269, .int 40014, .int 40692, .int 50021, .int 61687, .int 71993, .int 83869, .int 95561, .int 30307]) (k := j % 13) (by omega) (by simp; omega)
 have hm2 : ∃ c, m = .int c /\ yd c = true := by
  have : m ∈ facts.map D.int := hm
  obtain ⟨c, hc, rfl⟩ := mP_.mp this
  exact ⟨c, rfl, List.all_eq_true.mp (show facts.all yd = true by decide) c hc⟩
 obtain ⟨c, rfl, hc⟩ := hm2
 have f3 : ∀ s : Int, yd (s % 1000000007) = true := fun s => qkD (by omega) (by omega)
 have f977 : yd 977 = true := by decide
 have f79 : yd 7919 = true := by decide
 have f48 : yd 48271 = true := by decide
 let L : D := .lst [.int 48271, .int 69621, .int 16807, .int 39373, .int 30269, .int 40014, .int 40692, .int 50021, .int 61687, .int 71993, .int 83869, .int 95561, .int 30307]
 let s1 : Int := (x % 2147483647 + 12345) * c + 977 * j + 7919 * (j / 13)
 let s2 : Int := s1 % 1000000007
 refine ⟨(s2 * s2 + 48271 * j) % 1000000007 / 7, ?_⟩
 unfold yT qav
 refine yZ rfl ⟨[some (.int x), some (.int j), some L, some (.int s2)], ?_⟩
 refine (qo (U' := [some (.int x), some (.int j), some L, none]) ?_).trans ?_
 ·push_cast [yY (show 13 <= 1000000 by omega)]
  rfl
 refine (qo (U' := [some (.int x), some (.int j), some L, some (.int s1)]) ?_).trans ?_
 ·push_cast [L, uT (j := 2147483647) (by decide), uT (j := 13) (by decide), ui, e, qin hc, qgZ f977, qgZ f79, wS (j := 13) (by decide) (by decide)]
  rfl
 refine (qo (U' := [some (.int x), some (.int j), some L, some (.int s2)]) ?_).trans ?_
 ·push_cast [uT (j := 1000000007) (by decide), s2]
 ·push_cast [uT (j := 1000000007) (by decide), s2, ui, qgZ (f3 _), qgZ f48, wS (j := 7) (by decide) (by decide)]
theorem qe8 (A B : Option D) (x : Int) : ∀ (ds : List D) (s : Int) (o : Option D), (∀ d ∈ ds, ∃ j : Int, d = .int j /\ 0 <= j /\ j < 40) -> ∃ s' o', yf (qF 4) (zM 3 (d2 ue (d2 jp (dv 3) (ret (.int 142857143))) (qg yT (qd (dv 2) (qd (dv 4) (ret [])))))) ds [A, B, some (.int x), some (.int s), o] = .ok (.nx [A, B, some (.int x), some (.int s'), o'])
 | [], s, o, _ => ⟨s, o, rfl⟩
 | d :: ds, s, o, h => by
  obtain ⟨j, rfl, h0, h1⟩ := h d mS_
  obtain ⟨v, e⟩ := qm0 x j h0 h1
  obtain ⟨s', o', q⟩ := qe8 A B x ds (s * 142857143 + v) (some (.int j)) fun y hy => h y (mM _ hy)
  refine ⟨s', o', ?_⟩
  have st : (zM 3 (d2 ue (d2 jp (dv 3) (ret (.int 142857143))) (qg yT (qd (dv 2) (qd (dv 4) (ret [])))))) [A, B, some (.int x), some (.int s), some (.int j)] = .ok (.nx [A, B, some (.int x), some (.int (s * 142857143 + v)), some (.int j)]) := by
   push_cast [e, qin (j := 142857143) (by decide), ui]
  unfold yf
  simp only [qF, List.set_cons_zero, List.set_cons_succ, st]
  exact q
theorem qm1 (ns : List Int) (i : Int) (h0 : 0 <= i) : ∃ n, uK [.fz ns, .int i] = .ok (.lst [.int n]) := by
 obtain ⟨x, e⟩ := qkX ns i h0
 have s1 : (zM 2 (qg j7 (qd (dv 0) (qd (dv 1) (ret []))))) [some (.fz ns), some (.int i), none, none, none] = .ok (.nx [some (.fz ns), some (.int i), some (.int x), none, none]) := by
  push_cast [e]
 by_cases hx : x % 2 = 0
 ·refine ⟨(if x < 0 then -x else x) / 2, ?_⟩
  unfold uK vZ
  refine yZ rfl ⟨[some (.fz ns), some (.int i), some (.int x), none, none], ?_⟩
  refine (qo s1).trans (uh ?_)
  push_cast [uT (j := 2) (by decide), hx, qnd, wS (j := 2) (by decide) (by decide), yY (show 1 <= 1000000 by omega)]
 ·obtain ⟨s', o', q⟩ := qe8 (some (.fz ns)) (some (.int i)) x (qb9 0 40) 0 none fun d hd => by
   unfold qb9 at hd
   obtain ⟨k, hk, rfl⟩ := mP_.mp hd
   have hk' := mR_.mp hk
   exact ⟨_, rfl, by omega, by omega⟩
  refine ⟨s', ?_⟩
  unfold uK vZ
  refine yZ rfl ⟨[some (.fz ns), some (.int i), some (.int x), some (.int s'), o'], ?_⟩
  refine (qo s1).trans ?_
  refine (qo (U' := [some (.fz ns), some (.int i), some (.int x), none, none]) ?_).trans ?_
  ·push_cast [uT (j := 2) (by decide), hx]
  refine (qo (U' := [some (.fz ns), some (.int i), some (.int x), some (.int 0), none]) ?_).trans ?_
  ·push_cast []
  refine (qo (U' := [some (.fz ns), some (.int i), some (.int x), some (.int s'), o']) ?_).trans ?_
  ·rw [ve, vQ (j := 40) (U1 := [some (.fz ns), some (.int i), some (.int x), some (.int 0), none]) rfl (by omega) (by omega)]
   exact q
  ·push_cast [yY (show 1 <= 1000000 by omega)]
theorem qhl {G : D -> Env -> Option Env} {b : MS} {d v : D} {ds : List D} {U U1 U2 : Env} (h1 : G d U = some U1) (h2 : b U1 = .ok (.rt v U2)) : yf G b (d :: ds) U = .ok (.rt v U2) := by
 show (match G d U with | none => R.bad | some U1 => _) = _
 rw [h1]
 simp only [h2]
theorem yy {t : M Bool} {U : Env} {b : Bool} (h : t U = .ok (b, U)) : wX t U = .ok (!b, U) := by rw [qgv, h]
noncomputable def boB : MS := (qT (zM 5 (d2 qiT (d2 jp (d2 ixD (dv 4) (ret (.int 1))) (d2 ixD (dv 2) (ret (.int 1)))) (d2 jp (d2 ixD (dv 4) (ret (.int 0))) (d2 ixD (dv 2) (ret (.int 0)))))) (qT (sif (qcY (tst (d2 gtD (dv 5) (ret (.int 0)))) (tst (d2 isN (d2 ixD (dv 4) (ret (.int 2))) (ret .non)))) (z0 (ret .non)) uL) (sif (tst (d2 gtD (dv 5) (ret (.int 0)))) (zM 3 (d2 ue (dv 3) (d2 jp (dv 5) (d2 ixD (dv 4) (ret (.int 2)))))) uL)))
noncomputable def spB : MS := (qT (sif (wX (tst (qg zA (qd (d2 ixD (dv 0) (dv 3)) (qd (dv 2) (ret [])))))) (z0 (qg qR (qd (d2 ixD (d2 ixD (dv 0) (dv 3)) (ret (.int 1))) (qd (d2 ixD (d2 ixD (dv 0) (dv 3)) (ret (.int 0))) (ret []))))) uL) (zM 2 (qg zk (qd (d2 ixD (dv 0) (dv 3)) (qd (dv 2) (ret []))))))
def nO (n : Nat) : Option D := some (.int (n : Nat))
def bdD (b : Nat) : Option Nat -> D
 | none => .non
 | some T => wT T b
theorem qkY (w g t b : Nat) : gtD (.int (((g * b : Nat) : Int) - ((w * t : Nat) : Int))) (.int 0) = some (.bl (decide (w * t < g * b))) := by
 rw [vx]
 congr 2
 apply decide_eq_decide.mpr
 omega
theorem qix {x : Nk} {t b : Nat} (h : x.1 * t < x.2.1 * b) : (((x.2.1 * b : Nat) : Int) - ((x.1 * t : Nat) : Int)) = ((zF t b x : Nat) : Int) := by
 unfold zF
 omega
def StB (t b : Nat) (G : D -> Env -> Option Env) (B : MS) (E : Nat -> Env -> Prop) (x : Nk) (T : Nat) (U : Env) : Prop := ∃ U1, G (tK x) U = some U1 /\ (x.1 * t < x.2.1 * b -> x.2.2 = none -> ∃ U2, B U1 = .ok (.rt .non U2)) /\ (∀ m, x.1 * t < x.2.1 * b -> x.2.2 = some m -> ∃ U2, B U1 = .ok (.nx U2) /\ E (T + zF t b x * m) U2) /\ (¬ x.1 * t < x.2.1 * b -> ∃ U2, B U1 = .ok (.nx U2) /\ E T U2)
theorem qhm {t b : Nat} {G : D -> Env -> Option Env} {B : MS} {E : Nat -> Env -> Prop} : ∀ (l : List Nk) (T : Nat) (U : Env), (∀ x ∈ l, ∀ T U, E T U -> StB t b G B E x T U) -> E T U ->
  (∀ T', bdN t b l T = some T' -> ∃ U', yf G B (l.map tK) U = .ok (.nx U') /\ E T' U') /\ (bdN t b l T = none -> ∃ U', yf G B (l.map tK) U = .ok (.rt .non U'))
 | [], T, U, _, h => ⟨fun T' e => ⟨U, rfl, by cases (Option.some.inj (show some T = some T' from e)); exact h⟩, fun e => nomatch (show some T = none from e)⟩
 | x :: l, T, U, hs, h => by
  obtain ⟨U1, g, s1, s2, s3⟩ := hs x mS_ T U h
  have ih := fun T U => qhm l T U fun y hy => hs y (mM _ hy)
  have go : ∀ T1 U2, B U1 = .ok (.nx U2) -> E T1 U2 -> bdN t b (x :: l) T = bdN t b l T1 -> (∀ T', bdN t b (x :: l) T = some T' -> ∃ U', yf G B (tK x :: l.map tK) U = .ok (.nx U') /\ E T' U') /\ (bdN t b (x :: l) T = none -> ∃ U', yf G B (tK x :: l.map tK) U = .ok (.rt .non U')) := fun T1 U2 e1 e2 e3 => by
   rw [ji g e1, e3]
   exact ih T1 U2 e2
  rw [mC_]
  by_cases c : x.1 * t < x.2.1 * b
  ·cases e : x.2.2 with
   | none =>
    obtain ⟨U2, s⟩ := s1 c e
    have : bdN t b (x :: l) T = none := by unfold bdN; rw [if_pos c, e]
    rw [this]
    exact ⟨(fun T' h => nomatch h), fun _ => ⟨U2, qhl g s⟩⟩
   | some m =>
    obtain ⟨U2, s, h2⟩ := s2 m c e
    refine go _ U2 s h2 ?_
    conv => lhs; unfold bdN
    rw [if_pos c, e]
  ·obtain ⟨U2, s, h2⟩ := s3 c
   refine go _ U2 s h2 ?_
   conv => lhs; unfold bdN
   rw [if_neg c]
section
variable {t b : Nat} (ht : t <= Mx) (hb0 : 0 < b) (hb : b <= Mx)
include ht hb0 hb
theorem qkZ {U : Env} {i : Nat} {x : Nk} {f g : M D} (h : U[i]? = some (some (.int (((x.2.1 * b : Nat) : Int) - ((x.1 * t : Nat) : Int))))) : tst (d2 gtD (dv i) (ret (.int 0))) U = .ok (decide (x.1 * t < x.2.1 * b), U) := qZ (qi (by rw [qmp, h]) rfl (qkY _ _ _ _))
theorem qm2 {U : Env} {i j T : Nat} {x : Nk} {m : Nat} {f : M D} (c : x.1 * t < x.2.1 * b) (hm : m <= Mx) (h : U[i]? = some (some (.int (((x.2.1 * b : Nat) : Int) - ((x.1 * t : Nat) : Int))))) (h3 : dv 3 U = .ok (.int (T : Nat), U)) (hf : f U = .ok (.int (m : Nat), U)) : zM 3 (d2 ue (dv 3) (d2 jp (dv i) f)) U = .ok (.nx (U.set 3 (nO (T + zF t b x * m)))) := by
 rw [qix c] at h
 exact y0 (qi h3 (qi (by rw [qmp, h]) hf (jQ _ hm)) (qis _ _))
def bE (S R0 : Option D) (t b T : Nat) (U : Env) : Prop := ∃ o4 o5, U = [S, R0, some (frD t b), nO T, o4, o5]
theorem qk0 (S R0 : Option D) {x : Nk} (hm : ∀ m, x.2.2 = some m -> m <= Mx) (T : Nat) (U : Env) (h : bE S R0 t b T U) : StB t b (qF 4) boB (bE S R0 t b) x T U := by
 obtain ⟨o4, o5, rfl⟩ := h
 let M : Option D := some (.int (((x.2.1 * b : Nat) : Int) - ((x.1 * t : Nat) : Int)))
 let U0 : Env := [S, R0, some (frD t b), nO T, some (tK x), o5]
 let U : Env := [S, R0, some (frD t b), nO T, some (tK x), M]
 have e0 : (zM 5 (d2 qiT (d2 jp (d2 ixD (dv 4) (ret (.int 1))) (d2 ixD (dv 2) (ret (.int 1)))) (d2 jp (d2 ixD (dv 4) (ret (.int 0))) (d2 ixD (dv 2) (ret (.int 0)))))) U0 = .ok (.nx U) := y0 (qi (qi (qi rfl rfl (tk1 x)) (qi rfl rfl (vy t b)) (jQ _ hb)) (qi (qi rfl rfl (tk0 x)) (qi rfl rfl (qaG t b)) (jQ _ ht)) (qcm _ _))
 have eg := qkZ ht hb0 hb (U := U) (i := 5) (x := x) (f := dv 0) (g := dv 0) rfl
 have ei : tst (d2 isN (d2 ixD (dv 4) (ret (.int 2))) (ret .non)) U = .ok (yx (mD (x.2.2.map fun m : Nat => (m : Int))), U) := qZ (qi (qi rfl rfl (tk2 x)) rfl (qbU _))
 refine ⟨U0, rfl, fun h e => ⟨U, ?_⟩, fun m h e => ?_, fun h => ?_⟩
 ·rw [decide_eq_true h] at eg
  rw [e] at ei
  exact (qo e0).trans (uh ((qle (qg5 eg ei)).trans rfl))
 ·rw [decide_eq_true h] at eg
  rw [e] at ei
  refine ⟨_, (qo e0).trans ((qo (qdJ (qg5 eg ei))).trans ((qle eg).trans (qm2 ht hb0 hb (U := U) (j := 0) h (hm m e) rfl rfl (qi rfl rfl ?_)))), _, _, rfl⟩
  rw [tk2, e]
  rfl
 ·rw [decide_eq_false h] at eg
  exact ⟨U, (qo e0).trans ((qo (qdJ (qit eg))).trans (qdJ eg)), _, _, rfl⟩
theorem qcA {ks : List Nk} (hm : ∀ x ∈ ks, ∀ m, x.2.2 = some m -> m <= Mx) (r : Nat) : vW [.tup (ks.map tK), .int (r : Nat), frD t b] = .ok (bdD b (bdN t b ks (r * t))) := by
 let S : Option D := some (.tup (ks.map tK))
 obtain ⟨l1, l2⟩ := qhm ks (r * t) [S, nO r, some (frD t b), nO (r * t), none, none] (fun x hx T U h => qk0 ht hb0 hb S (nO r) (hm x hx) T U h) ⟨_, _, rfl⟩
 have e0 : (zM 3 (d2 jp (dv 1) (d2 ixD (dv 2) (ret (.int 0))))) [S, nO r, some (frD t b), none, none, none] = .ok (.nx [S, nO r, some (frD t b), nO (r * t), none, none]) := y0 (qi rfl (qi rfl rfl (qaG t b)) (jQ _ ht))
 unfold vW
 cases c : bdN t b ks (r * t) with
 | none =>
  obtain ⟨U, q⟩ := l2 c
  refine yZ rfl ⟨U, ?_⟩
  unfold vV
  exact (qo e0).trans (uh q)
 | some T =>
  obtain ⟨_, q, p4, p5, rfl⟩ := l1 T c
  refine yZ rfl ⟨[S, nO r, some (frD t b), nO T, p4, p5], ?_⟩
  unfold vV
  exact (qo e0).trans ((qo q).trans (zQ (qQ rfl (qi rfl rfl (vy t b)) (jf T hb0 (Nat.lt_of_le_of_lt hb qdz)))))
end
def vb : D -> Bool
 | .tup [.int t, .int b] => decide (0 <= t) && (decide (1 <= b) && decide (Nat.gcd t.toNat b.toNat = 1))
 | _ => false
theorem qiy {t b : Nat} (h : 0 < b) (g : Nat.gcd t b = 1) : vb (frD t b) = true := by
 show (decide (0 <= (t : Int)) && (decide (1 <= (b : Int)) && decide (Nat.gcd (t : Int).toNat (b : Int).toNat = 1))) = true
 rw [Int.toNat_natCast, Int.toNat_natCast, decide_eq_true g, decide_eq_true (show (0 : Int) <= t by omega), decide_eq_true (show (1 : Int) <= b by omega)]
 rfl
theorem qiz {ds : List D} (h : ds.length ≠ 2) : vb (.tup ds) = false := by
 match ds, h with
 | [], _ => rfl
 | [_], _ => simp [vb]
 | [_, _], h => exact absurd rfl h
 | _ :: _ :: _ :: _, _ => simp [vb]
theorem qpm {ds : List D} (h : ds.length = 2) : ∃ a b, ds = [a, b] := by
 match ds, h with
 | [a, b], _ => exact ⟨a, b, rfl⟩
theorem qoE (a b : D) : ixD (.tup [a, b]) (.int 0) = some a := rfl
theorem qoa (a b : D) : ixD (.tup [a, b]) (.int 1) = some b := rfl
theorem eq1 (n : Nat) : eqB (.int (n : Nat)) (.int 1) = some (.bl (decide (n = 1))) := by
 rw [qad]
 congr 2
 apply decide_eq_decide.mpr
 omega
theorem qcB (d : D) : vX [d] = .ok (.bl (vb d)) := by
 unfold vX qaq
 refine yZ rfl ⟨[some d], ?_⟩
 cases d with
 | tup ds =>
  by_cases h : ds.length = 2
  ·obtain ⟨a, b, rfl⟩ := qpm h
   let U : Env := [some (.tup [a, b])]
   refine (qo (U' := U) rfl).trans ?_
   have c1 : tst (qg qW (qd (d2 ixD (dv 0) (ret (.int 0))) (ret []))) U = .ok (zN a, U) := qZ (qbW (qi rfl rfl (qoE _ _)) (zB a))
   have c2 : tst (qg qW (qd (d2 ixD (dv 0) (ret (.int 1))) (ret []))) U = .ok (zN b, U) := qZ (qbW (qi rfl rfl (qoa _ _)) (zB b))
   cases ha : zN a with
   | false =>
    rw [ha] at c1
    have hp : vb (.tup [a, b]) = false := by
     cases a with
     | int i => cases b with
      | int j =>
       have : ¬ (0 : Int) <= i := fun z => by rw [show zN (.int i) = decide (0 <= i) from rfl, decide_eq_true z] at ha; cases ha
       show (decide (0 <= i) && _) = false
       rw [decide_eq_false this]
       rfl
      | _ => rfl
     | _ => rfl
    rw [hp]
    exact uh ((qle (qoA (yy c1))).trans rfl)
   | true =>
    rw [ha] at c1
    cases hb : zN b with
    | false =>
     rw [hb] at c2
     have hp : vb (.tup [a, b]) = false := by
      cases a with
      | int i => cases b with
       | int j =>
        have : ¬ (1 : Int) <= j := fun z => by rw [show zN (.int j) = decide (0 <= j) from rfl, decide_eq_true (show (0 : Int) <= j by omega)] at hb; cases hb
        show (decide (0 <= i) && (decide (1 <= j) && _)) = false
        rw [decide_eq_false this, Bool.false_and, Bool.and_false]
       | _ => rfl
      | _ => rfl
     rw [hp]
     have : tor (wX (tst (qg qW (qd (d2 ixD (dv 0) (ret (.int 0))) (ret []))))) (tor (wX (tst (qg qW (qd (d2 ixD (dv 0) (ret (.int 1))) (ret []))))) (tst (d2 eqB (d2 ixD (dv 0) (ret (.int 1))) (ret (.int 0))))) U = .ok (true, U) := by
      rw [qd0, yy c1]
      exact qoA (yy c2)
     exact uh ((qle this).trans rfl)
    | true =>
     rw [hb] at c2
     cases a with
     | int i => cases b with
      | int j =>
       have hi : 0 <= i := of_decide_eq_true ha
       have hj : 0 <= j := of_decide_eq_true hb
       have c3 : tst (d2 eqB (d2 ixD (dv 0) (ret (.int 1))) (ret (.int 0))) U = .ok (decide (j = 0), U) := qZ (qi (qi rfl rfl (qoa _ _)) rfl (qad _ _))
       by_cases hj0 : j = 0
       ·rw [decide_eq_true hj0] at c3
        have hp : vb (.tup [.int i, .int j]) = false := by
         show (decide (0 <= i) && (decide (1 <= j) && _)) = false
         rw [decide_eq_false (show ¬ (1 : Int) <= j by omega), Bool.false_and, Bool.and_false]
        rw [hp]
        exact uh ((qle (by rw [qd0, yy c1]; show tor _ _ _ = _; rw [qd0, yy c2]; exact c3)).trans rfl)
       ·rw [decide_eq_false hj0] at c3
        refine (qo (U' := U) (qdJ (qlf (yy c1) (qlf (yy c2) c3)))).trans ?_
        obtain ⟨m, rfl⟩ : ∃ m : Nat, i = (m : Int) := ⟨i.toNat, by omega⟩
        obtain ⟨n, rfl⟩ : ∃ n : Nat, j = (n : Int) := ⟨j.toNat, by omega⟩
        have hp : vb (.tup [.int (m : Nat), .int (n : Nat)]) = decide (Nat.gcd m n = 1) := by
         show (decide (0 <= (m : Int)) && (decide (1 <= (n : Int)) && decide (Nat.gcd (m : Int).toNat (n : Int).toNat = 1))) = _
         rw [decide_eq_true hi, decide_eq_true (show (1 : Int) <= n by omega), Int.toNat_natCast, Int.toNat_natCast]
         rfl
        rw [hp]
        exact zQ (qi (qQ (qi rfl rfl (qoE _ _)) (qi rfl rfl (qoa _ _)) (yo m n)) rfl (eq1 _))
      | _ => cases hb
     | _ => cases ha
  ·rw [qiz h]
   refine uh ?_
   have h3 : ¬ ((ds.length : Int) = 2) := by omega
   push_cast [vw, ug, uR, h3, decide_false, uf]
 | _ => rfl
theorem qhn {ks : List Nk} (hw : ∀ x ∈ ks, 0 < x.1) (hp : zS ks <= Mx) (R0 : Option D) : ∀ (l : List Nat) (r : Nat) (o3 : Option D), (∀ p ∈ l, p < ks.length) ->
  (∃ U, yf (qF 3) spB (l.map iD) [some (.tup (ks.map tK)), R0, some (.int (r : Nat)), o3] = .ok (.rt (fr (spN ks l r)) U)) \/ (spN ks l r = (0, 1) /\ ∃ U, yf (qF 3) spB (l.map iD) [some (.tup (ks.map tK)), R0, some (.int (r : Nat)), o3] = .ok (.nx U))
 | [], r, o3, _ => .inr ⟨rfl, _, rfl⟩
 | p :: l, r, o3, hl => by
  have hpl := hl p mS_
  have hx := jh hpl
  have hwp : (nAt ks p).1 <= Mx := Nat.le_trans (qaQ hw hx) hp
  let U : Env := [some (.tup (ks.map tK)), R0, some (.int (r : Nat)), some (iD p)]
  have eg : wX (tst (qg zA (qd (d2 ixD (dv 0) (dv 3)) (qd (dv 2) (ret []))))) U = .ok (!goN (nAt ks p) r, U) := yy (qZ (qQ (qi rfl rfl (qdr hpl)) rfl (uA hwp r)))
  rw [mC_]
  cases c : goN (nAt ks p) r with
  | true =>
   rw [c] at eg
   have e1 : spN ks (p :: l) r = spN ks l (bhN (nAt ks p) r) := by
    show (if goN (nAt ks p) r then _ else _) = _
    rw [if_pos c]
   rw [e1]
   have st : spB U = .ok (.nx [some (.tup (ks.map tK)), R0, some (.int (bhN (nAt ks p) r : Nat)), some (iD p)]) := (qo (qdJ eg)).trans (y0 (qQ (qi rfl rfl (qdr hpl)) rfl (vh hwp r)))
   rcases qhn hw hp R0 l (bhN (nAt ks p) r) (some (iD p)) fun y hy => hl y (mM _ hy) with ⟨U', q⟩ | ⟨e, U', q⟩
   ·exact .inl ⟨U', (ji (U1 := U) rfl st).trans q⟩
   ·exact .inr ⟨e, U', (ji (U1 := U) rfl st).trans q⟩
  | false =>
   rw [c] at eg
   have e1 : spN ks (p :: l) r = (yz (nAt ks p).2.1 (nAt ks p).1, yr (nAt ks p).2.1 (nAt ks p).1) := by
    show (if goN (nAt ks p) r then _ else _) = _
    rw [if_neg (by rw [c]; simp)]
   rw [e1]
   exact .inl ⟨U, qhl (U1 := U) rfl (uh ((qle eg).trans (zQ (qQ (qi (qi rfl rfl (qdr hpl)) rfl (tk1 _)) (qi (qi rfl rfl (qdr hpl)) rfl (tk0 _)) (jf _ (hw _ hx) (Nat.lt_of_le_of_lt hwp qdz))))))⟩
theorem qbt {ks : List Nk} (hw : ∀ x ∈ ks, 0 < x.1) (hl : ks.length <= 12) (hp : zS ks <= Mx) (r : Nat) : ul [.tup (ks.map tK), .int (r : Nat)] = .ok (fr (zU ks r)) := by
 let S : Option D := some (.tup (ks.map tK))
 let R0 : Option D := some (.int (r : Nat))
 unfold ul
 have ef : qbP (qg qU (qd (dv 0) (ret []))) [S, R0, R0, none] = .ok ((uc ks).map iD, [S, R0, R0, none]) := by
  rw [qbg, qbW rfl (ur hw hl hp)]
  rfl
 have pre : ∀ {W0 : R Fl}, qT (qdW (qbP (qg qU (qd (dv 0) (ret [])))) (qF 3) (qT (sif (wX (tst (qg zA (qd (d2 ixD (dv 0) (dv 3)) (qd (dv 2) (ret [])))))) (z0 (qg qR (qd (d2 ixD (d2 ixD (dv 0) (dv 3)) (ret (.int 1))) (qd (d2 ixD (d2 ixD (dv 0) (dv 3)) (ret (.int 0))) (ret []))))) uL) (zM 2 (qg zk (qd (d2 ixD (dv 0) (dv 3)) (qd (dv 2) (ret []))))))) (z0 (ret (.tup [.int 0, .int 1]))) [S, R0, R0, none] = W0 -> uk [S, R0, none, none] = W0 := fun {W0} h => by
  unfold uk
  refine (qo (U' := [S, R0, none, none]) (ex1 rfl (zX _ (vR hw hl)))).trans ?_
  refine (qo (U' := [S, R0, none, none]) (ex1 rfl (zY r))).trans ?_
  refine (qo (U' := [S, R0, R0, none]) rfl).trans ?_
  exact h
 rcases qhn hw hp R0 (uc ks) r none fun p hp => (yA.mp hp).1 with ⟨U, q⟩ | ⟨e, U, q⟩
 ·
  refine yZ rfl ⟨U, pre (uh ?_)⟩
  rw [ve, ef]
  exact q
 ·
  refine yZ rfl ⟨U, pre ((qo (U' := U) ?_).trans ?_)⟩
  ·rw [ve, ef]
   exact q
  ·show _ = R.ok (Fl.rt (fr (spN ks (uc ks) r)) U)
   rw [e]
   rfl
abbrev mxO (x : Nk) : D := mD (x.2.2.map fun m : Nat => (m : Int))
theorem qaJ {x : Nk} (h0 : 0 < x.1) (h9 : x.1 < big) (r : Nat) : jK [tK x, .int (r : Nat)] = .ok (.int (ofN x r : Nat)) := by
 unfold jK u6
 let U : Env := [some (tK x), some (.int (r : Nat)), some (.int ((r / x.1 : Nat) : Int))]
 refine yZ rfl ⟨U, ?_⟩
 refine (qo (U' := U) (y0 (U1 := [some (tK x), some (.int (r : Nat)), none]) (qi rfl (qi rfl rfl (tk0 x)) (yg r h0 h9)))).trans (zQ ?_)
 have c1 : tst (d2 isN (d2 ixD (dv 0) (ret (.int 2))) (ret .non)) U = .ok (yx (mxO x), U) := qZ (qi (qi rfl rfl (tk2 x)) rfl (qbU _))
 unfold ofN
 cases e : x.2.2 with
 | none =>
  rw [show yx (mxO x) = true by unfold mxO; rw [e]; rfl] at c1
  exact qn1 c1 rfl
 | some m =>
  rw [show yx (mxO x) = false by unfold mxO; rw [e]; rfl] at c1
  refine qn2 c1 (qmW rfl (qi rfl rfl (show ixD (tK x) (.int 2) = some (.int (m : Nat)) by rw [tk2, e]; rfl)) ?_)
  rw [qip]
  congr 2
  show (if (m : Int) < ((r / x.1 : Nat) : Int) then (m : Int) else ((r / x.1 : Nat) : Int)) = (((if m < r / x.1 then m else r / x.1) : Nat) : Int)
  by_cases c : m < r / x.1
  ·rw [if_pos c, if_pos (by omega)]
  ·rw [if_neg c, if_neg (by omega)]
theorem qbG {x : Nk} (h : x.1 <= Mx) {t s : Nat} (ht : t * x.1 <= s) : u7 [tK x, .int (t : Nat), .int (s : Nat)] = .ok (.int ((s - t * x.1 : Nat) : Int)) := by
 unfold u7 ww
 refine yZ rfl ⟨[some (tK x), some (.int (t : Nat)), some (.int (s : Nat))], zQ (qi rfl (qi rfl (qi rfl rfl (tk0 x)) (jQ t h)) ?_)⟩
 rw [qcm]
 congr 2
 omega
def qbu (ks : List Nk) (r : Nat) : List D := (List.range (r + 1)).map fun i => D.int (vk ks i : Nat)
theorem qho {ks : List Nk} {r i : Nat} (h : i <= r) : ixD (.lst (qbu ks r)) (.int (i : Nat)) = some (.int (vk ks i : Nat)) := qg1 (by
 unfold qbu
 rw [gM_, List.getElem?_range (by omega)]
 rfl)
theorem qbv {ks : List Nk} {x : Nk} (h : x.1 <= Mx) (hg : x.2.1 <= Mx) {s r t : Nat} (hs : s <= r) (ht : t * x.1 <= s) : um [tK x, .int (t : Nat), .lst (qbu ks r), .int (s : Nat)] = .ok (.int ((t * x.2.1 + vk ks (s - t * x.1) : Nat) : Int)) := by
 unfold um vG
 exact yZ rfl ⟨[some (tK x), some (.int (t : Nat)), some (.lst (qbu ks r)), some (.int (s : Nat))], zQ (qi (qi rfl (qi rfl rfl (tk1 x)) (jQ t hg)) (qi rfl (qaD rfl rfl rfl (qbG h ht)) (qho (by omega))) (qis _ _))⟩
theorem f4 {F : List D -> R D} {f g h k : M D} {U : Env} {a b c z d : D} (hf : f U = .ok (a, U)) (hg : g U = .ok (b, U)) (hh : h U = .ok (c, U)) (hk : k U = .ok (z, U)) (e : F [a, b, c, z] = .ok d) : qg F (qd f (qd g (qd h (qd k (ret []))))) U = .ok (d, U) := by
 rw [j8]
 simp only [jq, hf, hg, hh, hk, qcf, e]
theorem qe9 {l : List Nat} (h : l ≠ []) : qfq [.lst (l.map fun n => D.int (n : Nat))] = some (.int (mxN l : Nat)) := by
 cases l with
 | nil => exact absurd rfl h
 | cons a l =>
  have e := qcn ((a :: l).map fun n : Nat => ((n : Nat) : Int))
  rw [mm_] at e
  simp only [Function.comp_def, mC_] at e
  simp only [mC_, qfq, e]
  congr 2
  refine qgJ (mP_.mpr ⟨_, qhf (List.cons_ne_nil a l), rfl⟩) fun n hn => ?_
  obtain ⟨m, hm, rfl⟩ := mP_.mp (show n ∈ (a :: l).map fun n : Nat => ((n : Nat) : Int) from hn)
  have := qe4 hm
  show ((m : Nat) : Int) <= _
  omega
theorem qbH {ks : List Nk} {x : Nk} (h0 : 0 < x.1) (h : x.1 <= Mx) (hg : x.2.1 <= Mx) {s r : Nat} (hs : s <= r) (hr : r <= 200) : jt [tK x, .lst (qbu ks r), .int (s : Nat)] = .ok (.int (vk (x :: ks) s : Nat)) := by
 let U : Env := [some (tK x), some (.lst (qbu ks r)), some (.int (s : Nat))]
 have hof : ofN x s <= 200 := by
  have h1 := ((qe5 h0).mp (Nat.le_refl (ofN x s))).1
  have : ofN x s * 1 <= ofN x s * x.1 := Nat.mul_le_mul_left _ h0
  omega
 unfold jt wy
 refine yZ rfl ⟨U, zQ (qdn (a := .lst (((List.range (ofN x s + 1)).map fun t => t * x.2.1 + vk ks (s - t * x.1)).map fun n => D.int (n : Nat))) ?_ (qe9 (by simp)))⟩
 rw [mm_]
 refine qeX (r := [some (tK x), some (.lst (qbu ks r)), some (.int (s : Nat))]) (k := iD) (List.range (ofN x s + 1)) _ ?_ rfl (by rw [lR_]; omega) fun t ht => ?_
 ·have el : d2 ue (qg jK (qd (dv 0) (qd (dv 2) (ret [])))) (ret (.int 1)) U = .ok (.int ((ofN x s + 1 : Nat) : Int), U) := qi (qQ rfl rfl (qaJ h0 (Nat.lt_of_le_of_lt h qdz) s)) rfl (qis _ 1)
  show vq _ U = _
  rw [vQ (j := ((ofN x s + 1 : Nat) : Int)) (qfB el) (by omega) (by omega), Int.toNat_natCast, qoz]
  rfl
 ·exact f4 rfl rfl rfl rfl (qbv h hg hs ((qe5 h0).mp (by have := mR_.mp ht; omega)).1)
theorem qhp {i : Nat} {f : M D} {U : Env} {ds : List D} {d : D} (h : zx i U = some ds) (hf : f U = .ok (d, U)) (hl : ds.length < 1000000) : yc (vv i f) U = .ok (.nx (U.set i (some (.lst (d :: ds))))) := by
 rw [qch, qgO]
 simp only [h, hf, yY (show ds.length + 1 <= 1000000 by omega), if_true]
theorem qk1 {f : M (List D)} {U : Env} {ds : List D} (h : f U = .ok (ds, U)) (hl : ds.length <= 1000000) : qic f U = .ok (ds, U) := by
 unfold qic bnd
 rw [h]
 simp only [yY hl, if_true]
 rfl
theorem qiA {i : Nat} {U : Env} {d : D} {ds : List D} (h : zx i U = some (d :: ds)) : qey i (ret (.int 0)) U = .ok (d, U) := by
 have e : atI (d :: ds) 0 = some d := qg1 (n := 0) rfl
 rw [qgz]
 simp only [h, qcf, e]
theorem qk2 {ks : List Nk} {x : Nk} (h0 : 0 < x.1) (h : x.1 <= Mx) (hg : x.2.1 <= Mx) {r : Nat} (hr : r <= 200) (T : Option D) (uB : List D) (hl : uB.length <= 100) :
  (yc (vv 2 (yX 1 [3, 2] (some (2, 2)) (vq (qd (d2 ue (dv 1) (ret (.int 1))) (ret []))) (qF 0) (ret true) (qg jt (qd (dv 1) (qd (qey 2 (ret (.int 0))) (qd (dv 0) (ret [])))))))) [T, nO r, some (.lst (.lst (qbu ks r) :: uB)), some (tK x)] = .ok (.nx [T, nO r, some (.lst (.lst (qbu (x :: ks) r) :: .lst (qbu ks r) :: uB)), some (tK x)]) := by
 let U : Env := [T, nO r, some (.lst (.lst (qbu ks r) :: uB)), some (tK x)]
 have hx : vq (qd (d2 ue (dv 1) (ret (.int 1))) (ret [])) U = .ok ((List.range (r + 1)).map iD, U) := by
  have e1 : d2 ue (dv 1) (ret (.int 1)) U = .ok (.int ((r + 1 : Nat) : Int), U) := qi rfl rfl (qis r 1)
  rw [vQ (j := ((r + 1 : Nat) : Int)) (qfB e1) (by omega) (by omega), Int.toNat_natCast, qoz]
  rfl
 have c := qmV (e := qg jt (qd (dv 1) (qd (qey 2 (ret (.int 0))) (qd (dv 0) (ret []))))) (t := ret true) (k := iD) (r := [some (tK x), some (.lst (.lst (qbu ks r) :: uB))]) (fr := [3, 2]) (i := 2) (j := 2) (List.range (r + 1)) (fun _ => true) (fun s => D.int (vk (x :: ks) s : Nat)) hx rfl (by rw [lR_]; omega) (fun _ _ => rfl) (fun s hs _ => qaD rfl (qiA rfl) rfl (qbH h0 h hg (by have := mR_.mp hs; omega) hr)) (fun o => rfl)
 rw [wu] at c
 exact qhp (U := U) rfl c (by rw [lC_]; omega)
theorem qhq {r : Nat} (hr : r <= 200) (T : Option D) : ∀ (b ks : List Nk) (uB : List D) (o3 : Option D), (∀ x ∈ b, 0 < x.1 /\ x.1 <= Mx /\ x.2.1 <= Mx) -> b.length + uB.length <= 90 -> ∃ rest' o3', yf (qF 3) (yc (vv 2 (yX 1 [3, 2] (some (2, 2)) (vq (qd (d2 ue (dv 1) (ret (.int 1))) (ret []))) (qF 0) (ret true) (qg jt (qd (dv 1) (qd (qey 2 (ret (.int 0))) (qd (dv 0) (ret [])))))))) (b.map tK) [T, nO r, some (.lst (.lst (qbu ks r) :: uB)), o3] = .ok (.nx [T, nO r, some (.lst (.lst (qbu (b.reverse ++ ks) r) :: rest')), o3'])
 | [], ks, uB, o3, _, _ => ⟨uB, o3, rfl⟩
 | x :: b, ks, uB, o3, h, hl => by
  rw [lC_] at hl
  obtain ⟨h1, h2, h3⟩ := h x mS_
  obtain ⟨rest', o3', q⟩ := qhq hr T b (x :: ks) (.lst (qbu ks r) :: uB) (some (tK x)) (fun y hy => h y (mM _ hy)) (by rw [lC_]; omega)
  refine ⟨rest', o3', ?_⟩
  rw [mC_, ji rfl (qk2 h1 h2 h3 hr T uB (by omega)), List.reverse_cons, aA_]
  exact q
theorem qiB (r : Nat) (hr : r <= 200) : jp (.lst [.int 0]) (.int ((r + 1 : Nat) : Int)) = some (.lst (qbu [] r)) := by
 have h1 : decide (-(2 ^ 62 : Int) <= ((r + 1 : Nat) : Int)) = true := decide_eq_true (by omega)
 have h2 : decide (((r + 1 : Nat) : Int) < 2 ^ 62) = true := decide_eq_true (by omega)
 have h3 : qO (([.int 0] : List D).length * (((r + 1 : Nat) : Int)).toNat) = true := yY (by rw [Int.toNat_natCast]; simp; omega)
 have hm : jp (.lst [.int 0]) (.int ((r + 1 : Nat) : Int)) = some (.lst (List.replicate (((r + 1 : Nat) : Int)).toNat [D.int 0]).flatten) := by
  simp only [jp, h1, h2, h3, Bool.and_self, if_true]
 have fl : ∀ n : Nat, (List.replicate n [D.int 0]).flatten = (List.range n).map fun _ => D.int 0 := fun n => by
  induction n with
  | zero => rfl
  | succ n ih =>
   rw [rS_, List.flatten_cons, ih, List.range_succ_eq_map, mC_, mm_]
   rfl
 rw [hm, Int.toNat_natCast, fl]
 rfl
theorem qcC {n : Nat} (h : n <= 200) : qau [.int (n : Nat)] = .ok .non := by
 have e : uJ [some (.int (n : Nat))] = .ok (.nx [some (.int (n : Nat))]) := by
  unfold uJ
  have h' : ¬ (200 : Int) < (n : Nat) := by omega
  exact qdJ (qZ (qi rfl rfl (by rw [vx, decide_eq_false h'])))
 show (match uJ [some (.int (n : Nat))] with | .ok (.rt d _) => R.ok d | .ok (.nx _) => .ok .non | _ => .bad) = _
 rw [e]
section
variable {ks : List Nk} (hk : ∀ x ∈ ks, 0 < x.1 /\ x.1 <= Mx /\ x.2.1 <= Mx) (hl : ks.length <= 12)
include hk hl
theorem qbI {r : Nat} (hr : r <= 200) : ∃ uB, u8 [.tup (ks.map tK), .int (r : Nat)] = .ok (.lst (.lst (qbu ks r) :: uB)) := by
 let T : Option D := some (.tup (ks.map tK))
 obtain ⟨uB, o3, q⟩ := qhq hr T ks.reverse [] [] none (fun x hx => hk x (List.mem_reverse.mp hx)) (by rw [List.length_reverse, lN_]; omega)
 rw [List.reverse_reverse, List.append_nil] at q
 refine ⟨uB, ?_⟩
 unfold u8 wA
 refine yZ rfl ⟨[T, nO r, some (.lst (.lst (qbu ks r) :: uB)), o3], ?_⟩
 refine (qo (U' := [T, nO r, some (.lst [.lst (qbu [] r)]), none]) ?_).trans ?_
 ·have a1 : qa3 (qd (ret (.int 0)) (ret [])) [T, nO r, none, none] = .ok (.lst [.int 0], [T, nO r, none, none]) := rfl
  have a2 := qi a1 (qi (f := dv 1) (g := ret (.int 1)) rfl rfl (qis r 1)) (qiB r hr)
  have a3 := qk1 (qfB a2) (by rw [lC_, lN_]; omega)
  show qca 2 _ [T, nO r, none, none] = _
  rw [qcg, a3]
  rfl
 refine (qo (U' := [T, nO r, some (.lst (.lst (qbu ks r) :: uB)), o3]) ?_).trans rfl
 have a4 : qmH (qd (dv 0) (ret [])) [T, nO r, some (.lst [.lst (qbu [] r)]), none] = .ok (ks.reverse.map tK, [T, nO r, some (.lst [.lst (qbu [] r)]), none]) := by
  rw [qmJ, qfB (a := .tup (ks.map tK)) rfl, List.map_reverse]
  rfl
 rw [ve, a4]
 exact q
theorem qbw {r : Nat} (hr : r <= 200) : uo [.tup (ks.map tK), .int (r : Nat)] = .ok (.int (vk ks r : Nat)) := by
 let U : Env := [some (.tup (ks.map tK)), nO r]
 obtain ⟨uB, e⟩ := qbI hk hl hr
 have na : vH [.tup (ks.map tK), .int (r : Nat)] = .ok .non := by
  have : yn U = .ok (.nx U) := by
   unfold yn
   exact (qo (ex1 rfl (zX _ (vR (fun x hx => (hk x hx).1) hl)))).trans ((qo (ex1 rfl (zY r))).trans (ex1 rfl (qcC hr)))
  show (match yn U with | .ok (.rt d _) => R.ok d | .ok (.nx _) => .ok .non | _ => .bad) = _
  rw [this]
 have bw : yC [.tup (ks.map tK), .int (r : Nat)] = .ok (.lst (qbu ks r)) := by
  unfold yC
  refine yZ rfl ⟨U, ?_⟩
  unfold u9
  exact (qo (ex1 rfl na)).trans (zQ (qi (qQ rfl rfl e) rfl (qg1 (n := 0) rfl)))
 unfold uo
 refine yZ rfl ⟨U, ?_⟩
 unfold vI
 exact zQ (qi (qQ rfl rfl bw) rfl (qho (Nat.le_refl r)))
end
theorem qfa : ∀ (ks : List Nk) (l : List Nat), qaO (ks.map tK) (l.map iD) = (ks.zip l).map fun z => D.tup [tK z.1, iD z.2]
 | [], _ => rfl
 | _ :: _, [] => rfl
 | x :: ks, y :: l => by
  rw [mC_, mC_, List.zip_cons_cons, mC_, <- qfa ks l]
  rfl
theorem qhr : ∀ (ks : List Nk) (l : List Nat), l.length = ks.length -> ks.zip l = (List.range ks.length).map fun i => (nAt ks i, l.getD i 0)
 | [], [], _ => rfl
 | [], _ :: _, h => absurd h (by simp)
 | _ :: _, [], h => absurd h (by simp)
 | x :: ks, y :: l, h => by
  rw [List.zip_cons_cons, lC_, qee, mC_, mm_, qhr ks l (by simpa using h)]
  rfl
theorem qfb : ∀ l : List Nat, ((l.map fun n => ((n : Nat) : Int)).sum) = ((l.sum : Nat) : Int)
 | [] => rfl
 | n :: l => by rw [mC_, List.sum_cons, qfb l, List.sum_cons]; omega
theorem qiC (l : List Nat) : ql2 [.lst (l.map iD)] = some (.int ((l.sum : Nat) : Int)) := by
 have e := qcn (l.map fun n : Nat => ((n : Nat) : Int))
 rw [mm_] at e
 have e' : wF (l.map iD) = some (l.map fun n : Nat => ((n : Nat) : Int)) := e
 simp only [ql2, e', Option.map_some, qfb]
theorem qm3 {q : Int} {sel : Nk -> Nat} (hsel : ∀ x, ixD (tK x) (.int q) = some (.int (sel x : Nat))) {ks : List Nk} {xs : List Nat} (hl : xs.length = ks.length) (hk : ks.length <= 12) (hm : ∀ x ∈ ks, sel x <= Mx) : zG [.tup (ks.map tK), .tup (xs.map iD), .int q] = .ok (.int ((vg ks.length fun p => sel (nAt ks p) * xs.getD p 0 : Nat) : Int)) := by
 let U : Env := [some (.tup (ks.map tK)), some (.tup (xs.map iD)), some (.int q)]
 have hz : (ks.zip xs).length <= 12 := by rw [List.length_zip]; omega
 have c := qg3 (U := U) (fr := [2]) (r := [some (.int q)]) (xs := qi3 (qd (dv 0) (qd (dv 1) (ret [])))) (t := ret true) (e := d2 jp (d2 ixD (dv 0) (dv 2)) (dv 1)) (u := fun z : Nk × Nat => tK z.1) (v := fun z => iD z.2) (ks.zip xs) (fun _ => true) (fun z => iD (sel z.1 * z.2)) (by
  rw [qda, qdo rfl rfl, <- qfa]
  rfl) rfl (by omega) (fun _ _ => rfl) (fun z hz _ => qi (qi rfl rfl (hsel z.1)) (b := .int (z.2 : Nat)) rfl (qjn z.2 (hm z.1 (List.of_mem_zip (show (z.1, z.2) ∈ ks.zip xs from hz)).1)))
 rw [wu] at c
 have em : ((ks.zip xs).map fun z => iD (sel z.1 * z.2)) = ((ks.zip xs).map fun z => sel z.1 * z.2).map iD := by rw [mm_]; rfl
 rw [em] at c
 have es : ((ks.zip xs).map fun z => sel z.1 * z.2).sum = vg ks.length fun p => sel (nAt ks p) * xs.getD p 0 := by
  rw [qhr ks xs hl, mm_]
  rfl
 unfold zG yt
 exact yZ rfl ⟨U, zQ (qdn c (by rw [qiC, es]))⟩
theorem qdB : ∀ (ks : List Nk) (xs : List Nat), xs.length = ks.length -> (∀ p, p < ks.length -> ∀ m, (nAt ks p).2.2 = some m -> xs.getD p 0 <= m) -> vP (ks.map tK) (xs.map iD) = true
 | [], [], _, _ => rfl
 | [], _ :: _, h, _ => absurd h (by simp)
 | _ :: _, [], h, _ => absurd h (by simp)
 | x :: ks, y :: xs, h, hm => by
  rw [mC_, mC_]
  have ih := qdB ks xs (by simpa using h) fun p hp m em => hm (p + 1) (by rw [lC_]; omega) m em
  have h0 := hm 0 (by rw [lC_]; omega)
  have : qd5 (tK x) (iD y) = true := by
   obtain ⟨w, g, m⟩ := x
   have hy : (0 : Int) <= (y : Nat) := by omega
   cases m with
   | none =>
    show (decide ((0 : Int) <= (y : Nat)) && _) = true
    rw [decide_eq_true hy]
    rfl
   | some m =>
    have hym : y <= m := h0 m rfl
    show (decide ((0 : Int) <= (y : Nat)) && (false || decide (((y : Nat) : Int) <= ((m : Nat) : Int)))) = true
    rw [decide_eq_true hy, decide_eq_true (by omega)]
    rfl
  show (qd5 (tK x) (iD y) && vP (ks.map tK) (xs.map iD)) = true
  rw [this, ih]
  rfl
def flL (ks : List Nk) (r : Nat) : List Nat := (shs ks r).map fun z => z.1 / z.2
theorem qcD (ks : List Nk) (r : Nat) : (flL ks r).length = ks.length := by
 unfold flL
 rw [lM_, jT]
theorem qjv {ks : List Nk} {r p : Nat} (h : p < ks.length) : (flL ks r).getD p 0 = flA ks r p := by
 have h2 : p < (shs ks r).length := by rw [jT]; exact h
 unfold flL flA shA
 simp [List.getD, h2]
theorem qm4 {z : Nat × Nat} (h : 0 < z.2) (h1 : z.2 <= Mx) {r : Env} : d2 uO (d2 ixD (dv 0) (ret (.int 0))) (d2 ixD (dv 0) (ret (.int 1))) (some (fr z) :: r) = .ok (iD (z.1 / z.2), some (fr z) :: r) :=
 qi (qi rfl rfl (qaG _ _)) (qi rfl rfl (vy _ _)) (yg _ h (Nat.lt_of_le_of_lt h1 (by decide)))
theorem qm5 (l : List (Nat × Nat)) : eqB (.lst (l.map fr)) (.lst []) = some (.bl l.isEmpty) := by
 have h : ∀ l : List (Nat × Nat), PyData.canLayAll0 (toPDs (l.map fr)) = true /\ PyData.depthAll (toPDs (l.map fr)) <= 1 := fun l => by
  induction l with
  | nil => exact ⟨rfl, by decide⟩
  | cons n ns ih =>
   refine ⟨?_, ?_⟩
   ·simp only [mC_, toPDs, fr, frD, uv, PyData.canLayAll0, PyData.canLay0, Bool.and_self, Bool.true_and]
    exact ih.1
   ·have := ih.2
    simp only [mC_, toPDs, fr, frD, uv, PyData.depthAll, PyData.depth]
    omega
 obtain ⟨h1, h2⟩ := h l
 have o1 : qbB (.lst (l.map fr)) = true := by
  simp only [qbB, uv, PyData.canLay0, PyData.depth, h1, Bool.true_and, decide_eq_true_eq]
  omega
 have e : eqB (.lst (l.map fr)) (.lst []) = eqA (.lst (l.map fr)) (.lst []) := rfl
 rw [e]
 unfold eqA
 rw [o1]
 cases l <;> rfl
theorem qob (t b : Nat) : eqB (frD t b) (frD t b) = some (.bl true) := by
 refine (qkE t b t b).trans ?_
 simp
theorem qbx {a b c d : Nat} (hb : b <= Mx) (hd : d <= Mx) : qG [frD a b, frD c d] = .ok (.bl (decide (a * d <= c * b))) := by
 unfold qG ux
 exact yZ rfl ⟨[some (frD a b), some (frD c d)], zQ (qi (qi (qi rfl rfl (qaG a b)) (qi rfl rfl (vy c d)) (jQ a hd)) (qi (qi rfl rfl (qaG c d)) (qi rfl rfl (vy a b)) (jQ c hb)) (leN _ _))⟩
theorem qjw {a b c d : Nat} (hb : 0 < b) (hd : 0 < d) (h : a * d <= c * b) : yz a b * yr c d <= yz c d * yr a b := by
 obtain ⟨g, g0, e1, e2, e3, _, _⟩ := jG a hb
 obtain ⟨k, k0, f1, f2, f3, _, _⟩ := jG c hd
 generalize yz a b = t at *
 generalize yr a b = u at *
 generalize yz c d = v at *
 generalize yr c d = w at *
 rw [e1, f2, f1, e2] at h
 have h1 : g * k * (t * w) <= g * k * (v * u) := by
  have a1 : g * t * (k * w) = g * k * (t * w) := by simp only [Nat.mul_comm, Nat.mul_left_comm, Nat.mul_assoc]
  have a2 : k * v * (g * u) = g * k * (v * u) := by simp only [Nat.mul_comm, Nat.mul_left_comm, Nat.mul_assoc]
  rw [<- a1, <- a2]
  exact h
 exact Nat.le_of_mul_le_mul_left h1 (Nat.mul_pos g0 k0)
section
variable {ks : List Nk} (hk : ∀ x ∈ ks, smN x) (hl : ks.length <= 6)
include hk hl
theorem Sm6 : Sm ks := Sm.of hk (by omega)
theorem qjx (r : Nat) : 0 < (swN ks r).2 /\ (swN ks r).2 <= 25 ^ 6 := by
 have S := Sm6 hk hl
 obtain ⟨a1, a2⟩ := qe0 (ks.zip (shs ks r)) (0, 1) (qeZ S.w r) Nat.one_pos
 rw [Nat.one_mul, qd8 (jT ks r)] at a2
 exact ⟨a1, Nat.le_trans a2 (qhk ks 6 (fun x hx => (hk x hx).2.1) hl)⟩
theorem qoc (r : Nat) : 0 < yr (swN ks r).1 (swN ks r).2 /\ yr (swN ks r).1 (swN ks r).2 <= 25 ^ 6 := by
 obtain ⟨a, b⟩ := qjx hk hl r
 obtain ⟨c, d⟩ := vA (swN ks r).1 a
 exact ⟨c, Nat.le_trans d b⟩
theorem k3 : ∀ x ∈ ks, 0 < x.1 /\ x.1 <= Mx /\ x.2.1 <= Mx := fun x hx => ⟨(hk x hx).1, Nat.le_trans (hk x hx).2.1 (by decide), Nat.le_trans (hk x hx).2.2.1 (by decide)⟩
theorem qm6 (r : Nat) : vY [.tup (ks.map tK), .int (r : Nat)] = .ok (.tup ((flL ks r).map iD)) := by
 have S := Sm6 hk hl
 have bot : ∀ z ∈ shs ks r, 0 < z.2 /\ z.2 <= Mx := fun z hz => by
  obtain ⟨i, hi⟩ := List.mem_iff_getElem?.mp hz
  have hil : i < ks.length := by rw [<- jT ks r]; exact (gI_.mp hi).1
  obtain ⟨a, b⟩ := qjq S.w r i z hi
  exact ⟨a, Nat.le_trans b (Nat.le_trans (qaQ S.w (jh hil)) S.p)⟩
 unfold vY
 refine yZ rfl ⟨[some (.tup (ks.map tK)), some (.int (r : Nat))], ?_⟩
 unfold qat
 refine zQ (qdn (a := .lst ((flL ks r).map iD)) ?_ (qfA _))
 unfold flL
 rw [mm_]
 refine qeX (k := fr) (shs ks r) _ ?_ rfl (by rw [jT]; omega) fun z hz => qm4 (bot z hz).1 (bot z hz).2
 rw [qbg, cx2 rfl rfl (yu S.w S.l S.p r)]
 rfl
theorem qdC (r : Nat) : qeU (.tup ((flL ks r).map iD)) (.tup (ks.map tK)) = true := by
 have S := Sm6 hk hl
 show (decide (((flL ks r).map iD).length = (ks.map tK).length) && _) = true
 rw [lM_, lM_, qcD, decide_eq_true rfl, Bool.true_and]
 refine qdB ks _ (qcD ks r) fun p hp m em => ?_
 rw [qjv hp]
 exact (qaU S.w r).1 p hp m em
theorem qb1 (r : Nat) : u4 [.tup (ks.map tK), .tup ((flL ks r).map iD)] = .ok .non := by
 have S := Sm6 hk hl
 let U : Env := [some (.tup (ks.map tK)), some (.tup ((flL ks r).map iD))]
 have e : y8 U = .ok (.nx U) := by
  unfold y8
  have := yy (qZ (qQ (f := dv 1) (g := dv 0) (U := U) rfl rfl (qaE _ _ (vR S.w S.l))))
  rw [qdC hk hl r] at this
  exact qdJ this
 show (match y8 U with | .ok (.rt d _) => R.ok d | .ok (.nx _) => .ok .non | _ => .bad) = _
 rw [e]
theorem qjy {sel : Nk -> Nat} (r : Nat) : (vg ks.length fun p => sel (nAt ks p) * (flL ks r).getD p 0) = vg ks.length fun p => sel (nAt ks p) * flA ks r p := qbX fun p hp => by rw [qjv hp]
theorem qiD (r : Nat) : uz [.tup (ks.map tK), .tup ((flL ks r).map iD)] = .ok (.int (gY ks (flA ks r) : Nat)) := by
 have S := Sm6 hk hl
 have t := qm3 (q := 1) (sel := fun x => x.2.1) tk1 (qcD ks r) S.l S.g
 rw [qjy hk hl (sel := fun x => x.2.1) r] at t
 unfold uz
 refine yZ rfl ⟨[some (.tup (ks.map tK)), some (.tup ((flL ks r).map iD))], ?_⟩
 unfold qec
 exact (qo (ex1 rfl (qb1 hk hl r))).trans (zQ (qaD rfl rfl rfl t))
theorem qk3 (r : Nat) : qdx [.tup (ks.map tK), .tup ((flL ks r).map iD), .int (r : Nat)] = .ok (.bl true) := by
 have S := Sm6 hk hl
 have t := qm3 (q := 0) (sel := fun x => x.1) tk0 (qcD ks r) S.l (fun x hx => (k3 hk hl x hx).2.1)
 rw [qjy hk hl (sel := fun x => x.1) r] at t
 unfold qdx
 refine yZ rfl ⟨[some (.tup (ks.map tK)), some (.tup ((flL ks r).map iD)), some (.int (r : Nat))], ?_⟩
 unfold qhj
 refine (qo (ex1 rfl (qb1 hk hl r))).trans ((qo (ex1 rfl (zY r))).trans (zQ (qi (qaD rfl rfl rfl t) rfl ?_)))
 rw [leN, decide_eq_true (show (vg ks.length fun p => (nAt ks p).1 * flA ks r p) <= r from (qaU S.w r).2)]
theorem qef {t b : Nat} (h0 : 0 < b) (g : Nat.gcd t b = 1) : vF [frD t b] = .ok .non := by
 have e : yk [some (frD t b)] = .ok (.nx [some (frD t b)]) := by
  unfold yk
  have := yy (qZ (qbW (f := dv 0) (U := [some (frD t b)]) rfl (qcB (frD t b))))
  rw [qiy h0 g] at this
  exact qdJ this
 show (match yk [some (frD t b)] with | .ok (.rt d _) => R.ok d | .ok (.nx _) => .ok .non | _ => .bad) = _
 rw [e]
theorem qfc {t b : Nat} (h0 : 0 < b) (hb : b <= Mx) (ht : t <= Mx) (g : Nat.gcd t b = 1) (r : Nat) : qar [.tup (ks.map tK), .int (r : Nat), frD t b] = .ok (bdD b (bdN t b ks (r * t))) := by
 have S := Sm6 hk hl
 unfold qar
 refine yZ rfl ⟨[some (.tup (ks.map tK)), some (.int (r : Nat)), some (frD t b)], ?_⟩
 unfold qeb
 exact (qo (ex1 rfl (zX _ (vR S.w S.l)))).trans ((qo (ex1 rfl (zY r))).trans ((qo (ex1 rfl (qef hk hl h0 g))).trans (zQ (qaD rfl rfl rfl (qcA ht h0 hb (fun x hx m e => Nat.le_trans ((hk x hx).2.2.2 m e) (by decide)) r)))))
theorem qiE {r : Nat} (h : ((shs ks r).filter fun z => !decide (z.2 = 1)) = []) : ∀ p, p < ks.length -> (shA ks r p).2 = 1 := fun p hp => by
 have h2 : p < (shs ks r).length := by rw [jT]; exact hp
 have hm : shA ks r p ∈ shs ks r := by
  unfold shA
  simp [List.getD, h2]
 have := List.filter_eq_nil_iff.mp h _ hm
 simpa using this
theorem qiF {r : Nat} (hr : r <= 60) : uq [.tup (ks.map tK), .int (r : Nat)] = .ok (.bl true) := by
 have S := Sm6 hk hl
 obtain ⟨b0, b1⟩ := qjx hk hl r
 obtain ⟨l0, l1⟩ := qoc hk hl r
 have m6 : (25 : Nat) ^ 6 <= Mx := by decide
 let N := (swN ks r).1
 let Dn := (swN ks r).2
 let t := yz N Dn
 let u := yr N Dn
 let W := gY ks (flA ks r)
 let G := mxN (0 :: ks.map fun x => x.2.1)
 let T : Option D := some (.tup (ks.map tK))
 let L : Option D := some (.tup ((flL ks r).map iD))
 have hG : ∀ x ∈ ks, x.2.1 <= G := fun x hx => qe4 (mM _ (mP_.mpr ⟨x, hx, rfl⟩))
 have sw : qS [.tup (ks.map tK), .int (r : Nat)] = .ok (frD t u) := jn S.w S.g S.l S.p r
 have wb : zn [.tup (ks.map tK), .int (r : Nat)] = .ok (.int ((N / Dn : Nat) : Int)) := qaH S.w S.g S.l S.p r
 have bw := qbw (k3 hk hl) S.l (r := r) (by omega)
 have we := qiD hk hl r
 have lc : N * u = Dn * t := wV N b0
 let U2 : Env := [T, nO r, nO (vk ks r), some (frD t u), none, none]
 let U4 : Env := [T, nO r, nO (vk ks r), some (frD t u), L, none]
 let U5 : Env := [T, nO r, nO (vk ks r), some (frD t u), L, nO G]
 unfold uq
 refine yZ rfl ⟨U5, ?_⟩
 unfold vJ
 refine (qo (U' := U2) (qpe (U := [T, nO r, none, none, none, none]) (qQ rfl rfl bw) (qQ rfl rfl sw))).trans ?_
 have c1 : tst (d2 leD (dv 2) (qg zn (qd (dv 0) (qd (dv 1) (ret []))))) U2 = .ok (true, U2) := qZ (qi rfl (qQ rfl rfl wb) (by rw [leN, decide_eq_true ((Nat.le_div_iff_mul_le b0).mpr (qbY S.w r))]))
 have c2 : tst (qg qG (qd (qaL (qd (qg zn (qd (dv 0) (qd (dv 1) (ret [])))) (qd (ret (.int 1)) (ret [])))) (qd (dv 3) (ret [])))) U2 = .ok (true, U2) := by
  have n := qbx (a := N / Dn) (b := 1) (c := t) (d := u) (by decide) (Nat.le_trans l1 m6)
  rw [decide_eq_true (show N / Dn * u <= t * 1 by
   rw [Nat.mul_one, <- qg8 N b0]
   exact Nat.div_mul_le_self t u)] at n
  exact qZ (qQ (qjm (qQ rfl rfl wb) rfl) rfl n)
 refine (qo (U' := U2) (qdJ (qlf (yy c1) (yy c2)))).trans ?_
 refine (qo (U' := U4) (y0 (U1 := U2) (qQ rfl rfl (qm6 hk hl r)))).trans ?_
 have i1 : tst (d2 qfz (qg uI (qd (dv 4) (qd (dv 0) (ret [])))) (ret (.bl true))) U4 = .ok (false, U4) := by
  have := qQ (f := dv 4) (g := dv 0) (U := U4) rfl rfl (qaE _ _ (vR S.w S.l))
  rw [qdC hk hl r] at this
  exact qZ (qi this rfl rfl)
 have i2 : tst (d2 qfz (qg qdx (qd (dv 0) (qd (dv 4) (qd (dv 1) (ret []))))) (ret (.bl true))) U4 = .ok (false, U4) := qZ (qi (qaD rfl rfl rfl (qk3 hk hl r)) rfl rfl)
 have i3 : tst (d2 gtD (qg uz (qd (dv 0) (qd (dv 4) (ret [])))) (dv 2)) U4 = .ok (false, U4) := qZ (qi (qQ rfl rfl we) rfl (by rw [gtM, decide_eq_false (by have := qe7 S.w r; omega)]))
 refine (qo (U' := U4) (qdJ (qlf i1 (qlf i2 i3)))).trans ?_
 refine (qo (U' := U5) (y0 (U1 := U4) (qdn (a := .lst ((0 :: ks.map fun x => x.2.1).map iD)) ?_ (qe9 (List.cons_ne_nil _ _))))).trans ?_
 ·have c := qeX (U := U4) (fr := []) (r := []) (xs := qbP (dv 0)) (e := d2 ixD (dv 0) (ret (.int 1))) (k := tK) ks (fun x => iD x.2.1) rfl rfl (by omega) fun x _ => qi rfl rfl (tk1 x)
  have a := qio (xs := [.int 0]) (ys := ks.map fun x => iD x.2.1) (by rw [lM_]; simp only [lC_, lN_]; omega)
  have e : (0 :: ks.map fun x => x.2.1).map iD = [.int 0] ++ ks.map fun x => iD x.2.1 := by
   rw [mC_, mm_]
   rfl
  rw [e]
  exact qi (f := qa3 (qd (ret (.int 0)) (ret []))) rfl c a
 have n5 : qg qG (qd (qaL (qd (d2 ue (qg uz (qd (dv 0) (qd (dv 4) (ret [])))) (dv 5)) (qd (ret (.int 1)) (ret [])))) (qd (dv 3) (ret []))) U5 = .ok (.bl (decide ((W + G) * u <= t * 1)), U5) := qQ (qjm (qi (qQ rfl rfl we) rfl (qis _ _)) rfl) rfl (qbx (by decide) (Nat.le_trans l1 m6))
 have g5 : tst (d2 gtD (dv 5) (ret (.int 0))) U5 = .ok (decide (0 < G), U5) := qZ (qi rfl rfl (gt0 G))
 have s5 : qcY (tst (d2 gtD (dv 5) (ret (.int 0)))) (tst (qg qG (qd (qaL (qd (d2 ue (qg uz (qd (dv 0) (qd (dv 4) (ret [])))) (dv 5)) (qd (ret (.int 1)) (ret [])))) (qd (dv 3) (ret []))))) U5 = .ok (false, U5) := by
  by_cases g0 : 0 < G
  ·rw [decide_eq_true g0] at g5
   have near := qiv S.w r hG g0
   rw [decide_eq_false (show ¬ (W + G) * u <= t * 1 from fun h => by
    rw [Nat.mul_one] at h
    have h1 : (W + G) * Dn * u <= N * u := by
     rw [lc, Nat.mul_right_comm, Nat.mul_comm Dn]
     exact Nat.mul_le_mul_right _ h
    exact absurd near (Nat.not_lt.mpr (Nat.le_of_mul_le_mul_right h1 l0)))] at n5
   exact qg5 g5 (qZ n5)
  ·rw [decide_eq_false g0] at g5
   exact qit g5
 refine (qo (U' := U5) (qdJ s5)).trans ?_
 have cs : yX 1 [] none (qbP (qg zb (qd (dv 0) (qd (dv 1) (ret []))))) (qF 0) (tst (d2 neB (d2 ixD (dv 0) (ret (.int 1))) (ret (.int 1)))) (dv 0) U5 = .ok (.lst (((shs ks r).filter fun z => !decide (z.2 = 1)).map fr), U5) := by
  refine qjl (r := []) (k := fr) (shs ks r) (fun z => !decide (z.2 = 1)) fr ?_ rfl (by rw [jT]; omega) (fun z _ => qZ (qi (qi rfl rfl (vy z.1 z.2)) rfl ?_)) fun z _ _ => rfl
  ·rw [qbg, qQ (f := dv 0) (g := dv 1) (U := U5) rfl rfl (yu S.w S.l S.p r)]
   rfl
  ·rw [uR]
   congr 3
   apply decide_eq_decide.mpr
   omega
 have s6 : qcY (tst (d2 eqB (yX 1 [] none (qbP (qg zb (qd (dv 0) (qd (dv 1) (ret []))))) (qF 0) (tst (d2 neB (d2 ixD (dv 0) (ret (.int 1))) (ret (.int 1)))) (dv 0)) (qa3 (ret [])))) (tst (d2 neB (qg uz (qd (dv 0) (qd (dv 4) (ret [])))) (dv 2))) U5 = .ok (false, U5) := by
  have e := qZ (qi (g := qa3 (ret [])) cs rfl (qm5 _))
  cases c : ((shs ks r).filter fun z => !decide (z.2 = 1)) with
  | nil =>
   have hW := qfF S.w r (qiE hk hl c)
   rw [c] at e
   refine qg5 e (qZ (qi (qQ rfl rfl we) rfl ?_))
   rw [uR, hW]
   simp
  | cons a l =>
   rw [c] at e
   exact qit e
 refine (qo (U' := U5) (qdJ s6)).trans ?_
 have P := qaS S.w r
 obtain ⟨T1, e1, e2⟩ := uV S.w r
 have pl : (zU ks r).1 <= Mx /\ (zU ks r).2 <= Mx := by
  have : ∀ (l : List Nat) (s : Nat), (∀ p ∈ l, p < ks.length) -> (spN ks l s).1 <= 1000 /\ (spN ks l s).2 <= 1000 := fun l => by
   induction l with
   | nil => exact fun s _ => ⟨by show 0 <= 1000; omega, by show 1 <= 1000; omega⟩
   | cons p l ih =>
    intro s hp
    have hx := hk _ (jh (hp p mS_))
    show (if goN (nAt ks p) s then spN ks l (bhN (nAt ks p) s) else (yz (nAt ks p).2.1 (nAt ks p).1, yr (nAt ks p).2.1 (nAt ks p).1)).1 <= 1000 /\ (if goN (nAt ks p) s then spN ks l (bhN (nAt ks p) s) else (yz (nAt ks p).2.1 (nAt ks p).1, yr (nAt ks p).2.1 (nAt ks p).1)).2 <= 1000
    split
    ·exact ih _ fun q hq => hp q (mM _ hq)
    ·obtain ⟨g, g0, f1, f2, f3, f4, f5⟩ := jG (nAt ks p).2.1 hx.1
     have := hx.2.1
     have := hx.2.2.1
     exact ⟨by show yz _ _ <= 1000; omega, by show yr _ _ <= 1000; omega⟩
  obtain ⟨a, b⟩ := this (uc ks) r fun p hp => (yA.mp hp).1
  exact ⟨Nat.le_trans a (by decide), Nat.le_trans b (by decide)⟩
 have be := qfc hk hl P.1 pl.2 pl.1 P.2 r
 rw [e1] at be
 have le : wT T1 (zU ks r).2 = frD t u := qg4 P.1 b0 e2
 exact zQ (qi (qaD rfl rfl (qQ rfl rfl (qbt S.w S.l S.p r)) be) rfl (by
  show eqB (wT T1 (zU ks r).2) (frD t u) = _
  rw [le]
  exact qob t u))
end
def prs : List (Nat × Nat) -> Prop := fun ps => ∀ p ∈ ps, 0 < p.2 /\ p.2 <= 1000 /\ p.1 <= 1000 /\ Nat.gcd p.1 p.2 = 1
theorem qfd {b : MS} {ns : List Int} (hb : ∀ (i : Int) (r : Env), 0 <= i -> r.length = 10 -> ∃ r', r'.length = 10 /\ b ([some (.fz ns), some (.int i)] ++ r) = .ok (.nx ([some (.fz ns), some (.int i)] ++ r'))) : ∀ (ds : List D) (o1 : Option D) (r : Env), r.length = 10 -> (∀ d ∈ ds, ∃ i : Int, d = .int i /\ 0 <= i) -> ∃ U, yf (qF 1) b ds ([some (.fz ns), o1] ++ r) = .ok (.nx U)
 | [], o1, r, _, _ => ⟨_, rfl⟩
 | d :: ds, o1, r, hr, h => by
  obtain ⟨i, rfl, h0⟩ := h d mS_
  obtain ⟨r', hr', e⟩ := hb i r h0 hr
  obtain ⟨U, q⟩ := qfd hb ds (some (.int i)) r' hr' fun y hy => h y (mM _ hy)
  exact ⟨U, (ji rfl e).trans q⟩
theorem qk4 {b : MS} {ns : List Int} (hn : ns.length <= 63) (hb : ∀ (i : Int) (r : Env), 0 <= i -> r.length = 10 -> ∃ r', r'.length = 10 /\ b ([some (.fz ns), some (.int i)] ++ r) = .ok (.nx ([some (.fz ns), some (.int i)] ++ r'))) :
  dfn 12 1 (qT (qdW (vq (qd (jo qhN (qd (ret (.int 1)) (qd (jo qfk (qd (jo qdT (qd (dv 0) (ret []))) (qd (ret (.int 4)) (ret [])))) (ret [])))) (ret []))) (qF 1) b) (z0 (ret (.bl true)))) [.fz ns] = .ok (.bl true) := by
 let j : Int := if (if (4 : Int) < (ns.length : Int) then (4 : Int) else (ns.length : Int)) > 1 then (if (4 : Int) < (ns.length : Int) then (4 : Int) else (ns.length : Int)) else 1
 have hj0 : 0 <= j := by simp only [j]; split <;> split <;> omega
 have hj1 : j <= 6 := by simp only [j]; split <;> split <;> omega
 obtain ⟨U, q⟩ := qfd hb (qb9 0 j.toNat) none [none, none, none, none, none, none, none, none, none, none] rfl fun d hd => by
  unfold qb9 at hd
  obtain ⟨k, hk, rfl⟩ := mP_.mp hd
  exact ⟨_, rfl, by omega⟩
 refine yZ rfl ⟨U, (qo (U' := U) ?_).trans rfl⟩
 rw [ve, vQ (j := j) (U1 := [some (.fz ns), none, none, none, none, none, none, none, none, none, none, none]) rfl hj0 (by omega)]
 exact q
theorem qiG {ks : List Nk} (hk : ∀ x ∈ ks, smN x) (hl : ks.length <= 6) {r : Nat} {p : Nat × Nat} (P : 0 < p.2 /\ p.2 <= 1000 /\ p.1 <= 1000 /\ Nat.gcd p.1 p.2 = 1) (A I B o6 o7 o8 o9 o10 o11 : Option D) : ∃ p6, (qT (zM 6 (qg qar (qd (dv 3) (qd (dv 4) (qd (dv 5) (ret [])))))) (sif (qcY (tst (d2 qjW (dv 6) (ret .non))) (wX (tst (qg qG (qd (qg qS (qd (dv 3) (qd (dv 4) (ret [])))) (qd (dv 6) (ret []))))))) (z0 (ret (.bl false))) uL)) [A, I, B, some (.tup (ks.map tK)), nO r, some (fr p), o6, o7, o8, o9, o10, o11] = .ok (.nx [A, I, B, some (.tup (ks.map tK)), nO r, some (fr p), p6, o7, o8, o9, o10, o11]) := by
 have S := Sm6 hk hl
 obtain ⟨h0, h1, h2, h3⟩ := P
 have m3 : (1000 : Nat) <= Mx := by decide
 have m6 : (25 : Nat) ^ 6 <= Mx := by decide
 obtain ⟨b0, b1⟩ := qjx hk hl r
 obtain ⟨l0, l1⟩ := qoc hk hl r
 have be := qfc hk hl h0 (Nat.le_trans h1 m3) (Nat.le_trans h2 m3) h3 r
 refine ⟨some (bdD p.2 (bdN p.1 p.2 ks (r * p.1))), (qo (y0 (qaD rfl rfl rfl be))).trans ?_⟩
 cases c : bdN p.1 p.2 ks (r * p.1) with
 | none => exact qdJ (qit (qZ (qi (d := .bl false) rfl rfl rfl)))
 | some T1 =>
  have sb := qaT S.w (Nat.le_refl r) c
  have n := qbx (a := yz (swN ks r).1 (swN ks r).2) (b := yr (swN ks r).1 (swN ks r).2) (c := yz T1 p.2) (d := yr T1 p.2) (Nat.le_trans l1 m6) (Nat.le_trans (vA T1 h0).2 (Nat.le_trans h1 m3))
  rw [decide_eq_true (qjw b0 h0 sb)] at n
  exact qdJ (qg5 (qZ (qi (d := .bl true) rfl rfl rfl)) (yy (qZ (qQ (qQ rfl rfl (jn S.w S.g S.l S.p r)) rfl n))))
theorem law_true (ns : List Int) (hn : ns.length <= 63) : qed [.fz ns] = .ok (.bl true) := by
 unfold qed qkP
 refine qk4 hn fun i r h0 hr => ?_
 match r, hr with
 | [o2, o3, o4, o5, o6, o7, o8, o9, o10, o11], _ =>
  obtain ⟨n, eb⟩ := qm1 ns i h0
  obtain ⟨ds, n1, es, hd, hdl⟩ := qfJ n
  obtain ⟨ks, rfl, hkl, hk⟩ := qdA ds hd
  have hl : ks.length <= 6 := by rw [hkl]; exact hdl
  have S := Sm6 hk hl
  let A : Option D := some (.fz ns)
  let I : Option D := some (.int i)
  let T : Option D := some (.tup (ks.map tK))
  let n2 := n1 / 61
  let n3 := n2 / 30
  let n4 := n3 / 9
  obtain ⟨R, hR, eR⟩ : ∃ R : Nat, R <= 60 /\ n1 % 61 = (R : Int) := ⟨(n1 % 61).toNat, by omega, by omega⟩
  obtain ⟨a, ha, ea⟩ : ∃ a : Nat, a <= 30 /\ n2 % 30 = (a : Int) := ⟨(n2 % 30).toNat, by omega, by omega⟩
  obtain ⟨c, hc0, hc, ec⟩ : ∃ c : Nat, 0 < c /\ c <= 9 /\ 1 + n3 % 9 = (c : Int) := ⟨(1 + n3 % 9).toNat, by omega, by omega, by omega⟩
  let B : Option D := some (.lst [.int n4])
  have hp : prs [(0, 1), (1, 1), (2, 1), (yz a c, yr a c)] := fun p hp => by
   simp only [List.mem_cons, nN_, or_false] at hp
   rcases hp with rfl | rfl | rfl | rfl
   ·decide
   ·decide
   ·decide
   ·obtain ⟨g, g0, f1, f2, f3, f4, f5⟩ := jG a hc0
    exact ⟨f3, by show yr a c <= 1000; omega, by show yz a c <= 1000; omega, qhc a hc0⟩
  have st := fun p hp' o6 => qiG hk hl (r := R) (p := p) (hp p hp') A I B o6 o7 o8 o9 o10 o11
  obtain ⟨q0, s0⟩ := st (0, 1) (by simp) o6
  obtain ⟨q1, s1⟩ := st (1, 1) (by simp) q0
  obtain ⟨q2, s2⟩ := st (2, 1) (by simp) q1
  obtain ⟨q3, s3⟩ := st (yz a c, yr a c) (by simp) q2
  let Q : Option D := some (wT a c)
  let t : Nat -> Nat := fun k => yz (swN ks (R + k)).1 (swN ks (R + k)).2
  let u : Nat -> Nat := fun k => yr (swN ks (R + k)).1 (swN ks (R + k)).2
  have ub : ∀ k, 0 < u k /\ u k <= 25 ^ 6 := fun k => qoc hk hl (R + k)
  let f : Nat -> Option D := fun k => some (frD (t k) (u k))
  let d10 : Option D := some (frD (t 1 * 2) (u 1))
  let d11 : Option D := some (frD (t 0 * u 2 + t 2 * u 0) (u 0 * u 2))
  have m6 : (25 : Nat) ^ 6 <= Mx := by decide
  have m12 : (25 : Nat) ^ 6 * 25 ^ 6 <= Mx := by decide
  have u02 : u 0 * u 2 <= Mx := Nat.le_trans (Nat.mul_le_mul (ub 0).2 (ub 2).2) m12
  refine ⟨[B, T, nO R, Q, q3, f 0, f 1, f 2, d10, d11], rfl, ?_⟩
  show qT _ _ [A, I, o2, o3, o4, o5, o6, o7, o8, o9, o10, o11] = _
  refine (qo (U' := [A, I, some (.lst [.int n]), o3, o4, o5, o6, o7, o8, o9, o10, o11]) ?_).trans ?_
  ·push_cast [A, I, eb, immFs, immF, immL, imm, Bool.and_self]
  refine (qo (U' := [A, I, some (.lst [.int n1]), T, o4, o5, o6, o7, o8, o9, o10, o11]) ?_).trans ?_
  ·push_cast [es, A, I, T]
  refine (qo (U' := [A, I, some (.lst [.int n2]), T, nO R, o5, o6, o7, o8, o9, o10, o11]) ?_).trans ?_
  ·push_cast [jL (m := 61) (by decide) (by decide), eR, A, I, T, nO, n2]
  refine (qo (U' := [A, I, some (.lst [.int n2]), T, nO R, o5, o6, o7, o8, o9, o10, o11]) (qdJ (yy (qZ (qQ rfl rfl (qiF hk hl hR)))))).trans ?_
  refine (qo (U' := [A, I, B, T, nO R, Q, q3, o7, o8, o9, o10, o11]) ?_).trans ?_
  ·have t1 : qz ql 2 (qd (ret (.int 30)) (ret [])) [A, I, some (.lst [.int n2]), T, nO R, o5, o6, o7, o8, o9, o10, o11] = .ok (.int (a : Nat), [A, I, some (.lst [.int n3]), T, nO R, o5, o6, o7, o8, o9, o10, o11]) := by
    push_cast [jL (m := 30) (by decide) (by decide)]
    rw [ea]
   have t2 : d2 ue (ret (.int 1)) (qz ql 2 (qd (ret (.int 9)) (ret []))) [A, I, some (.lst [.int n3]), T, nO R, o5, o6, o7, o8, o9, o10, o11] = .ok (.int (c : Nat), [A, I, B, T, nO R, o5, o6, o7, o8, o9, o10, o11]) := by
    push_cast [jL (m := 9) (by decide) (by decide), ui]
    rw [ec]
   have t3 : qg yR (qd (qz ql 2 (qd (ret (.int 30)) (ret []))) (qd (d2 ue (ret (.int 1)) (qz ql 2 (qd (ret (.int 9)) (ret [])))) (ret []))) [A, I, some (.lst [.int n2]), T, nO R, o5, o6, o7, o8, o9, o10, o11] = .ok (wT a c, [A, I, B, T, nO R, o5, o6, o7, o8, o9, o10, o11]) := by
    rw [j8]
    simp only [jq, t1, t2, qcf, qcz a hc0 (Nat.lt_of_le_of_lt (show c <= 1000 by omega) (show 1000 < big by decide))]
   have el : (qbP (qa3 (qd (qaL (qd (ret (.int 0)) (qd (ret (.int 1)) (ret [])))) (qd (qaL (qd (ret (.int 1)) (qd (ret (.int 1)) (ret [])))) (qd (qaL (qd (ret (.int 2)) (qd (ret (.int 1)) (ret [])))) (qd (qg yR (qd (qz ql 2 (qd (ret (.int 30)) (ret []))) (qd (d2 ue (ret (.int 1)) (qz ql 2 (qd (ret (.int 9)) (ret [])))) (ret [])))) (ret []))))))) [A, I, some (.lst [.int n2]), T, nO R, o5, o6, o7, o8, o9, o10, o11] = .ok ([fr (0, 1), fr (1, 1), fr (2, 1), wT a c], [A, I, B, T, nO R, o5, o6, o7, o8, o9, o10, o11]) := by
    rw [qbg, qgu]
    simp only [jq, qeC, qcf, t3, yY (show 2 <= 1000000 by omega), yY (show 4 <= 1000000 by omega), lC_, lN_, Nat.reduceAdd, if_true]
    rfl
   rw [ve, el]
   show yf (qF 5) _ _ _ = _
   rw [ji (U1 := [A, I, B, T, nO R, some (fr (0, 1)), o6, o7, o8, o9, o10, o11]) rfl s0, ji (U1 := [A, I, B, T, nO R, some (fr (1, 1)), q0, o7, o8, o9, o10, o11]) rfl s1, ji (U1 := [A, I, B, T, nO R, some (fr (2, 1)), q1, o7, o8, o9, o10, o11]) rfl s2, ji (U1 := [A, I, B, T, nO R, some (fr (yz a c, yr a c)), q2, o7, o8, o9, o10, o11]) rfl s3]
   rfl
  refine (qo (U' := [A, I, B, T, nO R, Q, q3, f 0, f 1, f 2, o10, o11]) ?_).trans ?_
  ·have c3 := qeX (U := [A, I, B, T, nO R, Q, q3, o7, o8, o9, o10, o11]) (fr := [3, 4]) (r := [T, nO R]) (xs := vq (qd (ret (.int 3)) (ret []))) (e := qg qS (qd (dv 1) (qd (d2 ue (dv 2) (dv 0)) (ret [])))) (k := iD) (List.range 3) (fun k => frD (t k) (u k)) (by rw [vQ (j := 3) (U1 := [A, I, B, T, nO R, Q, q3, o7, o8, o9, o10, o11]) rfl (by decide) (by decide)]; rfl) rfl (by decide) fun k _ => qQ rfl (qi rfl rfl (qis R k)) (jn S.w S.g S.l S.p (R + k))
   rw [qgw, c3]
   rfl
  let U7 : Env := [A, I, B, T, nO R, Q, q3, f 0, f 1, f 2, o10, o11]
  refine (qo (U' := [A, I, B, T, nO R, Q, q3, f 0, f 1, f 2, d10, o11]) (y0 (U1 := U7) (qjm (qi (qi rfl rfl (qaG _ _)) rfl (jQ (t 1) (b := 2) (by decide))) (qi rfl rfl (vy _ _))))).trans ?_
  let U8 : Env := [A, I, B, T, nO R, Q, q3, f 0, f 1, f 2, d10, o11]
  refine (qo (U' := [A, I, B, T, nO R, Q, q3, f 0, f 1, f 2, d10, d11]) (y0 (U1 := U8) (qjm (qi (qi (qi rfl rfl (qaG _ _)) (qi rfl rfl (vy _ _)) (jQ (t 0) (Nat.le_trans (ub 2).2 m6))) (qi (qi rfl rfl (qaG _ _)) (qi rfl rfl (vy _ _)) (jQ (t 2) (Nat.le_trans (ub 0).2 m6))) (qis _ _)) (qi (qi rfl rfl (vy _ _)) (qi rfl rfl (vy _ _)) (jQ (u 0) (Nat.le_trans (ub 2).2 m6)))))).trans ?_
  let U9 : Env := [A, I, B, T, nO R, Q, q3, f 0, f 1, f 2, d10, d11]
  have k1 := qbx (a := t 0 * u 2 + t 2 * u 0) (b := u 0 * u 2) (c := t 1 * 2) (d := u 1) u02 (Nat.le_trans (ub 1).2 m6)
  have k2 := qbx (a := t 0) (b := u 0) (c := t 1) (d := u 1) (Nat.le_trans (ub 0).2 m6) (Nat.le_trans (ub 1).2 m6)
  rw [decide_eq_true (show (t 0 * u 2 + t 2 * u 0) * u 1 <= t 1 * 2 * (u 0 * u 2) by
   have sc := qkO S.w R
   obtain ⟨g0, x0, a0, b0, _, _, _⟩ := jG (swN ks (R + 0)).1 (qjx hk hl (R + 0)).1
   obtain ⟨g1, x1, a1, b1, _, _, _⟩ := jG (swN ks (R + 1)).1 (qjx hk hl (R + 1)).1
   obtain ⟨g2, x2, a2, b2, _, _, _⟩ := jG (swN ks (R + 2)).1 (qjx hk hl (R + 2)).1
   have a0 : (swN ks R).1 = g0 * t 0 := a0
   have b0 : (swN ks R).2 = g0 * u 0 := b0
   have a1 : (swN ks (R + 1)).1 = g1 * t 1 := a1
   have b1 : (swN ks (R + 1)).2 = g1 * u 1 := b1
   have a2 : (swN ks (R + 2)).1 = g2 * t 2 := a2
   have b2 : (swN ks (R + 2)).2 = g2 * u 2 := b2
   rw [a0, b0, a1, b1, a2, b2] at sc
   clear a0 b0 a1 b1 a2 b2
   generalize t 0 = t0 at *
   generalize t 1 = t1 at *
   generalize t 2 = t2 at *
   generalize u 0 = u0 at *
   generalize u 1 = u1 at *
   generalize u 2 = u2 at *
   have e1 : (g0 * t0 * (g2 * u2) + g2 * t2 * (g0 * u0)) * (g1 * u1) = g0 * g1 * g2 * ((t0 * u2 + t2 * u0) * u1) := by grind
   have e2 : g1 * t1 * 2 * (g0 * u0 * (g2 * u2)) = g0 * g1 * g2 * (t1 * 2 * (u0 * u2)) := by grind
   rw [e1, e2] at sc
   exact Nat.le_of_mul_le_mul_left sc (Nat.mul_pos (Nat.mul_pos x0 x1) x2))] at k1
  rw [decide_eq_true (show t 0 * u 1 <= t 1 * u 0 from qjw (qjx hk hl (R + 0)).1 (qjx hk hl (R + 1)).1 (qkN S.w (by omega)))] at k2
  exact qdJ (qlf (yy (qZ (qQ (f := dv 11) (g := dv 10) (U := U9) rfl rfl k1))) (yy (qZ (qQ (f := dv 7) (g := dv 8) (U := U9) rfl rfl k2))))
section
variable {P : Program} {w : World} {K : PySem.W.Frag} {mg : Str -> Option Value} {base : Heap}
variable {f : Addr} {fd : FuncData}
set_option maxHeartbeats 4000000
theorem qby : qs ["one", "other"] ["one", "other"] (qe zH) := ⟨rfl, rfl, rfl, by decide +kernel, rfl, by decide +kernel, by decide +kernel⟩
section
variable (P : Program) (w : World) (K : Fr0) (mg : Str -> Option Value) (base : Heap)
abbrev Q0 : Prop := qC P w K mg base 1 "_law_no_more" ["one", "other"] (spD K qG)
abbrev Q1 : Prop := qC P w K mg base 1 "weights_product" ["store"] (spD K je)
abbrev Q2 : Prop := qC P w K mg base 2 "dearest_first" ["store"] (spD K qU)
abbrev Q3 : Prop := qC P w K mg base 1 "all_go_in" ["kind", "room"] (spD K zA)
abbrev Q4 : Prop := qC P w K mg base 2 "room_behind" ["kind", "room"] (spD K zk)
abbrev Q5 : Prop := qC P w K mg base 1 "greatest_divisor" ["one", "other"] (spD K zl)
abbrev Q6 : Prop := qC P w K mg base 2 "lowest_terms" ["top", "bottom"] (spD K qR)
abbrev Q7 : Prop := qC P w K mg base 3 "best_share" ["kind", "room"] (spD K yh)
abbrev Q8 : Prop := qC P w K mg base 1 "is_whole" ["thing"] (spD K vT)
abbrev Q9 : Prop := qC P w K mg base 2 "is_count" ["thing"] (spD K qW)
abbrev Q10 : Prop := qC P w K mg base 3 "need_count" ["thing"] (spD K zV)
abbrev Q11 : Prop := qC P w K mg base 3 "is_kind" ["thing"] (spD K vE)
abbrev Q12 : Prop := qC P w K mg base 4 "is_store" ["thing"] (spD K vU)
abbrev Q13 : Prop := qC P w K mg base 5 "need_store" ["thing"] (spD K zW)
abbrev Q14 : Prop := qC P w K mg base 6 "best_shares" ["store", "room"] (spD K zb)
abbrev Q15 : Prop := qC P w K mg base 3 "added" ["one", "other"] (spD K qao)
abbrev Q16 : Prop := qC P w K mg base 7 "share_worth" ["store", "room"] (spD K qS)
abbrev Q17 : Prop := qC P w K mg base 1 "_law_common" ["one", "other"] (spD K yB)
abbrev Q18 : Prop := qC P w K mg base 2 "_law_low" ["top", "bottom"] (spD K yR)
abbrev Q19 : Prop := qC P w K mg base 1 "_law_take" ["box", "many"] (qhv K ql)
abbrev Q20 : Prop := qC P w K mg base 3 "bound_of" ["store", "room", "price"] (spD K vW)
abbrev Q21 : Prop := qC P w K mg base 3 "is_price" ["thing"] (spD K vX)
abbrev Q22 : Prop := qC P w K mg base 4 "need_price" ["thing"] (spD K vF)
abbrev Q23 : Prop := qC P w K mg base 6 "bound" ["store", "room", "price"] (spD K qar)
abbrev Q24 : Prop := qC P w K mg base 6 "some_price" ["store", "room"] (spD K ul)
abbrev Q25 : Prop := qC P w K mg base 1 "taken_together" ["store", "load", "part"] (spD K zG)
abbrev Q26 : Prop := qC P w K mg base 3 "can_take" ["kind", "times"] (spD K yS)
abbrev Q27 : Prop := qC P w K mg base 6 "is_load" ["thing", "store"] (spD K uI)
abbrev Q28 : Prop := qC P w K mg base 7 "need_load" ["store", "thing"] (spD K u4)
abbrev Q29 : Prop := qC P w K mg base 8 "worth" ["store", "load"] (spD K uz)
abbrev Q30 : Prop := qC P w K mg base 8 "fits" ["store", "load", "room"] (spD K qdx)
abbrev Q31 : Prop := qC P w K mg base 7 "cut_load" ["store", "room"] (spD K vY)
abbrev Q32 : Prop := qC P w K mg base 8 "whole_bound" ["store", "room"] (spD K zn)
abbrev Q33 : Prop := qC P w K mg base 1 "most_within" ["kind", "room"] (spD K jK)
abbrev Q34 : Prop := qC P w K mg base 1 "room_left" ["kind", "times", "room"] (spD K u7)
abbrev Q35 : Prop := qC P w K mg base 2 "worth_with" ["kind", "times", "row", "room"] (spD K um)
abbrev Q36 : Prop := qC P w K mg base 3 "best_with" ["kind", "row", "room"] (spD K jt)
abbrev Q37 : Prop := qC P w K mg base 4 "best_rows" ["store", "room"] (spD K u8)
abbrev Q38 : Prop := qC P w K mg base 1 "need_few" ["number"] (spD K qau)
abbrev Q39 : Prop := qC P w K mg base 6 "need_asked" ["store", "number"] (spD K vH)
abbrev Q40 : Prop := qC P w K mg base 7 "best_worths" ["store", "room"] (spD K yC)
abbrev Q41 : Prop := qC P w K mg base 8 "best_worth" ["store", "room"] (spD K uo)
abbrev Q42 : Prop := qC P w K mg base 9 "_law_right" ["store", "room"] (spD K uq)
abbrev Q43 : Prop := qC P w K mg base 2 "_law_kind_of" ["box", "ends"] (qhv K zr)
abbrev Q44 : Prop := qC P w K mg base 3 "_law_stocked" ["box", "most", "ends"] (qhv K yb)
abbrev Q45 : Prop := qC P w K mg base 1 "_law_mix" ["cell", "k"] (spD K yT)
abbrev Q46 : Prop := qC P w K mg base 1 "_law_cell" ["script", "k"] (spD K j7)
abbrev Q47 : Prop := qC P w K mg base 2 "_law_box" ["script", "k"] (spD K uK)
end
theorem q0 (F : Fun K "_law_no_more" "_law_no_more" zH f fd) (m : mg "_law_no_more" = some (.ref f)) (T : Txt K mg) : Q0 P w K mg base := by
 refine ⟨f, fd, ?_, m, F.kp, F.binds fun _ _ _ _ _ _ us hl => match us, hl with | [_, _], _ => rfl⟩
 exact qx (N := ["one", "other"]) (O := []) (body := ux) F qby (by decide) fun cdv A outer s H E B hr => (qj (qy (v5 qfW qc3 (qu qM qE (qB qq qp (qc 0) qk) (qB qq qp (qc 1) qk)) (qu qM qE (qB qq qp (qc 1) qk) (qB qq qp (qc 0) qk)) (qK _))))
theorem zR : qs ["store", "product", "kind"] ["store"] (qe zd) := ⟨rfl, rfl, rfl, by decide +kernel, rfl, by decide +kernel, by decide +kernel⟩
theorem q1 (F : Fun K "weights_product" "weights_product" zd f fd) (m : mg "weights_product" = some (.ref f)) (T : Txt K mg) : Q1 P w K mg base := by
 refine ⟨f, fd, ?_, m, F.kp, F.binds fun _ _ _ _ _ _ us hl => match us, hl with | [_], _ => rfl⟩
 exact qx (N := ["store", "product", "kind"]) (O := []) (body := j6) F zR (by decide) fun cdv A outer s H E B hr => (qh (qP (i := 1) zR.nd qk)
   (qh (v6 PassesOwn.never rfl (wH (qc 0)) (qL (i := 2) zR.nd) (qj (qP (i := 1) zR.nd (qu qM qE (qc 1) (qB qq qp (qc 2) (gI T.c_WEIGHT))))))
   (qj (qy (qc 1)))))
theorem yw : qs ["store", "product", "places"] ["store"] (qe qN) := ⟨rfl, rfl, rfl, by decide +kernel, rfl, by decide +kernel, by decide +kernel⟩
theorem q2 (F : Fun K "dearest_first" "dearest_first" qN f fd) (m : mg "dearest_first" = some (.ref f)) (T : Txt K mg) {c0 Pt : Addr} (hcc : fd.code = .ref c0) (hch : PySem.W.codeHdIn K c0 Pt = true) (hlm : qbC K = some (c0, Pt, ⟨91, 30, 91, 100⟩)) (C_weights_product : Q1 P w K mg base) : Q2 P w K mg base := by
 refine ⟨f, fd, ?_, m, F.kp, F.binds fun _ _ _ _ _ _ us hl => match us, hl with | [_], _ => rfl⟩
 show qbA P w K mg base CX0 2 f fd ["store"] (spD K (dfn (["store", "product", "places"] : List Str).length (["store"] : List Str).length jI))
 refine qil (N := ["store", "product", "places"]) (ps := ["store"]) (k := 1) (O := []) (body := jI) F yw ?a ?b
 case a => decide
 intro A outer s H E B hr
 exact (qh (qP (i := 1) yw.nd (dC C_weights_product hr (qa (qc 0) qf)))
   (qh (qkp (i := 2) yw.nd (qko (fo := none) rfl (qkm rfl T.b_enumerate (qa (qc 0) qf)) (cs ["store", "product", "places"] ["place", "kind"] 2 [] (qe qN)) (f0 [] []) (fun _ _ _ _ _ _ _ _ _ _ _ => ⟨(qc1 (n := 2) rfl (z5 (qL (i := 0) (nd ["place", "kind"])) (z5 (qL (i := 1) (nd ["place", "kind"])) wZ))), (qiZ (zj qcN qaz (qB qq qp (qc 1) (gI T.c_WORTH)) qk (qK _))), (qc 0)⟩)) rfl (cs ["store", "product", "places"] ["place", "kind"] 2 [] (qe qN)))
   (qj (qy (qij (N' := ["place", "product", "store"]) (fr := [1, 0]) (qc 2) (cs ["store", "product", "places"] ["place", "product", "store"] 1 [1, 0] (qe qN)) (f0 (nt := 0) [1, 0] []) hr rfl T.b_sorted hcc hch hlm (fun _ _ _ _ _ _ => (qu qM qE (qml (qB qq qp (qB qq qp (qc 2) (qc 0)) (gI T.c_WORTH))) (qu yV jD (qc 1) (qB qq qp (qB qq qp (qc 2) (qc 0)) (gI T.c_WEIGHT))))))))))
theorem qdD : qs ["kind", "room"] ["kind", "room"] (qe jU) := ⟨rfl, rfl, rfl, by decide +kernel, rfl, by decide +kernel, by decide +kernel⟩
theorem q3 (F : Fun K "all_go_in" "all_go_in" jU f fd) (m : mg "all_go_in" = some (.ref f)) (T : Txt K mg) : Q3 P w K mg base := by
 refine ⟨f, fd, ?_, m, F.kp, F.binds fun _ _ _ _ _ _ us hl => match us, hl with | [_, _], _ => rfl⟩
 exact qx (N := ["kind", "room"]) (O := []) (body := wv) F qdD (by decide) fun cdv A outer s H E B hr => (qj (qy (qc0 (v5 qfX qeu (qB qq qp (qc 0) (gI T.c_MOST)) qay (qK _)) (qa6 (v5 qfW qc3 (qu qM qE (qB qq qp (qc 0) (gI T.c_MOST)) (qB qq qp (qc 0) (gI T.c_WEIGHT))) (qc 1) (qK _))))))
theorem qbJ : qs ["kind", "room"] ["kind", "room"] (qe z7) := ⟨rfl, rfl, rfl, by decide +kernel, rfl, by decide +kernel, by decide +kernel⟩
theorem q4 (F : Fun K "room_behind" "room_behind" z7 f fd) (m : mg "room_behind" = some (.ref f)) (T : Txt K mg) (C_all_go_in : Q3 P w K mg base) : Q4 P w K mg base := by
 refine ⟨f, fd, ?_, m, F.kp, F.binds fun _ _ _ _ _ _ us hl => match us, hl with | [_, _], _ => rfl⟩
 exact qx (N := ["kind", "room"]) (O := []) (body := uW) F qbJ (by decide) fun cdv A outer s H E B hr => (qj (qy (qjS (ju (dC C_all_go_in hr (qa (qc 0) (qa (qc 1) qf)))) (qu qfS qdQ (qc 1) (qu qM qE (qB qq qp (qc 0) (gI T.c_MOST)) (qB qq qp (qc 0) (gI T.c_WEIGHT)))) qk)))
theorem zC : qs ["one", "other", "rest"] ["one", "other"] (qe qV) := ⟨rfl, rfl, rfl, by decide +kernel, rfl, by decide +kernel, by decide +kernel⟩
theorem q5 (F : Fun K "greatest_divisor" "greatest_divisor" qV f fd) (m : mg "greatest_divisor" = some (.ref f)) (T : Txt K mg) : Q5 P w K mg base := by
 refine ⟨f, fd, ?_, m, F.kp, F.binds fun _ _ _ _ _ _ us hl => match us, hl with | [_, _], _ => rfl⟩
 exact qx (N := ["one", "other", "rest"]) (O := []) (body := jJ) F zC (by decide) fun cdv A outer s H E B hr => (qh (qeH PassesOwn.never (zj qcN qaz (qc 1) qk (qK _)) (qh (qP (i := 2) zC.nd (qu qaV wl (qc 0) (qc 1)))
   (qh (qP (i := 0) zC.nd (qc 1))
   (qj (qP (i := 1) zC.nd (qc 2))))))
   (qj (qy (qc 0))))
theorem vK : qs ["top", "bottom", "divisor"] ["top", "bottom"] (qe zJ) := ⟨rfl, rfl, rfl, by decide +kernel, rfl, by decide +kernel, by decide +kernel⟩
theorem q6 (F : Fun K "lowest_terms" "lowest_terms" zJ f fd) (m : mg "lowest_terms" = some (.ref f)) (T : Txt K mg) (C_greatest_divisor : Q5 P w K mg base) : Q6 P w K mg base := by
 refine ⟨f, fd, ?_, m, F.kp, F.binds fun _ _ _ _ _ _ us hl => match us, hl with | [_, _], _ => rfl⟩
 exact qx (N := ["top", "bottom", "divisor"]) (O := []) (body := uy) F vK (by decide) fun cdv A outer s H E B hr => (qh (qP (i := 2) vK.nd (dC C_greatest_divisor hr (qa (qc 0) (qa (qc 1) qf))))
   (qj (qy (vd (qa (qu yV jD (qc 0) (qc 2)) (qa (qu yV jD (qc 1) (qc 2)) qf))))))
theorem qcE : qs ["kind", "room"] ["kind", "room"] (qe jv) := ⟨rfl, rfl, rfl, by decide +kernel, rfl, by decide +kernel, by decide +kernel⟩
theorem q7 (F : Fun K "best_share" "best_share" jv f fd) (m : mg "best_share" = some (.ref f)) (T : Txt K mg) (C_all_go_in : Q3 P w K mg base) (C_lowest_terms : Q6 P w K mg base) : Q7 P w K mg base := by
 refine ⟨f, fd, ?_, m, F.kp, F.binds fun _ _ _ _ _ _ us hl => match us, hl with | [_, _], _ => rfl⟩
 exact qx (N := ["kind", "room"]) (O := []) (body := vC) F qcE (by decide) fun cdv A outer s H E B hr => (qj (qy (qjS (ju (dC C_all_go_in hr (qa (qc 0) (qa (qc 1) qf)))) (vd (qa (qB qq qp (qc 0) (gI T.c_MOST)) (qa qk qf))) (dC C_lowest_terms hr (qa (qc 1) (qa (qB qq qp (qc 0) (gI T.c_WEIGHT)) qf))))))
theorem qeg : qs ["thing"] ["thing"] (qe yI) := ⟨rfl, rfl, rfl, by decide +kernel, rfl, by decide +kernel, by decide +kernel⟩
theorem q8 (F : Fun K "is_whole" "is_whole" yI f fd) (m : mg "is_whole" = some (.ref f)) (T : Txt K mg) : Q8 P w K mg base := by
 refine ⟨f, fd, ?_, m, F.kp, F.binds fun _ _ _ _ _ _ us hl => match us, hl with | [_], _ => rfl⟩
 exact qx (N := ["thing"]) (O := []) (body := qal) F qeg (by decide) fun cdv A outer s H E B hr => (qj (qy (qc0 (qbN qjZ rfl T.b_isinstance rfl T.b_int qmo (qc 0) z6) (qa6 (qlU (qbN qhR rfl T.b_isinstance rfl T.b_bool qkg (qc 0) z6))))))
theorem qeh : qs ["thing"] ["thing"] (qe yJ) := ⟨rfl, rfl, rfl, by decide +kernel, rfl, by decide +kernel, by decide +kernel⟩
theorem q9 (F : Fun K "is_count" "is_count" yJ f fd) (m : mg "is_count" = some (.ref f)) (T : Txt K mg) (C_is_whole : Q8 P w K mg base) : Q9 P w K mg base := by
 refine ⟨f, fd, ?_, m, F.kp, F.binds fun _ _ _ _ _ _ us hl => match us, hl with | [_], _ => rfl⟩
 exact qx (N := ["thing"]) (O := []) (body := qam) F qeh (by decide) fun cdv A outer s H E B hr => (qj (qy (qc0 (dC C_is_whole hr (qa (qc 0) qf)) (qa6 (v5 qnB qlZ (qc 0) qk (qK _))))))
theorem qcF : qs ["thing"] ["thing"] (qe jw) := ⟨rfl, rfl, rfl, by decide +kernel, rfl, by decide +kernel, by decide +kernel⟩
theorem q10 (F : Fun K "need_count" "need_count" jw f fd) (m : mg "need_count" = some (.ref f)) (T : Txt K mg) (C_is_count : Q9 P w K mg base) : Q10 P w K mg base := by
 refine ⟨f, fd, ?_, m, F.kp, F.binds fun _ _ _ _ _ _ us hl => match us, hl with | [_], _ => rfl⟩
 exact qx (N := ["thing"]) (O := []) (body := yi) F qcF (by decide) fun cdv A outer s H E B hr => (qj (jR (jO (ju (dC C_is_count hr (qa (qc 0) qf)))) (qj vt) qH))
theorem qfK : qs ["thing"] ["thing"] (qe uH) := ⟨rfl, rfl, rfl, by decide +kernel, rfl, by decide +kernel, by decide +kernel⟩
theorem q11 (F : Fun K "is_kind" "is_kind" uH f fd) (m : mg "is_kind" = some (.ref f)) (T : Txt K mg) (C_is_count : Q9 P w K mg base) : Q11 P w K mg base := by
 refine ⟨f, fd, ?_, m, F.kp, F.binds fun _ _ _ _ _ _ us hl => match us, hl with | [_], _ => rfl⟩
 exact qx (N := ["thing"]) (O := []) (body := qbq) F qfK (by decide) fun cdv A outer s H E B hr => (qh (jR (DW.dt (qa5 (jO (ju (qbN wE rfl T.b_isinstance rfl T.b_tuple uQ (qc 0) z6))) (wD (zj (qbR hr) qaa (zf jE ye rfl T.b_len qaB (qa (qc 0) qf)) qk (qK _))))) (qj (qy v0)) qH)
   (qh (jR (DW.dt (qa5 (jO (ju (dC C_is_count hr (qa (qB qq qp (qc 0) (gI T.c_WEIGHT)) qf)))) (wD (zj (v7 hr) uw (qB qq qp (qc 0) (gI T.c_WEIGHT)) qk (qK _))))) (qj (qy v0)) qH)
   (qj (qy (qc0 (dC C_is_count hr (qa (qB qq qp (qc 0) (gI T.c_WORTH)) qf)) (qa6 (qlV (v5 qeo qb7 (qB qq qp (qc 0) (gI T.c_MOST)) qay (qK _)) (qa6 (dC C_is_count hr (qa (qB qq qp (qc 0) (gI T.c_MOST)) qf))))))))))
theorem qei : qs ["thing"] ["thing"] (qe jV) := ⟨rfl, rfl, rfl, by decide +kernel, rfl, by decide +kernel, by decide +kernel⟩
theorem q12 (F : Fun K "is_store" "is_store" jV f fd) (m : mg "is_store" = some (.ref f)) (T : Txt K mg) (C_is_kind : Q11 P w K mg base) : Q12 P w K mg base := by
 refine ⟨f, fd, ?_, m, F.kp, F.binds fun _ _ _ _ _ _ us hl => match us, hl with | [_], _ => rfl⟩
 exact qx (N := ["thing"]) (O := []) (body := qan) F qei (by decide) fun cdv A outer s H E B hr => (qh (jR (DW.dt (qa5 (jO (ju (qbN wE rfl T.b_isinstance rfl T.b_tuple uQ (qc 0) z6))) (wD (zj qcN qaz (zf jE ye rfl T.b_len qaB (qa (qc 0) qf)) (gI T.c_KINDS_AT_MOST) (qK _))))) (qj (qy v0)) qH)
   (qj (qy (zf (qew rfl) qc6 rfl T.b_all qi6 (qa (uP (fo := none) rfl (wH (qc 0)) (cs ["thing"] ["part"] 1 [] (qe jV)) (f0 [] []) (fun _ _ _ _ _ _ _ _ _ _ _ => ⟨(qL (i := 0) (nd ["part"])), qaA, (dC C_is_kind hr (qa (qc 0) qf))⟩)) qf)))))
theorem qcG : qs ["thing"] ["thing"] (qe jx) := ⟨rfl, rfl, rfl, by decide +kernel, rfl, by decide +kernel, by decide +kernel⟩
theorem q13 (F : Fun K "need_store" "need_store" jx f fd) (m : mg "need_store" = some (.ref f)) (T : Txt K mg) (C_is_store : Q12 P w K mg base) : Q13 P w K mg base := by
 refine ⟨f, fd, ?_, m, F.kp, F.binds fun _ _ _ _ _ _ us hl => match us, hl with | [_], _ => rfl⟩
 exact qx (N := ["thing"]) (O := []) (body := yj) F qcG (by decide) fun cdv A outer s H E B hr => (qj (jR (jO (ju (dC C_is_store hr (qa (qc 0) qf)))) (qj vt) qH))
theorem jj : qs ["store", "room", "shares", "left", "place"] ["store", "room"] (qe z8) := ⟨rfl, rfl, rfl, by decide +kernel, rfl, by decide +kernel, by decide +kernel⟩
theorem q14 (F : Fun K "best_shares" "best_shares" z8 f fd) (m : mg "best_shares" = some (.ref f)) (T : Txt K mg) (C_dearest_first : Q2 P w K mg base) (C_room_behind : Q4 P w K mg base) (C_best_share : Q7 P w K mg base) (C_need_count : Q10 P w K mg base) (C_need_store : Q13 P w K mg base) : Q14 P w K mg base := by
 refine ⟨f, fd, ?_, m, F.kp, F.binds fun _ _ _ _ _ _ us hl => match us, hl with | [_, _], _ => rfl⟩
 exact qx (N := ["store", "room", "shares", "left", "place"]) (O := [2]) (body := uX) F jj (by decide) fun cdv A outer s H E B hr => (qh (zT (dC C_need_store hr (qa (qc 0) qf)))
   (qh (zT (dC C_need_count hr (qa (qc 1) qf)))
   (qh (qcb (i := 2) jj.nd (qmB (v4 (qa (gT (ns := [0, 1]) T.c_NOTHING) qf)) (zf jE ye rfl T.b_len qaB (qa (qc 0) qf))))
   (qh (qP (i := 3) jj.nd (qc 1))
   (qh (v6 PassesOwn.never rfl (wH (dC C_dearest_first hr (qa (qc 0) qf))) (qL (i := 4) jj.nd) (qh (qgi (i := 2) (dC C_best_share hr (qa (qB qq qp (qc 0) (qc 4)) (qa (qc 3) qf))) (qc 4))
   (qj (qP (i := 3) jj.nd (dC C_room_behind hr (qa (qB qq qp (qc 0) (qc 4)) (qa (qc 3) qf)))))))
   (qj (qy (qgj (i := 2) rfl T.b_tuple uQ))))))))
theorem qiH : qs ["one", "other"] ["one", "other"] (qe qai) := ⟨rfl, rfl, rfl, by decide +kernel, rfl, by decide +kernel, by decide +kernel⟩
theorem q15 (F : Fun K "added" "added" qai f fd) (m : mg "added" = some (.ref f)) (T : Txt K mg) (C_lowest_terms : Q6 P w K mg base) : Q15 P w K mg base := by
 refine ⟨f, fd, ?_, m, F.kp, F.binds fun _ _ _ _ _ _ us hl => match us, hl with | [_, _], _ => rfl⟩
 exact qx (N := ["one", "other"]) (O := []) (body := qea) F qiH (by decide) fun cdv A outer s H E B hr => (qj (qy (dC C_lowest_terms hr (qa (qu zv zw (qu qM qE (qB qq qp (qc 0) (gI T.c_TOP)) (qB qq qp (qc 1) (gI T.c_BOTTOM))) (qu qM qE (qB qq qp (qc 1) (gI T.c_TOP)) (qB qq qp (qc 0) (gI T.c_BOTTOM)))) (qa (qu qM qE (qB qq qp (qc 0) (gI T.c_BOTTOM)) (qB qq qp (qc 1) (gI T.c_BOTTOM))) qf)))))
theorem jk : qs ["store", "room", "total", "kind", "share"] ["store", "room"] (qe z9) := ⟨rfl, rfl, rfl, by decide +kernel, rfl, by decide +kernel, by decide +kernel⟩
theorem q16 (F : Fun K "share_worth" "share_worth" z9 f fd) (m : mg "share_worth" = some (.ref f)) (T : Txt K mg) (C_best_shares : Q14 P w K mg base) (C_added : Q15 P w K mg base) : Q16 P w K mg base := by
 refine ⟨f, fd, ?_, m, F.kp, F.binds fun _ _ _ _ _ _ us hl => match us, hl with | [_, _], _ => rfl⟩
 exact qx (N := ["store", "room", "total", "kind", "share"]) (O := []) (body := uY) F jk (by decide) fun cdv A outer s H E B hr => (qh (qP (i := 2) jk.nd (gT (ns := [0, 1]) T.c_NOTHING))
   (qh (v6 PassesOwn.never rfl (qgp rfl T.b_zip (qa (qc 0) (qa (dC C_best_shares hr (qa (qc 0) (qa (qc 1) qf))) qf))) (qc1 (n := 2) rfl (z5 (qL (i := 3) jk.nd) (z5 (qL (i := 4) jk.nd) wZ))) (qj (qP (i := 2) jk.nd (dC C_added hr (qa (qc 2) (qa (vd (qa (qu qM qE (qB qq qp (qc 4) (gI T.c_TOP)) (qB qq qp (qc 3) (gI T.c_WORTH))) (qa (qB qq qp (qc 4) (gI T.c_BOTTOM)) qf))) qf))))))
   (qj (qy (qc 2)))))
theorem v9 : qs ["one", "other"] ["one", "other"] (qe ja) := ⟨rfl, rfl, rfl, by decide +kernel, rfl, by decide +kernel, by decide +kernel⟩
theorem q17 (F : Fun K "_law_common" "_law_common" ja f fd) (m : mg "_law_common" = some (.ref f)) (T : Txt K mg) : Q17 P w K mg base := by
 refine ⟨f, fd, ?_, m, F.kp, F.binds fun _ _ _ _ _ _ us hl => match us, hl with | [_, _], _ => rfl⟩
 exact qx (N := ["one", "other"]) (O := []) (body := uZ) F v9 (by decide) fun cdv A outer s H E B hr => (qh (qeH PassesOwn.never (zj (qbR hr) qaa (qc 1) qk (qK _)) (qj (qeB (i := 0) (j := 1) v9.nd (qa (qc 1) (qa (qu qaV wl (qc 0) (qc 1)) qf)) rfl)))
   (qj (qy (qc 0))))
theorem qbz : qs ["top", "bottom", "by"] ["top", "bottom"] (qe yK) := ⟨rfl, rfl, rfl, by decide +kernel, rfl, by decide +kernel, by decide +kernel⟩
theorem q18 (F : Fun K "_law_low" "_law_low" yK f fd) (m : mg "_law_low" = some (.ref f)) (T : Txt K mg) (C__law_common : Q17 P w K mg base) : Q18 P w K mg base := by
 refine ⟨f, fd, ?_, m, F.kp, F.binds fun _ _ _ _ _ _ us hl => match us, hl with | [_, _], _ => rfl⟩
 exact qx (N := ["top", "bottom", "by"]) (O := []) (body := qap) F qbz (by decide) fun cdv A outer s H E B hr => (qh (qP (i := 2) qbz.nd (dC C__law_common hr (qa (qc 0) (qa (qc 1) qf))))
   (qj (qy (vd (qa (qu yV jD (qc 0) (qc 2)) (qa (qu yV jD (qc 1) (qc 2)) qf))))))
theorem vL : qs ["box", "many", "left", "digit"] ["box", "many"] (qe jW) := ⟨rfl, rfl, rfl, by decide +kernel, rfl, by decide +kernel, by decide +kernel⟩
theorem q19 (F : Fun K "_law_take" "_law_take" jW f fd) (m : mg "_law_take" = some (.ref f)) (T : Txt K mg) : Q19 P w K mg base := by
 refine ⟨f, fd, ?_, m, F.kp, F.binds fun _ _ _ _ _ _ us hl => match us, hl with | [_, _], _ => rfl⟩
 show qbA P w K mg base CX0 1 f fd ["box", "many"] (qhv K (qbc (["box", "many", "left", "digit"] : List Str).length (["box", "many"] : List Str).length u3))
 refine qj6 (N := ["box", "many", "left", "digit"]) (ps := ["box", "many"]) (k := 0) (O := [0]) (body := u3) F vL ?a ?a0 ?b
 case a => decide
 case a0 => decide
 intro cdv A outer s H E B Io S hr
 exact (qh (qiR (zf qdL qc5 rfl T.b_divmod qgs (qa (qgk (i := 0) qk) (qa (qc 1) qf))) (qc1 (n := 2) rfl (z5 (qL (i := 2) vL.nd) (z5 (qL (i := 3) vL.nd) wZ))))
   (qh (qgi (i := 0) (qc 2) qk)
   (qj (qy (qc 3)))))
theorem y9 : qs ["store", "room", "price", "top", "kind", "more"] ["store", "room", "price"] (qe yL) := ⟨rfl, rfl, rfl, by decide +kernel, rfl, by decide +kernel, by decide +kernel⟩
theorem q20 (F : Fun K "bound_of" "bound_of" yL f fd) (m : mg "bound_of" = some (.ref f)) (T : Txt K mg) (C_lowest_terms : Q6 P w K mg base) : Q20 P w K mg base := by
 refine ⟨f, fd, ?_, m, F.kp, F.binds fun _ _ _ _ _ _ us hl => match us, hl with | [_, _, _], _ => rfl⟩
 exact qx (N := ["store", "room", "price", "top", "kind", "more"]) (O := []) (body := vV) F y9 (by decide) fun cdv A outer s H E B hr => (qh (qP (i := 3) y9.nd (qu qM qE (qc 1) (qB qq qp (qc 2) (gI T.c_TOP))))
   (qh (v6 PassesOwn.never rfl (wH (qc 0)) (qL (i := 4) y9.nd) (qh (qP (i := 5) y9.nd (qu qfS qdQ (qu qM qE (qB qq qp (qc 4) (gI T.c_WORTH)) (qB qq qp (qc 2) (gI T.c_BOTTOM))) (qu qM qE (qB qq qp (qc 4) (gI T.c_WEIGHT)) (qB qq qp (qc 2) (gI T.c_TOP)))))
   (qh (jR (DW.dt (qcZ (zj qcN qaz (qc 5) qk (qK _)) (qa4 (zj qeo qb7 (qB qq qp (qc 4) (gI T.c_MOST)) qay (qK _))))) (qj (qy qay)) qH)
   (qj (jR (zj qcN qaz (qc 5) qk (qK _)) (qj (qP (i := 3) y9.nd (qu zv zw (qc 3) (qu qM qE (qc 5) (qB qq qp (qc 4) (gI T.c_MOST)))))) qH)))))
   (qj (qy (dC C_lowest_terms hr (qa (qc 3) (qa (qB qq qp (qc 2) (gI T.c_BOTTOM)) qf)))))))
theorem qej : qs ["thing"] ["thing"] (qe yM) := ⟨rfl, rfl, rfl, by decide +kernel, rfl, by decide +kernel, by decide +kernel⟩
theorem q21 (F : Fun K "is_price" "is_price" yM f fd) (m : mg "is_price" = some (.ref f)) (T : Txt K mg) (C_greatest_divisor : Q5 P w K mg base) (C_is_count : Q9 P w K mg base) : Q21 P w K mg base := by
 refine ⟨f, fd, ?_, m, F.kp, F.binds fun _ _ _ _ _ _ us hl => match us, hl with | [_], _ => rfl⟩
 exact qx (N := ["thing"]) (O := []) (body := qaq) F qej (by decide) fun cdv A outer s H E B hr => (qh (jR (DW.dt (qa5 (jO (ju (qbN wE rfl T.b_isinstance rfl T.b_tuple uQ (qc 0) z6))) (wD (zj (qbR hr) qaa (zf jE ye rfl T.b_len qaB (qa (qc 0) qf)) qk (qK _))))) (qj (qy v0)) qH)
   (qh (jR (DW.dt (qa5 (jO (ju (dC C_is_count hr (qa (qB qq qp (qc 0) (gI T.c_TOP)) qf)))) (qa5 (jO (ju (dC C_is_count hr (qa (qB qq qp (qc 0) (gI T.c_BOTTOM)) qf)))) (wD (zj (v7 hr) uw (qB qq qp (qc 0) (gI T.c_BOTTOM)) qk (qK _)))))) (qj (qy v0)) qH)
   (qj (qy (v5 (v7 hr) uw (dC C_greatest_divisor hr (qa (qB qq qp (qc 0) (gI T.c_TOP)) (qa (qB qq qp (qc 0) (gI T.c_BOTTOM)) qf))) qk (qK _))))))
theorem qcH : qs ["thing"] ["thing"] (qe jy) := ⟨rfl, rfl, rfl, by decide +kernel, rfl, by decide +kernel, by decide +kernel⟩
theorem q22 (F : Fun K "need_price" "need_price" jy f fd) (m : mg "need_price" = some (.ref f)) (T : Txt K mg) (C_is_price : Q21 P w K mg base) : Q22 P w K mg base := by
 refine ⟨f, fd, ?_, m, F.kp, F.binds fun _ _ _ _ _ _ us hl => match us, hl with | [_], _ => rfl⟩
 exact qx (N := ["thing"]) (O := []) (body := yk) F qcH (by decide) fun cdv A outer s H E B hr => (qj (jR (jO (ju (dC C_is_price hr (qa (qc 0) qf)))) (qj vt) qH))
theorem qiI : qs ["store", "room", "price"] ["store", "room", "price"] (qe qaj) := ⟨rfl, rfl, rfl, by decide +kernel, rfl, by decide +kernel, by decide +kernel⟩
theorem q23 (F : Fun K "bound" "bound" qaj f fd) (m : mg "bound" = some (.ref f)) (T : Txt K mg) (C_bound_of : Q20 P w K mg base) (C_need_price : Q22 P w K mg base) (C_need_count : Q10 P w K mg base) (C_need_store : Q13 P w K mg base) : Q23 P w K mg base := by
 refine ⟨f, fd, ?_, m, F.kp, F.binds fun _ _ _ _ _ _ us hl => match us, hl with | [_, _, _], _ => rfl⟩
 exact qx (N := ["store", "room", "price"]) (O := []) (body := qeb) F qiI (by decide) fun cdv A outer s H E B hr => (qh (zT (dC C_need_store hr (qa (qc 0) qf)))
   (qh (zT (dC C_need_count hr (qa (qc 1) qf)))
   (qh (zT (dC C_need_price hr (qa (qc 2) qf)))
   (qj (qy (dC C_bound_of hr (qa (qc 0) (qa (qc 1) (qa (qc 2) qf)))))))))
theorem yD : qs ["store", "room", "left", "place"] ["store", "room"] (qe jz) := ⟨rfl, rfl, rfl, by decide +kernel, rfl, by decide +kernel, by decide +kernel⟩
theorem q24 (F : Fun K "some_price" "some_price" jz f fd) (m : mg "some_price" = some (.ref f)) (T : Txt K mg) (C_dearest_first : Q2 P w K mg base) (C_room_behind : Q4 P w K mg base) (C_all_go_in : Q3 P w K mg base) (C_lowest_terms : Q6 P w K mg base) (C_need_count : Q10 P w K mg base) (C_need_store : Q13 P w K mg base) : Q24 P w K mg base := by
 refine ⟨f, fd, ?_, m, F.kp, F.binds fun _ _ _ _ _ _ us hl => match us, hl with | [_, _], _ => rfl⟩
 exact qx (N := ["store", "room", "left", "place"]) (O := []) (body := uk) F yD (by decide) fun cdv A outer s H E B hr => (qh (zT (dC C_need_store hr (qa (qc 0) qf)))
   (qh (zT (dC C_need_count hr (qa (qc 1) qf)))
   (qh (qP (i := 2) yD.nd (qc 1))
   (qh (v6 PassesOwn.never rfl (wH (dC C_dearest_first hr (qa (qc 0) qf))) (qL (i := 3) yD.nd) (qh (jR (jO (ju (dC C_all_go_in hr (qa (qB qq qp (qc 0) (qc 3)) (qa (qc 2) qf))))) (qj (qy (dC C_lowest_terms hr (qa (qB qq qp (qB qq qp (qc 0) (qc 3)) (gI T.c_WORTH)) (qa (qB qq qp (qB qq qp (qc 0) (qc 3)) (gI T.c_WEIGHT)) qf))))) qH)
   (qj (qP (i := 2) yD.nd (dC C_room_behind hr (qa (qB qq qp (qc 0) (qc 3)) (qa (qc 2) qf)))))))
   (qj (qy (gT (ns := [0, 1]) T.c_NOTHING)))))))
theorem qaw : qs ["store", "load", "part"] ["store", "load", "part"] (qe qX) := ⟨rfl, rfl, rfl, by decide +kernel, rfl, by decide +kernel, by decide +kernel⟩
theorem q25 (F : Fun K "taken_together" "taken_together" qX f fd) (m : mg "taken_together" = some (.ref f)) (T : Txt K mg) : Q25 P w K mg base := by
 refine ⟨f, fd, ?_, m, F.kp, F.binds fun _ _ _ _ _ _ us hl => match us, hl with | [_, _, _], _ => rfl⟩
 exact qx (N := ["store", "load", "part"]) (O := []) (body := yt) F qaw (by decide) fun cdv A outer s H E B hr => (qj (qy (zf (qhV rfl) qge rfl T.b_sum qmn (qa (uP (fo := none) rfl (qgp rfl T.b_zip (qa (qc 0) (qa (qc 1) qf))) (cs ["store", "load", "part"] ["kind", "times", "part"] 2 [2] (qe qX)) (f0 [2] []) (fun _ _ _ _ _ _ _ _ _ _ _ => ⟨(qc1 (n := 2) rfl (z5 (qL (i := 0) (nd ["kind", "times", "part"])) (z5 (qL (i := 1) (nd ["kind", "times", "part"])) wZ))), qaA, (qu qM qE (qB qq qp (qc 0) (qc 2)) (qc 1))⟩)) qf))))
theorem qek : qs ["kind", "times"] ["kind", "times"] (qe yN) := ⟨rfl, rfl, rfl, by decide +kernel, rfl, by decide +kernel, by decide +kernel⟩
theorem q26 (F : Fun K "can_take" "can_take" yN f fd) (m : mg "can_take" = some (.ref f)) (T : Txt K mg) (C_is_count : Q9 P w K mg base) : Q26 P w K mg base := by
 refine ⟨f, fd, ?_, m, F.kp, F.binds fun _ _ _ _ _ _ us hl => match us, hl with | [_, _], _ => rfl⟩
 exact qx (N := ["kind", "times"]) (O := []) (body := qas) F qek (by decide) fun cdv A outer s H E B hr => (qj (qy (qc0 (dC C_is_count hr (qa (qc 1) qf)) (qa6 (qlV (v5 qeo qb7 (qB qq qp (qc 0) (gI T.c_MOST)) qay (qK _)) (qa6 (v5 qfW qc3 (qc 1) (qB qq qp (qc 0) (gI T.c_MOST)) (qK _))))))))
theorem qfL : qs ["thing", "store"] ["thing", "store"] (qe y7) := ⟨rfl, rfl, rfl, by decide +kernel, rfl, by decide +kernel, by decide +kernel⟩
theorem q27 (F : Fun K "is_load" "is_load" y7 f fd) (m : mg "is_load" = some (.ref f)) (T : Txt K mg) (C_can_take : Q26 P w K mg base) (C_need_store : Q13 P w K mg base) : Q27 P w K mg base := by
 refine ⟨f, fd, ?_, m, F.kp, F.binds fun _ _ _ _ _ _ us hl => match us, hl with | [_, _], _ => rfl⟩
 exact qx (N := ["thing", "store"]) (O := []) (body := qbr) F qfL (by decide) fun cdv A outer s H E B hr => (qh (zT (dC C_need_store hr (qa (qc 1) qf)))
   (qh (jR (DW.dt (qa5 (jO (ju (qbN wE rfl T.b_isinstance rfl T.b_tuple uQ (qc 0) z6))) (wD (zj (qbR hr) qaa (zf jE ye rfl T.b_len qaB (qa (qc 0) qf)) (zf jE ye rfl T.b_len qaB (qa (qc 1) qf)) (qK _))))) (qj (qy v0)) qH)
   (qj (qy (zf (qew rfl) qc6 rfl T.b_all qi6 (qa (uP (fo := none) rfl (qgp rfl T.b_zip (qa (qc 1) (qa (qc 0) qf))) (cs ["thing", "store"] ["kind", "times"] 2 [] (qe y7)) (f0 [] []) (fun _ _ _ _ _ _ _ _ _ _ _ => ⟨(qc1 (n := 2) rfl (z5 (qL (i := 0) (nd ["kind", "times"])) (z5 (qL (i := 1) (nd ["kind", "times"])) wZ))), qaA, (dC C_can_take hr (qa (qc 0) (qa (qc 1) qf)))⟩)) qf))))))
theorem qdE : qs ["store", "thing"] ["store", "thing"] (qe jX) := ⟨rfl, rfl, rfl, by decide +kernel, rfl, by decide +kernel, by decide +kernel⟩
theorem q28 (F : Fun K "need_load" "need_load" jX f fd) (m : mg "need_load" = some (.ref f)) (T : Txt K mg) (C_is_load : Q27 P w K mg base) : Q28 P w K mg base := by
 refine ⟨f, fd, ?_, m, F.kp, F.binds fun _ _ _ _ _ _ us hl => match us, hl with | [_, _], _ => rfl⟩
 exact qx (N := ["store", "thing"]) (O := []) (body := y8) F qdE (by decide) fun cdv A outer s H E B hr => (qj (jR (jO (ju (dC C_is_load hr (qa (qc 1) (qa (qc 0) qf))))) (qj vt) qH))
theorem qiJ : qs ["store", "load"] ["store", "load"] (qe qak) := ⟨rfl, rfl, rfl, by decide +kernel, rfl, by decide +kernel, by decide +kernel⟩
theorem q29 (F : Fun K "worth" "worth" qak f fd) (m : mg "worth" = some (.ref f)) (T : Txt K mg) (C_taken_together : Q25 P w K mg base) (C_need_load : Q28 P w K mg base) : Q29 P w K mg base := by
 refine ⟨f, fd, ?_, m, F.kp, F.binds fun _ _ _ _ _ _ us hl => match us, hl with | [_, _], _ => rfl⟩
 exact qx (N := ["store", "load"]) (O := []) (body := qec) F qiJ (by decide) fun cdv A outer s H E B hr => (qh (zT (dC C_need_load hr (qa (qc 0) (qa (qc 1) qf))))
   (qj (qy (dC C_taken_together hr (qa (qc 0) (qa (qc 1) (qa (gI T.c_WORTH) qf)))))))
theorem qk5 : qs ["store", "load", "room"] ["store", "load", "room"] (qe qbZ) := ⟨rfl, rfl, rfl, by decide +kernel, rfl, by decide +kernel, by decide +kernel⟩
theorem q30 (F : Fun K "fits" "fits" qbZ f fd) (m : mg "fits" = some (.ref f)) (T : Txt K mg) (C_taken_together : Q25 P w K mg base) (C_need_count : Q10 P w K mg base) (C_need_load : Q28 P w K mg base) : Q30 P w K mg base := by
 refine ⟨f, fd, ?_, m, F.kp, F.binds fun _ _ _ _ _ _ us hl => match us, hl with | [_, _, _], _ => rfl⟩
 exact qx (N := ["store", "load", "room"]) (O := []) (body := qhj) F qk5 (by decide) fun cdv A outer s H E B hr => (qh (zT (dC C_need_load hr (qa (qc 0) (qa (qc 1) qf))))
   (qh (zT (dC C_need_count hr (qa (qc 2) qf)))
   (qj (qy (v5 qfW qc3 (dC C_taken_together hr (qa (qc 0) (qa (qc 1) (qa (gI T.c_WEIGHT) qf)))) (qc 2) (qK _))))))
theorem qel : qs ["store", "room"] ["store", "room"] (qe jY) := ⟨rfl, rfl, rfl, by decide +kernel, rfl, by decide +kernel, by decide +kernel⟩
theorem q31 (F : Fun K "cut_load" "cut_load" jY f fd) (m : mg "cut_load" = some (.ref f)) (T : Txt K mg) (C_best_shares : Q14 P w K mg base) : Q31 P w K mg base := by
 refine ⟨f, fd, ?_, m, F.kp, F.binds fun _ _ _ _ _ _ us hl => match us, hl with | [_, _], _ => rfl⟩
 exact qx (N := ["store", "room"]) (O := []) (body := qat) F qel (by decide) fun cdv A outer s H E B hr => (qj (qy (qgb wC qdU rfl T.b_tuple uQ (qa (uP (fo := none) rfl (wH (dC C_best_shares hr (qa (qc 0) (qa (qc 1) qf)))) (cs ["store", "room"] ["share"] 1 [] (qe jY)) (f0 [] []) (fun _ _ _ _ _ _ _ _ _ _ _ => ⟨(qL (i := 0) (nd ["share"])), qaA, (qu yV jD (qB qq qp (qc 0) (gI T.c_TOP)) (qB qq qp (qc 0) (gI T.c_BOTTOM)))⟩)) qf))))
theorem wd : qs ["store", "room", "total"] ["store", "room"] (qe jb) := ⟨rfl, rfl, rfl, by decide +kernel, rfl, by decide +kernel, by decide +kernel⟩
theorem q32 (F : Fun K "whole_bound" "whole_bound" jb f fd) (m : mg "whole_bound" = some (.ref f)) (T : Txt K mg) (C_share_worth : Q16 P w K mg base) : Q32 P w K mg base := by
 refine ⟨f, fd, ?_, m, F.kp, F.binds fun _ _ _ _ _ _ us hl => match us, hl with | [_, _], _ => rfl⟩
 exact qx (N := ["store", "room", "total"]) (O := []) (body := u5) F wd (by decide) fun cdv A outer s H E B hr => (qh (qP (i := 2) wd.nd (dC C_share_worth hr (qa (qc 0) (qa (qc 1) qf))))
   (qj (qy (qu yV jD (qB qq qp (qc 2) (gI T.c_TOP)) (qB qq qp (qc 2) (gI T.c_BOTTOM))))))
theorem wf : qs ["kind", "room", "alone"] ["kind", "room"] (qe jc) := ⟨rfl, rfl, rfl, by decide +kernel, rfl, by decide +kernel, by decide +kernel⟩
theorem q33 (F : Fun K "most_within" "most_within" jc f fd) (m : mg "most_within" = some (.ref f)) (T : Txt K mg) : Q33 P w K mg base := by
 refine ⟨f, fd, ?_, m, F.kp, F.binds fun _ _ _ _ _ _ us hl => match us, hl with | [_, _], _ => rfl⟩
 exact qx (N := ["kind", "room", "alone"]) (O := []) (body := u6) F wf (by decide) fun cdv A outer s H E B hr => (qh (qP (i := 2) wf.nd (qu yV jD (qc 1) (qB qq qp (qc 0) (gI T.c_WEIGHT))))
   (qj (qy (qjS (zj qeo qb7 (qB qq qp (qc 0) (gI T.c_MOST)) qay (qK _)) (qc 2) (zf (qcO rfl) qc4 rfl T.b_min qi5 (qa (qc 2) (qa (qB qq qp (qc 0) (gI T.c_MOST)) qf)))))))
theorem qdF : qs ["kind", "times", "room"] ["kind", "times", "room"] (qe jZ) := ⟨rfl, rfl, rfl, by decide +kernel, rfl, by decide +kernel, by decide +kernel⟩
theorem q34 (F : Fun K "room_left" "room_left" jZ f fd) (m : mg "room_left" = some (.ref f)) (T : Txt K mg) : Q34 P w K mg base := by
 refine ⟨f, fd, ?_, m, F.kp, F.binds fun _ _ _ _ _ _ us hl => match us, hl with | [_, _, _], _ => rfl⟩
 exact qx (N := ["kind", "times", "room"]) (O := []) (body := ww) F qdF (by decide) fun cdv A outer s H E B hr => (qj (qy (qu qfS qdQ (qc 2) (qu qM qE (qc 1) (qB qq qp (qc 0) (gI T.c_WEIGHT))))))
theorem qcI : qs ["kind", "times", "row", "room"] ["kind", "times", "row", "room"] (qe jA) := ⟨rfl, rfl, rfl, by decide +kernel, rfl, by decide +kernel, by decide +kernel⟩
theorem q35 (F : Fun K "worth_with" "worth_with" jA f fd) (m : mg "worth_with" = some (.ref f)) (T : Txt K mg) (C_room_left : Q34 P w K mg base) : Q35 P w K mg base := by
 refine ⟨f, fd, ?_, m, F.kp, F.binds fun _ _ _ _ _ _ us hl => match us, hl with | [_, _, _, _], _ => rfl⟩
 exact qx (N := ["kind", "times", "row", "room"]) (O := []) (body := vG) F qcI (by decide) fun cdv A outer s H E B hr => (qj (qy (qu zv zw (qu qM qE (qc 1) (qB qq qp (qc 0) (gI T.c_WORTH))) (qB qq qp (qc 2) (dC C_room_left hr (qa (qc 0) (qa (qc 1) (qa (qc 3) qf))))))))
theorem qdG : qs ["kind", "row", "room"] ["kind", "row", "room"] (qe jr) := ⟨rfl, rfl, rfl, by decide +kernel, rfl, by decide +kernel, by decide +kernel⟩
theorem q36 (F : Fun K "best_with" "best_with" jr f fd) (m : mg "best_with" = some (.ref f)) (T : Txt K mg) (C_most_within : Q33 P w K mg base) (C_worth_with : Q35 P w K mg base) : Q36 P w K mg base := by
 refine ⟨f, fd, ?_, m, F.kp, F.binds fun _ _ _ _ _ _ us hl => match us, hl with | [_, _, _], _ => rfl⟩
 exact qx (N := ["kind", "row", "room"]) (O := []) (body := wy) F qdG (by decide) fun cdv A outer s H E B hr => (qj (qy (zf (qdf rfl) qbS rfl T.b_max qgr (qa (uP (fo := none) rfl (uD rfl T.b_range (qa (qu zv zw (dC C_most_within hr (qa (qc 0) (qa (qc 2) qf))) qk) qf)) (cs ["kind", "row", "room"] ["times", "kind", "row", "room"] 1 [0, 1, 2] (qe jr)) (f0 [0, 1, 2] []) (fun _ _ _ _ _ _ _ _ _ _ _ => ⟨(qL (i := 0) (nd ["times", "kind", "row", "room"])), qaA, (dC C_worth_with hr (qa (qc 1) (qa (qc 0) (qa (qc 2) (qa (qc 3) qf)))))⟩)) qf))))
theorem vM : qs ["store", "room", "rows", "kind"] ["store", "room"] (qe js) := ⟨rfl, rfl, rfl, by decide +kernel, rfl, by decide +kernel, by decide +kernel⟩
theorem q37 (F : Fun K "best_rows" "best_rows" js f fd) (m : mg "best_rows" = some (.ref f)) (T : Txt K mg) (C_best_with : Q36 P w K mg base) : Q37 P w K mg base := by
 refine ⟨f, fd, ?_, m, F.kp, F.binds fun _ _ _ _ _ _ us hl => match us, hl with | [_, _], _ => rfl⟩
 exact qx (N := ["store", "room", "rows", "kind"]) (O := [2]) (body := wA) F vM (by decide) fun cdv A outer s H E B hr => (qh (qcb (i := 2) vM.nd (qkv (qa (qu qM qE (v4 (qa qk qf)) (qu zv zw (qc 1) qk)) qf)))
   (qh (v6 PassesOwn.never rfl (qmI rfl T.b_reversed (qa (qc 0) qf)) (qL (i := 3) vM.nd) (qj (zT (qgM (i := 2) (uP (fo := (some (2, 2))) rfl (uD rfl T.b_range (qa (qu zv zw (qc 1) qk) qf)) (cs ["store", "room", "rows", "kind"] ["size", "kind", "rows"] 1 [3, 2] (qe js)) (f1 1 [3, 2] [2] 2 2) (fun _ _ _ _ _ _ _ _ _ _ _ => ⟨(qL (i := 0) (nd ["size", "kind", "rows"])), qaA, (dC C_best_with hr (qa (qc 1) (qa (qgk (i := 2) qk) (qa (qc 0) qf))))⟩))))))
   (qj (qj5 (i := 2)))))
theorem qem : qs ["number"] ["number"] (qe yO) := ⟨rfl, rfl, rfl, by decide +kernel, rfl, by decide +kernel, by decide +kernel⟩
theorem q38 (F : Fun K "need_few" "need_few" yO f fd) (m : mg "need_few" = some (.ref f)) (T : Txt K mg) : Q38 P w K mg base := by
 refine ⟨f, fd, ?_, m, F.kp, F.binds fun _ _ _ _ _ _ us hl => match us, hl with | [_], _ => rfl⟩
 exact qx (N := ["number"]) (O := []) (body := uJ) F qem (by decide) fun cdv A outer s H E B hr => (qj (jR (zj qcN qaz (qc 0) (gI T.c_ASKED_AT_MOST) (qK _)) (qj vt) qH))
theorem qcJ : qs ["store", "number"] ["store", "number"] (qe jB) := ⟨rfl, rfl, rfl, by decide +kernel, rfl, by decide +kernel, by decide +kernel⟩
theorem q39 (F : Fun K "need_asked" "need_asked" jB f fd) (m : mg "need_asked" = some (.ref f)) (T : Txt K mg) (C_need_few : Q38 P w K mg base) (C_need_count : Q10 P w K mg base) (C_need_store : Q13 P w K mg base) : Q39 P w K mg base := by
 refine ⟨f, fd, ?_, m, F.kp, F.binds fun _ _ _ _ _ _ us hl => match us, hl with | [_, _], _ => rfl⟩
 exact qx (N := ["store", "number"]) (O := []) (body := yn) F qcJ (by decide) fun cdv A outer s H E B hr => (qh (zT (dC C_need_store hr (qa (qc 0) qf)))
   (qh (zT (dC C_need_count hr (qa (qc 1) qf)))
   (qj (zT (dC C_need_few hr (qa (qc 1) qf))))))
theorem qbK : qs ["store", "room"] ["store", "room"] (qe jd) := ⟨rfl, rfl, rfl, by decide +kernel, rfl, by decide +kernel, by decide +kernel⟩
theorem q40 (F : Fun K "best_worths" "best_worths" jd f fd) (m : mg "best_worths" = some (.ref f)) (T : Txt K mg) (C_best_rows : Q37 P w K mg base) (C_need_asked : Q39 P w K mg base) : Q40 P w K mg base := by
 refine ⟨f, fd, ?_, m, F.kp, F.binds fun _ _ _ _ _ _ us hl => match us, hl with | [_, _], _ => rfl⟩
 exact qx (N := ["store", "room"]) (O := []) (body := u9) F qbK (by decide) fun cdv A outer s H E B hr => (qh (zT (dC C_need_asked hr (qa (qc 0) (qa (qc 1) qf))))
   (qj (qy (qB qq qp (dC C_best_rows hr (qa (qc 0) (qa (qc 1) qf))) qk))))
theorem qcK : qs ["store", "room"] ["store", "room"] (qe jC) := ⟨rfl, rfl, rfl, by decide +kernel, rfl, by decide +kernel, by decide +kernel⟩
theorem q41 (F : Fun K "best_worth" "best_worth" jC f fd) (m : mg "best_worth" = some (.ref f)) (T : Txt K mg) (C_best_worths : Q40 P w K mg base) : Q41 P w K mg base := by
 refine ⟨f, fd, ?_, m, F.kp, F.binds fun _ _ _ _ _ _ us hl => match us, hl with | [_, _], _ => rfl⟩
 exact qx (N := ["store", "room"]) (O := []) (body := vI) F qcK (by decide) fun cdv A outer s H E B hr => (qj (qy (qB qq qp (dC C_best_worths hr (qa (qc 0) (qa (qc 1) qf))) (qc 1))))
theorem yE : qs ["store", "room", "best", "dear", "load", "most"] ["store", "room"] (qe zy) := ⟨rfl, rfl, rfl, by decide +kernel, rfl, by decide +kernel, by decide +kernel⟩
theorem q42 (F : Fun K "_law_right" "_law_right" zy f fd) (m : mg "_law_right" = some (.ref f)) (T : Txt K mg) (C_bound : Q23 P w K mg base) (C_some_price : Q24 P w K mg base) (C_best_shares : Q14 P w K mg base) (C_worth : Q29 P w K mg base) (C__law_no_more : Q0 P w K mg base) (C_is_load : Q27 P w K mg base) (C_fits : Q30 P w K mg base) (C_cut_load : Q31 P w K mg base) (C_whole_bound : Q32 P w K mg base) (C_share_worth : Q16 P w K mg base) (C_best_worth : Q41 P w K mg base) : Q42 P w K mg base := by
 refine ⟨f, fd, ?_, m, F.kp, F.binds fun _ _ _ _ _ _ us hl => match us, hl with | [_, _], _ => rfl⟩
 exact qx (N := ["store", "room", "best", "dear", "load", "most"]) (O := []) (body := vJ) F yE (by decide) fun cdv A outer s H E B hr => (qh (qeB (i := 2) (j := 3) yE.nd (qa (dC C_best_worth hr (qa (qc 0) (qa (qc 1) qf))) (qa (dC C_share_worth hr (qa (qc 0) (qa (qc 1) qf))) qf)) rfl)
   (qh (jR (DW.dt (qa5 (jO (zj qfW qc3 (qc 2) (dC C_whole_bound hr (qa (qc 0) (qa (qc 1) qf))) (qK _))) (wD (jO (ju (dC C__law_no_more hr (qa (vd (qa (dC C_whole_bound hr (qa (qc 0) (qa (qc 1) qf))) (qa qk qf))) (qa (qc 3) qf)))))))) (qj (qy v0)) qH)
   (qh (qP (i := 4) yE.nd (dC C_cut_load hr (qa (qc 0) (qa (qc 1) qf))))
   (qh (jR (DW.dt (qa5 (zj qeT qdl (dC C_is_load hr (qa (qc 4) (qa (qc 0) qf))) v0 (qK _)) (qa5 (zj qeT qdl (dC C_fits hr (qa (qc 0) (qa (qc 4) (qa (qc 1) qf)))) v0 (qK _)) (wD (zj qcN qaz (dC C_worth hr (qa (qc 0) (qa (qc 4) qf))) (qc 2) (qK _)))))) (qj (qy v0)) qH)
   (qh (qP (i := 5) yE.nd (zf (qdf rfl) qbS rfl T.b_max qgr (qa (qu zv zw (v4 (qa qk qf)) (uP (fo := none) rfl (wH (qc 0)) (cs ["store", "room", "best", "dear", "load", "most"] ["kind"] 1 [] (qe zy)) (f0 [] []) (fun _ _ _ _ _ _ _ _ _ _ _ => ⟨(qL (i := 0) (nd ["kind"])), qaA, (qB qq qp (qc 0) qk)⟩))) qf)))
   (qh (jR (DW.dt (qcZ (zj qcN qaz (qc 5) qk (qK _)) (qa4 (ju (dC C__law_no_more hr (qa (vd (qa (qu zv zw (dC C_worth hr (qa (qc 0) (qa (qc 4) qf))) (qc 5)) (qa qk qf))) (qa (qc 3) qf))))))) (qj (qy v0)) qH)
   (qh (jR (DW.dt (qcZ (zj (v7 hr) uw (uP (fo := none) rfl (wH (dC C_best_shares hr (qa (qc 0) (qa (qc 1) qf)))) (cs ["store", "room", "best", "dear", "load", "most"] ["share"] 1 [] (qe zy)) (f0 [] []) (fun _ _ _ _ _ _ _ _ _ _ _ => ⟨(qL (i := 0) (nd ["share"])), (qiZ (zj (qbR hr) qaa (qB qq qp (qc 0) qk) qk (qK _))), (qc 0)⟩)) (v4 qf) (qK _)) (qa4 (zj (qbR hr) qaa (dC C_worth hr (qa (qc 0) (qa (qc 4) qf))) (qc 2) (qK _))))) (qj (qy v0)) qH)
   (qj (qy (v5 (v7 hr) uw (dC C_bound hr (qa (qc 0) (qa (qc 1) (qa (dC C_some_price hr (qa (qc 0) (qa (qc 1) qf))) qf)))) (qc 3) (qK _)))))))))))
theorem ze : qs ["box", "ends", "way", "heavy", "dear", "often"] ["box", "ends"] (qe zK) := ⟨rfl, rfl, rfl, by decide +kernel, rfl, by decide +kernel, by decide +kernel⟩
theorem q43 (F : Fun K "_law_kind_of" "_law_kind_of" zK f fd) (m : mg "_law_kind_of" = some (.ref f)) (T : Txt K mg) (C__law_take : Q19 P w K mg base) : Q43 P w K mg base := by
 refine ⟨f, fd, ?_, m, F.kp, F.binds fun _ _ _ _ _ _ us hl => match us, hl with | [_, _], _ => rfl⟩
 show qbA P w K mg base CX0 2 f fd ["box", "ends"] (qhv K (qbc (["box", "ends", "way", "heavy", "dear", "often"] : List Str).length (["box", "ends"] : List Str).length j9))
 refine qj6 (N := ["box", "ends", "way", "heavy", "dear", "often"]) (ps := ["box", "ends"]) (k := 1) (O := [0]) (body := j9) F ze ?a ?a0 ?b
 case a => decide
 case a0 => decide
 intro cdv A outer s H E B Io S hr
 exact (qh (qP (i := 2) ze.nd (iC (i := 0) C__law_take hr (qa qk qf)))
   (qh (qeB (i := 3) (j := 4) ze.nd (qa (qu zv zw qk (iC (i := 0) C__law_take hr (qa qk qf))) (qa (iC (i := 0) C__law_take hr (qa qk qf)) qf)) rfl)
   (qh (jR (zj (v7 hr) uw (qc 2) qk (qK _)) (qj (qP (i := 4) ze.nd (qu qM qE qk (qc 3)))) qH)
   (qh (jR (zj (v7 hr) uw (qc 2) qk (qK _)) (qj (qP (i := 4) ze.nd (qu zv zw (qc 3) (iC (i := 0) C__law_take hr (qa qk qf))))) qH)
   (qh (jR (zj (v7 hr) uw (qc 2) qk (qK _)) (qj (qeB (i := 3) (j := 4) ze.nd (qa (qu zv zw qk (iC (i := 0) C__law_take hr (qa qk qf))) (qa (iC (i := 0) C__law_take hr (qa qk qf)) qf)) rfl)) qH)
   (qh (qP (i := 5) ze.nd (qB qq qp (v4 (qa qk (qa qk (qa qk (qa qk (qa qk (qa qk (qa qk (qa (qc 1) qf))))))))) (iC (i := 0) C__law_take hr (qa qk qf))))
   (qj (qy (vd (qa (qc 3) (qa (qc 4) (qa (qc 5) qf))))))))))))
theorem zZ : qs ["box", "most", "ends", "found", "k", "kind"] ["box", "most", "ends"] (qe zL) := ⟨rfl, rfl, rfl, by decide +kernel, rfl, by decide +kernel, by decide +kernel⟩
theorem q44 (F : Fun K "_law_stocked" "_law_stocked" zL f fd) (m : mg "_law_stocked" = some (.ref f)) (T : Txt K mg) (C__law_take : Q19 P w K mg base) (C__law_kind_of : Q43 P w K mg base) : Q44 P w K mg base := by
 refine ⟨f, fd, ?_, m, F.kp, F.binds fun _ _ _ _ _ _ us hl => match us, hl with | [_, _, _], _ => rfl⟩
 show qbA P w K mg base CX0 3 f fd ["box", "most", "ends"] (qhv K (qbc (["box", "most", "ends", "found", "k", "kind"] : List Str).length (["box", "most", "ends"] : List Str).length ya))
 refine qj6 (N := ["box", "most", "ends", "found", "k", "kind"]) (ps := ["box", "most", "ends"]) (k := 2) (O := [0, 3]) (body := ya) F zZ ?a ?a0 ?b
 case a => decide
 case a0 => decide
 intro cdv A outer s H E B Io S hr
 exact (qh (qcb (i := 3) zZ.nd (qma qf))
   (qh (v6 PassesOwn.never rfl (uD rfl T.b_range (qa (iC (i := 0) C__law_take hr (qa (qu zv zw (qc 1) qk) qf)) qf)) (qL (i := 4) zZ.nd) (qh (qP (i := 5) zZ.nd (iC (i := 0) C__law_kind_of hr (qa (qc 2) qf)))
   (qh (jR (DW.dt (qcZ (qmd (i := 3) hr (v4 qf)) (qa4 (zj (v7 hr) uw (iC (i := 0) C__law_take hr (qa qk qf)) qk (qK _))))) (qj (qP (i := 5) zZ.nd (qgk (i := 3) (iC (i := 0) C__law_take hr (qa (qj3 (i := 3) rfl T.b_len) qf))))) qH)
   (qj (zT (qgh (i := 3) (qc 5)))))))
   (qj (qy (qgj (i := 3) rfl T.b_tuple uQ)))))
theorem vc : qs ["cell", "k", "some", "stir"] ["cell", "k"] (qe yP) := ⟨rfl, rfl, rfl, by decide +kernel, rfl, by decide +kernel, by decide +kernel⟩
theorem q45 (F : Fun K "_law_mix" "_law_mix" yP f fd) (m : mg "_law_mix" = some (.ref f)) (T : Txt K mg) : Q45 P w K mg base := by
 refine ⟨f, fd, ?_, m, F.kp, F.binds fun _ _ _ _ _ _ us hl => match us, hl with | [_, _], _ => rfl⟩
 exact qx (N := ["cell", "k", "some", "stir"]) (O := []) (body := qav) F vc (by decide) fun cdv A outer s H E B hr => (qh (qP (i := 2) vc.nd (v4 (qa qk (qa qk (qa qk (qa qk (qa qk (qa qk (qa qk (qa qk (qa qk (qa qk (qa qk (qa qk (qa qk qf)))))))))))))))
   (qh (qP (i := 3) vc.nd (qu zv zw (qu zv zw (qu qM qE (qu zv zw (qu qaV wl (qc 0) qk) qk) (qB qq qp (qc 2) (qu qaV wl (qc 1) qk))) (qu qM qE qk (qc 1))) (qu qM qE qk (qu yV jD (qc 1) qk))))
   (qh (qP (i := 3) vc.nd (qu qaV wl (qc 3) qk))
   (qj (qy (qu yV jD (qu qaV wl (qu zv zw (qu qM qE (qc 3) (qc 3)) (qu qM qE qk (qc 1))) qk) qk))))))
theorem qdH : qs ["script", "k"] ["script", "k"] (qe j4) := ⟨rfl, rfl, rfl, by decide +kernel, rfl, by decide +kernel, by decide +kernel⟩
theorem q46 (F : Fun K "_law_cell" "_law_cell" j4 f fd) (m : mg "_law_cell" = some (.ref f)) (T : Txt K mg) : Q46 P w K mg base := by
 refine ⟨f, fd, ?_, m, F.kp, F.binds fun _ _ _ _ _ _ us hl => match us, hl with | [_, _], _ => rfl⟩
 exact qx (N := ["script", "k"]) (O := []) (body := va) F qdH (by decide) fun cdv A outer s H E B hr => (qh (jR (zj qnA qlY (qc 1) (zf jE ye rfl T.b_len qaB (qa (qc 0) qf)) (qK _)) (qj (qy (qB qq qp (qc 0) (qc 1)))) qH)
   (qj (qy qk)))
theorem ua : qs ["script", "k", "cell", "number", "j"] ["script", "k"] (qe yQ) := ⟨rfl, rfl, rfl, by decide +kernel, rfl, by decide +kernel, by decide +kernel⟩
theorem q47 (F : Fun K "_law_box" "_law_box" yQ f fd) (m : mg "_law_box" = some (.ref f)) (T : Txt K mg) (C__law_mix : Q45 P w K mg base) (C__law_cell : Q46 P w K mg base) : Q47 P w K mg base := by
 refine ⟨f, fd, ?_, m, F.kp, F.binds fun _ _ _ _ _ _ us hl => match us, hl with | [_, _], _ => rfl⟩
 exact qx (N := ["script", "k", "cell", "number", "j"]) (O := []) (body := vZ) F ua (by decide) fun cdv A outer s H E B hr => (qh (qP (i := 2) ua.nd (dC C__law_cell hr (qa (qc 0) (qa (qc 1) qf))))
   (qh (jR (zj (v7 hr) uw (qu qaV wl (qc 2) qk) qk (qK _)) (qj (qy (v4 (qa (qu yV jD (zf qhH qgc rfl T.b_abs qmm (qa (qc 2) qf)) qk) qf)))) qH)
   (qh (qP (i := 3) ua.nd qk)
   (qh (v6 PassesOwn.never rfl (uD rfl T.b_range (qa qk qf)) (qL (i := 4) ua.nd) (qj (qP (i := 3) ua.nd (qu zv zw (qu qM qE (qc 3) qk) (dC C__law_mix hr (qa (qc 2) (qa (qc 4) qf)))))))
   (qj (qy (v4 (qa (qc 3) qf))))))))
theorem vj : qs ["script", "k", "box", "store", "room", "price", "high", "first", "second", "third", "double", "both"] ["script"] (qe qbF) := ⟨rfl, rfl, rfl, by decide +kernel, rfl, by decide +kernel, by decide +kernel⟩
theorem qm7 (F : Fun K "law" "law" qbF f fd) (T : Txt K mg) (C__law_no_more : Q0 P w K mg base) (C_share_worth : Q16 P w K mg base) (C__law_low : Q18 P w K mg base) (C__law_take : Q19 P w K mg base) (C_bound : Q23 P w K mg base) (C__law_right : Q42 P w K mg base) (C__law_stocked : Q44 P w K mg base) (C__law_box : Q47 P w K mg base) : qbA P w K mg base CX0 10 f fd ["script"] (spD K qed) := by
 exact qx (N := ["script", "k", "box", "store", "room", "price", "high", "first", "second", "third", "double", "both"]) (O := [2]) (body := qkP) F vj (by decide) fun cdv A outer s H E B hr => (qh (v6 PassesOwn.never rfl (uD rfl T.b_range (qa (zf (qfZ rfl) qgd rfl T.b_max qgr (qa qk (qa (zf (qcO rfl) qc4 rfl T.b_min qi5 (qa (zf jE ye rfl T.b_len qaB (qa (qc 0) qf)) (qa qk qf))) qf))) qf)) (qL (i := 1) vj.nd) (qh (qcb (i := 2) vj.nd (nC C__law_box hr (qa (qc 0) (qa (qc 1) qf))))
   (qh (qP (i := 3) vj.nd (iC (i := 2) C__law_stocked hr (qa qk (qa qay qf))))
   (qh (qP (i := 4) vj.nd (iC (i := 2) C__law_take hr (qa qk qf)))
   (qh (jR (jO (ju (dC C__law_right hr (qa (qc 3) (qa (qc 4) qf))))) (qj (qy v0)) qH)
   (qh (v6 PassesOwn.never rfl (wH (v4 (qa (vd (qa qk (qa qk qf))) (qa (vd (qa qk (qa qk qf))) (qa (vd (qa qk (qa qk qf))) (qa (dC C__law_low hr (qa (iC (i := 2) C__law_take hr (qa qk qf)) (qa (qu zv zw qk (iC (i := 2) C__law_take hr (qa qk qf))) qf))) qf)))))) (qL (i := 5) vj.nd) (qh (qP (i := 6) vj.nd (dC C_bound hr (qa (qc 3) (qa (qc 4) (qa (qc 5) qf)))))
   (qj (jR (DW.dt (qcZ (zj qfX qeu (qc 6) qay (qK _)) (qa4 (jO (ju (dC C__law_no_more hr (qa (dC C_share_worth hr (qa (qc 3) (qa (qc 4) qf))) (qa (qc 6) qf)))))))) (qj (qy v0)) qH))))
   (qh (qiR (uP (fo := none) rfl (uD rfl T.b_range (qa qk qf)) (cs ["script", "k", "box", "store", "room", "price", "high", "first", "second", "third", "double", "both"] ["more", "store", "room"] 1 [3, 4] (qe qbF)) (f0 [3, 4] [2]) (fun _ _ _ _ _ _ _ _ _ _ _ => ⟨(qL (i := 0) (nd ["more", "store", "room"])), qaA, (dC C_share_worth hr (qa (qc 1) (qa (qu zv zw (qc 2) (qc 0)) qf)))⟩)) (qmP (n := 3) rfl (z5 (qL (i := 7) vj.nd) (z5 (qL (i := 8) vj.nd) (z5 (qL (i := 9) vj.nd) wZ)))))
   (qh (qP (i := 10) vj.nd (vd (qa (qu qM qE (qB qq qp (qc 8) qk) qk) (qa (qB qq qp (qc 8) qk) qf))))
   (qh (qP (i := 11) vj.nd (vd (qa (qu zv zw (qu qM qE (qB qq qp (qc 7) qk) (qB qq qp (qc 9) qk)) (qu qM qE (qB qq qp (qc 9) qk) (qB qq qp (qc 7) qk))) (qa (qu qM qE (qB qq qp (qc 7) qk) (qB qq qp (qc 9) qk)) qf))))
   (qj (jR (DW.dt (qa5 (jO (ju (dC C__law_no_more hr (qa (qc 11) (qa (qc 10) qf))))) (wD (jO (ju (dC C__law_no_more hr (qa (qc 7) (qa (qc 8) qf)))))))) (qj (qy v0)) qH)))))))))))
   (qj (qy v0)))
end
theorem all_mk {l : PySem.W.OpenLaw} {w : World} {K : PySem.W.Frag} {h : Heap} {mg : Str -> Option Value} {fa f0 f1 f2 f3 f4 f5 f6 f7 f8 f9 f10 f11 f12 f13 f14 f15 f16 f17 f18 f19 f20 f21 f22 f23 f24 f25 f26 f27 f28 f29 f30 f31 f32 f33 f34 f35 f36 f37 f38 f39 f40 f41 f42 f43 f44 f45 f46 f47 f48 : Addr} (X : K.In h) (G : h.Ns mainGlobals mg) (hfa : mg "law" = some (.ref fa))
  {od0 an0 od1 an1 od2 an2 od3 an3 od4 an4 od5 an5 od6 an6 od7 an7 od8 an8 od9 an9 od10 an10 od11 an11 od12 an12 od13 an13 od14 an14 od15 an15 od16 an16 od17 an17 od18 an18 od19 an19 od20 an20 od21 an21 od22 an22 od23 an23 od24 an24 od25 an25 od26 an26 od27 an27 od28 an28 od29 an29 od30 an30 od31 an31 od32 an32 od33 an33 od34 an34 od35 an35 od36 an36 od37 an37 od38 an38 od39 an39 od40 an40 od41 an41 od42 an42 od43 an43 od44 an44 od45 an45 od46 an46 od47 an47 od48 an48 : Option Addr} {sl0 sl1 sl2 sl3 sl4 sl5 sl6 sl7 sl8 sl9 sl10 sl11 sl12 sl13 sl14 sl15 sl16 sl17 sl18 sl19 sl20 sl21 sl22 sl23 sl24 sl25 sl26 sl27 sl28 sl29 sl30 sl31 sl32 sl33 sl34 sl35 sl36 sl37 sl38 sl39 sl40 sl41 sl42 sl43 sl44 sl45 sl46 sl47 sl48 : Array (Option Value)} {oc0 kV0 dc0 pm0 cd0 ct0 oc1 kV1 dc1 pm1 cd1 ct1 oc2 kV2 dc2 pm2 cd2 ct2 oc3 kV3 dc3 pm3 cd3 ct3 oc4 kV4 dc4 pm4 cd4 ct4 oc5 kV5 dc5 pm5 cd5 ct5 oc6 kV6 dc6 pm6 cd6 ct6 oc7 kV7 dc7 pm7 cd7 ct7 oc8 kV8 dc8 pm8 cd8 ct8 oc9 kV9 dc9 pm9 cd9 ct9 oc10 kV10 dc10 pm10 cd10 ct10 oc11 kV11 dc11 pm11 cd11 ct11 oc12 kV12 dc12 pm12 cd12 ct12 oc13 kV13 dc13 pm13 cd13 ct13 oc14 kV14 dc14 pm14 cd14 ct14 oc15 kV15 dc15 pm15 cd15 ct15 oc16 kV16 dc16 pm16 cd16 ct16 oc17 kV17 dc17 pm17 cd17 ct17 oc18 kV18 dc18 pm18 cd18 ct18 oc19 kV19 dc19 pm19 cd19 ct19 oc20 kV20 dc20 pm20 cd20 ct20 oc21 kV21 dc21 pm21 cd21 ct21 oc22 kV22 dc22 pm22 cd22 ct22 oc23 kV23 dc23 pm23 cd23 ct23 oc24 kV24 dc24 pm24 cd24 ct24 oc25 kV25 dc25 pm25 cd25 ct25 oc26 kV26 dc26 pm26 cd26 ct26 oc27 kV27 dc27 pm27 cd27 ct27 oc28 kV28 dc28 pm28 cd28 ct28 oc29 kV29 dc29 pm29 cd29 ct29 oc30 kV30 dc30 pm30 cd30 ct30 oc31 kV31 dc31 pm31 cd31 ct31 oc32 kV32 dc32 pm32 cd32 ct32 oc33 kV33 dc33 pm33 cd33 ct33 oc34 kV34 dc34 pm34 cd34 ct34 oc35 kV35 dc35 pm35 cd35 ct35 oc36 kV36 dc36 pm36 cd36 ct36 oc37 kV37 dc37 pm37 cd37 ct37 oc38 kV38 dc38 pm38 cd38 ct38 oc39 kV39 dc39 pm39 cd39 ct39 oc40 kV40 dc40 pm40 cd40 ct40 oc41 kV41 dc41 pm41 cd41 ct41 oc42 kV42 dc42 pm42 cd42 ct42 oc43 kV43 dc43 pm43 cd43 ct43 oc44 kV44 dc44 pm44 cd44 ct44 oc45 kV45 dc45 pm45 cd45 ct45 oc46 kV46 dc46 pm46 cd46 ct46 oc47 kV47 dc47 pm47 cd47 ct47 oc48 kV48 dc48 pm48 cd48 ct48 : Value} {tk_ASKED_AT_MOST : Tok} {tk_BOTTOM : Tok} {tk_KINDS_AT_MOST : Tok} {tk_MOST : Tok} {qa_NOTHING : Addr} {qd_NOTHING : Option Addr} {qi_NOTHING : Array Value} {qn_NOTHING : Nat} {qs_NOTHING : Array (Option Value)} {tk_NOTHING_0 : Tok} {tk_NOTHING_1 : Tok} {tk_TOP : Tok} {tk_WEIGHT : Tok} {tk_WORTH : Tok} {lc0 Pt : Addr} {kc1 : Value} {kc2 : Option Addr} {kvs : Array Value} {kc3 : Array (Option Value)}
  (a0 : PySem.W.nsIn K mainGlobals "_law_no_more" = some (some (.ref f0))) (l0 : K.lookup f0 = some ⟨oc0, od0, .func (PySem.W.fnOf "_law_no_more" "_law_no_more" (qt zH) (qr zH) (qe zH) .none kV0 dc0 pm0 an0 cd0 ct0), sl0⟩) (c0 : PySem.W.codeIn K cd0 "_law_no_more" = true) (k0 : PySem.W.keepIn K (.ref f0) = true)
  (a1 : PySem.W.nsIn K mainGlobals "weights_product" = some (some (.ref f1))) (l1 : K.lookup f1 = some ⟨oc1, od1, .func (PySem.W.fnOf "weights_product" "weights_product" (qt zd) (qr zd) (qe zd) .none kV1 dc1 pm1 an1 cd1 ct1), sl1⟩) (c1 : PySem.W.codeIn K cd1 "weights_product" = true) (k1 : PySem.W.keepIn K (.ref f1) = true)
  (a2 : PySem.W.nsIn K mainGlobals "dearest_first" = some (some (.ref f2))) (l2 : K.lookup f2 = some ⟨oc2, od2, .func (PySem.W.fnOf "dearest_first" "dearest_first" (qt qN) (qr qN) (qe qN) .none kV2 dc2 pm2 an2 cd2 ct2), sl2⟩) (c2 : PySem.W.codeIn K cd2 "dearest_first" = true) (k2 : PySem.W.keepIn K (.ref f2) = true)
  (a3 : PySem.W.nsIn K mainGlobals "all_go_in" = some (some (.ref f3))) (l3 : K.lookup f3 = some ⟨oc3, od3, .func (PySem.W.fnOf "all_go_in" "all_go_in" (qt jU) (qr jU) (qe jU) .none kV3 dc3 pm3 an3 cd3 ct3), sl3⟩) (c3 : PySem.W.codeIn K cd3 "all_go_in" = true) (k3 : PySem.W.keepIn K (.ref f3) = true)
  (a4 : PySem.W.nsIn K mainGlobals "room_behind" = some (some (.ref f4))) (l4 : K.lookup f4 = some ⟨oc4, od4, .func (PySem.W.fnOf "room_behind" "room_behind" (qt z7) (qr z7) (qe z7) .none kV4 dc4 pm4 an4 cd4 ct4), sl4⟩) (c4 : PySem.W.codeIn K cd4 "room_behind" = true) (k4 : PySem.W.keepIn K (.ref f4) = true)
  (a5 : PySem.W.nsIn K mainGlobals "greatest_divisor" = some (some (.ref f5))) (l5 : K.lookup f5 = some ⟨oc5, od5, .func (PySem.W.fnOf "greatest_divisor" "greatest_divisor" (qt qV) (qr qV) (qe qV) .none kV5 dc5 pm5 an5 cd5 ct5), sl5⟩) (c5 : PySem.W.codeIn K cd5 "greatest_divisor" = true) (k5 : PySem.W.keepIn K (.ref f5) = true)
  (a6 : PySem.W.nsIn K mainGlobals "lowest_terms" = some (some (.ref f6))) (l6 : K.lookup f6 = some ⟨oc6, od6, .func (PySem.W.fnOf "lowest_terms" "lowest_terms" (qt zJ) (qr zJ) (qe zJ) .none kV6 dc6 pm6 an6 cd6 ct6), sl6⟩) (c6 : PySem.W.codeIn K cd6 "lowest_terms" = true) (k6 : PySem.W.keepIn K (.ref f6) = true)
  (a7 : PySem.W.nsIn K mainGlobals "best_share" = some (some (.ref f7))) (l7 : K.lookup f7 = some ⟨oc7, od7, .func (PySem.W.fnOf "best_share" "best_share" (qt jv) (qr jv) (qe jv) .none kV7 dc7 pm7 an7 cd7 ct7), sl7⟩) (c7 : PySem.W.codeIn K cd7 "best_share" = true) (k7 : PySem.W.keepIn K (.ref f7) = true)
  (a8 : PySem.W.nsIn K mainGlobals "is_whole" = some (some (.ref f8))) (l8 : K.lookup f8 = some ⟨oc8, od8, .func (PySem.W.fnOf "is_whole" "is_whole" (qt yI) (qr yI) (qe yI) .none kV8 dc8 pm8 an8 cd8 ct8), sl8⟩) (c8 : PySem.W.codeIn K cd8 "is_whole" = true) (k8 : PySem.W.keepIn K (.ref f8) = true)
  (a9 : PySem.W.nsIn K mainGlobals "is_count" = some (some (.ref f9))) (l9 : K.lookup f9 = some ⟨oc9, od9, .func (PySem.W.fnOf "is_count" "is_count" (qt yJ) (qr yJ) (qe yJ) .none kV9 dc9 pm9 an9 cd9 ct9), sl9⟩) (c9 : PySem.W.codeIn K cd9 "is_count" = true) (k9 : PySem.W.keepIn K (.ref f9) = true)
  (a10 : PySem.W.nsIn K mainGlobals "need_count" = some (some (.ref f10))) (l10 : K.lookup f10 = some ⟨oc10, od10, .func (PySem.W.fnOf "need_count" "need_count" (qt jw) (qr jw) (qe jw) .none kV10 dc10 pm10 an10 cd10 ct10), sl10⟩) (c10 : PySem.W.codeIn K cd10 "need_count" = true) (k10 : PySem.W.keepIn K (.ref f10) = true)
  (a11 : PySem.W.nsIn K mainGlobals "is_kind" = some (some (.ref f11))) (l11 : K.lookup f11 = some ⟨oc11, od11, .func (PySem.W.fnOf "is_kind" "is_kind" (qt uH) (qr uH) (qe uH) .none kV11 dc11 pm11 an11 cd11 ct11), sl11⟩) (c11 : PySem.W.codeIn K cd11 "is_kind" = true) (k11 : PySem.W.keepIn K (.ref f11) = true)
  (a12 : PySem.W.nsIn K mainGlobals "is_store" = some (some (.ref f12))) (l12 : K.lookup f12 = some ⟨oc12, od12, .func (PySem.W.fnOf "is_store" "is_store" (qt jV) (qr jV) (qe jV) .none kV12 dc12 pm12 an12 cd12 ct12), sl12⟩) (c12 : PySem.W.codeIn K cd12 "is_store" = true) (k12 : PySem.W.keepIn K (.ref f12) = true)
  (a13 : PySem.W.nsIn K mainGlobals "need_store" = some (some (.ref f13))) (l13 : K.lookup f13 = some ⟨oc13, od13, .func (PySem.W.fnOf "need_store" "need_store" (qt jx) (qr jx) (qe jx) .none kV13 dc13 pm13 an13 cd13 ct13), sl13⟩) (c13 : PySem.W.codeIn K cd13 "need_store" = true) (k13 : PySem.W.keepIn K (.ref f13) = true)
  (a14 : PySem.W.nsIn K mainGlobals "best_shares" = some (some (.ref f14))) (l14 : K.lookup f14 = some ⟨oc14, od14, .func (PySem.W.fnOf "best_shares" "best_shares" (qt z8) (qr z8) (qe z8) .none kV14 dc14 pm14 an14 cd14 ct14), sl14⟩) (c14 : PySem.W.codeIn K cd14 "best_shares" = true) (k14 : PySem.W.keepIn K (.ref f14) = true)
  (a15 : PySem.W.nsIn K mainGlobals "added" = some (some (.ref f15))) (l15 : K.lookup f15 = some ⟨oc15, od15, .func (PySem.W.fnOf "added" "added" (qt qai) (qr qai) (qe qai) .none kV15 dc15 pm15 an15 cd15 ct15), sl15⟩) (c15 : PySem.W.codeIn K cd15 "added" = true) (k15 : PySem.W.keepIn K (.ref f15) = true)
  (a16 : PySem.W.nsIn K mainGlobals "share_worth" = some (some (.ref f16))) (l16 : K.lookup f16 = some ⟨oc16, od16, .func (PySem.W.fnOf "share_worth" "share_worth" (qt z9) (qr z9) (qe z9) .none kV16 dc16 pm16 an16 cd16 ct16), sl16⟩) (c16 : PySem.W.codeIn K cd16 "share_worth" = true) (k16 : PySem.W.keepIn K (.ref f16) = true)
  (a17 : PySem.W.nsIn K mainGlobals "_law_common" = some (some (.ref f17))) (l17 : K.lookup f17 = some ⟨oc17, od17, .func (PySem.W.fnOf "_law_common" "_law_common" (qt ja) (qr ja) (qe ja) .none kV17 dc17 pm17 an17 cd17 ct17), sl17⟩) (c17 : PySem.W.codeIn K cd17 "_law_common" = true) (k17 : PySem.W.keepIn K (.ref f17) = true)
  (a18 : PySem.W.nsIn K mainGlobals "_law_low" = some (some (.ref f18))) (l18 : K.lookup f18 = some ⟨oc18, od18, .func (PySem.W.fnOf "_law_low" "_law_low" (qt yK) (qr yK) (qe yK) .none kV18 dc18 pm18 an18 cd18 ct18), sl18⟩) (c18 : PySem.W.codeIn K cd18 "_law_low" = true) (k18 : PySem.W.keepIn K (.ref f18) = true)
  (a19 : PySem.W.nsIn K mainGlobals "_law_take" = some (some (.ref f19))) (l19 : K.lookup f19 = some ⟨oc19, od19, .func (PySem.W.fnOf "_law_take" "_law_take" (qt jW) (qr jW) (qe jW) .none kV19 dc19 pm19 an19 cd19 ct19), sl19⟩) (c19 : PySem.W.codeIn K cd19 "_law_take" = true) (k19 : PySem.W.keepIn K (.ref f19) = true)
  (a20 : PySem.W.nsIn K mainGlobals "bound_of" = some (some (.ref f20))) (l20 : K.lookup f20 = some ⟨oc20, od20, .func (PySem.W.fnOf "bound_of" "bound_of" (qt yL) (qr yL) (qe yL) .none kV20 dc20 pm20 an20 cd20 ct20), sl20⟩) (c20 : PySem.W.codeIn K cd20 "bound_of" = true) (k20 : PySem.W.keepIn K (.ref f20) = true)
  (a21 : PySem.W.nsIn K mainGlobals "is_price" = some (some (.ref f21))) (l21 : K.lookup f21 = some ⟨oc21, od21, .func (PySem.W.fnOf "is_price" "is_price" (qt yM) (qr yM) (qe yM) .none kV21 dc21 pm21 an21 cd21 ct21), sl21⟩) (c21 : PySem.W.codeIn K cd21 "is_price" = true) (k21 : PySem.W.keepIn K (.ref f21) = true)
  (a22 : PySem.W.nsIn K mainGlobals "need_price" = some (some (.ref f22))) (l22 : K.lookup f22 = some ⟨oc22, od22, .func (PySem.W.fnOf "need_price" "need_price" (qt jy) (qr jy) (qe jy) .none kV22 dc22 pm22 an22 cd22 ct22), sl22⟩) (c22 : PySem.W.codeIn K cd22 "need_price" = true) (k22 : PySem.W.keepIn K (.ref f22) = true)
  (a23 : PySem.W.nsIn K mainGlobals "bound" = some (some (.ref f23))) (l23 : K.lookup f23 = some ⟨oc23, od23, .func (PySem.W.fnOf "bound" "bound" (qt qaj) (qr qaj) (qe qaj) .none kV23 dc23 pm23 an23 cd23 ct23), sl23⟩) (c23 : PySem.W.codeIn K cd23 "bound" = true) (k23 : PySem.W.keepIn K (.ref f23) = true)
  (a24 : PySem.W.nsIn K mainGlobals "some_price" = some (some (.ref f24))) (l24 : K.lookup f24 = some ⟨oc24, od24, .func (PySem.W.fnOf "some_price" "some_price" (qt jz) (qr jz) (qe jz) .none kV24 dc24 pm24 an24 cd24 ct24), sl24⟩) (c24 : PySem.W.codeIn K cd24 "some_price" = true) (k24 : PySem.W.keepIn K (.ref f24) = true)
  (a25 : PySem.W.nsIn K mainGlobals "taken_together" = some (some (.ref f25))) (l25 : K.lookup f25 = some ⟨oc25, od25, .func (PySem.W.fnOf "taken_together" "taken_together" (qt qX) (qr qX) (qe qX) .none kV25 dc25 pm25 an25 cd25 ct25), sl25⟩) (c25 : PySem.W.codeIn K cd25 "taken_together" = true) (k25 : PySem.W.keepIn K (.ref f25) = true)
  (a26 : PySem.W.nsIn K mainGlobals "can_take" = some (some (.ref f26))) (l26 : K.lookup f26 = some ⟨oc26, od26, .func (PySem.W.fnOf "can_take" "can_take" (qt yN) (qr yN) (qe yN) .none kV26 dc26 pm26 an26 cd26 ct26), sl26⟩) (c26 : PySem.W.codeIn K cd26 "can_take" = true) (k26 : PySem.W.keepIn K (.ref f26) = true)
  (a27 : PySem.W.nsIn K mainGlobals "is_load" = some (some (.ref f27))) (l27 : K.lookup f27 = some ⟨oc27, od27, .func (PySem.W.fnOf "is_load" "is_load" (qt y7) (qr y7) (qe y7) .none kV27 dc27 pm27 an27 cd27 ct27), sl27⟩) (c27 : PySem.W.codeIn K cd27 "is_load" = true) (k27 : PySem.W.keepIn K (.ref f27) = true)
  (a28 : PySem.W.nsIn K mainGlobals "need_load" = some (some (.ref f28))) (l28 : K.lookup f28 = some ⟨oc28, od28, .func (PySem.W.fnOf "need_load" "need_load" (qt jX) (qr jX) (qe jX) .none kV28 dc28 pm28 an28 cd28 ct28), sl28⟩) (c28 : PySem.W.codeIn K cd28 "need_load" = true) (k28 : PySem.W.keepIn K (.ref f28) = true)
  (a29 : PySem.W.nsIn K mainGlobals "worth" = some (some (.ref f29))) (l29 : K.lookup f29 = some ⟨oc29, od29, .func (PySem.W.fnOf "worth" "worth" (qt qak) (qr qak) (qe qak) .none kV29 dc29 pm29 an29 cd29 ct29), sl29⟩) (c29 : PySem.W.codeIn K cd29 "worth" = true) (k29 : PySem.W.keepIn K (.ref f29) = true)
  (a30 : PySem.W.nsIn K mainGlobals "fits" = some (some (.ref f30))) (l30 : K.lookup f30 = some ⟨oc30, od30, .func (PySem.W.fnOf "fits" "fits" (qt qbZ) (qr qbZ) (qe qbZ) .none kV30 dc30 pm30 an30 cd30 ct30), sl30⟩) (c30 : PySem.W.codeIn K cd30 "fits" = true) (k30 : PySem.W.keepIn K (.ref f30) = true)
  (a31 : PySem.W.nsIn K mainGlobals "cut_load" = some (some (.ref f31))) (l31 : K.lookup f31 = some ⟨oc31, od31, .func (PySem.W.fnOf "cut_load" "cut_load" (qt jY) (qr jY) (qe jY) .none kV31 dc31 pm31 an31 cd31 ct31), sl31⟩) (c31 : PySem.W.codeIn K cd31 "cut_load" = true) (k31 : PySem.W.keepIn K (.ref f31) = true)
  (a32 : PySem.W.nsIn K mainGlobals "whole_bound" = some (some (.ref f32))) (l32 : K.lookup f32 = some ⟨oc32, od32, .func (PySem.W.fnOf "whole_bound" "whole_bound" (qt jb) (qr jb) (qe jb) .none kV32 dc32 pm32 an32 cd32 ct32), sl32⟩) (c32 : PySem.W.codeIn K cd32 "whole_bound" = true) (k32 : PySem.W.keepIn K (.ref f32) = true)
  (a33 : PySem.W.nsIn K mainGlobals "most_within" = some (some (.ref f33))) (l33 : K.lookup f33 = some ⟨oc33, od33, .func (PySem.W.fnOf "most_within" "most_within" (qt jc) (qr jc) (qe jc) .none kV33 dc33 pm33 an33 cd33 ct33), sl33⟩) (c33 : PySem.W.codeIn K cd33 "most_within" = true) (k33 : PySem.W.keepIn K (.ref f33) = true)
  (a34 : PySem.W.nsIn K mainGlobals "room_left" = some (some (.ref f34))) (l34 : K.lookup f34 = some ⟨oc34, od34, .func (PySem.W.fnOf "room_left" "room_left" (qt jZ) (qr jZ) (qe jZ) .none kV34 dc34 pm34 an34 cd34 ct34), sl34⟩) (c34 : PySem.W.codeIn K cd34 "room_left" = true) (k34 : PySem.W.keepIn K (.ref f34) = true)
  (a35 : PySem.W.nsIn K mainGlobals "worth_with" = some (some (.ref f35))) (l35 : K.lookup f35 = some ⟨oc35, od35, .func (PySem.W.fnOf "worth_with" "worth_with" (qt jA) (qr jA) (qe jA) .none kV35 dc35 pm35 an35 cd35 ct35), sl35⟩) (c35 : PySem.W.codeIn K cd35 "worth_with" = true) (k35 : PySem.W.keepIn K (.ref f35) = true)
  (a36 : PySem.W.nsIn K mainGlobals "best_with" = some (some (.ref f36))) (l36 : K.lookup f36 = some ⟨oc36, od36, .func (PySem.W.fnOf "best_with" "best_with" (qt jr) (qr jr) (qe jr) .none kV36 dc36 pm36 an36 cd36 ct36), sl36⟩) (c36 : PySem.W.codeIn K cd36 "best_with" = true) (k36 : PySem.W.keepIn K (.ref f36) = true)
  (a37 : PySem.W.nsIn K mainGlobals "best_rows" = some (some (.ref f37))) (l37 : K.lookup f37 = some ⟨oc37, od37, .func (PySem.W.fnOf "best_rows" "best_rows" (qt js) (qr js) (qe js) .none kV37 dc37 pm37 an37 cd37 ct37), sl37⟩) (c37 : PySem.W.codeIn K cd37 "best_rows" = true) (k37 : PySem.W.keepIn K (.ref f37) = true)
  (a38 : PySem.W.nsIn K mainGlobals "need_few" = some (some (.ref f38))) (l38 : K.lookup f38 = some ⟨oc38, od38, .func (PySem.W.fnOf "need_few" "need_few" (qt yO) (qr yO) (qe yO) .none kV38 dc38 pm38 an38 cd38 ct38), sl38⟩) (c38 : PySem.W.codeIn K cd38 "need_few" = true) (k38 : PySem.W.keepIn K (.ref f38) = true)
  (a39 : PySem.W.nsIn K mainGlobals "need_asked" = some (some (.ref f39))) (l39 : K.lookup f39 = some ⟨oc39, od39, .func (PySem.W.fnOf "need_asked" "need_asked" (qt jB) (qr jB) (qe jB) .none kV39 dc39 pm39 an39 cd39 ct39), sl39⟩) (c39 : PySem.W.codeIn K cd39 "need_asked" = true) (k39 : PySem.W.keepIn K (.ref f39) = true)
  (a40 : PySem.W.nsIn K mainGlobals "best_worths" = some (some (.ref f40))) (l40 : K.lookup f40 = some ⟨oc40, od40, .func (PySem.W.fnOf "best_worths" "best_worths" (qt jd) (qr jd) (qe jd) .none kV40 dc40 pm40 an40 cd40 ct40), sl40⟩) (c40 : PySem.W.codeIn K cd40 "best_worths" = true) (k40 : PySem.W.keepIn K (.ref f40) = true)
  (a41 : PySem.W.nsIn K mainGlobals "best_worth" = some (some (.ref f41))) (l41 : K.lookup f41 = some ⟨oc41, od41, .func (PySem.W.fnOf "best_worth" "best_worth" (qt jC) (qr jC) (qe jC) .none kV41 dc41 pm41 an41 cd41 ct41), sl41⟩) (c41 : PySem.W.codeIn K cd41 "best_worth" = true) (k41 : PySem.W.keepIn K (.ref f41) = true)
  (a42 : PySem.W.nsIn K mainGlobals "_law_right" = some (some (.ref f42))) (l42 : K.lookup f42 = some ⟨oc42, od42, .func (PySem.W.fnOf "_law_right" "_law_right" (qt zy) (qr zy) (qe zy) .none kV42 dc42 pm42 an42 cd42 ct42), sl42⟩) (c42 : PySem.W.codeIn K cd42 "_law_right" = true) (k42 : PySem.W.keepIn K (.ref f42) = true)
  (a43 : PySem.W.nsIn K mainGlobals "_law_kind_of" = some (some (.ref f43))) (l43 : K.lookup f43 = some ⟨oc43, od43, .func (PySem.W.fnOf "_law_kind_of" "_law_kind_of" (qt zK) (qr zK) (qe zK) .none kV43 dc43 pm43 an43 cd43 ct43), sl43⟩) (c43 : PySem.W.codeIn K cd43 "_law_kind_of" = true) (k43 : PySem.W.keepIn K (.ref f43) = true)
  (a44 : PySem.W.nsIn K mainGlobals "_law_stocked" = some (some (.ref f44))) (l44 : K.lookup f44 = some ⟨oc44, od44, .func (PySem.W.fnOf "_law_stocked" "_law_stocked" (qt zL) (qr zL) (qe zL) .none kV44 dc44 pm44 an44 cd44 ct44), sl44⟩) (c44 : PySem.W.codeIn K cd44 "_law_stocked" = true) (k44 : PySem.W.keepIn K (.ref f44) = true)
  (a45 : PySem.W.nsIn K mainGlobals "_law_mix" = some (some (.ref f45))) (l45 : K.lookup f45 = some ⟨oc45, od45, .func (PySem.W.fnOf "_law_mix" "_law_mix" (qt yP) (qr yP) (qe yP) .none kV45 dc45 pm45 an45 cd45 ct45), sl45⟩) (c45 : PySem.W.codeIn K cd45 "_law_mix" = true) (k45 : PySem.W.keepIn K (.ref f45) = true)
  (a46 : PySem.W.nsIn K mainGlobals "_law_cell" = some (some (.ref f46))) (l46 : K.lookup f46 = some ⟨oc46, od46, .func (PySem.W.fnOf "_law_cell" "_law_cell" (qt j4) (qr j4) (qe j4) .none kV46 dc46 pm46 an46 cd46 ct46), sl46⟩) (c46 : PySem.W.codeIn K cd46 "_law_cell" = true) (k46 : PySem.W.keepIn K (.ref f46) = true)
  (a47 : PySem.W.nsIn K mainGlobals "_law_box" = some (some (.ref f47))) (l47 : K.lookup f47 = some ⟨oc47, od47, .func (PySem.W.fnOf "_law_box" "_law_box" (qt yQ) (qr yQ) (qe yQ) .none kV47 dc47 pm47 an47 cd47 ct47), sl47⟩) (c47 : PySem.W.codeIn K cd47 "_law_box" = true) (k47 : PySem.W.keepIn K (.ref f47) = true)
  (a48 : PySem.W.nsIn K mainGlobals "law" = some (some (.ref f48))) (l48 : K.lookup f48 = some ⟨oc48, od48, .func (PySem.W.fnOf "law" "law" (qt qbF) (qr qbF) (qe qbF) .none kV48 dc48 pm48 an48 cd48 ct48), sl48⟩) (c48 : PySem.W.codeIn K cd48 "law" = true) (k48 : PySem.W.keepIn K (.ref f48) = true)
  (zb_abs : PySem.W.nsIn K mainGlobals "abs" = some none)
  (zb_all : PySem.W.nsIn K mainGlobals "all" = some none)
  (zb_bool : PySem.W.nsIn K mainGlobals "bool" = some none)
  (zb_divmod : PySem.W.nsIn K mainGlobals "divmod" = some none)
  (zb_enumerate : PySem.W.nsIn K mainGlobals "enumerate" = some none)
  (zb_int : PySem.W.nsIn K mainGlobals "int" = some none)
  (zb_isinstance : PySem.W.nsIn K mainGlobals "isinstance" = some none)
  (zb_len : PySem.W.nsIn K mainGlobals "len" = some none)
  (zb_max : PySem.W.nsIn K mainGlobals "max" = some none)
  (zb_min : PySem.W.nsIn K mainGlobals "min" = some none)
  (zb_range : PySem.W.nsIn K mainGlobals "range" = some none)
  (zb_reversed : PySem.W.nsIn K mainGlobals "reversed" = some none)
  (zb_sorted : PySem.W.nsIn K mainGlobals "sorted" = some none)
  (zb_sum : PySem.W.nsIn K mainGlobals "sum" = some none)
  (zb_tuple : PySem.W.nsIn K mainGlobals "tuple" = some none)
  (zb_zip : PySem.W.nsIn K mainGlobals "zip" = some none)
  (zg_ASKED_AT_MOST : PySem.W.nsIn K mainGlobals "ASKED_AT_MOST" = some (some (.int 200 tk_ASKED_AT_MOST)))
  (zg_BOTTOM : PySem.W.nsIn K mainGlobals "BOTTOM" = some (some (.int 1 tk_BOTTOM)))
  (zg_KINDS_AT_MOST : PySem.W.nsIn K mainGlobals "KINDS_AT_MOST" = some (some (.int 12 tk_KINDS_AT_MOST)))
  (zg_MOST : PySem.W.nsIn K mainGlobals "MOST" = some (some (.int 2 tk_MOST)))
  (zg_NOTHING : PySem.W.nsIn K mainGlobals "NOTHING" = some (some (.ref qa_NOTHING))) (zl_NOTHING : K.lookup qa_NOTHING = some ⟨.type "tuple", qd_NOTHING, .seq qi_NOTHING qn_NOTHING, qs_NOTHING⟩) (zv_NOTHING : qi_NOTHING.toList = [.int 0 tk_NOTHING_0, .int 1 tk_NOTHING_1])
  (zg_TOP : PySem.W.nsIn K mainGlobals "TOP" = some (some (.int 0 tk_TOP)))
  (zg_WEIGHT : PySem.W.nsIn K mainGlobals "WEIGHT" = some (some (.int 0 tk_WEIGHT)))
  (zg_WORTH : PySem.W.nsIn K mainGlobals "WORTH" = some (some (.int 1 tk_WORTH)))
  (zc : cd2 = .ref lc0) (zo : K.lookup lc0 = some ⟨kc1, kc2, .fields kvs, kc3⟩) (zp : kvs[11]? = some (.ref Pt)) (zm : qbC K = some (lc0, Pt, ⟨91, 30, 91, 100⟩)) (zh : PySem.W.codeHdIn K lc0 Pt = true) :
  ∃ fd : FuncData, (∀ (s : Shared) (v : Value), BindsTo s fd ⟨[v], []⟩ [("script", v)]) /\ ∀ base : Heap, K.In base -> base.Ns mainGlobals mg -> qbA l.prog w K mg base CX0 10 fa fd ["script"] (spD K qed) := by
 have e := hfa.symm.trans (PySem.W.mg_of X G a48)
 cases e
 have T : Txt K mg := ⟨PySem.W.mg_none_of X G zb_abs, PySem.W.mg_none_of X G zb_all, PySem.W.mg_none_of X G zb_bool, PySem.W.mg_none_of X G zb_divmod, PySem.W.mg_none_of X G zb_enumerate, PySem.W.mg_none_of X G zb_int, PySem.W.mg_none_of X G zb_isinstance, PySem.W.mg_none_of X G zb_len, PySem.W.mg_none_of X G zb_max, PySem.W.mg_none_of X G zb_min, PySem.W.mg_none_of X G zb_range, PySem.W.mg_none_of X G zb_reversed, PySem.W.mg_none_of X G zb_sorted, PySem.W.mg_none_of X G zb_sum, PySem.W.mg_none_of X G zb_tuple, PySem.W.mg_none_of X G zb_zip, ⟨_, PySem.W.mg_of X G zg_ASKED_AT_MOST⟩, ⟨_, PySem.W.mg_of X G zg_BOTTOM⟩, ⟨_, PySem.W.mg_of X G zg_KINDS_AT_MOST⟩, ⟨_, PySem.W.mg_of X G zg_MOST⟩, ⟨_, PySem.W.mg_of X G zg_NOTHING, qnP zl_NOTHING zv_NOTHING⟩, ⟨_, PySem.W.mg_of X G zg_TOP⟩, ⟨_, PySem.W.mg_of X G zg_WEIGHT⟩, ⟨_, PySem.W.mg_of X G zg_WORTH⟩⟩
 refine ⟨PySem.W.fnOf "law" "law" (qt qbF) (qr qbF) (qe qbF) .none kV48 dc48 pm48 an48 cd48 ct48, fun s v => .of_eq rfl, fun base hB _ => ?_⟩
 have C__law_no_more := q0 (P := l.prog) (w := w) (base := base) (qD (st := zH) l0 c0 k0) (PySem.W.mg_of X G a0) T
 have C_weights_product := q1 (P := l.prog) (w := w) (base := base) (qD (st := zd) l1 c1 k1) (PySem.W.mg_of X G a1) T
 have C_dearest_first := q2 (P := l.prog) (w := w) (base := base) (qD (st := qN) l2 c2 k2) (PySem.W.mg_of X G a2) T zc zh zm C_weights_product
 have C_all_go_in := q3 (P := l.prog) (w := w) (base := base) (qD (st := jU) l3 c3 k3) (PySem.W.mg_of X G a3) T
 have C_room_behind := q4 (P := l.prog) (w := w) (base := base) (qD (st := z7) l4 c4 k4) (PySem.W.mg_of X G a4) T C_all_go_in
 have C_greatest_divisor := q5 (P := l.prog) (w := w) (base := base) (qD (st := qV) l5 c5 k5) (PySem.W.mg_of X G a5) T
 have C_lowest_terms := q6 (P := l.prog) (w := w) (base := base) (qD (st := zJ) l6 c6 k6) (PySem.W.mg_of X G a6) T C_greatest_divisor
 have C_best_share := q7 (P := l.prog) (w := w) (base := base) (qD (st := jv) l7 c7 k7) (PySem.W.mg_of X G a7) T C_all_go_in C_lowest_terms
 have C_is_whole := q8 (P := l.prog) (w := w) (base := base) (qD (st := yI) l8 c8 k8) (PySem.W.mg_of X G a8) T
 have C_is_count := q9 (P := l.prog) (w := w) (base := base) (qD (st := yJ) l9 c9 k9) (PySem.W.mg_of X G a9) T C_is_whole
 have C_need_count := q10 (P := l.prog) (w := w) (base := base) (qD (st := jw) l10 c10 k10) (PySem.W.mg_of X G a10) T C_is_count
 have C_is_kind := q11 (P := l.prog) (w := w) (base := base) (qD (st := uH) l11 c11 k11) (PySem.W.mg_of X G a11) T C_is_count
 have C_is_store := q12 (P := l.prog) (w := w) (base := base) (qD (st := jV) l12 c12 k12) (PySem.W.mg_of X G a12) T C_is_kind
 have C_need_store := q13 (P := l.prog) (w := w) (base := base) (qD (st := jx) l13 c13 k13) (PySem.W.mg_of X G a13) T C_is_store
 have C_best_shares := q14 (P := l.prog) (w := w) (base := base) (qD (st := z8) l14 c14 k14) (PySem.W.mg_of X G a14) T C_dearest_first C_room_behind C_best_share C_need_count C_need_store
 have C_added := q15 (P := l.prog) (w := w) (base := base) (qD (st := qai) l15 c15 k15) (PySem.W.mg_of X G a15) T C_lowest_terms
 have C_share_worth := q16 (P := l.prog) (w := w) (base := base) (qD (st := z9) l16 c16 k16) (PySem.W.mg_of X G a16) T C_best_shares C_added
 have C__law_common := q17 (P := l.prog) (w := w) (base := base) (qD (st := ja) l17 c17 k17) (PySem.W.mg_of X G a17) T
 have C__law_low := q18 (P := l.prog) (w := w) (base := base) (qD (st := yK) l18 c18 k18) (PySem.W.mg_of X G a18) T C__law_common
 have C__law_take := q19 (P := l.prog) (w := w) (base := base) (qD (st := jW) l19 c19 k19) (PySem.W.mg_of X G a19) T
 have C_bound_of := q20 (P := l.prog) (w := w) (base := base) (qD (st := yL) l20 c20 k20) (PySem.W.mg_of X G a20) T C_lowest_terms
 have C_is_price := q21 (P := l.prog) (w := w) (base := base) (qD (st := yM) l21 c21 k21) (PySem.W.mg_of X G a21) T C_greatest_divisor C_is_count
 have C_need_price := q22 (P := l.prog) (w := w) (base := base) (qD (st := jy) l22 c22 k22) (PySem.W.mg_of X G a22) T C_is_price
 have C_bound := q23 (P := l.prog) (w := w) (base := base) (qD (st := qaj) l23 c23 k23) (PySem.W.mg_of X G a23) T C_bound_of C_need_price C_need_count C_need_store
 have C_some_price := q24 (P := l.prog) (w := w) (base := base) (qD (st := jz) l24 c24 k24) (PySem.W.mg_of X G a24) T C_dearest_first C_room_behind C_all_go_in C_lowest_terms C_need_count C_need_store
 have C_taken_together := q25 (P := l.prog) (w := w) (base := base) (qD (st := qX) l25 c25 k25) (PySem.W.mg_of X G a25) T
 have C_can_take := q26 (P := l.prog) (w := w) (base := base) (qD (st := yN) l26 c26 k26) (PySem.W.mg_of X G a26) T C_is_count
 have C_is_load := q27 (P := l.prog) (w := w) (base := base) (qD (st := y7) l27 c27 k27) (PySem.W.mg_of X G a27) T C_can_take C_need_store
 have C_need_load := q28 (P := l.prog) (w := w) (base := base) (qD (st := jX) l28 c28 k28) (PySem.W.mg_of X G a28) T C_is_load
 have C_worth := q29 (P := l.prog) (w := w) (base := base) (qD (st := qak) l29 c29 k29) (PySem.W.mg_of X G a29) T C_taken_together C_need_load
 have C_fits := q30 (P := l.prog) (w := w) (base := base) (qD (st := qbZ) l30 c30 k30) (PySem.W.mg_of X G a30) T C_taken_together C_need_count C_need_load
 have C_cut_load := q31 (P := l.prog) (w := w) (base := base) (qD (st := jY) l31 c31 k31) (PySem.W.mg_of X G a31) T C_best_shares
 have C_whole_bound := q32 (P := l.prog) (w := w) (base := base) (qD (st := jb) l32 c32 k32) (PySem.W.mg_of X G a32) T C_share_worth
 have C_most_within := q33 (P := l.prog) (w := w) (base := base) (qD (st := jc) l33 c33 k33) (PySem.W.mg_of X G a33) T
 have C_room_left := q34 (P := l.prog) (w := w) (base := base) (qD (st := jZ) l34 c34 k34) (PySem.W.mg_of X G a34) T
 have C_worth_with := q35 (P := l.prog) (w := w) (base := base) (qD (st := jA) l35 c35 k35) (PySem.W.mg_of X G a35) T C_room_left
 have C_best_with := q36 (P := l.prog) (w := w) (base := base) (qD (st := jr) l36 c36 k36) (PySem.W.mg_of X G a36) T C_most_within C_worth_with
 have C_best_rows := q37 (P := l.prog) (w := w) (base := base) (qD (st := js) l37 c37 k37) (PySem.W.mg_of X G a37) T C_best_with
 have C_need_few := q38 (P := l.prog) (w := w) (base := base) (qD (st := yO) l38 c38 k38) (PySem.W.mg_of X G a38) T
 have C_need_asked := q39 (P := l.prog) (w := w) (base := base) (qD (st := jB) l39 c39 k39) (PySem.W.mg_of X G a39) T C_need_few C_need_count C_need_store
 have C_best_worths := q40 (P := l.prog) (w := w) (base := base) (qD (st := jd) l40 c40 k40) (PySem.W.mg_of X G a40) T C_best_rows C_need_asked
 have C_best_worth := q41 (P := l.prog) (w := w) (base := base) (qD (st := jC) l41 c41 k41) (PySem.W.mg_of X G a41) T C_best_worths
 have C__law_right := q42 (P := l.prog) (w := w) (base := base) (qD (st := zy) l42 c42 k42) (PySem.W.mg_of X G a42) T C_bound C_some_price C_best_shares C_worth C__law_no_more C_is_load C_fits C_cut_load C_whole_bound C_share_worth C_best_worth
 have C__law_kind_of := q43 (P := l.prog) (w := w) (base := base) (qD (st := zK) l43 c43 k43) (PySem.W.mg_of X G a43) T C__law_take
 have C__law_stocked := q44 (P := l.prog) (w := w) (base := base) (qD (st := zL) l44 c44 k44) (PySem.W.mg_of X G a44) T C__law_take C__law_kind_of
 have C__law_mix := q45 (P := l.prog) (w := w) (base := base) (qD (st := yP) l45 c45 k45) (PySem.W.mg_of X G a45) T
 have C__law_cell := q46 (P := l.prog) (w := w) (base := base) (qD (st := j4) l46 c46 k46) (PySem.W.mg_of X G a46) T
 have C__law_box := q47 (P := l.prog) (w := w) (base := base) (qD (st := yQ) l47 c47 k47) (PySem.W.mg_of X G a47) T C__law_mix C__law_cell
 exact qm7 (P := l.prog) (w := w) (base := base) (qD (st := qbF) l48 c48 k48) T C__law_no_more C_share_worth C__law_low C__law_take C_bound C__law_right C__law_stocked C__law_box
theorem qod {K : Fr0} {H : Hp} {a : Addr} {ns : List Int} (hO : qna H) (hS : SqL K H a (ns.map V.int)) : qlT K H a (ns.map V.int) := by
 rcases hS with (h | h) | h
 ·rcases hO a with z | z
  ·rw [h] at z; cases z
  ·rcases z with ⟨_, _, z⟩ | ⟨_, _, z⟩ <;> (rw [h] at z; cases z)
 ·exact .inl h
 ·exact .inr h
theorem walk {l : PySem.W.OpenLaw} {q : Program} {loose : List Str} {XP : (Str -> Option Value) -> Heap -> Prop} {YP : World -> Heap -> Prop} {d : DefRec} {K : Params -> PySem.W.Frag} (hn : l.most = some 63) (hdf : d.params.defaults = [])
  (hY : ∀ (w : World) (h : Heap), YP w h -> (K w.params).In h) (hlm : ∀ (w : World) (mean : ExcName -> Option Value) (mg mb : Str -> Option Value) (h : Heap) (c Pt : Addr) (pos : Pos), Top q (PySem.W.looseW q loose) mean mg mb h -> (K w.params).In h -> qbC (K w.params) = some (c, Pt, pos) -> PySem.W.CodeHd h c Pt /\ h.get? Pt = some (PySem.W.tabObj #[]) /\ (K w.params).lookup Pt = none) (hlaw : ∀ ns : List Int, ns.length <= 63 -> qed [.fz ns] = .ok (.bl true))
  (F : ∀ (w : World) (mg : Str -> Option Value) (fa : Addr) (h : Heap), (K w.params).In h -> h.Ns mainGlobals mg -> mg d.name = some (.ref fa) ->
   ∃ fd : FuncData, (∀ (s : Shared) (u : Value), BindsTo s fd ⟨[u], []⟩ [("script", u)]) /\ ∀ base : Heap, (K w.params).In base -> base.Ns mainGlobals mg -> qbA l.prog w (K w.params) mg base CX0 10 fa fd ["script"] (spD (K w.params) qed)) :
  PySem.W.WalkO q loose XP YP l.row.toRowW d [] (fun f vs => PySem.call f vs) :=
 L2.walk_lam (n := 63) (k := 10) (x := "script") (CX := fun _ => CX0) (sp := fun w => spD (K w.params) qed) (lm := fun w => (qbC (K w.params)).map fun z => (z.1, z.2.1, z.2.2, qk8)) hn (by decide) hdf ⟨rfl, by decide, by decide, rfl⟩ hY (fun w mean mg mb h c Pt pos z T X e => by
  cases el : qbC (K w.params) with
  | none => rw [el] at e; cases e
  | some p => obtain ⟨c', P', pos'⟩ := p; rw [el] at e; cases e; exact hlm w mean mg mb h _ _ _ T X el) F (fun w H a ns hl hO hT hS => by
  refine ⟨[.fz ns], fun _ => False, ⟨.ref a, [], rfl, ⟨a, rfl, qod hO hS⟩, rfl⟩, fun c P pos e => ⟨hT c P pos qk8 (by rw [e]; rfl), fun z => z⟩, ?_⟩
  rw [hlaw ns hl]
  exact fun v H' _ h => h) fun _ _ _ _ _ z => z
end Law
end L2.Sk
open PySem PySem.W PyProof.Rows
set_option maxRecDepth 100000 in
set_option maxHeartbeats 0 in
theorem PySem.Challenge.cw_sackloads_k28_whole_shares_and_loads_holds : PySem.Challenge.rw_sackloads_k28_whole_shares_and_loads.Holds := by
 w_on; o_law; k_head; (case hw => w_witness2)
 k_fill
 refine L2.Sk.Law.walk (l := PySem.Challenge.rw_sackloads_k28_whole_shares_and_loads) rfl rfl (fun w h Y => by first | exact PySem.W.kIn_of Y | exact PySem.W.km_in_of Y) ?hlm0 L2.Sk.Law.law_true ?F
 case hlm0 =>
  intro w mean mg mb h c Pt pos T X e
  refine L2.Sk.lam_table T X e (d := ?d) ?e1 ?e2
  (case e1 => rfl)
  (case e2 => kernel_rfl)
 case F =>
  intro w mg fa h KX G hmg
  refine' L2.Sk.Law.all_mk KX G hmg ?a0 ?l0 ?c0 ?k0 ?a1 ?l1 ?c1 ?k1 ?a2 ?l2 ?c2 ?k2 ?a3 ?l3 ?c3 ?k3 ?a4 ?l4 ?c4 ?k4 ?a5 ?l5 ?c5 ?k5 ?a6 ?l6 ?c6 ?k6 ?a7 ?l7 ?c7 ?k7 ?a8 ?l8 ?c8 ?k8 ?a9 ?l9 ?c9 ?k9 ?a10 ?l10 ?c10 ?k10 ?a11 ?l11 ?c11 ?k11 ?a12 ?l12 ?c12 ?k12 ?a13 ?l13 ?c13 ?k13 ?a14 ?l14 ?c14 ?k14 ?a15 ?l15 ?c15 ?k15 ?a16 ?l16 ?c16 ?k16 ?a17 ?l17 ?c17 ?k17 ?a18 ?l18 ?c18 ?k18 ?a19 ?l19 ?c19 ?k19 ?a20 ?l20 ?c20 ?k20 ?a21 ?l21 ?c21 ?k21 ?a22 ?l22 ?c22 ?k22 ?a23 ?l23 ?c23 ?k23 ?a24 ?l24 ?c24 ?k24 ?a25 ?l25 ?c25 ?k25 ?a26 ?l26 ?c26 ?k26 ?a27 ?l27 ?c27 ?k27 ?a28 ?l28 ?c28 ?k28 ?a29 ?l29 ?c29 ?k29 ?a30 ?l30 ?c30 ?k30 ?a31 ?l31 ?c31 ?k31 ?a32 ?l32 ?c32 ?k32 ?a33 ?l33 ?c33 ?k33 ?a34 ?l34 ?c34 ?k34 ?a35 ?l35 ?c35 ?k35 ?a36 ?l36 ?c36 ?k36 ?a37 ?l37 ?c37 ?k37 ?a38 ?l38 ?c38 ?k38 ?a39 ?l39 ?c39 ?k39 ?a40 ?l40 ?c40 ?k40 ?a41 ?l41 ?c41 ?k41 ?a42 ?l42 ?c42 ?k42 ?a43 ?l43 ?c43 ?k43 ?a44 ?l44 ?c44 ?k44 ?a45 ?l45 ?c45 ?k45 ?a46 ?l46 ?c46 ?k46 ?a47 ?l47 ?c47 ?k47 ?a48 ?l48 ?c48 ?k48 ?zb_abs ?zb_all ?zb_bool ?zb_divmod ?zb_enumerate ?zb_int ?zb_isinstance ?zb_len ?zb_max ?zb_min ?zb_range ?zb_reversed ?zb_sorted ?zb_sum ?zb_tuple ?zb_zip ?zg_ASKED_AT_MOST ?zg_BOTTOM ?zg_KINDS_AT_MOST ?zg_MOST ?zg_NOTHING ?zl_NOTHING ?zv_NOTHING ?zg_TOP ?zg_WEIGHT ?zg_WORTH ?zc ?zo ?zp ?zm ?zh
  (case a0 => k_is)
  (case l0 => k_is)
  (case c0 => k_is)
  (case k0 => k_is)
  (case a1 => k_is)
  (case l1 => k_is)
  (case c1 => k_is)
  (case k1 => k_is)
  (case a2 => k_is)
  (case l2 => k_is)
  (case c2 => k_is)
  (case k2 => k_is)
  (case a3 => k_is)
  (case l3 => k_is)
  (case c3 => k_is)
  (case k3 => k_is)
  (case a4 => k_is)
  (case l4 => k_is)
  (case c4 => k_is)
  (case k4 => k_is)
  (case a5 => k_is)
  (case l5 => k_is)
  (case c5 => k_is)
  (case k5 => k_is)
  (case a6 => k_is)
  (case l6 => k_is)
  (case c6 => k_is)
  (case k6 => k_is)
  (case a7 => k_is)
  (case l7 => k_is)
  (case c7 => k_is)
  (case k7 => k_is)
  (case a8 => k_is)
  (case l8 => k_is)
  (case c8 => k_is)
  (case k8 => k_is)
  (case a9 => k_is)
  (case l9 => k_is)
  (case c9 => k_is)
  (case k9 => k_is)
  (case a10 => k_is)
  (case l10 => k_is)
  (case c10 => k_is)
  (case k10 => k_is)
  (case a11 => k_is)
  (case l11 => k_is)
  (case c11 => k_is)
  (case k11 => k_is)
  (case a12 => k_is)
  (case l12 => k_is)
  (case c12 => k_is)
  (case k12 => k_is)
  (case a13 => k_is)
  (case l13 => k_is)
  (case c13 => k_is)
  (case k13 => k_is)
  (case a14 => k_is)
  (case l14 => k_is)
  (case c14 => k_is)
  (case k14 => k_is)
  (case a15 => k_is)
  (case l15 => k_is)
  (case c15 => k_is)
  (case k15 => k_is)
  (case a16 => k_is)
  (case l16 => k_is)
  (case c16 => k_is)
  (case k16 => k_is)
  (case a17 => k_is)
  (case l17 => k_is)
  (case c17 => k_is)
  (case k17 => k_is)
  (case a18 => k_is)
  (case l18 => k_is)
  (case c18 => k_is)
  (case k18 => k_is)
  (case a19 => k_is)
  (case l19 => k_is)
  (case c19 => k_is)
  (case k19 => k_is)
  (case a20 => k_is)
  (case l20 => k_is)
  (case c20 => k_is)
  (case k20 => k_is)
  (case a21 => k_is)
  (case l21 => k_is)
  (case c21 => k_is)
  (case k21 => k_is)
  (case a22 => k_is)
  (case l22 => k_is)
  (case c22 => k_is)
  (case k22 => k_is)
  (case a23 => k_is)
  (case l23 => k_is)
  (case c23 => k_is)
  (case k23 => k_is)
  (case a24 => k_is)
  (case l24 => k_is)
  (case c24 => k_is)
  (case k24 => k_is)
  (case a25 => k_is)
  (case l25 => k_is)
  (case c25 => k_is)
  (case k25 => k_is)
  (case a26 => k_is)
  (case l26 => k_is)
  (case c26 => k_is)
  (case k26 => k_is)
  (case a27 => k_is)
  (case l27 => k_is)
  (case c27 => k_is)
  (case k27 => k_is)
  (case a28 => k_is)
  (case l28 => k_is)
  (case c28 => k_is)
  (case k28 => k_is)
  (case a29 => k_is)
  (case l29 => k_is)
  (case c29 => k_is)
  (case k29 => k_is)
  (case a30 => k_is)
  (case l30 => k_is)
  (case c30 => k_is)
  (case k30 => k_is)
  (case a31 => k_is)
  (case l31 => k_is)
  (case c31 => k_is)
  (case k31 => k_is)
  (case a32 => k_is)
  (case l32 => k_is)
  (case c32 => k_is)
  (case k32 => k_is)
  (case a33 => k_is)
  (case l33 => k_is)
  (case c33 => k_is)
  (case k33 => k_is)
  (case a34 => k_is)
  (case l34 => k_is)
  (case c34 => k_is)
  (case k34 => k_is)
  (case a35 => k_is)
  (case l35 => k_is)
  (case c35 => k_is)
  (case k35 => k_is)
  (case a36 => k_is)
  (case l36 => k_is)
  (case c36 => k_is)
  (case k36 => k_is)
  (case a37 => k_is)
  (case l37 => k_is)
  (case c37 => k_is)
  (case k37 => k_is)
  (case a38 => k_is)
  (case l38 => k_is)
  (case c38 => k_is)
  (case k38 => k_is)
  (case a39 => k_is)
  (case l39 => k_is)
  (case c39 => k_is)
  (case k39 => k_is)
  (case a40 => k_is)
  (case l40 => k_is)
  (case c40 => k_is)
  (case k40 => k_is)
  (case a41 => k_is)
  (case l41 => k_is)
  (case c41 => k_is)
  (case k41 => k_is)
  (case a42 => k_is)
  (case l42 => k_is)
  (case c42 => k_is)
  (case k42 => k_is)
  (case a43 => k_is)
  (case l43 => k_is)
  (case c43 => k_is)
  (case k43 => k_is)
  (case a44 => k_is)
  (case l44 => k_is)
  (case c44 => k_is)
  (case k44 => k_is)
  (case a45 => k_is)
  (case l45 => k_is)
  (case c45 => k_is)
  (case k45 => k_is)
  (case a46 => k_is)
  (case l46 => k_is)
  (case c46 => k_is)
  (case k46 => k_is)
  (case a47 => k_is)
  (case l47 => k_is)
  (case c47 => k_is)
  (case k47 => k_is)
  (case a48 => k_is)
  (case l48 => k_is)
  (case c48 => k_is)
  (case k48 => k_is)
  (case zb_abs => k_is)
  (case zb_all => k_is)
  (case zb_bool => k_is)
  (case zb_divmod => k_is)
  (case zb_enumerate => k_is)
  (case zb_int => k_is)
  (case zb_isinstance => k_is)
  (case zb_len => k_is)
  (case zb_max => k_is)
  (case zb_min => k_is)
  (case zb_range => k_is)
  (case zb_reversed => k_is)
  (case zb_sorted => k_is)
  (case zb_sum => k_is)
  (case zb_tuple => k_is)
  (case zb_zip => k_is)
  (case zg_ASKED_AT_MOST => k_is)
  (case zg_BOTTOM => k_is)
  (case zg_KINDS_AT_MOST => k_is)
  (case zg_MOST => k_is)
  (case zg_NOTHING => k_is)
  (case zl_NOTHING => k_is)
  (case zv_NOTHING => rfl)
  (case zg_TOP => k_is)
  (case zg_WEIGHT => k_is)
  (case zg_WORTH => k_is)
  (case zc => rfl)
  (case zo => k_is)
  (case zp => rfl)
  (case zm => kernel_rfl)
  (case zh => kernel_rfl)
