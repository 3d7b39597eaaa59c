import PyProof.Rows.All
import Wide.All
import OpenK.AllK
import Wide.FinOn
import Lean
import PyProof.EqAt
import PyProof.EqKinds
import PyProof.TupleCall
import PySem.Challenge.RW_sackloads_k75_changes_refused
def PySem.W.Fast.tw16559841517415176260 : Nat := 0
def PySem.W.Fast.tw3586074673972737465 : Nat := 0
def PySem.W.Fast.tw14472716249396565309 : Nat := 0
def PySem.W.Fast.tw11627079405675746424 : Nat := 0
def PySem.W.Fast.tw12711145449178257730 : Nat := 0
def PySem.W.Fast.tw6723918348088657462 : Nat := 0
def PySem.W.Fast.tw8885888624599700162 : Nat := 0
def PySem.W.Fast.tw15483133946861859171 : Nat := 0
set_option linter.all false
set_option Elab.async false
set_option maxRecDepth 100000
open List renaming mem_cons_of_mem → mM, mem_cons_self → mS_, getElem?_eq_getElem → gG, length_cons → lC_, length_map → lM_, length_append → lA_, getElem?_map → gM_, map_cons → mC_, mem_append → mA_, length_range → lR_, length_nil → lN_, size_toArray → sT_, mem_range → mR_, mem_map → mP_, replicate_succ → rS_, length_set → lS_, not_mem_nil → nN_, map_congr_left → mL_, append_assoc → aA_, getElem?_eq_some_iff → gI_, foldl_cons → fo_, mem_append_right → mr_, filter_cons → ft_
namespace L2
open PySem PySem.Spec PyProof.Rows
abbrev Key := Sum Int Str
def qje : Key -> Value -> Bool
 | .inl k, v => Value.isInt k v
 | .inr x, v => Value.isStrOf x v
def qmZ (w : World) : Key -> Int
 | .inl k => hashInt k
 | .inr x => hashStr w x
theorem qY : ∀ {k : Key} {v : Value}, qje k v = true -> (∃ i t, k = Sum.inl i /\ v = Value.int i t) \/ (∃ x t, k = Sum.inr x /\ v = Value.str x t)
 | .inl i, v, h => by
  obtain ⟨t, e⟩ := Value.isInt_shape (k := i) (v := v) h
  exact .inl ⟨i, t, rfl, e⟩
 | .inr x, v, h => by
  obtain ⟨t, e⟩ := Value.isStrOf_shape (x := x) (v := v) h
  exact .inr ⟨x, t, rfl, e⟩
theorem qjf (a b : Int) : decide ((Sum.inl a : Key) = Sum.inl b) = (a == b) := by
 by_cases e : a = b
 ·subst e; simp
 ·have h : ¬ (Sum.inl a : Key) = Sum.inl b := fun q => e (Sum.inl.inj q)
  rw [decide_eq_false h]
  exact (beq_eq_false_iff_ne.mpr e).symm
theorem qjg (a b : Str) : decide ((Sum.inr a : Key) = Sum.inr b) = decide (a = b) := by
 by_cases e : a = b
 ·subst e; simp
 ·have h : ¬ (Sum.inr a : Key) = Sum.inr b := fun q => e (Sum.inr.inj q)
  rw [decide_eq_false h, decide_eq_false e]
theorem qjh (a : Int) (b : Str) : decide ((Sum.inl a : Key) = Sum.inr b) = false := decide_eq_false (fun q => nomatch q)
theorem qji (a : Str) (b : Int) : decide ((Sum.inr a : Key) = Sum.inl b) = false := decide_eq_false (fun q => nomatch q)
def qaJ (prog : Program) (w : World) : PySem.KeyKind prog w Key where
 is := qje
 hash := qmZ w
 inj := fun v a b ha hb => by
  rcases qY ha with ⟨i, t, rfl, rfl⟩ | ⟨x, t, rfl, rfl⟩
  ·rcases qY hb with ⟨j, u, rfl, e⟩ | ⟨y, u, rfl, e⟩
   ·injection e with e1 _; rw [e1]
   ·exact nomatch e
  ·rcases qY hb with ⟨j, u, rfl, e⟩ | ⟨y, u, rfl, e⟩
   ·exact nomatch e
   ·injection e with e1 _; rw [e1]
 byValue := fun k v h => by
  rcases qY h with ⟨i, t, rfl, rfl⟩ | ⟨x, t, rfl, rfl⟩ <;> rfl
 pyHash := fun hv h => by
  rcases qY hv with ⟨i, t, rfl, rfl⟩ | ⟨x, t, rfl, rfl⟩
  ·exact wpAny_pyHash_int h
  ·exact wpAny_pyHash_str h
 eqBool := fun hu hv h => by
  rcases qY hu with ⟨i, t, rfl, rfl⟩ | ⟨x, t, rfl, rfl⟩
  ·rcases qY hv with ⟨j, u, rfl, rfl⟩ | ⟨y, u, rfl, rfl⟩
   ·rw [qjf] at h; exact wpAny_eqBool_int h
   ·rw [qjh] at h; exact SeqAt.EqAt.int_str i t y u _ _ _ _ h
  ·rcases qY hv with ⟨j, u, rfl, rfl⟩ | ⟨y, u, rfl, rfl⟩
   ·rw [qji] at h; exact SeqAt.EqAt.str_int x t j u _ _ _ _ h
   ·rw [qjg] at h; exact wpAny_eqBool_str h
 «strs» := fun k x t v h => by
  rcases qY h with ⟨i, u, rfl, e⟩ | ⟨y, u, rfl, e⟩
  ·exact nomatch e
  ·injection e with e1 _
   subst e1
   cases v <;> rfl
end L2
namespace L2
open PySem PySem.Spec PyProof.Rows
inductive V where
 | non | bl (b : Bool) | int (i : Int) | str (x : Str) | byt (b : Array UInt8) | flt (b : UInt64) | ref (a : Addr) | ty (n : String)
 deriving DecidableEq
def zZ : V -> Value -> Prop
 | .non, u => u = Value.none
 | .bl b, u => u = Value.bool b
 | .int i, u => ∃ t, u = Value.int i t
 | .str x, u => ∃ t, u = Value.str x t
 | .byt b, u => ∃ t, u = Value.bytes b t
 | .flt b, u => ∃ t, u = Value.float b t
 | .ref a, u => u = Value.ref a
 | .ty n, u => u = Value.type n
abbrev qT : List V -> List Value -> Prop := Paired zZ
theorem qT.length {xs : List V} {us : List Value} (r : qT xs us) : xs.length = us.length := Paired.length r
theorem qT.get : ∀ {xs : List V} {us : List Value} {i : Nat} {x : V}, qT xs us -> xs[i]? = some x -> ∃ u, us[i]? = some u /\ zZ x u
 | _, _, _, _, .nil, e => by simp at e
 | _, _, 0, _, .cons r _, e => by simp at e; subst e; exact ⟨_, rfl, r⟩
 | _, _, i + 1, x, .cons _ t, e => by
  obtain ⟨u, h1, h2⟩ := qT.get (i := i) (x := x) t (by simpa using e)
  exact ⟨u, by simpa using h1, h2⟩
theorem qT.set {x : V} {u : Value} (r : zZ x u) : ∀ {xs : List V} {us : List Value} (i : Nat), qT xs us -> qT (xs.set i x) (us.set i u)
 | _, _, _, .nil => .nil
 | _, _, 0, .cons _ t => .cons r t
 | _, _, i + 1, .cons q t => .cons q (qT.set r i t)
theorem qT.append : ∀ {xs ys : List V} {us ws : List Value}, qT xs us -> qT ys ws -> qT (xs ++ ys) (us ++ ws)
 | _, _, _, _, .nil, s => s
 | _, _, _, _, .cons r t, s => .cons r (qT.append t s)
theorem qT.take : ∀ {xs : List V} {us : List Value} (n : Nat), qT xs us -> qT (xs.take n) (us.take n)
 | _, _, 0, _ => .nil
 | _, _, _ + 1, .nil => .nil
 | _, _, n + 1, .cons r t => .cons r (qT.take n t)
theorem qT.drop : ∀ {xs : List V} {us : List Value} (n : Nat), qT xs us -> qT (xs.drop n) (us.drop n)
 | _, _, 0, r => r
 | _, _, _ + 1, .nil => .nil
 | _, _, n + 1, .cons _ t => qT.drop n t
def qly : Option V -> Option Value -> Prop
 | some v, some u => zZ v u
 | none, none => True
 | _, _ => False
def KV {κ : Type} : List (κ × V) -> List (κ × Value) -> Prop := Paired fun (p : κ × V) (q : κ × Value) => p.1 = q.1 /\ zZ p.2 q.2
def kV : Key -> V
 | .inl i => .int i
 | .inr x => .str x
inductive HO where
 /-- a list -/
 | lst (xs : List V)
 /-- a tuple (never changes) -/
 | tup (xs : List V)
 /-- a dict whose keys are ints and texts; one whose keys are tuples of ints and texts (the empty one is both) -/
 | dK (kvs : List (Key × V)) | dT (kvs : List (List Key × V))
 /-- a set of ints: its members, its size -/
 | set (S : Int -> Bool) (n : Nat)
 /-- an instance of the class at C, its dict at dx, its attributes -/
 | ins (C dx : Addr) (fs : List (Str × V))
 /-- the dict of the instance at x -/
 | own (x : Addr)
 /-- the dict of an exception -/
 | xd (fs : List (Str × V))
 /-- a bound method, f of x -/
 | met (f x : Addr)
 /-- a range object lo, lo + 1, .. below hi -/
 | rng (lo hi : Int)
 /-- a thing that is known to the object (the script; a dict while a loop walks it): read, never written while it is so -/
 | frz (o : Obj) (u : HO)
 /-- a code object's table -/
 | tbl (ps : Array Value)
 /-- any other thing, by what is true of its one object (a def of one's own: SetO a S n := HO.ext fun h => ..) -/
 | ext (φ : Heap -> Prop)
 /-- the table of a code object in which at most one lambda's code stands -/
 | lam (pos : Pos) (q : Str)
abbrev Hp := Addr -> Option HO
def upd (H : Hp) (a : Addr) (o : HO) : Hp := fun b => if b = a then some o else H b
theorem ql {H : Hp} {a : Addr} {o : HO} : upd H a o a = some o := by unfold upd; rw [if_pos rfl]
theorem qm {H : Hp} {a b : Addr} {o : HO} (h : b ≠ a) : upd H a o b = H b := by unfold upd; rw [if_neg h]
theorem u8 {H : Hp} {a b : Addr} {o u : HO} (h : H a = some o) (h' : H b = some u) (d : o ≠ u) : a ≠ b := by
 intro e; subst e; rw [h] at h'; exact d (Option.some.inj h')
theorem qB {H : Hp} {a b : Addr} {o : HO} (h : H a = some o) (h' : H b = none) : a ≠ b := by
 intro e; subst e; rw [h] at h'; cases h'
section
variable (P : Program) (w : World)
def jX (H : Hp) (h : Heap) (a : Addr) : HO -> Prop
 | .lst xs => xs.length <= sizeLine /\ ∃ (its : List Value) (n : Nat), qT xs its /\ h.get? a = some { cls := .type "list", data := .seq its.toArray n }
 | .tup xs => xs.length <= sizeLine /\ ∃ its : List Value, qT xs its /\ IsTup h a its.toArray
 | .dK kvs => kvs.length <= sizeLine /\ (a == sysModules) = false /\ ∃ vs, KV kvs vs /\ h.DictOf (qaJ P w) a vs
 | .dT kvs => kvs.length <= sizeLine /\ (a == sysModules) = false /\ ∃ xs : List (List Key × Addr × Value),
   Paired (fun (p : List Key × V) (q : List Key × Addr × Value) => p.1 = q.1 /\ H q.2.1 = some (.tup (p.1.map kV)) /\ zZ p.2 q.2.2) kvs xs /\
   ∃ o es ep, h.get? a = some o /\ o.ExactDict /\ o.data = .dict es ep /\ es.toList = xs.map (entryOfKey (tupleKind (qaJ P w))) /\ (xs.map (·.1)).Nodup
 | .set S n => h.SetOf (intKind P w) a S n
 | .ins C dx fs => H dx = some (.own a) /\ fs.length <= 1000 /\ dx ≠ a /\ h.get? a = some (PySem.W.instObj C dx) /\
   ∃ mA, h.Ns1 dx mA /\ (∀ f, qly (fs.lookup f) (mA f)) /\ PySem.Within mA (fs.map (·.1))
 | .own _ => ∃ o, h.get? a = some o
 | .xd fs => ∃ mA, h.Ns1 a mA /\ ∀ f, qly (fs.lookup f) (mA f)
 | .rng lo hi => ∃ t u v, h.get? a = some { cls := .type "range", data := .fields #[.int lo t, .int hi u, .int 1 v] }
 | .frz o u => h.get? a = some o /\ jX H h a u
 | .tbl ps => h.get? a = some { cls := .none, data := .fields ps }
 | .met f x => h.get? a = some (PySem.W.methodObj (.ref f) (.ref x))
 | .lam pos q => h.get? a = some { cls := .none, data := .fields #[] } \/ ∃ (c : Addr) (oc : Obj) (vs : Array Value) (t : Tok), H c = some (.frz oc (.own c)) /\ oc.data = .fields vs /\ vs[1]? = some (.str q t) /\
   h.get? a = some { cls := .none, data := .fields #[rawInt pos.line, rawInt pos.col, .ref c] }
 | .ext φ => φ h /\ (∃ o, h.get? a = some o) /\ ∀ h1 h2 : Heap, φ h1 -> (∀ o, h1.get? a = some o -> h2.get? a = some o) -> φ h2
def HOk (H : Hp) (h : Heap) : Prop := ∀ a o, H a = some o -> jX P w H h a o
end
section
variable {P : Program} {w : World} {H H' : Hp} {h h' : Heap} {a : Addr} {o : HO}
theorem jX.lt (x : jX P w H h a o) : a < h.objs.size := by
 cases o with
 | lst xs => obtain ⟨_, _, _, _, e⟩ := x; exact Heap.lt_size e
 | tup xs => obtain ⟨_, _, _, p⟩ := x; exact p.lt
 | dK kvs => obtain ⟨_, _, _, _, o, _, _, e, _⟩ := x; exact Heap.lt_size e
 | dT kvs => obtain ⟨_, _, _, _, o, _, _, e, _⟩ := x; exact Heap.lt_size e
 | set S n => obtain ⟨o, _, _, _, e, _⟩ := x; exact Heap.lt_size e
 | ins C dx fs => obtain ⟨_, _, _, e, _⟩ := x; exact Heap.lt_size e
 | own y => obtain ⟨_, e⟩ := x; exact Heap.lt_size e
 | xd fs => obtain ⟨_, ⟨_, _, _, e, _⟩, _⟩ := x; exact Heap.lt_size e
 | rng lo hi => obtain ⟨_, _, _, e⟩ := x; exact Heap.lt_size e
 | frz ob u => obtain ⟨e, _⟩ := x; exact Heap.lt_size e
 | tbl ps => exact Heap.lt_size (show h.get? a = some _ from x)
 | met f y => exact Heap.lt_size (show h.get? a = some _ from x)
 | ext φ => obtain ⟨_, ⟨_, e⟩, _⟩ := x; exact Heap.lt_size e
 | lam pos q =>
  rcases x with e | ⟨_, _, _, _, _, _, _, e⟩
  ·exact Heap.lt_size e
  ·exact Heap.lt_size e
theorem Paired.mapP {α β : Type} {F G : α -> β -> Prop} : ∀ {l₁ : List α} {l₂ : List β}, Paired F l₁ l₂ -> (∀ a b, F a b -> G a b) -> Paired G l₁ l₂
 | _, _, .nil, _ => .nil
 | _, _, .cons r t, f => .cons (f _ _ r) (Paired.mapP t f)
theorem jX.stay (x : jX P w H h a o) (k : ∀ b u, (b = a \/ H b = some (.own a)) -> h.get? b = some u -> h'.get? b = some u)
  (ho : ∀ b, H b = some (.own a) -> H' b = some (.own a)) (ht : ∀ b xs, H b = some (.tup xs) -> H' b = some (.tup xs)) (hz : ∀ b ob u, H b = some (.frz ob u) -> H' b = some (.frz ob u) := by exact fun _ _ _ q => q) : jX P w H' h' a o := by
 induction o with
 | lst xs => obtain ⟨z, its, n, r, e⟩ := x; exact ⟨z, its, n, r, k _ _ (.inl rfl) e⟩
 | tup xs => obtain ⟨z, its, r, ob, e, c⟩ := x; exact ⟨z, its, r, ob, k _ _ (.inl rfl) e, c⟩
 | dK kvs => obtain ⟨z, y, vs, r, ob, es, ep, e, c⟩ := x; exact ⟨z, y, vs, r, ob, es, ep, k _ _ (.inl rfl) e, c⟩
 | dT kvs =>
  obtain ⟨z, y, xs, r, ob, es, ep, e, c⟩ := x
  exact ⟨z, y, xs, Paired.mapP r fun p q z => ⟨z.1, ht _ _ z.2.1, z.2.2⟩, ob, es, ep, k _ _ (.inl rfl) e, c⟩
 | set S n => obtain ⟨ob, es, ep, t, e, c⟩ := x; exact ⟨ob, es, ep, t, k _ _ (.inl rfl) e, c⟩
 | ins C dx fs =>
  obtain ⟨d, z, ne, e, mA, ⟨od, es, ep, e2, c⟩, r⟩ := x
  exact ⟨ho _ d, z, ne, k _ _ (.inl rfl) e, mA, ⟨od, es, ep, k _ _ (.inr d) e2, c⟩, r⟩
 | own y => obtain ⟨ob, e⟩ := x; exact ⟨ob, k _ _ (.inl rfl) e⟩
 | xd fs => obtain ⟨mA, ⟨od, es, ep, e, c⟩, r⟩ := x; exact ⟨mA, ⟨od, es, ep, k _ _ (.inl rfl) e, c⟩, r⟩
 | rng lo hi => obtain ⟨t, u, v, e⟩ := x; exact ⟨t, u, v, k _ _ (.inl rfl) e⟩
 | frz ob u ih => obtain ⟨e, q⟩ := x; exact ⟨k _ _ (.inl rfl) e, ih q⟩
 | tbl ps =>
  have e : h.get? a = some { cls := .none, data := .fields ps } := x
  show h'.get? a = some { cls := .none, data := .fields ps }
  exact k a _ (.inl rfl) e
 | met f y =>
  have e : h.get? a = some (PySem.W.methodObj (.ref f) (.ref y)) := x
  show h'.get? a = some (PySem.W.methodObj (.ref f) (.ref y))
  exact k a _ (.inl rfl) e
 | ext φ => obtain ⟨p, ⟨o, e⟩, st⟩ := x; exact ⟨st _ _ p fun o q => k _ _ (.inl rfl) q, ⟨o, k _ _ (.inl rfl) e⟩, st⟩
 | lam pos q =>
  rcases x with e | ⟨c, oc, vs, t, h1, h2, h3, e⟩
  ·exact .inl (k _ _ (.inl rfl) e)
  ·exact .inr ⟨c, oc, vs, t, hz _ _ _ h1, h2, h3, k _ _ (.inl rfl) e⟩
theorem HOk.lt (x : HOk P w H h) (e : H a = some o) : a < h.objs.size := (x a o e).lt
theorem HOk.fresh (x : HOk P w H h) (e : h.objs.size <= a) : H a = none := by
 cases q : H a with
 | none => rfl
 | some u => exact absurd (Nat.lt_of_lt_of_le (x.lt q) e) (Nat.lt_irrefl _)
theorem HOk.kept (x : HOk P w H h) (k : ∀ b u, h.get? b = some u -> h'.get? b = some u) : HOk P w H h' := fun a o e =>
 (x a o e).stay (fun b u _ q => k b u q) (fun _ q => q) fun _ _ q => q
theorem HOk.laid (x : HOk P w H h) (k : ∀ b u, h.get? b = some u -> h'.get? b = some u) (hp : h.objs.size <= a) (new : jX P w (upd H a o) h' a o) : HOk P w (upd H a o) h' := fun b u e => by
 have hn := x.fresh hp
 by_cases hb : b = a
 ·subst hb; rw [ql] at e; cases e; exact new
 ·rw [qm hb] at e
  exact (x b u e).stay (fun c v _ q => k c v q) (fun c q => by rw [qm (qB q hn)]; exact q) (fun c xs q => by rw [qm (qB q hn)]; exact q) fun c ob z q => by rw [qm (qB q hn)]; exact q
end
def Rd (H : Hp) (a : Addr) (u : HO) : Prop := H a = some u \/ ∃ o, H a = some (.frz o u)
theorem Rd.ok {P : Program} {w : World} {H : Hp} {h : Heap} {a : Addr} {u : HO} (r : Rd H a u) (x : HOk P w H h) : jX P w H h a u := by
 rcases r with r | ⟨o, r⟩
 ·exact x a u r
 ·obtain ⟨_, q⟩ := x a _ r
  exact q
def Mut : Option HO -> Prop
 | some (.lst _) => True
 | some (.dK _) => True
 | some (.dT _) => True
 | some (.set _ _) => True
 | some (.ins _ _ _) => True
 | some (.ext _) => True
 | _ => False
section
variable {P : Program} {w : World} {H : Hp} {h h' : Heap} {x e : Addr} {o' : HO}
theorem HOk.write (ok : HOk P w H h) (mu : Mut (H x)) (he : e = x \/ H e = some (.own x)) (k : ∀ b u, b ≠ e -> h.get? b = some u -> h'.get? b = some u) (heo : ∃ u, h'.get? e = some u)
  (new : jX P w (upd H x o') h' x o') : HOk P w (upd H x o') h' := fun b u q => by
 have nown : ∀ c y, H c = some (.own y) -> c ≠ x := fun c y r z => by subst z; rw [r] at mu; exact mu
 have ntup : ∀ c xs, H c = some (.tup xs) -> c ≠ x := fun c xs r z => by subst z; rw [r] at mu; exact mu
 have nfrz : ∀ c ob y, H c = some (.frz ob y) -> c ≠ x := fun c ob y r z => by subst z; rw [r] at mu; exact mu
 by_cases hb : b = x
 ·subst hb; rw [ql] at q; cases q; exact new
 ·rw [qm hb] at q
  by_cases hbe : b = e
  ·have q' : H b = some (.own x) := by
    rcases he with z | z
    ·exact absurd (hbe.trans z) hb
    ·rw [hbe]; exact z
   rw [q] at q'; cases q'
   obtain ⟨v, hv⟩ := heo
   exact ⟨v, by rw [hbe]; exact hv⟩
  ·refine (ok b u q).stay (fun c v hc r => k c v ?_ r) (fun c r => by rw [qm (nown c b r)]; exact r) (fun c xs r => by rw [qm (ntup c xs r)]; exact r) fun c ob z r => by rw [qm (nfrz c ob z r)]; exact r
   rcases hc with rfl | hc
   ·exact hbe
   ·rintro rfl
    rcases he with z | z
    ·exact nown c b hc z
    ·rw [hc] at z; cases z; exact hb rfl
end
structure Un (fs ex : List Addr) (H H' : Hp) (h h' : Heap) : Prop where
 keep : ∀ b o, h.get? b = some o -> H b = none -> b ∉ fs -> b ∉ ex -> h'.get? b = some o
 slot : ∀ b o, h.get? b = some o -> H b = none -> b ∈ fs -> b ∉ ex -> ∃ sl, h'.get? b = some { o with slots := sl }
 free : ∀ b o, h.get? b = some o -> H b = none -> b ∉ ex -> H' b = none
 there : ∀ b o, h.get? b = some o -> b ∉ ex -> ∃ o', h'.get? b = some o'
 tups : ∀ b xs, H b = some (.tup xs) -> H' b = some (.tup xs)
 frzs : ∀ b o u, H b = some (.frz o u) -> H' b = some (.frz o u)
 tbls : ∀ b pos q, H b = some (.lam pos q) -> H' b = some (.lam pos q)
section
variable {fs fs' ex ex' : List Addr} {H H1 H2 : Hp} {h h1 h2 h' : Heap} {a x e : Addr} {o : HO}
theorem Un.any (u : Un fs ex H H1 h h1) {b : Addr} {ob : Obj} (q : h.get? b = some ob) (n : H b = none) (hx : b ∉ ex) : ∃ sl, h1.get? b = some { ob with slots := sl } := by
 by_cases hb : b ∈ fs
 ·exact u.slot b ob q n hb hx
 ·exact ⟨ob.slots, u.keep b ob q n hb hx⟩
theorem Un.trans (a : Un fs ex H H1 h h1) (b : Un fs ex H1 H2 h1 h2) : Un fs ex H H2 h h2 where
 keep := fun c ob q n hc hx => b.keep c ob (a.keep c ob q n hc hx) (a.free c ob q n hx) hc hx
 slot := fun c ob q n hc hx => by
  obtain ⟨sl, e1⟩ := a.slot c ob q n hc hx
  obtain ⟨sl', e2⟩ := b.slot c _ e1 (a.free c ob q n hx) hc hx
  exact ⟨sl', e2⟩
 free := fun c ob q n hx => by
  obtain ⟨o', e1⟩ := a.there c ob q hx
  exact b.free c o' e1 (a.free c ob q n hx) hx
 there := fun c ob q hx => by
  obtain ⟨o', e1⟩ := a.there c ob q hx
  exact b.there c o' e1 hx
 tups := fun c xs q => b.tups c xs (a.tups c xs q)
 frzs := fun c ob xs q => b.frzs c ob xs (a.frzs c ob xs q)
 tbls := fun c ps x q => b.tbls c ps x (a.tbls c ps x q)
theorem Un.kept (k : ∀ b u, h.get? b = some u -> h'.get? b = some u) : Un fs ex H H h h' :=
 ⟨fun b ob q _ _ _ => k b ob q, fun b ob q _ _ _ => ⟨ob.slots, k b ob q⟩, fun _ _ _ n _ => n, fun b ob q _ => ⟨ob, k b ob q⟩, fun _ _ q => q, fun _ _ _ q => q, fun _ _ _ q => q⟩
theorem Un.refl : Un fs ex H H h h := Un.kept fun _ _ q => q
theorem Un.laid (k : ∀ b u, h.get? b = some u -> h'.get? b = some u) (hp : h.objs.size <= a) (hn : H a = none) : Un fs ex H (upd H a o) h h' where
 keep := fun b u q _ _ _ => k b u q
 slot := fun b u q _ _ _ => ⟨u.slots, k b u q⟩
 free := fun b u q n _ => by rw [qm (Nat.ne_of_lt (Nat.lt_of_lt_of_le (Heap.lt_size q) hp))]; exact n
 there := fun b u q _ => ⟨u, k b u q⟩
 tups := fun b xs q => by rw [qm (qB q hn)]; exact q
 frzs := fun b u xs q => by rw [qm (qB q hn)]; exact q
 tbls := fun b ps x q => by rw [qm (qB q hn)]; exact q
theorem Un.write (mu : Mut (H x)) (he : e = x \/ H e = some (.own x)) (k : ∀ b u, b ≠ e -> h.get? b = some u -> h'.get? b = some u) (heo : ∃ u, h'.get? e = some u) : Un fs ex H (upd H x o) h h' := by
 have hx : ∀ b, H b = none -> b ≠ x := fun b n z => by subst z; rw [n] at mu; exact mu
 have hb : ∀ b, H b = none -> b ≠ e := fun b n z => by
  subst z
  rcases he with r | r
  ·exact hx b n r
  ·rw [n] at r; cases r
 have hm : ∀ b u, H b = some u -> ¬ Mut (some u) -> b ≠ x := fun b u q nm z => by subst z; rw [q] at mu; exact nm mu
 refine ⟨fun b u q n _ _ => k b u (hb b n) q, fun b u q n _ _ => ⟨u.slots, k b u (hb b n) q⟩, fun b u q n _ => by rw [qm (hx b n)]; exact n, fun b u q _ => ?_,
  fun b xs q => by rw [qm (hm b _ q fun z => z)]; exact q, fun b u xs q => by rw [qm (hm b _ q fun z => z)]; exact q, fun b ps x q => by rw [qm (hm b _ q fun z => z)]; exact q⟩
 by_cases hbe : b = e
 ·subst hbe; exact heo
 ·exact ⟨u, k b u hbe q⟩
end
def trk (h : Heap) (H : Hp) : List Addr := (List.range h.objs.size).filter fun a => (H a).isSome
def qfI (h : Heap) (H : Hp) : Heap := PySem.W.hideAll h (trk h H)
theorem qd3 (h : Heap) (H : Hp) : (qfI h H).objs.size = h.objs.size := PySem.W.hideAll_size _ _
theorem qfJ {h : Heap} {H : Hp} {b : Addr} {o : Obj} (e : h.get? b = some o) (n : H b = none) : (qfI h H).get? b = some o :=
 PySem.W.hideAll_get _ e fun hm => by
  have q : (H b).isSome = true := (List.mem_filter.mp hm).2
  rw [n] at q; simp at q
theorem qhk {h : Heap} {H : Hp} {b : Addr} {o : Obj} (e : (qfI h H).get? b = some o) : h.get? b = some o /\ H b = none := by
 have e' : h.get? b = some o := PySem.W.of_hideAll (trk h H) e
 refine ⟨e', ?_⟩
 cases q : H b with
 | none => rfl
 | some x =>
  have hm : b ∈ trk h H := List.mem_filter.mpr ⟨mR_.mpr (Heap.lt_size e'), by simp [q]⟩
  have z : (qfI h H).get? b = none := PySem.W.hideAll_none (trk h H) hm
  rw [z] at e; cases e
def qhl (g h : Heap) (L : Addr) : List (Addr × Obj) := (List.range h.objs.size).filterMap fun a => if a = L \/ (g.get? a).isSome = true then none else (h.get? a).map fun o => (a, o)
def qbo (g h : Heap) (L d : Addr) : List (Addr × Obj) := (qhl g h L).filter fun p => decide (p.1 ≠ d)
end L2
namespace L2
open PySem PySem.Spec PyProof.Rows
structure Mod (K : PySem.W.Frag) (mg : Str -> Option Value) (base : Heap) : Prop where
 kin : K.In base
 glob : base.Ns mainGlobals mg
 blt : ∃ mb, base.Ns builtinsNs mb /\ ∀ x : Str, x ≠ "__name__" -> mb x = bootBuiltins x
 nolimit : base.NoLimit
 bm : ∃ bm ob, mg "__builtins__" = some (.ref bm) /\ bm ≠ builtinsNs /\ base.get? bm = some ob /\ ob.cls = .type "module" /\ ob.dict = some builtinsNs /\ ob.data = .plain
structure Cx where
 prog : Program
 w : World
 K : PySem.W.Frag
 mg : Str -> Option Value
 base : Heap
 A : Around
 N : List Str
 s₀ : Shared
 H₀ : Hp
 env : Env
 outer : List Env
 stack : List Env
 ex : List Addr
 fn : Str -> Bool
 calm : Bool
 pn : List (Addr × Obj)
 xe : Value -> Shared -> Prop
def frs (l : List Env) : List Addr := l.filterMap (·.frame)
abbrev Cx.fs (X : Cx) : List Addr := frs X.outer
def Vis (sc : Scope) (x : Str) : Prop := sc.names.lookup x = some .local \/ sc.names.lookup x = some .cell \/ sc.names.lookup x = some .free
def Loc (sc : Scope) (x : Str) : Prop := sc.names.lookup x = some .local \/ sc.names.lookup x = some .cell
def qm0 (env : Env) (h : Heap) (m : Str -> Option Value) (x : Str) (u : Value) : Prop :=
 (env.kindOf x = some .local /\ m x = some u) \/ ((env.kindOf x = some .cell \/ env.kindOf x = some .free) /\ ∃ c, env.cells.lookup x = some c /\ h.IsCell c (some u))
structure Cx.Ok (X : Cx) : Prop where
 mod : Mod X.K X.mg X.base
 kind : X.env.scope.kind = .function
 glob : X.env.globals = mainGlobals
 blt : X.env.builtins = builtinsNs
 above : X.s₀.heap.objs.size <= X.env.locals
 inj : ∀ x y c, X.env.cells.lookup x = some c -> X.env.cells.lookup y = some c -> x = y
 has : ∀ x, (X.env.kindOf x = some .cell \/ X.env.kindOf x = some .free) -> ∃ c, X.env.cells.lookup x = some c
 cab : ∀ x c, X.fn x = true -> X.env.cells.lookup x = some c -> X.s₀.heap.objs.size <= c
 hd : X.calm = true -> X.A.handled = none
 frames : X.A.frames = some X.stack
 stk : X.stack = X.outer \/ (X.stack = X.env :: X.outer /\ X.env.frame = some X.env.locals)
 exf : ∀ b ∈ X.ex, b ≠ X.env.locals /\ ∀ x c, X.env.cells.lookup x = some c -> c ≠ b
 bs : ∀ b o, X.base.get? b = some o -> X.s₀.heap.get? b = some o /\ X.H₀ b = none
 bsz : X.base.objs.size <= X.s₀.heap.objs.size
 noex : ∀ b o, X.base.get? b = some o -> b ∉ X.ex
 exfs : ∀ b ∈ X.ex, b ∉ X.fs
 funs : X.s₀.heap.FunFrames X.base X.outer
 frf : ∀ b ∈ X.fs, X.H₀ b = none
structure Inv (X : Cx) (pins : List (Addr × Obj)) (σ : List (Option V)) (H : Hp) (s : Shared) : Prop where
 ok : X.Ok
 os : s.os = X.s₀.os
 bare : AllBare s.gens
 base : Un X.fs X.ex X.H₀ H X.s₀.heap s.heap
 loc : ∃ m, s.heap.Ns X.env.locals m /\ ∀ (i : Nat) (x : Str) (v : V), X.N[i]? = some x -> σ[i]? = some (some v) -> Vis X.env.scope x -> ∃ u, zZ v u /\ qm0 X.env s.heap m x u
 cell : ∀ x c, X.env.cells.lookup x = some c -> ∃ v, s.heap.IsCell c v
 free : H X.env.locals = none
 freeC : ∀ x c, X.env.cells.lookup x = some c -> H c = none
 pin : ∀ p ∈ X.pn ++ pins, s.heap.get? p.1 = some p.2 /\ H p.1 = none /\ p.1 ≠ X.env.locals /\ p.1 ∉ X.fs /\ ∀ v, p.2.data ≠ .cell v
 hok : HOk X.prog X.w H s.heap
 len : σ.length = X.N.length
section
variable {X : Cx} {pins : List (Addr × Obj)} {σ : List (Option V)} {H H' : Hp} {s : Shared} {h' : Heap}
theorem Cx.Ok.nofr (ok : X.Ok) {b : Addr} {o : Obj} (e : X.base.get? b = some o) : b ∉ X.fs := fun hb => by
 have := (ok.funs.mem hb).1
 rw [e] at this; cases this
theorem Inv.bs (I : Inv X pins σ H s) : ∀ b o, X.base.get? b = some o -> s.heap.get? b = some o /\ H b = none := fun b o e =>
 ⟨I.base.keep b o (I.ok.bs b o e).1 (I.ok.bs b o e).2 (I.ok.nofr e) (I.ok.noex b o e), I.base.free b o (I.ok.bs b o e).1 (I.ok.bs b o e).2 (I.ok.noex b o e)⟩
theorem Inv.bk (I : Inv X pins σ H s) : ∀ b o, X.base.get? b = some o -> s.heap.get? b = some o := fun b o e => (I.bs b o e).1
theorem Inv.mod (I : Inv X pins σ H s) : Mod X.K X.mg X.base := I.ok.mod
theorem Inv.kIn (I : Inv X pins σ H s) : X.K.In s.heap := I.ok.mod.kin.keeps I.bk
theorem Inv.nolimit (I : Inv X pins σ H s) : s.heap.NoLimit := I.ok.mod.nolimit.keeps I.bk
theorem Inv.lt (I : Inv X pins σ H s) : X.env.locals < s.heap.objs.size := let ⟨_, hn, _⟩ := I.loc; hn.lt
theorem Inv.sz (I : Inv X pins σ H s) : X.s₀.heap.objs.size <= s.heap.objs.size := Nat.le_trans I.ok.above (Nat.le_of_lt I.lt)
theorem Inv.nofs (I : Inv X pins σ H s) {a : Addr} (h : s.heap.objs.size <= a) : a ∉ X.fs := fun hb => by
 obtain ⟨_, o, ho, _⟩ := I.ok.funs.mem hb
 exact absurd (Nat.lt_of_lt_of_le (Heap.lt_size ho) (Nat.le_trans I.sz h)) (Nat.lt_irrefl _)
theorem Inv.cne (I : Inv X pins σ H s) : ∀ x c, X.env.cells.lookup x = some c -> c ≠ X.env.locals := fun x c e z => by
 obtain ⟨v, o, ho, hd⟩ := I.cell x c e
 obtain ⟨m, ⟨o', es, ep, ho', hd', _⟩, _⟩ := I.loc
 rw [z, ho'] at ho; cases ho; rw [hd'] at hd; cases hd
theorem Inv.funs (I : Inv X pins σ H s) : s.heap.FunFrames X.base X.outer := by
 have all : ∀ (l : List Env), (∀ b ∈ frs l, b ∈ X.fs) -> X.s₀.heap.FunFrames X.base l -> s.heap.FunFrames X.base l := by
  intro l
  induction l with
  | nil => intro _ _; trivial
  | cons env r ih =>
   intro hs hl
   obtain ⟨hk, ⟨L, o, hf, hn, ho, hd⟩, hr⟩ := hl
   have hL : L ∈ X.fs := hs L (by unfold frs; rw [List.filterMap_cons, hf]; exact mS_)
   obtain ⟨sl, e⟩ := I.base.slot L o ho (I.ok.frf L hL) hL fun z => I.ok.exfs L z hL
   exact ⟨hk, ⟨L, _, hf, hn, e, hd⟩, ih (fun b hb => hs b (by unfold frs; rw [List.filterMap_cons, hf]; exact mM _ hb)) hr⟩
 exact all X.outer (fun _ hb => hb) I.ok.funs
theorem Inv.stack (I : Inv X pins σ H s) : s.heap.FunFrames X.base X.stack := by
 rcases I.ok.stk with e | ⟨e, hf⟩
 ·rw [e]; exact I.funs
 ·rw [e]
  obtain ⟨m, hn, _⟩ := I.loc
  refine .cons (by rw [I.ok.kind]; decide) hf hn ?_ I.funs
  exact Heap.get?_none_of_le (Nat.le_trans I.ok.bsz I.ok.above)
theorem Inv.stkSub (I : Inv X pins σ H s) : ∀ b ∈ frs X.stack, b ∈ X.env.locals :: X.fs := fun b hb => by
 rcases I.ok.stk with e | ⟨e, hf⟩
 ·rw [e] at hb; exact mM _ hb
 ·rw [e] at hb
  unfold frs at hb
  rw [List.filterMap_cons, hf] at hb
  exact hb
theorem Inv.stkFree (I : Inv X pins σ H s) : ∀ b ∈ frs X.stack, H b = none := fun b hb => by
 rcases List.mem_cons.mp (I.stkSub b hb) with e | hb
 ·rw [e]; exact I.free
 ·obtain ⟨_, o, ho, _⟩ := I.ok.funs.mem hb
  exact I.base.free b o ho (I.ok.frf b hb) fun z => I.ok.exfs b z hb
theorem Inv.step {g' : Array GenState} {t' : Nat} {d' : Drawn} {ch : List Addr} (I : Inv X pins σ H s)
  (hch : ∀ b ∈ ch, (b ∈ X.ex \/ X.s₀.heap.objs.size <= b) /\ b ≠ X.env.locals /\ (∀ x c, X.env.cells.lookup x = some c -> c ≠ b) /\ ∀ p ∈ X.pn ++ pins, p.1 ≠ b)
  (keep : ∀ b o, b ≠ X.env.locals -> b ∉ X.fs -> b ∉ ch -> s.heap.get? b = some o -> H b = none -> h'.get? b = some o)
  (slot : ∀ b o, b ≠ X.env.locals -> b ∈ X.fs -> b ∉ ch -> s.heap.get? b = some o -> H b = none -> ∃ sl, h'.get? b = some { o with slots := sl }) (free : ∀ b o, b ∉ ch -> s.heap.get? b = some o -> H b = none -> H' b = none)
  (there : ∀ b o, b ∉ ch -> s.heap.get? b = some o -> ∃ o', h'.get? b = some o')
  (tups : ∀ b xs, H b = some (.tup xs) -> H' b = some (.tup xs)) (frzs : ∀ b o u, H b = some (.frz o u) -> H' b = some (.frz o u)) (tbls : ∀ b pos q, H b = some (.lam pos q) -> H' b = some (.lam pos q))
  (ns : ∀ m, s.heap.Ns X.env.locals m -> h'.Ns X.env.locals m) (hok : HOk X.prog X.w H' h') (hg : AllBare g') :
  Inv X pins σ H' { s with heap := h', gens := g', drawn := d', toks := t' } := by
 have neL : ∀ b o, X.s₀.heap.get? b = some o -> b ≠ X.env.locals := fun b o e => Nat.ne_of_lt (Nat.lt_of_lt_of_le (Heap.lt_size e) I.ok.above)
 have neC : ∀ b o, X.s₀.heap.get? b = some o -> b ∉ X.ex -> b ∉ ch := fun b o e hx hb => by
  rcases (hch b hb).1 with z | z
  ·exact hx z
  ·exact absurd (Nat.lt_of_lt_of_le (Heap.lt_size e) z) (Nat.lt_irrefl _)
 have cellK : ∀ x c, X.env.cells.lookup x = some c -> ∀ v, s.heap.IsCell c v -> h'.IsCell c v := fun x c e v ⟨o, ho, hd⟩ => by
  have nch : c ∉ ch := fun z => (hch c z).2.2.1 x c e rfl
  by_cases hc : c ∈ X.fs
  ·obtain ⟨sl, q⟩ := slot c o (I.cne x c e) hc nch ho (I.freeC x c e)
   exact ⟨_, q, hd⟩
  ·exact ⟨o, keep c o (I.cne x c e) hc nch ho (I.freeC x c e), hd⟩
 refine ⟨I.ok, I.os, hg, ⟨fun b o e n hb hx => ?_, fun b o e n hb hx => ?_, fun b o e n hx => ?_, fun b o e hx => ?_, fun b xs e => tups b xs (I.base.tups b xs e), fun b o xs e => frzs b o xs (I.base.frzs b o xs e), fun b ps x e => tbls b ps x (I.base.tbls b ps x e)⟩, ?_, fun x c e => ?_, ?_, fun x c e => ?_, fun p hp => ?_, hok, I.len⟩
 ·exact keep b o (neL b o e) hb (neC b o e hx) (I.base.keep b o e n hb hx) (I.base.free b o e n hx)
 ·obtain ⟨sl, e1⟩ := I.base.slot b o e n hb hx
  obtain ⟨sl', e2⟩ := slot b _ (neL b o e) hb (neC b o e hx) e1 (I.base.free b o e n hx)
  exact ⟨sl', e2⟩
 ·obtain ⟨o', e1⟩ := I.base.there b o e hx
  exact free b o' (neC b o e hx) e1 (I.base.free b o e n hx)
 ·obtain ⟨o', e1⟩ := I.base.there b o e hx
  exact there b o' (neC b o e hx) e1
 ·obtain ⟨m, hn, hl⟩ := I.loc
  refine ⟨m, ns m hn, fun i x v e1 e2 e3 => ?_⟩
  obtain ⟨u, r, l⟩ := hl i x v e1 e2 e3
  refine ⟨u, r, ?_⟩
  rcases l with l | ⟨k, c, e, z⟩
  ·exact .inl l
  ·exact .inr ⟨k, c, e, cellK x c e _ z⟩
 ·obtain ⟨v, z⟩ := I.cell x c e
  exact ⟨v, cellK x c e v z⟩
 ·obtain ⟨m, ⟨o, _, _, ho, _⟩, _⟩ := I.loc
  exact free _ o (fun z => (hch _ z).2.1 rfl) ho I.free
 ·obtain ⟨v, o, ho, hd⟩ := I.cell x c e
  exact free c o (fun z => (hch c z).2.2.1 x c e rfl) ho (I.freeC x c e)
 ·obtain ⟨e, n, ne, nf, d⟩ := I.pin p hp
  have nch : p.1 ∉ ch := fun z => (hch p.1 z).2.2.2 p hp rfl
  exact ⟨keep p.1 p.2 ne nf nch e n, free p.1 p.2 nch e n, ne, nf, d⟩
theorem Inv.un {t' : Nat} (I : Inv X pins σ H s) (u : Un X.fs [] H H' s.heap h') (hok : HOk X.prog X.w H' h') : Inv X pins σ H' { s with heap := h', toks := t' } := by
 obtain ⟨m, ⟨o, es, ep, ho, r⟩, _⟩ := id I.loc
 obtain ⟨sl, hL⟩ := u.any ho I.free (by simp)
 exact I.step (g' := s.gens) (d' := s.drawn) (ch := []) (fun _ z => nomatch z) (fun b o _ hb _ e n => u.keep b o e n hb (by simp)) (fun b o _ hb _ e n => u.slot b o e n hb (by simp)) (fun b o _ e n => u.free b o e n (by simp)) (fun b o _ e => u.there b o e (by simp)) u.tups u.frzs u.tbls (fun m' hm => by
  obtain ⟨o', es', ep', ho', r'⟩ := hm
  rw [ho] at ho'; cases ho'
  exact ⟨_, es', ep', hL, r'⟩) hok I.bare
theorem Inv.call {g' : Array GenState} {t' : Nat} {d' : Drawn} {ch : List Addr} (I : Inv X pins σ H s) (u : Un (frs X.stack) ch H H' s.heap h') (hok : HOk X.prog X.w H' h') (hg : AllBare g')
  (hch : ∀ b ∈ ch, (b ∈ X.ex \/ X.s₀.heap.objs.size <= b) /\ b ≠ X.env.locals /\ (∀ x c, X.env.cells.lookup x = some c -> c ≠ b) /\ ∀ p ∈ X.pn ++ pins, p.1 ≠ b) :
  Inv X pins σ H' { s with heap := h', gens := g', drawn := d', toks := t' } := by
 obtain ⟨m, ⟨o, es, ep, ho, r⟩, _⟩ := id I.loc
 obtain ⟨sl, hL⟩ := u.any ho I.free fun z => (hch _ z).2.1 rfl
 exact I.step (ch := ch) hch (fun b o hL hb hc e n => u.keep b o e n (fun z => (List.mem_cons.mp (I.stkSub b z)).elim hL hb) hc) (fun b o _ _ hc e n => u.any e n hc) (fun b o hc e n => u.free b o e n hc) (fun b o hc e => u.there b o e hc) u.tups u.frzs u.tbls (fun m' hm => by
  obtain ⟨o', es', ep', ho', r'⟩ := hm
  rw [ho] at ho'; cases ho'
  exact ⟨_, es', ep', hL, r'⟩) hok hg
theorem Inv.turned {t' : Nat} {it : Addr} (I : Inv X pins σ H s) (k : ∀ b o, b ≠ it -> s.heap.get? b = some o -> h'.get? b = some o) (hn : H it = none) (hL : it ≠ X.env.locals)
  (h1 : it ∈ X.ex \/ X.s₀.heap.objs.size <= it) (h2 : ∀ x c, X.env.cells.lookup x = some c -> c ≠ it) (h3 : ∀ p ∈ X.pn ++ pins, p.1 ≠ it) : Inv X pins σ H { s with heap := h', toks := t' } := by
 have nit : ∀ b u, H b = some u -> b ≠ it := fun b u e z => by rw [z, hn] at e; cases e
 refine I.step (g' := s.gens) (d' := s.drawn) (ch := [it]) (fun b hb => ?_) (fun b o _ _ hc e _ => k b o (fun z => hc (by simp [z])) e) (fun b o _ _ hc e _ => ⟨o.slots, k b o (fun z => hc (by simp [z])) e⟩) (fun _ _ _ _ n => n)
  (fun b o hc e => ⟨o, k b o (fun z => hc (by simp [z])) e⟩) (fun _ _ e => e) (fun _ _ _ e => e) (fun _ _ _ e => e) (fun m hm => ?_) (fun b u e => ?_) I.bare
 ·have e : b = it := by simpa using hb
  subst e
  exact ⟨h1, hL, h2, h3⟩
 ·obtain ⟨o, es, ep, ho, r⟩ := hm
  exact ⟨o, es, ep, k _ o (Ne.symm hL) ho, r⟩
 ·refine (I.hok b u e).stay (fun c v hc q => k c v ?_ q) (fun _ q => q) fun _ _ q => q
  rcases hc with z | z
  ·rw [z]; exact nit b u e
  ·exact nit c _ z
theorem Inv.tok (I : Inv X pins σ H s) (t : Nat) : Inv X pins σ H { s with toks := t } := I.un (h' := s.heap) (t' := t) Un.refl I.hok
theorem Inv.kept {t' : Nat} (I : Inv X pins σ H s) (k : ∀ b u, s.heap.get? b = some u -> h'.get? b = some u) : Inv X pins σ H { s with heap := h', toks := t' } := I.un (Un.kept k) (I.hok.kept k)
theorem Inv.laid {a : Addr} {o : HO} {t' : Nat} (I : Inv X pins σ H s) (k : ∀ b u, s.heap.get? b = some u -> h'.get? b = some u) (hp : s.heap.objs.size <= a) (new : jX X.prog X.w (upd H a o) h' a o) :
  Inv X pins σ (upd H a o) { s with heap := h', toks := t' } := I.un (Un.laid k hp (I.hok.fresh hp)) (I.hok.laid k hp new)
theorem Inv.write {x e : Addr} {o : HO} {t' : Nat} (I : Inv X pins σ H s) (mu : Mut (H x)) (he : e = x \/ H e = some (.own x)) (k : ∀ b u, b ≠ e -> s.heap.get? b = some u -> h'.get? b = some u) (heo : ∃ u, h'.get? e = some u)
  (new : jX X.prog X.w (upd H x o) h' x o) : Inv X pins σ (upd H x o) { s with heap := h', toks := t' } := I.un (Un.write mu he k heo) (I.hok.write mu he k heo new)
theorem Inv.pins_of {pins' : List (Addr × Obj)} (I : Inv X pins σ H s) (h : ∀ p ∈ pins', s.heap.get? p.1 = some p.2 /\ H p.1 = none /\ p.1 ≠ X.env.locals /\ p.1 ∉ X.fs /\ ∀ v, p.2.data ≠ .cell v) : Inv X pins' σ H s :=
 ⟨I.ok, I.os, I.bare, I.base, I.loc, I.cell, I.free, I.freeC, fun p hp => (mA_.mp hp).elim (fun z => I.pin p (List.mem_append_left _ z)) (h p), I.hok, I.len⟩
theorem qcI {N : List Str} (hN : N.Nodup) {i j : Nat} {x : Str} (a : N[i]? = some x) (b : N[j]? = some x) : i = j := by
 obtain ⟨h1, e1⟩ := gI_.mp a
 obtain ⟨h2, e2⟩ := gI_.mp b
 exact (List.getElem_inj hN).mp (e1.trans e2.symm)
theorem qbp {M : Model} {A : Around} {E : Value -> Shared -> Prop} {i : Nat} {x : Str} {v : V} {u : Value} {Q : Unit -> Shared -> Prop} (I : Inv X pins σ H s) (hN : X.N.Nodup) (hi : X.N[i]? = some x) (hx : Loc X.env.scope x) (r : zZ v u)
  (h : ∀ s', Inv X pins (σ.set i (some v)) H s' -> (∃ a, Heap.SameBut a s.heap s'.heap /\ (a = X.env.locals \/ X.env.cells.lookup x = some a)) -> Q () s') (hf : X.fn x = true \/ X.env.scope.names.lookup x = some .local := by first | exact .inl rfl | exact .inr rfl | assumption) : wpAny M A (storeName X.env x u) Q E s := by
 obtain ⟨m, hn, hl⟩ := id I.loc
 have hcls : (X.env.scope.kind == .class || (X.env.scope.kind == .module && X.env.locals != X.env.globals)) = false := by rw [I.ok.kind]; rfl
 have hiσ : i < σ.length := by rw [I.len]; exact (gI_.mp hi).1
 have cne := I.cne
 have tracked : ∀ {a : Addr} {h' : Heap}, (∃ o, s.heap.get? a = some o /\ H a = none) -> Heap.SameBut a s.heap h' -> HOk X.prog X.w H h' := fun {a h'} ha hs b ob e => by
  obtain ⟨_, _, hfree⟩ := ha
  refine (I.hok b ob e).stay (fun c w' hc q => (hs.2 c ?_).trans q) (fun _ q => q) fun _ _ q => q
  rintro rfl
  rcases hc with rfl | hc
  ·rw [hfree] at e; cases e
  ·rw [hfree] at hc; cases hc
 rcases hx with hk | hk
 ·refine wpAny_storeName_local hk hn (fun h' hn' hs => ?_) hcls
  obtain ⟨oL, _, _, hoL, _⟩ := id hn
  refine h _ ⟨I.ok, I.os, I.bare, ⟨fun b o e n hb hx => ?_, fun b o e n hb hx => ?_, I.base.free, fun b o e hx => ?_, I.base.tups, I.base.frzs, I.base.tbls⟩, ⟨_, hn', fun j y v' e1 e2 e3 => ?_⟩, fun y c e => ?_, I.free, I.freeC, fun p hp => ?_, tracked ⟨oL, hoL, I.free⟩ hs, by simpa using I.len⟩ ⟨_, hs, .inl rfl⟩
  ·exact (hs.2 b (Nat.ne_of_lt (Nat.lt_of_lt_of_le (Heap.lt_size e) I.ok.above))).trans (I.base.keep b o e n hb hx)
  ·obtain ⟨sl, e1⟩ := I.base.slot b o e n hb hx
   exact ⟨sl, (hs.2 b (Nat.ne_of_lt (Nat.lt_of_lt_of_le (Heap.lt_size e) I.ok.above))).trans e1⟩
  ·obtain ⟨o', e1⟩ := I.base.there b o e hx
   exact ⟨o', (hs.2 b (Nat.ne_of_lt (Nat.lt_of_lt_of_le (Heap.lt_size e) I.ok.above))).trans e1⟩
  ·by_cases hj : j = i
   ·subst hj
    rw [hi] at e1; cases e1
    rw [List.getElem?_set_self hiσ] at e2
    cases e2
    exact ⟨u, r, .inl ⟨hk, by simp⟩⟩
   ·rw [List.getElem?_set_ne (Ne.symm hj)] at e2
    obtain ⟨u', r', q⟩ := hl j y v' e1 e2 e3
    refine ⟨u', r', ?_⟩
    rcases q with ⟨k, e⟩ | ⟨k, c, e, z⟩
    ·refine .inl ⟨k, ?_⟩
     have : y ≠ x := fun e => hj (qcI hN e1 (e ▸ hi))
     simp [this, e]
    ·exact .inr ⟨k, c, e, z.sameBut hs (cne y c e)⟩
  ·obtain ⟨w', z⟩ := I.cell y c e
   exact ⟨w', z.sameBut hs (cne y c e)⟩
  ·obtain ⟨e, n, ne, nf, d⟩ := I.pin p hp
   exact ⟨(hs.2 p.1 ne).trans e, n, ne, nf, d⟩
 ·have hfn : X.fn x = true := by
   rcases hf with z | z
   ·exact z
   ·rw [z] at hk; cases hk
  obtain ⟨c, hc⟩ := I.ok.has x (.inl hk)
  obtain ⟨w', z⟩ := I.cell x c hc
  refine wpAny_storeName_cell I.ok.kind hk hc z (fun h' hc' hs => ?_)
  obtain ⟨oc, hoc, hocd⟩ := id z
  refine h { s with heap := h' } ⟨I.ok, I.os, I.bare, ⟨fun b o e n hb hx => ?_, fun b o e n hb hx => ?_, I.base.free, fun b o e hx => ?_, I.base.tups, I.base.frzs, I.base.tbls⟩, ⟨m, hn.sameBut hs (Ne.symm (cne x c hc)), fun j y v' e1 e2 e3 => ?_⟩, fun y c' e => ?_, I.free, I.freeC, fun p hp => ?_, tracked ⟨oc, hoc, I.freeC x c hc⟩ hs, by simpa using I.len⟩ ⟨c, hs, .inr hc⟩
  ·exact (hs.2 b (Nat.ne_of_lt (Nat.lt_of_lt_of_le (Heap.lt_size e) (I.ok.cab x c hfn hc)))).trans (I.base.keep b o e n hb hx)
  ·obtain ⟨sl, e1⟩ := I.base.slot b o e n hb hx
   exact ⟨sl, (hs.2 b (Nat.ne_of_lt (Nat.lt_of_lt_of_le (Heap.lt_size e) (I.ok.cab x c hfn hc)))).trans e1⟩
  ·obtain ⟨o', e1⟩ := I.base.there b o e hx
   exact ⟨o', (hs.2 b (Nat.ne_of_lt (Nat.lt_of_lt_of_le (Heap.lt_size e) (I.ok.cab x c hfn hc)))).trans e1⟩
  ·by_cases hj : j = i
   ·subst hj
    rw [hi] at e1; cases e1
    rw [List.getElem?_set_self hiσ] at e2
    cases e2
    exact ⟨u, r, .inr ⟨.inl hk, c, hc, hc'⟩⟩
   ·rw [List.getElem?_set_ne (Ne.symm hj)] at e2
    obtain ⟨u', r', q⟩ := hl j y v' e1 e2 e3
    refine ⟨u', r', ?_⟩
    rcases q with q | ⟨k, c', e, z'⟩
    ·exact .inl q
    ·refine .inr ⟨k, c', e, z'.sameBut hs ?_⟩
     rintro rfl
     exact hj (qcI hN e1 (I.ok.inj _ _ _ e hc ▸ hi))
  ·by_cases hcc : c' = c
   ·subst hcc; exact ⟨_, hc'⟩
   ·obtain ⟨w2, z2⟩ := I.cell y c' e
    exact ⟨w2, z2.sameBut hs hcc⟩
  ·obtain ⟨e, n, ne, nf, d⟩ := I.pin p hp
   refine ⟨(hs.2 p.1 ?_).trans e, n, ne, nf, d⟩
   intro q
   rw [q, hoc] at e
   have q' : oc = p.2 := Option.some.inj e
   exact d w' (by rw [<- q']; exact hocd)
theorem yR {M : Model} {A : Around} {E : Value -> Shared -> Prop} {i : Nat} {x : Str} {v : V} {u : Value} {Q : Unit -> Shared -> Prop} (I : Inv X pins σ H s) (hN : X.N.Nodup) (hi : X.N[i]? = some x) (hx : Loc X.env.scope x) (r : zZ v u)
  (h : ∀ s', Inv X pins (σ.set i (some v)) H s' -> Q () s') (hf : X.fn x = true \/ X.env.scope.names.lookup x = some .local := by first | exact .inl rfl | exact .inr rfl | assumption) : wpAny M A (storeName X.env x u) Q E s :=
 qbp I hN hi hx r (fun s' I' _ => h s' I') hf
theorem Inv.call' {s' : Shared} {ch : List Addr} (I : Inv X pins σ H s) (ho : s'.os = s.os) (u : Un (frs X.stack) ch H H' s.heap s'.heap) (hok : HOk X.prog X.w H' s'.heap) (hg : AllBare s'.gens)
  (hch : ∀ b ∈ ch, (b ∈ X.ex \/ X.s₀.heap.objs.size <= b) /\ b ≠ X.env.locals /\ (∀ x c, X.env.cells.lookup x = some c -> c ≠ b) /\ ∀ p ∈ X.pn ++ pins, p.1 ≠ b) : Inv X pins σ H' s' := by
 obtain ⟨h', g', d', t', o'⟩ := s'
 have e : o' = s.os := ho
 subst e
 exact I.call (g' := g') (t' := t') (d' := d') u hok hg hch
end
abbrev XK := Value -> Option Addr -> Hp -> Prop
abbrev St := List (Option V)
abbrev VK := V -> Hp -> Prop
abbrev TE := St -> Hp -> VK -> Prop
abbrev TT := St -> Hp -> (Bool -> Hp -> Prop) -> Prop
abbrev TA := St -> Hp -> (List V -> Hp -> Prop) -> Prop
structure qd0 where
 nx : St -> Hp -> Prop
 rt : VK
 bk : St -> Hp -> Prop := fun _ _ => False
 ct : St -> Hp -> Prop := fun _ _ => False
abbrev TS := qd0 -> St -> Hp -> Prop
def EP (X : Cx) (pins : List (Addr × Obj)) (σ : St) (Q : VK) (u : Value) (s' : Shared) : Prop := ∃ v H', Inv X pins σ H' s' /\ zZ v u /\ Q v H'
def TP (X : Cx) (pins : List (Addr × Obj)) (σ : St) (Q : Bool -> Hp -> Prop) (b : Bool) (s' : Shared) : Prop := ∃ H', Inv X pins σ H' s' /\ Q b H'
def AP (X : Cx) (pins : List (Addr × Obj)) (σ : St) (Q : List V -> Hp -> Prop) (us : List Value) (s' : Shared) : Prop := ∃ vs H', Inv X pins σ H' s' /\ qT vs us /\ Q vs H'
def SP (X : Cx) (pins : List (Addr × Obj)) (D : qd0) (f : Flow) (s' : Shared) : Prop :=
 match f with
 | .next => ∃ σ' H', Inv X pins σ' H' s' /\ D.nx σ' H'
 | .brk => ∃ σ' H', Inv X pins σ' H' s' /\ D.bk σ' H'
 | .cont => ∃ σ' H', Inv X pins σ' H' s' /\ D.ct σ' H'
 | .ret u => ∃ v σ' H', Inv X pins σ' H' s' /\ zZ v u /\ D.rt v H'
def PE (X : Cx) (e : Expr) (t : TE) : Prop :=
 ∀ (pins : List (Addr × Obj)) (s : Shared) (σ : St) (H : Hp) (Q : VK), Inv X pins σ H s -> t σ H Q -> wpAny (model X.prog X.w) X.A (eval e X.env) (EP X pins σ Q) X.xe s
def PT (X : Cx) (e : Expr) (t : TT) : Prop :=
 ∀ (pins : List (Addr × Obj)) (s : Shared) (σ : St) (H : Hp) (Q : Bool -> Hp -> Prop), Inv X pins σ H s -> t σ H Q -> wpAny (model X.prog X.w) X.A (isTrue e X.env (eval e X.env)) (TP X pins σ Q) X.xe s
def PW (X : Cx) (e : Expr) (t : TT) : Prop :=
 ∀ (whole : Sem Value) (pins : List (Addr × Obj)) (s : Shared) (σ : St) (H : Hp) (Q : Bool -> Hp -> Prop), Inv X pins σ H s -> t σ H Q -> wpAny (model X.prog X.w) X.A (isTrue e X.env whole) (TP X pins σ Q) X.xe s
theorem PW.pt {X : Cx} {e : Expr} {t : TT} (h : PW X e t) : PT X e t := h _
def PA (X : Cx) (es : List Expr) (t : TA) : Prop :=
 ∀ (pos : Pos) (pins : List (Addr × Obj)) (s : Shared) (σ : St) (H : Hp) (Q : List V -> Hp -> Prop), Inv X pins σ H s -> t σ H Q -> wpAny (model X.prog X.w) X.A (spliced (backTo pos (starEach es X.env))) (AP X pins σ Q) X.xe s
def PS (X : Cx) (st : Stmt) (t : TS) : Prop :=
 ∀ (pins : List (Addr × Obj)) (s : Shared) (σ : St) (H : Hp) (D : qd0), Inv X pins σ H s -> t D σ H -> wpAny (model X.prog X.w) X.A (exec st X.env) (SP X pins D) X.xe s
def PSs (X : Cx) (st : List Stmt) (t : TS) : Prop :=
 ∀ (pins : List (Addr × Obj)) (s : Shared) (σ : St) (H : Hp) (D : qd0), Inv X pins σ H s -> t D σ H -> wpAny (model X.prog X.w) X.A (execs st X.env) (SP X pins D) X.xe s
theorem thn {α : Type} {t : Sem α} {Q Q' : α -> Shared -> Prop} {M : Model} {A : Around} {E : Value -> Shared -> Prop} {s : Shared} (h : wpAny M A t Q E s) (hQ : ∀ a s, Q a s -> Q' a s) : wpAny M A t Q' E s := wpAny_mono h hQ fun _ _ x => x
end L2
namespace L2
open PySem PySem.Spec PyProof.Rows
section
variable {X : Cx}
theorem bin {a b : Expr} {ta tb : TE} (ha : PE X a ta) (hb : PE X b tb) {pins : List (Addr × Obj)} {s : Shared} {σ : St} {H : Hp} {R : V -> V -> Hp -> Prop} (I : Inv X pins σ H s) (h : ta σ H fun x H1 => tb σ H1 fun y H2 => R x y H2)
  {α : Type} {Q : α -> Shared -> Prop} {f : Value -> Value -> Sem α}
  (hf : ∀ v u s2 x y H2, Inv X pins σ H2 s2 -> zZ x v -> zZ y u -> R x y H2 -> wpAny (model X.prog X.w) X.A (f v u) Q X.xe s2) :
  wpAny (model X.prog X.w) X.A (eval a X.env) (fun v s₁ => wpAny (model X.prog X.w) X.A (eval b X.env) (fun u s₂ => wpAny (model X.prog X.w) X.A (f v u) Q X.xe s₂) X.xe s₁) X.xe s := by
 refine thn (ha pins s σ H _ I h) fun v s1 ⟨x, H1, I1, r1, q1⟩ => ?_
 refine thn (hb pins s1 σ H1 _ I1 q1) fun u s2 ⟨y, H2, I2, r2, q2⟩ => ?_
 exact hf v u s2 x y H2 I2 r1 r2 q2
def qm1 (i : Nat) : TE := fun σ H Q => ∃ v, σ[i]? = some (some v) /\ Q v H
def tC (v : V) : TE := fun _ H Q => Q v H
theorem vQ {i : Nat} {x : Str} {pos : Pos} (hN : X.N[i]? = some x) (hv : Vis X.env.scope x) (hd : (x == ("__debug__" : Str)) = false := by decide) (hcd : (x == ("__classdict__" : Str)) = false := by decide) : PE X (.Name x pos) (qm1 i) := by
 intro pins s σ H Q I h
 obtain ⟨v, e, h⟩ := h
 obtain ⟨m, hn, hl⟩ := I.loc
 obtain ⟨u, r, l⟩ := hl i x v hN e hv
 have fin : EP X pins σ Q u s := ⟨v, H, I, r, h⟩
 rcases l with ⟨hk, hm⟩ | ⟨hk, c, hc, hcell⟩
 ·exact wpAny_Name (wpAny_loadName_local I.ok.kind hk hn hm fin) hd
 ·rcases hk with hk | hk
  ·exact wpAny_Name (wpAny_loadName_cell I.ok.kind hk hc hcell fin) hd
  ·exact wpAny_Name (wpAny_loadName_free I.ok.kind hk hc hcell fin hcd) hd
theorem qjj {i j pos} : PE X (.Constant (.int i) j pos) (tC (.int i)) := fun _ _ _ H _ I h => wpAny_Constant_int ⟨.int i, H, I.tok _, ⟨_, rfl⟩, h⟩
theorem qlz {b j pos} : PE X (.Constant (.bool b) j pos) (tC (.bl b)) := fun _ _ _ H _ I h => Constant_bool ⟨.bl b, H, I, rfl, h⟩
theorem qjk {j pos} : PE X (.Constant .none j pos) (tC .non) := fun _ _ _ H _ I h => Constant_none ⟨.non, H, I, rfl, h⟩
theorem qjl {x j pos} : PE X (.Constant (.str x) j pos) (tC (.str x)) := fun _ _ _ H _ I h => Calls.Constant_str ⟨.str x, H, I.tok _, ⟨_, rfl⟩, h⟩
def Gl (X : Cx) (x : Str) : Prop := X.env.kindOf x = some .globalImplicit
theorem wy {E : Value -> Shared -> Prop} {pins : List (Addr × Obj)} {s : Shared} {σ : St} {H : Hp} {x : Str} {u : Value} {pos : Pos} {Q : Value -> Shared -> Prop} (I : Inv X pins σ H s) (hg : Gl X x) (hm : X.mg x = some u) (h : Q u s)
  (hd : (x == ("__debug__" : Str)) = false := by decide) : wpAny (model X.prog X.w) X.A (eval (.Name x pos) X.env) Q E s :=
 Calls.Name_function_global I.ok.kind hg (Calls.loadGlobal_global (by rw [I.ok.glob]; exact I.mod.glob.keeps I.bk) hm h) hd
theorem vR {E : Value -> Shared -> Prop} {pins : List (Addr × Obj)} {s : Shared} {σ : St} {H : Hp} {x : Str} {u : Value} {pos : Pos} {Q : Value -> Shared -> Prop} (I : Inv X pins σ H s) (hg : Gl X x) (hm : X.mg x = none) (hv : bootBuiltins x = some u) (h : Q u s)
  (hn : x ≠ "__name__" := by decide) (hd : (x == ("__debug__" : Str)) = false := by decide) : wpAny (model X.prog X.w) X.A (eval (.Name x pos) X.env) Q E s := by
 obtain ⟨mb, h1, h2⟩ := I.mod.blt
 exact Calls.Name_function_global I.ok.kind hg (Calls.loadGlobal_builtin (by rw [I.ok.glob]; exact I.mod.glob.keeps I.bk) hm (by rw [I.ok.blt]; exact h1.keeps I.bk) ((h2 x hn).trans hv) h) hd
theorem qcf {x : Str} {v : V} {u : Value} {pos : Pos} (hg : Gl X x) (hm : X.mg x = some u) (r : zZ v u) (hd : (x == ("__debug__" : Str)) = false := by decide) : PE X (.Name x pos) (tC v) :=
 fun _ _ _ H _ I h => wy I hg hm ⟨v, H, I, r, h⟩ hd
theorem qd4 {x : Str} {v : V} {u : Value} {pos : Pos} (hg : Gl X x) (hm : X.mg x = none) (hv : bootBuiltins x = some u) (r : zZ v u) (hn : x ≠ "__name__" := by decide) (hd : (x == ("__debug__" : Str)) = false := by decide) : PE X (.Name x pos) (tC v) :=
 fun _ _ _ H _ I h => vR I hg hm hv ⟨v, H, I, r, h⟩ hn hd
variable {a b : Expr} {ta tb : TE} {pos : Pos}
def PC (X : Cx) (op : CmpOp) (a b : Expr) (t : TE) : Prop :=
 ∀ (pins : List (Addr × Obj)) (s : Shared) (σ : St) (H : Hp) (Q : VK), Inv X pins σ H s -> t σ H Q ->
  wpAny (model X.prog X.w) X.A (eval a X.env) (fun v s₁ => wpAny (model X.prog X.w) X.A (eval b X.env) (fun u s₂ => wpAny (model X.prog X.w) X.A (compareOp op v u) (EP X pins σ Q) X.xe s₂) X.xe s₁) X.xe s
theorem qfK (b : Expr) {op : CmpOp} (h : op ≠ .In) (h2 : op ≠ .NotIn) : behindInMarks op b = false := by
 have e1 : (op == CmpOp.In) = false := by cases op <;> first | rfl | exact absurd rfl h
 have e2 : (op == CmpOp.NotIn) = false := by cases op <;> first | rfl | exact absurd rfl h2
 cases b <;> simp [behindInMarks, e1, e2]
def tB (t : TE) : TT := fun σ H Q => t σ H fun x H1 => ∃ c, x = .bl c /\ Q c H1
theorem qmt {op : CmpOp} {t : TE} (h : PC X op a b t) (h1 : behindInMarks op b = false := by first | exact qfK _ (by decide) (by decide) | rfl) : PT X (.Compare a [op] [b] pos) (tB t) := by
 intro pins s σ H Q I hw
 refine wpAny_isTrue_Compare1 (thn (h pins s σ H _ I hw) fun v s1 h1 => thn h1 fun u s2 h2 => thn h2 fun c s3 ⟨x, H1, I1, r1, q1⟩ => ?_) h1
 obtain ⟨d, rfl, q⟩ := q1
 cases r1
 exact wpAny_truthy_bool ⟨H1, I1, q⟩
theorem qjm {e : Expr} {t : TE} (h : PE X e t) (he : ∀ whole, isTrue e X.env whole = (do let v <- whole; standAt e.pos; holding [v] (truthy v)) := by intro _; rfl) : PT X e (tB t) := by
 intro pins s σ H Q I hw
 refine isTrue_plain (thn (h pins s σ H _ I hw) fun v s1 ⟨x, H1, I1, r1, q1⟩ => ?_) (he _)
 obtain ⟨d, rfl, q⟩ := q1
 cases r1
 exact wpAny_truthy_bool ⟨H1, I1, q⟩
variable {tA tB' : TT} {qbo : List Expr}
def tOr (t u : TT) : TT := fun σ H Q => t σ H fun c H1 => if c = true then Q true H1 else u σ H1 Q
def qm2 (t : TT) : TT := fun σ H Q => t σ H fun c H1 => Q (!c) H1
theorem qjn (ha : PT X a tA) : PW X (.BoolOp .Or [a] pos) tA := by
 intro wh pins s σ H Q I h
 refine isTrue_or (thn (ha pins s σ H Q I h) fun c s1 e => ?_)
 cases c with
 | false => exact isTrue_or_nil e
 | true => exact e
theorem qlA (ha : PT X a tA) (hb : PW X (.BoolOp .Or (b :: qbo) pos) tB') : PW X (.BoolOp .Or (a :: b :: qbo) pos) (tOr tA tB') := by
 intro wh pins s σ H Q I h
 refine isTrue_or (thn (ha pins s σ H _ I h) fun c s1 ⟨H1, I1, q1⟩ => ?_)
 cases c with
 | true => exact ⟨H1, I1, q1⟩
 | false => exact hb wh pins s1 σ H1 Q I1 q1
theorem qjo (ha : PT X a tA) : PT X (.UnaryOp .Not a pos) (qm2 tA) := by
 intro pins s σ H Q I h
 exact isTrue_not (ha pins s σ H (fun c H1 => Q (!c) H1) I h)
def qlB (ta tb : TE) : TE := fun σ H Q => ta σ H fun x H1 => ∃ c, x = .bl c /\ if c = true then tb σ H1 Q else Q (.bl false) H1
def qm3 (ta tb : TE) : TE := fun σ H Q => ta σ H fun x H1 => ∃ c, x = .bl c /\ if c = true then Q (.bl true) H1 else tb σ H1 Q
def qlC (ta : TE) : TE := fun σ H Q => ta σ H fun x H1 => ∃ c, x = .bl c /\ Q (.bl (!c)) H1
theorem qjp {op} {t : TE} (h : PE X a t) : PE X (.BoolOp op [a] pos) t := fun pins s σ H Q I hw => BoolOp_one (h pins s σ H Q I hw)
theorem qjq (ha : PE X a ta) (hb : PE X (.BoolOp .And (b :: qbo) pos) tb) : PE X (.BoolOp .And (a :: b :: qbo) pos) (qlB ta tb) := by
 intro pins s σ H Q I h
 refine BoolOp_and (thn (ha pins s σ H _ I h) fun v s1 ⟨x, H1, I1, r1, q1⟩ => ?_)
 obtain ⟨c, rfl, q1⟩ := q1
 cases r1
 refine wpAny_truthy_bool ?_
 cases c with
 | true => exact hb pins s1 σ H1 Q I1 q1
 | false => exact ⟨.bl false, H1, I1, rfl, q1⟩
theorem qlD (ha : PE X a ta) (hb : PE X (.BoolOp .Or (b :: qbo) pos) tb) : PE X (.BoolOp .Or (a :: b :: qbo) pos) (qm3 ta tb) := by
 intro pins s σ H Q I h
 refine BoolOp_or (thn (ha pins s σ H _ I h) fun v s1 ⟨x, H1, I1, r1, q1⟩ => ?_)
 obtain ⟨c, rfl, q1⟩ := q1
 cases r1
 refine wpAny_truthy_bool ?_
 cases c with
 | false => exact hb pins s1 σ H1 Q I1 q1
 | true => exact ⟨.bl true, H1, I1, rfl, q1⟩
theorem qjr (ha : PE X a ta) : PE X (.UnaryOp .Not a pos) (qlC ta) := by
 intro pins s σ H Q I h
 refine UnaryOp_ (thn (ha pins s σ H _ I h) fun v s1 ⟨x, H1, I1, r1, q1⟩ => ?_)
 obtain ⟨c, rfl, q1⟩ := q1
 cases r1
 exact not_of (wpAny_truthy_bool ⟨.bl (!c), H1, I1, rfl, q1⟩)
def tIf (t : TT) (ta tb : TE) : TE := fun σ H Q => t σ H fun c H1 => if c = true then ta σ H1 Q else tb σ H1 Q
theorem qfL {c : Expr} (hc : PT X c tA) (ha : PE X a ta) (hb : PE X b tb) : PE X (.IfExp c a b pos) (tIf tA ta tb) := by
 intro pins s σ H Q I h
 refine wpAny_IfExp (thn (hc pins s σ H _ I h) fun d s1 ⟨H1, I1, q1⟩ => ?_)
 cases d with
 | true => exact ha pins s1 σ H1 Q I1 q1
 | false => exact hb pins s1 σ H1 Q I1 q1
end
end L2
namespace L2
open PySem PySem.Spec PyProof.Rows
def SqL (K : PySem.W.Frag) (H : Hp) (a : Addr) (xs : List V) : Prop :=
 Rd H a (.lst xs) \/
  ∃ (o : Obj) (its : Array Value) (n : Nat), K.lookup a = some o /\ o.cls = .type "list" /\ o.dict = none /\ o.data = .seq its n /\ its.size <= sizeLine /\ qT xs its.toList
def SqT (K : PySem.W.Frag) (H : Hp) (a : Addr) (xs : List V) : Prop :=
 Rd H a (.tup xs) \/
  ∃ (o : Obj) (its : Array Value) (n : Nat), K.lookup a = some o /\ o.cls = .type "tuple" /\ o.data = .seq its n /\ its.size <= sizeLine /\ qT xs its.toList
def qm4 : Value -> Option V
 | .none => some .non
 | .bool b => some (.bl b)
 | .int i _ => some (.int i)
 | .str x _ => some (.str x)
 | .bytes b _ => some (.byt b)
 | .float b _ => some (.flt b)
 | .ref a => some (.ref a)
 | .type n => some (.ty n)
 | _ => none
theorem zZ.abs {x : V} {u : Value} (r : zZ x u) : qm4 u = some x := by
 cases x with
 | non => cases r; rfl
 | bl _ => cases r; rfl
 | int _ => obtain ⟨t, rfl⟩ := r; rfl
 | str _ => obtain ⟨t, rfl⟩ := r; rfl
 | byt _ => obtain ⟨t, rfl⟩ := r; rfl
 | flt _ => obtain ⟨t, rfl⟩ := r; rfl
 | ref _ => cases r; rfl
 | ty _ => cases r; rfl
theorem zZ.inj {x y : V} {u : Value} (r : zZ x u) (q : zZ y u) : x = y := Option.some.inj (r.abs.symm.trans q.abs)
theorem qT.inj : ∀ {xs ys : List V} {us : List Value}, qT xs us -> qT ys us -> xs = ys
 | _, _, _, .nil, .nil => rfl
 | _, _, _, .cons r t, .cons r' t' => by rw [r.inj r', qT.inj t t']
section
variable {X : Cx} {pins : List (Addr × Obj)} {σ : St} {H : Hp} {s : Shared} {a : Addr} {xs ys : List V}
theorem SqL.of {K : PySem.W.Frag} (h : H a = some (.lst xs)) : SqL K H a xs := .inl (.inl h)
theorem Inv.list (I : Inv X pins σ H s) (h : SqL X.K H a xs) : ∃ its : List Value, qT xs its /\ PlainL s.heap a its.toArray /\ xs.length <= sizeLine := by
 rcases h with h | ⟨o, its, n, hk, hc, hd, hs, hz, r⟩
 ·obtain ⟨z, its, n, r, e⟩ := h.ok I.hok
  exact ⟨its, r, ⟨_, n, e, rfl, rfl, rfl⟩, z⟩
 ·refine ⟨its.toList, r, ⟨o, n, I.kIn a o hk, hc, hd, by simpa using hs⟩, ?_⟩
  have e := r.length
  simp only [Array.length_toList] at e
  omega
theorem Inv.tuple (I : Inv X pins σ H s) (h : SqT X.K H a xs) : ∃ its : List Value, qT xs its /\ IsTup s.heap a its.toArray /\ xs.length <= sizeLine := by
 rcases h with h | ⟨o, its, n, hk, hc, hs, hz, r⟩
 ·obtain ⟨z, its, r, p⟩ := h.ok I.hok
  exact ⟨its, r, p, z⟩
 ·refine ⟨its.toList, r, ⟨o, I.kIn a o hk, hc, n, by simpa using hs⟩, ?_⟩
  have e := r.length
  simp only [Array.length_toList] at e
  omega
theorem Inv.list_inj (I : Inv X pins σ H s) (h : SqL X.K H a xs) (h' : SqL X.K H a ys) : xs = ys := by
 obtain ⟨its, r, ⟨o, n, e, _, _, d⟩, _⟩ := I.list h
 obtain ⟨its', r', ⟨o', n', e', _, _, d'⟩, _⟩ := I.list h'
 rw [e] at e'; cases e'
 rw [d] at d'
 injection d' with d1 _
 have : its = its' := by simpa using congrArg Array.toList d1
 subst this
 exact r.inj r'
theorem Inv.tuple_inj (I : Inv X pins σ H s) (h : SqT X.K H a xs) (h' : SqT X.K H a ys) : xs = ys := by
 obtain ⟨its, r, ⟨o, e, _, n, d⟩, _⟩ := I.tuple h
 obtain ⟨its', r', ⟨o', e', _, n', d'⟩, _⟩ := I.tuple h'
 rw [e] at e'; cases e'
 rw [d] at d'
 injection d' with d1 _
 have : its = its' := by simpa using congrArg Array.toList d1
 subst this
 exact r.inj r'
end
abbrev Cx.wish (X : Cx) (E : Value -> Shared -> Prop) : Cx := { X with xe := E }
abbrev Cx.nox (X : Cx) : Cx := X.wish fun _ _ => False
theorem Cx.Ok.wish {X : Cx} (ok : X.Ok) (E : Value -> Shared -> Prop) : (X.wish E).Ok :=
 ⟨ok.mod, ok.kind, ok.glob, ok.blt, ok.above, ok.inj, ok.has, ok.cab, ok.hd, ok.frames, ok.stk, ok.exf, ok.bs, ok.bsz, ok.noex, ok.exfs, ok.funs, ok.frf⟩
theorem Cx.Ok.unwish {X : Cx} {E : Value -> Shared -> Prop} (ok : (X.wish E).Ok) : X.Ok :=
 ⟨ok.mod, ok.kind, ok.glob, ok.blt, ok.above, ok.inj, ok.has, ok.cab, ok.hd, ok.frames, ok.stk, ok.exf, ok.bs, ok.bsz, ok.noex, ok.exfs, ok.funs, ok.frf⟩
section
variable {X : Cx} {pins : List (Addr × Obj)} {σ : St} {H : Hp} {s : Shared} {E : Value -> Shared -> Prop}
theorem Inv.wish (I : Inv X pins σ H s) (E : Value -> Shared -> Prop) : Inv (X.wish E) pins σ H s := ⟨I.ok.wish E, I.os, I.bare, I.base, I.loc, I.cell, I.free, I.freeC, I.pin, I.hok, I.len⟩
theorem Inv.unwish (I : Inv (X.wish E) pins σ H s) : Inv X pins σ H s := ⟨I.ok.unwish, I.os, I.bare, I.base, I.loc, I.cell, I.free, I.freeC, I.pin, I.hok, I.len⟩
theorem SP.unwish {D : qd0} {f : Flow} {s' : Shared} (h : SP (X.wish E) pins D f s') : SP X pins D f s' := by
 cases f with
 | next => obtain ⟨σ', H', I, q⟩ := h; exact ⟨σ', H', I.unwish, q⟩
 | brk => obtain ⟨σ', H', I, q⟩ := h; exact ⟨σ', H', I.unwish, q⟩
 | cont => obtain ⟨σ', H', I, q⟩ := h; exact ⟨σ', H', I.unwish, q⟩
 | ret u => obtain ⟨v, σ', H', I, r, q⟩ := h; exact ⟨v, σ', H', I.unwish, r, q⟩
theorem PE.nox {e : Expr} {t : TE} (h : PE X.nox e t) : PE X e t := fun pins s σ H Q I hw =>
 wpAny_mono (h pins s σ H Q (I.wish _) hw) (fun _ _ ⟨v, H', I', r, q⟩ => ⟨v, H', I'.unwish, r, q⟩) fun _ _ z => False.elim z
theorem PT.nox {e : Expr} {t : TT} (h : PT X.nox e t) : PT X e t := fun pins s σ H Q I hw =>
 wpAny_mono (h pins s σ H Q (I.wish _) hw) (fun _ _ ⟨H', I', q⟩ => ⟨H', I'.unwish, q⟩) fun _ _ z => False.elim z
theorem PSs.nox {st : List Stmt} {t : TS} (h : PSs X.nox st t) : PSs X st t := fun pins s σ H D I hw =>
 wpAny_mono (h pins s σ H D (I.wish _) hw) (fun _ _ q => q.unwish) fun _ _ z => False.elim z
end
section
variable {X : Cx} {st : Stmt} {qbo : List Stmt} {t u : TS} {e : Expr} {te : TE} {pos : Pos}
def qlE : TS := fun D σ H => D.nx σ H
def qm5 (t u : TS) : TS := fun D σ H => t { D with nx := u D } σ H
theorem qhm : PSs X [] qlE := fun _ _ σ H _ I h => wpAny_execs_nil ⟨σ, H, I, h⟩
theorem qfM (h1 : PS X st t) (h2 : PSs X qbo u) : PSs X (st :: qbo) (qm5 t u) := by
 intro pins s σ H D I h
 refine wpAny_execs_cons (thn (h1 pins s σ H { D with nx := u D } I h) fun f s1 q => ?_)
 cases f with
 | next =>
  obtain ⟨σ', H', I', q⟩ := q
  exact h2 pins s1 σ' H' D I' q
 | ret v => exact q
 | brk => exact q
 | cont => exact q
theorem qcg (h1 : PS X st t) : PSs X [st] t := by
 intro pins s σ H D I h
 refine wpAny_execs_cons (thn (h1 pins s σ H D I h) fun f s1 q => ?_)
 cases f with
 | next => exact wpAny_execs_nil q
 | ret v => exact q
 | brk => exact q
 | cont => exact q
theorem Inv.quiet {pins : List (Addr × Obj)} {σ : St} {H : Hp} {s : Shared} (I : Inv X pins σ H s) : interactive X.env = false := by simp [interactive, I.ok.kind]
def qlF (te : TE) : TS := fun D σ H => te σ H fun _ H1 => D.nx σ H1
theorem qhn (he : PE X e te) (hs : swapsWith e none pos.line X.env = pure false := by rfl) : PS X (.Expr e pos) (qlF te) := by
 intro pins s σ H D I h
 exact wpAny_Expr_any (thn (he pins s σ H _ I h) fun v s1 ⟨x, H1, I1, r1, q1⟩ => ⟨σ, H1, I1, q1⟩) I.quiet hs
def qm6 (te : TE) : TS := fun D σ H => te σ H D.rt
theorem qcJ (he : PE X e te) : PS X (.Return (some e) pos) (qm6 te) := by
 intro pins s σ H D I h
 exact wpAny_Return_some (thn (he pins s σ H _ I h) fun v s1 ⟨x, H1, I1, r1, q1⟩ => ⟨x, σ, H1, I1, r1, q1⟩)
def qm7 (c : TT) (t u : TS) : TS := fun D σ H => c σ H fun b H1 => if b = true then t D σ H1 else u D σ H1
theorem qlG {c : Expr} {a b : List Stmt} {tc : TT} (hc : PT X c tc) (ha : PSs X a t) (hb : PSs X b u) : PS X (.If c a b pos) (qm7 tc t u) := by
 intro pins s σ H D I h
 refine wpAny_If (thn (hc pins s σ H _ I h) fun d s1 ⟨H1, I1, q1⟩ => ?_)
 cases d with
 | true => exact ha pins s1 σ H1 D I1 q1
 | false => exact hb pins s1 σ H1 D I1 q1
end
abbrev TG := V -> St -> Hp -> (St -> Hp -> Prop) -> Prop
abbrev TGs := List V -> St -> Hp -> (St -> Hp -> Prop) -> Prop
def PG (X : Cx) (target : Expr) (t : TG) : Prop :=
 ∀ (pins : List (Addr × Obj)) (s : Shared) (σ : St) (H : Hp) (v : V) (u : Value) (Q : St -> Hp -> Prop), Inv X pins σ H s -> zZ v u -> t v σ H Q ->
  wpAny (model X.prog X.w) X.A (assign target X.env u) (fun _ s' => ∃ σ' H', Inv X pins σ' H' s' /\ Q σ' H') X.xe s
def PGs (X : Cx) (ts : List Expr) (t : TGs) : Prop :=
 ∀ (pins : List (Addr × Obj)) (s : Shared) (σ : St) (H : Hp) (vs : List V) (us : List Value) (Q : St -> Hp -> Prop), Inv X pins σ H s -> qT vs us -> t vs σ H Q ->
  wpAny (model X.prog X.w) X.A (assignInOrder ((assignEach ts X.env).map (·.2)) us) (fun _ s' => ∃ σ' H', Inv X pins σ' H' s' /\ Q σ' H') X.xe s
abbrev qlH := V -> V -> V -> Hp -> (Hp -> Prop) -> Prop
def qmu (X : Cx) (t : qlH) : Prop :=
 ∀ (pins : List (Addr × Obj)) (s : Shared) (σ : St) (H : Hp) (o i v : V) (ov iv u : Value) (Q : Hp -> Prop), Inv X pins σ H s -> zZ o ov -> zZ i iv -> zZ v u -> t o i v H Q ->
  wpAny (model X.prog X.w) X.A (setItem ov iv u) (fun _ s' => ∃ H', Inv X pins σ H' s' /\ Q H') X.xe s
section
variable {X : Cx} {pos : Pos}
def qjs (i : Nat) : TG := fun v σ H Q => Q (σ.set i (some v)) H
theorem qho {i : Nat} {x : Str} (hN : X.N.Nodup) (hi : X.N[i]? = some x) (hx : Loc X.env.scope x) (hf : X.fn x = true \/ X.env.scope.names.lookup x = some .local := by first | exact .inl rfl | exact .inr rfl | assumption) : PG X (.Name x pos) (qjs i) := by
 intro pins s σ H v u Q I r h
 exact wpAny_assign_Name (yR I hN hi hx r (fun s' I' => ⟨_, H, I', h⟩) hf)
def qm8 : TGs := fun vs σ H Q => vs = [] /\ Q σ H
def qlI (t : TG) (u : TGs) : TGs := fun vs σ H Q => ∃ v r, vs = v :: r /\ t v σ H fun σ' H' => u r σ' H' Q
theorem qhp : PGs X [] qm8 := by
 intro pins s σ H vs us Q I r h
 obtain ⟨e, h⟩ := h
 subst e
 cases r
 exact assignInOrder_nil ⟨σ, H, I, h⟩
theorem qfN {e : Expr} {es : List Expr} {t : TG} {u : TGs} (h1 : PG X e t) (h2 : PGs X es u)
  (hs : (assignEach (e :: es) X.env).map (·.2) = assign e X.env :: (assignEach es X.env).map (·.2) := by rfl) : PGs X (e :: es) (qlI t u) := by
 intro pins s σ H vs us Q I r h
 obtain ⟨v, vr, e1, h⟩ := h
 subst e1
 cases r with
 | cons r rr =>
  rw [hs]
  refine assignInOrder_cons (thn (h1 pins s σ H _ _ _ I r h) fun _ s1 ⟨σ1, H1, I1, q1⟩ => ?_)
  exact h2 pins s1 σ1 H1 _ _ Q I1 rr q1
def qm9 (K : PySem.W.Frag) (n : Nat) (t : TGs) : TG := fun v σ H Q => ∃ a xs, v = .ref a /\ SqT K H a xs /\ xs.length = n /\ t xs σ H Q
theorem qjt {es : List Expr} {k : Nat} {t : TGs} {n : Nat} (hc : X.calm = true) (h : PGs X es t)
  (hn : (assignEach es X.env).length = n := by rfl) (hst : (assignEach es X.env).findIdx? (·.1) = none := by rfl) : PG X (.Tuple es k pos) (qm9 X.K n t) := by
 intro pins s σ H v u Q I r hw
 obtain ⟨a, xs, e1, hq, hl, hw⟩ := hw
 subst e1
 cases r
 obtain ⟨its, rv, ht, hz⟩ := I.tuple hq
 refine assign_Tuple_tuple (I.ok.hd hc) ht (by simp [hn, <- hl, rv.length]) hst fun h' hx => ?_
 have I1 : Inv X pins σ H { s with heap := h' } := I.kept (t' := s.toks) fun b o e => hx b o (Nat.ne_of_lt (Heap.lt_size e)) e
 exact h pins _ σ H xs _ Q I1 (by simpa using rv) hw
def qna (to ti : TE) (t : qlH) : TG := fun v σ H Q => to σ H fun o H1 => ti σ H1 fun i H2 => t o i v H2 fun H3 => Q σ H3
theorem qju {o i : Expr} {to ti : TE} {t : qlH} (ho : PE X o to) (hi : PE X i ti) (hs : qmu X t)
  (ha : ∀ v, assign (.Subscript o i pos) X.env v = (do
   let ov <- holding [v] (eval o X.env)
   let iv <- holding [v, ov] (eval i X.env)
   standAt pos
   holding [v, ov, iv] (setItem ov iv v)
   release [v, ov, iv] []) := by intro _; rfl) : PG X (.Subscript o i pos) (qna to ti t) := by
 intro pins s σ H v u Q I r h
 rw [ha]
 refine wpAny_bind (wpAny_holding (thn (ho pins s σ H _ I h) fun ov s1 ⟨x, H1, I1, r1, q1⟩ => ?_))
 refine wpAny_bind (wpAny_holding (thn (hi pins s1 σ H1 _ I1 q1) fun iv s2 ⟨y, H2, I2, r2, q2⟩ => ?_))
 refine wpAny_bind (wpAny_standAt (wpAny_bind (wpAny_holding (thn (hs pins s2 σ H2 x y v ov iv u _ I2 r1 r2 r q2) fun _ s3 ⟨H3, I3, q3⟩ => ?_))))
 exact wpAny_release ⟨σ, H3, I3, q3⟩
def qmv (te : TE) (g : TG) : TS := fun D σ H => te σ H fun x H1 => g x σ H1 D.nx
theorem qgI {tg e : Expr} {te : TE} {g : TG} (he : PE X e te) (hg : PG X tg g) (hs : swapsWithSole [tg] e pos.line X.env = pure false := by rfl) (hw : swappedStores [tg] e X.env = pure none := by rfl)
  (h1 : (assignEach [tg] X.env).map (·.2) = [assign tg X.env] := by rfl) : PS X (.Assign [tg] e pos) (qmv te g) := by
 intro pins s σ H D I h
 refine wpAny_Assign_stores (thn (he pins s σ H _ I h) fun v s1 ⟨x, H1, I1, r1, q1⟩ => ?_) hs hw
 rw [h1]
 exact thn (hg pins s1 σ H1 x v _ I1 r1 q1) fun _ s2 q => q
theorem qgJ {i : Nat} {x : Str} {e : Expr} {te : TE} {pos' : Pos} (hN : X.N.Nodup) (hi : X.N[i]? = some x) (hx : Loc X.env.scope x) (he : PE X e te) (hs : swapsWith e (some (.Name x pos')) pos.line X.env = pure false := by rfl) (hf : X.fn x = true \/ X.env.scope.names.lookup x = some .local := by first | exact .inl rfl | exact .inr rfl | assumption) :
  PS X (.Assign [.Name x pos'] e pos) (qmv te (qjs i)) := by
 intro pins s σ H D I h
 refine wpAny_Assign_Name (thn (he pins s σ H _ I h) fun v s1 ⟨y, H1, I1, r1, q1⟩ => ?_) hs
 exact yR I1 hN hi hx r1 (fun s2 I2 => ⟨_, H1, I2, q1⟩) hf
def qnb (i j : Nat) (ta : TA) : TS := fun D σ H => ta σ H fun vs H1 => ∃ v w, vs = [v, w] /\ D.nx ((σ.set i (some v)).set j (some w)) H1
theorem qjv {i j : Nat} {x y : Str} {a b : Expr} {ta : TA} {px py pt : Pos} {kt k2 pt2} (hc : X.calm = true) (hN : X.N.Nodup) (hi : X.N[i]? = some x) (hj : X.N[j]? = some y) (hij : i ≠ j)
  (hx : X.env.scope.names.lookup x = some .local) (hy : X.env.scope.names.lookup y = some .local) (ha : PA X [a, b] ta)
  (hw : swappedStores [.Tuple [.Name x px, .Name y py] kt pt] (.Tuple [a, b] k2 pt2) X.env = pure (some [x, y]))
  (hs : swapsWithSole [.Tuple [.Name x px, .Name y py] kt pt] (.Tuple [a, b] k2 pt2) pos.line X.env = pure false := by rfl) :
  PS X (.Assign [.Tuple [.Name x px, .Name y py] kt pt] (.Tuple [a, b] k2 pt2) pos) (qnb i j ta) := by
 intro pins s σ H D I h
 rw [exec_Assign_arm]
 refine wpAny_bind (wpAny_standAt ?_)
 rw [hs]
 refine wpAny_bind (wpAny_pure ?_)
 rw [if_neg (by decide)]
 refine wpAny_bind (Tuple_ (thn (ha _ pins s σ H _ I h) fun us s1 ⟨vs, H1, I1, r1, q1⟩ => ?_))
 obtain ⟨v, w, e1, q1⟩ := q1
 subst e1
 obtain ⟨u1, u2, rfl, rv, rw'⟩ : ∃ u1 u2, us = [u1, u2] /\ zZ v u1 /\ zZ w u2 := by
  cases r1 with
  | cons p q =>
   cases q with
   | cons p' q' =>
    cases q'
    exact ⟨_, _, rfl, p, p'⟩
 refine wpAny_newObj_type ?_ (by show 2 <= sizeLine; decide)
 have I2 : Inv X pins σ H1 { s1 with heap := s1.heap.push { cls := .type "tuple", data := .seq [u1, u2].toArray } } := I1.kept (t' := s1.toks) fun b o e => Heap.get?_push_of_some _ e
 rw [hw]
 refine wpAny_bind (wpAny_pure ?_)
 show wpAny (model X.prog X.w) X.A (do rule "assign.swapped-stores"; let items <- unpackItems (.ref s1.heap.objs.size) 2 none; assignInOrder [fun v => bindName X.env y v, fun v => bindName X.env x v] items.reverse; pure Flow.next) _ _ _
 refine wpAny_bind (wpAny_rule (wpAny_bind (unpackItems_tuple (items := #[u1, u2]) (I.ok.hd hc) (IsTup.new s1.heap _) fun h' hx' => ?_)))
 have I3 := I2.kept (h' := h') (t' := s1.toks) fun b o e => hx' b o (Nat.ne_of_lt (Heap.lt_size e)) e
 show wpAny _ _ (assignInOrder [fun v => bindName X.env y v, fun v => bindName X.env x v] [u2, u1] >>= fun _ => pure Flow.next) _ _ _
 refine wpAny_bind (assignInOrder_cons (wpAny_bindName (yR I3 hN hj (.inl hy) rw' (fun s2 I4 => ?_) (.inr hy))))
 refine assignInOrder_cons (wpAny_bindName (yR I4 hN hi (.inl hx) rv (fun s3 I5 => assignInOrder_nil (wpAny_pure ?_)) (.inr hx)))
 rw [List.set_comm _ _ (Ne.symm hij)] at I5
 exact ⟨_, H1, I5, q1⟩
end
section
variable {X : Cx} {pos : Pos}
def qjw (c : TT) (tb : TS) : TS := fun D σ H => ∃ W : Nat -> St -> Hp -> Prop, (∃ m, W m σ H) /\ ∀ m σ H, W m σ H ->
 c σ H fun b H1 => if b = true then ∃ N : St -> Hp -> Prop, (∀ σ' H', N σ' H' -> ∃ m', m' < m /\ W m' σ' H') /\ tb { D with nx := N, ct := N, bk := D.nx } σ H1 else D.nx σ H1
theorem qfO {c : Expr} {body : List Stmt} {tc : TT} {tb : TS} (hp : PassesOwn (model X.prog X.w) X.A X.env X.xe) (hc : PT X c tc) (hb : PSs X body tb) : PS X (.While c body [] pos) (qjw tc tb) := by
 intro pins s σ H D I h
 obtain ⟨W, ⟨m0, w0⟩, turn⟩ := h
 refine wpAny_While (codeAny_whileLoop (fun n s' => ∃ σ' H', Inv X pins σ' H' s' /\ W n σ' H') ?_ m0 ⟨σ, H, I, w0⟩)
 rintro n s1 ⟨σ1, H1, I1, w1⟩
 refine wpAny_passesOwn hp (thn (hc pins s1 σ1 H1 _ I1 (turn n σ1 H1 w1)) fun b s2 ⟨H2, I2, q2⟩ => ?_)
 cases b with
 | true =>
  obtain ⟨N, hN, q2⟩ := q2
  rw [if_pos rfl]
  refine wpAny_passesOwn hp (thn (hb pins s2 σ1 H2 _ I2 q2) fun f s3 q3 => ?_)
  cases f with
  | next =>
   obtain ⟨σ3, H3, I3, n3⟩ := q3
   obtain ⟨m', hm, w3⟩ := hN σ3 H3 n3
   exact ⟨m', hm, σ3, H3, I3, w3⟩
  | cont =>
   obtain ⟨σ3, H3, I3, n3⟩ := q3
   obtain ⟨m', hm, w3⟩ := hN σ3 H3 n3
   exact ⟨m', hm, σ3, H3, I3, w3⟩
  | brk => exact q3
  | ret v => exact q3
 | false =>
  rw [if_neg Bool.false_ne_true]
  exact wpAny_execs_nil ⟨σ1, H2, I2, q2⟩
end
structure It where
 go : Nat -> Hp -> Prop
 yld : Nat -> Hp -> V -> Hp -> Prop
 stop : Nat -> Hp -> Prop
def qaK (X : Cx) (pins : List (Addr × Obj)) (H : Hp) (b : Addr) : Prop :=
 H b = none /\ b ≠ X.env.locals /\ b ∉ X.fs /\ (b ∈ X.ex \/ X.s₀.heap.objs.size <= b) /\ (∀ x c, X.env.cells.lookup x = some c -> c ≠ b) /\ ∀ p ∈ X.pn ++ pins, p.1 ≠ b
theorem Inv.fpOk {X : Cx} {pins : List (Addr × Obj)} {σ : St} {H H' : Hp} {s : Shared} {b : Addr} (I : Inv X pins σ H s) (hb : s.heap.objs.size <= b) (hn : H' b = none) : qaK X pins H' b := by
 refine ⟨hn, Nat.ne_of_gt (Nat.lt_of_lt_of_le I.lt hb), I.nofs hb, .inr (Nat.le_trans I.sz hb), fun x c e z => ?_, fun p hp z => ?_⟩
 ·obtain ⟨v, q⟩ := I.cell x c e
  exact absurd (Nat.lt_of_lt_of_le q.lt (by rw [z]; exact hb)) (Nat.lt_irrefl _)
 ·exact absurd (Nat.lt_of_lt_of_le (Heap.lt_size (I.pin p hp).1) (by rw [z]; exact hb)) (Nat.lt_irrefl _)
structure qi3 (P : Program) (w : World) (K : PySem.W.Frag) (tg : Expr) (J : It) (fp : List Addr) (it : Addr) (tn : Nat -> Heap -> Prop) : Prop where
 mem : it ∈ fp
 obj : ∀ i h, tn i h -> ∀ b ∈ fp, ∃ o, h.get? b = some o /\ ∀ v, o.data ≠ .cell v
 keep : ∀ i h h', tn i h -> (∀ b ∈ fp, ∀ o, h.get? b = some o -> h'.get? b = some o) -> tn i h'
 item : ∀ (X : Cx), X.prog = P -> X.w = w -> X.K = K -> X.calm = true -> ∀ (i : Nat) (pins : List (Addr × Obj)) (s : Shared) (σ : St) (H : Hp) (E : Value -> Shared -> Prop), Inv X pins σ H s -> (∀ b ∈ fp, qaK X pins H b) -> tn i s.heap -> J.go i H ->
  wpAny (model P w) X.A (pyNext (.ref it)) (fun r s1 => ∃ u, r = some u /\
   wpAny (model P w) X.A (letOwnedTupleGo tg (.ref it) u) (fun _ s2 => ∃ x H', Inv X pins σ H' s2 /\ zZ x u /\ J.yld i H x H' /\ tn (i + 1) s2.heap /\ ∀ b ∈ fp, H' b = none) E s1) E s
 done : ∀ (X : Cx), X.prog = P -> X.w = w -> X.K = K -> X.calm = true -> ∀ (i : Nat) (pins : List (Addr × Obj)) (s : Shared) (σ : St) (H : Hp) (E : Value -> Shared -> Prop), Inv X pins σ H s -> (∀ b ∈ fp, qaK X pins H b) -> tn i s.heap -> J.stop i H ->
  wpAny (model P w) X.A (pyNext (.ref it)) (fun r s1 => r = none /\ Inv X pins σ H s1) E s
 self : ∀ (A : Around) (i : Nat) (s : Shared) (Q : Value -> Shared -> Prop) (E : Value -> Shared -> Prop), tn i s.heap -> Q (.ref it) s -> wpAny (model P w) A (pyIter (.ref it)) Q E s
abbrev TI := St -> Hp -> (It -> Hp -> Prop) -> Prop
def PIE (X : Cx) (pins : List (Addr × Obj)) (σ : St) (tg : Expr) (R : It -> Hp -> Prop) (itv : Value) (s2 : Shared) : Prop :=
 ∃ (it : Addr) (fp : List Addr) (tn : Nat -> Heap -> Prop) (J : It) (H' : Hp), itv = .ref it /\ Inv X pins σ H' s2 /\ qi3 X.prog X.w X.K tg J fp it tn /\ tn 0 s2.heap /\ (∀ b ∈ fp, qaK X pins H' b) /\ R J H'
def PI (X : Cx) (tg iter : Expr) (wi : TI) : Prop :=
 ∀ (pins : List (Addr × Obj)) (s : Shared) (σ : St) (H : Hp) (R : It -> Hp -> Prop), Inv X pins σ H s -> wi σ H R ->
  wpAny (model X.prog X.w) X.A (eval iter X.env) (fun v s1 => wpAny (model X.prog X.w) X.A (pyIter v) (PIE X pins σ tg R) X.xe s1) X.xe s
theorem qfP {M : Model} {A : Around} {E : Value -> Shared -> Prop} {s : Shared} {tg : Expr} {it : Addr} {u : Value} {o : Obj} {n : String} {vs : Array Value} {Q : Unit -> Shared -> Prop} (ho : s.heap.get? it = some o) (hc : o.cls = .type n) (hd : o.data = .fields vs)
  (hn : ["enumerate", "zip", "dict_itemiterator", "dict_reverseitemiterator", "odict_iterator", "itertools.zip_longest", "itertools.pairwise"].contains n = false) (hQ : Q () s) : wpAny M A (letOwnedTupleGo tg (.ref it) u) Q E s := by
 unfold letOwnedTupleGo
 cases tg <;> first
  | exact wpAny_pure hQ
  | (cases u <;> first
    | exact wpAny_pure hQ
    | (refine wpAny_bind (wpAny_load ho ?_)
       rw [hc, hd]
       show wpAny M A (if (["enumerate", "zip", "dict_itemiterator", "dict_reverseitemiterator", "odict_iterator", "itertools.zip_longest", "itertools.pairwise"].contains n && vs[0]? == some (rawInt _)) = true then _ else _) Q E s
       rw [if_neg (by intro h; rw [hn, Bool.false_and] at h; cases h)]
       exact wpAny_pure hQ))
def Itl (K : PySem.W.Frag) (a : Addr) : It :=
 ⟨fun i H => ∃ xs x, SqL K H a xs /\ xs[i]? = some x, fun i H x H' => H' = H /\ ∀ xs, SqL K H a xs -> xs[i]? = some x, fun i H => ∃ xs, SqL K H a xs /\ xs.length <= i⟩
def Itt (K : PySem.W.Frag) (a : Addr) : It :=
 ⟨fun i H => ∃ xs x, SqT K H a xs /\ xs[i]? = some x, fun i H x H' => H' = H /\ ∀ xs, SqT K H a xs -> xs[i]? = some x, fun i H => ∃ xs, SqT K H a xs /\ xs.length <= i⟩
def Itr (lo : Int) (n : Nat) : It := ⟨fun i _ => i < n, fun i H x H' => H' = H /\ x = .int (lo + i), fun i _ => n <= i⟩
theorem qd5 {P : Program} {w : World} {K : PySem.W.Frag} {tg : Expr} (a it : Addr) : qi3 P w K tg (Itl K a) [it] it (fun i h => h.IsListIter it a i) where
 mem := by simp
 obj := fun i h st b hb => by
  have e : b = it := by simpa using hb
  subst e
  obtain ⟨o, e, c, d⟩ := st
  exact ⟨o, e, fun v z => by rw [d] at z; cases z⟩
 keep := fun i h h' st k => st.at fun o e => k it (by simp) o e
 item := by
  intro X hP hw hK hc i pins s σ H E I hf st hg
  subst hP hw hK
  obtain ⟨xs, x, hq, hx⟩ := hg
  obtain ⟨its, rv, p, hz⟩ := I.list hq
  obtain ⟨u, hu, ru⟩ := rv.get hx
  obtain ⟨f0, f1, f2, f3, f4, f5⟩ := hf it (by simp)
  refine wpAny_pyNext_list_item st p.isList (x := u) (by simpa using hu) fun h' st' sb => ?_
  have I1 : Inv X pins σ H { s with heap := h' } := I.turned (t' := s.toks) (fun b o hb e => (sb.2 b hb).trans e) f0 f1 f3 f4 f5
  obtain ⟨o, e, c, d⟩ := id st'
  exact ⟨u, rfl, qfP (s := { s with heap := h' }) e c d (by decide) ⟨x, H, I1, ru, ⟨rfl, fun ys hy => by rw [I.list_inj hy hq]; exact hx⟩, st', fun b hb => (hf b hb).1⟩⟩
 done := by
  intro X hP hw hK hc i pins s σ H E I hf st hg
  subst hP hw hK
  obtain ⟨xs, hq, hx⟩ := hg
  obtain ⟨its, rv, p, hz⟩ := I.list hq
  obtain ⟨f0, f1, f2, f3, f4, f5⟩ := hf it (by simp)
  have hl := rv.length
  exact wpAny_pyNext_list_end (I.ok.hd hc) st p.isList (by simp; omega) fun h' eb => ⟨rfl, I.turned (t' := s.toks) (fun b o hb e => eb b o hb e) f0 f1 f3 f4 f5⟩
 self := fun _ _ _ _ _ st h => wpAny_pyIter_listiter st h
theorem qds {P : Program} {w : World} {K : PySem.W.Frag} {tg : Expr} (a it : Addr) : qi3 P w K tg (Itt K a) [it] it (fun i h => h.IsTupleIter it a i) where
 mem := by simp
 obj := fun i h st b hb => by
  have e : b = it := by simpa using hb
  subst e
  obtain ⟨o, e, c, d⟩ := st
  exact ⟨o, e, fun v z => by rw [d] at z; cases z⟩
 keep := fun i h h' st k => st.at fun o e => k it (by simp) o e
 item := by
  intro X hP hw hK hc i pins s σ H E I hf st hg
  subst hP hw hK
  obtain ⟨xs, x, hq, hx⟩ := hg
  obtain ⟨its, rv, p, hz⟩ := I.tuple hq
  obtain ⟨u, hu, ru⟩ := rv.get hx
  obtain ⟨f0, f1, f2, f3, f4, f5⟩ := hf it (by simp)
  refine wpAny_pyNext_tuple_item st (show s.heap.IsTuple a its.toArray from p) (x := u) (by simpa using hu) fun h' st' sb => ?_
  have I1 : Inv X pins σ H { s with heap := h' } := I.turned (t' := s.toks) (fun b o hb e => (sb.2 b hb).trans e) f0 f1 f3 f4 f5
  obtain ⟨o, e, c, d⟩ := id st'
  exact ⟨u, rfl, qfP (s := { s with heap := h' }) e c d (by decide) ⟨x, H, I1, ru, ⟨rfl, fun ys hy => by rw [I.tuple_inj hy hq]; exact hx⟩, st', fun b hb => (hf b hb).1⟩⟩
 done := by
  intro X hP hw hK hc i pins s σ H E I hf st hg
  subst hP hw hK
  obtain ⟨xs, hq, hx⟩ := hg
  obtain ⟨its, rv, p, hz⟩ := I.tuple hq
  obtain ⟨f0, f1, f2, f3, f4, f5⟩ := hf it (by simp)
  have hl := rv.length
  exact wpAny_pyNext_tuple_end (I.ok.hd hc) st (show s.heap.IsTuple a its.toArray from p) (by simp; omega) fun h' eb => ⟨rfl, I.turned (t' := s.toks) (fun b o hb e => eb b o hb e) f0 f1 f3 f4 f5⟩
 self := fun _ _ _ _ _ st h => wpAny_pyIter_tupleiter st h
theorem qdt {P : Program} {w : World} {K : PySem.W.Frag} {tg : Expr} (it : Addr) (lo : Int) (n : Nat) : qi3 P w K tg (Itr lo n) [it] it (fun i h => IsRangeIter h it (lo + (i : Nat) * 1) ((n : Int) - (i : Nat)) 1) where
 mem := by simp
 obj := fun i h st b hb => by
  have e : b = it := by simpa using hb
  subst e
  exact ⟨_, st, fun v z => by
   have z' : Data.fields _ = Data.cell v := z
   cases z'⟩
 keep := fun i h h' st k => k it (by simp) _ st
 item := by
  intro X hP hw hK hc i pins s σ H E I hf st hg
  subst hP hw hK
  obtain ⟨f0, f1, f2, f3, f4, f5⟩ := hf it (by simp)
  have W := Walks.range (prog := X.prog) (w := X.w) (I.ok.hd hc) it lo 1 n
  refine W.item i s _ _ hg st fun v h' tk hv st' kk => ?_
  obtain ⟨t, rfl⟩ := hv
  have I1 : Inv X pins σ H { s with heap := h', toks := tk } := I.turned (fun b o hb e => kk b o (by simpa using hb) e) f0 f1 f3 f4 f5
  refine ⟨_, rfl, qfP (s := { s with heap := h', toks := tk }) (n := "range_iterator") st' rfl rfl (by decide) ⟨.int (lo + i), H, I1, ⟨t, ?_⟩, ⟨rfl, rfl⟩, st', fun b hb => (hf b hb).1⟩⟩
  rw [Int.mul_one]
 done := by
  intro X hP hw hK hc i pins s σ H E I hf st hg
  subst hP hw hK
  obtain ⟨f0, f1, f2, f3, f4, f5⟩ := hf it (by simp)
  exact wpAny_pyNext_range_end (I.ok.hd hc) st (by have : n <= i := hg; omega) fun h' eb => ⟨rfl, I.turned (t' := s.toks) (fun b o hb e => eb b o hb e) f0 f1 f3 f4 f5⟩
 self := fun _ _ _ _ _ st h => wpAny_pyIter_rangeiter st h
end L2
namespace L2
open PySem PySem.Spec PyProof.Rows
section
variable {X : Cx} {tg : Expr}
theorem qfQ {pins : List (Addr × Obj)} {σ : St} {H : Hp} {s : Shared} {R : It -> Hp -> Prop} {E : Value -> Shared -> Prop} {lo hi : Int} {t u v : Tok} {tk : Nat} (I : Inv X pins σ H s) (h1 : -(2 ^ 62) <= lo) (h2 : lo < 2 ^ 62) (h3 : -(2 ^ 62) <= hi) (h4 : hi < 2 ^ 62)
  (q : R (Itr lo (hi - lo).toNat) H) : wpAny (model X.prog X.w) X.A (pyIter (.ref s.heap.objs.size)) (PIE X pins σ tg R) E { s with heap := s.heap.push { cls := .type "range", data := .fields #[.int lo t, .int hi u, .int 1 v] }, toks := tk } := by
 refine wpAny_pyIter_range (IsRange.new ..) (small_one h1 h2 h3 h4) ?_
 have I1 : Inv X pins σ H { s with heap := s.heap.push { cls := .type "range", data := .fields #[.int lo t, .int hi u, .int 1 v] }, toks := tk } := I.kept fun b o e => Heap.get?_push_of_some _ e
 refine ⟨(s.heap.push { cls := .type "range", data := .fields #[.int lo t, .int hi u, .int 1 v] }).objs.size, [(s.heap.push { cls := .type "range", data := .fields #[.int lo t, .int hi u, .int 1 v] }).objs.size], _, _, H, rfl,
  I1.kept (t' := tk) fun b o e => Heap.get?_push_of_some _ e, qdt _ lo (hi - lo).toNat, ?_, fun b hb => ?_, q⟩
 ·have e1 : lo + ((0 : Nat) : Int) * 1 = lo := by simp
  have e2 : (((hi - lo).toNat : Nat) : Int) - ((0 : Nat) : Int) = Builtin.Range.rangeSize lo hi 1 := by rw [rangeSize_one]; split <;> omega
  show IsRangeIter _ _ (lo + ((0 : Nat) : Int) * 1) ((((hi - lo).toNat : Nat) : Int) - ((0 : Nat) : Int)) 1
  rw [e1, e2]
  exact Heap.get?_push_size _ rfl
 ·have e : b = (s.heap.push { cls := .type "range", data := .fields #[.int lo t, .int hi u, .int 1 v] }).objs.size := by simpa using hb
  subst e
  exact I1.fpOk (Nat.le_refl _) (I1.hok.fresh (Nat.le_refl _))
def qjx (ta : TA) : TI := fun σ H R => ta σ H fun vs H1 => ∃ j : Int, vs = [.int j] /\ -(2 ^ 62) <= j /\ j < 2 ^ 62 /\ R (Itr 0 j.toNat) H1
theorem qd6 {a : Expr} {ta : TA} {p pos : Pos} (hg : Gl X "range") (hm : X.mg "range" = none) (ha : PA X [a] ta) (hs : starEach [a] X.env = [(false, eval a X.env)] := by rfl) : PI X tg (.Call (.Name "range" p) [a] [] pos) (qjx ta) := by
 intro pins s σ H R I h
 refine Call_ (vR I hg hm boot_range (PyProof.Rows.callWith_type1 (thn (ha pos pins s σ H _ I h) fun us s1 ⟨vs, H1, I1, r1, q1⟩ => ?_) hs rfl))
 obtain ⟨j, e, q1, q2, q⟩ := q1
 subst e
 cases r1 with
 | cons r rr =>
  cases rr
  obtain ⟨t, rfl⟩ := r
  exact call_range_1 (qfQ I1 (by omega) (by omega) q1 q2 (by simpa using q))
def qnc (wi : TI) (g : TG) (tb : TS) : TS := fun D σ H => wi σ H fun J H1 => ∃ W : Nat -> Nat -> St -> Hp -> Prop, (∃ m, W 0 m σ H1) /\ ∀ i m σ H, W i m σ H ->
 (J.stop i H /\ D.nx σ H) \/ (J.go i H /\ ∃ N : St -> Hp -> Prop, (∀ σ' H', N σ' H' -> ∃ m', m' < m /\ W (i + 1) m' σ' H') /\ ∀ x H', J.yld i H x H' -> g x σ H' fun σ2 H2 => tb { D with nx := N, ct := N, bk := D.nx } σ2 H2)
def wA (fp : List Addr) (h : Heap) : List (Addr × Obj) := fp.filterMap fun b => (h.get? b).map fun o => (b, o)
theorem z9 {fp : List Addr} {h : Heap} {b : Addr} {o : Obj} (hb : b ∈ fp) (e : h.get? b = some o) : (b, o) ∈ wA fp h := List.mem_filterMap.mpr ⟨b, hb, by rw [e]; rfl⟩
theorem qd7 {fp : List Addr} {h : Heap} {p : Addr × Obj} (hp : p ∈ wA fp h) : p.1 ∈ fp /\ h.get? p.1 = some p.2 := by
 obtain ⟨b, hb, e⟩ := List.mem_filterMap.mp hp
 cases q : h.get? b with
 | none => rw [q] at e; cases e
 | some o =>
  rw [q] at e
  have e' : (b, o) = p := Option.some.inj e
  subst e'
  exact ⟨hb, q⟩
theorem Inv.pinned {pins : List (Addr × Obj)} {σ : St} {H : Hp} {s : Shared} {fp : List Addr} (I : Inv X pins σ H s) (hf : ∀ b ∈ fp, qaK X pins H b) (ho : ∀ b ∈ fp, ∃ o, s.heap.get? b = some o /\ ∀ v, o.data ≠ .cell v) : Inv X (pins ++ wA fp s.heap) σ H s :=
 I.pins_of fun p hp => (mA_.mp hp).elim (fun z => I.pin p (mr_ _ z)) fun z => by
  obtain ⟨hb, e⟩ := qd7 z
  obtain ⟨f0, f1, f2, _⟩ := hf p.1 hb
  obtain ⟨o, e', d⟩ := ho p.1 hb
  rw [e] at e'; cases e'
  exact ⟨e, f0, f1, f2, d⟩
theorem Inv.unpinned {pins pl : List (Addr × Obj)} {σ : St} {H : Hp} {s : Shared} (I : Inv X (pins ++ pl) σ H s) : Inv X pins σ H s := I.pins_of fun p hp => I.pin p (mr_ _ (List.mem_append_left _ hp))
theorem qjy {iter : Expr} {body : List Stmt} {wi : TI} {g : TG} {tb : TS} {pos : Pos} (hp : PassesOwn (model X.prog X.w) X.A X.env X.xe) (hc : X.calm = true) (hi : PI X tg iter wi) (hg : PG X tg g) (hb : PSs X body tb)
  (hs : ∀ x, foldedSetIterable iter X.env x = pure x := by intro _; rfl) : PS X (.For tg iter body [] pos) (qnc wi g tb) := by
 intro pins s σ H D I h
 refine wpAny_For (thn (hi pins s σ H _ I h) fun v s1 h1 => thn h1 fun itv s2 h2 => ?_) hs
 obtain ⟨it, fp, tn, J, H2, e, I2, T, st2, f2, W, ⟨m0, w0⟩, turn⟩ := h2
 subst e
 have stat : ∀ {H' : Hp}, (∀ b ∈ fp, H' b = none) -> ∀ b ∈ fp, qaK X pins H' b := fun hn b hb => ⟨hn b hb, (f2 b hb).2⟩
 refine codeAny_forLoop_any (fun n s' => ∃ i σ' H', Inv X pins σ' H' s' /\ tn i s'.heap /\ (∀ b ∈ fp, H' b = none) /\ W i n σ' H') ?_ m0 ⟨0, σ, H2, I2, st2, fun b hb => (f2 b hb).1, w0⟩
 rintro n s3 ⟨i, σ3, H3, I3, st3, fr3, w3⟩
 rcases turn i n σ3 H3 w3 with ⟨stop, qn⟩ | ⟨go, N, hN, step⟩
 ·refine wpAny_passesOwn hp (thn (T.done X rfl rfl rfl hc i pins s3 σ3 H3 X.xe I3 (stat fr3) st3 stop) fun r s4 ⟨hr, I4⟩ => ?_)
  subst hr
  exact wpAny_execs_nil ⟨σ3, H3, I4, qn⟩
 ·refine wpAny_passesOwn hp (thn (T.item X rfl rfl rfl hc i pins s3 σ3 H3 X.xe I3 (stat fr3) st3 go) fun r s4 ⟨u, hr, h4⟩ => ?_)
  subst hr
  refine wpAny_passesOwn hp (thn h4 fun _ s5 ⟨x, H5, I5, r5, y5, st5, fr5⟩ => ?_)
  have I5' := I5.pinned (stat fr5) (T.obj _ _ st5)
  refine wpAny_passesOwn hp (thn (hg _ s5 σ3 H5 x u _ I5' r5 (step x H5 y5)) fun _ s6 ⟨σ6, H6, I6, q6⟩ => ?_)
  refine wpAny_passesOwn hp (thn (hb _ s6 σ6 H6 _ I6 q6) fun f s7 q7 => ?_)
  have again : ∀ {σ7 : St} {H7 : Hp}, Inv X (pins ++ wA fp s5.heap) σ7 H7 s7 -> N σ7 H7 -> ∃ m, m < n /\ ∃ i σ' H', Inv X pins σ' H' s7 /\ tn i s7.heap /\ (∀ b ∈ fp, H' b = none) /\ W i m σ' H' := fun {σ7 H7} I7 n7 => by
   obtain ⟨m', hm, w7⟩ := hN σ7 H7 n7
   refine ⟨m', hm, i + 1, σ7, H7, I7.unpinned, T.keep _ _ _ st5 fun b hb o e => (I7.pin (b, o) (mr_ _ (mr_ _ (z9 hb e)))).1, fun b hb => ?_, w7⟩
   obtain ⟨o, e, d⟩ := T.obj _ _ st5 b hb
   exact (I7.pin (b, o) (mr_ _ (mr_ _ (z9 hb e)))).2.1
  cases f with
  | next => obtain ⟨σ7, H7, I7, n7⟩ := q7; exact again I7 n7
  | cont => obtain ⟨σ7, H7, I7, n7⟩ := q7; exact again I7 n7
  | brk => obtain ⟨σ7, H7, I7, q7⟩ := q7; exact ⟨σ7, H7, I7.unpinned, q7⟩
  | ret v => obtain ⟨x7, σ7, H7, I7, r7, q7⟩ := q7; exact ⟨x7, σ7, H7, I7.unpinned, r7, q7⟩
end
end L2
namespace L2
open PySem PySem.Spec PyProof.Rows
abbrev R2 := V -> V -> Hp -> VK -> Prop
def OpR (X : Cx) (f : Value -> Value -> Sem Value) (r : R2) : Prop :=
 ∀ (pins : List (Addr × Obj)) (s : Shared) (σ : St) (H : Hp) (x y : V) (v u : Value) (Q : VK), Inv X pins σ H s -> zZ x v -> zZ y u -> r x y H Q ->
  wpAny (model X.prog X.w) X.A (f v u) (EP X pins σ Q) X.xe s
def UnR (X : Cx) (f : Value -> Sem Value) (r : V -> Hp -> VK -> Prop) : Prop :=
 ∀ (pins : List (Addr × Obj)) (s : Shared) (σ : St) (H : Hp) (x : V) (v : Value) (Q : VK), Inv X pins σ H s -> zZ x v -> r x H Q ->
  wpAny (model X.prog X.w) X.A (f v) (EP X pins σ Q) X.xe s
def yy (X : Cx) (f : Value) (r : List V -> Hp -> VK -> Prop) : Prop :=
 ∀ (pins : List (Addr × Obj)) (s : Shared) (σ : St) (H : Hp) (xs : List V) (us : List Value) (Q : VK), Inv X pins σ H s -> qT xs us -> r xs H Q ->
  wpAny (model X.prog X.w) X.A (call f us) (EP X pins σ Q) X.xe s
def tOp (r : R2) (ta tb : TE) : TE := fun σ H Q => ta σ H fun x H1 => tb σ H1 fun y H2 => r x y H2 Q
def tUn (r : V -> Hp -> VK -> Prop) (ta : TE) : TE := fun σ H Q => ta σ H fun x H1 => r x H1 Q
def rI (C : Int -> Int -> Prop) (g : Int -> Int -> V) : R2 := fun x y H Q => ∃ i j, x = .int i /\ y = .int j /\ C i j /\ Q (g i j) H
def rI0 (g : Int -> Int -> V) : R2 := fun x y H Q => ∃ i j, x = .int i /\ y = .int j /\ Q (g i j) H
def rU (g : Int -> V) : V -> Hp -> VK -> Prop := fun x H Q => ∃ i, x = .int i /\ Q (g i) H
section
variable {X : Cx} {a b c : Expr} {ta tb tc : TE} {pos : Pos}
theorem qlJ (ha : PE X a ta) (hb : PE X b tb) {pins : List (Addr × Obj)} {s : Shared} {σ : St} {H : Hp} {R : V -> V -> Hp -> Prop} (I : Inv X pins σ H s)
  (h : ta σ H fun x H1 => tb σ H1 fun y H2 => R x y H2) {Q : Value -> Shared -> Prop} {f : Value -> Value -> Sem Value}
  (hf : ∀ v u s2 x y H2, Inv X pins σ H2 s2 -> zZ x v -> zZ y u -> R x y H2 -> wpAny (model X.prog X.w) X.A (f v u) Q X.xe s2) :
  wpAny (model X.prog X.w) X.A (eval a X.env) (fun v s₁ => wpAny (model X.prog X.w) X.A (eval b X.env) (fun u s₂ => wpAny (model X.prog X.w) X.A (f v u) Q X.xe s₂) X.xe s₁) X.xe s := by
 refine thn (ha pins s σ H _ I h) fun v s1 ⟨x, H1, I1, r1, q1⟩ => ?_
 refine thn (hb pins s1 σ H1 _ I1 q1) fun u s2 ⟨y, H2, I2, r2, q2⟩ => ?_
 exact hf v u s2 x y H2 I2 r1 r2 q2
theorem qjz {op : Operator} {r : R2} (ho : OpR X (binaryOp op) r) (ha : PE X a ta) (hb : PE X b tb) : PE X (.BinOp a op b pos) (tOp r ta tb) := by
 intro pins s σ H Q I h
 exact wpAny_BinOp (qlJ ha hb I h fun v u s2 x y H2 I2 rx ry q => ho pins s2 σ H2 x y v u Q I2 rx ry q)
theorem qlK {op : UnaryOp} {r : V -> Hp -> VK -> Prop} (ho : UnR X (unaryOp op) r) (ha : PE X a ta) : PE X (.UnaryOp op a pos) (tUn r ta) := by
 intro pins s σ H Q I h
 exact UnaryOp_ (thn (ha pins s σ H _ I h) fun v s1 ⟨x, H1, I1, r1, q1⟩ => ho pins s1 σ H1 x v Q I1 r1 q1)
theorem opI {f : Value -> Value -> Sem Value} {C : Int -> Int -> Prop} {g : Int -> Int -> Int}
  (rule : ∀ (i j : Int) (t u : Tok) (s : Shared) (Q : Value -> Shared -> Prop) (E : Value -> Shared -> Prop), C i j -> Q (.int (g i j) s.toks) { s with toks := s.toks + 1 } -> wpAny (model X.prog X.w) X.A (f (.int i t) (.int j u)) Q E s) :
  OpR X f (rI C fun i j => .int (g i j)) := by
 intro pins s σ H x y v u Q I rx ry h
 obtain ⟨i, j, rfl, rfl, hc, q⟩ := h
 obtain ⟨t, rfl⟩ := rx
 obtain ⟨t', rfl⟩ := ry
 exact rule i j t t' s _ _ hc ⟨.int (g i j), H, I.tok _, ⟨_, rfl⟩, q⟩
theorem qmw {f : Value -> Value -> Sem Value} {g : Int -> Int -> Int}
  (rule : ∀ (i j : Int) (t u : Tok) (s : Shared) (Q : Value -> Shared -> Prop) (E : Value -> Shared -> Prop), Q (.int (g i j) s.toks) { s with toks := s.toks + 1 } -> wpAny (model X.prog X.w) X.A (f (.int i t) (.int j u)) Q E s) :
  OpR X f (rI0 fun i j => .int (g i j)) := by
 intro pins s σ H x y v u Q I rx ry h
 obtain ⟨i, j, rfl, rfl, q⟩ := h
 obtain ⟨t, rfl⟩ := rx
 obtain ⟨t', rfl⟩ := ry
 exact rule i j t t' s _ _ ⟨.int (g i j), H, I.tok _, ⟨_, rfl⟩, q⟩
theorem qln {f : Value -> Value -> Sem Value} {g : Int -> Int -> Bool}
  (rule : ∀ (i j : Int) (t u : Tok) (s : Shared) (Q : Value -> Shared -> Prop) (E : Value -> Shared -> Prop), Q (.bool (g i j)) s -> wpAny (model X.prog X.w) X.A (f (.int i t) (.int j u)) Q E s) :
  OpR X f (rI0 fun i j => .bl (g i j)) := by
 intro pins s σ H x y v u Q I rx ry h
 obtain ⟨i, j, rfl, rfl, q⟩ := h
 obtain ⟨t, rfl⟩ := rx
 obtain ⟨t', rfl⟩ := ry
 exact rule i j t t' s _ _ ⟨.bl (g i j), H, I, rfl, q⟩
def qjA (i j : Int) : Prop := 0 < j /\ j < 1606938044258990275541962092341162602522202993782792835301376
theorem qmx {i j : Int} (h1 : 0 < j) (h2 : j < 1606938044258990275541962092341162602522202993782792835301376) : Builtin.divisionGoesByPylong i j = false := by
 refine PyProof.noPylong_of_log2 ?_
 have h0 : j.natAbs ≠ 0 := by omega
 have h3 : j.natAbs < 2 ^ 200 := by
   have : (2 : Nat) ^ 200 = 1606938044258990275541962092341162602522202993782792835301376 := by decide +kernel
   omega
 have := (Nat.log2_lt h0).mpr h3
 omega
def qjB (i j : Int) : Prop := (-(2 ^ 64) < i /\ i < 2 ^ 64) \/ (-(2 ^ 64) < j /\ j < 2 ^ 64)
theorem qjB.ok {i j : Int} (h : qjB i j) : IntMulOk i j := by
 rcases h with ⟨h1, h2⟩ | ⟨h1, h2⟩
 ·exact .of_left (intBits_le_64 h1 h2)
 ·exact .of_right (intBits_le_64 h1 h2)
theorem qjC : OpR X (binaryOp .Add) (rI0 fun i j => .int (i + j)) := qmw fun _ _ _ _ _ _ _ q => add_int q
theorem qcK : OpR X (binaryOp .Sub) (rI0 fun i j => .int (i - j)) := qmw fun _ _ _ _ _ _ _ q => sub_int q
theorem qjD : OpR X (binaryOp .Mult) (rI qjB fun i j => .int (i * j)) := opI fun _ _ _ _ _ _ _ hc q => mul_int q hc.ok
theorem wB : OpR X (binaryOp .FloorDiv) (rI qjA fun i j => .int (i / j)) := opI fun i j _ _ _ _ _ hc q => by
 have h1 : (0 : Int) < j := hc.1
 have h2 : j < 1606938044258990275541962092341162602522202993782792835301376 := hc.2
 exact floordiv_int (by omega) (by rw [Int.fdiv_eq_ediv_of_nonneg i (by omega)]; exact q) (.inl (qmx h1 h2))
theorem qaq : OpR X (binaryOp .Mod) (rI (fun _ j => 0 < j) fun i j => .int (i % j)) := opI fun i j _ _ _ _ _ hc q => by
 have h1 : (0 : Int) < j := hc
 exact mod_int' (by omega) (by rw [Int.fmod_eq_emod_of_nonneg i (by omega)]; exact q)
theorem unI {f : Value -> Sem Value} {g : Int -> Int}
  (rule : ∀ (i : Int) (t : Tok) (s : Shared) (Q : Value -> Shared -> Prop) (E : Value -> Shared -> Prop), Q (.int (g i) s.toks) { s with toks := s.toks + 1 } -> wpAny (model X.prog X.w) X.A (f (.int i t)) Q E s) :
  UnR X f (rU fun i => .int (g i)) := by
 intro pins s σ H x v Q I rx h
 obtain ⟨i, rfl, q⟩ := h
 obtain ⟨t, rfl⟩ := rx
 exact rule i t s _ _ ⟨.int (g i), H, I.tok _, ⟨_, rfl⟩, q⟩
theorem qjE : UnR X (unaryOp .USub) (rU fun i => .int (-i)) := unI fun _ _ _ _ _ q => neg_int q
end
def qlL : V -> V -> Bool
 | .non, .non => true | .non, .int _ => true | .int _, .non => true | .non, .bl _ => true | .bl _, .non => true | .non, .str _ => true | .str _, .non => true
 | .int _, .int _ => true | .bl _, .bl _ => true | .str _, .str _ => true | .byt _, .byt _ => true
 | .int _, .str _ => true | .str _, .int _ => true | .bl _, .str _ => true | .str _, .bl _ => true
 | _, _ => false
def rEq : R2 := fun x y H Q => qlL x y = true /\ Q (.bl (decide (x = y))) H
def rNe : R2 := fun x y H Q => qlL x y = true /\ Q (.bl (!decide (x = y))) H
theorem qd8 {i j : Int} : decide (V.int i = V.int j) = (i == j) := by
 rw [Bool.eq_iff_iff]
 simp
theorem qgK {i j : Bool} : decide (V.bl i = V.bl j) = (i == j) := by
 rw [Bool.eq_iff_iff]
 simp
theorem qd9 {i j : Str} : decide (V.str i = V.str j) = (i == j) := by
 rw [Bool.eq_iff_iff]
 simp
theorem qea {i j : Array UInt8} : decide (V.byt i = V.byt j) = (i.toList == j.toList) := by
 rw [Bool.eq_iff_iff]
 cases i
 cases j
 simp
section
variable {X : Cx} {a b c : Expr} {ta tb tc : TE} {pos : Pos}
theorem qO {pins : List (Addr × Obj)} {σ : St} {H : Hp} {s : Shared} {Q : VK} {k k' : Bool} (I : Inv X pins σ H s) (q : Q (.bl k) H) (e : k = k') : EP X pins σ Q (.bool k') s := by
 subst e
 exact ⟨.bl k, H, I, rfl, q⟩
theorem qjF : OpR X (compareOp .Eq) rEq := by
 intro pins s σ H x y v u Q I rx ry h
 obtain ⟨hs, q⟩ := h
 cases x with
 | non =>
  cases rx
  cases y with
  | non => cases ry; exact PySem.EqNone.eq_none_none (qO I q (by simp))
  | bl j => cases ry; exact PySem.EqNone.eq_none_bool (qO I q (by simp))
  | int j => obtain ⟨t', rfl⟩ := ry; exact PySem.EqNone.eq_none_int (qO I q (by simp))
  | str j => obtain ⟨t', rfl⟩ := ry; exact PySem.EqNone.eq_none_str (qO I q (by simp))
  | _ => exact absurd (show false = true from hs) Bool.false_ne_true
 | bl i =>
  cases rx
  cases y with
  | non => cases ry; exact PySem.EqNone.eq_bool_none (qO I q (by simp))
  | bl j => cases ry; exact eq_bool (qO I q qgK)
  | str j => obtain ⟨t', rfl⟩ := ry; exact PySem.EqMixed.eq_bool_str (qO I q (by simp))
  | _ => exact absurd (show false = true from hs) Bool.false_ne_true
 | int i =>
  obtain ⟨t, rfl⟩ := rx
  cases y with
  | non => cases ry; exact PySem.EqNone.eq_int_none (qO I q (by simp))
  | int j => obtain ⟨t', rfl⟩ := ry; exact eq_int (qO I q qd8)
  | str j => obtain ⟨t', rfl⟩ := ry; exact PySem.EqMixed.eq_int_str (qO I q (by simp))
  | _ => exact absurd (show false = true from hs) Bool.false_ne_true
 | str i =>
  obtain ⟨t, rfl⟩ := rx
  cases y with
  | non => cases ry; exact PySem.EqNone.eq_str_none (qO I q (by simp))
  | bl j => cases ry; exact PySem.EqMixed.eq_str_bool (qO I q (by simp))
  | int j => obtain ⟨t', rfl⟩ := ry; exact PySem.EqMixed.eq_str_int (qO I q (by simp))
  | str j => obtain ⟨t', rfl⟩ := ry; exact eq_str (qO I q qd9)
  | _ => exact absurd (show false = true from hs) Bool.false_ne_true
 | byt i =>
  obtain ⟨t, rfl⟩ := rx
  cases y with
  | byt j => obtain ⟨t', rfl⟩ := ry; exact PySem.W.eq_bytes (qO I q qea)
  | _ => exact absurd (show false = true from hs) Bool.false_ne_true
 | _ => cases y <;> exact absurd (show false = true from hs) Bool.false_ne_true
theorem qlM : OpR X (compareOp .NotEq) rNe := by
 intro pins s σ H x y v u Q I rx ry h
 obtain ⟨hs, q⟩ := h
 cases x with
 | non =>
  cases rx
  cases y with
  | non => cases ry; exact PySem.EqNone.ne_none_none (qO I q (by simp))
  | bl j => cases ry; exact PySem.EqNone.ne_none_bool (qO I q (by simp))
  | int j => obtain ⟨t', rfl⟩ := ry; exact PySem.EqNone.ne_none_int (qO I q (by simp))
  | str j => obtain ⟨t', rfl⟩ := ry; exact PySem.EqNone.ne_none_str (qO I q (by simp))
  | _ => exact absurd (show false = true from hs) Bool.false_ne_true
 | bl i =>
  cases rx
  cases y with
  | non => cases ry; exact PySem.EqNone.ne_bool_none (qO I q (by simp))
  | bl j => cases ry; exact ne_bool (qO I q (congrArg not qgK))
  | str j => obtain ⟨t', rfl⟩ := ry; exact PySem.EqMixed.ne_bool_str (qO I q (by simp))
  | _ => exact absurd (show false = true from hs) Bool.false_ne_true
 | int i =>
  obtain ⟨t, rfl⟩ := rx
  cases y with
  | non => cases ry; exact PySem.EqNone.ne_int_none (qO I q (by simp))
  | int j => obtain ⟨t', rfl⟩ := ry; exact ne_int (qO I q (congrArg not qd8))
  | str j => obtain ⟨t', rfl⟩ := ry; exact PySem.EqMixed.ne_int_str (qO I q (by simp))
  | _ => exact absurd (show false = true from hs) Bool.false_ne_true
 | str i =>
  obtain ⟨t, rfl⟩ := rx
  cases y with
  | non => cases ry; exact PySem.EqNone.ne_str_none (qO I q (by simp))
  | bl j => cases ry; exact PySem.EqMixed.ne_str_bool (qO I q (by simp))
  | int j => obtain ⟨t', rfl⟩ := ry; exact PySem.EqMixed.ne_str_int (qO I q (by simp))
  | str j => obtain ⟨t', rfl⟩ := ry; exact ne_str (qO I q (congrArg not qd9))
  | _ => exact absurd (show false = true from hs) Bool.false_ne_true
 | byt i =>
  obtain ⟨t, rfl⟩ := rx
  cases y with
  | byt j => obtain ⟨t', rfl⟩ := ry; exact PySem.W.ne_bytes (qO I q (congrArg not qea))
  | _ => exact absurd (show false = true from hs) Bool.false_ne_true
 | _ => cases y <;> exact absurd (show false = true from hs) Bool.false_ne_true
theorem qjG : OpR X (compareOp .Lt) (rI0 fun i j => .bl (decide (i < j))) := qln fun _ _ _ _ _ _ _ q => lt_int q
theorem qjH : OpR X (compareOp .LtE) (rI0 fun i j => .bl (decide (i <= j))) := qln fun _ _ _ _ _ _ _ q => le_int q
theorem qeb : OpR X (compareOp .Gt) (rI0 fun i j => .bl (decide (j < i))) := qln fun _ _ _ _ _ _ _ q => gt_int q
theorem qhq : OpR X (compareOp .GtE) (rI0 fun i j => .bl (decide (j <= i))) := qln fun _ _ _ _ _ _ _ q => ge_int q
theorem qbq : OpR X (compareOp .Is) (fun x y H Q => y = .non /\ Q (.bl (decide (x = .non))) H) := by
 intro pins s σ H x y v u Q I rx ry h
 obtain ⟨rfl, q⟩ := h
 cases ry
 refine is_none_gen (qO I q ?_)
 cases x <;> first
  | (cases rx; rfl)
  | (obtain ⟨t, rfl⟩ := rx; rfl)
theorem qhr : OpR X (compareOp .IsNot) (fun x y H Q => y = .non /\ Q (.bl (!decide (x = .non))) H) := by
 intro pins s σ H x y v u Q I rx ry h
 obtain ⟨rfl, q⟩ := h
 cases ry
 refine isnot_none_gen (qO I q ?_)
 cases x <;> first
  | (cases rx; rfl)
  | (obtain ⟨t, rfl⟩ := rx; rfl)
theorem OpR.or {f : Value -> Value -> Sem Value} {r r' : R2} (h : OpR X f r) (h' : OpR X f r') : OpR X f (fun x y H Q => r x y H Q \/ r' x y H Q) := by
 intro pins s σ H x y v u Q I rx ry q
 rcases q with q | q
 ·exact h pins s σ H x y v u Q I rx ry q
 ·exact h' pins s σ H x y v u Q I rx ry q
theorem qK (b : Expr) {op : CmpOp} (h : op ≠ .In := by decide) (h2 : op ≠ .NotIn := by decide) : behindInMarks op b = false := by
 have e1 : (op == CmpOp.In) = false := by cases op <;> first | rfl | exact absurd rfl h
 have e2 : (op == CmpOp.NotIn) = false := by cases op <;> first | rfl | exact absurd rfl h2
 cases b <;> simp [behindInMarks, e1, e2]
theorem qhs {op : CmpOp} {r : R2} (ho : OpR X (compareOp op) r) (ha : PE X a ta) (hb : PE X b tb) (hm : behindInMarks op b = false) : PE X (.Compare a [op] [b] pos) (tOp r ta tb) := by
 intro pins s σ H Q I h
 exact wpAny_Compare1 (qlJ ha hb I h fun v u s2 x y H2 I2 rx ry q => ho pins s2 σ H2 x y v u Q I2 rx ry q) hm
def qlN (t : TE) : TT := fun σ H Q => t σ H fun x H' => ∃ k, x = .bl k /\ Q k H'
theorem qht {op : CmpOp} {r : R2} (ho : OpR X (compareOp op) r) (ha : PE X a ta) (hb : PE X b tb) (hm : behindInMarks op b = false) : PT X (.Compare a [op] [b] pos) (qlN (tOp r ta tb)) := by
 intro pins s σ H Q I h
 refine wpAny_isTrue_Compare1 (thn (ha pins s σ H _ I h) fun v s1 ⟨x, H1, I1, r1, q1⟩ => thn (hb pins s1 σ H1 _ I1 q1) fun u s2 ⟨y, H2, I2, r2, q2⟩ =>
  thn (ho pins s2 σ H2 x y v u _ I2 r1 r2 q2) fun c s3 ⟨z, H3, I3, r3, k, e, q3⟩ => ?_) hm
 subst e
 cases r3
 exact wpAny_truthy_bool ⟨H3, I3, q3⟩
theorem qbr : (sizeLine : Nat) < 2 ^ 63 := by rw [sizeLine_eq]; decide
theorem qdu : OpR X (binaryOp .Add) (fun x y H Q => ∃ i j, x = .str i /\ y = .str j /\ i.length + j.length <= sizeLine /\ Q (.str (i ++ j)) H) := by
 intro pins s σ H x y v u Q I rx ry h
 obtain ⟨i, j, rfl, rfl, hz, q⟩ := h
 obtain ⟨t, rfl⟩ := rx
 obtain ⟨t', rfl⟩ := ry
 exact add_str (fun t' tk => ⟨.str (i ++ j), H, I.tok _, ⟨_, rfl⟩, q⟩) hz
theorem qhu {x : V} {us : List Value} (r : qT [x] us) : ∃ u, us = [u] /\ zZ x u := by
 cases r with
 | cons r1 r2 => cases r2; exact ⟨_, rfl, r1⟩
theorem qhv {x y : V} {us : List Value} (r : qT [x, y] us) : ∃ u w', us = [u, w'] /\ zZ x u /\ zZ y w' := by
 cases r with
 | cons r1 r2 =>
  cases r2 with
  | cons r3 r4 => cases r4; exact ⟨_, _, rfl, r1, r3⟩
theorem qec (hc : X.calm = true) : yy X (.builtin "max") (fun xs H Q => ∃ i j, xs = [.int i, .int j] /\ Q (.int (if j > i then j else i)) H) := by
 intro pins s σ H xs us Q I r h
 obtain ⟨i, j, rfl, q⟩ := h
 obtain ⟨u, w', rfl, ⟨t, rfl⟩, ⟨t', rfl⟩⟩ := qhv r
 refine max_two_ints (I.ok.hd hc) fun h' tk k => ⟨_, H, I.kept k, ?_, q⟩
 by_cases hj : j > i
 ·rw [if_pos hj, if_pos hj]; exact ⟨_, rfl⟩
 ·rw [if_neg hj, if_neg hj]; exact ⟨_, rfl⟩
theorem qed (hc : X.calm = true) : yy X (.builtin "min") (fun xs H Q => ∃ i j, xs = [.int i, .int j] /\ Q (.int (if j < i then j else i)) H) := by
 intro pins s σ H xs us Q I r h
 obtain ⟨i, j, rfl, q⟩ := h
 obtain ⟨u, w', rfl, ⟨t, rfl⟩, ⟨t', rfl⟩⟩ := qhv r
 refine min_two_ints (I.ok.hd hc) fun h' tk k => ⟨_, H, I.kept k, ?_, q⟩
 by_cases hj : j < i
 ·rw [if_pos hj, if_pos hj]; exact ⟨_, rfl⟩
 ·rw [if_neg hj, if_neg hj]; exact ⟨_, rfl⟩
theorem qch : yy X (.builtin "divmod") (fun xs H Q => ∃ i j, xs = [.int i, .int j] /\ qjA i j /\ ∀ p, H p = none -> Q (.ref p) (upd H p (.tup [.int (i / j), .int (i % j)]))) := by
 intro pins s σ H xs us Q I r h
 obtain ⟨i, j, rfl, ⟨h1, h2⟩, q⟩ := h
 obtain ⟨u, w', rfl, ⟨t, rfl⟩, ⟨t', rfl⟩⟩ := qhv r
 refine divmod_int (by omega) ?_ (.inl (qmx h1 h2))
 rw [Int.fdiv_eq_ediv_of_nonneg i (by omega), Int.fmod_eq_emod_of_nonneg i (by omega)]
 have hn : H s.heap.objs.size = none := I.hok.fresh (Nat.le_refl _)
 refine ⟨.ref s.heap.objs.size, _, ?_, rfl, q _ hn⟩
 refine I.laid (fun b o e => Heap.get?_push_of_some _ e) (Nat.le_refl _) ⟨by simp only [lC_, lN_]; rw [sizeLine_eq]; decide, [.int (i / j) s.toks, .int (i % j) (s.toks + 1)], .cons ⟨_, rfl⟩ (.cons ⟨_, rfl⟩ .nil), ?_⟩
 exact ⟨_, Heap.get?_push_size s.heap rfl, rfl, 0, rfl⟩
end
end L2
namespace L2
open PySem PySem.Spec PyProof.Rows
structure qlO (h : Heap) (x dx C : Addr) (mA : Str -> Option Value) : Prop where
 obj : h.get? x = some (PySem.W.instObj C dx)
 ns : h.Ns1 dx mA
 ne : dx ≠ x
theorem qee {h : Heap} {dx : Addr} {mA : Str -> Option Value} (n : h.Ns1 dx mA) : ∃ od, h.get? dx = some od /\ ∀ name, PySem.W.lookIn name od = some (mA name) := by
 obtain ⟨o, es, ep, ho, hd, hk, _, hm⟩ := n
 refine ⟨o, ho, fun name => ?_⟩
 have e := hm name
 unfold nsFind findBy at e
 rw [<- Array.find?_toList] at e
 unfold PySem.W.lookIn
 rw [hd]
 dsimp only
 split
 ·rename_i y q
  rw [q] at e
  exact congrArg some e
 ·rename_i q
  rw [q] at e
  have a : es.toList.any (·.refKey) = false := by
   rw [List.any_eq_false]
   intro y hy
   obtain ⟨z, t, hkey⟩ := hk y (Array.mem_toList_iff.mp hy)
   simp [DictEntry.refKey, hkey]
  have a' : ¬ es.toList.any (·.refKey) = true := by rw [a]; exact Bool.false_ne_true
  rw [if_neg a']
  exact congrArg some e
theorem qlO.look {h : Heap} {x dx C : Addr} {mA : Str -> Option Value} (I : qlO h x dx C mA) : ∃ od, PySem.W.InstAt h x (PySem.W.instObj C dx) C (some od) /\ ∀ name, PySem.W.lookIn name od = some (mA name) :=
 let ⟨od, ho, hl⟩ := qee I.ns
 ⟨od, ⟨I.obj, rfl, rfl, ho⟩, hl⟩
section
variable {prog : Program} {w : World} {A : Around} {E : Value -> Shared -> Prop} {s : Shared} {K : PySem.W.Frag} {x dx C f : Addr} {mA : Str -> Option Value} {name : Str} {v : Value}
end
def qnd (f : Str) (v : V) : List (Str × V) -> List (Str × V)
 | [] => [(f, v)]
 | (g, x) :: r => if g = f then (g, v) :: r else (g, x) :: qnd f v r
section
variable {P : Program} {w : World} {H H' : Hp} {h h' : Heap} {a C dx : Addr} {fs fs' : List (Str × V)}
theorem qhw (hok : HOk P w H h) (e : H a = some (.ins C dx fs)) : ∃ mA, qlO h a dx C mA /\ (∀ f, qly (fs.lookup f) (mA f)) /\ PySem.Within mA (fs.map (·.1)) /\ fs.length <= 1000 /\ H dx = some (.own a) := by
 obtain ⟨d, z, ne, ob, mA, n, r, q⟩ := (show jX P w H h a (.ins C dx fs) from hok a _ e)
 exact ⟨mA, ⟨ob, n, ne⟩, r, q, z, d⟩
end
structure Cls (K : PySem.W.Frag) (C : Addr) : Prop where
 pg : PySem.W.plainGet K C Str.empty = true
 hd : PySem.W.hasDictIn K C = true
 po : PySem.W.plainOver K C = true
 sa : PySem.W.findIn K (.ref C) "__setattr__" = some (some (.builtin "object.__setattr__"))
theorem Cls.get {K : PySem.W.Frag} {C : Addr} (c : Cls K C) (f : Str) : PySem.W.plainGet K C f = true := c.pg
structure Con (K : PySem.W.Frag) (C : Addr) (f : Str) (v : V) (u : Value) : Prop where
 at_ : PySem.W.findIn K (.ref C) f = some (some u)
 rel : zZ v u
 get : PySem.W.specialIn K u "__get__" = some none
 cp : PySem.W.copiedNames.contains f = false
structure qnC (K : PySem.W.Frag) (C : Addr) (m : Str) (f : Addr) : Prop where
 at_ : PySem.W.findIn K (.ref C) m = some (some (.ref f))
 fn : PySem.W.isFn K (.ref f) = true
 kp : PySem.W.keepIn K (.ref f) = true
section
variable {X : Cx} {pins : List (Addr × Obj)} {σ : St} {H : Hp} {s : Shared} {a C dx : Addr} {fs : List (Str × V)} {f : Str} {v : V} {A : Around} {E : Value -> Shared -> Prop}
end
section
variable {X : Cx} {o e value : Expr} {f : Str} {pos pos' tpos : Pos} {ta tv : TE}
end
section
variable {X : Cx} {pins : List (Addr × Obj)} {σ : St} {H : Hp} {s : Shared} {A : Around} {E : Value -> Shared -> Prop} {Q : Value -> Shared -> Prop} {c : Value} {b : Bool}
inductive qd1 (K : PySem.W.Frag) (H : Hp) : V -> Value -> Prop where
 | non : qd1 K H .non (.type "NoneType")
 | bl (x : Bool) : qd1 K H (.bl x) (.type "bool")
 | int (i : Int) : qd1 K H (.int i) (.type "int")
 | str (x : Str) : qd1 K H (.str x) (.type "str")
 | flt (x : UInt64) : qd1 K H (.flt x) (.type "float")
 | lst {a : Addr} {xs : List V} (e : H a = some (.lst xs)) : qd1 K H (.ref a) (.type "list")
 | frz {a : Addr} {o : Obj} {xs : List V} (e : H a = some (.frz o (.lst xs))) : qd1 K H (.ref a) (.type "list")
 | tup {a : Addr} {xs : List V} (e : H a = some (.tup xs)) : qd1 K H (.ref a) (.type "tuple")
 | dK {a : Addr} {kvs : List (Key × V)} (e : H a = some (.dK kvs)) : qd1 K H (.ref a) (.type "dict")
 | dT {a : Addr} {kvs : List (List Key × V)} (e : H a = some (.dT kvs)) : qd1 K H (.ref a) (.type "dict")
 | ins {a C dx : Addr} {fs : List (Str × V)} (e : H a = some (.ins C dx fs)) (cl : Cls K C) (ha : PySem.W.findIn K (.ref C) "__class__" = some (some (.builtin "object.__class__")))
   (hn : PySem.W.specialIn K (.builtin "object.__class__") "__get__" = some (some (.builtin "getset_descriptor.__get__"))) (htk : PySem.W.takesIn K (.builtin "object.__class__") = some true)
   (hm : PySem.W.mroIn K C (.type "object") = some true) : qd1 K H (.ref a) (.ref C)
theorem yI {x : V} {u t : Value} (I : Inv X pins σ H s) (rx : zZ x u) (ty : qd1 X.K H x t) (e : PySem.W.kitOne X.K t c = some b) (h : ∀ tk, Q (.bool b) { s with toks := tk }) :
  wpAny (model X.prog X.w) A (call (.builtin "isinstance") [u, c]) Q E s := by
 cases ty with
 | non => cases (show u = Value.none from rx); exact PySem.W.kia_one PySem.W.kitx_none I.kIn True.intro e (fun z => nomatch z) h
 | bl y => cases (show u = Value.bool y from rx); exact PySem.W.kia_one PySem.W.kitx_bool I.kIn True.intro e (fun z => nomatch z) h
 | int i => obtain ⟨t, q⟩ := (show ∃ t, u = Value.int i t from rx); cases q; exact PySem.W.kia_one PySem.W.kitx_int I.kIn True.intro e (fun z => nomatch z) h
 | str y => obtain ⟨t, q⟩ := (show ∃ t, u = Value.str y t from rx); cases q; exact PySem.W.kia_one PySem.W.kitx_str I.kIn True.intro e (fun z => nomatch z) h
 | flt y => obtain ⟨t, q⟩ := (show ∃ t, u = Value.float y t from rx); cases q; exact PySem.W.kia_one PySem.W.kitx_float I.kIn True.intro e (fun z => nomatch z) h
 | @lst a xs ea =>
  cases (show u = Value.ref a from rx)
  obtain ⟨_, _, n, _, h1⟩ := (show jX X.prog X.w H s.heap a (.lst xs) from I.hok a _ ea)
  exact PySem.W.kia_one PySem.W.kitx_list I.kIn ⟨_, h1, rfl⟩ e (fun z => nomatch z) h
 | @frz a ob xs ea =>
  cases (show u = Value.ref a from rx)
  obtain ⟨_, _, _, n, _, h1⟩ := (show jX X.prog X.w H s.heap a (.frz ob (.lst xs)) from I.hok a _ ea)
  exact PySem.W.kia_one PySem.W.kitx_list I.kIn ⟨_, h1, rfl⟩ e (fun z => nomatch z) h
 | @tup a xs ea =>
  cases (show u = Value.ref a from rx)
  obtain ⟨_, _, _, p⟩ := (show jX X.prog X.w H s.heap a (.tup xs) from I.hok a _ ea)
  obtain ⟨o, h1, h2, _⟩ := p
  exact PySem.W.kia_one PySem.W.kitx_tuple I.kIn ⟨o, h1, h2⟩ e (fun z => nomatch z) h
 | @dK a kvs ea =>
  cases (show u = Value.ref a from rx)
  obtain ⟨_, _, vs, _, p⟩ := (show jX X.prog X.w H s.heap a (.dK kvs) from I.hok a _ ea)
  obtain ⟨o, es, ep, h1, h2, _⟩ := p
  exact PySem.W.kia_one PySem.W.kitx_dict I.kIn ⟨o, h1, h2.1⟩ e (fun z => nomatch z) h
 | @dT a kvs ea =>
  cases (show u = Value.ref a from rx)
  obtain ⟨_, _, xs, _, o, es, ep, h1, h2, _⟩ := (show jX X.prog X.w H s.heap a (.dT kvs) from I.hok a _ ea)
  exact PySem.W.kia_one PySem.W.kitx_dict I.kIn ⟨o, h1, h2.1⟩ e (fun z => nomatch z) h
 | @ins a C dx fs ea cl ha hn htk hm =>
  cases (show u = Value.ref a from rx)
  obtain ⟨mA, O, _⟩ := qhw I.hok ea
  obtain ⟨od, J, _⟩ := O.look
  exact PySem.W.kia_one (PySem.W.kitx_own (cl.get _) cl.hd ha hn htk hm) I.kIn J e (fun z => nomatch z) h
end
end L2
namespace L2
open PySem PySem.Spec PyProof.Rows
structure yH (k : Nat) (A : Around) : Prop where
 hd : A.handled = none
 dp : A.depth + 3 * k + 5 < recursionLimit
 un : A.units + 16 * k + 200 < cLine
 gd : A.guards = some []
theorem yH.mono {j k : Nat} {A : Around} (r : yH k A) (h : j <= k) : yH j A := ⟨r.hd, by have := r.dp; omega, by have := r.un; omega, r.gd⟩
theorem yH.deeper {k : Nat} {A : Around} (r : yH (k + 1) A) (env : Env) : yH k (A.deeper env) :=
 ⟨r.hd, by have := r.dp; show A.depth + 1 + 3 * k + 5 < _; omega, by have := r.un; show A.units + 3 + 16 * k + 200 < _; omega, r.gd⟩
theorem yH.depth {k : Nat} {A : Around} (r : yH k A) : A.depth < recursionLimit := by have := r.dp; omega
theorem yH.units {k : Nat} {A : Around} (r : yH k A) : A.units + 64 < cLine := by have := r.un; omega
def qlP : TA := fun _ H Q => Q [] H
def qfR (ta : TE) (tr : TA) : TA := fun σ H Q => ta σ H fun x H1 => tr σ H1 fun xs H2 => Q (x :: xs) H2
section
variable {X : Cx} {e : Expr} {es : List Expr} {te : TE} {t : TA} {pos : Pos}
theorem vS : PA X [] qlP := fun _ _ _ _ H Q I h => Calls.spliced_nil ⟨[], H, I, .nil, h⟩
theorem jQ (ha : PE X e te) (hr : PA X es t) (hs : starEach (e :: es) X.env = (false, eval e X.env) :: starEach es X.env := by rfl) : PA X (e :: es) (qfR te t) := by
 intro pos pins s σ H Q I h
 rw [hs]
 show wpAny _ _ (spliced ((false, eval e X.env) :: backTo pos (starEach es X.env))) _ _ s
 refine Calls.spliced_cons (thn (ha pins s σ H _ I h) fun u s1 ⟨x, H1, I1, r1, q1⟩ => ?_)
 exact thn (hr pos pins s1 σ H1 _ I1 q1) fun us s2 ⟨xs, H2, I2, r2, q2⟩ => ⟨x :: xs, H2, I2, .cons r1 r2, q2⟩
def qne (t : TA) : TE := fun σ H Q => t σ H fun xs H1 => xs.length <= sizeLine /\ ∀ p, H1 p = none -> Q (.ref p) (upd H1 p (.tup xs))
def qnf (t : TA) : TE := fun σ H Q => t σ H fun xs H1 => xs.length <= sizeLine /\ ∀ p, H1 p = none -> Q (.ref p) (upd H1 p (.lst xs))
theorem qjI {x1} (h : PA X es t) : PE X (.Tuple es x1 pos) (qne t) := by
 intro pins s σ H Q I hq
 refine wpAny_Tuple_spliced (thn (h pos pins s σ H _ I hq) fun us s1 ⟨xs, H1, I1, r, z, q⟩ => ⟨by rw [<- r.length]; exact z, ?_⟩)
 have hf : H1 s1.heap.objs.size = none := I1.hok.fresh (Nat.le_refl _)
 refine ⟨.ref s1.heap.objs.size, upd H1 s1.heap.objs.size (.tup xs), I1.laid (t' := s1.toks) (fun b u e => Heap.get?_push_of_some _ e) (Nat.le_refl _) ?_, rfl, q _ hf⟩
 exact ⟨z, us, r, ⟨_, Heap.get?_push_size _ rfl, rfl, _, rfl⟩⟩
theorem qgL (h : PA X es t) : PE X (.List es pos) (qnf t) := by
 intro pins s σ H Q I hq
 refine wpAny_List_spliced (thn (h pos pins s σ H _ I hq) fun us s1 ⟨xs, H1, I1, r, z, q⟩ => ⟨by rw [<- r.length]; exact z, ?_⟩)
 have hf : H1 s1.heap.objs.size = none := I1.hok.fresh (Nat.le_refl _)
 refine ⟨.ref s1.heap.objs.size, upd H1 s1.heap.objs.size (.lst xs), I1.laid (t' := s1.toks) (fun b u e => Heap.get?_push_of_some _ e) (Nat.le_refl _) ?_, rfl, q _ hf⟩
 exact ⟨z, us, 0, r, Heap.get?_push_size _ rfl⟩
end
abbrev Sp := List V -> Hp -> VK -> XK -> Prop
abbrev CXT := List Env -> Hp -> Shared -> XK -> Value -> Shared -> Prop
structure qi4 (P : Program) (w : World) (K : PySem.W.Frag) (mg : Str -> Option Value) (base : Heap) (A : Around) (outer : List Env) (s : Shared) (H : Hp) : Prop where
 frames : A.frames = some outer
 mod : Mod K mg base
 bs : ∀ b o, base.get? b = some o -> s.heap.get? b = some o /\ H b = none
 bsz : base.objs.size <= s.heap.objs.size
 funs : s.heap.FunFrames base outer
 frf : ∀ b ∈ frs outer, H b = none
 hok : HOk P w H s.heap
 bare : AllBare s.gens
def CE (outer : List Env) (P : Program) (w : World) (H : Hp) (s : Shared) (Q : VK) (u : Value) (s' : Shared) : Prop :=
 ∃ v H', s'.os = s.os /\ AllBare s'.gens /\ Un (frs outer) [] H H' s.heap s'.heap /\ HOk P w H' s'.heap /\ zZ v u /\ Q v H'
def CR (CX : CXT) (outer : List Env) (P : Program) (w : World) (H : Hp) (s : Shared) (Q : VK) (E : XK) (r : Result) (s' : Shared) : Prop :=
 match r with
 | .ok (.ret u) => CE outer P w H s Q u s'
 | .ok _ => False
 | .error e => CX outer H s E e s'
structure ub (P : Program) (w : World) (K : PySem.W.Frag) (mg : Str -> Option Value) (base : Heap) (CX : CXT) (k : Nat) (f : Addr) (fd : FuncData) (ps : List Str) (sp : Sp) : Prop where
 len : ∀ vs H Q E, sp vs H Q E -> vs.length = ps.length
 run : ∀ (A : Around) (outer : List Env) (s : Shared) (H : Hp) (args : Args) (us : List Value) (vs : List V) (Q : VK) (E : XK), yH k A -> qi4 P w K mg base A outer s H -> BindsTo s fd args (ps.zip us) -> qT vs us -> sp vs H Q E ->
  codeAny (model P w) A (.call (.ref f) args) (CR CX outer P w H s Q E) s
section
variable {X : Cx} {pins : List (Addr × Obj)} {σ : St} {H : Hp} {s s' : Shared}
theorem Inv.env0 (I : Inv X pins σ H s) : qi4 X.prog X.w X.K X.mg X.base X.A X.stack s H :=
 ⟨I.ok.frames, I.ok.mod, I.bs, Nat.le_trans I.ok.bsz I.sz, I.stack, I.stkFree, I.hok, I.bare⟩
theorem Inv.after {Q : VK} {u : Value} (I : Inv X pins σ H s) (h : CE X.stack X.prog X.w H s Q u s') : EP X pins σ Q u s' := by
 obtain ⟨v, H', os, bare, un, hok, r, q⟩ := h
 obtain ⟨hh, g, d, t, os'⟩ := s'
 obtain rfl : os' = s.os := os
 exact ⟨v, H', I.call (h' := hh) (g' := g) (d' := d) (t' := t) (ch := []) un hok bare (fun b z => absurd z (by simp)), r, q⟩
end
def qlQ (sp : Sp) (dvs : List V) (E : XK) (t : TA) : TE := fun σ H Q => t σ H fun vs H1 => sp (vs ++ dvs) H1 Q E
def uc (K : PySem.W.Frag) (fd : FuncData) (ps : List Str) (ds : List Value) : Prop :=
 ∀ (s : Shared) (us : List Value), K.In s.heap -> (us ++ ds).length = ps.length -> BindsTo s fd ⟨us, []⟩ (ps.zip (us ++ ds))
theorem uc.all {K : PySem.W.Frag} {fd : FuncData} {ps : List Str} (h : ∀ us : List Value, us.length = ps.length -> bindArgs fd ⟨us, []⟩ = pure (ps.zip us)) : uc K fd ps [] := fun s us _ hl => by
 rw [List.append_nil] at hl |-
 exact .of_eq (h us hl)
def wC (CX : CXT) (X : Cx) (E : XK) : Prop := ∀ (pins : List (Addr × Obj)) (σ : St) (H : Hp) (s : Shared) (e : Value) (s' : Shared), Inv X pins σ H s -> CX X.stack H s E e s' -> X.xe e s'
section
variable {X : Cx} {CX : CXT} {k : Nat} {f C : Addr} {fd : FuncData} {ps : List Str} {sp : Sp} {dvs : List V} {ds : List Value} {E : XK} {x m : Str} {p pos apos : Pos} {e o : Expr} {es : List Expr} {ta : TE} {t : TA}
theorem qjJ {pins : List (Addr × Obj)} {σ : St} {H : Hp} {s : Shared} {Q : VK} {us : List Value} {vs : List V} (F : ub X.prog X.w X.K X.mg X.base CX k f fd ps sp) (hr : yH k X.A) (hb : uc X.K fd ps ds) (hd : qT dvs ds) (hx : wC CX X E)
  (I : Inv X pins σ H s) (r : qT vs us) (h : sp (vs ++ dvs) H Q E) : wpAny (model X.prog X.w) X.A (call (.ref f) us) (EP X pins σ Q) X.xe s := by
 have r2 : qT (vs ++ dvs) (us ++ ds) := r.append hd
 have hl : (us ++ ds).length = ps.length := by rw [<- r2.length]; exact F.len _ _ _ _ h
 refine wpAny_call (codeAny_mono (F.run X.A X.stack s H ⟨us, []⟩ (us ++ ds) (vs ++ dvs) Q E hr I.env0 (hb s us I.kIn hl) r2 h) fun r s' hq => ?_)
 cases r with
 | error e => exact hx pins σ H s e s' I hq
 | ok fl =>
  cases fl with
  | ret u => exact I.after hq
  | next => exact False.elim hq
  | brk => exact False.elim hq
  | cont => exact False.elim hq
theorem wD (F : ub X.prog X.w X.K X.mg X.base CX k f fd ps sp) (hr : yH k X.A) (hg : Gl X x) (hm : X.mg x = some (.ref f)) (hk : PySem.W.keepIn X.K (.ref f) = true) (hb : uc X.K fd ps ds) (hd : qT dvs ds) (hx : wC CX X E)
  (ha : PA X (e :: es) t) (hdb : (x == ("__debug__" : Str)) = false := by decide) (he : starEach (e :: es) X.env = (false, eval e X.env) :: starEach es X.env := by rfl) (hpl : (backTo pos (starEach es X.env)).any (·.1) = false := by rfl) :
  PE X (.Call (.Name x p) (e :: es) [] pos) (qlQ sp dvs E t) := by
 intro pins s σ H Q I h
 refine wpAny_Call_Name_kw (wy I hg hm ?_ hdb)
 refine PySem.W.callWith_K (h₀ := X.base) I.ok.mod.kin hk (thn (ha pos pins s σ H _ I h) fun us s1 ⟨vs, H1, I1, r, q⟩ => ⟨I1.kIn, ?_⟩) he hpl
 exact qjJ F hr hb hd hx I1 r q
structure Mk (K : PySem.W.Frag) (C f : Addr) : Prop where
 makes : PySem.W.makesIn K C = true
 init : PySem.W.findIn K (.ref C) "__init__" = some (some (.ref f))
 fn : PySem.W.isFn K (.ref f) = true
 kp : PySem.W.keepIn K (.ref C) = true
end
def PK (X : Cx) (kws : List Keyword) (t : TA) : Prop :=
 ∀ (pos : Pos) (pins : List (Addr × Obj)) (s : Shared) (σ : St) (H : Hp) (Q : List V -> Hp -> Prop), Inv X pins σ H s -> t σ H Q -> wpAny (model X.prog X.w) X.A (evalAll ((backToKw pos (keywordEach kws X.env)).map (·.2))) (AP X pins σ Q) X.xe s
section
variable {X : Cx} {CX : CXT} {k : Nat} {f C : Addr} {fd : FuncData} {ps ks : List Str} {sp : Sp} {E : XK} {x m : Str} {p pos apos kpos : Pos} {e o : Expr} {es : List Expr} {kws : List Keyword} {te ta : TE} {t tk : TA} {nm : Option Str}
theorem qjK : PK X [] qlP := fun _ _ _ _ H Q I h => wpAny_evalAll_nil ⟨[], H, I, .nil, h⟩
theorem qhx (ha : PE X e te) (hr : PK X kws t) : PK X (⟨nm, e, kpos⟩ :: kws) (qfR te t) := by
 intro pos pins s σ H Q I h
 show wpAny _ _ (evalAll ((do let v <- eval e X.env; standAt pos; pure v) :: (backToKw pos (keywordEach kws X.env)).map (·.2))) _ _ s
 refine wpAny_evalAll_cons (wpAny_bind (thn (ha pins s σ H _ I h) fun u s1 ⟨x, H1, I1, r1, q1⟩ => wpAny_bind (wpAny_standAt (wpAny_pure ?_))))
 exact thn (hr pos pins s1 σ H1 _ I1 q1) fun us s2 ⟨xs, H2, I2, r2, q2⟩ => ⟨x :: xs, H2, I2, .cons r1 r2, q2⟩
variable {g : List Value -> List Value -> List Value} {gV : List V -> List V -> List V}
end
structure qp (N P : List Str) (sc : Scope) : Prop where
 kind : sc.kind = .function
 co : sc.isCoroutine = false
 gen : sc.isGenerator = false
 nd : N.Nodup
 pre : N.take P.length = P
 par : ∀ x ∈ P, sc.names.lookup x = some .local \/ sc.names.lookup x = some .cell
 nofree : ∀ y ∈ sc.names, y.2 ≠ .free
theorem qbs {kindOf : Str -> Option NameKind} {x : Str} : ∀ {binds : List (Str × Value)} {m : Str -> Option Value}, (∀ v, (x, v) ∉ binds) -> bindL kindOf binds m x = m x
 | [], _, _ => rfl
 | (n, v) :: r, m, h => by
  unfold bindL
  rw [qbs fun w hw => h w (mM _ hw)]
  split
  ·have : x ≠ n := by rintro rfl; exact h v mS_
   simp [this]
  ·rfl
theorem qbt {kindOf : Str -> Option NameKind} {x : Str} : ∀ {binds : List (Str × Value)} {m : Str -> Option Value}, (∀ v, (x, v) ∉ binds) -> bindC kindOf binds m x = m x
 | [], _, _ => rfl
 | (n, v) :: r, m, h => by
  unfold bindC
  rw [qbt fun w hw => h w (mM _ hw)]
  split
  ·rfl
  ·have : x ≠ n := by rintro rfl; exact h v mS_
   simp [this]
theorem wE {kindOf : Str -> Option NameKind} {x : Str} {v : Value} : ∀ {P : List Str} {vs : List Value} {i : Nat} {m : Str -> Option Value}, P.Nodup -> P[i]? = some x -> vs[i]? = some v -> kindOf x = some .local ->
  bindL kindOf (P.zip vs) m x = some v
 | [], _, _, _, _, h, _, _ => by simp at h
 | _ :: _, [], _, _, _, _, h, _ => by simp at h
 | p :: P, w :: vs, 0, m, nd, h1, h2, hk => by
  simp at h1 h2; subst h1; subst h2
  show bindL kindOf ((p, w) :: P.zip vs) m p = _
  unfold bindL
  rw [qbs fun v hv => (List.nodup_cons.mp nd).1 (List.of_mem_zip hv).1, if_pos hk]
  simp
 | p :: P, w :: vs, i + 1, m, nd, h1, h2, hk => by
  show bindL kindOf ((p, w) :: P.zip vs) m x = _
  unfold bindL
  exact wE (i := i) (List.nodup_cons.mp nd).2 (by simpa using h1) (by simpa using h2) hk
theorem wF {kindOf : Str -> Option NameKind} {x : Str} {v : Value} : ∀ {P : List Str} {vs : List Value} {i : Nat} {m : Str -> Option Value}, P.Nodup -> P[i]? = some x -> vs[i]? = some v -> kindOf x ≠ some .local ->
  bindC kindOf (P.zip vs) m x = some v
 | [], _, _, _, _, h, _, _ => by simp at h
 | _ :: _, [], _, _, _, _, h, _ => by simp at h
 | p :: P, w :: vs, 0, m, nd, h1, h2, hk => by
  simp at h1 h2; subst h1; subst h2
  show bindC kindOf ((p, w) :: P.zip vs) m p = _
  unfold bindC
  rw [qbt fun v hv => (List.nodup_cons.mp nd).1 (List.of_mem_zip hv).1, if_neg hk]
  simp
 | p :: P, w :: vs, i + 1, m, nd, h1, h2, hk => by
  show bindC kindOf ((p, w) :: P.zip vs) m x = _
  unfold bindC
  exact wF (i := i) (List.nodup_cons.mp nd).2 (by simpa using h1) (by simpa using h2) hk
def qU (N : List Str) (vs : List V) : St := vs.map some ++ List.replicate (N.length - vs.length) none
def qef (CX : CXT) (P : Program) (w : World) (K : PySem.W.Frag) (mg : Str -> Option Value) (base : Heap) (N : List Str) (qual : Str) (scope : Scope) (f : Addr) (cd : Value) (A : Around) (outer : List Env) (s : Shared) (H : Hp) (E : XK) : Cx where
 prog := P
 w := w
 K := K
 mg := mg
 base := base
 A := A.deeper (envOfC qual scope s.heap.objs.size f cd)
 N := N
 s₀ := s
 H₀ := H
 env := envOfC qual scope s.heap.objs.size f cd
 outer := outer
 stack := envOfC qual scope s.heap.objs.size f cd :: outer
 ex := []
 calm := true
 fn := fun _ => true
 pn := []
 xe := fun e s' => wpAny (model P w) (A.deeper (envOfC qual scope s.heap.objs.size f cd)) (leaving (envOfC qual scope s.heap.objs.size f cd) e) (fun _ s'' => CX outer H s E e s'') (fun e' s'' => CX outer H s E e' s'') s'
theorem wm {sc : Scope} {n : Nat} {x : Str} (h : sc.names.lookup x = some .cell) : ∃ c, (cellsFrom n sc.names []).lookup x = some c := by
 have q := PySem.W.cellsFrom_some sc.names n [] (.inl h)
 exact Option.isSome_iff_exists.mp q
theorem qeg {CX : CXT} {P : Program} {w : World} {K : PySem.W.Frag} {mg : Str -> Option Value} {base : Heap} {N ps : List Str} {qual : Str} {scope : Scope} {f : Addr} {cd : Value} {A : Around} {outer : List Env} {s s1 : Shared} {H : Hp} {E : XK} {us : List Value} {vs : List V}
  (S : qp N ps scope) (hd : A.handled = none) (e0 : qi4 P w K mg base A outer s H) (hl : vs.length = ps.length) (r : qT vs us)
  (x : InCallC s s.heap.objs.size (bindL (envOfC qual scope s.heap.objs.size f cd).kindOf (ps.zip us) fun _ => none) (cellsFrom (s.heap.objs.size + 1) scope.names []) (bindC (envOfC qual scope s.heap.objs.size f cd).kindOf (ps.zip us) fun _ => none) s1) :
  Inv (qef CX P w K mg base N qual scope f cd A outer s H E) [] (qU N vs) H s1 := by
 have hpl : ps.length <= N.length := by have := congrArg List.length S.pre; rw [List.length_take] at this; omega
 obtain ⟨h1, tk, rfl, hk⟩ := x.done
 have noA : ∀ b : Addr, b ∉ (qef CX P w K mg base N qual scope f cd A outer s H E).ex := fun b z => absurd (show b ∈ ([] : List Addr) from z) (by simp)
 refine ⟨⟨e0.mod, S.kind, rfl, rfl, Nat.le_refl _, fun y z c h1 h2 => ?_, fun y hy => ?_, fun y c _ h => ?_, fun _ => hd, Around.frames_deeper e0.frames, .inr ⟨rfl, rfl⟩, fun b z => absurd z (noA b), e0.bs, e0.bsz, fun b _ _ => noA b, fun b z => absurd z (noA b), e0.funs, e0.frf⟩,
  rfl, e0.bare, Un.kept hk, ⟨_, x.toInCall.ns, fun i y v h1 h2 h3 => ?_⟩, fun y c h => ⟨_, x.cell y c h⟩, e0.hok.fresh (Nat.le_refl _), fun y c h => ?_, fun p hp => absurd (show p ∈ ([] : List (Addr × Obj)) from hp) (by simp), e0.hok.kept hk, ?_⟩
 ·exact name_of_addr x.apart (PySem.mem_of_lookup h1) (PySem.mem_of_lookup h2)
 ·have hy : scope.names.lookup y = some .cell \/ scope.names.lookup y = some .free := hy
  rcases hy with hy | hy
  ·exact wm hy
  ·exact absurd rfl (S.nofree _ (PySem.mem_of_lookup hy))
 ·exact Nat.le_of_lt (x.above y c (PySem.mem_of_lookup h))
 ·have hi : i < vs.length := by
   unfold qU at h2
   by_cases hi : i < vs.length
   ·exact hi
   ·rw [List.getElem?_append_right (by simpa using hi)] at h2
    rw [List.getElem?_replicate] at h2
    split at h2 <;> cases h2
  have ha : vs[i]? = some v := by
   unfold qU at h2
   rw [List.getElem?_append_left (by simpa using hi), gM_] at h2
   cases e : vs[i]? with
   | none => rw [e] at h2; cases h2
   | some a => rw [e] at h2; cases h2; rfl
  obtain ⟨u, hu, rv⟩ := r.get ha
  have hp : ps[i]? = some y := by
   rw [<- S.pre, List.getElem?_take_of_lt (by omega)]; exact h1
  have ndP : ps.Nodup := by rw [<- S.pre]; exact S.nd.sublist (List.take_sublist _ _)
  refine ⟨u, rv, ?_⟩
  rcases S.par y (List.mem_of_getElem? hp) with k | k
  ·exact .inl ⟨k, wE ndP hp hu k⟩
  ·obtain ⟨c, e⟩ := wm (n := s.heap.objs.size + 1) k
   refine .inr ⟨.inl k, c, e, ?_⟩
   have q := x.cell y c e
   rw [wF ndP hp hu (by show scope.names.lookup y ≠ _; rw [k]; decide)] at q
   exact q
 ·exact e0.hok.fresh (Nat.le_of_lt (x.above y c (PySem.mem_of_lookup h)))
 ·unfold qU
  show _ = N.length
  rw [lA_, lM_, List.length_replicate]
  omega
theorem qhy {CX : CXT} {P : Program} {w : World} {K : PySem.W.Frag} {mg : Str -> Option Value} {base : Heap} {k : Nat} {f : Addr} {name qual : Str} {params : Arguments} {body : List Stmt} {scope : Scope} {dV kV doc pm cdv ct oc : Value} {an od : Option Addr}
  {osl : Array (Option Value)} {N ps : List Str} {sp : Sp} (lk : K.lookup f = some ⟨oc, od, .func (PySem.W.fnOf name qual params body scope dV kV doc pm an cdv ct), osl⟩) (hcd : PySem.W.codeIn K cdv qual = true) (S : qp N ps scope)
  (len : ∀ vs H Q E, sp vs H Q E -> vs.length = ps.length)
  (hbody : ∀ (A : Around) (outer : List Env) (s : Shared) (H : Hp) (vs : List V) (Q : VK) (E : XK), yH k (A.deeper (envOfC qual scope s.heap.objs.size f cdv)) -> sp vs H Q E ->
   ∃ t, PSs (qef CX P w K mg base N qual scope f cdv A outer s H E) body t /\ t { nx := fun _ H' => Q .non H', rt := Q } (qU N vs) H) :
  ub P w K mg base CX (k + 1) f (PySem.W.fnOf name qual params body scope dV kV doc pm an cdv ct) ps sp := by
 refine ⟨len, fun A outer s H args us vs Q E hr e0 hb r hsp => ?_⟩
 have hl := len _ _ _ _ hsp
 have KX : K.In s.heap := e0.mod.kin.keeps fun b o e => (e0.bs b o e).1
 have lim : s.heap.NoLimit := e0.mod.nolimit.keeps fun b o e => (e0.bs b o e).1
 have hkind : ∀ y ∈ ps.zip us, scope.names.lookup y.1 = some .local \/ (scope.names.lookup y.1 = some .cell /\ ((cellsFrom (s.heap.objs.size + 1) scope.names []).lookup y.1).isSome = true) := fun ⟨n, v⟩ hy => by
  rcases S.par n (List.of_mem_zip hy).1 with q | q
  ·exact .inl q
  ·exact .inr ⟨q, PySem.W.cellsFrom_some _ _ _ (.inl q)⟩
 refine codeAny_call_function hr.depth (KX _ _ lk) rfl S.co S.gen rfl (PySem.W.codeRec_of KX hcd) (hb _ _ _ _ ?_)
 refine wpAny_newFunctionEnv_cells S.kind hkind fun env he s1 x => ?_
 subst he
 refine ⟨lim.keeps x.toInCall.keep, codeAny_func ?_⟩
 obtain ⟨t, ht, hq⟩ := hbody A outer s H vs Q E (hr.deeper _) hsp
 have I : Inv (qef CX P w K mg base N qual scope f cdv A outer s H E) [] (qU N vs) H s1 := qeg S hr.hd e0 hl r x
 refine wpAny_mono (ht [] s1 (qU N vs) H _ I hq) (fun fl s' hs => ?_) fun e s' hs => hs
 have fin : ∀ {σ' : St} {H' : Hp} {v : V} {u : Value}, Inv (qef CX P w K mg base N qual scope f cdv A outer s H E) [] σ' H' s' -> zZ v u -> Q v H' -> CE outer P w H s Q u s' :=
  fun {σ' H' v u} J rv q => ⟨v, H', J.os, J.bare, J.base, J.hok, rv, q⟩
 cases fl with
 | ret u =>
  obtain ⟨v, σ', H', J, rv, q⟩ := hs
  exact fin J rv q
 | next =>
  obtain ⟨σ', H', J, q⟩ := hs
  exact fin (v := V.non) (u := Value.none) J rfl q
 | brk =>
  obtain ⟨_, _, _, q⟩ := hs
  exact False.elim q
 | cont =>
  obtain ⟨_, _, _, q⟩ := hs
  exact False.elim q
end L2
namespace L2
open PySem PySem.Spec PyProof.Rows
section
variable {X : Cx} {x : Str} {p pos : Pos} {e : Expr} {es : List Expr} {t : TA} {id T : String} {r : List V -> Hp -> VK -> Prop}
def tCB (r : List V -> Hp -> VK -> Prop) (t : TA) : TE := fun σ H Q => t σ H fun vs H1 => r vs H1 Q
theorem wn (hc : yy X (.builtin id) r) (hg : Gl X x) (hm : X.mg x = none) (hv : bootBuiltins x = some (.builtin id)) (ha : PA X (e :: es) t) (hn : x ≠ "__name__" := by decide) (hdb : (x == ("__debug__" : Str)) = false := by decide)
  (he : starEach (e :: es) X.env = (false, eval e X.env) :: starEach es X.env := by rfl) (hpl : (backTo pos (starEach es X.env)).any (·.1) = false := by rfl) : PE X (.Call (.Name x p) (e :: es) [] pos) (tCB r t) := by
 intro pins s σ H Q I h
 refine wpAny_Call_Name_kw (vR I hg hm hv ?_ hn hdb)
 exact PyProof.Rows.callWith_builtin1 (thn (ha pos pins s σ H _ I h) fun us s1 ⟨vs, H1, I1, r1, q1⟩ => hc pins s1 σ H1 vs us Q I1 r1 q1) he hpl
theorem qbu (hc : yy X (.type T) r) (hg : Gl X x) (hm : X.mg x = none) (hv : bootBuiltins x = some (.type T)) (ha : PA X (e :: es) t) (hn : x ≠ "__name__" := by decide) (hdb : (x == ("__debug__" : Str)) = false := by decide)
  (he : starEach (e :: es) X.env = (false, eval e X.env) :: starEach es X.env := by rfl) (hpl : (backTo pos (starEach es X.env)).any (·.1) = false := by rfl) : PE X (.Call (.Name x p) (e :: es) [] pos) (tCB r t) := by
 intro pins s σ H Q I h
 refine wpAny_Call_Name_kw (vR I hg hm hv ?_ hn hdb)
 exact PyProof.Rows.callWith_type1 (thn (ha pos pins s σ H _ I h) fun us s1 ⟨vs, H1, I1, r1, q1⟩ => hc pins s1 σ H1 vs us Q I1 r1 q1) he hpl
end
end L2
namespace HT
open PySem PyProof.Rows
def lexLt : List Int -> List Int -> Bool
 | [], [] => false
 | [], _ :: _ => true
 | _ :: _, [] => false
 | x :: xs, y :: ys => if x = y then lexLt xs ys else decide (x < y)
section
open PySem.SeqAt
open PySem.AutoSeq1 (wpAny_loadPart')
open PySem.MeetsSeq PySem.MeetsSeq2 PySem.MeetsSeq3
end
section
variable {prog : Program} {w : World} {A : Around} {E : Value -> Shared -> Prop} {s : Shared}
theorem cat_tup {t b : Addr} {vs ws : List Value} {Q : Value -> Shared -> Prop} (ht : IsTup s.heap t vs.toArray) (hb : IsTup s.heap b ws.toArray) (hv : vs ≠ [])
  (h1 : ws = [] -> Q (.ref t) s) (h2 : ws ≠ [] -> Q (.ref s.heap.objs.size) { s with heap := s.heap.push { cls := .type "tuple", data := .seq (vs ++ ws).toArray } })
  (hsz : vs.length + ws.length <= sizeLine) : wpAny (model prog w) A (binaryOp .Add (.ref t) (.ref b)) Q E s := by
 obtain ⟨⟨cls, dd, data, sl⟩, ho, hc, n, hd⟩ := id ht
 obtain ⟨⟨cls2, dd2, data2, sl2⟩, ho2, hc2, n2, hd2⟩ := id hb
 simp only at hc hd hc2 hd2
 subst hc hd hc2 hd2
 have e : vs.toArray ++ ws.toArray = (vs ++ ws).toArray := by simp
 by_cases hw : ws = []
 ·exact concat_meets ⟨_, ho, rfl⟩ ⟨_, ho2, rfl⟩ noFill_tuple_add seq_tuple_add PySem.F.slot_tuple_add PySem.F.entry_tuple_add (PySem.F.args_tuple_add_2 _ _)
   (tuple_addW1 t b vs.toArray ws.toArray n n2 dd dd2 sl sl2 (by simpa using hv) (by simp [hw])) ⟨ho, ho2, h1 hw⟩
 ·refine concat_meets ⟨_, ho, rfl⟩ ⟨_, ho2, rfl⟩ noFill_tuple_add seq_tuple_add PySem.F.slot_tuple_add PySem.F.entry_tuple_add (PySem.F.args_tuple_add_2 _ _)
   (tuple_addW2 t b vs.toArray ws.toArray n n2 dd dd2 sl sl2 (by simpa using hv) (by simpa using hw) (by rw [sT_, sT_]; exact hsz)) ⟨ho, ho2, ?_⟩
  rw [e]
  exact h2 hw
def sIx (n d : Nat) : Option Int -> Nat
 | none => d
 | some v => if v < 0 then (v + (n : Int)).toNat else min v.toNat n
theorem sIx_none (n d : Nat) : sIx n d none = d := rfl
theorem sIx_nat (n d k : Nat) : sIx n d (some (k : Int)) = min k n := by
 show (if (k : Int) < 0 then ((k : Int) + (n : Int)).toNat else min (k : Int).toNat n) = min k n
 rw [if_neg (by omega), Int.toNat_natCast]
theorem qjL (n d : Nat) (hd : d <= n) (o : Option Int) : sIx n d o <= n := by
 cases o with
 | none => exact hd
 | some v =>
  show (if v < 0 then (v + (n : Int)).toNat else min v.toNat n) <= n
  by_cases hv : v < 0
  ·rw [if_pos hv]; omega
  ·rw [if_neg hv]; exact Nat.min_le_right _ _
theorem qeh (v : Int) (n d : Nat) : (if v < 0 then max (v + (n : Int)) 0 else min v (n : Int)) = ((sIx n d (some v) : Nat) : Int) := by
 show (if v < 0 then max (v + (n : Int)) 0 else min v (n : Int)) = (((if v < 0 then (v + (n : Int)).toNat else min v.toNat n) : Nat) : Int)
 by_cases hv : v < 0
 ·simp only [if_pos hv]; omega
 ·simp only [if_neg hv]; omega
theorem qdv (lo hi : Option Int) (n : Nat) : Builtin.Slice.sliceAdjust lo hi 1 (n : Int) = (((sIx n 0 lo : Nat) : Int), ((sIx n n hi : Nat) : Int)) := by
 have h1 : ¬ ((1 : Int) < 0) := by omega
 unfold Builtin.Slice.sliceAdjust
 simp only [h1, if_false]
 refine Prod.ext ?_ ?_
 ·cases lo with
  | none => rfl
  | some v => exact qeh v n 0
 ·cases hi with
  | none => rfl
  | some v => exact qeh v n n
theorem qdw (i j : Nat) : Builtin.Slice.slicePlaces (i : Int) (j : Int) 1 = j - i := by
 unfold Builtin.Slice.slicePlaces
 have h1 : (1 : Int) > 0 := by omega
 simp only [h1, if_true, Int.ediv_one]
 split <;> omega
theorem qar {v : Value} {o : Option Int} {Q : Option Int -> Shared -> Prop} (p : IsPart v o) (h : Q o s) : wpAny (model prog w) A (Builtin.Slice.slicePartIndex v) Q E s := by
 cases p with
 | none => exact slicePart_none h
 | int i t => exact slicePart_int h
theorem sliceApplied_gen {sl : Addr} {vl vu : Value} {lo hi : Option Int} {n : Nat} {Q : Int × Int × Nat -> Shared -> Prop} (hs : s.heap.IsSliceOf sl vl vu .none) (pl : IsPart vl lo) (pu : IsPart vu hi)
  (h : Q (((sIx n 0 lo : Nat) : Int), 1, sIx n n hi - sIx n 0 lo) s) : wpAny (model prog w) A (Builtin.Slice.sliceApplied (.ref sl) (pure (n : Int))) Q E s := by
 obtain ⟨os, hos, hcs, hds⟩ := id hs
 unfold Builtin.Slice.sliceApplied Builtin.Slice.sliceFields
 refine wpAny_bind (wpAny_bind (wpAny_field hos hds (x := vl) rfl (wpAny_bind (wpAny_field hos hds (x := vu) rfl (wpAny_bind (wpAny_field hos hds (x := .none) rfl (wpAny_pure ?_)))))))
 refine wpAny_bind (slicePart_none ?_)
 show wpAny _ _ (if ((1 : Int) == 0) = true then _ else _) _ _ s
 rw [if_neg (by decide)]
 refine wpAny_bind (qar pl (wpAny_bind (qar pu (wpAny_bind (wpAny_pure ?_)))))
 show wpAny _ _ (match Builtin.Slice.sliceAdjust lo hi 1 (n : Int) with | (lo, hi) => pure (lo, (1 : Int), Builtin.Slice.slicePlaces lo hi 1)) _ _ s
 rw [qdv lo hi n]
 show wpAny _ _ (pure (((sIx n 0 lo : Nat) : Int), (1 : Int), Builtin.Slice.slicePlaces ((sIx n 0 lo : Nat) : Int) ((sIx n n hi : Nat) : Int) 1)) _ _ s
 rw [qdw]
 exact wpAny_pure h
theorem qfS (xs : Array Value) (i k : Nat) : ((List.range k).filterMap fun (m : Nat) => xs[((i : Int) + (m : Int) * 1).toNat]?).toArray = ((xs.toList.drop i).take k).toArray := by
 have e : (fun (m : Nat) => xs[((i : Int) + (m : Int) * 1).toNat]?) = fun m => xs[i + m]? := by
  funext m
  have : ((i : Int) + (m : Int) * 1).toNat = i + m := by omega
  rw [this]
 rw [e]
 have := pick_run xs i k
 rw [List.filterMap_map] at this
 have e2 : ((fun x => xs[x]?) ∘ fun x => i + x) = fun m => xs[i + m]? := rfl
 rw [e2] at this
 rw [this]
theorem getItem_tuple_cut {t sl : Addr} {items : Array Value} {vl vu : Value} {lo hi : Option Int} {Q : Value -> Shared -> Prop} (ht : IsTup s.heap t items) (hs : s.heap.IsSliceOf sl vl vu .none) (pl : IsPart vl lo) (pu : IsPart vu hi)
  (hw : ¬ (sIx items.size 0 lo = 0 /\ sIx items.size items.size hi = items.size))
  (h : Q (.ref s.heap.objs.size) { s with heap := s.heap.push { cls := .type "tuple", data := .seq ((items.toList.drop (sIx items.size 0 lo)).take (sIx items.size items.size hi - sIx items.size 0 lo)).toArray } })
  (hsz : items.size <= sizeLine) : wpAny (model prog w) A (getItem (.ref t) (.ref sl)) Q E s := by
 have htake : sizeOk (.seq ((items.toList.drop (sIx items.size 0 lo)).take (sIx items.size items.size hi - sIx items.size 0 lo)).toArray) := by
  show ((items.toList.drop (sIx items.size 0 lo)).take (sIx items.size items.size hi - sIx items.size 0 lo)).toArray.size <= sizeLine
  rw [sT_, List.length_take, List.length_drop, Array.length_toList]
  omega
 have hj : sIx items.size items.size hi <= items.size := qjL _ _ (Nat.le_refl _) hi
 obtain ⟨os, hos, hcs, hds⟩ := id hs
 have hTs : s.TypeIs (.ref sl) "slice" := ⟨os, hos, hcs⟩
 unfold getItem
 try with_reducible refine wpAny_holding ?_
 first | refine wpAny_bind (wpAny_pure ?_) | skip
 refine wpAny_bind (wpAny_sequenceKey ht.typeIs (by decide) ?_)
 refine wpAny_bind (wpAny_callSpecial?_slot (name := Str.ofString "__getitem__") ht.typeIs PyProof.Rows.slot_tuple_getitem
  (wpAny_call_entry PyProof.Rows.slot_tuple_getitem ht.typeIs entry_tuple_getitem ?_ (args_tuple_getitem _ _)))
 show wpAny _ _ (Builtin.Tuple.tupleItemsOf (.ref t) >>= _) _ _ s
 refine wpAny_bind (tupleItemsOf_ ht ?_)
 refine wpAny_bind (wpAny_typeOf hTs ?_)
 rw [if_pos (by decide)]
 refine wpAny_bind (sliceApplied_gen hs pl pu ?_)
 have hno : ¬ ((((sIx items.size 0 lo : Nat) : Int) == 0 && (1 : Int) == 1 && (sIx items.size items.size hi - sIx items.size 0 lo) == items.size) = true) := by
  intro q
  rw [Bool.and_eq_true, Bool.and_eq_true] at q
  have q1 : ((sIx items.size 0 lo : Nat) : Int) = 0 := eq_of_beq q.1.1
  have q2 : sIx items.size items.size hi - sIx items.size 0 lo = items.size := eq_of_beq q.2
  exact hw ⟨by omega, by omega⟩
 show wpAny _ _ (if (((sIx items.size 0 lo : Nat) : Int) == 0 && (1 : Int) == 1 && (sIx items.size items.size hi - sIx items.size 0 lo) == items.size) = true then _ else _) _ _ s
 rw [if_neg hno, qfS]
 first
  | exact wpAny_bind (m := Builtin.Tuple.tupleExact _) (wpAny_newObj_type (wpAny_pure ⟨_, rfl, wpAny_pure h⟩) htake)
  | exact wpAny_bind (m := Builtin.Tuple.tupleExact _) (wpAny_newObj_type (wpAny_bind (wpAny_pure (wpAny_pure ⟨_, rfl, wpAny_pure h⟩))) htake)
  | exact wpAny_bind (wpAny_bind (m := Builtin.Tuple.tupleExact _) (wpAny_newObj_type (wpAny_pure (wpAny_pure ⟨_, rfl, wpAny_pure h⟩)) htake))
  | exact wpAny_bind (wpAny_bind (m := Builtin.Tuple.tupleExact _) (wpAny_newObj_type (wpAny_pure ⟨_, rfl, wpAny_pure h⟩) htake))
end
end HT
namespace L2
open PySem PySem.Spec PyProof.Rows
abbrev TO := St -> Hp -> (Option Int -> Hp -> Prop) -> Prop
def PO (X : Cx) (e : Option Expr) (t : TO) : Prop :=
 ∀ (pins : List (Addr × Obj)) (s : Shared) (σ : St) (H : Hp) (Q : Option Int -> Hp -> Prop), Inv X pins σ H s -> t σ H Q ->
  wpAny (model X.prog X.w) X.A (evalPart e X.env) (fun u s' => ∃ o H', Inv X pins σ H' s' /\ IsPart u o /\ Q o H') X.xe s
def qhz : TO := fun _ H Q => Q none H
def qlR (t : TE) : TO := fun σ H Q => t σ H fun x H1 => ∃ i, x = .int i /\ Q (some i) H1
theorem qdx {ns : List Int} : ∀ {us : List Value}, qT (ns.map V.int) us -> IntsAre us ns := by
 induction ns with
 | nil => intro us r; rw [List.map_nil] at r; cases r; exact .nil
 | cons n ns ih =>
  intro us r
  rw [mC_] at r
  cases r with
  | cons r1 r2 =>
   obtain ⟨t, e⟩ := r1
   subst e
   exact .cons n t (ih r2)
section
variable {X : Cx} {e : Expr} {te : TE} {lo hi : Option Expr} {tl th : TO} {pos p2 : Pos}
theorem qhA : PO X none qhz := by
 intro pins s σ H Q I h
 rw [evalPart_none]
 exact wpAny_pure ⟨none, H, I, .none, h⟩
theorem qhB (h : PE X e te) : PO X (some e) (qlR te) := by
 intro pins s σ H Q I hw
 rw [evalPart_some]
 refine thn (h pins s σ H _ I hw) fun u s1 ⟨x, H1, I1, r1, q1⟩ => ?_
 obtain ⟨i, rfl, q⟩ := q1
 obtain ⟨t, rfl⟩ := r1
 exact ⟨some i, H1, I1, .int i t, q⟩
def SlR (X : Cx) (r : V -> Option Int -> Option Int -> Hp -> VK -> Prop) : Prop :=
 ∀ (pins : List (Addr × Obj)) (s : Shared) (σ : St) (H : Hp) (x : V) (v vl vu : Value) (lo hi : Option Int) (sl : Addr) (Q : VK), Inv X pins σ H s -> zZ x v -> s.heap.IsSliceOf sl vl vu .none -> IsPart vl lo -> IsPart vu hi -> r x lo hi H Q ->
  ∃ T id, typeLookup (.type T) "__getitem__" = pure (some (.builtin id)) /\ s.TypeIs v T /\ wpAny (model X.prog X.w) X.A (getItem v (.ref sl)) (EP X pins σ Q) X.xe s
theorem SlR.or {r r' : V -> Option Int -> Option Int -> Hp -> VK -> Prop} (h : SlR X r) (h' : SlR X r') : SlR X (fun x lo hi H Q => r x lo hi H Q \/ r' x lo hi H Q) := by
 intro pins s σ H x v vl vu lo hi sl Q I rx hs pl pu q
 rcases q with q | q
 ·exact h pins s σ H x v vl vu lo hi sl Q I rx hs pl pu q
 ·exact h' pins s σ H x v vl vu lo hi sl Q I rx hs pl pu q
def tSl (r : V -> Option Int -> Option Int -> Hp -> VK -> Prop) (te : TE) (tl th : TO) : TE := fun σ H Q => te σ H fun x H1 => tl σ H1 fun l H2 => th σ H2 fun u H3 => r x l u H3 Q
theorem qfT {r : V -> Option Int -> Option Int -> Hp -> VK -> Prop} (hr : SlR X r) (he : PE X e te) (hl : PO X lo tl) (hu : PO X hi th) : PE X (.Subscript e (.Slice lo hi none p2) pos) (tSl r te tl th) := by
 intro pins s σ H Q I h
 refine Subscript_ (thn (he pins s σ H _ I h) fun v s1 ⟨x, H1, I1, r1, q1⟩ => ?_)
 refine wpAny_Slice (thn (hl pins s1 σ H1 _ I1 q1) fun vl s2 ⟨l, H2, I2, pl, q2⟩ => thn (hu pins s2 σ H2 _ I2 q2) fun vu s3 ⟨u, H3, I3, pu, q3⟩ => ?_)
 rw [evalPart_none]
 refine wpAny_pure ?_
 have I4 : Inv X pins σ H3 { s3 with heap := s3.heap.push { cls := .type "slice", data := .fields #[vl, vu, .none] } } := I3.kept (t' := s3.toks) fun b ob q => Heap.get?_push_of_some _ q
 obtain ⟨T, id, hT, ht, hg⟩ := hr pins { s3 with heap := s3.heap.push { cls := .type "slice", data := .fields #[vl, vu, .none] } } σ H3 x v vl vu l u s3.heap.objs.size Q I4 r1 (Heap.IsSliceOf.new ..) pl pu q3
 show wpAny (model X.prog X.w) X.A (subscriptTail e (.Slice lo hi none p2) v (.ref s3.heap.objs.size)) (EP X pins σ Q) X.xe { s3 with heap := s3.heap.push { cls := .type "slice", data := .fields #[vl, vu, .none] } }
 exact tail_any (ops := [.ref s3.heap.objs.size, v]) ht hT hg (by with_unfolding_all rfl)
def qfC (xs : List V) (lo hi : Option Int) : List V := (xs.drop (HT.sIx xs.length 0 lo)).take (HT.sIx xs.length xs.length hi - HT.sIx xs.length 0 lo)
theorem wG (xs : List V) (lo hi : Option Int) : (qfC xs lo hi).length <= xs.length := by
 unfold qfC
 rw [List.length_take, List.length_drop]
 omega
def qmy (K : PySem.W.Frag) : V -> Option Int -> Option Int -> Hp -> VK -> Prop := fun x lo hi H Q => ∃ a xs, x = .ref a /\ SqT K H a xs /\
 ¬ (HT.sIx xs.length 0 lo = 0 /\ HT.sIx xs.length xs.length hi = xs.length) /\ ∀ p, H p = none -> Q (.ref p) (upd H p (.tup (qfC xs lo hi)))
theorem sl_tup : SlR X (qmy X.K) := by
 intro pins s σ H x v vl vu lo hi sl Q I rx hs pl pu h
 obtain ⟨a, xs, rfl, hx, hw, q⟩ := h
 cases rx
 obtain ⟨its, r, ht, hz⟩ := I.tuple hx
 have hlen : its.toArray.size = xs.length := by rw [sT_]; exact r.length.symm
 refine ⟨"tuple", _, PyProof.Rows.slot_tuple_getitem.lookup, ht.typeIs, ?_⟩
 refine HT.getItem_tuple_cut ht hs pl pu (by rw [hlen]; exact hw) ?_ (by rw [hlen]; exact hz)
 rw [hlen]
 refine ⟨.ref s.heap.objs.size, _, I.laid (t' := s.toks) (o := .tup (qfC xs lo hi)) (fun b ob q => Heap.get?_push_of_some _ q) (Nat.le_refl _) ?_, rfl, q _ (I.hok.fresh (Nat.le_refl _))⟩
 exact ⟨Nat.le_trans (wG xs lo hi) hz, _, (r.drop (HT.sIx xs.length 0 lo)).take (HT.sIx xs.length xs.length hi - HT.sIx xs.length 0 lo), IsTup.new _ _⟩
def qjM (K : PySem.W.Frag) : R2 := fun x y H Q => ∃ a b xs ys, x = .ref a /\ y = .ref b /\ SqT K H a xs /\ SqT K H b ys /\ xs ≠ [] /\ xs.length + ys.length <= sizeLine /\
 (ys = [] -> Q (.ref a) H) /\ (ys ≠ [] -> ∀ p, H p = none -> Q (.ref p) (upd H p (.tup (xs ++ ys))))
theorem qT.nil_iff {xs : List V} {us : List Value} (r : qT xs us) : us = [] ↔ xs = [] := by
 cases r with
 | nil => simp
 | cons _ _ => simp
theorem qhC : OpR X (binaryOp .Add) (qjM X.K) := by
 intro pins s σ H x y v u Q I rx ry h
 obtain ⟨a, b, xs, ys, rfl, rfl, ha, hb, hx, hz, q1, q2⟩ := h
 cases rx
 cases ry
 obtain ⟨its, r1, p1, _⟩ := I.tuple ha
 obtain ⟨its2, r2, p2, _⟩ := I.tuple hb
 refine HT.cat_tup p1 p2 (fun z => hx (r1.nil_iff.mp z)) (fun z => ⟨.ref a, H, I, rfl, q1 (r2.nil_iff.mp z)⟩) (fun z => ?_) (by rw [<- r1.length, <- r2.length]; exact hz)
 refine ⟨.ref s.heap.objs.size, _, I.laid (t' := s.toks) (o := .tup (xs ++ ys)) (fun b ob q => Heap.get?_push_of_some _ q) (Nat.le_refl _) ?_, rfl, q2 (fun w => z (r2.nil_iff.mpr w)) _ (I.hok.fresh (Nat.le_refl _))⟩
 exact ⟨by rw [lA_]; exact hz, _, r1.append r2, IsTup.new _ _⟩
end
end L2
namespace L2
open PySem PySem.Spec PyProof.Rows
def ixN (n : Nat) (i : Int) : Option Nat := if 0 <= i then (if i < n then some i.toNat else none) else if -(n : Int) <= i then some (i + n).toNat else none
def atI {α : Type} (xs : List α) (i : Int) : Option α := (ixN xs.length i).bind fun j => xs[j]?
theorem qei {n : Nat} {i : Int} {j : Nat} (h : ixN n i = some j) : seqIndex? i n = some j /\ j < n /\ -(n : Int) <= i /\ i < n := by
 unfold ixN at h
 by_cases h0 : 0 <= i
 ·rw [if_pos h0] at h
  by_cases h1 : i < n
  ·rw [if_pos h1] at h
   have e : i.toNat = j := Option.some.inj h
   exact ⟨by rw [seqIndex_of h0 h1, e], by omega, by omega, h1⟩
  ·rw [if_neg h1] at h; cases h
 ·rw [if_neg h0] at h
  by_cases h1 : -(n : Int) <= i
  ·rw [if_pos h1] at h
   have e : (i + n).toNat = j := Option.some.inj h
   exact ⟨by rw [seqIndex_neg (by omega) h1, e], by omega, h1, by omega⟩
  ·rw [if_neg h1] at h; cases h
theorem qej {α : Type} {xs : List α} {i : Int} {v : α} (h : atI xs i = some v) : ∃ j, seqIndex? i xs.length = some j /\ xs[j]? = some v /\ j < xs.length /\ -(xs.length : Int) <= i /\ i < xs.length := by
 unfold atI at h
 cases e : ixN xs.length i with
 | none => rw [e] at h; cases h
 | some j =>
  rw [e] at h
  obtain ⟨h1, h2, h3, h4⟩ := qei e
  exact ⟨j, h1, h, h2, h3, h4⟩
def qci (b : Expr) : Prop := ∀ o i, subscripted b false o i = operate [o, i] (getItem o i)
def IxR (X : Cx) (r : R2) : Prop :=
 ∀ (value slice : Expr) (pins : List (Addr × Obj)) (s : Shared) (σ : St) (H : Hp) (x y : V) (v u : Value) (Q : VK), Inv X pins σ H s -> zZ x v -> zZ y u -> r x y H Q ->
  subscripted slice false v u = operate [v, u] (getItem v u) -> wpAny (model X.prog X.w) X.A (subscriptTail value slice v u) (EP X pins σ Q) X.xe s
def MtR (X : Cx) (id : String) (r : V -> List V -> Hp -> VK -> Prop) : Prop :=
 ∀ (pins : List (Addr × Obj)) (s : Shared) (σ : St) (H : Hp) (x : V) (xs : List V) (v : Value) (us : List Value) (Q : VK), Inv X pins σ H s -> zZ x v -> qT xs us -> r x xs H Q ->
  wpAny (model X.prog X.w) X.A (call (.builtin id) (v :: us)) (EP X pins σ Q) X.xe s
section
variable {X : Cx} {a b : Expr} {ta tb : TE} {pos : Pos}
theorem IxR.or {r r' : R2} (h : IxR X r) (h' : IxR X r') : IxR X (fun x y H Q => r x y H Q \/ r' x y H Q) := by
 intro value slice pins s σ H x y v u Q I rx ry q hs
 rcases q with q | q
 ·exact h value slice pins s σ H x y v u Q I rx ry q hs
 ·exact h' value slice pins s σ H x y v u Q I rx ry q hs
theorem MtR.or {id : String} {r r' : V -> List V -> Hp -> VK -> Prop} (h : MtR X id r) (h' : MtR X id r') : MtR X id (fun x xs H Q => r x xs H Q \/ r' x xs H Q) := by
 intro pins s σ H x xs v us Q I rx rs q
 rcases q with q | q
 ·exact h pins s σ H x xs v us Q I rx rs q
 ·exact h' pins s σ H x xs v us Q I rx rs q
theorem qjN {r : R2} (hr : IxR X r) (ha : PE X a ta) (hb : PE X b tb) (hs : qci b) : PE X (.Subscript a b pos) (tOp r ta tb) := by
 intro pins s σ H Q I h
 exact Subscript_ (qlJ ha hb I h fun v u s2 x y H2 I2 rx ry q => hr a b pins s2 σ H2 x y v u Q I2 rx ry q (hs _ _))
def qlS (K : PySem.W.Frag) : R2 := fun x y H Q => ∃ p xs i v, x = .ref p /\ y = .int i /\ SqL K H p xs /\ atI xs i = some v /\ Q v H
def qlT (K : PySem.W.Frag) : R2 := fun x y H Q => ∃ p xs i v, x = .ref p /\ y = .int i /\ SqT K H p xs /\ atI xs i = some v /\ Q v H
theorem qek : IxR X (qlS X.K) := by
 intro value slice pins s σ H x y v u Q I rx ry h hs
 obtain ⟨p, xs, i, z, rfl, rfl, hq, he, q⟩ := h
 cases rx
 obtain ⟨t, rfl⟩ := ry
 obtain ⟨its, r, pl, hz⟩ := I.list hq
 obtain ⟨j, h1, h2, h3, h4, h5⟩ := qej he
 obtain ⟨w, ew, rw'⟩ := r.get h2
 have hl := r.length
 have hn := qbr
 have fin : EP X pins σ Q w s := ⟨z, H, I, rw', q⟩
 by_cases h0 : 0 <= i
 ·have hj : i.toNat = j := by
   rw [seqIndex_of h0 h5] at h1
   exact Option.some.inj h1
  exact item_listR pl.isList h0 (by omega) (by rw [hj]; simpa using ew) fin hs
 ·have hj : (i + (its.toArray.size : Int)).toNat = j := by
   rw [seqIndex_neg (by omega) h4] at h1
   rw [sT_, <- hl]
   exact Option.some.inj h1
  exact subscriptTail_builtinR (x := w) pl.isList.typeIs slot_list_getitem.lookup
   (wpAny_getItem_list_neg (Q := fun r s' => r = w /\ EP X pins σ Q r s') pl.isList (by omega) (by rw [sT_] <;> omega) (by omega) (by rw [hj]; simpa using ew) ⟨rfl, fin⟩) hs
theorem qjO : IxR X (qlT X.K) := by
 intro value slice pins s σ H x y v u Q I rx ry h hs
 obtain ⟨p, xs, i, z, rfl, rfl, hq, he, q⟩ := h
 cases rx
 obtain ⟨t, rfl⟩ := ry
 obtain ⟨its, r, pl, hz⟩ := I.tuple hq
 obtain ⟨j, h1, h2, h3, h4, h5⟩ := qej he
 obtain ⟨w, ew, rw'⟩ := r.get h2
 have hl := r.length
 have hn := qbr
 have fin : EP X pins σ Q w s := ⟨z, H, I, rw', q⟩
 exact subscriptTail_builtinR (x := w) pl.typeIs slot_tuple_getitem.lookup
  (getItem_tuple (j := j) (Q := fun r s' => r = w /\ EP X pins σ Q r s') pl (by omega) (by omega) (by rw [sT_, <- hl]; exact h1) (by simpa using ew) ⟨rfl, fin⟩) hs
theorem qdy (its : List Value) (n j : Nat) (u : Value) : Obj.mapSeq (·.setIfInBounds j u) { cls := .type "list", data := .seq its.toArray n } = { cls := .type "list", data := .seq (its.set j u).toArray n } := by
 simp [Obj.mapSeq]
theorem Inv.lst {pins : List (Addr × Obj)} {σ : St} {H : Hp} {s : Shared} {p : Addr} {xs : List V} (I : Inv X pins σ H s) (h : H p = some (.lst xs)) :
  ∃ (its : List Value) (n : Nat), qT xs its /\ s.heap.get? p = some { cls := .type "list", data := .seq its.toArray n } /\ xs.length <= sizeLine := by
 obtain ⟨z, its, n, r, e⟩ := I.hok p _ h
 exact ⟨its, n, r, e, z⟩
theorem Inv.lstUpd {pins : List (Addr × Obj)} {σ : St} {H : Hp} {s : Shared} {p : Addr} {xs ys : List V} {its its' : List Value} {n n' : Nat} {f : Obj -> Obj} (I : Inv X pins σ H s) (h : H p = some (.lst xs))
  (ho : s.heap.get? p = some { cls := .type "list", data := .seq its.toArray n }) (hf : f { cls := .type "list", data := .seq its.toArray n } = { cls := .type "list", data := .seq its'.toArray n' }) (r : qT ys its') (hz : ys.length <= sizeLine) (t : Nat) :
  Inv X pins σ (upd H p (.lst ys)) { s with heap := s.heap.update p f, toks := t } := by
 have e : (s.heap.update p f).get? p = some { cls := .type "list", data := .seq its'.toArray n' } := by
  rw [Heap.get?_update_self f ho (by rw [hf] <;> rfl), hf]
 refine I.write (x := p) (e := p) (by rw [h]; trivial) (.inl rfl) (fun b u hb q => (Heap.get?_update_other _ _ (Ne.symm hb)).trans q) ⟨_, e⟩ ?_
 exact ⟨hz, its', n', r, e⟩
def qlU : V -> V -> V -> Hp -> (Hp -> Prop) -> Prop := fun o i v H Q => ∃ p xs k j, o = .ref p /\ i = .int k /\ H p = some (.lst xs) /\ ixN xs.length k = some j /\ Q (upd H p (.lst (xs.set j v)))
theorem qfU : qmu X qlU := by
 intro pins s σ H o i v ov iv u Q I ro ri rv h
 obtain ⟨p, xs, k, j, rfl, rfl, hp, hj, q⟩ := h
 cases ro
 obtain ⟨t, rfl⟩ := ri
 obtain ⟨its, n, r, ho, hz⟩ := I.lst hp
 obtain ⟨h1, h2, h3, h4⟩ := qei hj
 have hl := r.length
 have hn := qbr
 have I' : Inv X pins σ (upd H p (.lst (xs.set j v))) { s with heap := s.heap.update p (Obj.mapSeq (·.setIfInBounds j u)) } :=
  I.lstUpd hp ho (qdy its n j u) (r.set rv j) (by rw [lS_]; exact hz) s.toks
 by_cases h0 : 0 <= k
 ·have hk : k.toNat = j := by
   rw [seqIndex_of h0 h4] at h1
   exact Option.some.inj h1
  exact PySem.W.ki_setAt ho h0 (by omega) (by rw [sT_, <- hl]; exact h4) (by rw [hk]; exact ⟨_, I', q⟩)
 ·have hk : (k + (its.toArray.size : Int)).toNat = j := by
   rw [seqIndex_neg (by omega) h3] at h1
   rw [sT_, <- hl]
   exact Option.some.inj h1
  exact PySem.W.ki_setBack ho (by omega) (by rw [sT_, <- hl]; exact h3) (by omega) (by rw [hk]; exact ⟨_, I', q⟩)
theorem qbv (lo hi : Option Int) (n : Nat) : (sliceBounds lo hi none n).1 = ((HT.sIx n 0 lo : Nat) : Int) /\ (sliceBounds lo hi none n).2.1 = ((HT.sIx n n hi : Nat) : Int) /\ (sliceBounds lo hi none n).2.2 = 1 := by
 refine ⟨?_, ?_, rfl⟩
 ·cases lo with
  | none => simp [sliceBounds, HT.sIx]
  | some i =>
   simp only [sliceBounds, HT.sIx, Option.getD_none, show (1 : Int) > 0 by decide, if_true]
   by_cases h : i < 0
   ·simp only [h, if_true] <;> omega
   ·simp only [h, if_false] <;> omega
 ·cases hi with
  | none => simp [sliceBounds, HT.sIx]
  | some i =>
   simp only [sliceBounds, HT.sIx, Option.getD_none, show (1 : Int) > 0 by decide, if_true]
   by_cases h : i < 0
   ·simp only [h, if_true] <;> omega
   ·simp only [h, if_false] <;> omega
theorem qaL (its : List Value) (lo hi : Option Int) : slicePick its.toArray lo hi none = ((its.drop (HT.sIx its.length 0 lo)).take (HT.sIx its.length its.length hi - HT.sIx its.length 0 lo)).toArray := by
 obtain ⟨h1, h2, h3⟩ := qbv lo hi its.toArray.size
 unfold slicePick
 rw [h1, h2, h3]
 simp only [sliceRange_one, pick_run, sT_] <;> rfl
def qng (K : PySem.W.Frag) : V -> Option Int -> Option Int -> Hp -> VK -> Prop := fun x lo hi H Q => ∃ a xs, x = .ref a /\ SqL K H a xs /\ ∀ p, H p = none -> Q (.ref p) (upd H p (.lst (qfC xs lo hi)))
theorem qhD : SlR X (qng X.K) := by
 intro pins s σ H x v vl vu lo hi sl Q I rx hs pl pu h
 obtain ⟨a, xs, rfl, hx, q⟩ := h
 cases rx
 obtain ⟨its, r, ht, hz⟩ := I.list hx
 have hlen := r.length
 refine ⟨"list", _, slot_list_getitem.lookup, ht.isList.typeIs, ?_⟩
 refine wpAny_getItem_list_slice ht.isList hs pl pu .none (by simp) ?_ (by rw [sT_] <;> omega)
 rw [qaL, <- hlen]
 refine ⟨.ref s.heap.objs.size, _, I.laid (t' := s.toks) (o := .lst (qfC xs lo hi)) (fun b ob q => Heap.get?_push_of_some _ q) (Nat.le_refl _) ?_, rfl, q _ (I.hok.fresh (Nat.le_refl _))⟩
 exact ⟨Nat.le_trans (wG xs lo hi) hz, _, 0, (r.drop (HT.sIx xs.length 0 lo)).take (HT.sIx xs.length xs.length hi - HT.sIx xs.length 0 lo), Heap.get?_push_size _ rfl⟩
def v5 : V -> Bool
 | .non => true
 | .bl _ => true
 | .int _ => true
 | .str _ => true
 | _ => false
def eqV : V -> V -> Bool
 | .non, .non => true
 | .bl a, .bl b => a == b
 | .bl a, .int b => (if a then 1 else 0) == b
 | .int a, .bl b => a == (if b then 1 else 0)
 | .int a, .int b => a == b
 | .str a, .str b => a == b
 | _, _ => false
theorem qjP {A : Around} {s : Shared} {y x : V} {u v : Value} (ry : zZ y u) (rx : zZ x v) (fy : v5 y = true) (fx : v5 x = true) : SeqAt.EqAt A s u v (eqV y x) := by
 cases y with
 | non =>
  cases ry
  cases x with
  | non => cases rx; exact SeqAt.EqAt.same _
  | bl b => cases rx; exact SeqAt.EqAt.none_bool b
  | int b => obtain ⟨t, rfl⟩ := rx; exact SeqAt.EqAt.none_int b t
  | str b => obtain ⟨t, rfl⟩ := rx; exact SeqAt.EqAt.none_str b t
  | _ => exact absurd (show false = true from fx) Bool.false_ne_true
 | bl a =>
  cases ry
  cases x with
  | non => cases rx; exact SeqAt.EqAt.bool_none a
  | bl b => cases rx; exact SeqAt.EqAt.bool_bool a b
  | int b => obtain ⟨t, rfl⟩ := rx; exact SeqAt.EqAt.bool_int a b t
  | str b => obtain ⟨t, rfl⟩ := rx; exact SeqAt.EqAt.bool_str a b t
  | _ => exact absurd (show false = true from fx) Bool.false_ne_true
 | int a =>
  obtain ⟨t', rfl⟩ := ry
  cases x with
  | non => cases rx; exact SeqAt.EqAt.int_none a t'
  | bl b => cases rx; exact SeqAt.EqAt.int_bool a t' b
  | int b => obtain ⟨t, rfl⟩ := rx; exact SeqAt.EqAt.int_int a t' b t
  | str b => obtain ⟨t, rfl⟩ := rx; exact SeqAt.EqAt.int_str a t' b t
  | _ => exact absurd (show false = true from fx) Bool.false_ne_true
 | str a =>
  obtain ⟨t', rfl⟩ := ry
  cases x with
  | non => cases rx; exact SeqAt.EqAt.str_none a t'
  | bl b => cases rx; exact SeqAt.EqAt.str_bool a t' b
  | int b => obtain ⟨t, rfl⟩ := rx; exact SeqAt.EqAt.str_int a t' b t
  | str b => obtain ⟨t, rfl⟩ := rx; exact SeqAt.EqAt.str_str a t' b t
  | _ => exact absurd (show false = true from fx) Bool.false_ne_true
 | _ => exact absurd (show false = true from fy) Bool.false_ne_true
def eqU (x : V) (u : Value) : Bool := match u with
 | .none => eqV .non x
 | .bool b => eqV (.bl b) x
 | .int i _ => eqV (.int i) x
 | .str z _ => eqV (.str z) x
 | _ => false
theorem qgM {x y : V} {u : Value} (r : zZ y u) (f : v5 y = true) : eqU x u = eqV y x := by
 cases y with
 | non => cases r; rfl
 | bl b => cases r; rfl
 | int i => obtain ⟨t, rfl⟩ := r; rfl
 | str z => obtain ⟨t, rfl⟩ := r; rfl
 | _ => exact absurd (show false = true from f) Bool.false_ne_true
theorem qcj {x : V} : ∀ {xs : List V} {us : List Value}, qT xs us -> xs.all v5 = true -> us.any (eqU x) = xs.any fun y => eqV y x
 | _, _, .nil, _ => rfl
 | y :: xs, u :: us, .cons r t, f => by
  rw [List.all_cons, Bool.and_eq_true] at f
  rw [List.any_cons, List.any_cons, qgM r f.1, qcj t f.2]
theorem qaM {A : Around} {s : Shared} {x : V} {v : Value} (rx : zZ x v) (fx : v5 x = true) : ∀ {xs : List V} {us : List Value}, qT xs us -> xs.all v5 = true -> ∀ u ∈ us, SeqAt.EqAt A s u v (eqU x u)
 | _, _, .nil, _ => fun u hu => by cases hu
 | y :: xs, u :: us, .cons r t, f => fun u' hu => by
  rw [List.all_cons, Bool.and_eq_true] at f
  rcases List.mem_cons.mp hu with rfl | hu
  ·rw [qgM r f.1]; exact qjP r rx f.1 fx
  ·exact qaM rx fx t f.2 u' hu
def inV (x : V) (xs : List V) : Bool := xs.any fun y => eqV y x
def rIn (K : PySem.W.Frag) (neg : Bool) : R2 := fun x y H Q => ∃ p xs, y = .ref p /\ (SqL K H p xs \/ SqT K H p xs) /\ v5 x = true /\ xs.all v5 = true /\ Q (.bl (if neg then !inV x xs else inV x xs)) H
theorem qbw : OpR X (compareOp .NotIn) (rIn X.K true) := by
 intro pins s σ H x y v u Q I rx ry h
 obtain ⟨p, xs, rfl, hq, fx, fs, q⟩ := h
 cases ry
 rcases hq with hq | hq
 ·obtain ⟨its, r, pl, hz⟩ := I.list hq
  refine SeqAt.notIn_listAt (eqU x) pl.isList (fun w hw => qaM rx fx r fs w (by simpa using hw)) ⟨.bl _, H, I, rfl, ?_⟩
  rw [show its.toArray.any (eqU x) = its.any (eqU x) by simp, qcj r fs]
  exact q
 ·obtain ⟨its, r, pl, hz⟩ := I.tuple hq
  refine SeqAt.notIn_tupleAt (eqU x) pl (fun w hw => qaM rx fx r fs w (by simpa using hw)) ⟨.bl _, H, I, rfl, ?_⟩
  rw [show its.toArray.any (eqU x) = its.any (eqU x) by simp, qcj r fs]
  exact q
theorem qbx : yy X (.builtin "len") (fun xs H Q => ∃ p ys, xs = [.ref p] /\ (SqL X.K H p ys \/ SqT X.K H p ys) /\ Q (.int ys.length) H) := by
 intro pins s σ H xs us Q I r h
 obtain ⟨p, ys, rfl, hq, q⟩ := h
 obtain ⟨u, rfl, rx⟩ := qhu r
 cases rx
 have hn := qbr
 rcases hq with hq | hq
 ·obtain ⟨its, r', pl, hz⟩ := I.list hq
  have hlen := r'.length
  exact Calls.call_len_list pl.isList (by simp only [sT_] <;> omega) ⟨.int ys.length, H, I.tok _, ⟨s.toks + 1, by rw [sT_, hlen]⟩, q⟩
 ·obtain ⟨its, r', pl, hz⟩ := I.tuple hq
  have hlen := r'.length
  exact len_tuple pl (by simp only [sT_] <;> omega) ⟨.int ys.length, H, I.tok _, ⟨s.toks + 1, by rw [sT_, hlen]⟩, q⟩
theorem qby : yy X (.builtin "len") (fun xs H Q => ∃ z, xs = [.str z] /\ z.length <= sizeLine /\ Q (.int z.length) H) := by
 intro pins s σ H xs us Q I r h
 obtain ⟨z, rfl, hz, q⟩ := h
 obtain ⟨u, rfl, t, rfl⟩ := qhu r
 have hn := qbr
 exact len_str (by omega) ⟨.int z.length, H, I.tok _, ⟨_, rfl⟩, q⟩
theorem yy.or {f : Value} {r r' : List V -> Hp -> VK -> Prop} (h : yy X f r) (h' : yy X f r') : yy X f (fun xs H Q => r xs H Q \/ r' xs H Q) := by
 intro pins s σ H xs us Q I rs q
 rcases q with q | q
 ·exact h pins s σ H xs us Q I rs q
 ·exact h' pins s σ H xs us Q I rs q
theorem u9 : yy X (.type "tuple") (fun xs H Q => ∃ p ys, xs = [.ref p] /\ ((SqL X.K H p ys /\ ∀ l, H l = none -> Q (.ref l) (upd H l (.tup ys))) \/ (SqT X.K H p ys /\ Q (.ref p) H))) := by
 intro pins s σ H xs us Q I r h
 obtain ⟨p, ys, rfl, h⟩ := h
 obtain ⟨u, rfl, rx⟩ := qhu r
 cases rx
 rcases h with ⟨hq, q⟩ | ⟨hq, q⟩
 ·obtain ⟨its, r', pl, hz⟩ := I.list hq
  have hlen := r'.length
  refine call_tuple_list pl.isList (fun h' kp => ?_) (by simp only [sT_] <;> omega)
  have I1 : Inv X pins σ H { s with heap := h' } := I.kept (t' := s.toks) kp
  have I2 : Inv X pins σ (upd H h'.objs.size (.tup ys)) { s with heap := h'.push { cls := .type "tuple", data := .seq its.toArray } } :=
   I1.laid (t' := s.toks) (fun b o e => Heap.get?_push_of_some _ e) (Nat.le_refl _) (show jX X.prog X.w _ _ _ (.tup ys) from ⟨hz, its, r', IsTup.new _ _⟩)
  exact ⟨.ref h'.objs.size, _, I2, rfl, q _ (I1.hok.fresh (Nat.le_refl _))⟩
 ·obtain ⟨its, r', pl, hz⟩ := I.tuple hq
  exact call_tuple_same pl ⟨.ref p, H, I, rfl, q⟩
def tyV (K : PySem.W.Frag) (T : String) (x : V) (H : Hp) : Prop := match x with
 | .str _ => T = "str"
 | .int _ => T = "int"
 | .ref p => (T = "list" /\ ∃ xs, SqL K H p xs) \/ (T = "tuple" /\ ∃ o, K.lookup p = some o /\ o.cls = .type "tuple" /\ o.dict = none) \/
   (T = "dict" /\ ((∃ kvs, H p = some (.dK kvs)) \/ ∃ kvs, H p = some (.dT kvs))) \/ (T = "set" /\ ∃ S n, H p = some (.set S n))
 | _ => False
theorem qjQ {pins : List (Addr × Obj)} {σ : St} {H : Hp} {s : Shared} {T : String} {x : V} {v : Value} (I : Inv X pins σ H s) (r : zZ x v) (ty : tyV X.K T x H) :
  s.TypeIs v T /\ ∀ a, v = .ref a -> ∃ ob, s.heap.get? a = some ob /\ ob.dict = none := by
 cases x with
 | str z =>
  obtain ⟨t, rfl⟩ := r
  cases (show T = "str" from ty)
  exact ⟨typeIs_str s z t, fun _ e => nomatch e⟩
 | int i =>
  obtain ⟨t, rfl⟩ := r
  cases (show T = "int" from ty)
  exact ⟨typeIs_int s i t, fun _ e => nomatch e⟩
 | ref p =>
  cases r
  rcases ty with ⟨rfl, xs, hq⟩ | ⟨rfl, o, hk, hc, hd⟩ | ⟨rfl, hk⟩ | ⟨rfl, S, n, hk⟩
  ·obtain ⟨its, _, pl, _⟩ := I.list hq
   refine ⟨pl.isList.typeIs, fun a e => ?_⟩
   cases e
   obtain ⟨o, n, e, c, hd, _⟩ := pl
   exact ⟨o, e, hd⟩
  ·refine ⟨⟨o, I.kIn p o hk, hc⟩, fun a e => ?_⟩
   cases e
   exact ⟨o, I.kIn _ o hk, hd⟩
  ·have z : ∃ o, s.heap.get? p = some o /\ o.ExactDict := by
    rcases hk with ⟨kvs, hk⟩ | ⟨kvs, hk⟩
    ·obtain ⟨_, _, _, _, o, _, _, e, ex, _⟩ := I.hok p _ hk
     exact ⟨o, e, ex⟩
    ·obtain ⟨_, _, _, _, o, _, _, e, ex, _⟩ := I.hok p _ hk
     exact ⟨o, e, ex⟩
   obtain ⟨o, e, ex⟩ := z
   refine ⟨⟨o, e, ex.1⟩, fun a e2 => ?_⟩
   cases e2
   exact ⟨o, e, ex.2.1⟩
  ·obtain ⟨o, _, _, _, e, ex, _⟩ := I.hok p _ hk
   refine ⟨⟨o, e, ex.1⟩, fun a e2 => ?_⟩
   cases e2
   exact ⟨o, e, ex.2.1⟩
 | _ => exact False.elim ty
def tBM (K : PySem.W.Frag) (T : String) (r : V -> List V -> Hp -> VK -> Prop) (to : TE) (t : TA) : TE := fun σ H Q => to σ H fun x H1 => tyV K T x H1 /\ t σ H1 fun xs H2 => r x xs H2 Q
variable {o e : Expr} {es : List Expr} {to : TE} {t : TA} {name : Str} {apos cpos : Pos} {T id : String} {r : V -> List V -> Hp -> VK -> Prop}
theorem qlV (pa : PlainAttrs T) (slot : Slot T name id) (hty : typeOf (.builtin id) = pure (.type "method_descriptor")) (hm : MtR X id r) (ho : PE X o to) (ha : PA X (e :: es) t)
  (hbase : attributeBase o name X.env (eval o X.env) = eval o X.env := by rfl)
  (hfew : ((backTo cpos (starEach (e :: es) X.env)).all (fun x => !x.1) && (backToKw cpos (keywordEach [] X.env)).all (fun x => x.1.isSome)
   && decide ((e :: es).length + ([] : List Keyword).length + (if ([] : List Keyword).isEmpty then 0 else 1) < 30)) = true := by rfl)
  (hline : (apos.endLine == cpos.line) = true := by rfl) (hs : starEach (e :: es) X.env = (false, eval e X.env) :: starEach es X.env := by rfl) (hplain : (backTo cpos (starEach es X.env)).any (·.1) = false := by rfl) :
  PE X (.Call (.Attribute o name apos) (e :: es) [] cpos) (tBM X.K T r to t) := by
 intro pins s σ H Q I h
 refine wpAny_Call_method_late hbase hfew hline rfl (thn (ho pins s σ H _ I h) fun v s1 ⟨x, H1, I1, r1, ty, q1⟩ => ?_)
 obtain ⟨h1, h2⟩ := qjQ I1 r1 ty
 refine ⟨T, id, pa, slot, hty, h1, h2, ?_⟩
 have hA := ha cpos pins s1 σ H1 _ I1 q1
 rw [hs] at hA |-
 refine Calls.callWith_builtin (by show (false || (backTo cpos (starEach es X.env)).any (·.1)) = false; rw [hplain] <;> rfl) (Calls.evalArgs_plain ?_)
 exact thn hA fun us s2 ⟨vs, H2, I2, r2, q2⟩ => hm pins s2 σ H2 x vs v us Q I2 r1 r2 q2
/- xs.append(e), list.index on a module's tuple .. are MtR facts of 06m -/
end
end L2
namespace L2
open PySem PySem.Spec PyProof.Rows
def MtM (X : Cx) (id : String) (r : V -> List V -> Hp -> VK -> Prop) : Prop :=
 ∀ (pins : List (Addr × Obj)) (s : Shared) (σ : St) (H : Hp) (x : V) (xs : List V) (v : Value) (us : List Value) (Q : VK), Inv X pins σ H s -> zZ x v -> qT xs us -> r x xs H Q ->
  wpAny (model X.prog X.w) X.A (call (.builtin id) (v :: us)) (EP X pins σ Q) X.xe s
theorem qT.one : ∀ {x : V} {us : List Value}, qT [x] us -> ∃ u, us = [u] /\ zZ x u
 | _, _, .cons r .nil => ⟨_, rfl, r⟩
theorem qT.two : ∀ {x y : V} {us : List Value}, qT [x, y] us -> ∃ u v, us = [u, v] /\ zZ x u /\ zZ y v
 | _, _, _, .cons r (.cons q .nil) => ⟨_, _, rfl, r, q⟩
theorem qT.reverse {xs : List V} {us : List Value} (h : qT xs us) : qT xs.reverse us.reverse := by
 induction h with
 | nil => exact .nil
 | cons r t ih => rw [List.reverse_cons, List.reverse_cons]; exact qT.append ih (.cons r .nil)
theorem qT.rep {xs : List V} {us : List Value} (h : qT xs us) : ∀ k : Nat, qT (List.replicate k xs).flatten (List.replicate k us).flatten
 | 0 => .nil
 | k + 1 => by
  rw [rS_, rS_, List.flatten_cons, List.flatten_cons]
  exact qT.append h (qT.rep h k)
theorem wH (its : List Value) : ∀ (k : Nat) (acc : List Value),
  List.foldl (fun x1 x2 => x1 ++ x2) acc.toArray (List.replicate k its.toArray) = (acc ++ (List.replicate k its).flatten).toArray
 | 0, acc => by simp
 | k + 1, acc => by
  have e : acc.toArray ++ its.toArray = (acc ++ its).toArray := by simp
  have e2 : (acc ++ its) ++ (List.replicate k its).flatten = acc ++ (List.replicate (k + 1) its).flatten := by
   rw [rS_, List.flatten_cons, aA_]
  rw [<- e2, <- wH its k (acc ++ its), <- e, rS_, fo_]
section
variable {X : Cx} {pins : List (Addr × Obj)} {σ : St} {H : Hp} {s : Shared} {l b : Addr} {xs ys zs : List V}
theorem Inv.lset {its its' : List Value} {n : Nat} {f : Array Value -> Array Value} {t' : Nat} (I : Inv X pins σ H s) (hH : H l = some (.lst xs))
  (e : s.heap.get? l = some { cls := .type "list", data := .seq its.toArray n }) (hf : f its.toArray = its'.toArray) (hv : qT ys its') (hz : ys.length <= sizeLine) :
  Inv X pins σ (upd H l (.lst ys)) { s with heap := s.heap.update l (Obj.mapSeq f), toks := t' } := by
 have q := PySem.IsL.update e f
 rw [hf] at q
 refine I.write (x := l) (e := l) (by rw [hH]; exact trivial) (.inl rfl) (fun b' u hb hu => (Heap.get?_update_other s.heap (Obj.mapSeq f) (Ne.symm hb)).trans hu) ⟨_, q⟩ ?_
 exact ⟨hz, its', _, hv, q⟩
theorem Inv.lnew {its : List Value} {t' : Nat} (I : Inv X pins σ H s) (hv : qT ys its) (hz : ys.length <= sizeLine) :
  Inv X pins σ (upd H s.heap.objs.size (.lst ys)) { s with heap := s.heap.push { cls := .type "list", data := .seq its.toArray }, toks := t' } :=
 I.laid (fun _ _ q => Heap.get?_push_of_some _ q) (Nat.le_refl _) ⟨hz, its, 0, hv, Heap.get?_push_size _ rfl⟩
theorem Inv.fresh (I : Inv X pins σ H s) : H s.heap.objs.size = none := I.hok.fresh (Nat.le_refl _)
theorem Inv.lstM (I : Inv X pins σ H s) (hH : H l = some (.lst xs)) : xs.length <= sizeLine /\ ∃ (its : List Value) (n : Nat), qT xs its /\ xs.length = its.length /\ s.heap.get? l = some { cls := .type "list", data := .seq its.toArray n } := by
 obtain ⟨z, its, n, r, e⟩ := I.hok l _ hH
 exact ⟨z, its, n, r, r.length, e⟩
theorem qcL {n : Nat} (h : n <= sizeLine) : Builtin.List.listTooLong n = false := by
 unfold Builtin.List.listTooLong
 exact decide_eq_false (by omega)
end
section
variable {X : Cx}
def qhE : V -> List V -> Hp -> VK -> Prop := fun x vs H Q => ∃ l xs y, x = .ref l /\ vs = [y] /\ H l = some (.lst xs) /\ xs.length < sizeLine /\ Q .non (upd H l (.lst (xs ++ [y])))
theorem va : MtM X "list.append" qhE := by
 intro pins s σ H x vs v us Q I rx rv h
 obtain ⟨l, xs, y, rfl, rfl, hH, hz, q⟩ := h
 cases rx
 obtain ⟨u, rfl, ru⟩ := rv.one
 obtain ⟨z, its, n, r, hl, e⟩ := I.lstM hH
 refine call_meets F.slot_list_append ⟨_, e, rfl⟩ F.entry_list_append (F.args_list_append_2 _ _) (PySem.list_append l its.toArray n u (by rw [sT_]; omega)) ⟨e, ?_⟩
 refine ⟨.non, _, I.lset (its' := its ++ [u]) hH e (by simp) (r.append (.cons ru .nil)) ?_, rfl, q⟩
 rw [lA_, List.length_singleton]
 omega
def qhF : V -> List V -> Hp -> VK -> Prop := fun x vs H Q => ∃ l b xs zs, x = .ref l /\ vs = [.ref b] /\ H l = some (.lst xs) /\ H b = some (.lst zs) /\ xs.length + zs.length <= sizeLine /\ Q .non (upd H l (.lst (xs ++ zs)))
theorem qjR : MtM X "list.extend" qhF := by
 intro pins s σ H x vs v us Q I rx rv h
 obtain ⟨l, b, xs, zs, rfl, rfl, hH, hB, hz, q⟩ := h
 cases rx
 obtain ⟨u, rfl, ru⟩ := rv.one
 cases ru
 obtain ⟨z, its, n, r, hl, e⟩ := I.lstM hH
 obtain ⟨z2, its2, n2, r2, hl2, e2⟩ := I.lstM hB
 have hsz : its.toArray.size + its2.toArray.size <= sizeLine := by rw [sT_, sT_]; omega
 have hlong : ¬ (!its.toArray.isEmpty && Builtin.List.listTooLong (its.toArray.size + its2.toArray.size)) = true := by
  rw [qcL hsz, Bool.and_false]
  exact Bool.false_ne_true
 refine call_meets F.slot_list_extend ⟨_, e, rfl⟩ F.entry_list_extend (F.args_list_extend_2 _ _)
  (AutoSeq1.list_extend_list_list_0 l its.toArray n b its2.toArray n2 hlong (by rw [sT_]; omega) (by omega)) ⟨e, e2, ?_⟩
 refine ⟨.non, _, I.lset (its' := its ++ its2) hH e (by simp) (r.append r2) ?_, rfl, q⟩
 rw [lA_]
 omega
def qmz : R2 := fun x y H Q => ∃ l b xs zs, x = .ref l /\ y = .ref b /\ H l = some (.lst xs) /\ H b = some (.lst zs) /\ xs.length + zs.length <= sizeLine /\ ∀ p, H p = none -> Q (.ref p) (upd H p (.lst (xs ++ zs)))
theorem qjS : OpR X (binaryOp .Add) qmz := by
 intro pins s σ H x y v u Q I rx ry h
 obtain ⟨l, b, xs, zs, rfl, rfl, hH, hB, hz, q⟩ := h
 cases rx
 cases ry
 obtain ⟨z, its, n, r, hl, e⟩ := I.lstM hH
 obtain ⟨z2, its2, n2, r2, hl2, e2⟩ := I.lstM hB
 refine PySem.P.add_list e e2 ?_ (by rw [sT_, sT_]; omega)
 have ea : its.toArray ++ its2.toArray = (its ++ its2).toArray := by simp
 rw [ea]
 exact ⟨.ref _, _, I.lnew (t' := s.toks) (r.append r2) (by rw [lA_]; omega), rfl, q _ I.fresh⟩
def qmA : R2 := fun x y H Q => ∃ l k xs, x = .ref l /\ y = .int k /\ H l = some (.lst xs) /\ -(2 ^ 63) <= k /\ k < 2 ^ 63 /\ xs.length * k.toNat <= sizeLine /\
 ∀ p, H p = none -> Q (.ref p) (upd H p (.lst (List.replicate k.toNat xs).flatten))
theorem qck {α : Type} (xs : List α) (k : Nat) : (List.replicate k xs).flatten.length = k * xs.length := by
 induction k with
 | zero => simp
 | succ k ih => rw [rS_, List.flatten_cons, lA_, ih, Nat.succ_mul, Nat.add_comm]
theorem qgN : OpR X (binaryOp .Mult) qmA := by
 intro pins s σ H x y v u Q I rx ry h
 obtain ⟨l, k, xs, rfl, rfl, hH, h1, h2, hz, q⟩ := h
 cases rx
 obtain ⟨t, rfl⟩ := ry
 obtain ⟨z, its, n, r, hl, e⟩ := I.lstM hH
 have hlen : its.toArray.size * k.toNat <= sizeLine := by rw [sT_, <- hl]; exact hz
 have hcap : ¬ its.toArray.size * k.toNat > (2 ^ 63 - 1) / 8 := by
  have : (sizeLine : Nat) <= (2 ^ 63 - 1) / 8 := by decide
  omega
 have hfit : ¬ (!Builtin.List.listFitsIndex k) = true := by
  rw [fitsIndex_both h1 h2]
  exact Bool.false_ne_true
 have hlong : ¬ Builtin.List.listTooLong (its.toArray.size * k.toNat) = true := by
  rw [qcL hlen]
  exact Bool.false_ne_true
 have hnew : List.foldl (fun x1 x2 => x1 ++ x2) #[] (List.replicate (if its.toArray.isEmpty = true then 0 else k.toNat) its.toArray) = (List.replicate k.toNat its).flatten.toArray := by
  have f0 : ∀ m : Nat, List.foldl (fun x1 x2 => x1 ++ x2) #[] (List.replicate m its.toArray) = (List.replicate m its).flatten.toArray := fun m => by
   have := wH its m []
   rw [List.nil_append] at this
   exact this
  rw [f0]
  cases its with
  | nil => simp
  | cons a r' => rw [if_neg (by simp)]
 refine wpAny_binaryOp_repeat_ref (T := "list") (U := "int") (by decide) ⟨_, e, rfl⟩ (fun s' => typeIs_int s' k t) noFill_list_mul F.fills_int_mul F.slot_int_rmul repeat_list F.slot_int_index.lookup
  (call_meets F.slot_int_rmul (typeIs_int s k t) F.entry_int_rmul (F.args_int_rmul_2 _ _) (int___rmul___int_list k t l its.toArray n)
   ⟨e, rfl, ⟨_, e, rfl⟩, call_meets F.slot_list_mul ⟨_, e, rfl⟩ F.entry_list_mul (F.args_list_mul_2 _ _) (AutoListH.list___mul___list_int_3 l its.toArray n k t hfit hcap hlong) ⟨e, ?_⟩⟩)
 rw [hnew]
 exact ⟨.ref _, _, I.lnew (t' := s.toks) (r.rep k.toNat) (by rw [qck, Nat.mul_comm]; exact hz), rfl, q _ I.fresh⟩
end
section
variable {prog : Program} {w : World} {A : Around} {E : Value -> Shared -> Prop} {s : Shared}
set_option maxRecDepth 100000 in
end
section
variable {X : Cx}
end
end L2
namespace Att
open PySem PySem.W PySem.Calls PyProof.Rows
theorem wJ {P : Params} {h : Heap} : ∀ (ns : List Int) (vs : List Value), WellAll P h vs (ns.map WData.int) -> IntsAre vs ns := by
 intro ns
 induction ns with
 | nil =>
  intro vs w
  rw [List.map_nil] at w
  cases w
  exact .nil
 | cons n ns ih =>
  intro vs w
  rw [mC_] at w
  cases w with
  | cons a b =>
   cases a
   exact .cons _ _ (ih _ b)
theorem qel {l : OpenLaw} {n : Nat} (hn : l.most = some n) {P : Params} {h : Heap} {args : List WData} {vals : List Value}
  (hpre : l.row.toRowW.claim.pre args = true) (hwl : WellAll P h vals args) :
  ∃ a vs ns, vals = [Value.ref a] /\ args = [WData.list (ns.map WData.int)] /\ h.get? a = some { cls := .type "list", data := .seq vs.toArray } /\ IntsAre vs ns /\ ns.length <= n := by
 have hsh : WShape.hasAll [] args [.list .int] = true := (pre_splitW hpre).1
 have hc : l.pre.holds [] { args := args } = true := (pre_splitW hpre).2
 obtain ⟨d, r, rfl, h1, h2⟩ := hasAllW_cons hsh
 obtain rfl := hasAllW_nil h2
 obtain ⟨xs, rfl, h3⟩ := hasW_list h1
 obtain ⟨ns, rfl⟩ := items_int h3
 have hlen : ns.length <= n := by
  unfold OpenLaw.pre at hc
  have h4 : (WTm.not (.lt (.lit (.int (n : Int))) (.len (.arg 0)))).holds [] { args := [.list (ns.map .int)] } = true := by
   have h4 := (holds_andW hc).1
   rw [hn] at h4
   exact h4
  have h5 := condW_of h4 (w_not (w_lt w_lit (w_len_list (w_arg rfl))))
  rw [lM_] at h5
  refine Nat.le_of_not_lt fun q => ?_
  have q' : (n : Int) < ((ns.length : Nat) : Int) := by omega
  first
   | (rw [decide_eq_true q'] at h5; exact absurd h5 (by decide))
   | (simp at h5; omega)
 cases hwl with
 | cons w1 w2 =>
  cases w2
  cases w1 with
  | list ho hall => exact ⟨_, _, ns, rfl, rfl, ho, wJ ns _ hall, hlen⟩
theorem qem (l : OpenLaw) (args : List WData) : l.row.toRowW.claim.post args (.bool true) args = true :=
 postW_of (r := l.row.toRowW) (X := (true == true))
  (show WShape.has [] (.bool true) .bool = true by first | rfl | decide | simp [WShape.has, WShape.arms, WShape.armsAll])
  (show (WTm.eq .res (.lit (.bool true))).value [] { args := args, res := some (.bool true), after := args } = some (.bool (true == true)) from w_eq_bool (w_res rfl) w_lit) rfl
theorem attach_call {l : OpenLaw} {n : Nat} {q : Program} {loose : List Str} {XP : (Str -> Option Value) -> Heap -> Prop} {YP : World -> Heap -> Prop} {d : DefRec}
  (hn : l.most = some n) (hdf : d.params.defaults = [])
  (call : ∀ (w : World) (s₀ s₁ : Shared) (mg mb : Str -> Option Value) (fa : Addr) (o : Obj) (pm cd doc : Value) (a : Addr) (vs : List Value) (ns : List Int),
   Ground q loose [] XP w s₀ mg mb s₁.heap -> YP w s₁.heap ->
   s₁.heap.get? fa = some o -> o.data = .func (docDef d.name d.params d.body d.scope pm cd doc) -> s₁.heap.CodeRec cd d.name -> mg d.name = some (.ref fa) ->
   s₁.heap.get? a = some { cls := .type "list", data := .seq vs.toArray } -> IntsAre vs ns -> ns.length <= n -> s₁.gens = #[] ->
   codeAny (model l.prog w) callerA (.call (.ref fa) ⟨[.ref a], []⟩) (fun r s' => r = .ok (.ret (.bool true)) /\ OldK s₁.heap s'.heap /\ s'.os = s₁.os /\ AllBare s'.gens) s₁) :
  WalkO q loose XP YP l.row.toRowW d [] (fun f vs => PySem.call f vs) := by
 intro w s₀ s₁ mg mb G Y fa o pm cd doc dV kV ho hd hcd hD hmg hg args vals as hpre hlay hrd hwl hlo
 obtain rfl : dV = .none := Dflts.none hD hdf
 obtain rfl : kV = .none := Dflts.noKw hD
 obtain ⟨a, vs, ns, rfl, rfl, hobj, hints, hlen⟩ := qel hn hpre hwl
 refine enter_call (codeAny_mono (call w s₀ s₁ mg mb fa o pm cd doc a vs ns G Y ho (fd_plain hd) hcd hmg hobj hints hlen hg) fun r s' hq => ?_)
 obtain ⟨rfl, h2, h3, h4⟩ := hq
 exact ⟨.inl ⟨.bool true, .bool true, [], rfl, fun _ => rfl, .bool true, qem l _, fun _ => ⟨List.Pairwise.nil, fun _ hm => (nomatch hm)⟩⟩, h2, h3, h4⟩
section
variable {prog : Program} {w : World} {A : Around} {E : Value -> Shared -> Prop} {s : Shared} {K : Frag}
end
end Att
namespace L2
open PySem PySem.Spec PyProof.Rows
theorem qbz : ∀ {vs : List Value} {ns : List Int}, IntsAre vs ns -> qT (ns.map V.int) vs
 | _, _, .nil => .nil
 | _, _, .cons n t h => .cons ⟨t, rfl⟩ (qbz h)
def qlo (H : Hp) : Prop := ∀ b, H b = none \/ (∃ o xs, H b = some (.frz o (.lst xs))) \/ ∃ pos q, H b = some (.lam pos q)
def qlp : Option (Addr × Addr × Pos × Str) -> Hp
 | some (_, Pt, pos, q) => fun b => if b = Pt then some (.lam pos q) else none
 | none => fun _ => none
theorem qfV {P : Program} {w : World} {K : PySem.W.Frag} {mg mb : Str -> Option Value} {CX : CXT} {k : Nat} {fa a : Addr} {fd : FuncData} {x : Str} {sp : Sp} {s₁ : Shared} {vs : List Value} {ns : List Int} {lm : Option (Addr × Addr × Pos × Str)}
  (KX : K.In s₁.heap) (hns : s₁.heap.Ns mainGlobals mg) (hb : s₁.heap.Ns builtinsNs mb) (hbb : ∀ x : Str, x ≠ "__name__" -> mb x = bootBuiltins x) (hlim : s₁.heap.NoLimit)
  (hbm : ∃ bm ob, mg "__builtins__" = some (.ref bm) /\ bm ≠ builtinsNs /\ s₁.heap.get? bm = some ob /\ ob.cls = .type "module" /\ ob.dict = some builtinsNs /\ ob.data = .plain)
  (hlm : ∀ c Pt pos q, lm = some (c, Pt, pos, q) -> PySem.W.CodeHd s₁.heap c Pt /\ s₁.heap.get? Pt = some (PySem.W.tabObj #[]) /\ K.lookup Pt = none)
  (hg : s₁.gens = #[])
  (ha : s₁.heap.get? a = some { cls := .type "list", data := .seq vs.toArray }) (hi : IntsAre vs ns) (hl : ns.length <= sizeLine) (hr : yH k callerA)
  (F : ∀ base : Heap, K.In base -> base.Ns mainGlobals mg -> ub P w K mg base CX k fa fd [x] sp) (hbind : ∀ (s : Shared) (u : Value), BindsTo s fd ⟨[u], []⟩ [(x, u)])
  (hsp : ∀ H : Hp, qlo H -> (∀ c Pt pos q, lm = some (c, Pt, pos, q) -> H Pt = some (.lam pos q)) -> SqL K H a (ns.map V.int) -> sp [.ref a] H (fun v _ => v = .bl true) fun _ _ _ => False)
  (hCX : ∀ H e s', CX [] H s₁ (fun _ _ _ => False) e s' -> False) :
  codeAny (model P w) callerA (.call (.ref fa) ⟨[.ref a], []⟩) (fun r s' => r = .ok (.ret (.bool true)) /\ OldK s₁.heap s'.heap /\ s'.os = s₁.os /\ AllBare s'.gens) s₁ := by
 have rv := qbz hi
 have lenV := hi.length
 have core : ∀ H : Hp, qlo H -> (∀ c Pt pos q, lm = some (c, Pt, pos, q) -> H Pt = some (.lam pos q)) -> SqL K H a (ns.map V.int) -> HOk P w H s₁.heap ->
   (∀ b u, H b = some u -> K.lookup b = none /\ ((∃ o xs, u = .frz o (.lst xs)) \/ ∃ c pos q, lm = some (c, b, pos, q) /\ u = .lam pos q)) ->
   codeAny (model P w) callerA (.call (.ref fa) ⟨[.ref a], []⟩) (fun r s' => r = .ok (.ret (.bool true)) /\ OldK s₁.heap s'.heap /\ s'.os = s₁.os /\ AllBare s'.gens) s₁ := by
  intro H hO hT hS hok hA
  have base_of : ∀ {b : Addr} {o : Obj}, s₁.heap.get? b = some o -> H b = none -> (qfI s₁.heap H).get? b = some o := fun e n => qfJ e n
  have noD : ∀ {b : Addr} {o : Obj}, s₁.heap.get? b = some o -> (∀ its n, o.data ≠ .seq its n) -> (∀ f, o.data ≠ .fields f) -> H b = none := fun {b o} e d1 d2 => by
   cases q : H b with
   | none => rfl
   | some u =>
    rcases (hA b u q).2 with ⟨ob, xs, rfl⟩ | ⟨c, pos, q', hl2, rfl⟩
    ·obtain ⟨e1, _, its, n, _, e2⟩ := hok b _ q
     rw [e] at e2; cases e2
     exact (d1 _ _ rfl).elim
    ·have e2 := (hlm _ _ _ _ hl2).2.1
     rw [e] at e2; cases e2
     exact (d2 _ rfl).elim
  have nsK : ∀ {b : Addr} {m : Str -> Option Value}, s₁.heap.Ns b m -> (qfI s₁.heap H).Ns b m := fun {b m} ⟨o, es, ep, e, d, r⟩ => ⟨o, es, ep, base_of e (noD e (fun _ _ z => by rw [d] at z; cases z) fun _ z => by rw [d] at z; cases z), d, r⟩
  have hKb : K.In (qfI s₁.heap H) := fun b o e => base_of (KX b o e) (by
   cases q : H b with
   | none => rfl
   | some u => rw [(hA b u q).1] at e; cases e)
  have hM : Mod K mg (qfI s₁.heap H) := ⟨hKb, nsK hns, ⟨mb, nsK hb, hbb⟩, let ⟨mc, h1, h2⟩ := hlim; ⟨mc, nsK h1, h2⟩,
   let ⟨bm, ob, b1, b2, b3, b4, b5, b6⟩ := hbm; ⟨bm, ob, b1, b2, base_of b3 (noD b3 (fun _ _ z => by rw [b6] at z; cases z) fun _ z => by rw [b6] at z; cases z), b4, b5, b6⟩⟩
  have e0 : qi4 P w K mg (qfI s₁.heap H) callerA [] s₁ H := ⟨rfl, hM, fun b o e => qhk e, Nat.le_of_eq (qd3 _ _), trivial, fun b hb => absurd (show b ∈ ([] : List Addr) from hb) (by simp), hok, .of_eq hg⟩
  refine codeAny_mono ((F _ hKb (nsK hns)).run callerA [] s₁ H ⟨[.ref a], []⟩ [.ref a] [.ref a] _ _ hr e0 (hbind s₁ (.ref a)) (.cons rfl .nil) (hsp H hO hT hS)) fun r s' h => ?_
  cases r with
  | error e => exact (hCX H e s' h).elim
  | ok fl =>
   cases fl with
   | next => exact False.elim h
   | brk => exact False.elim h
   | cont => exact False.elim h
   | ret u =>
    obtain ⟨v, H', os, bare, un, hok', r', q⟩ := h
    have q' : v = .bl true := q
    subst q'
    obtain rfl : u = Value.bool true := r'
    have asIt : ∀ b o, s₁.heap.get? b = some o -> asItWas s₁.heap s'.heap b o := fun b o e => by
     cases q : H b with
     | none => exact .inl (un.keep b o e q (by intro z; exact absurd (show b ∈ ([] : List Addr) from z) (by simp)) (by simp))
     | some u =>
      rcases (hA b u q).2 with ⟨ob, xs, rfl⟩ | ⟨c, pos, q2, hl2, rfl⟩
      ·have z2 := un.frzs b ob _ q
       obtain ⟨e1, _⟩ := hok b _ q
       obtain ⟨e2, _⟩ := hok' b _ z2
       rw [e] at e1; cases e1
       exact .inl e2
      ·obtain ⟨hc, e2, _⟩ := hlm _ _ _ _ hl2
       rw [e] at e2; cases e2
       rcases hok' b _ (un.tbls b pos q2 q) with z | ⟨c', oc, vs', t, _, _, _, z⟩
       ·exact .inl z
       ·exact .inr (.inl ⟨(hc.tab e).isCodeTable, rfl, #[], _, rfl, by rw [Array.empty_append]; exact z⟩)
    exact ⟨rfl, ⟨asIt, fun b o e => un.there b o e (by simp)⟩, os, bare⟩
 let T : Hp := qlp lm
 have hTb : ∀ b u, T b = some u -> ∃ c pos q, lm = some (c, b, pos, q) /\ u = .lam pos q := fun b u z => by
  cases hq : lm with
  | none => simp only [T, hq, qlp] at z; cases z
  | some p =>
   obtain ⟨c, Pt, pos, q⟩ := p
   simp only [T, hq, qlp] at z
   by_cases hbp : b = Pt
   ·rw [if_pos hbp] at z; cases z
    exact ⟨c, pos, q, by rw [hbp], rfl⟩
   ·rw [if_neg hbp] at z; cases z
 have hTa : T a = none := by
  cases q : T a with
  | none => rfl
  | some u =>
   obtain ⟨c, pos, q2, hl2, _⟩ := hTb a u q
   have := (hlm _ _ _ _ hl2).2.1
   rw [ha] at this; cases this
 have hTt : ∀ c Pt pos q, lm = some (c, Pt, pos, q) -> T Pt = some (.lam pos q) := fun c Pt pos q e => by
  simp only [T, e, qlp, if_true]
 cases hk : K.lookup a with
 | some o =>
  have e := KX a o hk
  rw [ha] at e
  cases e
  refine core T (fun b => ?_) hTt (.inr ⟨_, vs.toArray, _, hk, rfl, rfl, rfl, by rw [sT_, lenV]; exact hl, by simpa using rv⟩) (fun b u z => ?_) (fun b u z => ?_)
  ·cases q : T b with
   | none => exact .inl rfl
   | some u => obtain ⟨_, pos, q2, _, rfl⟩ := hTb b u q; exact .inr (.inr ⟨pos, q2, rfl⟩)
  ·obtain ⟨c, pos, q2, hl2, rfl⟩ := hTb b u z
   exact .inl (hlm _ _ _ _ hl2).2.1
  ·obtain ⟨c, pos, q2, hl2, rfl⟩ := hTb b u z
   exact ⟨(hlm _ _ _ _ hl2).2.2, .inr ⟨c, pos, q2, hl2, rfl⟩⟩
 | none =>
  refine core (upd T a (.frz { cls := .type "list", data := .seq vs.toArray } (.lst (ns.map V.int)))) (fun b => ?_) (fun c Pt pos q e => ?_) (.inl (.inr ⟨{ cls := .type "list", data := .seq vs.toArray }, ql⟩)) (fun b u z => ?_) (fun b u z => ?_)
  ·by_cases hb : b = a
   ·subst hb; exact .inr (.inl ⟨_, _, ql⟩)
   ·rw [qm hb]
    cases q : T b with
    | none => exact .inl rfl
    | some u => obtain ⟨_, pos, q2, _, rfl⟩ := hTb b u q; exact .inr (.inr ⟨pos, q2, rfl⟩)
  ·have h1 := hTt c Pt pos q e
   rw [qm (qB h1 hTa)]
   exact h1
  ·by_cases hb : b = a
   ·subst hb
    rw [ql] at z; cases z
    exact ⟨ha, by rw [lM_]; exact hl, vs, _, rv, ha⟩
   ·rw [qm hb] at z
    obtain ⟨c, pos, q2, hl2, rfl⟩ := hTb b u z
    exact .inl (hlm _ _ _ _ hl2).2.1
  ·by_cases hb : b = a
   ·subst hb
    rw [ql] at z; cases z
    exact ⟨hk, .inl ⟨_, _, rfl⟩⟩
   ·rw [qm hb] at z
    obtain ⟨c, pos, q2, hl2, rfl⟩ := hTb b u z
    exact ⟨(hlm _ _ _ _ hl2).2.2, .inr ⟨c, pos, q2, hl2, rfl⟩⟩
end L2
namespace L2
open PySem PySem.Spec PyProof.Rows
end L2
/- THE LAST THEOREM (shape; LID, My.* are yours):
   My.Adr: a structure of the addresses that your layer names (classes, functions); My.Txt K t: a structure (Prop) of the equations over K;
   My.txt_mk : {K} {implicit addresses ..} (e1 : nsIn K mainGlobals "law" = some (some (.ref f))) (e2 : K.lookup f = some ⟨oc, od, .func (fnOf "law" "law" params body scope dV kV doc pm an cdv ct), sl⟩) (e3 : codeIn K cdv "law" = true) .. : ∃ t, My.Txt K t
set_option maxRecDepth 100000 in
set_option maxHeartbeats 0 in
theorem PySem.Challenge.cw_LID_holds : PySem.Challenge.rw_LID.Holds := by
 w_on; o_law; k_head; (case hw => w_witness2)
 k_fill
 refine L2.walk_of (l := PySem.Challenge.rw_LID) (n := 63) (k := 40) (x := "script") (CX := fun w => ..) (sp := fun _ => My.sp_law) rfl (by decide) rfl ⟨rfl, by decide, by decide⟩ (fun w h Y => PySem.W.kIn_of Y) ?F ?S ?C
 case F =>
  intro w mg fa h KX G hmg
  have T : ∃ t, My.Txt (L2.KOf KX) t := by
   dsimp only [L2.KOf]                          -- K must stand as «<heap const> w.params» for k_is
   refine' My.txt_mk ?e1 ?e2 ?e3 ..
   (case e1 => PySem.W.k_is)                    -- in the order: a name -> its address -> its object -> its parts
   (case e2 => PySem.W.k_is)
   ..
  obtain ⟨t, T⟩ := T
  have e0 := hmg.symm.trans (PySem.W.mg_of KX G T.law)
  cases e0                                       -- fa is the law's own address
  exact ⟨_, fun s u => .of_eq rfl, fun base kb nb => My.law_fn T kb nb⟩     -- if «.of_eq rfl» comes too early: refine' ⟨_, ?b, fun base kb nb => My.law_fn T kb nb⟩; exact fun s u => .of_eq rfl
 case S => exact fun w H a ns hl hO hS => ..
 case C => exact ..
(the tactic k_is has no namespace: write k_is) -/
namespace L2
open PySem PySem.Spec PyProof.Rows
def qv (s : Stmt) : Arguments := match s with
 | .FunctionDef _ a _ _ _ _ _ _ _ _ => a
 | _ => { posonlyargs := [], args := [], vararg := none, kwonlyargs := [], kw_defaults := [], kwarg := none, defaults := [] }
def qo (s : Stmt) : List Stmt := match s with
 | .FunctionDef _ _ b _ _ _ _ _ _ _ => b
 | _ => []
def qe (s : Stmt) : Scope := match s with
 | .FunctionDef _ _ _ _ _ _ sc _ _ _ => sc
 | _ => { kind := .function, names := [], isGenerator := false, isCoroutine := false }
abbrev CX0 : CXT := fun _ _ _ _ _ _ => False
abbrev E0 : XK := fun _ _ _ => False
theorem qhG {X : Cx} : wC CX0 X E0 := fun _ _ _ _ _ _ _ h => h.elim
structure Fun (K : PySem.W.Frag) (x qual : Str) (st : Stmt) (f : Addr) (fd : FuncData) : Prop where
 ex : ∃ (oc : Value) (od : Option Addr) (kV doc pm : Value) (an : Option Addr) (cdv ct : Value) (osl : Array (Option Value)),
  fd = PySem.W.fnOf x qual (qv st) (qo st) (qe st) .none kV doc pm an cdv ct /\ K.lookup f = some ⟨oc, od, .func fd, osl⟩ /\ PySem.W.codeIn K cdv qual = true
 kp : PySem.W.keepIn K (.ref f) = true
section
variable {P : Program} {w : World} {K : PySem.W.Frag} {mg : Str -> Option Value} {base : Heap}
theorem Fun.ok {x qual : Str} {st : Stmt} {f : Addr} {fd : FuncData} {N ps : List Str} {k : Nat} {sp : Sp} (F : Fun K x qual st f fd) (S : qp N ps (qe st)) (len : ∀ vs H Q E, sp vs H Q E -> vs.length = ps.length)
  (hbody : ∀ (cdv : Value) (A : Around) (outer : List Env) (s : Shared) (H : Hp) (vs : List V) (Q : VK) (E : XK), yH k (A.deeper (envOfC qual (qe st) s.heap.objs.size f cdv)) -> sp vs H Q E ->
   ∃ t, PSs (qef CX0 P w K mg base N qual (qe st) f cdv A outer s H E).nox (qo st) t /\ t { nx := fun _ H' => Q .non H', rt := Q } (qU N vs) H) : ub P w K mg base CX0 (k + 1) f fd ps sp := by
 obtain ⟨oc, od, kV, doc, pm, an, cdv, ct, osl, rfl, lk, hcd⟩ := F.ex
 refine qhy lk hcd S len fun A outer s H vs Q E hr hsp => ?_
 obtain ⟨t, h, q⟩ := hbody cdv A outer s H vs Q E hr hsp
 exact ⟨t, h.nox, q⟩
theorem Fun.binds {x qual : Str} {st : Stmt} {f : Addr} {fd : FuncData} {ps : List Str} (F : Fun K x qual st f fd)
  (h : ∀ (kV doc pm : Value) (an : Option Addr) (cdv ct : Value) (us : List Value), us.length = ps.length -> bindArgs (PySem.W.fnOf x qual (qv st) (qo st) (qe st) .none kV doc pm an cdv ct) ⟨us, []⟩ = pure (ps.zip us)) : uc K fd ps [] := by
 obtain ⟨oc, od, kV, doc, pm, an, cdv, ct, osl, rfl, lk, hcd⟩ := F.ex
 exact .all (h kV doc pm an cdv ct)
theorem qF {x qual : Str} {st : Stmt} {f : Addr} {oc : Value} {od an : Option Addr} {osl : Array (Option Value)} {kV doc pm cdv ct : Value} (l : K.lookup f = some ⟨oc, od, .func (PySem.W.fnOf x qual (qv st) (qo st) (qe st) .none kV doc pm an cdv ct), osl⟩)
  (c : PySem.W.codeIn K cdv qual = true) (k : PySem.W.keepIn K (.ref f) = true) : Fun K x qual st f (PySem.W.fnOf x qual (qv st) (qo st) (qe st) .none kV doc pm an cdv ct) := ⟨⟨oc, od, kV, doc, pm, an, cdv, ct, osl, rfl, l, c⟩, k⟩
end
section
variable {X : Cx}
end
theorem qjT {A B : Prop} (h : B) : if false = true then A else B := by
 rw [if_neg Bool.false_ne_true]
 exact h
theorem qjU {A B : Prop} (h : A) : if true = true then A else B := by
 rw [if_pos rfl]
 exact h
def zM (H H' : Hp) : Prop := ∀ b o, H b = some o -> H' b = some o
theorem zM.refl (H : Hp) : zM H H := fun _ _ h => h
theorem zM.trans {H H1 H2 : Hp} (a : zM H H1) (b : zM H1 H2) : zM H H2 := fun c o h => b c o (a c o h)
theorem zM.free {H H' : Hp} (e : zM H H') {l : Addr} (h : H' l = Option.none) : H l = Option.none := by
 cases q : H l with
 | none => rfl
 | some o =>
  rw [e l o q] at h
  cases h
end L2
namespace L2.Sk
open PySem PySem.Spec PyProof.Rows
inductive D where
 | non | bl (b : Bool) | int (i : Int) | str (x : Str) | tup (xs : List D) | lst (xs : List D) | dic (kvs : List (Key × Int)) | fz (ns : List Int)
 | exc (n : Str)
abbrev Fr0 := PySem.W.Frag
def qgO : FuncBody -> Option Pos
 | .stmts [_, _, .Return (some (.Call _ _ [⟨_, .Lambda _ _ _ pos, _⟩] _)) _] => some pos
 | _ => none
def qah (K : Fr0) : Option (Addr × Addr × Pos) := match PySem.W.tabIn K "dearest_first", PySem.W.nsIn K mainGlobals "dearest_first" with
 | some (c, P), some (some (.ref f)) => (match K.lookup f with
  | some ⟨_, _, .func fd, _⟩ => (qgO fd.body).map fun pos => (c, P, pos)
  | _ => none)
 | _, _ => none
abbrev qi5 : Str := "dearest_first.<locals>.<lambda>"
def qmB (K : Fr0) (H : Hp) (Io : Addr -> Prop) : Prop := ∀ c P pos, qah K = some (c, P, pos) -> H P = some (.lam pos qi5) /\ ¬ Io P
abbrev qaN (K : Fr0) (H : Hp) : Prop := qmB K H fun _ => False
theorem qaN.same {K : Fr0} {H H' : Hp} (h : qaN K H) (s : zM H H') : qaN K H' := fun c P pos e => ⟨s _ _ (h c P pos e).1, fun z => z⟩
structure XK6 (K : Fr0) (D : Addr) : Prop where
 ga : PySem.W.findIn K (.ref D) "__getattribute__" = some (some (.builtin "BaseException.__getattribute__"))
 gt : PySem.W.findIn K (.ref D) "__getattr__" = some none
 cl : PySem.W.findIn K (.ref D) "__class__" = some (some (.builtin "object.__class__"))
 ob : PySem.W.mroIn K D (.type "object") = some true
 be : PySem.W.subIn K (.ref D) (.type "BaseException") = some true
 is : (PySem.W.clsIn K D).isSome = true
 no : ∀ T ∈ ["int", "bool", "str", "tuple", "list", "dict"], PySem.W.kitOne K (.ref D) (.type T) = some false
def ud (K : Fr0) (n : Str) : Option Addr := match PySem.W.nsIn K mainGlobals n with
 | some (some (.ref C)) => some C
 | _ => none
def clR (K : Fr0) (RN : List Str) (n : Str) : Option Addr := if RN.contains n then ud K n else none
theorem vT {K : Fr0} {RN : List Str} {n : Str} {C : Addr} (h : clR K RN n = some C) : RN.contains n = true /\ ud K n = some C := by
 unfold clR at h
 split at h
 ·rename_i hn; exact ⟨hn, h⟩
 ·cases h
def qnh (K : Fr0) (H : Hp) (a : Addr) (n : Str) : Prop := ∃ C, ud K n = some C /\ XK6 K C /\ ∃ o vs, H a = some (.frz o (.own a)) /\ o.cls = .ref C /\ o.data = .fields vs
def uF (K : Fr0) (H : Hp) (a : Addr) (xs : List V) : Prop :=
 H a = some (.tup xs) \/ ∃ (o : Obj) (its : Array Value) (n : Nat), K.lookup a = some o /\ o.cls = .type "tuple" /\ o.data = .seq its n /\ its.size <= sizeLine /\ qT xs its.toList
def qjV (K : Fr0) (H : Hp) (a : Addr) (xs : List V) : Prop :=
 (∃ o, H a = some (.frz o (.lst xs))) \/ ∃ (o : Obj) (its : Array Value) (n : Nat), K.lookup a = some o /\ o.cls = .type "list" /\ o.dict = none /\ o.data = .seq its n /\ its.size <= sizeLine /\ qT xs its.toList
theorem uF.sq {K : Fr0} {H : Hp} {a : Addr} {xs : List V} (h : uF K H a xs) : SqT K H a xs := by
 rcases h with h | h
 ·exact .inl (.inl h)
 ·exact .inr h
theorem qjV.sq {K : Fr0} {H : Hp} {a : Addr} {xs : List V} (h : qjV K H a xs) : SqL K H a xs := by
 rcases h with h | h
 ·exact .inl (.inr h)
 ·exact .inr h
mutual
def Is (K : Fr0) (A : Addr -> Prop) (H : Hp) : D -> V -> Prop
 | .non, v => v = .non
 | .bl b, v => v = .bl b
 | .int i, v => v = .int i
 | .str x, v => v = .str x
 | .tup ds, v => ∃ a xs, v = .ref a /\ uF K H a xs /\ IsL K A H ds xs
 | .lst ds, v => ∃ a xs, v = .ref a /\ A a /\ H a = some (.lst xs) /\ IsL K A H ds xs
 | .dic kvs, v => ∃ a, v = .ref a /\ A a /\ H a = some (.dK (kvs.map fun p => (p.1, V.int p.2)))
 | .fz ns, v => ∃ a, v = .ref a /\ qjV K H a (ns.map V.int)
 | .exc n, v => ∃ a, v = .ref a /\ qnh K H a n
def IsL (K : Fr0) (A : Addr -> Prop) (H : Hp) : List D -> List V -> Prop
 | [], xs => xs = []
 | d :: ds, xs => ∃ x ys, xs = x :: ys /\ Is K A H d x /\ IsL K A H ds ys
end
mutual
def imm : D -> Bool
 | .tup ds => immL ds
 | .lst _ => false
 | .dic _ => false
 | .fz _ => false
 | _ => true
def immL : List D -> Bool
 | [] => true
 | d :: ds => imm d && immL ds
end
structure Ext (A : Addr -> Prop) (H H' : Hp) : Prop where
 tup : ∀ b xs, H b = some (.tup xs) -> H' b = some (.tup xs)
 frz : ∀ b o u, H b = some (.frz o u) -> H' b = some (.frz o u)
 at_ : ∀ b o, A b -> H b = some o -> H' b = some o
theorem Ext.refl {A : Addr -> Prop} {H : Hp} : Ext A H H := ⟨fun _ _ h => h, fun _ _ _ h => h, fun _ _ _ h => h⟩
theorem Ext.of_same {A : Addr -> Prop} {H H' : Hp} (s : zM H H') : Ext A H H' := ⟨fun b xs h => s b _ h, fun b o u h => s b _ h, fun b o _ h => s b o h⟩
mutual
theorem Is.ext {K : Fr0} {A B : Addr -> Prop} {H H' : Hp} (e : Ext A H H') (hAB : ∀ a, A a -> (H a).isSome = true -> B a) : ∀ {d : D} {v : V}, Is K A H d v -> Is K B H' d v
 | .non, _, h => h
 | .bl _, _, h => h
 | .int _, _, h => h
 | .str _, _, h => h
 | .tup ds, _, ⟨a, xs, hv, h, r⟩ => ⟨a, xs, hv, h.elim (fun h => .inl (e.tup _ _ h)) .inr, IsL.ext e hAB r⟩
 | .lst ds, _, ⟨a, xs, hv, hA, h, r⟩ => ⟨a, xs, hv, hAB a hA (by rw [h]; rfl), e.at_ _ _ hA h, IsL.ext e hAB r⟩
 | .dic kvs, _, ⟨a, hv, hA, h⟩ => ⟨a, hv, hAB a hA (by rw [h]; rfl), e.at_ _ _ hA h⟩
 | .fz ns, _, ⟨a, hv, h⟩ => ⟨a, hv, h.elim (fun ⟨o, h⟩ => .inl ⟨o, e.frz _ _ _ h⟩) .inr⟩
 | .exc n, _, ⟨a, hv, C, hc, hk, o, vs, h, r⟩ => ⟨a, hv, C, hc, hk, o, vs, e.frz _ _ _ h, r⟩
theorem IsL.ext {K : Fr0} {A B : Addr -> Prop} {H H' : Hp} (e : Ext A H H') (hAB : ∀ a, A a -> (H a).isSome = true -> B a) : ∀ {ds : List D} {xs : List V}, IsL K A H ds xs -> IsL K B H' ds xs
 | [], _, h => h
 | _ :: _, _, ⟨x, ys, hx, h, r⟩ => ⟨x, ys, hx, Is.ext e hAB h, IsL.ext e hAB r⟩
end
mutual
theorem Is.imm {K : Fr0} {A B : Addr -> Prop} {H : Hp} : ∀ {d : D} {v : V}, imm d = true -> Is K A H d v -> Is K B H d v
 | .non, _, _, h => h
 | .bl _, _, _, h => h
 | .int _, _, _, h => h
 | .str _, _, _, h => h
 | .tup ds, _, i, ⟨a, xs, hv, h, r⟩ => ⟨a, xs, hv, h, IsL.imm (by simpa [Sk.imm] using i) r⟩
 | .lst _, _, i, _ => by simp [Sk.imm] at i
 | .dic _, _, i, _ => by simp [Sk.imm] at i
 | .fz _, _, i, _ => by simp [Sk.imm] at i
 | .exc _, _, _, h => h
theorem IsL.imm {K : Fr0} {A B : Addr -> Prop} {H : Hp} : ∀ {ds : List D} {xs : List V}, immL ds = true -> IsL K A H ds xs -> IsL K B H ds xs
 | [], _, _, h => h
 | d :: ds, _, i, ⟨x, ys, hx, h, r⟩ => by
  have i' : Sk.imm d = true /\ immL ds = true := by simpa [immL] using i
  exact ⟨x, ys, hx, Is.imm i'.1 h, IsL.imm i'.2 r⟩
end
theorem IsL.length {K : Fr0} {A : Addr -> Prop} {H : Hp} : ∀ {ds : List D} {xs : List V}, IsL K A H ds xs -> xs.length = ds.length
 | [], _, h => by rw [h]; rfl
 | _ :: _, _, ⟨x, ys, hx, _, r⟩ => by rw [hx, lC_, lC_, IsL.length r]
theorem IsL.get {K : Fr0} {A : Addr -> Prop} {H : Hp} : ∀ {ds : List D} {xs : List V} {i : Nat} {d : D}, IsL K A H ds xs -> ds[i]? = some d -> ∃ x, xs[i]? = some x /\ Is K A H d x
 | [], _, _, _, _, h => by simp at h
 | e :: _, _, 0, d, ⟨x, ys, hx, h, r⟩, hd => by
  have e1 : e = d := by simpa using hd
  subst e1
  exact ⟨x, by rw [hx]; rfl, h⟩
 | _ :: ds, _, i + 1, d, ⟨x, ys, hx, h, r⟩, hd => by
  obtain ⟨y, h1, h2⟩ := IsL.get (i := i) (d := d) r (by simpa using hd)
  exact ⟨y, by rw [hx]; simpa using h1, h2⟩
theorem IsL.append {K : Fr0} {A : Addr -> Prop} {H : Hp} : ∀ {ds es : List D} {xs ys : List V}, IsL K A H ds xs -> IsL K A H es ys -> IsL K A H (ds ++ es) (xs ++ ys)
 | [], _, _, _, h, g => by rw [h]; exact g
 | _ :: _, _, _, _, ⟨x, zs, hx, h, r⟩, g => ⟨x, zs ++ _, by rw [hx]; rfl, h, IsL.append r g⟩
theorem IsL.take {K : Fr0} {A : Addr -> Prop} {H : Hp} : ∀ {ds : List D} {xs : List V} (n : Nat), IsL K A H ds xs -> IsL K A H (ds.take n) (xs.take n)
 | _, _, 0, _ => by simp [IsL]
 | [], _, _ + 1, h => by rw [h]; simp [IsL]
 | _ :: _, _, n + 1, ⟨x, ys, hx, h, r⟩ => by rw [hx]; exact ⟨x, ys.take n, rfl, h, IsL.take n r⟩
theorem IsL.drop {K : Fr0} {A : Addr -> Prop} {H : Hp} : ∀ {ds : List D} {xs : List V} (n : Nat), IsL K A H ds xs -> IsL K A H (ds.drop n) (xs.drop n)
 | _, _, 0, h => h
 | [], _, _ + 1, h => by rw [h]; simp [IsL]
 | _ :: _, _, n + 1, ⟨x, ys, hx, h, r⟩ => by rw [hx]; exact IsL.drop n r
theorem IsL.one {K : Fr0} {A : Addr -> Prop} {H : Hp} {d : D} {v : V} (h : Is K A H d v) : IsL K A H [d] [v] := ⟨v, [], rfl, h, rfl⟩
theorem IsL.set {K : Fr0} {A : Addr -> Prop} {H : Hp} {d : D} {v : V} (hd : Is K A H d v) : ∀ {ds : List D} {xs : List V} (n : Nat), IsL K A H ds xs -> IsL K A H (ds.set n d) (xs.set n v)
 | [], _, _, h => by rw [h]; simp [IsL]
 | _ :: _, _, 0, ⟨x, ys, hx, h, r⟩ => by rw [hx]; exact ⟨v, ys, rfl, hd, r⟩
 | _ :: _, _, n + 1, ⟨x, ys, hx, h, r⟩ => by rw [hx]; exact ⟨x, ys.set n v, rfl, h, IsL.set hd n r⟩
abbrev Env := List (Option D)
structure Exn where
 cls : Str
 val : D
inductive R (α : Type) where
 | ok (a : α) | exc (x : Exn) (ρ : Env) | bad
structure Fc where
 O : List Nat
 P : List Nat
 B : Addr -> Prop
 H0 : Hp
 Io : Addr -> Prop
 E : Exn -> Hp -> Prop
 S : Nat -> Option (Option V)
def Cl (O : List Nat) (σ : St) (a : Addr) : Prop := ∀ j ∈ O, σ[j]? ≠ some (some (.ref a))
def Cn (c : Fc) (σ : St) (a : Addr) : Prop := c.B a /\ Cl c.O σ a
structure Rep (K : Fr0) (c : Fc) (ρ : Env) (σ : St) (H : Hp) : Prop where
 len : ρ.length = σ.length
 val : ∀ i d, ρ[i]? = some (some d) -> ∃ v, σ[i]? = some (some v) /\
  ((i ∈ c.O /\ ∃ ds a xs, d = .lst ds /\ v = .ref a /\ H a = some (.lst xs) /\ IsL K (Cn c σ) H ds xs) \/ (i ∉ c.O /\ Is K (Cn c σ) H d v))
 own : ∀ j ∈ c.O, ∀ v, σ[j]? = some (some v) -> ∃ a xs, v = .ref a /\ H a = some (.lst xs) /\ (c.H0 a = none \/ (j ∈ c.P /\ c.Io a))
 inj : ∀ i j a, i ∈ c.O -> j ∈ c.O -> σ[i]? = some (some (.ref a)) -> σ[j]? = some (some (.ref a)) -> i = j
 b0 : (∀ a, c.H0 a = none -> c.B a) /\ qmB K c.H0 c.Io
 kp : ∀ b o, c.H0 b = some o -> ¬ c.Io b -> H b = some o
 dm : ∀ b, H b = none -> c.H0 b = none
 pO : ∀ j ∈ c.P, j ∈ c.O
 ps : ∀ j ∈ c.P, σ[j]? = c.S j
theorem Rep.tb {K : Fr0} {c : Fc} {ρ : Env} {σ : St} {H : Hp} (r : Rep K c ρ σ H) : qaN K H := fun q P pos e => ⟨r.kp P _ (r.b0.2 q P pos e).1 (r.b0.2 q P pos e).2, fun z => z⟩
structure Gr (O : List Nat) (σ : St) (H H' : Hp) : Prop where
 ext : Ext (Cl O σ) H H'
 dom : ∀ b, H' b = none -> H b = none
theorem Gr.refl {O : List Nat} {σ : St} {H : Hp} : Gr O σ H H := ⟨Ext.refl, fun _ h => h⟩
theorem Gr.of_same {O : List Nat} {σ : St} {H H' : Hp} (s : zM H H') : Gr O σ H H' := ⟨Ext.of_same s, fun _ h => s.free h⟩
theorem Gr.trans {O : List Nat} {σ : St} {H H1 H2 : Hp} (a : Gr O σ H H1) (b : Gr O σ H1 H2) : Gr O σ H H2 :=
 ⟨⟨fun c xs h => b.ext.tup c xs (a.ext.tup c xs h), fun c o u h => b.ext.frz c o u (a.ext.frz c o u h), fun c o hc h => b.ext.at_ c o hc (a.ext.at_ c o hc h)⟩, fun c h => a.dom c (b.dom c h)⟩
theorem Gr.cn {c : Fc} {σ : St} {H H' : Hp} (g : Gr c.O σ H H') : Ext (Cn c σ) H H' := ⟨g.ext.tup, g.ext.frz, fun b o hb h => g.ext.at_ b o hb.2 h⟩
theorem Gr.is {K : Fr0} {c : Fc} {σ : St} {H H' : Hp} {d : D} {v : V} (g : Gr c.O σ H H') (h : Is K (Cn c σ) H d v) : Is K (Cn c σ) H' d v := Is.ext g.cn (fun _ h _ => h) h
theorem Gr.isL {K : Fr0} {c : Fc} {σ : St} {H H' : Hp} {d : List D} {v : List V} (g : Gr c.O σ H H') (h : IsL K (Cn c σ) H d v) : IsL K (Cn c σ) H' d v := IsL.ext g.cn (fun _ h _ => h) h
theorem Rep.new {K : Fr0} {c : Fc} {ρ : Env} {σ : St} {H : Hp} (r : Rep K c ρ σ H) {a : Addr} (h : H a = none) : Cn c σ a :=
 ⟨r.b0.1 a (r.dm a h), fun j hj e => by obtain ⟨b, xs, e1, e2, _⟩ := r.own j hj _ e; cases e1; rw [h] at e2; cases e2⟩
theorem Rep.same {K : Fr0} {c : Fc} {ρ : Env} {σ : St} {H H' : Hp} (r : Rep K c ρ σ H) (s : zM H H') : Rep K c ρ σ H' where
 len := r.len
 val := fun i d h => by
  obtain ⟨v, h1, h2⟩ := r.val i d h
  refine ⟨v, h1, ?_⟩
  rcases h2 with ⟨hi, ds, a, xs, h3, h5, h6, h7⟩ | ⟨hi, h3⟩
  ·exact .inl ⟨hi, ds, a, xs, h3, h5, s _ _ h6, IsL.ext (Ext.of_same s) (fun _ h _ => h) h7⟩
  ·exact .inr ⟨hi, Is.ext (Ext.of_same s) (fun _ h _ => h) h3⟩
 own := fun j hj v h => by
  obtain ⟨a, xs, h1, h2, h3⟩ := r.own j hj v h
  exact ⟨a, xs, h1, s _ _ h2, h3⟩
 inj := r.inj
 b0 := r.b0
 kp := fun b o h1 h2 => s _ _ (r.kp b o h1 h2)
 dm := fun b h => r.dm b (s.free h)
 pO := r.pO
 ps := r.ps
theorem Rep.get {K : Fr0} {c : Fc} {ρ : Env} {σ : St} {H : Hp} (r : Rep K c ρ σ H) {i : Nat} {d : D} (hi : i ∉ c.O) (h : ρ[i]? = some (some d)) : ∃ v, σ[i]? = some (some v) /\ Is K (Cn c σ) H d v := by
 obtain ⟨v, h1, h2⟩ := r.val i d h
 rcases h2 with ⟨h3, _⟩ | ⟨_, h3⟩
 ·exact absurd h3 hi
 ·exact ⟨v, h1, h3⟩
theorem Rep.getO {K : Fr0} {c : Fc} {ρ : Env} {σ : St} {H : Hp} (r : Rep K c ρ σ H) {i : Nat} {d : D} (hi : i ∈ c.O) (h : ρ[i]? = some (some d)) :
  ∃ ds a xs, d = .lst ds /\ σ[i]? = some (some (.ref a)) /\ H a = some (.lst xs) /\ IsL K (Cn c σ) H ds xs := by
 obtain ⟨v, h1, h2⟩ := r.val i d h
 rcases h2 with ⟨_, ds, a, xs, h3, h5, h6, h7⟩ | ⟨h3, _⟩
 ·subst h5; exact ⟨ds, a, xs, h3, h1, h6, h7⟩
 ·exact absurd hi h3
abbrev M (α : Type) := Env -> R (α × Env)
def Wp (K : Fr0) (c : Fc) (σ : St) (H : Hp) (Q : VK) : R (D × Env) -> Prop
 | .ok (d, ρ) => ∀ v H', Rep K c ρ σ H' -> Is K (Cn c σ) H' d v -> Gr c.O σ H H' -> Q v H'
 | .exc x ρ => ∀ H', Rep K c ρ σ H' -> Gr c.O σ H H' -> c.E x H'
 | .bad => False
def WpB (K : Fr0) (c : Fc) (σ : St) (H : Hp) (Q : Bool -> Hp -> Prop) : R (Bool × Env) -> Prop
 | .ok (b, ρ) => ∀ H', Rep K c ρ σ H' -> Gr c.O σ H H' -> Q b H'
 | .exc x ρ => ∀ H', Rep K c ρ σ H' -> Gr c.O σ H H' -> c.E x H'
 | .bad => False
def WpL (K : Fr0) (c : Fc) (σ : St) (H : Hp) (Q : List V -> Hp -> Prop) : R (List D × Env) -> Prop
 | .ok (ds, ρ) => ∀ vs H', Rep K c ρ σ H' -> IsL K (Cn c σ) H' ds vs -> Gr c.O σ H H' -> Q vs H'
 | .exc x ρ => ∀ H', Rep K c ρ σ H' -> Gr c.O σ H H' -> c.E x H'
 | .bad => False
def DE (X : Cx) (c : Fc) (e : Expr) (f : M D) : Prop := ∃ t, PE X e t /\ ∀ ρ σ H Q, Rep X.K c ρ σ H -> Wp X.K c σ H Q (f ρ) -> t σ H Q
def DT (X : Cx) (c : Fc) (e : Expr) (f : M Bool) : Prop := ∃ t, PT X e t /\ ∀ ρ σ H Q, Rep X.K c ρ σ H -> WpB X.K c σ H Q (f ρ) -> t σ H Q
def DA (X : Cx) (c : Fc) (es : List Expr) (f : M (List D)) : Prop := ∃ t, PA X es t /\ ∀ ρ σ H Q, Rep X.K c ρ σ H -> WpL X.K c σ H Q (f ρ) -> t σ H Q
def ret {α : Type} (a : α) : M α := fun ρ => .ok (a, ρ)
def bnd {α β : Type} (f : M α) (k : α -> M β) : M β := fun ρ => match f ρ with
 | .ok (a, ρ') => k a ρ'
 | .exc x ρ' => .exc x ρ'
 | .bad => .bad
def lift {α : Type} : Option α -> M α
 | some a => ret a
 | none => fun _ => .bad
theorem qgP {α β : Type} {f : M α} {k : α -> M β} {ρ ρ' : Env} {a : α} (h : f ρ = .ok (a, ρ')) : bnd f k ρ = k a ρ' := by unfold bnd; rw [h]
section
variable {K : Fr0} {c : Fc} {σ : St} {H H1 : Hp} {Q : VK} {QB : Bool -> Hp -> Prop} {QL : List V -> Hp -> Prop} {r : R (D × Env)}
theorem Wp.gr : ∀ {r : R (D × Env)}, Wp K c σ H Q r -> Gr c.O σ H H1 -> Wp K c σ H1 Q r
 | .ok (d, ρ), h, g => fun v H' hr hi hg => h v H' hr hi (g.trans hg)
 | .exc x ρ, h, g => fun H' hr hg => h H' hr (g.trans hg)
 | .bad, h, _ => h
theorem WpB.gr : ∀ {r : R (Bool × Env)}, WpB K c σ H QB r -> Gr c.O σ H H1 -> WpB K c σ H1 QB r
 | .ok (d, ρ), h, g => fun H' hr hg => h H' hr (g.trans hg)
 | .exc x ρ, h, g => fun H' hr hg => h H' hr (g.trans hg)
 | .bad, h, _ => h
theorem WpL.gr : ∀ {r : R (List D × Env)}, WpL K c σ H QL r -> Gr c.O σ H H1 -> WpL K c σ H1 QL r
 | .ok (d, ρ), h, g => fun v H' hr hi hg => h v H' hr hi (g.trans hg)
 | .exc x ρ, h, g => fun H' hr hg => h H' hr (g.trans hg)
 | .bad, h, _ => h
theorem Wp.bnd {f : M D} {k : D -> M D} {ρ : Env} {Q' : VK} (h : Wp K c σ H Q (bnd f k ρ)) (hQ : ∀ d ρ' v H', Rep K c ρ' σ H' -> Is K (Cn c σ) H' d v -> Gr c.O σ H H' -> Wp K c σ H' Q (k d ρ') -> Q' v H') : Wp K c σ H Q' (f ρ) := by
 unfold Sk.bnd at h
 cases e : f ρ with
 | ok p => rw [e] at h; exact fun v H' hr hi hg => hQ p.1 p.2 v H' hr hi hg (h.gr hg)
 | exc x ρ' => rw [e] at h; exact h
 | bad => rw [e] at h; exact h
theorem Wp.bndB {f : M D} {k : D -> M Bool} {ρ : Env} {Q' : VK} (h : WpB K c σ H QB (Sk.bnd f k ρ)) (hQ : ∀ d ρ' v H', Rep K c ρ' σ H' -> Is K (Cn c σ) H' d v -> Gr c.O σ H H' -> WpB K c σ H' QB (k d ρ') -> Q' v H') : Wp K c σ H Q' (f ρ) := by
 unfold Sk.bnd at h
 cases e : f ρ with
 | ok p => rw [e] at h; exact fun v H' hr hi hg => hQ p.1 p.2 v H' hr hi hg (h.gr hg)
 | exc x ρ' => rw [e] at h; exact h
 | bad => rw [e] at h; exact h
theorem Wp.bndL {f : M D} {k : D -> M (List D)} {ρ : Env} {Q' : VK} (h : WpL K c σ H QL (Sk.bnd f k ρ)) (hQ : ∀ d ρ' v H', Rep K c ρ' σ H' -> Is K (Cn c σ) H' d v -> Gr c.O σ H H' -> WpL K c σ H' QL (k d ρ') -> Q' v H') : Wp K c σ H Q' (f ρ) := by
 unfold Sk.bnd at h
 cases e : f ρ with
 | ok p => rw [e] at h; exact fun v H' hr hi hg => hQ p.1 p.2 v H' hr hi hg (h.gr hg)
 | exc x ρ' => rw [e] at h; exact h
 | bad => rw [e] at h; exact h
theorem WpB.bnd {f : M Bool} {k : Bool -> M D} {ρ : Env} {Q' : Bool -> Hp -> Prop} (h : Wp K c σ H Q (Sk.bnd f k ρ)) (hQ : ∀ d ρ' H', Rep K c ρ' σ H' -> Gr c.O σ H H' -> Wp K c σ H' Q (k d ρ') -> Q' d H') : WpB K c σ H Q' (f ρ) := by
 unfold Sk.bnd at h
 cases e : f ρ with
 | ok p => rw [e] at h; exact fun H' hr hg => hQ p.1 p.2 H' hr hg (h.gr hg)
 | exc x ρ' => rw [e] at h; exact h
 | bad => rw [e] at h; exact h
theorem WpB.bndB {f : M Bool} {k : Bool -> M Bool} {ρ : Env} {Q' : Bool -> Hp -> Prop} (h : WpB K c σ H QB (Sk.bnd f k ρ)) (hQ : ∀ d ρ' H', Rep K c ρ' σ H' -> Gr c.O σ H H' -> WpB K c σ H' QB (k d ρ') -> Q' d H') : WpB K c σ H Q' (f ρ) := by
 unfold Sk.bnd at h
 cases e : f ρ with
 | ok p => rw [e] at h; exact fun H' hr hg => hQ p.1 p.2 H' hr hg (h.gr hg)
 | exc x ρ' => rw [e] at h; exact h
 | bad => rw [e] at h; exact h
theorem WpL.bnd {f : M (List D)} {k : List D -> M D} {ρ : Env} {Q' : List V -> Hp -> Prop} (h : Wp K c σ H Q (Sk.bnd f k ρ)) (hQ : ∀ d ρ' v H', Rep K c ρ' σ H' -> IsL K (Cn c σ) H' d v -> Gr c.O σ H H' -> Wp K c σ H' Q (k d ρ') -> Q' v H') : WpL K c σ H Q' (f ρ) := by
 unfold Sk.bnd at h
 cases e : f ρ with
 | ok p => rw [e] at h; exact fun v H' hr hi hg => hQ p.1 p.2 v H' hr hi hg (h.gr hg)
 | exc x ρ' => rw [e] at h; exact h
 | bad => rw [e] at h; exact h
theorem WpL.bndL {f : M (List D)} {k : List D -> M (List D)} {ρ : Env} {Q' : List V -> Hp -> Prop} (h : WpL K c σ H QL (Sk.bnd f k ρ)) (hQ : ∀ d ρ' v H', Rep K c ρ' σ H' -> IsL K (Cn c σ) H' d v -> Gr c.O σ H H' -> WpL K c σ H' QL (k d ρ') -> Q' v H') : WpL K c σ H Q' (f ρ) := by
 unfold Sk.bnd at h
 cases e : f ρ with
 | ok p => rw [e] at h; exact fun v H' hr hi hg => hQ p.1 p.2 v H' hr hi hg (h.gr hg)
 | exc x ρ' => rw [e] at h; exact h
 | bad => rw [e] at h; exact h
theorem Wp.lift {o : Option D} {ρ : Env} (h : Wp K c σ H Q (Sk.lift o ρ)) : ∃ d, o = some d /\ ∀ v H', Rep K c ρ σ H' -> Is K (Cn c σ) H' d v -> Gr c.O σ H H' -> Q v H' := by
 cases o with
 | none => exact h.elim
 | some d => exact ⟨d, rfl, h⟩
end
section
variable {X : Cx} {c : Fc} {a b e : Expr} {pos : Pos}
theorem qi {i j pos} : DE X c (.Constant (.int i) j pos) (ret (.int i)) := ⟨_, qjj, fun _ _ H Q r h => h _ H r rfl .refl⟩
theorem vw {i j pos} : DE X c (.Constant (.bool i) j pos) (ret (.bl i)) := ⟨_, qlz, fun _ _ H Q r h => h _ H r rfl .refl⟩
theorem yi {j pos} : DE X c (.Constant .none j pos) (ret .non) := ⟨_, qjk, fun _ _ H Q r h => h _ H r rfl .refl⟩
theorem qas {x j pos} : DE X c (.Constant (.str x) j pos) (ret (.str x)) := ⟨_, qjl, fun _ _ H Q r h => h _ H r rfl .refl⟩
def dv (i : Nat) : M D := fun ρ => match ρ[i]? with
 | some (some d) => .ok (d, ρ)
 | _ => .bad
theorem qd (i : Nat) {x : Str} (ho : i ∉ c.O := by exact of_decide_eq_false rfl) (hN : X.N[i]? = some x := by rfl) (hv : Vis X.env.scope x := by first | exact Or.inl rfl | exact Or.inr (Or.inl rfl) | exact Or.inr (Or.inr rfl)) (hd : (x == ("__debug__" : Str)) = false := by decide)
  (hcd : (x == ("__classdict__" : Str)) = false := by decide) : DE X c (.Name x pos) (dv i) := by
 refine ⟨_, vQ hN hv hd hcd, fun ρ σ H Q r h => ?_⟩
 unfold dv at h
 split at h
 ·rename_i d e
  obtain ⟨v, h1, h2⟩ := r.get ho e
  exact ⟨v, h1, h v H r h2 .refl⟩
 ·exact h.elim
theorem qen {x : Str} {v : V} {u : Value} {d : D} (hg : Gl X x) (hm : X.mg x = some u) (rv : zZ v u) (hd : ∀ H A, Is X.K A H d v) (hdb : (x == ("__debug__" : Str)) = false := by decide) : DE X c (.Name x pos) (ret d) :=
 ⟨_, qcf hg hm rv hdb, fun _ _ H Q r h => h _ H r (hd _ _) .refl⟩
theorem qf : DA X c [] (ret []) := ⟨_, vS, fun _ _ H Q r h => h _ H r rfl .refl⟩
def qa (f : M D) (g : M (List D)) : M (List D) := bnd f fun d => bnd g fun ds => ret (d :: ds)
theorem qc {es : List Expr} {f : M D} {g : M (List D)} (ha : DE X c e f) (hr : DA X c es g) (hs : starEach (e :: es) X.env = (false, eval e X.env) :: starEach es X.env := by rfl) : DA X c (e :: es) (qa f g) := by
 obtain ⟨ta, pa, wa⟩ := ha
 obtain ⟨tr, pr, wr⟩ := hr
 refine ⟨_, jQ pa pr hs, fun ρ σ H Q r h => wa ρ σ H _ r (Wp.bndL h fun d ρ1 v H1 r1 i1 g1 h1 => wr ρ1 σ H1 _ r1 (WpL.bndL h1 fun ds ρ2 vs H2 r2 i2 g2 h2 => ?_))⟩
 exact h2 _ H2 r2 ⟨v, vs, rfl, g2.is i1, i2⟩ .refl
def qH (n : Nat) : Bool := decide (n <= sizeLine)
def yz (f : M (List D)) : M D := bnd f fun ds => lift (if qH ds.length then some (.tup ds) else none)
def z0 (f : M (List D)) : M D := bnd f fun ds => lift (if qH ds.length then some (.lst ds) else none)
theorem qs {H : Hp} {p : Addr} (h : H p = none) (o : HO) : zM H (upd H p o) := fun b u q => by rw [qm (qB q h)]; exact q
theorem Rep.laid {K : Fr0} {ρ : Env} {σ : St} {H : Hp} (r : Rep K c ρ σ H) {p : Addr} (h : H p = none) (o : HO) : Rep K c ρ σ (upd H p o) := r.same (qs h o)
theorem zB {p : Bool} {d e : D} (h : (if p then some d else none) = some e) : p = true /\ d = e := by
 cases p with
 | true => exact ⟨rfl, by simpa using h⟩
 | false => simp at h
theorem qW {es : List Expr} {x1} {f : M (List D)} (h : DA X c es f) : DE X c (.Tuple es x1 pos) (yz f) := by
 obtain ⟨t, p, w⟩ := h
 refine ⟨_, qjI p, fun ρ σ H Q r h => w ρ σ H _ r (WpL.bnd h fun ds ρ1 vs H1 r1 i1 g1 h1 => ?_)⟩
 obtain ⟨d, e, h2⟩ := h1.lift
 obtain ⟨e1, e2⟩ := zB e
 subst e2
 refine ⟨by rw [i1.length]; exact of_decide_eq_true e1, fun p hp => h2 _ _ (r1.laid hp _) ⟨p, vs, rfl, .inl ql, IsL.ext (Ext.of_same (qs hp _)) (fun _ h _ => h) i1⟩ (.of_same (qs hp _))⟩
theorem ja {es : List Expr} {f : M (List D)} (h : DA X c es f) : DE X c (.List es pos) (z0 f) := by
 obtain ⟨t, p, w⟩ := h
 refine ⟨_, qgL p, fun ρ σ H Q r h => w ρ σ H _ r (WpL.bnd h fun ds ρ1 vs H1 r1 i1 g1 h1 => ?_)⟩
 obtain ⟨d, e, h2⟩ := h1.lift
 obtain ⟨e1, e2⟩ := zB e
 subst e2
 refine ⟨by rw [i1.length]; exact of_decide_eq_true e1, fun p hp => h2 _ _ (r1.laid hp _) ⟨p, vs, rfl, r1.new hp, ql, IsL.ext (Ext.of_same (qs hp _)) (fun _ h _ => h) i1⟩ (.of_same (qs hp _))⟩
def OpS (K : Fr0) (F : D -> D -> Option D) (r : R2) : Prop := ∀ (A : Addr -> Prop) (H : Hp) (x y d : D) (v u : V) (Q : VK), (∀ a, H a = none -> A a) -> Is K A H x v -> Is K A H y u -> F x y = some d ->
 (∀ w H', zM H H' -> Is K A H' d w -> Q w H') -> r v u H Q
def d2 (F : D -> D -> Option D) (f g : M D) : M D := bnd f fun x => bnd g fun y => lift (F x y)
theorem op2 {r : R2} {F : D -> D -> Option D} {f g : M D} {ta tb : TE} (hF : OpS X.K F r) (wa : ∀ ρ σ H Q, Rep X.K c ρ σ H -> Wp X.K c σ H Q (f ρ) -> ta σ H Q) (wb : ∀ ρ σ H Q, Rep X.K c ρ σ H -> Wp X.K c σ H Q (g ρ) -> tb σ H Q) :
  ∀ ρ σ H Q, Rep X.K c ρ σ H -> Wp X.K c σ H Q (d2 F f g ρ) -> tOp r ta tb σ H Q := fun ρ σ H Q rp h => wa ρ σ H _ rp (Wp.bnd h fun x ρ1 v H1 r1 i1 g1 h1 => wb ρ1 σ H1 _ r1 (Wp.bnd h1 fun y ρ2 u H2 r2 i2 g2 h2 => by
 obtain ⟨d, e, h3⟩ := h2.lift
 exact hF _ H2 x y d v u Q (fun a ha => r2.new ha) (g2.is i1) i2 e fun w H' s i => h3 w H' (r2.same s) i (.of_same s)))
theorem qz {op : Operator} {r : R2} {F : D -> D -> Option D} {f g : M D} (ho : OpR X (binaryOp op) r) (hF : OpS X.K F r) (ha : DE X c a f) (hb : DE X c b g) : DE X c (.BinOp a op b pos) (d2 F f g) := by
 obtain ⟨ta, pa, wa⟩ := ha
 obtain ⟨tb, pb, wb⟩ := hb
 exact ⟨_, qjz ho pa pb, op2 hF wa wb⟩
theorem jV {op : CmpOp} {r : R2} {F : D -> D -> Option D} {f g : M D} (ho : OpR X (compareOp op) r) (hF : OpS X.K F r) (ha : DE X c a f) (hb : DE X c b g) (hm : behindInMarks op b = false) : DE X c (.Compare a [op] [b] pos) (d2 F f g) := by
 obtain ⟨ta, pa, wa⟩ := ha
 obtain ⟨tb, pb, wb⟩ := hb
 exact ⟨_, qhs ho pa pb hm, op2 hF wa wb⟩
def asB : D -> Option Bool
 | .bl b => some b
 | _ => none
def tst (f : M D) : M Bool := bnd f fun d => lift (asB d)
theorem qcM {K : Fr0} {σ : St} {H : Hp} {QB : Bool -> Hp -> Prop} {o : Option Bool} {ρ : Env} (h : WpB K c σ H QB (lift o ρ)) : ∃ b, o = some b /\ ∀ H', Rep K c ρ σ H' -> Gr c.O σ H H' -> QB b H' := by
 cases o with
 | none => exact h.elim
 | some d => exact ⟨d, rfl, h⟩
theorem qaO {d : D} {b : Bool} (h : asB d = some b) : d = .bl b := by
 cases d <;> simp [asB] at h
 subst h; rfl
theorem jb {op : CmpOp} {r : R2} {F : D -> D -> Option D} {f g : M D} (ho : OpR X (compareOp op) r) (hF : OpS X.K F r) (ha : DE X c a f) (hb : DE X c b g) (hm : behindInMarks op b = false) : DT X c (.Compare a [op] [b] pos) (tst (d2 F f g)) := by
 obtain ⟨ta, pa, wa⟩ := ha
 obtain ⟨tb, pb, wb⟩ := hb
 refine ⟨_, qht ho pa pb hm, fun ρ σ H Q rp h => op2 hF wa wb ρ σ H _ rp (Wp.bndB h fun d ρ1 v H1 r1 i1 g1 h1 => ?_)⟩
 obtain ⟨b, e, h2⟩ := qcM h1
 have := qaO e
 subst this
 exact ⟨b, i1, h2 H1 r1 .refl⟩
theorem jt {f : M D} (h : DE X c e f) (he : ∀ whole, isTrue e X.env whole = (do let v <- whole; standAt e.pos; holding [v] (truthy v)) := by intro _; rfl) : DT X c e (tst f) := by
 obtain ⟨t, p, w⟩ := h
 refine ⟨_, qjm p he, fun ρ σ H Q rp h => w ρ σ H _ rp (Wp.bndB h fun d ρ1 v H1 r1 i1 g1 h1 => ?_)⟩
 obtain ⟨b, e, h2⟩ := qcM h1
 have := qaO e
 subst this
 exact ⟨b, i1, h2 H1 r1 .refl⟩
def qbA (f : M Bool) : M Bool := bnd f fun b => ret (!b)
theorem y8 {f : M Bool} (h : DT X c a f) : DT X c (.UnaryOp .Not a pos) (qbA f) := by
 obtain ⟨t, p, w⟩ := h
 exact ⟨_, qjo p, fun ρ σ H Q rp h => w ρ σ H _ rp (WpB.bndB h fun d ρ1 H1 r1 g1 h1 => h1 H1 r1 .refl)⟩
def DW (X : Cx) (c : Fc) (e : Expr) (f : M Bool) : Prop := ∃ t, PW X e t /\ ∀ ρ σ H Q, Rep X.K c ρ σ H -> WpB X.K c σ H Q (f ρ) -> t σ H Q
theorem DW.dt {f : M Bool} (h : DW X c e f) : DT X c e f := by
 obtain ⟨t, p, w⟩ := h
 exact ⟨t, p.pt, w⟩
def qmC (f g : M Bool) : M Bool := bnd f fun b => if b then g else ret false
def tor (f g : M Bool) : M Bool := bnd f fun b => if b then ret true else g
variable {qbo : List Expr}
theorem vU {f : M Bool} (h : DT X c a f) : DW X c (.BoolOp .Or [a] pos) f := by
 obtain ⟨t, p, w⟩ := h
 exact ⟨t, qjn p, w⟩
theorem qbB {f g : M Bool} (ha : DT X c a f) (hb : DW X c (.BoolOp .Or (b :: qbo) pos) g) : DW X c (.BoolOp .Or (a :: b :: qbo) pos) (tor f g) := by
 obtain ⟨ta, pa, wa⟩ := ha
 obtain ⟨tb, pb, wb⟩ := hb
 refine ⟨_, qlA pa pb, fun ρ σ H Q rp h => wa ρ σ H _ rp (WpB.bndB h fun d ρ1 H1 r1 g1 h1 => ?_)⟩
 cases d with
 | true => exact qjU ((by simpa using h1 : WpB X.K c σ H1 Q (ret true ρ1)) H1 r1 .refl)
 | false => exact qjT (wb ρ1 σ H1 Q r1 (by simpa using h1))
def qjW (f : M D) : M D := bnd f fun d => bnd (lift (asB d)) fun b => ret (.bl (!b))
def qd2 (f g : M D) : M D := bnd f fun d => bnd (lift (asB d)) fun b => if b then g else ret (.bl false)
def dor (f g : M D) : M D := bnd f fun d => bnd (lift (asB d)) fun b => if b then ret (.bl true) else g
theorem qeo {K : Fr0} {σ : St} {H : Hp} {Q : VK} {d : D} {k : Bool -> M D} {ρ : Env} (h : Wp K c σ H Q (bnd (lift (asB d)) k ρ)) : ∃ b, d = .bl b /\ Wp K c σ H Q (k b ρ) := by
 unfold bnd at h
 cases e : asB d with
 | none => rw [e] at h; exact h.elim
 | some b => rw [e] at h; exact ⟨b, qaO e, h⟩
theorem vb {op} {f : M D} (h : DE X c a f) : DE X c (.BoolOp op [a] pos) f := by
 obtain ⟨t, p, w⟩ := h
 exact ⟨t, qjp p, w⟩
theorem qgQ {f : M D} (h : DE X c a f) : DE X c (.UnaryOp .Not a pos) (qjW f) := by
 obtain ⟨t, p, w⟩ := h
 refine ⟨_, qjr p, fun ρ σ H Q rp h => w ρ σ H _ rp (Wp.bnd h fun d ρ1 v H1 r1 i1 g1 h1 => ?_)⟩
 obtain ⟨b, e, h2⟩ := qeo h1
 subst e
 exact ⟨b, i1, h2 _ H1 r1 rfl .refl⟩
theorem wK {f g : M D} (ha : DE X c a f) (hb : DE X c (.BoolOp .And (b :: qbo) pos) g) : DE X c (.BoolOp .And (a :: b :: qbo) pos) (qd2 f g) := by
 obtain ⟨ta, pa, wa⟩ := ha
 obtain ⟨tb, pb, wb⟩ := hb
 refine ⟨_, qjq pa pb, fun ρ σ H Q rp h => wa ρ σ H _ rp (Wp.bnd h fun d ρ1 v H1 r1 i1 g1 h1 => ?_)⟩
 obtain ⟨k, e, h2⟩ := qeo h1
 subst e
 refine ⟨k, i1, ?_⟩
 cases k with
 | true => exact qjU (wb ρ1 σ H1 Q r1 (by simpa using h2))
 | false => exact qjT ((by simpa using h2 : Wp X.K c σ H1 Q (ret (.bl false) ρ1)) _ H1 r1 rfl .refl)
theorem qhH {f g : M D} (ha : DE X c a f) (hb : DE X c (.BoolOp .Or (b :: qbo) pos) g) : DE X c (.BoolOp .Or (a :: b :: qbo) pos) (dor f g) := by
 obtain ⟨ta, pa, wa⟩ := ha
 obtain ⟨tb, pb, wb⟩ := hb
 refine ⟨_, qlD pa pb, fun ρ σ H Q rp h => wa ρ σ H _ rp (Wp.bnd h fun d ρ1 v H1 r1 i1 g1 h1 => ?_)⟩
 obtain ⟨k, e, h2⟩ := qeo h1
 subst e
 refine ⟨k, i1, ?_⟩
 cases k with
 | true => exact qjU ((by simpa using h2 : Wp X.K c σ H1 Q (ret (.bl true) ρ1)) _ H1 r1 rfl .refl)
 | false => exact qjT (wb ρ1 σ H1 Q r1 (by simpa using h2))
def dif (f : M Bool) (g k : M D) : M D := bnd f fun b => if b then g else k
theorem qhI {t : Expr} {f : M Bool} {g k : M D} (ht : DT X c t f) (ha : DE X c a g) (hb : DE X c b k) : DE X c (.IfExp t a b pos) (dif f g k) := by
 obtain ⟨tt, pt, wt⟩ := ht
 obtain ⟨ta, pa, wa⟩ := ha
 obtain ⟨tb, pb, wb⟩ := hb
 refine ⟨_, qfL pt pa pb, fun ρ σ H Q rp h => wt ρ σ H _ rp (WpB.bnd h fun d ρ1 H1 r1 g1 h1 => ?_)⟩
 cases d with
 | true => exact qjU (wa ρ1 σ H1 Q r1 (by simpa using h1))
 | false => exact qjT (wb ρ1 σ H1 Q r1 (by simpa using h1))
def wL (K : Fr0) (F : List D -> Option D) (r : List V -> Hp -> VK -> Prop) : Prop := ∀ (A : Addr -> Prop) (H : Hp) (xs : List D) (d : D) (vs : List V) (Q : VK), (∀ a, H a = none -> A a) -> IsL K A H xs vs -> F xs = some d ->
 (∀ w H', zM H H' -> Is K A H' d w -> Q w H') -> r vs H Q
def jH (F : List D -> Option D) (f : M (List D)) : M D := bnd f fun ds => lift (F ds)
theorem qjX {r : List V -> Hp -> VK -> Prop} {F : List D -> Option D} {f : M (List D)} {t : TA} (hF : wL X.K F r) (w : ∀ ρ σ H Q, Rep X.K c ρ σ H -> WpL X.K c σ H Q (f ρ) -> t σ H Q) :
  ∀ ρ σ H Q, Rep X.K c ρ σ H -> Wp X.K c σ H Q (jH F f ρ) -> tCB r t σ H Q := fun ρ σ H Q rp h => w ρ σ H _ rp (WpL.bnd h fun ds ρ1 vs H1 r1 i1 g1 h1 => by
 obtain ⟨d, e, h3⟩ := h1.lift
 exact hF _ H1 ds d vs Q (fun a ha => r1.new ha) i1 e fun w H' s i => h3 w H' (r1.same s) i (.of_same s))
theorem zl {id : String} {x : Str} {p : Pos} {es : List Expr} {r : List V -> Hp -> VK -> Prop} {F : List D -> Option D} {f : M (List D)} (hc : yy X (.builtin id) r) (hF : wL X.K F r) (hg : Gl X x) (hm : X.mg x = none) (hv : bootBuiltins x = some (.builtin id)) (ha : DA X c (e :: es) f) (hn : x ≠ "__name__" := by decide) (hdb : (x == ("__debug__" : Str)) = false := by decide)
  (he : starEach (e :: es) X.env = (false, eval e X.env) :: starEach es X.env := by rfl) (hpl : (backTo pos (starEach es X.env)).any (·.1) = false := by rfl) : DE X c (.Call (.Name x p) (e :: es) [] pos) (jH F f) := by
 obtain ⟨t, pa, w⟩ := ha
 exact ⟨_, wn hc hg hm hv pa hn hdb he hpl, qjX hF w⟩
theorem qep {T : String} {x : Str} {p : Pos} {es : List Expr} {r : List V -> Hp -> VK -> Prop} {F : List D -> Option D} {f : M (List D)} (hc : yy X (.type T) r) (hF : wL X.K F r) (hg : Gl X x) (hm : X.mg x = none) (hv : bootBuiltins x = some (.type T)) (ha : DA X c (e :: es) f) (hn : x ≠ "__name__" := by decide) (hdb : (x == ("__debug__" : Str)) = false := by decide)
  (he : starEach (e :: es) X.env = (false, eval e X.env) :: starEach es X.env := by rfl) (hpl : (backTo pos (starEach es X.env)).any (·.1) = false := by rfl) : DE X c (.Call (.Name x p) (e :: es) [] pos) (jH F f) := by
 obtain ⟨t, pa, w⟩ := ha
 exact ⟨_, qbu hc hg hm hv pa hn hdb he hpl, qjX hF w⟩
theorem qE {r : R2} {F : D -> D -> Option D} {f g : M D} (hr : IxR X r) (hF : OpS X.K F r) (ha : DE X c a f) (hb : DE X c b g) (hs : qci b := by intro _ _; rfl) : DE X c (.Subscript a b pos) (d2 F f g) := by
 obtain ⟨ta, pa, wa⟩ := ha
 obtain ⟨tb, pb, wb⟩ := hb
 exact ⟨_, qjN hr pa pb hs, op2 hF wa wb⟩
end
inductive Fl where
 | nx (ρ : Env) | rt (d : D) (ρ : Env) | bk (ρ : Env) | ct (ρ : Env)
structure GrS (O : List Nat) (σ : St) (H : Hp) (σ' : St) (H' : Hp) : Prop where
 ext : Ext (Cl O σ) H H'
 cl : ∀ b, Cl O σ b -> (H b).isSome = true -> Cl O σ' b
 dom : ∀ b, H' b = none -> H b = none
theorem qdz {H H' : Hp} {b : Addr} (dom : H' b = none -> H b = none) (h : (H b).isSome = true) : (H' b).isSome = true := by
 cases e : H' b with
 | none => rw [dom e] at h; cases h
 | some o => rfl
theorem GrS.refl {O : List Nat} {σ : St} {H : Hp} : GrS O σ H σ H := ⟨Ext.refl, fun _ h _ => h, fun _ h => h⟩
theorem Gr.s {O : List Nat} {σ : St} {H H' : Hp} (g : Gr O σ H H') : GrS O σ H σ H' := ⟨g.ext, fun _ h _ => h, g.dom⟩
theorem GrS.trans {O : List Nat} {σ σ1 σ2 : St} {H H1 H2 : Hp} (a : GrS O σ H σ1 H1) (b : GrS O σ1 H1 σ2 H2) : GrS O σ H σ2 H2 :=
 ⟨⟨fun c xs h => b.ext.tup c xs (a.ext.tup c xs h), fun c o u h => b.ext.frz c o u (a.ext.frz c o u h), fun c o hc h => b.ext.at_ c o (a.cl c hc (by rw [h]; rfl)) (a.ext.at_ c o hc h)⟩,
  fun c hc h => b.cl c (a.cl c hc h) (qdz (a.dom c) h), fun c h => a.dom c (b.dom c h)⟩
theorem GrS.is {K : Fr0} {c : Fc} {σ σ' : St} {H H' : Hp} {d : D} {v : V} (g : GrS c.O σ H σ' H') (h : Is K (Cn c σ) H d v) : Is K (Cn c σ') H' d v :=
 Is.ext ⟨g.ext.tup, g.ext.frz, fun b o hb h => g.ext.at_ b o hb.2 h⟩ (fun a ha hs => ⟨ha.1, g.cl a ha.2 hs⟩) h
theorem GrS.isL {K : Fr0} {c : Fc} {σ σ' : St} {H H' : Hp} {d : List D} {v : List V} (g : GrS c.O σ H σ' H') (h : IsL K (Cn c σ) H d v) : IsL K (Cn c σ') H' d v :=
 IsL.ext ⟨g.ext.tup, g.ext.frz, fun b o hb h => g.ext.at_ b o hb.2 h⟩ (fun a ha hs => ⟨ha.1, g.cl a ha.2 hs⟩) h
def WpS (K : Fr0) (c : Fc) (σ : St) (H : Hp) (D : qd0) : R Fl -> Prop
 | .ok (.nx ρ) => ∀ σ' H', Rep K c ρ σ' H' -> GrS c.O σ H σ' H' -> D.nx σ' H'
 | .ok (.rt d ρ) => ∀ v σ' H', Rep K c ρ σ' H' -> Is K c.B H' d v -> GrS c.O σ H σ' H' -> D.rt v H'
 | .ok (.bk ρ) => ∀ σ' H', Rep K c ρ σ' H' -> GrS c.O σ H σ' H' -> D.bk σ' H'
 | .ok (.ct ρ) => ∀ σ' H', Rep K c ρ σ' H' -> GrS c.O σ H σ' H' -> D.ct σ' H'
 | .exc x ρ => ∀ σ' H', Rep K c ρ σ' H' -> GrS c.O σ H σ' H' -> c.E x H'
 | .bad => False
abbrev MS := Env -> R Fl
def DS (X : Cx) (c : Fc) (st : Stmt) (f : MS) : Prop := ∃ t, PS X st t /\ ∀ ρ σ H D, Rep X.K c ρ σ H -> WpS X.K c σ H D (f ρ) -> t D σ H
def DSs (X : Cx) (c : Fc) (st : List Stmt) (f : MS) : Prop := ∃ t, PSs X st t /\ ∀ ρ σ H D, Rep X.K c ρ σ H -> WpS X.K c σ H D (f ρ) -> t D σ H
theorem WpS.gr {K : Fr0} {c : Fc} {σ σ1 : St} {H H1 : Hp} {D : qd0} : ∀ {r : R Fl}, WpS K c σ H D r -> GrS c.O σ H σ1 H1 -> WpS K c σ1 H1 D r
 | .ok (.nx ρ), h, g => fun σ' H' hr hg => h σ' H' hr (g.trans hg)
 | .ok (.rt d ρ), h, g => fun v σ' H' hr hi hg => h v σ' H' hr hi (g.trans hg)
 | .ok (.bk ρ), h, g => fun σ' H' hr hg => h σ' H' hr (g.trans hg)
 | .ok (.ct ρ), h, g => fun σ' H' hr hg => h σ' H' hr (g.trans hg)
 | .exc x ρ, h, g => fun σ' H' hr hg => h σ' H' hr (g.trans hg)
 | .bad, h, _ => h
def sbnd {α : Type} (f : M α) (k : α -> MS) : MS := fun ρ => match f ρ with
 | .ok (a, ρ') => k a ρ'
 | .exc x ρ' => .exc x ρ'
 | .bad => .bad
section
variable {K : Fr0} {c : Fc} {σ : St} {H : Hp} {D : qd0}
theorem Wp.sbnd {f : M Sk.D} {k : Sk.D -> MS} {ρ : Env} {Q' : VK} (h : WpS K c σ H D (sbnd f k ρ)) (hQ : ∀ d ρ' v H', Rep K c ρ' σ H' -> Is K (Cn c σ) H' d v -> Gr c.O σ H H' -> WpS K c σ H' D (k d ρ') -> Q' v H') : Wp K c σ H Q' (f ρ) := by
 unfold Sk.sbnd at h
 cases e : f ρ with
 | ok p => rw [e] at h; exact fun v H' hr hi hg => hQ p.1 p.2 v H' hr hi hg (h.gr hg.s)
 | exc x ρ' => rw [e] at h; exact fun H' hr hg => h σ H' hr hg.s
 | bad => rw [e] at h; exact h
theorem WpB.sbnd {f : M Bool} {k : Bool -> MS} {ρ : Env} {Q' : Bool -> Hp -> Prop} (h : WpS K c σ H D (sbnd f k ρ)) (hQ : ∀ d ρ' H', Rep K c ρ' σ H' -> Gr c.O σ H H' -> WpS K c σ H' D (k d ρ') -> Q' d H') : WpB K c σ H Q' (f ρ) := by
 unfold Sk.sbnd at h
 cases e : f ρ with
 | ok p => rw [e] at h; exact fun H' hr hg => hQ p.1 p.2 H' hr hg (h.gr hg.s)
 | exc x ρ' => rw [e] at h; exact fun H' hr hg => h σ H' hr hg.s
 | bad => rw [e] at h; exact h
theorem WpL.sbnd {f : M (List Sk.D)} {k : List Sk.D -> MS} {ρ : Env} {Q' : List V -> Hp -> Prop} (h : WpS K c σ H D (sbnd f k ρ)) (hQ : ∀ d ρ' v H', Rep K c ρ' σ H' -> IsL K (Cn c σ) H' d v -> Gr c.O σ H H' -> WpS K c σ H' D (k d ρ') -> Q' v H') : WpL K c σ H Q' (f ρ) := by
 unfold Sk.sbnd at h
 cases e : f ρ with
 | ok p => rw [e] at h; exact fun v H' hr hi hg => hQ p.1 p.2 v H' hr hi hg (h.gr hg.s)
 | exc x ρ' => rw [e] at h; exact fun H' hr hg => h σ H' hr hg.s
 | bad => rw [e] at h; exact h
end
def qQ (f g : MS) : MS := fun ρ => match f ρ with
 | .ok (.nx ρ') => g ρ'
 | r => r
theorem WpS.mono_nx {K : Fr0} {c : Fc} {σ : St} {H : Hp} {D : qd0} {f g : MS} {ρ : Env} {N : St -> Hp -> Prop} (h : WpS K c σ H D (qQ f g ρ)) (hN : ∀ ρ' σ' H', Rep K c ρ' σ' H' -> GrS c.O σ H σ' H' -> WpS K c σ' H' D (g ρ') -> N σ' H') :
  WpS K c σ H { D with nx := N } (f ρ) := by
 unfold qQ at h
 cases e : f ρ with
 | ok fl =>
  rw [e] at h
  cases fl with
  | nx ρ' => exact fun σ' H' hr hg => hN ρ' σ' H' hr hg (h.gr hg)
  | rt d ρ' => exact h
  | bk ρ' => exact h
  | ct ρ' => exact h
 | exc x ρ' => rw [e] at h; exact h
 | bad => rw [e] at h; exact h
section
variable {X : Cx} {c : Fc} {a b e : Expr} {pos : Pos} {st : Stmt} {sts : List Stmt}
theorem qhJ : DSs X c [] (fun ρ => .ok (.nx ρ)) := ⟨_, qhm, fun ρ σ H D r h => h σ H r .refl⟩
theorem qj {f : MS} (h : DS X c st f) : DSs X c [st] f := by
 obtain ⟨t, p, w⟩ := h
 exact ⟨t, qcg p, w⟩
theorem qg {f g : MS} (h : DS X c st f) (hr : DSs X c sts g) : DSs X c (st :: sts) (qQ f g) := by
 obtain ⟨t, p, w⟩ := h
 obtain ⟨t2, p2, w2⟩ := hr
 exact ⟨_, qfM p p2, fun ρ σ H D r h => w ρ σ H _ r (h.mono_nx fun ρ' σ' H' r' g' h' => w2 ρ' σ' H' D r' h')⟩
def z4 (f : M D) : MS := sbnd f fun d ρ => .ok (.rt d ρ)
theorem Is.cn {K : Fr0} {σ : St} {H : Hp} {d : D} {v : V} (h : Is K (Cn c σ) H d v) : Is K c.B H d v := Is.ext Ext.refl (fun _ h _ => h.1) h
theorem qA {f : M D} (h : DE X c e f) : DS X c (.Return (some e) pos) (z4 f) := by
 obtain ⟨t, p, w⟩ := h
 exact ⟨_, qcJ p, fun ρ σ H D r h => w ρ σ H _ r (Wp.sbnd h fun d ρ1 v H1 r1 i1 g1 h1 => h1 v σ H1 r1 i1.cn .refl)⟩
def yr (f : M D) : MS := sbnd f fun _ ρ => .ok (.nx ρ)
theorem jj {f : M D} (h : DE X c e f) (hs : swapsWith e none pos.line X.env = pure false := by rfl) : DS X c (.Expr e pos) (yr f) := by
 obtain ⟨t, p, w⟩ := h
 exact ⟨_, qhn p hs, fun ρ σ H D r h => w ρ σ H _ r (Wp.sbnd h fun d ρ1 v H1 r1 i1 g1 h1 => h1 σ H1 r1 .refl)⟩
def sif (f : M Bool) (g k : MS) : MS := sbnd f fun b => if b then g else k
theorem yJ {t : Expr} {s1 s2 : List Stmt} {f : M Bool} {g k : MS} (ht : DT X c t f) (ha : DSs X c s1 g) (hb : DSs X c s2 k) : DS X c (.If t s1 s2 pos) (sif f g k) := by
 obtain ⟨tt, pt, wt⟩ := ht
 obtain ⟨ta, pa, wa⟩ := ha
 obtain ⟨tb, pb, wb⟩ := hb
 refine ⟨_, qlG pt pa pb, fun ρ σ H D rp h => wt ρ σ H _ rp (WpB.sbnd h fun d ρ1 H1 r1 g1 h1 => ?_)⟩
 cases d with
 | true => exact qjU (wa ρ1 σ H1 D r1 (by simpa using h1))
 | false => exact qjT (wb ρ1 σ H1 D r1 (by simpa using h1))
theorem ze {α : Type} {l : List α} {i j : Nat} {v : α} (h : j ≠ i) : (l.set i v)[j]? = l[j]? := List.getElem?_set_ne (Ne.symm h)
theorem Cl.set {O : List Nat} {σ : St} {i : Nat} {v : Option V} (hi : i ∉ O) (a : Addr) : Cl O (σ.set i v) a ↔ Cl O σ a := by
 constructor
 ·intro h j hj
  have e : j ≠ i := fun e => hi (e ▸ hj)
  have := h j hj
  rw [ze e] at this
  exact this
 ·intro h j hj
  have e : j ≠ i := fun e => hi (e ▸ hj)
  rw [ze e]
  exact h j hj
theorem Rep.set {K : Fr0} {ρ : Env} {σ : St} {H : Hp} {i : Nat} {d : D} {v : V} (r : Rep K c ρ σ H) (hi : i ∉ c.O) (h : Is K (Cn c σ) H d v) : Rep K c (ρ.set i (some d)) (σ.set i (some v)) H where
 len := by rw [lS_, lS_]; exact r.len
 val := fun j e hj => by
  have up : ∀ {d' : D} {v' : V}, Is K (Cn c σ) H d' v' -> Is K (Cn c (σ.set i (some v))) H d' v' := fun h => Is.ext Ext.refl (fun a ha _ => ⟨ha.1, (Cl.set hi a).mpr ha.2⟩) h
  by_cases e1 : j = i
  ·subst e1
   have hl : j < ρ.length := by
    have := (gI_.mp hj).1
    rwa [lS_] at this
   rw [List.getElem?_set_self hl] at hj
   cases hj
   refine ⟨v, List.getElem?_set_self (by rw [<- r.len]; exact hl), .inr ⟨hi, up h⟩⟩
  ·rw [ze e1] at hj
   obtain ⟨w, h1, h2⟩ := r.val j e hj
   refine ⟨w, by rw [ze e1]; exact h1, ?_⟩
   rcases h2 with ⟨hj2, ds, a, xs, h3, h5, h6, h7⟩ | ⟨h3, h4⟩
   ·exact .inl ⟨hj2, ds, a, xs, h3, h5, h6, IsL.ext Ext.refl (fun a ha _ => ⟨ha.1, (Cl.set hi a).mpr ha.2⟩) h7⟩
   ·exact .inr ⟨h3, up h4⟩
 own := fun j hj w h => by
  have e1 : j ≠ i := fun e => hi (e ▸ hj)
  rw [ze e1] at h
  exact r.own j hj w h
 inj := fun j k a hj hk h1 h2 => by
  have e1 : j ≠ i := fun e => hi (e ▸ hj)
  have e2 : k ≠ i := fun e => hi (e ▸ hk)
  rw [ze e1] at h1
  rw [ze e2] at h2
  exact r.inj j k a hj hk h1 h2
 b0 := r.b0
 kp := r.kp
 dm := r.dm
 pO := r.pO
 ps := fun j hj => by
  have e : j ≠ i := fun e => hi (e ▸ r.pO j hj)
  rw [ze e]; exact r.ps j hj
theorem GrS.set {O : List Nat} {σ : St} {H : Hp} {i : Nat} {v : Option V} (hi : i ∉ O) : GrS O σ H (σ.set i v) H := ⟨Ext.refl, fun b h _ => (Cl.set hi b).mpr h, fun _ h => h⟩
def ji (i : Nat) (f : M D) : MS := sbnd f fun d ρ => .ok (.nx (ρ.set i (some d)))
theorem zf {i : Nat} {x : Str} {pos' : Pos} {f : M D} (hN : X.N.Nodup) (he : DE X c e f) (ho : i ∉ c.O := by exact of_decide_eq_false rfl) (hi : X.N[i]? = some x := by rfl) (hx : Loc X.env.scope x := by first | exact Or.inl rfl | exact Or.inr rfl) (hs : swapsWith e (some (.Name x pos')) pos.line X.env = pure false := by rfl) (hf : X.fn x = true \/ X.env.scope.names.lookup x = some .local := by first | exact .inl rfl | exact .inr rfl | assumption) :
  DS X c (.Assign [.Name x pos'] e pos) (ji i f) := by
 obtain ⟨t, p, w⟩ := he
 refine ⟨_, qgJ hN hi hx p hs hf, fun ρ σ H D r h => w ρ σ H _ r (Wp.sbnd h fun d ρ1 v H1 r1 i1 g1 h1 => ?_)⟩
 exact h1 _ H1 (r1.set ho i1) (.set ho)
def DG (X : Cx) (c : Fc) (tg : Expr) (f : D -> Env -> Option Env) : Prop := ∃ g, PG X tg g /\ ∀ ρ σ H d v ρ' (N : St -> Hp -> Prop), Rep X.K c ρ σ H -> Is X.K (Cn c σ) H d v -> f d ρ = some ρ' ->
 (∀ σ', Rep X.K c ρ' σ' H -> GrS c.O σ H σ' H -> (∀ j ∈ c.O, σ'[j]? = σ[j]?) -> N σ' H) -> g v σ H N
def qD (i : Nat) : D -> Env -> Option Env := fun d ρ => some (ρ.set i (some d))
theorem qJ {i : Nat} {x : Str} (hN : X.N.Nodup) (ho : i ∉ c.O := by exact of_decide_eq_false rfl) (hi : X.N[i]? = some x := by rfl) (hx : Loc X.env.scope x := by first | exact Or.inl rfl | exact Or.inr rfl) (hf : X.fn x = true \/ X.env.scope.names.lookup x = some .local := by first | exact .inl rfl | exact .inr rfl | assumption) {p : Pos} : DG X c (.Name x p) (qD i) := by
 refine ⟨_, qho hN hi hx hf, fun ρ σ H d v ρ' N r h e k => ?_⟩
 cases e
 exact k _ (r.set ho h) (.set ho) fun j hj => ze fun e => ho (e ▸ hj)
def DGs (X : Cx) (c : Fc) (tgs : List Expr) (f : List D -> Env -> Option Env) : Prop := ∃ g, PGs X tgs g /\ ∀ ρ σ H ds vs ρ' (N : St -> Hp -> Prop), Rep X.K c ρ σ H -> IsL X.K (Cn c σ) H ds vs -> f ds ρ = some ρ' ->
 (∀ σ', Rep X.K c ρ' σ' H -> GrS c.O σ H σ' H -> (∀ j ∈ c.O, σ'[j]? = σ[j]?) -> N σ' H) -> g vs σ H N
def qfD : List D -> Env -> Option Env
 | [], ρ => some ρ
 | _, _ => none
def ua (f : D -> Env -> Option Env) (g : List D -> Env -> Option Env) : List D -> Env -> Option Env
 | d :: ds, ρ => (f d ρ).bind (g ds)
 | _, _ => none
theorem qaP : DGs X c [] qfD := by
 refine ⟨_, qhp, fun ρ σ H ds vs ρ' N r h e k => ?_⟩
 cases ds with
 | nil =>
  cases e
  exact ⟨h, k σ r .refl fun _ _ => rfl⟩
 | cons d ds => cases e
theorem yt {tg : Expr} {tgs : List Expr} {f : D -> Env -> Option Env} {g : List D -> Env -> Option Env} (h1 : DG X c tg f) (h2 : DGs X c tgs g)
  (hs : (assignEach (tg :: tgs) X.env).map (·.2) = assign tg X.env :: (assignEach tgs X.env).map (·.2) := by rfl) : DGs X c (tg :: tgs) (ua f g) := by
 obtain ⟨t1, p1, w1⟩ := h1
 obtain ⟨t2, p2, w2⟩ := h2
 refine ⟨_, qfN p1 p2 hs, fun ρ σ H ds vs ρ' N r h e k => ?_⟩
 cases ds with
 | nil => cases e
 | cons d ds =>
  obtain ⟨v, ws, rfl, i1, i2⟩ := h
  have e' : (f d ρ).bind (g ds) = some ρ' := e
  cases e1 : f d ρ with
  | none => rw [e1] at e'; cases e'
  | some ρ1 =>
   rw [e1] at e'
   exact ⟨v, ws, rfl, w1 ρ σ H d v ρ1 _ r i1 e1 fun σ1 r1 g1 o1 => w2 ρ1 σ1 H ds ws ρ' N r1 (g1.isL i2) e' fun σ2 r2 g2 o2 => k σ2 r2 (g1.trans g2) fun j hj => (o2 j hj).trans (o1 j hj)⟩
def qfE (n : Nat) (g : List D -> Env -> Option Env) : D -> Env -> Option Env
 | .tup ds, ρ => if ds.length = n then g ds ρ else none
 | _, _ => none
theorem qcN {es : List Expr} {k n : Nat} {p : Pos} {g : List D -> Env -> Option Env} (hc : X.calm = true) (h : DGs X c es g) (hn : (assignEach es X.env).length = n := by rfl) (hst : (assignEach es X.env).findIdx? (·.1) = none := by rfl) : DG X c (.Tuple es k p) (qfE n g) := by
 obtain ⟨t, p, w⟩ := h
 refine ⟨_, qjt (n := n) hc p hn hst, fun ρ σ H d v ρ' N r h e q => ?_⟩
 cases d with
 | tup ds =>
  obtain ⟨a, xs, rfl, ta, il⟩ := h
  have e' : (if ds.length = n then g ds ρ else none) = some ρ' := e
  by_cases hl : ds.length = n
  ·rw [if_pos hl] at e'
   exact ⟨a, xs, rfl, ta.sq, by rw [il.length]; exact hl, w ρ σ H ds xs ρ' N r il e' q⟩
  ·rw [if_neg hl] at e'; cases e'
 | _ => cases e
def qlq (f : M D) (g : D -> Env -> Option Env) : MS := sbnd f fun d ρ => match g d ρ with
 | some ρ' => .ok (.nx ρ')
 | none => .bad
theorem qjY {tg : Expr} {f : M D} {g : D -> Env -> Option Env} (he : DE X c e f) (hg : DG X c tg g) (hs : swapsWithSole [tg] e pos.line X.env = pure false := by rfl) (hw : swappedStores [tg] e X.env = pure none := by rfl) (h1 : (assignEach [tg] X.env).map (·.2) = [assign tg X.env] := by rfl) : DS X c (.Assign [tg] e pos) (qlq f g) := by
 obtain ⟨t, p, w⟩ := he
 obtain ⟨t2, p2, w2⟩ := hg
 refine ⟨_, qgI p p2 hs hw h1, fun ρ σ H D r h => w ρ σ H _ r (Wp.sbnd h fun d ρ1 v H1 r1 i1 g1 h1 => ?_)⟩
 cases e : g d ρ1 with
 | none => rw [e] at h1; exact h1.elim
 | some ρ2 =>
  rw [e] at h1
  exact w2 ρ1 σ H1 d v ρ2 _ r1 i1 e fun σ' r2 g2 _ => h1 σ' H1 r2 g2
end
section
variable {K : Fr0}
def iiD (g : Int -> Int -> D) : D -> D -> Option D
 | .int i, .int j => some (g i j)
 | _, _ => none
def qi6 (C : Int -> Int -> Bool) (g : Int -> Int -> D) : D -> D -> Option D
 | .int i, .int j => if C i j then some (g i j) else none
 | _, _ => none
theorem wM {g : Int -> Int -> V} {gD : Int -> Int -> D} (hg : ∀ A H i j, Is K A H (gD i j) (g i j)) : OpS K (iiD gD) (rI0 g) := by
 intro A H x y d v u Q hn ix iy e k
 cases x <;> cases y <;> simp only [iiD] at e <;> try (cases e; done)
 rename_i i j
 cases (Option.some.inj e)
 cases (show v = .int i from ix)
 cases (show u = .int j from iy)
 exact ⟨i, j, rfl, rfl, k _ H (zM.refl H) (hg _ _ _ _)⟩
theorem qgR {C : Int -> Int -> Prop} {CB : Int -> Int -> Bool} {g : Int -> Int -> V} {gD : Int -> Int -> D} (hC : ∀ i j, CB i j = true -> C i j) (hg : ∀ A H i j, Is K A H (gD i j) (g i j)) : OpS K (qi6 CB gD) (rI C g) := by
 intro A H x y d v u Q hn ix iy e k
 cases x <;> cases y <;> simp only [qi6] at e <;> try (cases e; done)
 rename_i i j
 obtain ⟨e1, e2⟩ := zB e
 subst e2
 cases (show v = .int i from ix)
 cases (show u = .int j from iy)
 exact ⟨i, j, rfl, rfl, hC i j e1, k _ H (zM.refl H) (hg _ _ _ _)⟩
def qcc : D -> D -> Option D := iiD fun i j => .int (i - j)
theorem qaQ : OpS K qcc (rI0 fun i j => .int (i - j)) := wM fun _ _ _ _ => rfl
def jW (i : Int) : Bool := decide (-(2 ^ 64) < i) && decide (i < 2 ^ 64)
theorem qbC {i : Int} (h : jW i = true) : -(2 ^ 64) < i /\ i < 2 ^ 64 := by
 unfold jW at h
 rw [Bool.and_eq_true] at h
 exact ⟨of_decide_eq_true h.1, of_decide_eq_true h.2⟩
def qeq (i j : Int) : Bool := jW i || jW j
theorem qfW {i j : Int} (h : qeq i j = true) : qjB i j := by
 unfold qeq at h
 rw [Bool.or_eq_true] at h
 rcases h with h | h
 ·exact .inl (qbC h)
 ·exact .inr (qbC h)
def qdA (i j : Int) : Bool := decide (0 < j) && decide (j < 1606938044258990275541962092341162602522202993782792835301376)
theorem qcO {i j : Int} (h : qdA i j = true) : qjA i j := by
 unfold qdA at h
 rw [Bool.and_eq_true] at h
 exact ⟨of_decide_eq_true h.1, of_decide_eq_true h.2⟩
def v6 : D -> D -> Option D := qi6 qdA fun i j => .int (i / j)
theorem vc : OpS K v6 (rI qjA fun i j => .int (i / j)) := qgR (fun _ _ => qcO) fun _ _ _ _ => rfl
def qat : D -> D -> Option D := qi6 (fun _ j => decide (0 < j)) fun i j => .int (i % j)
theorem vx : OpS K qat (rI (fun _ j => 0 < j) fun i j => .int (i % j)) := qgR (fun _ _ h => of_decide_eq_true h) fun _ _ _ _ => rfl
def ltD : D -> D -> Option D := iiD fun i j => .bl (decide (i < j))
def leD : D -> D -> Option D := iiD fun i j => .bl (decide (i <= j))
def gtD : D -> D -> Option D := iiD fun i j => .bl (decide (j < i))
def geD : D -> D -> Option D := iiD fun i j => .bl (decide (j <= i))
theorem qgS : OpS K ltD (rI0 fun i j => .bl (decide (i < j))) := wM fun _ _ _ _ => rfl
theorem qgT : OpS K leD (rI0 fun i j => .bl (decide (i <= j))) := wM fun _ _ _ _ => rfl
theorem qbD : OpS K gtD (rI0 fun i j => .bl (decide (j < i))) := wM fun _ _ _ _ => rfl
theorem qer : OpS K geD (rI0 fun i j => .bl (decide (j <= i))) := wM fun _ _ _ _ => rfl
def sc2 : D -> D -> Option Bool
 | .non, .non => some true | .non, .int _ => some false | .int _, .non => some false | .non, .bl _ => some false | .bl _, .non => some false | .non, .str _ => some false | .str _, .non => some false
 | .int i, .int j => some (decide (i = j)) | .bl i, .bl j => some (decide (i = j)) | .str i, .str j => some (decide (i = j))
 | .int _, .str _ => some false | .str _, .int _ => some false | .bl _, .str _ => some false | .str _, .bl _ => some false
 | _, _ => none
def eqS (x y : D) : Option D := (sc2 x y).map D.bl
def neS (x y : D) : Option D := (sc2 x y).map fun b => D.bl (!b)
theorem qgU {A : Addr -> Prop} {H : Hp} {x y : D} {v u : V} {b : Bool} (ix : Is K A H x v) (iy : Is K A H y u) (e : sc2 x y = some b) : qlL v u = true /\ decide (v = u) = b := by
 cases x <;> cases y <;> simp only [sc2] at e <;> first
  | (cases e; done)
  | (cases ix; cases iy; cases e; exact ⟨rfl, rfl⟩)
  | (cases ix; cases iy; cases e; exact ⟨rfl, by simp⟩)
  | (cases ix; cases iy; cases e; exact ⟨rfl, by rw [Bool.eq_iff_iff]; simp⟩)
theorem qhK : OpS K eqS rEq := by
 intro A H x y d v u Q hn ix iy e k
 unfold eqS at e
 cases e1 : sc2 x y with
 | none => rw [e1] at e; cases e
 | some b =>
  rw [e1] at e
  cases e
  obtain ⟨h1, h2⟩ := qgU ix iy e1
  exact ⟨h1, by rw [h2]; exact k _ H (zM.refl H) rfl⟩
theorem qhL : OpS K neS rNe := by
 intro A H x y d v u Q hn ix iy e k
 unfold neS at e
 cases e1 : sc2 x y with
 | none => rw [e1] at e; cases e
 | some b =>
  rw [e1] at e
  cases e
  obtain ⟨h1, h2⟩ := qgU ix iy e1
  exact ⟨h1, by rw [h2]; exact k _ H (zM.refl H) rfl⟩
def ue : D -> Bool
 | .non => true
 | _ => false
theorem wo {A : Addr -> Prop} {H : Hp} {x : D} {v : V} (ix : Is K A H x v) : decide (v = V.non) = ue x := by
 cases x with
 | non => cases ix; rfl
 | bl b => cases ix; rfl
 | int i => cases ix; rfl
 | str s => cases ix; rfl
 | tup ds => obtain ⟨a, xs, rfl, _⟩ := ix; rfl
 | lst ds => obtain ⟨a, xs, rfl, _⟩ := ix; rfl
 | dic ds => obtain ⟨a, rfl, _⟩ := ix; rfl
 | fz ds => obtain ⟨a, rfl, _⟩ := ix; rfl
 | exc ds => obtain ⟨a, rfl, _⟩ := ix; rfl
def isN (x y : D) : Option D := if ue y then some (.bl (ue x)) else none
def qjZ (x y : D) : Option D := if ue y then some (.bl (!ue x)) else none
theorem wN : OpS K isN (fun x y H Q => y = .non /\ Q (.bl (decide (x = .non))) H) := by
 intro A H x y d v u Q hn ix iy e k
 obtain ⟨e1, e2⟩ := zB e
 subst e2
 have h := wo iy
 rw [e1] at h
 refine ⟨of_decide_eq_true h, ?_⟩
 rw [wo ix]
 exact k _ H (zM.refl H) rfl
theorem qfX : OpS K qjZ (fun x y H Q => y = .non /\ Q (.bl (!decide (x = .non))) H) := by
 intro A H x y d v u Q hn ix iy e k
 obtain ⟨e1, e2⟩ := zB e
 subst e2
 have h := wo iy
 rw [e1] at h
 refine ⟨of_decide_eq_true h, ?_⟩
 rw [wo ix]
 exact k _ H (zM.refl H) rfl
def ixD : D -> D -> Option D
 | .tup ds, .int i => atI ds i
 | .lst ds, .int i => atI ds i
 | .fz ns, .int i => (atI ns i).map D.int
 | _, _ => none
theorem IsL.atI {A : Addr -> Prop} {H : Hp} {ds : List D} {xs : List V} {i : Int} {d : D} (h : IsL K A H ds xs) (e : L2.atI ds i = some d) : ∃ v, L2.atI xs i = some v /\ Is K A H d v := by
 unfold L2.atI at e |-
 rw [h.length]
 cases e1 : ixN ds.length i with
 | none => rw [e1] at e; cases e
 | some j =>
  rw [e1] at e
  exact h.get e
theorem qt : OpS K ixD (fun x y H Q => qlS K x y H Q \/ qlT K x y H Q) := by
 intro A H x y d v u Q hn ix iy e k
 cases x <;> cases y <;> simp only [ixD] at e <;> try (cases e; done)
 ·rename_i ds i
  cases iy
  obtain ⟨a, xs, rfl, ta, il⟩ := ix
  obtain ⟨w, h1, h2⟩ := il.atI e
  exact .inr ⟨a, xs, i, w, rfl, rfl, ta.sq, h1, k w H (zM.refl H) h2⟩
 ·rename_i ds i
  cases iy
  obtain ⟨a, xs, rfl, _, ta, il⟩ := ix
  obtain ⟨w, h1, h2⟩ := il.atI e
  exact .inl ⟨a, xs, i, w, rfl, rfl, .inl (.inl ta), h1, k w H (zM.refl H) h2⟩
 ·rename_i ns i
  cases iy
  obtain ⟨a, rfl, ta⟩ := ix
  cases e1 : L2.atI ns i with
  | none => rw [e1] at e; cases e
  | some m =>
   rw [e1] at e
   cases e
   have h1 : L2.atI (ns.map V.int) i = some (V.int m) := by
    unfold L2.atI at e1 |-
    rw [lM_]
    cases e2 : ixN ns.length i with
    | none => rw [e2] at e1; cases e1
    | some j =>
     rw [e2] at e1
     have e3 : ns[j]? = some m := e1
     show (ns.map V.int)[j]? = some (V.int m)
     rw [gM_, e3]; rfl
   exact .inl ⟨a, _, i, .int m, rfl, rfl, ta.sq, h1, k _ H (zM.refl H) rfl⟩
theorem IsL.inv1 {A : Addr -> Prop} {H : Hp} {d : D} {vs : List V} (h : IsL K A H [d] vs) : ∃ v, vs = [v] /\ Is K A H d v := by
 obtain ⟨x, ys, e1, e2, e3⟩ := h
 have e3' : ys = [] := e3
 exact ⟨x, by rw [e1, e3'], e2⟩
theorem IsL.inv2 {A : Addr -> Prop} {H : Hp} {d d' : D} {vs : List V} (h : IsL K A H [d, d'] vs) : ∃ v w, vs = [v, w] /\ Is K A H d v /\ Is K A H d' w := by
 obtain ⟨x, ys, e1, e2, e3⟩ := h
 obtain ⟨w, e4, e5⟩ := IsL.inv1 e3
 exact ⟨x, w, by rw [e1, e4], e2, e5⟩
def qnD : List D -> Option D
 | [.int i] => some (.int (if i < 0 then -i else i))
 | _ => none
def qhM : List D -> Option D
 | [.int i, .int j] => some (.int (if j > i then j else i))
 | _ => none
def qhN : List D -> Option D
 | [.int i, .int j] => some (.int (if j < i then j else i))
 | _ => none
theorem qes : wL K qhM (fun xs H Q => ∃ i j, xs = [.int i, .int j] /\ Q (.int (if j > i then j else i)) H) := by
 intro A H xs d vs Q hn h e k
 unfold qhM at e
 split at e
 ·rename_i i j
  obtain ⟨v, w, rfl, e2, e3⟩ := IsL.inv2 h
  cases e2; cases e3; cases e
  exact ⟨i, j, rfl, k _ H (zM.refl H) rfl⟩
 ·cases e
theorem qet : wL K qhN (fun xs H Q => ∃ i j, xs = [.int i, .int j] /\ Q (.int (if j < i then j else i)) H) := by
 intro A H xs d vs Q hn h e k
 unfold qhN at e
 split at e
 ·rename_i i j
  obtain ⟨v, w, rfl, e2, e3⟩ := IsL.inv2 h
  cases e2; cases e3; cases e
  exact ⟨i, j, rfl, k _ H (zM.refl H) rfl⟩
 ·cases e
def wO : List D -> Option D
 | [.int i, .int j] => if qdA i j then some (.tup [.int (i / j), .int (i % j)]) else none
 | _ => none
theorem qbE : wL K wO (fun xs H Q => ∃ i j, xs = [.int i, .int j] /\ qjA i j /\ ∀ p, H p = none -> Q (.ref p) (upd H p (.tup [.int (i / j), .int (i % j)]))) := by
 intro A H xs d vs Q hn h e k
 unfold wO at e
 split at e
 ·rename_i i j
  obtain ⟨v, w, rfl, e2, e3⟩ := IsL.inv2 h
  cases e2; cases e3
  obtain ⟨e6, e7⟩ := zB e
  subst e7
  exact ⟨i, j, rfl, qcO e6, fun p hp => k _ _ (qs hp _) ⟨p, _, rfl, .inl ql, _, _, rfl, rfl, _, _, rfl, rfl, rfl⟩⟩
 ·cases e
def qni : List D -> Option D
 | [.int i] => some (.int i)
 | [.bl b] => some (.int (if b then 1 else 0))
 | _ => none
def qcd : List D -> Option D
 | [.tup ds] => some (.int ds.length)
 | [.lst ds] => some (.int ds.length)
 | [.fz ns] => some (.int ns.length)
 | [.str x] => if qH x.length then some (.int x.length) else none
 | _ => none
def qmD (K : Fr0) : List V -> Hp -> VK -> Prop := fun xs H Q => (∃ p ys, xs = [.ref p] /\ (SqL K H p ys \/ SqT K H p ys) /\ Q (.int ys.length) H) \/ (∃ z, xs = [.str z] /\ z.length <= sizeLine /\ Q (.int z.length) H)
theorem jI {X : Cx} : yy X (.builtin "len") (qmD X.K) := yy.or qbx qby
theorem jJ : wL K qcd (qmD K) := by
 intro A H xs d vs Q hn h e k
 unfold qcd at e
 split at e
 ·obtain ⟨v, rfl, a, zs, rfl, ta, il⟩ := IsL.inv1 h
  cases e
  exact .inl ⟨a, zs, rfl, .inr ta.sq, by rw [il.length]; exact k _ H (zM.refl H) rfl⟩
 ·obtain ⟨v, rfl, a, zs, rfl, _, ta, il⟩ := IsL.inv1 h
  cases e
  exact .inl ⟨a, zs, rfl, .inl (.inl (.inl ta)), by rw [il.length]; exact k _ H (zM.refl H) rfl⟩
 ·obtain ⟨v, rfl, a, rfl, ta⟩ := IsL.inv1 h
  cases e
  exact .inl ⟨a, _, rfl, .inl ta.sq, by rw [lM_]; exact k _ H (zM.refl H) rfl⟩
 ·rename_i z
  obtain ⟨v, rfl, e2⟩ := IsL.inv1 h
  cases e2
  obtain ⟨e4, e5⟩ := zB e
  subst e5
  exact .inr ⟨z, rfl, of_decide_eq_true e4, k _ H (zM.refl H) rfl⟩
 ·cases e
def qeu : List D -> Option D
 | [.tup ds] => some (.tup ds)
 | [.lst ds] => some (.tup ds)
 | _ => none
theorem qcl : wL K qeu (fun xs H Q => ∃ p ys, xs = [.ref p] /\ ((SqL K H p ys /\ ∀ l, H l = none -> Q (.ref l) (upd H l (.tup ys))) \/ (SqT K H p ys /\ Q (.ref p) H))) := by
 intro A H xs d vs Q hn h e k
 unfold qeu at e
 split at e
 ·obtain ⟨v, rfl, a, zs, rfl, ta, il⟩ := IsL.inv1 h
  cases e
  exact ⟨a, zs, rfl, .inr ⟨ta.sq, k _ H (zM.refl H) ⟨a, zs, rfl, ta, il⟩⟩⟩
 ·obtain ⟨v, rfl, a, zs, rfl, _, ta, il⟩ := IsL.inv1 h
  cases e
  exact ⟨a, zs, rfl, .inl ⟨.inl (.inl ta), fun l hl => k _ _ (qs hl _) ⟨l, zs, rfl, .inl ql, IsL.ext (Ext.of_same (qs hl _)) (fun _ h _ => h) il⟩⟩⟩
 ·cases e
end
end L2.Sk
namespace L2.Sk
open PySem PySem.Spec PySem.Calls PyProof.Rows PySem.W
def qgV (h : Heap) (a D : Addr) : Prop := ∃ o, h.get? a = some o /\ o.cls = .ref D
theorem qgV.looks {M : Model} {h : Heap} {a D : Addr} (I : qgV h a D) : Looks M h (typeOf (.ref a)) (.ref D) := by
 obtain ⟨o, h1, h2⟩ := I
 rw [<- h2]
 exact (Looks.ld h1).andThen .now
section
variable {prog : Program} {w : World} {A : Around} {E : Value -> Shared -> Prop} {K : Frag} {h : Heap} {g : Array GenState} {d : Drawn} {t : Nat} {os : OsState} {a D : Addr}
theorem qj0 (hm : mroIn K D (.type "object") = some true) {tp : Value} {R : Result -> Shared -> Prop} (X : K.In h) (I : qgV h a D) (hq : R (.ok (.ret (.ref D))) ⟨h, g, d, t, os⟩) :
  codeAny (model prog w) A (.call (.builtin "getset_descriptor.__get__") ⟨[.builtin "object.__class__", .ref a, tp], []⟩) R ⟨h, g, d, t, os⟩ := by
 have L0 := I.looks (M := model prog w)
 have L1 := looks_mroIn (M := model prog w) X hm
 have hT5 : (⟨h, g, d, t, os⟩ : Shared).TypeIs (.builtin "object.__class__") "getset_descriptor" := F.typeOf_object_class
 refine codeAny_call_builtin F.slot_gs_get.plain F.entry_gs_get (F.slot_gs_get.check _ _ _ _ _ _ _ _ hT5 (F.args_gs_get _ _ _) ?_)
 have eo : ".".intercalate ("object.__class__".cutAt '.').dropLast = "object" := by decide +kernel
 repeat (any_goals (first | assumption | with_reducible refine L0.at ?_ | with_reducible refine L1.at ?_ | wp_step))
 rw [eo]
 refine L1.at ?_
 repeat (any_goals (first | assumption | with_reducible refine L0.at ?_ | wp_step))
 refine ⟨Code.quiet_builtin _ (by decide +kernel), codeAny_builtin F.entry_object_class ?_⟩
 repeat (any_goals (first | assumption | with_reducible refine L0.at ?_ | wp_step))
theorem qfY (ha : findIn K (.ref D) "__class__" = some (some (.builtin "object.__class__"))) (hm : mroIn K D (.type "object") = some true) {tk : Tok} {Q : Fin -> Shared -> Prop} (X : K.In h) (I : qgV h a D) (hq : Q (.done (.ret (.ref D))) ⟨h, g, d, t, os⟩) :
  wpAny (model prog w) A (Builtin.«object.__getattribute__» ⟨[.ref a, .str "__class__" tk], []⟩) Q E ⟨h, g, d, t, os⟩ := by
 have L0 := I.looks (M := model prog w)
 have L1 := looks_findIn (M := model prog w) X ha
 have hT5 : (⟨h, g, d, t, os⟩ : Shared).TypeIs (.builtin "object.__class__") "getset_descriptor" := F.typeOf_object_class
 have f5 := F.typeOf_object_class
 have f6 := F.slot_gs_get.lookup
 have f7 := F.slot_gs_set.lookup
 repeat (any_goals (first | assumption | with_reducible refine L0.at ?_ | with_reducible refine L1.at ?_ | wp_step))
 refine qj0 hm X I ?_
 repeat (any_goals (first | assumption | wp_step))
theorem qfZ (hb : Looks (model prog w) h (isSubtype (.ref D) (.type "BaseException")) true) {nameV : Value} {Q : Unit -> Shared -> Prop} (I : qgV h a D) (hq : Q () ⟨h, g, d, t, os⟩) : wpAny (model prog w) A (checkBuiltinCall "BaseException.__getattribute__" ⟨[.ref a, nameV], []⟩) Q E ⟨h, g, d, t, os⟩ := by
 have hk : builtinKind "BaseException.__getattribute__" = some .slot := by decide +kernel
 have hsplit : splitId "BaseException.__getattribute__" = some ("BaseException", "__getattribute__") := by decide +kernel
 have L0 := I.looks (M := model prog w)
 have ha := F.args_bexc_ga (.ref a) nameV
 simp only [checkBuiltinCall, hk, hsplit]
 refine wpAny_bind ?_
 ·unfold isInstance
  repeat (first | with_reducible refine L0.at ?_ | with_reducible refine hb.at ?_ | wp_step)
  exact hq
theorem qlW (FA : ExcAttrFacts "ValueError") (hga : findIn K (.ref D) "__getattribute__" = some (some (.builtin "BaseException.__getattribute__"))) (hgt : findIn K (.ref D) "__getattr__" = some none) (ha : findIn K (.ref D) "__class__" = some (some (.builtin "object.__class__"))) (hm : mroIn K D (.type "object") = some true)
  (hb : Looks (model prog w) h (isSubtype (.ref D) (.type "BaseException")) true) {tk : Tok} {fill expr : Bool} {Q : Value -> Shared -> Prop} (X : K.In h) (I : qgV h a D) (hq : Q (.ref D) ⟨h, g, d, t, os⟩) :
  wpAny (model prog w) A (getAttrBy (.ref a) (.str "__class__" tk) fill expr) Q E ⟨h, g, d, t, os⟩ := by
 have L0 := I.looks (M := model prog w)
 have L1 := looks_findIn (M := model prog w) X hga
 have L2 := looks_findIn (M := model prog w) X hgt
 have f3 := FA.ga.bind (.ref a)
 have hx0 : (expr && onTheHeap (Value.builtin "BaseException.__getattribute__")) = false := by cases expr <;> rfl
 have hx2 : (Value.builtin "BaseException.__getattribute__" == Value.builtin "object.__getattribute__") = false := by decide +kernel
 have hx1 : (onTheHeap (Value.ref D) && Value.builtin "BaseException.__getattribute__" == Value.builtin "object.__getattribute__") = false := by rw [hx2]; rfl
 repeat (any_goals (first | assumption | with_reducible refine L0.at ?_ | with_reducible refine L1.at ?_ | with_reducible refine L2.at ?_ | wp_step))
 refine codeAny_call_builtin FA.ga.plain F.entry_bexc_ga (qfZ hb I (qfY ha hm X I ?_))
 repeat (any_goals (first | assumption | wp_step))
theorem qhO (FA : ExcAttrFacts "ValueError") (hga : findIn K (.ref D) "__getattribute__" = some (some (.builtin "BaseException.__getattribute__"))) (hgt : findIn K (.ref D) "__getattr__" = some none) (ha : findIn K (.ref D) "__class__" = some (some (.builtin "object.__class__"))) (hm : mroIn K D (.type "object") = some true)
  (hb : Looks (model prog w) h (isSubtype (.ref D) (.type "BaseException")) true) {Q : Option Value -> Shared -> Prop} (X : K.In h) (I : qgV h a D) (hq : Q (some (.ref D)) ⟨h, g, d, t + 1, os⟩) :
  wpAny (model prog w) A (getAttr? (.ref a) "__class__") Q E ⟨h, g, d, t, os⟩ := by
 unfold getAttr? getAttrBy?
 repeat (any_goals (first | assumption | with_reducible apply qlW FA hga hgt ha hm hb X I | wp_step))
end
theorem qf0 {K : Frag} {a D : Addr} (c : XK6 K D) : KitX K (.ref a) (.ref D) (fun h => qgV h a D) where
 ty := fun _ _ _ I => I.looks
 it := fun _ _ X _ => by
  obtain ⟨cdD, hcD⟩ := Option.isSome_iff_exists.mp c.is
  unfold clsIn at hcD
  split at hcD
  ·rename_i c' d' cd' sl' ho
   intro A' Q' E' s' k q
   unfold isType loadHead
   exact wpAny_bind (wpAny_loadPart (k _ _ (X _ _ ho)) (wpAny_pure q))
  ·cases hcD
 ne := fun h tp dd its n sl X htp => by
  obtain ⟨cdD, hcD⟩ := Option.isSome_iff_exists.mp c.is
  refine Bool.eq_false_iff.mpr fun q => ?_
  have e : D = tp := Value.ref.inj (beq_iff_eq.mp q)
  subst e
  unfold clsIn at hcD
  split at hcD
  ·rename_i c' d' cd' sl' ho
   have z := (X _ _ ho).symm.trans htp
   cases z
  ·cases hcD
 ca := fun {prog w A E Q s} X p k => by
  have I := p
  obtain ⟨h, g, d, t, os⟩ := s
  exact qhO PySem.F.attrBase_ValueError.toExcAttrFacts c.ga c.gt c.cl c.ob (looks_subIn X c.be) X I k
theorem qau {X : Cx} {pins : List (Addr × Obj)} {σ : St} {H : Hp} {s : Shared} {A : Around} {E : Value -> Shared -> Prop} {Q : Value -> Shared -> Prop} {a C : Addr} {c : Value} {b : Bool} (I : Inv X pins σ H s) (xc : XK6 X.K C) (hH : ∃ o vs, H a = some (.frz o (.own a)) /\ o.cls = .ref C /\ o.data = .fields vs)
  (e : kitOne X.K (.ref C) c = some b) (h : ∀ tk, Q (.bool b) { s with toks := tk }) : wpAny (model X.prog X.w) A (call (.builtin "isinstance") [.ref a, c]) Q E s := by
 obtain ⟨o, vs, h1, h2, _⟩ := hH
 obtain ⟨p, _⟩ := (show jX X.prog X.w H s.heap a (.frz o (.own a)) from I.hok a _ h1)
 exact kia_one (qf0 xc) I.kIn ⟨o, p, h2⟩ e (fun z => nomatch z) h
end L2.Sk
namespace L2.Sk
open PySem PySem.Spec PyProof.Rows
def tyD : D -> String
 | .non => "NoneType"
 | .bl _ => "bool"
 | .int _ => "int"
 | .str _ => "str"
 | .tup _ => "tuple"
 | .lst _ => "list"
 | .dic _ => "dict"
 | .fz _ => "list"
 | .exc _ => "exc"
def qcm (t T : String) : Bool := t == T || (t == "bool" && T == "int")
def qdB : List String := ["NoneType", "bool", "int", "str", "tuple", "list", "dict"]
theorem qhP (d : D) (h : ∀ C, d ≠ .exc C) : tyD d ∈ qdB := by
 cases d <;> first | (simp [tyD, qdB]; done) | exact absurd rfl (h _)
structure qi7 (K : Fr0) (T : String) : Prop where
 ok : ∀ t ∈ qdB, PySem.W.kitOne K (.type t) (.type T) = some (qcm t T)
 ex : T ∈ ["int", "bool", "str", "tuple", "list", "dict"]
 nx : qcm "exc" T = false
theorem qhQ {K : Fr0} : qi7 K "int" := ⟨fun t ht => by
 simp only [qdB, List.mem_cons, nN_, or_false] at ht
 rcases ht with rfl | rfl | rfl | rfl | rfl | rfl | rfl <;> kernel_rfl, by decide, by decide⟩
theorem qf1 {K : Fr0} : qi7 K "bool" := ⟨fun t ht => by
 simp only [qdB, List.mem_cons, nN_, or_false] at ht
 rcases ht with rfl | rfl | rfl | rfl | rfl | rfl | rfl <;> kernel_rfl, by decide, by decide⟩
theorem qbF {K : Fr0} : qi7 K "tuple" := ⟨fun t ht => by
 simp only [qdB, List.mem_cons, nN_, or_false] at ht
 rcases ht with rfl | rfl | rfl | rfl | rfl | rfl | rfl <;> kernel_rfl, by decide, by decide⟩
section
variable {X : Cx} {pins : List (Addr × Obj)} {σ : St} {H : Hp} {s : Shared} {A : Addr -> Prop} {E : Value -> Shared -> Prop} {Q : Value -> Shared -> Prop}
theorem qj1 {d : D} {v : V} {u : Value} {T : String} (I : Inv X pins σ H s) (h : Is X.K A H d v) (rv : zZ v u) (kt : qi7 X.K T) (hQ : ∀ tk, Q (.bool (qcm (tyD d) T)) { s with toks := tk }) :
  wpAny (model X.prog X.w) X.A (call (.builtin "isinstance") [u, .type T]) Q E s := by
 by_cases hx : ∃ C, d = .exc C
 ·obtain ⟨C, rfl⟩ := hx
  obtain ⟨a, rfl, xa⟩ := h
  cases (show u = Value.ref a from rv)
  have q : ∀ tk, Q (.bool false) { s with toks := tk } := fun tk => by
   have := hQ tk
   rw [show tyD (.exc C) = "exc" from rfl, kt.nx] at this
   exact this
  obtain ⟨D0, h0, h1, h2⟩ := xa
  exact qau I h1 h2 (h1.no T kt.ex) q
 have e := kt.ok (tyD d) (qhP d fun C hC => hx ⟨C, hC⟩)
 cases d with
 | exc C => exact absurd ⟨C, rfl⟩ hx
 | non => cases h; exact yI I rv .non e hQ
 | bl b => cases h; exact yI I rv (.bl b) e hQ
 | int i => cases h; exact yI I rv (.int i) e hQ
 | str x => cases h; exact yI I rv (.str x) e hQ
 | tup ds =>
  obtain ⟨a, xs, rfl, ta, il⟩ := h
  cases (show u = Value.ref a from rv)
  obtain ⟨its, r, p, z⟩ := I.tuple ta.sq
  obtain ⟨o, h1, h2, _⟩ := p
  exact PySem.W.kia_one PySem.W.kitx_tuple I.kIn ⟨o, h1, h2⟩ e (fun z => nomatch z) hQ
 | lst ds =>
  obtain ⟨a, xs, rfl, hA, ta, il⟩ := h
  exact yI I rv (.lst ta) e hQ
 | dic kvs =>
  obtain ⟨a, rfl, hA, ta⟩ := h
  exact yI I rv (.dK ta) e hQ
 | fz ns =>
  obtain ⟨a, rfl, ta⟩ := h
  cases (show u = Value.ref a from rv)
  obtain ⟨its, r, p, z⟩ := I.list ta.sq
  obtain ⟨o, h1, h2, _⟩ := p.isList
  exact PySem.W.kia_one PySem.W.kitx_list I.kIn ⟨o, h1, h2⟩ e (fun z => nomatch z) hQ
end
def qhR (T : String) (f : M D) : M D := bnd f fun d => ret (.bl (qcm (tyD d) T))
section
variable {X : Cx} {c : Fc} {a b e : Expr} {pos : Pos}
def qnj (K : Fr0) (T : String) : List V -> Hp -> VK -> Prop := fun xs H Q => ∃ v d A, xs = [v, .ty T] /\ Is K A H d v /\ Q (.bl (qcm (tyD d) T)) H
theorem qf2 {T : String} (kt : qi7 X.K T) : yy X (.builtin "isinstance") (qnj X.K T) := by
 intro pins s σ H xs us Q I r h
 obtain ⟨v, d, A, rfl, hi, q⟩ := h
 obtain ⟨u, w, rfl, r1, r2⟩ := qT.two r
 cases (show w = Value.type T from r2)
 exact qj1 I hi r1 kt fun tk => ⟨.bl _, H, I.tok tk, rfl, q⟩
theorem qcP {T : String} {x : Str} {p p2 : Pos} {f : M D} (kt : qi7 X.K T) (hg : Gl X "isinstance") (hm : X.mg "isinstance" = none) (hg2 : Gl X x) (hm2 : X.mg x = none) (hv2 : bootBuiltins x = some (.type T)) (ha : DE X c a f)
  (hv : bootBuiltins "isinstance" = some (.builtin "isinstance") := by first | rfl | exact PySem.boot_isinstance) (hn2 : x ≠ "__name__" := by decide) (hdb2 : (x == ("__debug__" : Str)) = false := by decide)
  (he : starEach [a, .Name x p2] X.env = (false, eval a X.env) :: starEach [.Name x p2] X.env := by rfl) (hpl : (backTo pos (starEach [.Name x p2] X.env)).any (·.1) = false := by rfl) : DE X c (.Call (.Name "isinstance" p) [a, .Name x p2] [] pos) (qhR T f) := by
 obtain ⟨t, pa, w⟩ := ha
 refine ⟨_, wn (qf2 kt) hg hm hv (jQ pa (jQ (qd4 (v := .ty T) hg2 hm2 hv2 rfl hn2 hdb2) vS (by rfl)) he) (by decide) (by decide) he hpl, fun ρ σ H Q r h => w ρ σ H _ r (Wp.bnd h fun d ρ1 v H1 r1 i1 g1 h1 => ?_)⟩
 exact ⟨v, d, _, rfl, i1, h1 _ H1 r1 rfl .refl⟩
end
def uH : List D -> Option (List Bool)
 | [] => some []
 | .bl b :: r => (uH r).map (b :: ·)
 | _ => none
def qai : List D -> Option (List Int)
 | [] => some []
 | .int i :: r => (qai r).map (i :: ·)
 | _ => none
theorem uT {K : Fr0} {A : Addr -> Prop} {H : Hp} : ∀ {ds : List D} {xs : List V} {bs : List Bool}, IsL K A H ds xs -> uH ds = some bs -> xs = bs.map V.bl
 | [], _, _, h, e => by cases e; exact h
 | .bl b :: r, _, bs, ⟨x, ys, hx, h1, h2⟩, e => by
  cases h1
  cases e1 : uH r with
  | none => simp [uH, e1] at e
  | some l =>
   simp [uH, e1] at e
   subst e
   rw [hx, uT h2 e1]; rfl
 | .non :: _, _, _, _, e => by cases e
 | .int _ :: _, _, _, _, e => by cases e
 | .str _ :: _, _, _, _, e => by cases e
 | .tup _ :: _, _, _, _, e => by cases e
 | .lst _ :: _, _, _, _, e => by cases e
 | .dic _ :: _, _, _, _, e => by cases e
 | .fz _ :: _, _, _, _, e => by cases e
 | .exc _ :: _, _, _, _, e => by cases e
theorem qav {K : Fr0} {A : Addr -> Prop} {H : Hp} : ∀ {ds : List D} {xs : List V} {bs : List Int}, IsL K A H ds xs -> qai ds = some bs -> xs = bs.map V.int
 | [], _, _, h, e => by cases e; exact h
 | .int b :: r, _, bs, ⟨x, ys, hx, h1, h2⟩, e => by
  cases h1
  cases e1 : qai r with
  | none => simp [qai, e1] at e
  | some l =>
   simp [qai, e1] at e
   subst e
   rw [hx, qav h2 e1]; rfl
 | .non :: _, _, _, _, e => by cases e
 | .bl _ :: _, _, _, _, e => by cases e
 | .str _ :: _, _, _, _, e => by cases e
 | .tup _ :: _, _, _, _, e => by cases e
 | .lst _ :: _, _, _, _, e => by cases e
 | .dic _ :: _, _, _, _, e => by cases e
 | .fz _ :: _, _, _, _, e => by cases e
 | .exc _ :: _, _, _, _, e => by cases e
theorem qcQ {bs : List Bool} : ∀ {us : List Value}, qT (bs.map V.bl) us -> LSm.BoolsAre us bs := by
 induction bs with
 | nil => intro us r; rw [List.map_nil] at r; cases r; exact .nil
 | cons b bs ih =>
  intro us r
  rw [mC_] at r
  cases r with
  | cons r1 r2 =>
   cases (show _ = Value.bool b from r1)
   exact .cons b (ih r2)
section
variable {X : Cx}
theorem qf3 (hc : X.calm = true) : yy X (.builtin "all") (fun xs H Q => ∃ (p : Addr) (bs : List Bool), xs = [.ref p] /\ H p = some (.lst (bs.map V.bl)) /\ Q (.bl (bs.all id)) H) := by
 intro pins s σ H xs us Q I r h
 obtain ⟨p, bs, rfl, hp, q⟩ := h
 obtain ⟨u, rfl, ru⟩ := qT.one r
 cases ru
 obtain ⟨its, rv, pl, hz⟩ := I.list (SqL.of hp)
 have hl := pl.isList
 have hb := qcQ rv
 have hlt : p < s.heap.objs.size := by obtain ⟨_, e, _⟩ := hl; exact Heap.lt_size e
 refine call_all_walk (wpAny_pyIter_list hl ?_)
 refine ⟨s.heap.objs.size, [s.heap.objs.size, p], [s.heap.objs.size], its.toArray.size, _, _, fun i => (bs[i]?).getD true, rfl, Walks.list (A := X.A.in1) (I.ok.hd hc) _ p (Nat.ne_of_lt hlt) its.toArray,
  ⟨⟨_, Heap.get?_push_size _ rfl, rfl, rfl⟩, hl.push _⟩, fun i v s' Q' E' hP hQ => ?_, fun h' tk hk => ?_⟩
 ·obtain ⟨b, e, rfl⟩ := hb.get i v (by simpa using hP)
  simp only [e, Option.getD_some] at hQ
  exact wpAny_truthy_bool hQ
 ·have e : ((List.range its.toArray.size).all fun i => (bs[i]?).getD true) = bs.all id := by
   rw [sT_, hb.length]; exact LSm.range_all bs
  rw [e]
  exact ⟨.bl _, H, I.kept (LSm.kept_iter hk), rfl, q⟩
theorem qcR (hc : X.calm = true) : yy X (.builtin "any") (fun xs H Q => ∃ (p : Addr) (bs : List Bool), xs = [.ref p] /\ H p = some (.lst (bs.map V.bl)) /\ Q (.bl (bs.any id)) H) := by
 intro pins s σ H xs us Q I r h
 obtain ⟨p, bs, rfl, hp, q⟩ := h
 obtain ⟨u, rfl, ru⟩ := qT.one r
 cases ru
 obtain ⟨its, rv, pl, hz⟩ := I.list (SqL.of hp)
 have hl := pl.isList
 have hb := qcQ rv
 have hlt : p < s.heap.objs.size := by obtain ⟨_, e, _⟩ := hl; exact Heap.lt_size e
 refine call_any_walk (wpAny_pyIter_list hl ?_)
 refine ⟨s.heap.objs.size, [s.heap.objs.size, p], [s.heap.objs.size], its.toArray.size, _, _, fun i => (bs[i]?).getD false, rfl, Walks.list (A := X.A.in1) (I.ok.hd hc) _ p (Nat.ne_of_lt hlt) its.toArray,
  ⟨⟨_, Heap.get?_push_size _ rfl, rfl, rfl⟩, hl.push _⟩, fun i v s' Q' E' hP hQ => ?_, fun h' tk hk => ?_⟩
 ·obtain ⟨b, e, rfl⟩ := hb.get i v (by simpa using hP)
  simp only [e, Option.getD_some] at hQ
  exact wpAny_truthy_bool hQ
 ·have e : ((List.range its.toArray.size).any fun i => (bs[i]?).getD false) = bs.any id := by
   rw [sT_, hb.length]; exact LSm.range_any bs
  rw [e]
  exact ⟨.bl _, H, I.kept (LSm.kept_iter hk), rfl, q⟩
theorem qf4 (hc : X.calm = true) : yy X (.builtin "sum") (fun xs H Q => ∃ (p : Addr) (ns : List Int), xs = [.ref p] /\ H p = some (.lst (ns.map V.int)) /\ Q (.int ns.sum) H) := by
 intro pins s σ H xs us Q I r h
 obtain ⟨p, ns, rfl, hp, q⟩ := h
 obtain ⟨u, rfl, ru⟩ := qT.one r
 cases ru
 obtain ⟨its, rv, pl, hz⟩ := I.list (SqL.of hp)
 have hl := pl.isList
 have hi : IntsAre its ns := qdx rv
 obtain ⟨zs, hx⟩ := hi.allInts.items
 have hl' : s.heap.IsList p (intItems zs) := hx ▸ hl
 refine sum_intListG (I.ok.hd hc) hl' fun h' tk t' hk => ?_
 have e1 : ns = zs.toList.map (·.1) := by
  rw [<- nums_intItems, <- hx]
  exact (show numsOf its.toArray.toList = ns from hi.numsOf).symm
 have e2 : preSum (numAt zs) zs.size = ns.sum := by
  rw [preSum_eq, List.take_of_length_le (by simp), e1]
 rw [e2]
 exact ⟨.int _, H, I.kept hk, ⟨_, rfl⟩, q⟩
end
def qi8 : List D -> Option D
 | [.lst ds] => (uH ds).map fun bs => .bl (bs.all id)
 | _ => none
def qlr : List D -> Option D
 | [.lst ds] => (uH ds).map fun bs => .bl (bs.any id)
 | _ => none
def qlX : List D -> Option D
 | [.lst ds] => (qai ds).map fun bs => .int bs.sum
 | _ => none
section
variable {K : Fr0}
theorem qev : wL K qi8 (fun xs H Q => ∃ (p : Addr) (bs : List Bool), xs = [.ref p] /\ H p = some (.lst (bs.map V.bl)) /\ Q (.bl (bs.all id)) H) := by
 intro A H xs d vs Q hn h e k
 unfold qi8 at e
 split at e
 ·obtain ⟨v, rfl, a, zs, rfl, _, ta, il⟩ := IsL.inv1 h
  obtain ⟨bs, h1, h2⟩ := Option.map_eq_some_iff.mp e
  subst h2
  rw [uT il h1] at ta
  exact ⟨a, bs, rfl, ta, k _ H (zM.refl H) rfl⟩
 ·cases e
theorem qbG : wL K qlr (fun xs H Q => ∃ (p : Addr) (bs : List Bool), xs = [.ref p] /\ H p = some (.lst (bs.map V.bl)) /\ Q (.bl (bs.any id)) H) := by
 intro A H xs d vs Q hn h e k
 unfold qlr at e
 split at e
 ·obtain ⟨v, rfl, a, zs, rfl, _, ta, il⟩ := IsL.inv1 h
  obtain ⟨bs, h1, h2⟩ := Option.map_eq_some_iff.mp e
  subst h2
  rw [uT il h1] at ta
  exact ⟨a, bs, rfl, ta, k _ H (zM.refl H) rfl⟩
 ·cases e
theorem qew : wL K qlX (fun xs H Q => ∃ (p : Addr) (ns : List Int), xs = [.ref p] /\ H p = some (.lst (ns.map V.int)) /\ Q (.int ns.sum) H) := by
 intro A H xs d vs Q hn h e k
 unfold qlX at e
 split at e
 ·obtain ⟨v, rfl, a, zs, rfl, _, ta, il⟩ := IsL.inv1 h
  obtain ⟨bs, h1, h2⟩ := Option.map_eq_some_iff.mp e
  subst h2
  rw [qav il h1] at ta
  exact ⟨a, bs, rfl, ta, k _ H (zM.refl H) rfl⟩
 ·cases e
end
section
variable {X : Cx}
def qgW (K : Fr0) : R2 := fun x y H Q => ∃ a b ys, x = .ref a /\ y = .ref b /\ SqT K H a [] /\ SqT K H b ys /\ Q (.ref b) H
theorem qf5 : OpR X (binaryOp .Add) (qgW X.K) := by
 intro pins s σ H x y v u Q I rx ry h
 obtain ⟨a, b, ys, rfl, rfl, ha, hb, q⟩ := h
 cases rx
 cases ry
 obtain ⟨its, r1, p1, _⟩ := I.tuple ha
 obtain ⟨its2, r2, p2, _⟩ := I.tuple hb
 cases r1
 obtain ⟨⟨cls, dd, data, sl⟩, ho, hc, n, hd⟩ := id p1
 obtain ⟨⟨cls2, dd2, data2, sl2⟩, ho2, hc2, n2, hd2⟩ := id p2
 simp only at hc hd hc2 hd2
 subst hc hd hc2 hd2
 exact concat_meets ⟨_, ho, rfl⟩ ⟨_, ho2, rfl⟩ noFill_tuple_add seq_tuple_add PySem.F.slot_tuple_add PySem.F.entry_tuple_add (PySem.F.args_tuple_add_2 _ _)
   (tuple_addW0 a b [].toArray its2.toArray n n2 dd dd2 sl sl2 (by simp)) ⟨ho, ho2, ⟨.ref b, H, I, rfl, q⟩⟩
def qj2 (K : Fr0) : R2 := fun x y H Q => (∃ i j, x = .int i /\ y = .int j /\ Q (.int (i + j)) H) \/ ((∃ i j, x = .str i /\ y = .str j /\ i.length + j.length <= sizeLine /\ Q (.str (i ++ j)) H) \/ (qgW K x y H Q \/ (qjM K x y H Q \/ qmz x y H Q)))
theorem z5 : OpR X (binaryOp .Add) (qj2 X.K) := OpR.or qjC (OpR.or qdu (OpR.or qf5 (OpR.or qhC qjS)))
end
def uv : D -> D -> Option D
 | .int i, .int j => some (.int (i + j))
 | .str x, .str y => if qH (x.length + y.length) then some (.str (x ++ y)) else none
 | .tup xs, .tup ys => if qH (xs.length + ys.length) then some (.tup (xs ++ ys)) else none
 | .lst xs, .lst ys => if qH (xs.length + ys.length) then some (.lst (xs ++ ys)) else none
 | _, _ => none
theorem z6 {K : Fr0} : OpS K uv (qj2 K) := by
 intro A H x y d v u Q hn ix iy e k
 cases x <;> cases y <;> simp only [uv] at e <;> try (cases e; done)
 ·rename_i i j
  cases ix; cases iy; cases e
  exact .inl ⟨i, j, rfl, rfl, k _ H (zM.refl H) rfl⟩
 ·rename_i i j
  cases ix; cases iy
  obtain ⟨e1, e2⟩ := zB e
  subst e2
  exact .inr (.inl ⟨i, j, rfl, rfl, of_decide_eq_true e1, k _ H (zM.refl H) rfl⟩)
 ·rename_i ds es
  obtain ⟨a, xs, rfl, ta, il⟩ := ix
  obtain ⟨b, ys, rfl, tb, jl⟩ := iy
  obtain ⟨e1, e2⟩ := zB e
  subst e2
  have hs : xs.length + ys.length <= sizeLine := by rw [il.length, jl.length]; exact of_decide_eq_true e1
  refine .inr (.inr ?_)
  cases ds with
  | nil =>
   have hx : xs = [] := il
   subst hx
   exact .inl ⟨a, b, ys, rfl, rfl, ta.sq, tb.sq, k _ H (zM.refl H) ⟨b, ys, rfl, tb, jl⟩⟩
  | cons d0 ds =>
   refine .inr (.inl ⟨a, b, xs, ys, rfl, rfl, ta.sq, tb.sq, ?_, hs, fun hy => ?_, fun hy p hp => ?_⟩)
   ·obtain ⟨x, zs, hx, _⟩ := il
    rw [hx]; simp
   ·subst hy
    cases es with
    | nil => rw [List.append_nil] at k; exact k _ H (zM.refl H) ⟨a, xs, rfl, ta, il⟩
    | cons e0 es => obtain ⟨_, _, hx, _⟩ := jl; cases hx
   ·exact k _ _ (qs hp _) ⟨p, xs ++ ys, rfl, .inl ql, IsL.ext (Ext.of_same (qs hp _)) (fun _ h _ => h) (IsL.append il jl)⟩
 ·rename_i ds es
  obtain ⟨a, xs, rfl, hA, ta, il⟩ := ix
  obtain ⟨b, ys, rfl, hB, tb, jl⟩ := iy
  obtain ⟨e1, e2⟩ := zB e
  subst e2
  have hs : xs.length + ys.length <= sizeLine := by rw [il.length, jl.length]; exact of_decide_eq_true e1
  exact .inr (.inr (.inr (.inr ⟨a, b, xs, ys, rfl, rfl, ta, tb, hs, fun p hp => k _ _ (qs hp _) ⟨p, xs ++ ys, rfl, hn p hp, ql, IsL.ext (Ext.of_same (qs hp _)) (fun _ h _ => h) (IsL.append il jl)⟩⟩)))
section
variable {X : Cx}
def qmE (K : Fr0) : V -> Option Int -> Option Int -> Hp -> VK -> Prop := fun x lo hi H Q => ∃ a xs, x = .ref a /\ SqT K H a xs /\ (HT.sIx xs.length 0 lo = 0 /\ HT.sIx xs.length xs.length hi = xs.length) /\ Q (.ref a) H
theorem uU {prog : Program} {w : World} {A : Around} {E : Value -> Shared -> Prop} {s : Shared} {t sl : Addr} {items : Array Value} {vl vu : Value} {lo hi : Option Int} {Q : Value -> Shared -> Prop} (ht : IsTup s.heap t items) (hs : s.heap.IsSliceOf sl vl vu .none) (pl : IsPart vl lo) (pu : IsPart vu hi)
  (hw : HT.sIx items.size 0 lo = 0 /\ HT.sIx items.size items.size hi = items.size) (h : Q (.ref t) s) : wpAny (model prog w) A (getItem (.ref t) (.ref sl)) Q E s := by
 obtain ⟨os, hos, hcs, hds⟩ := id hs
 have hTs : s.TypeIs (.ref sl) "slice" := ⟨os, hos, hcs⟩
 unfold getItem
 try with_reducible refine wpAny_holding ?_
 first | refine wpAny_bind (wpAny_pure ?_) | skip
 refine wpAny_bind (wpAny_sequenceKey ht.typeIs (by decide) ?_)
 refine wpAny_bind (wpAny_callSpecial?_slot (name := Str.ofString "__getitem__") ht.typeIs PyProof.Rows.slot_tuple_getitem
  (wpAny_call_entry PyProof.Rows.slot_tuple_getitem ht.typeIs entry_tuple_getitem ?_ (args_tuple_getitem _ _)))
 show wpAny _ _ (Builtin.Tuple.tupleItemsOf (.ref t) >>= _) _ _ s
 refine wpAny_bind (tupleItemsOf_ ht ?_)
 refine wpAny_bind (wpAny_typeOf hTs ?_)
 rw [if_pos (by decide)]
 refine wpAny_bind (HT.sliceApplied_gen hs pl pu ?_)
 have hyes : (((HT.sIx items.size 0 lo : Nat) : Int) == 0 && (1 : Int) == 1 && (HT.sIx items.size items.size hi - HT.sIx items.size 0 lo) == items.size) = true := by
  rw [hw.1, hw.2]; simp
 show wpAny _ _ (if (((HT.sIx items.size 0 lo : Nat) : Int) == 0 && (1 : Int) == 1 && (HT.sIx items.size items.size hi - HT.sIx items.size 0 lo) == items.size) = true then _ else _) _ _ s
 rw [if_pos hyes]
 refine wpAny_bind (m := Builtin.Tuple.tupleIsExact (.ref t)) ?_
 unfold Builtin.Tuple.tupleIsExact
 refine wpAny_bind (wpAny_typeOf ht.typeIs ?_)
 refine wpAny_pure ?_
 rw [if_pos (by decide)]
 exact wpAny_bind (wpAny_rule (wpAny_pure ⟨_, rfl, wpAny_pure h⟩))
theorem qf6 : SlR X (qmE X.K) := by
 intro pins s σ H x v vl vu lo hi sl Q I rx hs pl pu h
 obtain ⟨a, xs, rfl, hx, hw, q⟩ := h
 cases rx
 obtain ⟨its, r, ht, hz⟩ := I.tuple hx
 have hlen : its.toArray.size = xs.length := by rw [sT_]; exact r.length.symm
 refine ⟨"tuple", _, PyProof.Rows.slot_tuple_getitem.lookup, ht.typeIs, ?_⟩
 exact uU ht hs pl pu (by rw [hlen]; exact hw) ⟨.ref a, H, I, rfl, q⟩
theorem qj3 : SlR X (fun x lo hi H Q => qmE X.K x lo hi H Q \/ qmy X.K x lo hi H Q) := SlR.or qf6 sl_tup
end
def qcS (xs : List D) (lo hi : Option Int) : List D := (xs.drop (HT.sIx xs.length 0 lo)).take (HT.sIx xs.length xs.length hi - HT.sIx xs.length 0 lo)
def slD (x : D) (lo hi : Option Int) : Option D := match x with
 | .tup ds => some (.tup (qcS ds lo hi))
 | _ => none
section
variable {X : Cx} {c : Fc} {a b e : Expr} {pos p2 : Pos}
def DO (X : Cx) (c : Fc) (e : Option Expr) (f : M (Option Int)) : Prop := ∃ t, PO X e t /\ ∀ ρ σ H Q, Rep X.K c ρ σ H -> (∀ o ρ', f ρ = .ok (o, ρ') -> ∀ H', Rep X.K c ρ' σ H' -> Gr c.O σ H H' -> Q o H') -> (∀ x ρ', f ρ = .exc x ρ' -> ∀ H', Rep X.K c ρ' σ H' -> Gr c.O σ H H' -> c.E x H') -> f ρ ≠ .bad -> t σ H Q
theorem qex : DO X c none (ret none) := ⟨_, qhA, fun ρ σ H Q r h _ _ => h none ρ rfl H r .refl⟩
def asI : D -> Option Int
 | .int i => some i
 | _ => none
def qbH (f : M D) : M (Option Int) := bnd f fun d => match d with
 | .int i => ret (some i)
 | _ => fun _ => .bad
theorem qey {f : M D} (h : DE X c e f) : DO X c (some e) (qbH f) := by
 obtain ⟨t, p, w⟩ := h
 refine ⟨_, qhB p, fun ρ σ H Q r h1 h2 h3 => w ρ σ H _ r ?_⟩
 unfold qbH bnd at h1 h2 h3
 cases e1 : f ρ with
 | ok q =>
  obtain ⟨d, ρ'⟩ := q
  rw [e1] at h1 h2 h3
  intro v H' r' i' g'
  cases d <;> simp only [ret] at h1 h2 h3 <;> try (exact absurd rfl h3)
  rename_i i
  exact ⟨i, i', h1 (some i) ρ' rfl H' r' g'⟩
 | exc x ρ' => rw [e1] at h2; exact fun H' r' g' => h2 x ρ' rfl H' r' g'
 | bad => rw [e1] at h3; exact absurd rfl h3
def dsl (f : M D) (g k : M (Option Int)) : M D := bnd f fun d => bnd g fun l => bnd k fun u => lift (slD d l u)
end
def qI (X : Cx) (scope : Scope) (N' : List Str) (fp : List Addr) (cl : List (Str × Addr)) (C : Addr) (s₀ : Shared) (H₀ : Hp) (pn : List (Addr × Obj)) : Cx where
 prog := X.prog
 w := X.w
 K := X.K
 mg := X.mg
 base := X.base
 A := X.A
 N := N'
 s₀ := s₀
 H₀ := H₀
 env := compEnvC scope cl C X.env
 outer := X.stack
 stack := X.stack
 ex := fp
 fn := fun _ => false
 calm := X.calm
 pn := pn
 xe := fun _ _ => False
def PF (X : Cx) (ifs : List Expr) (t : TT) : Prop := ∀ (pins : List (Addr × Obj)) (s : Shared) (σ : St) (H : Hp) (Q : Bool -> Hp -> Prop), Inv X pins σ H s -> t σ H Q ->
 wpAny (model X.prog X.w) X.A (forIn ifs true fun c r => if r = true then do let ok <- isTrue c X.env (eval c X.env); pure (ForInStep.yield ok) else pure (ForInStep.yield r)) (TP X pins σ Q) X.xe s
theorem qj4 {X : Cx} : PF X [] (fun _ H Q => Q true H) := fun pins s σ H Q I h => wpAny_tests_nil ⟨H, I, h⟩
theorem qj5 {X : Cx} {e : Expr} {t : TT} (h : PT X e t) : PF X [e] t := fun pins s σ H Q I hw => wpAny_tests_one (h pins s σ H Q I hw)
structure CompScope (X : Cx) (scope : Scope) (N' : List Str) (nt : Nat) (fr : List Nat) : Prop where
 kind : scope.kind = .function
 nocell : ∀ y ∈ scope.names, y.2 ≠ .cell
 names : ∀ y ∈ scope.names, y.2 = .local -> scope.names.lookup y.1 = some .local
 frees : ∀ y ∈ scope.names, y.2 = .free -> X.env.kindOf y.1 = some .cell
 len : N'.length = nt + fr.length
 slot : ∀ i j, fr[i]? = some j -> ∃ x, N'[nt + i]? = some x /\ X.N[j]? = some x /\ scope.names.lookup x = some .free
theorem vy {env : PySem.Env} : ∀ (names : List (Str × NameKind)) (cs : List (Str × Addr)), (∀ y ∈ names, y.2 = .free -> ∃ a, env.cells.lookup y.1 = some a) -> (∀ n a, cs.lookup n = some a -> env.cells.lookup n = some a) ->
  ∃ cl, (forIn names cs fun x r => match x with | (name, kind) => if (kind == NameKind.free) = true then do let a <- cellOf env name; pure (ForInStep.yield ((name, a) :: r)) else pure (ForInStep.yield r) : Sem (List (Str × Addr))) = pure cl /\
   (∀ n a, cl.lookup n = some a -> env.cells.lookup n = some a) /\ (∀ n, (∃ a, cs.lookup n = some a) -> ∃ a, cl.lookup n = some a) /\ ∀ y ∈ names, y.2 = .free -> ∃ a, cl.lookup y.1 = some a
 | [], cs, _, h => ⟨cs, rfl, h, fun _ h => h, fun y hy => by cases hy⟩
 | (n, k) :: r, cs, hf, h => by
  have hr : ∀ y ∈ r, y.2 = .free -> ∃ a, env.cells.lookup y.1 = some a := fun y hy => hf y (mM _ hy)
  rw [List.forIn_cons]
  by_cases hk : k = .free
  ·subst hk
   obtain ⟨a, ha⟩ := hf (n, .free) mS_ rfl
   have ha' : env.cells.lookup n = some a := ha
   have hcell : cellOf env n = pure a := by unfold cellOf; rw [ha']
   obtain ⟨cl, e1, e2, e3, e4⟩ := vy r ((n, a) :: cs) hr (fun m b hm => by
    rw [List.lookup_cons] at hm
    cases e : m == n with
    | true => rw [e] at hm; cases hm; rw [eq_of_beq e]; exact ha'
    | false => rw [e] at hm; exact h m b hm)
   refine ⟨cl, ?_, e2, fun m ⟨b, hm⟩ => e3 m ?_, fun y hy hyf => ?_⟩
   ·show ((if (NameKind.free == NameKind.free) = true then _ else _) >>= _) = _
    rw [if_pos (by rfl), hcell]
    exact e1
   ·rw [List.lookup_cons]
    cases e : m == n with
    | true => exact ⟨a, rfl⟩
    | false => exact ⟨b, hm⟩
   ·rcases List.mem_cons.mp hy with rfl | hy
    ·exact e3 n ⟨a, by rw [List.lookup_cons]; simp⟩
    ·exact e4 y hy hyf
  ·have hb : (k == NameKind.free) = false := by simpa using hk
   obtain ⟨cl, e1, e2, e3, e4⟩ := vy r cs hr h
   refine ⟨cl, ?_, e2, e3, fun y hy hyf => ?_⟩
   ·show ((if (k == NameKind.free) = true then _ else _) >>= _) = _
    rw [hb, if_neg Bool.false_ne_true]
    exact e1
   ·rcases List.mem_cons.mp hy with rfl | hy
    ·exact absurd hyf hk
    ·exact e4 y hy hyf
theorem closureFor_ok {env : PySem.Env} {scope : Scope} (hf : ∀ y ∈ scope.names, y.2 = .free -> ∃ a, env.cells.lookup y.1 = some a) :
  ∃ cl, closureFor scope env = pure cl /\ (∀ n a, cl.lookup n = some a -> env.cells.lookup n = some a) /\ ∀ y ∈ scope.names, y.2 = .free -> ∃ a, cl.lookup y.1 = some a := by
 obtain ⟨cl, e1, e2, _, e4⟩ := vy scope.names [] hf (fun n a h => by cases h)
 refine ⟨cl, ?_, e2, e4⟩
 unfold closureFor
 show (forIn scope.names [] _ >>= _) = _
 have e5 : (forIn scope.names [] fun x r => match x with | (name, kind) => if (kind == NameKind.free) = true then do let a <- cellOf env name; pure (ForInStep.yield ((name, a) :: r)) else pure (ForInStep.yield r) : Sem (List (Str × Addr))) = pure cl := e1
 first
  | (rw [e5]; rfl)
  | (simp only [bind_pure_comp, e5]; rfl)
theorem yj {env : PySem.Env} : ∀ {names : List (Str × NameKind)} {x : Str}, names.lookup x = some .free -> env.scope.kind = .function -> env.kindOf x = some .cell ->
  (names.map fun (n, k) => if (k == NameKind.free && env.scope.kind == .function && env.kindOf n == some .cell) then (n, NameKind.cell) else (n, k)).lookup x = some .cell
 | [], _, h, _, _ => by simp at h
 | (n, k) :: r, x, h, hk, hx => by
  have ih := @yj env r x
  show List.lookup x ((if (k == NameKind.free && env.scope.kind == .function && env.kindOf n == some .cell) = true then (n, NameKind.cell) else (n, k)) :: _) = _
  cases hxn : x == n with
  | true =>
   have e : x = n := eq_of_beq hxn
   subst e
   simp only [List.lookup_cons, hxn] at h
   cases h
   rw [if_pos (by rw [hk, hx]; rfl)]
   simp only [List.lookup_cons, hxn]
  | false =>
   simp only [List.lookup_cons, hxn] at h
   by_cases hc : (k == NameKind.free && env.scope.kind == .function && env.kindOf n == some .cell) = true
   ·rw [if_pos hc]; simp only [List.lookup_cons, hxn]; exact ih h hk hx
   ·rw [if_neg hc]; simp only [List.lookup_cons, hxn]; exact ih h hk hx
theorem ju {env : PySem.Env} : ∀ {names : List (Str × NameKind)} {x : Str} {q : NameKind}, (names.map fun (n, k) => if (k == NameKind.free && env.scope.kind == .function && env.kindOf n == some .cell) then (n, NameKind.cell) else (n, k)).lookup x = some q ->
  q = .cell \/ q = .free -> (∀ y ∈ names, y.2 ≠ .cell) -> ∃ k, (x, k) ∈ names /\ k = .free
 | [], _, _, h, _, _ => by simp at h
 | (n, k) :: r, x, q, h, hq, hc => by
  have ih := @ju env r x q
  have h' : List.lookup x ((if (k == NameKind.free && env.scope.kind == .function && env.kindOf n == some .cell) = true then (n, NameKind.cell) else (n, k)) :: (r.map fun (n, k) => if (k == NameKind.free && env.scope.kind == .function && env.kindOf n == some .cell) then (n, NameKind.cell) else (n, k))) = some q := h
  have hr : ∀ y ∈ r, y.2 ≠ .cell := fun y hy => hc y (mM _ hy)
  by_cases hcd : (k == NameKind.free && env.scope.kind == .function && env.kindOf n == some .cell) = true
  ·rw [if_pos hcd] at h'
   cases hxn : x == n with
   | true =>
    have e : x = n := eq_of_beq hxn
    subst e
    refine ⟨k, mS_, ?_⟩
    rw [Bool.and_eq_true, Bool.and_eq_true] at hcd
    exact eq_of_beq hcd.1.1
   | false =>
    simp only [List.lookup_cons, hxn] at h'
    obtain ⟨k', m, e⟩ := ih h' hq hr
    exact ⟨k', mM _ m, e⟩
  ·rw [if_neg hcd] at h'
   cases hxn : x == n with
   | true =>
    have e : x = n := eq_of_beq hxn
    subst e
    simp only [List.lookup_cons, hxn] at h'
    cases h'
    rcases hq with rfl | rfl
    ·exact absurd rfl (hc (x, .cell) mS_)
    ·exact ⟨.free, mS_, rfl⟩
   | false =>
    simp only [List.lookup_cons, hxn] at h'
    obtain ⟨k', m, e⟩ := ih h' hq hr
    exact ⟨k', mM _ m, e⟩
def qw (nt : Nat) (fr : List Nat) (σ : St) : St := List.replicate nt none ++ fr.map fun j => (σ[j]?).join
def qhS (X : Cx) (tg : Expr) (ifs : List Expr) (elt : Expr) (scope : Scope) (N' : List Str) (wi : TI) (nt : Nat) (fr : List Nat) : TE := fun σ H Q => wi σ H fun J H1 => ∀ acc fp cl C s₀ H₀ pn, H1 acc = none ->
 ∃ (g : TG) (tt : TT) (te : TE), PG (qI X scope N' fp cl C s₀ H₀ pn) tg g /\ PF (qI X scope N' fp cl C s₀ H₀ pn) ifs tt /\ PE (qI X scope N' fp cl C s₀ H₀ pn) elt te /\
 ∃ W : Nat -> Nat -> St -> Hp -> Prop, (∃ m, W 0 m (qw nt fr σ) (upd H1 acc (.lst []))) /\
 ∀ i m σ' H', W i m σ' H' -> (J.stop i H' /\ Q (.ref acc) H') \/ (J.go i H' /\ ∀ x H'', J.yld i H' x H'' -> g x σ' H'' fun σ2 H2 => tt σ2 H2 fun b H3 =>
  if b = true then te σ2 H3 fun y H4 => ∃ ys, H4 acc = some (.lst ys) /\ ys.length < sizeLine /\ ∃ m', m' < m /\ W (i + 1) m' σ2 (upd H4 acc (.lst (ys ++ [y]))) else ∃ m', m' < m /\ W (i + 1) m' σ2 H3)
section
variable {X : Cx} {tg iter elt : Expr} {ifs : List Expr} {scope : Scope} {pos : Pos} {wi : TI} {N' : List Str} {nt : Nat} {fr : List Nat}
theorem uV {prog : Program} {w : World} {A : Around} {R : Result -> Shared -> Prop} {s : Shared} {it acc : Value} {env : PySem.Env} (I : Nat -> Shared -> Prop)
  (turn : ∀ n s, I n s -> wpAny (model prog w) A (pyNext it) (fun r s₁ => match r with
   | none => R (.ok .next) s₁
   | some v => wpAny (model prog w) A (letOwnedTupleGo tg it v) (fun _ s₁' => wpAny (model prog w) A (assign tg env v) (fun _ s₂ =>
     wpAny (model prog w) A (forIn ifs true fun c r => if r = true then do let ok <- isTrue c env (eval c env); pure (ForInStep.yield ok) else pure (ForInStep.yield r)) (fun ok s₃ =>
      if ok = true then wpAny (model prog w) A (eval elt env) (fun x s₄ =>
       wpAny (model prog w) A (call (.builtin "list.append") [acc, x]) (fun _ s₅ => ∃ m, m < n /\ I m s₅) (fun _ _ => False) s₄) (fun _ _ => False) s₃
      else ∃ m, m < n /\ I m s₃) (fun _ _ => False) s₂) (fun _ _ => False) s₁') (fun _ _ => False) s₁) (fun _ _ => False) s)
  (n : Nat) (h : I n s) : codeAny (model prog w) A (.compLoop (.ListComp elt [⟨tg, iter, ifs, 0⟩] scope pos) 0 it acc env) R s := by
 refine codeAny_loop rfl I (fun n s hI => ?_) n h
 show wpAny _ A ((compTurn (.ListComp elt [⟨tg, iter, ifs, 0⟩] scope pos) 0 it acc env).onRaise (fun x => do noteFrame x env; theTreesLotGoes x)) _ _ s
 refine wpAny_noted ?_
 rw [compTurn_list]
 refine wpAny_bind (wpAny_standAt (wpAny_bind (wpAny_mono (turn n s hI) (fun r s₁ h₁ => ?_) fun _ _ h' => h'.elim)))
 cases r with
 | none => exact wpAny_pure h₁
 | some v =>
  refine wpAny_bind (wpAny_mono h₁ (fun _ s₁' h₁' => ?_) fun _ _ h' => h'.elim)
  refine wpAny_bind (wpAny_mono h₁' (fun _ s₂ h₂ => wpAny_bind (wpAny_mono h₂ (fun ok s₃ h₃ => ?_) fun _ _ h' => h'.elim)) fun _ _ h' => h'.elim)
  cases ok with
  | false => exact wpAny_pure ⟨rfl, h₃⟩
  | true =>
   exact wpAny_bind (wpAny_bind (wpAny_mono h₃ (fun x s₄ h₄ => wpAny_bind (wpAny_mono h₄ (fun _ s₅ h₅ => wpAny_pure (wpAny_pure ⟨rfl, h₅⟩)) fun _ _ h' => h'.elim)) fun _ _ h' => h'.elim))
theorem vz {pins : List (Addr × Obj)} {σ : St} {H : Hp} {s : Shared} {h₁ : Heap} {tk : Nat} {fp : List Addr} {cl : List (Str × Addr)} (S : CompScope X scope N' nt fr) (I : Inv X pins σ H s) (hfp : ∀ b ∈ fp, qaK X pins H b)
  (hex : ∀ b ∈ fp, ∃ o, s.heap.get? b = some o) (cl1 : ∀ n a, cl.lookup n = some a -> X.env.cells.lookup n = some a) (cl2 : ∀ y ∈ scope.names, y.2 = .free -> ∃ a, cl.lookup y.1 = some a)
  (hns : ∃ m, h₁.Ns s.heap.objs.size m) (old : ∀ b o, s.heap.get? b = some o -> h₁.get? b = some o) :
  Inv (qI X scope N' fp cl s.heap.objs.size s H (X.pn ++ pins)) [] (qw nt fr σ) H { s with heap := h₁, toks := tk } := by
 have stkB : ∀ b ∈ frs X.stack, b = X.env.locals \/ b ∈ X.fs := fun b hb => List.mem_cons.mp (I.stkSub b hb)
 have hC : ∀ b o, s.heap.get? b = some o -> b ≠ s.heap.objs.size := fun b o e => Nat.ne_of_lt (Heap.lt_size e)
 obtain ⟨m, hn⟩ := hns
 refine ⟨⟨I.ok.mod, S.kind, I.ok.glob, I.ok.blt, Nat.le_refl _, fun x y c h1 h2 => I.ok.inj x y c (cl1 x c h1) (cl1 y c h2), fun x hx => ?_, fun x c hx => ?_, I.ok.hd, I.ok.frames, .inl rfl, fun b hb => ⟨?_, fun x c hx => (hfp b hb).2.2.2.2.1 x c (cl1 x c hx)⟩, I.bs, Nat.le_trans I.ok.bsz I.sz, fun b o e hb => ?_, fun b hb hb2 => ?_, I.stack, I.stkFree⟩,
  rfl, I.bare, Un.kept old, ⟨m, hn, fun i x v h1 h2 h3 => ?_⟩, fun x c hx => ?_, I.hok.fresh (Nat.le_refl _), fun x c hx => I.freeC x c (cl1 x c hx), fun p hp => ?_, I.hok.kept old, ?_⟩
 ·have hx' : ∃ k, (x, k) ∈ scope.names /\ k = .free := by
   rcases hx with hx | hx
   ·exact ju (env := X.env) (q := .cell) hx (.inl rfl) S.nocell
   ·exact ju (env := X.env) (q := .free) hx (.inr rfl) S.nocell
  obtain ⟨k, m, rfl⟩ := hx'
  exact cl2 (x, .free) m rfl
 ·have hx' : false = true := hx
  cases hx'
 ·obtain ⟨o, e⟩ := hex b hb
  exact hC b o e
 ·obtain ⟨f0, f1, f2, f3, f4, f5⟩ := hfp b hb
  rcases f3 with z | z
  ·exact I.ok.noex b o e z
  ·exact absurd (Nat.lt_of_lt_of_le (Heap.lt_size e) (Nat.le_trans I.ok.bsz z)) (Nat.lt_irrefl _)
 ·obtain ⟨f0, f1, f2, f3, f4, f5⟩ := hfp b hb
  rcases stkB b hb2 with z | z
  ·exact f1 z
  ·exact f2 z
 ·-- names
  have hi : nt <= i := by
   apply Nat.le_of_not_lt
   intro hlt
   unfold qw at h2
   rw [List.getElem?_append_left (by simpa using hlt), List.getElem?_replicate] at h2
   split at h2 <;> cases h2
  have h2' : (fr.map fun j => (σ[j]?).join)[i - nt]? = some (some v) := by
   unfold qw at h2
   rw [List.getElem?_append_right (by simpa using hi), List.length_replicate] at h2
   exact h2
  rw [gM_] at h2'
  cases ej : fr[i - nt]? with
  | none => rw [ej] at h2'; cases h2'
  | some j =>
   rw [ej] at h2'
   have hσ : (σ[j]?).join = some v := by simpa using h2'
   have hσ' : σ[j]? = some (some v) := by
    cases e : σ[j]? with
    | none => rw [e] at hσ; cases hσ
    | some o =>
     rw [e] at hσ
     have : o = some v := hσ
     rw [this]
   obtain ⟨y, hy1, hy2, hy3⟩ := S.slot (i - nt) j ej
   have hii : nt + (i - nt) = i := by omega
   rw [hii] at hy1
   have exy : y = x := by
    have h1' : N'[i]? = some x := h1
    rw [h1'] at hy1
    exact (Option.some.inj hy1).symm
   subst exy
   have hmem : (y, NameKind.free) ∈ scope.names := PySem.mem_of_lookup hy3
   have hcellk : X.env.kindOf y = some .cell := S.frees (y, .free) hmem rfl
   obtain ⟨m0, hn0, hl0⟩ := I.loc
   obtain ⟨u, ru, lk⟩ := hl0 j y v hy2 hσ' (.inr (.inl hcellk))
   refine ⟨u, ru, .inr ⟨.inl (yj hy3 I.ok.kind hcellk), ?_⟩⟩
   rcases lk with ⟨k1, _⟩ | ⟨_, c, e, z⟩
   ·rw [hcellk] at k1; cases k1
   ·obtain ⟨a, ea⟩ := cl2 (y, .free) hmem rfl
    have ea' := cl1 y a ea
    rw [e] at ea'
    cases ea'
    obtain ⟨o, ho, hd⟩ := z
    exact ⟨c, ea, o, old _ _ ho, hd⟩
 ·obtain ⟨v, o, ho, hd⟩ := I.cell x c (cl1 x c hx)
  exact ⟨v, o, old _ _ ho, hd⟩
 ·have hp' : p ∈ X.pn ++ pins := by
   rcases mA_.mp (show p ∈ (X.pn ++ pins) ++ [] from hp) with z | z
   ·exact z
   ·cases z
  obtain ⟨e, n, ne, nf, d⟩ := I.pin p hp'
  refine ⟨old _ _ e, n, hC _ _ e, fun z => ?_, d⟩
  rcases stkB p.1 z with z | z
  ·exact ne z
  ·exact nf z
 ·show (qw nt fr σ).length = N'.length
  unfold qw
  rw [lA_, List.length_replicate, lM_, S.len]
theorem qaR {pins : List (Addr × Obj)} {σ σ' : St} {H H' : Hp} {s s' : Shared} {h' : Heap} {fp : List Addr} {cl : List (Str × Addr)} (I : Inv X pins σ H s) (hfp : ∀ b ∈ fp, qaK X pins H b)
  (J : Inv (qI X scope N' fp cl s.heap.objs.size s H (X.pn ++ pins)) [] σ' H' s') (sb : Heap.SameBut s.heap.objs.size s'.heap h') : Inv X pins σ H' { s' with heap := h' } := by
 have hC : H' s.heap.objs.size = none := J.free
 have u := J.base
 have big : ∀ b o, s.heap.get? b = some o -> b ≠ s.heap.objs.size := fun b o e => Nat.ne_of_lt (Heap.lt_size e)
 have get' : ∀ b, b ≠ s.heap.objs.size -> h'.get? b = s'.heap.get? b := fun b hb => sb.2 b hb
 have u2 : Un (frs X.stack) fp H H' s.heap h' :=
  ⟨fun b o e n hb hx => (get' b (big b o e)).trans (u.keep b o e n hb hx), fun b o e n hb hx => by
   obtain ⟨sl, q⟩ := u.slot b o e n hb hx
   exact ⟨sl, (get' b (big b o e)).trans q⟩, u.free, fun b o e hx => by
   obtain ⟨o', q⟩ := u.there b o e hx
   exact ⟨o', (get' b (big b o e)).trans q⟩, u.tups, u.frzs, u.tbls⟩
 refine I.call' (s' := { s' with heap := h' }) (ch := fp) J.os u2 (fun b o e => ?_) J.bare (fun b hb => ?_)
 ·refine (J.hok b o e).stay (fun c v hc q => ?_) (fun _ q => q) fun _ _ q => q
  refine (get' c ?_).trans q
  rintro rfl
  rcases hc with hc | hc
  ·rw [<- hc, hC] at e; cases e
  ·rw [hC] at hc; cases hc
 ·obtain ⟨f0, f1, f2, f3, f4, f5⟩ := hfp b hb
  exact ⟨f3, f1, f4, f5⟩
theorem qhT (hc : X.calm = true) (hi : PI X tg iter wi) (S : CompScope X scope N' nt fr)
  (hs : ∀ x, foldedSetIterable iter X.env x = pure x := by intro _; rfl) : PE X (.ListComp elt [⟨tg, iter, ifs, 0⟩] scope pos) (qhS X tg ifs elt scope N' wi nt fr) := by
 intro pins s σ H Q I hw
 obtain ⟨cl, hcl, cl1, cl2⟩ := closureFor_ok (env := X.env) (scope := scope) (fun y hy hf => I.ok.has y.1 (.inl (S.frees y hy hf)))
 rw [eval_ListComp]
 refine wpAny_comprehension_free (use := none) rfl hs hcl S.kind S.names (thn (hi pins s σ H _ I hw) fun v s1 h1 => thn h1 fun itv s2 h2 => ?_)
 obtain ⟨it, fp, tn, J, H2, e, I2, T, st2, f2, hR⟩ := h2
 subst e
 have hacc : H2 s2.heap.objs.size = none := I2.hok.fresh (Nat.le_refl _)
 refine wpAny_newObj_type (wpAny_newFunctionEnv S.nocell (by intro y hy; simp at hy) (fun h₁ hns₁ hsb₁ => ?_) S.kind)
 dsimp only at hns₁ hsb₁ |-
 have I3 : Inv X pins σ (upd H2 s2.heap.objs.size (.lst [])) { s2 with heap := s2.heap.push { cls := .type "list", dict := none, data := .seq ([] : List Value).toArray } } :=
  I2.lnew (t' := s2.toks) (its := []) .nil (Nat.zero_le _)
 generalize hs3 : ({ s2 with heap := s2.heap.push { cls := .type "list", dict := none, data := .seq ([] : List Value).toArray } } : Shared) = s3 at I3
 have hh3 : s2.heap.push { cls := .type "list", dict := none, data := .seq ([] : List Value).toArray } = s3.heap := by rw [<- hs3]
 rw [hh3] at hns₁ hsb₁
 have old : ∀ b o, s3.heap.get? b = some o -> h₁.get? b = some o := fun b o q => hsb₁.extBut b o (Nat.ne_of_lt (Heap.lt_size q)) (Heap.get?_push_of_some _ q)
 have objs2 : ∀ b ∈ fp, ∃ o, s2.heap.get? b = some o := fun b hb => by
  obtain ⟨o, q, _⟩ := T.obj 0 _ st2 b hb
  exact ⟨o, q⟩
 have keep23 : ∀ b o, s2.heap.get? b = some o -> s3.heap.get? b = some o := fun b o q => by rw [<- hh3]; exact Heap.get?_push_of_some _ q
 have fpne : ∀ b ∈ fp, b ≠ s2.heap.objs.size := fun b hb => by
  obtain ⟨o, q⟩ := objs2 b hb
  exact Nat.ne_of_lt (Heap.lt_size q)
 have f3 : ∀ b ∈ fp, qaK X pins (upd H2 s2.heap.objs.size (.lst [])) b := fun b hb => ⟨by rw [qm (fpne b hb)]; exact (f2 b hb).1, (f2 b hb).2⟩
 have J0 : Inv (qI X scope N' fp cl s3.heap.objs.size s3 (upd H2 s2.heap.objs.size (.lst [])) (X.pn ++ pins)) [] (qw nt fr σ) (upd H2 s2.heap.objs.size (.lst [])) { s3 with heap := h₁, toks := s3.toks } :=
  vz S I3 f3 (fun b hb => (objs2 b hb).imp fun o q => keep23 b o q) cl1 cl2 ⟨_, hns₁⟩ old
 obtain ⟨g, tt, te, hg, hf, he, W, ⟨m0, w0⟩, turn⟩ := hR s2.heap.objs.size fp cl s3.heap.objs.size s3 (upd H2 s2.heap.objs.size (.lst [])) (X.pn ++ pins) hacc
 have T0 : tn 0 h₁ := T.keep 0 _ _ st2 fun b hb o q => old b o (keep23 b o q)
 have s3e : ∀ tk : Nat, ({ s2 with heap := h₁, toks := tk } : Shared) = { s3 with heap := h₁, toks := tk } := fun tk => by rw [<- hs3]
 have loop : ∀ tk : Nat, codeAny (model X.prog X.w) X.A (.compLoop (.ListComp elt [⟨tg, iter, ifs, 0⟩] scope pos) 0 (.ref it) (.ref s2.heap.objs.size) (compEnvC scope cl s3.heap.objs.size X.env))
   (compPost (model X.prog X.w) X.A X.xe none (EP X pins σ Q) (.ref s2.heap.objs.size) s3.heap.objs.size) { s3 with heap := h₁, toks := tk } := fun tk => by
  have stat : ∀ {H' : Hp}, (∀ b ∈ fp, H' b = none) -> ∀ b ∈ fp, qaK (qI X scope N' fp cl s3.heap.objs.size s3 (upd H2 s2.heap.objs.size (.lst [])) (X.pn ++ pins)) [] H' b := fun {H'} hn b hb => by
   obtain ⟨o, q⟩ := objs2 b hb
   have hbC : b ≠ s3.heap.objs.size := Nat.ne_of_lt (Heap.lt_size (keep23 b o q))
   refine ⟨hn b hb, hbC, fun z => ?_, .inl hb, fun x c hx => (f2 b hb).2.2.2.2.1 x c (cl1 x c hx), fun p hp => ?_⟩
   ·rcases List.mem_cons.mp (I2.stkSub b z) with z | z
    ·exact (f2 b hb).2.1 z
    ·exact (f2 b hb).2.2.1 z
   ·have hp' : p ∈ X.pn ++ pins := by
     rcases mA_.mp (show p ∈ (X.pn ++ pins) ++ [] from hp) with z | z
     ·exact z
     ·cases z
    exact (f2 b hb).2.2.2.2.2 p hp'
  have fr0 : ∀ b ∈ fp, upd H2 s2.heap.objs.size (.lst []) b = none := fun b hb => (f3 b hb).1
  refine uV (fun n s' => ∃ i σ' H', Inv (qI X scope N' fp cl s3.heap.objs.size s3 (upd H2 s2.heap.objs.size (.lst [])) (X.pn ++ pins)) [] σ' H' s' /\ tn i s'.heap /\ (∀ b ∈ fp, H' b = none) /\ W i n σ' H') ?_ m0
   ⟨0, qw nt fr σ, _, J0.tok tk, T0, fr0, w0⟩
  rintro n s4 ⟨i, σ4, H4, J4, st4, fr4, w4⟩
  rcases turn i n σ4 H4 w4 with ⟨stop, qn⟩ | ⟨go, step⟩
  ·refine thn (T.done (qI X scope N' fp cl s3.heap.objs.size s3 (upd H2 s2.heap.objs.size (.lst [])) (X.pn ++ pins)) rfl rfl rfl hc i [] s4 σ4 H4 _ J4 (stat fr4) st4 stop) fun r s5 ⟨hr, J5⟩ => ?_
   subst hr
   obtain ⟨m5, n5, _⟩ := J5.loc
   refine ⟨m5, n5, fun h' sb => ⟨.ref s2.heap.objs.size, H4, qaR I3 f3 J5 sb, rfl, qn⟩⟩
  ·refine thn (T.item (qI X scope N' fp cl s3.heap.objs.size s3 (upd H2 s2.heap.objs.size (.lst [])) (X.pn ++ pins)) rfl rfl rfl hc i [] s4 σ4 H4 _ J4 (stat fr4) st4 go) fun r s5 ⟨u, hr, h5⟩ => ?_
   subst hr
   refine thn h5 fun _ s6 ⟨x, H6, J6, r6, y6, st6, fr6⟩ => ?_
   have J6' := J6.pinned (stat fr6) (T.obj _ _ st6)
   have again : ∀ {σ7 : St} {H7 : Hp} {s7 : Shared}, Inv (qI X scope N' fp cl s3.heap.objs.size s3 (upd H2 s2.heap.objs.size (.lst [])) (X.pn ++ pins)) ([] ++ wA fp s6.heap) σ7 H7 s7 -> (∃ m', m' < n /\ W (i + 1) m' σ7 H7) ->
     ∃ m, m < n /\ ∃ i σ' H', Inv (qI X scope N' fp cl s3.heap.objs.size s3 (upd H2 s2.heap.objs.size (.lst [])) (X.pn ++ pins)) [] σ' H' s7 /\ tn i s7.heap /\ (∀ b ∈ fp, H' b = none) /\ W i m σ' H' := fun {σ7 H7 s7} I7 hm => by
    obtain ⟨m', hm, w7⟩ := hm
    refine ⟨m', hm, i + 1, σ7, H7, I7.unpinned, T.keep _ _ _ st6 fun b hb o q => (I7.pin (b, o) (mr_ _ (mr_ _ (z9 hb q)))).1, fun b hb => ?_, w7⟩
    obtain ⟨o, q, d⟩ := T.obj _ _ st6 b hb
    exact (I7.pin (b, o) (mr_ _ (mr_ _ (z9 hb q)))).2.1
   refine thn (hg _ s6 σ4 H6 x u _ J6' r6 (step x H6 y6)) fun _ s7 ⟨σ7, H7, J7, q7⟩ => ?_
   refine thn (hf _ s7 σ7 H7 _ J7 q7) fun ok s8 ⟨H8, J8, q8⟩ => ?_
   cases ok with
   | false =>
    rw [if_neg Bool.false_ne_true] at q8 |-
    exact again J8 q8
   | true =>
    rw [if_pos rfl] at q8 |-
    refine thn (he _ s8 σ7 H8 _ J8 q8) fun z s9 ⟨y, H9, J9, r9, ys, hys, hz, hm⟩ => ?_
    refine thn (va _ s9 σ7 H9 (.ref s2.heap.objs.size) [y] (.ref s2.heap.objs.size) [z] (fun _ H' => H' = upd H9 s2.heap.objs.size (.lst (ys ++ [y]))) J9 rfl (.cons r9 .nil) ⟨_, ys, y, rfl, rfl, hys, hz, rfl⟩) fun _ s10 ⟨_, H10, J10, _, e10⟩ => ?_
    subst e10
    exact again J10 hm
 have qU : ∀ tk : Nat, codeAny (model X.prog X.w) X.A (.compStart (.ListComp elt [⟨tg, iter, ifs, 0⟩] scope pos) 0 (.ref it) (.ref s2.heap.objs.size) (compEnvC scope cl s3.heap.objs.size X.env))
   (compPost (model X.prog X.w) X.A X.xe none (EP X pins σ Q) (.ref s2.heap.objs.size) s3.heap.objs.size) { s3 with heap := h₁, toks := tk } := fun tk =>
  codeAny_compStart_list (loop tk) (T.self X.A 0 _ _ _ T0 (loop tk))
 have fin := qU (s2.toks + ([] : List (Str × Value)).length)
 rw [<- s3e] at fin
 rw [<- hh3] at fin
 rw [hh3] at fin |-
 exact fin
end
structure qf7 (K : Fr0) (A : Addr -> Prop) (H : Hp) (ds : List D) (J : It) : Prop where
 go : ∀ H' i d, Ext A H H' -> ds[i]? = some d -> J.go i H'
 yl : ∀ H' i d x H'', Ext A H H' -> ds[i]? = some d -> J.yld i H' x H'' -> zM H' H'' /\ Is K A H'' d x
 stop : ∀ H', Ext A H H' -> J.stop ds.length H'
def CnT (c : Fc) (σ : St) (H : Hp) (a : Addr) : Prop := Cn c σ a /\ (H a).isSome = true
def WpI (K : Fr0) (c : Fc) (σ : St) (H : Hp) (Q : It -> Hp -> Prop) : R (List D × Env) -> Prop
 | .ok (ds, ρ) => ∀ J H', Rep K c ρ σ H' -> qf7 K (CnT c σ H') H' ds J -> Gr c.O σ H H' -> Q J H'
 | .exc x ρ => ∀ H', Rep K c ρ σ H' -> Gr c.O σ H H' -> c.E x H'
 | .bad => False
def DI (X : Cx) (c : Fc) (tg it : Expr) (f : M (List D)) : Prop := ∃ w, PI X tg it w /\ ∀ ρ σ H Q, Rep X.K c ρ σ H -> WpI X.K c σ H Q (f ρ) -> w σ H Q
section
variable {X : Cx} {c : Fc} {tg a b e : Expr} {pos : Pos}
def qnk (K : Fr0) (tl : TE) : TI := fun σ H R => tl σ H fun x H1 => (∃ a, x = .ref a /\ (∃ xs, SqL K H1 a xs) /\ R (Itl K a) H1) \/ (∃ a, x = .ref a /\ (∃ xs, SqT K H1 a xs) /\ R (Itt K a) H1)
theorem qj6 {tl : TE} (hl : PE X e tl) : PI X tg e (qnk X.K tl) := by
 intro pins s σ H R I h
 refine thn (hl pins s σ H _ I h) fun v s1 ⟨x, H1, I1, r1, q1⟩ => ?_
 rcases q1 with ⟨a, e, ⟨xs, hq⟩, q⟩ | ⟨a, e, ⟨xs, hq⟩, q⟩
 ·subst e
  cases r1
  obtain ⟨its, rv, p, hz⟩ := I1.list hq
  refine wpAny_pyIter_list p.isList ?_
  refine ⟨s1.heap.objs.size, [s1.heap.objs.size], _, _, H1, rfl, I1.kept (t' := s1.toks) fun b o e => Heap.get?_push_of_some _ e, qd5 a _, ⟨_, Heap.get?_push_size _ rfl, rfl, rfl⟩, fun b hb => ?_, q⟩
  have e : b = s1.heap.objs.size := by simpa using hb
  subst e
  exact I1.fpOk (Nat.le_refl _) (I1.hok.fresh (Nat.le_refl _))
 ·subst e
  cases r1
  obtain ⟨its, rv, p, hz⟩ := I1.tuple hq
  refine wpAny_pyIter_tuple (show s1.heap.IsTuple a its.toArray from p) ?_
  refine ⟨s1.heap.objs.size, [s1.heap.objs.size], _, _, H1, rfl, I1.kept (t' := s1.toks) fun b o e => Heap.get?_push_of_some _ e, qds a _, ⟨_, Heap.get?_push_size _ rfl, rfl, rfl⟩, fun b hb => ?_, q⟩
  have e : b = s1.heap.objs.size := by simpa using hb
  subst e
  exact I1.fpOk (Nat.le_refl _) (I1.hok.fresh (Nat.le_refl _))
def qls : D -> Option (List D)
 | .tup ds => some ds
 | .lst ds => some ds
 | .fz ns => some (ns.map .int)
 | _ => none
theorem SqL.inj {K : Fr0} {H : Hp} {a : Addr} {xs ys : List V} (h : H a = some (.lst xs)) (q : SqL K H a ys) (hk : ∀ o, K.lookup a = some o -> False) : ys = xs := by
 rcases q with (q | ⟨o, q⟩) | ⟨o, _, _, q, _⟩
 ·rw [h] at q; cases q; rfl
 ·rw [h] at q; cases q
 ·exact (hk o q).elim
theorem qaS {K : Fr0} {A : Addr -> Prop} {H : Hp} : ∀ ns : List Int, IsL K A H (ns.map .int) (ns.map V.int)
 | [] => rfl
 | n :: ns => ⟨.int n, ns.map V.int, rfl, rfl, qaS ns⟩
theorem qez {K : Fr0} {A : Addr -> Prop} {H : Hp} {ds : List D} {xs : List V} {a : Addr} (hs : ∀ H', Ext A H H' -> SqL K H' a xs) (il : IsL K A H ds xs) : qf7 K A H ds (Itl K a) where
 go := fun H' i d ex hd => by
  obtain ⟨x, h1, h2⟩ := il.get hd
  exact ⟨xs, x, hs H' ex, h1⟩
 yl := fun H' i d x H'' ex hd y => by
  obtain ⟨e, y⟩ := y
  subst e
  obtain ⟨x', h1, h2⟩ := il.get hd
  have h3 := y xs (hs _ ex)
  rw [h1] at h3
  cases h3
  exact ⟨zM.refl _, Is.ext ex (fun _ h _ => h) h2⟩
 stop := fun H' ex => ⟨xs, hs H' ex, by rw [il.length]; exact Nat.le_refl _⟩
theorem qj7 {K : Fr0} {A : Addr -> Prop} {H : Hp} {ds : List D} {xs : List V} {a : Addr} (hs : uF K H a xs) (il : IsL K A H ds xs) : qf7 K A H ds (Itt K a) where
 go := fun H' i d ex hd => by
  obtain ⟨x, h1, h2⟩ := il.get hd
  exact ⟨xs, x, (hs.elim (fun h => .inl (ex.tup _ _ h)) .inr : uF K H' a xs).sq, h1⟩
 yl := fun H' i d x H'' ex hd y => by
  obtain ⟨e, y⟩ := y
  subst e
  obtain ⟨x', h1, h2⟩ := il.get hd
  have h3 := y xs (hs.elim (fun h => .inl (ex.tup _ _ h)) .inr : uF K _ a xs).sq
  rw [h1] at h3
  cases h3
  exact ⟨zM.refl _, Is.ext ex (fun _ h _ => h) h2⟩
 stop := fun H' ex => ⟨xs, (hs.elim (fun h => .inl (ex.tup _ _ h)) .inr : uF K H' a xs).sq, by rw [il.length]; exact Nat.le_refl _⟩
def qaT (f : M D) : M (List D) := bnd f fun d => lift (qls d)
theorem vd {K : Fr0} {σ : St} {H : Hp} {Q : It -> Hp -> Prop} {o : Option (List D)} {ρ : Env} (h : WpI K c σ H Q (lift o ρ)) : ∃ ds, o = some ds /\ ∀ J H', Rep K c ρ σ H' -> qf7 K (CnT c σ H') H' ds J -> Gr c.O σ H H' -> Q J H' := by
 cases o with
 | none => exact h.elim
 | some d => exact ⟨d, rfl, h⟩
theorem WpI.gr {K : Fr0} {σ : St} {H H1 : Hp} {Q : It -> Hp -> Prop} : ∀ {r : R (List D × Env)}, WpI K c σ H Q r -> Gr c.O σ H H1 -> WpI K c σ H1 Q r
 | .ok (d, ρ), h, g => fun v H' hr hi hg => h v H' hr hi (g.trans hg)
 | .exc x ρ, h, g => fun H' hr hg => h H' hr (g.trans hg)
 | .bad, h, _ => h
theorem Wp.bndI {K : Fr0} {σ : St} {H : Hp} {Q : It -> Hp -> Prop} {f : M D} {k : D -> M (List D)} {ρ : Env} {Q' : VK} (h : WpI K c σ H Q (Sk.bnd f k ρ)) (hQ : ∀ d ρ' v H', Rep K c ρ' σ H' -> Is K (Cn c σ) H' d v -> Gr c.O σ H H' -> WpI K c σ H' Q (k d ρ') -> Q' v H') : Wp K c σ H Q' (f ρ) := by
 unfold Sk.bnd at h
 cases e : f ρ with
 | ok p => rw [e] at h; exact fun v H' hr hi hg => hQ p.1 p.2 v H' hr hi hg (h.gr hg)
 | exc x ρ' => rw [e] at h; exact h
 | bad => rw [e] at h; exact h
theorem WpL.bndI {K : Fr0} {σ : St} {H : Hp} {Q : It -> Hp -> Prop} {f : M (List D)} {k : List D -> M (List D)} {ρ : Env} {Q' : List V -> Hp -> Prop} (h : WpI K c σ H Q (Sk.bnd f k ρ)) (hQ : ∀ d ρ' v H', Rep K c ρ' σ H' -> IsL K (Cn c σ) H' d v -> Gr c.O σ H H' -> WpI K c σ H' Q (k d ρ') -> Q' v H') : WpL K c σ H Q' (f ρ) := by
 unfold Sk.bnd at h
 cases e : f ρ with
 | ok p => rw [e] at h; exact fun v H' hr hi hg => hQ p.1 p.2 v H' hr hi hg (h.gr hg)
 | exc x ρ' => rw [e] at h; exact h
 | bad => rw [e] at h; exact h
theorem Is.tr {K : Fr0} {A : Addr -> Prop} {H : Hp} {d : D} {v : V} (h : Is K A H d v) : Is K (fun a => A a /\ (H a).isSome = true) H d v := Is.ext Ext.refl (fun a h1 h2 => ⟨h1, h2⟩) h
theorem uI {f : M D} (h : DE X c e f) : DI X c tg e (qaT f) := by
 obtain ⟨t, p, w⟩ := h
 refine ⟨_, qj6 p, fun ρ σ H Q r h => w ρ σ H _ r (Wp.bndI h fun d ρ1 v H1 r1 i1 g1 h1 => ?_)⟩
 obtain ⟨ds, e, h2⟩ := vd h1
 have i2 : Is X.K (CnT c σ H1) H1 d v := i1.tr
 cases d <;> simp only [qls] at e <;> try (cases e; done)
 ·cases e
  obtain ⟨a, xs, rfl, ta, il⟩ := i2
  exact .inr ⟨a, rfl, ⟨xs, ta.sq⟩, h2 _ H1 r1 (qj7 ta il) .refl⟩
 ·cases e
  obtain ⟨a, xs, rfl, hA, ta, il⟩ := i2
  exact .inl ⟨a, rfl, ⟨xs, .inl (.inl ta)⟩, h2 _ H1 r1 (qez (fun H' ex => .inl (.inl (ex.at_ _ _ hA ta))) il) .refl⟩
 ·cases e
  obtain ⟨a, rfl, ta⟩ := i2
  exact .inl ⟨a, rfl, ⟨_, ta.sq⟩, h2 _ H1 r1 (qez (fun H' ex => (ta.elim (fun ⟨o, h⟩ => .inl ⟨o, ex.frz _ _ _ h⟩) .inr : qjV X.K H' a _).sq) (qaS _)) .refl⟩
def qaU (lo : Int) (n : Nat) : List D := (List.range n).map fun i => .int (lo + (i : Nat))
theorem qgX {K : Fr0} {A : Addr -> Prop} {H : Hp} (lo : Int) (n : Nat) : qf7 K A H (qaU lo n) (Itr lo n) where
 go := fun H' i d ex hd => by
  have : i < (qaU lo n).length := (gI_.mp hd).1
  show i < n
  simpa [qaU] using this
 yl := fun H' i d x H'' ex hd y => by
  obtain ⟨e, y⟩ := y
  subst e
  subst y
  refine ⟨zM.refl _, ?_⟩
  unfold qaU at hd
  rw [gM_] at hd
  cases e2 : (List.range n)[i]? with
  | none => rw [e2] at hd; cases hd
  | some j =>
   rw [e2] at hd
   have hj : j = i := by
    have := (gI_.mp e2).2
    simpa using this.symm
   subst hj
   cases hd
   rfl
 stop := fun H' ex => by show n <= (qaU lo n).length; simp [qaU]
def qf8 : List D -> Option (List D)
 | [.int j] => if decide (-(2 ^ 62) <= j) && decide (j < 2 ^ 62) then some (qaU 0 j.toNat) else none
 | _ => none
def yK (f : M (List D)) : M (List D) := bnd f fun ds => lift (qf8 ds)
theorem yk {f : M (List D)} {p : Pos} (hg : Gl X "range") (hm : X.mg "range" = none) (ha : DA X c [a] f) (hs : starEach [a] X.env = [(false, eval a X.env)] := by rfl) : DI X c tg (.Call (.Name "range" p) [a] [] pos) (yK f) := by
 obtain ⟨t, p, w⟩ := ha
 refine ⟨_, qd6 hg hm p hs, fun ρ σ H Q r h => w ρ σ H _ r (WpL.bndI h fun ds ρ1 vs H1 r1 i1 g1 h1 => ?_)⟩
 obtain ⟨es, e, h2⟩ := vd h1
 unfold qf8 at e
 split at e
 ·rename_i j
  obtain ⟨v, rfl, e2⟩ := IsL.inv1 i1
  cases e2
  by_cases hb : (decide (-(2 ^ 62) <= j) && decide (j < 2 ^ 62)) = true
  ·rw [if_pos hb] at e
   cases e
   rw [Bool.and_eq_true] at hb
   exact ⟨j, rfl, of_decide_eq_true hb.1, of_decide_eq_true hb.2, h2 _ H1 r1 (qgX 0 _) .refl⟩
  ·rw [if_neg hb] at e
   cases e
 ·cases e
def yL (g : D -> Env -> Option Env) (b : MS) : List D -> MS
 | [], ρ => .ok (.nx ρ)
 | d :: ds, ρ => match g d ρ with
  | none => .bad
  | some ρ1 => match b ρ1 with
   | .ok (.nx ρ2) => yL g b ds ρ2
   | .ok (.ct ρ2) => yL g b ds ρ2
   | .ok (.bk ρ2) => .ok (.nx ρ2)
   | .ok (.rt r ρ2) => .ok (.rt r ρ2)
   | .exc x ρ2 => .exc x ρ2
   | .bad => .bad
def qcn (f : M (List D)) (g : D -> Env -> Option Env) (b : MS) : MS := sbnd f fun ds => yL g b ds
theorem WpI.sbnd {K : Fr0} {σ : St} {H : Hp} {D' : qd0} {f : M (List D)} {k : List D -> MS} {ρ : Env} {Q' : It -> Hp -> Prop} (h : WpS K c σ H D' (Sk.sbnd f k ρ))
  (hQ : ∀ ds ρ' J H', Rep K c ρ' σ H' -> qf7 K (CnT c σ H') H' ds J -> Gr c.O σ H H' -> WpS K c σ H' D' (k ds ρ') -> Q' J H') : WpI K c σ H Q' (f ρ) := by
 unfold Sk.sbnd at h
 cases e : f ρ with
 | ok p => rw [e] at h; exact fun v H' hr hi hg => hQ p.1 p.2 v H' hr hi hg (h.gr hg.s)
 | exc x ρ' => rw [e] at h; exact fun H' hr hg => h σ H' hr hg.s
 | bad => rw [e] at h; exact h
theorem GrS.extT {σ σ' : St} {H H' : Hp} (g : GrS c.O σ H σ' H') : Ext (CnT c σ H) H H' := ⟨g.ext.tup, g.ext.frz, fun b o hb h => g.ext.at_ b o hb.1.2 h⟩
theorem GrS.cnT {σ σ' : St} {H H' : Hp} (g : GrS c.O σ H σ' H') {a : Addr} (h : CnT c σ H a) : Cn c σ' a := ⟨h.1.1, g.cl a h.1.2 h.2⟩
theorem uw {α : Type} {l : List α} {i : Nat} (h : i < l.length) : l.drop i = l[i] :: l.drop (i + 1) := List.drop_eq_getElem_cons h
theorem ve {it : Expr} {body : List Stmt} {f : M (List D)} {g : D -> Env -> Option Env} {b : MS} (hp : PassesOwn (model X.prog X.w) X.A X.env X.xe) (hc : X.calm = true) (hi : DI X c tg it f) (hg : DG X c tg g) (hb : DSs X c body b)
  (hs : ∀ x, foldedSetIterable it X.env x = pure x := by intro _; rfl) : DS X c (.For tg it body [] pos) (qcn f g b) := by
 obtain ⟨wi, pi, wI⟩ := hi
 obtain ⟨tg', pg, wg⟩ := hg
 obtain ⟨tb, pb, wb⟩ := hb
 refine ⟨_, qjy hp hc pi pg pb hs, fun ρ σ H D' r h => wI ρ σ H _ r (WpI.sbnd h fun ds ρ1 J H1 r1 iok g1 h1 => ?_)⟩
 refine ⟨fun i m σ' H' => m = ds.length - i /\ i <= ds.length /\ ∃ ρ', Rep X.K c ρ' σ' H' /\ GrS c.O σ H1 σ' H' /\ WpS X.K c σ' H' D' (yL g b (ds.drop i) ρ'), ⟨ds.length, by simp, Nat.zero_le _, ρ1, r1, .refl, by simpa using h1⟩, ?_⟩
 rintro i m σ' H' ⟨rfl, hi, ρ', r', gs, w⟩
 by_cases hlt : i < ds.length
 ·refine .inr ⟨iok.go H' i ds[i] gs.extT (by simp [hlt]), fun σ2 H2 => ∃ ρ2, Rep X.K c ρ2 σ2 H2 /\ GrS c.O σ H1 σ2 H2 /\ WpS X.K c σ2 H2 D' (yL g b (ds.drop (i + 1)) ρ2), fun σ2 H2 n => ⟨ds.length - (i + 1), by omega, rfl, hlt, n⟩, fun x H'' y => ?_⟩
  obtain ⟨sm, ix⟩ := iok.yl H' i ds[i] x H'' gs.extT (by simp [hlt]) y
  rw [uw hlt] at w
  unfold yL at w
  have gs2 : GrS c.O σ H1 σ' H'' := gs.trans (Gr.of_same sm).s
  have ix2 : Is X.K (Cn c σ') H'' ds[i] x := Is.ext Ext.refl (fun a ha _ => gs2.cnT ha) ix
  cases e1 : g ds[i] ρ' with
  | none => simp only [e1] at w; exact w.elim
  | some ρ2 =>
   simp only [e1] at w
   refine wg ρ' σ' H'' ds[i] x ρ2 _ (r'.same sm) ix2 e1 fun σ2 r2 g2 _ => wb ρ2 σ2 H'' _ r2 ?_
   have w2 := w.gr ((Gr.of_same sm).s.trans g2)
   have gs3 : GrS c.O σ H1 σ2 H'' := gs2.trans g2
   cases e2 : b ρ2 with
   | ok fl =>
    cases fl with
    | nx ρ3 => simp only [e2] at w2; exact fun σ3 H3 r3 g3 => ⟨ρ3, r3, gs3.trans g3, w2.gr g3⟩
    | ct ρ3 => simp only [e2] at w2; exact fun σ3 H3 r3 g3 => ⟨ρ3, r3, gs3.trans g3, w2.gr g3⟩
    | bk ρ3 => simp only [e2] at w2; exact w2
    | rt d ρ3 => simp only [e2] at w2; exact w2
   | exc x ρ3 => simp only [e2] at w2; exact w2
   | bad => simp only [e2] at w2; exact w2
 ·have hie : i = ds.length := by omega
  subst hie
  rw [List.drop_of_length_le (Nat.le_refl _)] at w
  exact .inl ⟨iok.stop H' gs.extT, w σ' H' r' .refl⟩
end
def cin (B0 : Addr -> Prop) (H1 : Hp) (O' : List Nat) (Io' : Addr -> Prop) (acc : Addr) (S' : Nat -> Option (Option V)) : Fc where
 O := O'
 P := O'
 B := fun a => B0 a /\ a ≠ acc
 H0 := upd H1 acc (.lst [])
 Io := fun a => Io' a \/ a = acc
 E := fun _ _ => False
 S := S'
def zg (g : D -> Env -> Option Env) (t : M Bool) (e : M D) : List D -> List D -> Env -> R (List D × Env)
 | [], acc, ρ => .ok (acc, ρ)
 | d :: ds, acc, ρ => match g d ρ with
  | none => .bad
  | some ρ1 => match t ρ1 with
   | .ok (true, ρ2) => match e ρ2 with
    | .ok (y, ρ3) => if qH (acc.length + 1) then zg g t e ds (acc ++ [y]) ρ3 else .bad
    | _ => .bad
   | .ok (false, ρ2) => zg g t e ds acc ρ2
   | _ => .bad
def jK (nt : Nat) (fr : List Nat) (ρ : Env) : Env := List.replicate nt none ++ fr.map fun j => (ρ[j]?).join
def qhU (fo : Option (Nat × Nat)) (ρe ρ : Env) : Env := match fo with
 | none => ρ
 | some (i, j) => ρ.set j (ρe[i]?).join
def jL (nt : Nat) (fr : List Nat) (fo : Option (Nat × Nat)) (f : M (List D)) (g : D -> Env -> Option Env) (t : M Bool) (e : M D) : M D := bnd f fun ds ρ => match zg g t e ds [] (jK nt fr ρ) with
 | .ok (ys, ρe) => .ok (.lst ys, qhU fo ρe ρ)
 | _ => .bad
def DF (X : Cx) (c : Fc) (ifs : List Expr) (f : M Bool) : Prop := ∃ t, PF X ifs t /\ ∀ ρ σ H Q, Rep X.K c ρ σ H -> WpB X.K c σ H Q (f ρ) -> t σ H Q
def foO (fo : Option (Nat × Nat)) : List Nat := match fo with
 | none => []
 | some (i, _) => [i]
section
variable {X : Cx} {c : Fc} {tg a b e : Expr} {pos : Pos}
theorem wP : DF X c [] (ret true) := ⟨_, qj4, fun ρ σ H Q r h => h H r .refl⟩
theorem qaw {f : M Bool} (h : DT X c e f) : DF X c [e] f := by
 obtain ⟨t, p, w⟩ := h
 exact ⟨_, qj5 p, w⟩
theorem WpI.bnd {K : Fr0} {σ : St} {H : Hp} {Q : VK} {f : M (List D)} {k : List D -> M D} {ρ : Env} {Q' : It -> Hp -> Prop} (h : Wp K c σ H Q (Sk.bnd f k ρ))
  (hQ : ∀ ds ρ' J H', Rep K c ρ' σ H' -> qf7 K (CnT c σ H') H' ds J -> Gr c.O σ H H' -> Wp K c σ H' Q (k ds ρ') -> Q' J H') : WpI K c σ H Q' (f ρ) := by
 unfold Sk.bnd at h
 cases e : f ρ with
 | ok p => rw [e] at h; exact fun v H' hr hi hg => hQ p.1 p.2 v H' hr hi hg (h.gr hg)
 | exc x ρ' => rw [e] at h; exact h
 | bad => rw [e] at h; exact h
theorem Rep.grow {K : Fr0} {B0 : Addr -> Prop} {H1 : Hp} {O' : List Nat} {Io' : Addr -> Prop} {acc : Addr} {S' : Nat -> Option (Option V)} {ρ : Env} {σ : St} {H : Hp} {xs ys : List V} (r : Rep K (cin B0 H1 O' Io' acc S') ρ σ H) (h : H acc = some (.lst xs)) (ho : ∀ j ∈ O', σ[j]? ≠ some (some (.ref acc))) :
  Rep K (cin B0 H1 O' Io' acc S') ρ σ (upd H acc (.lst ys)) := by
 have ext : Ext (fun a => a ≠ acc) H (upd H acc (.lst ys)) := ⟨fun b zs hb => by rw [qm (u8 hb h (by intro z; cases z))]; exact hb, fun b o u hb => by rw [qm (u8 hb h (by intro z; cases z))]; exact hb, fun b o hb hq => by rw [qm hb]; exact hq⟩
 have cnext : Ext (Cn (cin B0 H1 O' Io' acc S') σ) H (upd H acc (.lst ys)) := ⟨ext.tup, ext.frz, fun b o hb hq => ext.at_ b o hb.1.2 hq⟩
 refine ⟨r.len, fun i d hd => ?_, fun j hj v hv => ?_, r.inj, r.b0, fun b o hb hio => ?_, fun b hb => ?_, r.pO, r.ps⟩
 ·obtain ⟨v, h1, h2⟩ := r.val i d hd
  refine ⟨v, h1, ?_⟩
  rcases h2 with ⟨hi, ds, a, zs, h3, h5, h6, h7⟩ | ⟨hi, h3⟩
  ·subst h5
   have ne : a ≠ acc := fun e => ho i hi (by rw [h1, e])
   exact .inl ⟨hi, ds, a, zs, h3, rfl, by rw [qm ne]; exact h6, IsL.ext cnext (fun _ h _ => h) h7⟩
  ·exact .inr ⟨hi, Is.ext cnext (fun _ h _ => h) h3⟩
 ·obtain ⟨a, zs, h1, h2, h3⟩ := r.own j hj v hv
  subst h1
  have ne : a ≠ acc := fun e => ho j hj (by rw [hv, e])
  exact ⟨a, zs, rfl, by rw [qm ne]; exact h2, h3⟩
 ·have ne : b ≠ acc := fun e => hio (.inr e)
  rw [qm ne]
  exact r.kp b o hb hio
 ·by_cases e : b = acc
  ·subst e; rw [ql] at hb; cases hb
  ·rw [qm e] at hb; exact r.dm b hb
theorem wQ {α : Type} {o : Option (Option α)} {a : α} (h : o.join = some a) : o = some (some a) := by
 cases o with
 | none => cases h
 | some x => have : x = some a := h; rw [this]
def qgY (c : Fc) (nt : Nat) (fr : List Nat) (fo : Option (Nat × Nat)) : Prop := match fo with
 | none => ∀ j ∈ fr, j ∉ c.O
 | some (i, j) => j ∈ c.O /\ nt <= i /\ fr[i - nt]? = some j /\ ∀ k j', fr[k]? = some j' -> nt + k ≠ i -> j' ∉ c.O
def wR (σ : St) (fo : Option (Nat × Nat)) (a : Addr) : Prop := match fo with
 | none => False
 | some (_, j) => σ[j]? = some (some (.ref a))
theorem vA {nt : Nat} {fr : List Nat} {σ : St} {k j : Nat} (h : fr[k]? = some j) : (qw nt fr σ)[nt + k]? = some (σ[j]?).join := by
 unfold qw
 rw [List.getElem?_append_right (by simp), List.length_replicate, gM_, show nt + k - nt = k by omega, h]
 rfl
theorem qdC {nt : Nat} {fr : List Nat} {ρ : Env} {i : Nat} {d : D} (hd : (jK nt fr ρ)[i]? = some (some d)) : ∃ k j, i = nt + k /\ fr[k]? = some j /\ ρ[j]? = some (some d) := by
 have hi : nt <= i := by
  apply Nat.le_of_not_lt
  intro hlt
  unfold jK at hd
  rw [List.getElem?_append_left (by simpa using hlt), List.getElem?_replicate] at hd
  split at hd <;> cases hd
 unfold jK at hd
 rw [List.getElem?_append_right (by simpa using hi), List.length_replicate, gM_] at hd
 cases ej : fr[i - nt]? with
 | none => rw [ej] at hd; cases hd
 | some j =>
  rw [ej] at hd
  exact ⟨i - nt, j, by omega, ej, wQ (by simpa using hd)⟩
theorem jc {nt : Nat} {fr : List Nat} {σ : St} {i : Nat} {d : V} (hd : (qw nt fr σ)[i]? = some (some d)) : ∃ k j, i = nt + k /\ fr[k]? = some j /\ σ[j]? = some (some d) := by
 have hi : nt <= i := by
  apply Nat.le_of_not_lt
  intro hlt
  unfold qw at hd
  rw [List.getElem?_append_left (by simpa using hlt), List.getElem?_replicate] at hd
  split at hd <;> cases hd
 unfold qw at hd
 rw [List.getElem?_append_right (by simpa using hi), List.length_replicate, gM_] at hd
 cases ej : fr[i - nt]? with
 | none => rw [ej] at hd; cases hd
 | some j =>
  rw [ej] at hd
  exact ⟨i - nt, j, by omega, ej, wQ (by simpa using hd)⟩
theorem Rep.entry {K : Fr0} {nt : Nat} {fr : List Nat} {fo : Option (Nat × Nat)} {acc : Addr} {ρ : Env} {σ : St} {H : Hp} (r : Rep K c ρ σ H) (hn : H acc = none) (hfo : qgY c nt fr fo) :
  Rep K (cin (Cn c σ) H (foO fo) (wR σ fo) acc fun j => (qw nt fr σ)[j]?) (jK nt fr ρ) (qw nt fr σ) (upd H acc (.lst [])) := by
 have sm : zM H (upd H acc (.lst [])) := qs hn _
 have ownI : ∀ i ∈ foO fo, ∀ v, (qw nt fr σ)[i]? = some (some v) -> ∃ j, fo = some (i, j) /\ j ∈ c.O /\ σ[j]? = some (some v) := fun i hi v hv => by
  cases fo with
  | none => cases hi
  | some p =>
   obtain ⟨i', j'⟩ := p
   have e : i = i' := by simpa [foO] using hi
   subst e
   obtain ⟨h1, h2, h3, h4⟩ := hfo
   obtain ⟨k, j, e1, e2, e3⟩ := jc hv
   have hk : k = i - nt := by omega
   subst hk
   rw [h3] at e2
   cases e2
   exact ⟨j', rfl, h1, e3⟩
 have clI : ∀ a, Cl c.O σ a -> Cl (foO fo) (qw nt fr σ) a := fun a ha i hi e => by
  obtain ⟨j, _, hj, e2⟩ := ownI i hi _ e
  exact ha j hj e2
 refine ⟨by simp [jK, qw], fun i d hd => ?_, fun i hi v hv => ?_, fun i j a hi hj h1 h2 => ?_, ⟨fun a ha => ?_, fun q P pos eP => ?_⟩, fun b o hb hio => ?_, fun b hb => ?_, fun _ h => h, fun _ _ => rfl⟩
 ·obtain ⟨k, j, e1, e2, e3⟩ := qdC hd
  subst e1
  by_cases hO : nt + k ∈ foO fo
  ·obtain ⟨v, hv⟩ : ∃ v, σ[j]? = some (some v) := by
    obtain ⟨v, h1, _⟩ := r.val j d e3
    exact ⟨v, h1⟩
   have hc : (qw nt fr σ)[nt + k]? = some (some v) := by rw [vA e2, hv]; rfl
   obtain ⟨j', f1, f2, f3⟩ := ownI _ hO v hc
   subst f1
   obtain ⟨g1, g2, g3, g4⟩ := hfo
   rw [show nt + k - nt = k by omega, e2] at g3
   cases g3
   obtain ⟨ds, a, xs, h1, h3, h4, h5⟩ := r.getO g1 e3
   rw [hv] at h3
   cases h3
   exact ⟨.ref a, hc, .inl ⟨hO, ds, a, xs, h1, rfl, sm _ _ h4, IsL.ext (Ext.of_same sm) (fun b hb hs => ⟨⟨hb, fun e => by subst e; rw [hn] at hs; cases hs⟩, clI b hb.2⟩) h5⟩⟩
  ·have hj : j ∉ c.O := by
    cases fo with
    | none => exact hfo j (List.mem_of_getElem? e2)
    | some p =>
     obtain ⟨i', j'⟩ := p
     exact hfo.2.2.2 k j e2 (fun e => hO (by simp [foO, e]))
   obtain ⟨v, h1, h2⟩ := r.get hj e3
   refine ⟨v, by rw [vA e2, h1]; rfl, .inr ⟨hO, ?_⟩⟩
   refine Is.ext (Ext.of_same sm) (fun a ha hs => ⟨⟨ha, fun e => ?_⟩, clI a ha.2⟩) h2
   subst e; rw [hn] at hs; cases hs
 ·obtain ⟨j, f1, f2, f3⟩ := ownI i hi v hv
  obtain ⟨a, xs, h1, h2, h3⟩ := r.own j f2 v f3
  subst h1 f1
  exact ⟨a, xs, rfl, sm _ _ h2, .inr ⟨hi, .inl f3⟩⟩
 ·cases fo with
  | none => cases hi
  | some p =>
   obtain ⟨i', j'⟩ := p
   have e : i = i' := by simpa [foO, cin] using hi
   have e2 : j = i' := by simpa [foO, cin] using hj
   rw [e, e2]
 ·have ha' : upd H acc (.lst []) a = none := ha
  by_cases e : a = acc
  ·subst e; rw [ql] at ha'; cases ha'
  ·rw [qm e] at ha'; exact ⟨r.new ha', e⟩
 ·have hP := (r.tb q P pos eP).1
  refine ⟨sm _ _ hP, fun z => ?_⟩
  rcases z with z | z
  ·cases fo with
   | none => exact z
   | some p =>
    obtain ⟨b, xs, e1, e2, _⟩ := r.own _ hfo.1 _ z
    cases e1
    rw [hP] at e2; cases e2
  ·rw [z, hn] at hP; cases hP
 ·exact hb
 ·exact hb
theorem Rep.leave {K : Fr0} {nt : Nat} {fr : List Nat} {fo : Option (Nat × Nat)} {acc : Addr} {ρ ρe : Env} {σ σe : St} {H H' : Hp} (r : Rep K c ρ σ H) (hn : H acc = none) (hfo : qgY c nt fr fo) (hf : ∀ i j, fo = some (i, j) -> σe[i]? = (qw nt fr σ)[i]?)
  (q : Rep K (cin (Cn c σ) H (foO fo) (wR σ fo) acc fun j => (qw nt fr σ)[j]?) ρe σe H') : Rep K c (qhU fo ρe ρ) σ H' /\ Gr c.O σ H H' := by
 have kp : ∀ b o, H b = some o -> ¬ wR σ fo b -> H' b = some o := fun b o hb hio => q.kp b o (by show upd H acc (.lst []) b = some o; rw [qm (qB hb hn)]; exact hb) fun z => z.elim hio fun e => absurd e (qB hb hn)
 have clean : ∀ b, Cl c.O σ b -> ¬ wR σ fo b := fun b hb hio => by
  cases fo with
  | none => exact hio
  | some p => exact hb p.2 hfo.1 hio
 have dom : ∀ b, H' b = none -> H b = none := fun b hb => by
  have := q.dm b hb
  by_cases e : b = acc
  ·subst e; exact hn
  ·have this : upd H acc (.lst []) b = none := this
   rw [qm e] at this; exact this
 have notT : ∀ b xs, H b = some (.tup xs) -> ¬ wR σ fo b := fun b xs hb hio => by
  cases fo with
  | none => exact hio
  | some p =>
   obtain ⟨a, ys, e1, e2, _⟩ := r.own p.2 hfo.1 _ hio
   cases e1; rw [hb] at e2; cases e2
 have notF : ∀ b o u, H b = some (.frz o u) -> ¬ wR σ fo b := fun b o u hb hio => by
  cases fo with
  | none => exact hio
  | some p =>
   obtain ⟨a, ys, e1, e2, _⟩ := r.own p.2 hfo.1 _ hio
   cases e1; rw [hb] at e2; cases e2
 have gr : Gr c.O σ H H' := ⟨⟨fun b xs hb => kp b _ hb (notT b xs hb), fun b o u hb => kp b _ hb (notF b o u hb), fun b o hc hb => kp b o hb (clean b hc)⟩, dom⟩
 refine ⟨⟨?_, fun k d hd => ?_, fun j hj v hv => ?_, r.inj, r.b0, fun b o hb hio => ?_, fun b hb => r.dm b (dom b hb), r.pO, r.ps⟩, gr⟩
 ·cases fo with
  | none => exact r.len
  | some p => show (ρ.set _ _).length = _; rw [lS_]; exact r.len
 ·-- an old slot, or the one that came qhU
  have oldSlot : ρ[k]? = some (some d) -> (∀ i, fo ≠ some (i, k)) -> ∃ v, σ[k]? = some (some v) /\ ((k ∈ c.O /\ ∃ ds a xs, d = .lst ds /\ v = .ref a /\ H' a = some (.lst xs) /\ IsL K (Cn c σ) H' ds xs) \/ (k ∉ c.O /\ Is K (Cn c σ) H' d v)) := fun hk hne => by
   obtain ⟨v, h1, h2⟩ := r.val k d hk
   refine ⟨v, h1, ?_⟩
   rcases h2 with ⟨hi, ds, a, xs, h3, h5, h6, h7⟩ | ⟨hi, h3⟩
   ·subst h5
    refine .inl ⟨hi, ds, a, xs, h3, rfl, kp a _ h6 (fun hio => ?_), gr.isL h7⟩
    cases fo with
    | none => exact hio
    | some p =>
     obtain ⟨i', j'⟩ := p
     have e := r.inj k j' a hi hfo.1 h1 hio
     exact hne i' (by rw [e])
   ·exact .inr ⟨hi, gr.is h3⟩
  cases fo with
  | none => exact oldSlot hd (fun i e => by cases e)
  | some p =>
   obtain ⟨i', j'⟩ := p
   have hd' : (ρ.set j' (ρe[i']?).join)[k]? = some (some d) := hd
   by_cases e : k = j'
   ·subst e
    have hl : k < ρ.length := by
     have := (gI_.mp hd').1
     rwa [lS_] at this
    rw [List.getElem?_set_self hl] at hd'
    have he : ρe[i']? = some (some d) := wQ (Option.some.inj hd')
    obtain ⟨ds, a, xs, h1, h3, h4, h5⟩ := q.getO (show i' ∈ foO (some (i', k)) by simp [foO]) he
    have h3' := hf i' k rfl
    rw [h3] at h3'
    obtain ⟨k2, j2, e1, e2, e3⟩ := jc h3'.symm
    have hk2 : k2 = i' - nt := by omega
    subst hk2
    rw [hfo.2.2.1] at e2
    cases e2
    exact ⟨.ref a, e3, .inl ⟨hfo.1, ds, a, xs, h1, rfl, h4, IsL.ext Ext.refl (fun b hb _ => hb.1.1) h5⟩⟩
   ·rw [ze e] at hd'
    exact oldSlot hd' (fun i e2 => e (by cases e2; rfl))
 ·obtain ⟨a, xs, h1, h2, h3⟩ := r.own j hj v hv
  subst h1
  by_cases hio : wR σ fo a
  ·cases fo with
   | none => exact hio.elim
   | some p =>
    obtain ⟨i', j'⟩ := p
    have hc : (qw nt fr σ)[i']? = some (some (.ref a)) := by
     have := vA (σ := σ) (nt := nt) hfo.2.2.1
     rw [show nt + (i' - nt) = i' by have := hfo.2.1; omega] at this
     rw [this]
     have hio' : σ[j']? = some (some (.ref a)) := hio
     rw [hio']; rfl
    have h3' := hf i' j' rfl
    rw [hc] at h3'
    obtain ⟨a', ys, e1, e2, _⟩ := q.own i' (by simp [foO, cin]) _ h3'
    cases e1
    exact ⟨a, ys, rfl, e2, h3⟩
  ·exact ⟨a, xs, rfl, kp a _ h2 hio, h3⟩
 ·by_cases hio2 : wR σ fo b
  ·cases fo with
   | none => exact hio2.elim
   | some p =>
    obtain ⟨a, ys, e1, e2, e3⟩ := r.own p.2 hfo.1 _ hio2
    cases e1
    rcases e3 with e3 | e3
    ·rw [hb] at e3; cases e3
    ·exact absurd e3.2 hio
  ·exact kp b o (r.kp b o hb hio) hio2
theorem yS {it elt : Expr} {ifs : List Expr} {scope : Scope} {N' : List Str} {nt : Nat} {fr : List Nat} {fo : Option (Nat × Nat)} {f : M (List D)} {g : D -> Env -> Option Env} {t : M Bool} {k : M D} (hc : X.calm = true) (hi : DI X c tg it f) (S : CompScope X scope N' nt fr)
  (hfo : qgY c nt fr fo)
  (hb : ∀ fp cl C s₀ H₀ pn B0 H1 Io' acc S', DG (qI X scope N' fp cl C s₀ H₀ pn) (cin B0 H1 (foO fo) Io' acc S') tg g /\ DF (qI X scope N' fp cl C s₀ H₀ pn) (cin B0 H1 (foO fo) Io' acc S') ifs t /\ DE (qI X scope N' fp cl C s₀ H₀ pn) (cin B0 H1 (foO fo) Io' acc S') elt k)
  (hs : ∀ x, foldedSetIterable it X.env x = pure x := by intro _; rfl) : DE X c (.ListComp elt [⟨tg, it, ifs, 0⟩] scope pos) (jL nt fr fo f g t k) := by
 obtain ⟨wi, pi, wI⟩ := hi
 refine ⟨_, qhT hc pi S hs, fun ρ σ H Q r h => wI ρ σ H _ r (WpI.bnd h fun ds ρ1 J H1 r1 iok g1 h1 => ?_)⟩
 intro acc fp cl C s₀ H₀ pn hn
 obtain ⟨⟨tg', pg, wg⟩, ⟨tt, pt, wt⟩, ⟨te, pe, we⟩⟩ := hb fp cl C s₀ H₀ pn (Cn c σ) H1 (wR σ fo) acc fun j => (qw nt fr σ)[j]?
 refine ⟨tg', tt, te, pg, pt, pe, ?_⟩
 cases ew : zg g t k ds [] (jK nt fr ρ1) with
 | exc x ρ' => rw [ew] at h1; exact h1.elim
 | bad => rw [ew] at h1; exact h1.elim
 | ok p =>
  rw [ew] at h1
  obtain ⟨ys, ρe⟩ := p
  have h1 : ∀ v H', Rep X.K c (qhU fo ρe ρ1) σ H' -> Is X.K (Cn c σ) H' (.lst ys) v -> Gr c.O σ H1 H' -> Q v H' := h1
  have accO : ∀ j ∈ foO fo, (qw nt fr σ)[j]? ≠ some (some (.ref acc)) := fun j hj e => by
   have r0 := r1.entry (acc := acc) hn hfo
   cases fo with
   | none => cases hj
   | some p =>
    obtain ⟨i', j'⟩ := p
    have e2 : j = i' := by simpa [foO] using hj
    subst e2
    obtain ⟨k2, j2, e1, e2, e3⟩ := jc e
    have hk2 : k2 = j - nt := by omega
    subst hk2
    rw [hfo.2.2.1] at e2
    cases e2
    obtain ⟨a, us, e4, e5, _⟩ := r1.own j' hfo.1 _ e3
    cases e4; rw [hn] at e5; cases e5
  refine ⟨fun i m σ' H' => m = ds.length - i /\ i <= ds.length /\ ∃ ρ' zs xs, Rep X.K (cin (Cn c σ) H1 (foO fo) (wR σ fo) acc fun j => (qw nt fr σ)[j]?) ρ' σ' H' /\ (∀ j ∈ foO fo, σ'[j]? = (qw nt fr σ)[j]?) /\ H' acc = some (.lst xs) /\ IsL X.K (Cn (cin (Cn c σ) H1 (foO fo) (wR σ fo) acc fun j => (qw nt fr σ)[j]?) σ') H' zs xs /\ zg g t k (ds.drop i) zs ρ' = .ok (ys, ρe),
   ⟨ds.length, by simp, Nat.zero_le _, jK nt fr ρ1, [], [], r1.entry hn hfo, fun _ _ => rfl, ql, rfl, by simpa using ew⟩, ?_⟩
  rintro i m σ' H' ⟨rfl, hi, ρ', zs, xs, r', so, ha, iz, w⟩
  obtain ⟨_, gr⟩ := r1.leave hn hfo (fun i j e => so i (by rw [e]; simp [foO])) r'
  have ex : Ext (CnT c σ H1) H1 H' := ⟨gr.ext.tup, gr.ext.frz, fun b o hb hq => gr.ext.at_ b o hb.1.2 hq⟩
  have accC : ∀ τ : St, (∀ j ∈ foO fo, τ[j]? = (qw nt fr σ)[j]?) -> Cl (foO fo) τ acc := fun τ hτ j hj e => accO j hj (by rw [<- hτ j hj]; exact e)
  by_cases hlt : i < ds.length
  ·refine .inr ⟨iok.go H' i ds[i] ex (by simp [hlt]), fun x H'' y => ?_⟩
   obtain ⟨sm, ix⟩ := iok.yl H' i ds[i] x H'' ex (by simp [hlt]) y
   rw [uw hlt] at w
   unfold zg at w
   have ix2 : Is X.K (Cn (cin (Cn c σ) H1 (foO fo) (wR σ fo) acc fun j => (qw nt fr σ)[j]?) σ') H'' ds[i] x := Is.ext Ext.refl (fun a ha _ => ⟨⟨ha.1, fun e => by
    have := ha.2
    rw [e, hn] at this; cases this⟩, fun j hj e => by
     rw [so j hj] at e
     cases fo with
     | none => cases hj
     | some p =>
      obtain ⟨i', j'⟩ := p
      have e2 : j = i' := by simpa [foO, cin] using hj
      subst e2
      obtain ⟨k2, j2, e1, e2, e3⟩ := jc e
      have hk2 : k2 = j - nt := by omega
      subst hk2
      rw [hfo.2.2.1] at e2
      cases e2
      exact ha.1.2 j' hfo.1 e3⟩) ix
   cases e1 : g ds[i] ρ' with
   | none => simp only [e1] at w; cases w
   | some ρ2 =>
    simp only [e1] at w
    refine wg ρ' σ' H'' ds[i] x ρ2 _ (r'.same sm) ix2 e1 fun σ2 r2 g2 o2 => ?_
    have so2 : ∀ j ∈ foO fo, σ2[j]? = (qw nt fr σ)[j]? := fun j hj => (o2 j hj).trans (so j hj)
    have ha2 : H'' acc = some (.lst xs) := sm _ _ ha
    have iz2 := g2.isL (IsL.ext (Ext.of_same sm) (fun _ h _ => h) iz)
    cases e2 : t ρ2 with
    | exc x ρ3 => simp only [e2] at w; cases w
    | bad => simp only [e2] at w; cases w
    | ok p2 =>
     obtain ⟨bb, ρ3⟩ := p2
     refine wt ρ2 σ2 H'' _ r2 ?_
     rw [e2]
     intro H3 r3 g3
     have ha3 : H3 acc = some (.lst xs) := g3.ext.at_ _ _ (accC σ2 so2) ha2
     have iz3 := g3.isL iz2
     cases bb with
     | false =>
      rw [if_neg Bool.false_ne_true]
      simp only [e2] at w
      exact ⟨ds.length - (i + 1), by omega, rfl, hlt, ρ3, zs, xs, r3, so2, ha3, iz3, w⟩
     | true =>
      rw [if_pos rfl]
      simp only [e2] at w
      cases e3 : k ρ3 with
      | exc x ρ4 => simp only [e3] at w; cases w
      | bad => simp only [e3] at w; cases w
      | ok p3 =>
       obtain ⟨d4, ρ4⟩ := p3
       simp only [e3] at w
       refine we ρ3 σ2 H3 _ r3 ?_
       rw [e3]
       intro y4 H4 r4 i4 g4
       have ha4 : H4 acc = some (.lst xs) := g4.ext.at_ _ _ (accC σ2 so2) ha3
       have hsz : qH (zs.length + 1) = true := by
        cases e5 : qH (zs.length + 1) with
        | true => rfl
        | false => rw [e5] at w; simp at w
       rw [if_pos hsz] at w
       have hsz' : zs.length + 1 <= sizeLine := of_decide_eq_true hsz
       have r5 := r4.grow (ys := xs ++ [y4]) ha4 (fun j hj e => accC σ2 so2 j hj e)
       have ext5 : Ext (Cn (cin (Cn c σ) H1 (foO fo) (wR σ fo) acc fun j => (qw nt fr σ)[j]?) σ2) H4 (upd H4 acc (.lst (xs ++ [y4]))) := ⟨fun b us hb => by rw [qm (u8 hb ha4 (by intro z; cases z))]; exact hb, fun b o u hb => by rw [qm (u8 hb ha4 (by intro z; cases z))]; exact hb, fun b o hb hq => by rw [qm hb.1.2]; exact hq⟩
       refine ⟨xs, ha4, by rw [iz3.length]; omega, ds.length - (i + 1), by omega, rfl, hlt, ρ4, zs ++ [d4], xs ++ [y4], r5, so2, ql, ?_, w⟩
       exact IsL.append (IsL.ext ext5 (fun _ h _ => h) (g4.isL iz3)) (IsL.one (Is.ext ext5 (fun _ h _ => h) i4))
  ·have hie : i = ds.length := by omega
   subst hie
   rw [List.drop_of_length_le (Nat.le_refl _)] at w
   unfold zg at w
   cases w
   obtain ⟨r6, g6⟩ := r1.leave hn hfo (fun i j e => so i (by rw [e]; simp [foO])) r'
   exact .inl ⟨iok.stop H' ex, h1 _ H' r6 ⟨acc, xs, rfl, r1.new hn, ha, IsL.ext Ext.refl (fun a ha hs => ha.1.1) iz⟩ g6⟩
end
theorem Rep.io {K : Fr0} {c : Fc} {ρ : Env} {σ : St} {H H' : Hp} {i : Nat} {a : Addr} {bs : List D} {xs : List V} (r : Rep K c ρ σ H) (hi : i ∈ c.O) (hs : σ[i]? = some (some (.ref a))) (kp : ∀ b o, b ≠ a -> H b = some o -> H' b = some o)
  (ha : H' a = some (.lst xs)) (him : True) (il : IsL K (Cn c σ) H' bs xs) (dm : ∀ b, H' b = none -> H b = none) : Rep K c (ρ.set i (some (.lst bs))) σ H' /\ Gr c.O σ H H' := by
 obtain ⟨a', xs0, e0, h0, hown⟩ := r.own i hi _ hs
 cases e0
 have gr : Gr c.O σ H H' := ⟨⟨fun b us hb => kp b _ (u8 hb h0 (by intro z; cases z)) hb, fun b o u hb => kp b _ (u8 hb h0 (by intro z; cases z)) hb, fun b o hc hb => kp b o (fun e => hc i hi (by rw [hs, e])) hb⟩, dm⟩
 refine ⟨⟨by rw [lS_]; exact r.len, fun k d hk => ?_, fun j hj v hv => ?_, r.inj, r.b0, fun b o hb hio => ?_, fun b hb => r.dm b (dm b hb), r.pO, r.ps⟩, gr⟩
 ·by_cases e : k = i
  ·subst e
   have hl : k < ρ.length := by
    have := (gI_.mp hk).1
    rwa [lS_] at this
   rw [List.getElem?_set_self hl] at hk
   cases hk
   exact ⟨.ref a, hs, .inl ⟨hi, bs, a, xs, rfl, rfl, ha, il⟩⟩
  ·rw [ze e] at hk
   obtain ⟨v, h1, h2⟩ := r.val k d hk
   refine ⟨v, h1, ?_⟩
   rcases h2 with ⟨hk2, ds, b, ys, h3, h5, h6, h7⟩ | ⟨hk2, h3⟩
   ·subst h5
    have ne : b ≠ a := fun e2 => e (r.inj k i a hk2 hi (by rw [h1, e2]) hs)
    exact .inl ⟨hk2, ds, b, ys, h3, rfl, kp b _ ne h6, gr.isL h7⟩
   ·exact .inr ⟨hk2, gr.is h3⟩
 ·obtain ⟨b, ys, h1, h2, h3⟩ := r.own j hj v hv
  subst h1
  by_cases e : b = a
  ·subst e; exact ⟨b, xs, rfl, ha, h3⟩
  ·exact ⟨b, ys, rfl, kp b _ e h2, h3⟩
 ·have ne : b ≠ a := fun e => by
   subst e
   rcases hown with z | z
   ·rw [hb] at z; cases z
   ·exact hio z.2
  exact kp b o ne (r.kp b o hb hio)
def zA (i : Nat) (ρ : Env) : Option (List D) := match ρ[i]? with
 | some (some (.lst ds)) => some ds
 | _ => none
theorem qeA {i : Nat} {ρ : Env} {ds : List D} (h : zA i ρ = some ds) : ρ[i]? = some (some (.lst ds)) := by
 unfold zA at h
 split at h
 ·rename_i e; cases h; exact e
 ·cases h
theorem Rep.getLO {K : Fr0} {c : Fc} {ρ : Env} {σ : St} {H : Hp} (r : Rep K c ρ σ H) {i : Nat} {ds : List D} (hi : i ∈ c.O) (h : zA i ρ = some ds) :
  ∃ a xs, True /\ σ[i]? = some (some (.ref a)) /\ H a = some (.lst xs) /\ IsL K (Cn c σ) H ds xs := by
 obtain ⟨ds', a, xs, h1, h3, h4, h5⟩ := r.getO hi (qeA h)
 cases h1
 exact ⟨a, xs, trivial, h3, h4, h5⟩
theorem jM {H : Hp} {a b : Addr} {o u : HO} (h : b ≠ a) (hb : H b = some o) : upd H a u b = some o := by rw [qm h]; exact hb
theorem qeB {H : Hp} {a b : Addr} {u : HO} (h : upd H a u b = none) : H b = none := by
 by_cases e : b = a
 ·subst e; rw [ql] at h; cases h
 ·rw [qm e] at h; exact h
section
variable {X : Cx} {c : Fc} {a b e : Expr} {pos : Pos}
def yT (i : Nat) (f : M D) : M D := fun ρ => match zA i ρ with
 | none => .bad
 | some _ => (bnd f fun d ρ => match zA i ρ with
  | some ds => if imm d && qH (ds.length + 1) then .ok (.non, ρ.set i (some (.lst (ds ++ [d])))) else .bad
  | none => .bad) ρ
theorem wS {i : Nat} {x : Str} {p1 apos : Pos} {f : M D} (he : DE X c e f) (ho : i ∈ c.O := by exact of_decide_eq_true rfl) (hN : X.N[i]? = some x := by rfl) (hv : Vis X.env.scope x := by first | exact Or.inl rfl | exact Or.inr (Or.inl rfl) | exact Or.inr (Or.inr rfl)) (hd : (x == ("__debug__" : Str)) = false := by decide) (hcd : (x == ("__classdict__" : Str)) = false := by decide)
  (hbase : attributeBase (.Name x p1) "append" X.env (eval (.Name x p1) X.env) = eval (.Name x p1) X.env := by rfl)
  (hfew : ((backTo pos (starEach [e] X.env)).all (fun x => !x.1) && (backToKw pos (keywordEach [] X.env)).all (fun x => x.1.isSome)
   && decide ([e].length + ([] : List Keyword).length + (if ([] : List Keyword).isEmpty then 0 else 1) < 30)) = true := by rfl)
  (hline : (apos.endLine == pos.line) = true := by rfl) (hs : starEach [e] X.env = (false, eval e X.env) :: starEach [] X.env := by rfl) (hplain : (backTo pos (starEach [] X.env)).any (·.1) = false := by rfl) :
  DE X c (.Call (.Attribute (.Name x p1) "append" apos) [e] [] pos) (yT i f) := by
 obtain ⟨t, p, w⟩ := he
 refine ⟨_, qlV PySem.F.plainAttrs_list PySem.F.slot_list_append PySem.F.type_list_append va (vQ hN hv hd hcd) (jQ p vS hs) hbase hfew hline hs hplain, fun ρ σ H Q r h => ?_⟩
 unfold yT at h
 cases e0 : zA i ρ with
 | none => rw [e0] at h; exact h.elim
 | some ds0 =>
  simp only [e0] at h
  obtain ⟨l, xs0, _, hl, hH, _⟩ := r.getLO ho e0
  refine ⟨.ref l, hl, .inl ⟨rfl, xs0, .inl (.inl hH)⟩, w ρ σ H _ r (Wp.bnd h fun d ρ1 v H1 r1 i1 g1 h1 => ?_)⟩
  cases e1 : zA i ρ1 with
  | none => simp only [e1] at h1; exact h1.elim
  | some ds =>
   simp only [e1] at h1
   by_cases hb : (imm d && qH (ds.length + 1)) = true
   ·rw [if_pos hb] at h1
    rw [Bool.and_eq_true] at hb
    obtain ⟨l', xs, him, hl', hH', il⟩ := r1.getLO ho e1
    rw [hl] at hl'
    cases hl'
    have hsz : ds.length + 1 <= sizeLine := of_decide_eq_true hb.2
    have ext : Ext (Cn c σ) H1 (upd H1 l (.lst (xs ++ [v]))) := ⟨fun b us hb => jM (u8 hb hH' (by intro z; cases z)) hb, fun b o u hb => jM (u8 hb hH' (by intro z; cases z)) hb, fun b o hb hq => jM (fun e => hb.2 i ho (by rw [hl, e])) hq⟩
    obtain ⟨r2, g2⟩ := r1.io (H' := upd H1 l (.lst (xs ++ [v]))) (bs := ds ++ [d]) ho hl (fun b o hb ho => jM hb ho) ql trivial
     (IsL.append (IsL.ext ext (fun _ h _ => h) il) (IsL.one (Is.ext ext (fun _ h _ => h) i1))) (fun b hb => qeB hb)
    exact ⟨l, xs, v, rfl, rfl, hH', by rw [il.length]; omega, h1 _ _ r2 rfl g2⟩
   ·rw [if_neg hb] at h1; exact h1.elim
def qco (i : Nat) (k f : M D) : MS := sbnd f fun d ρ => match zA i ρ with
 | none => .bad
 | some _ => (sbnd k fun j ρ => match j, zA i ρ with
  | .int n, some ds => match ixN ds.length n with
   | some q => if imm d then .ok (.nx (ρ.set i (some (.lst (ds.set q d))))) else .bad
   | none => .bad
  | _, _ => .bad) ρ
theorem qeC {i : Nat} {x : Str} {p1 p2 : Pos} {ke : Expr} {f k : M D} (he : DE X c e f) (hk : DE X c ke k) (ho : i ∈ c.O := by exact of_decide_eq_true rfl) (hN : X.N[i]? = some x := by rfl) (hv : Vis X.env.scope x := by first | exact Or.inl rfl | exact Or.inr (Or.inl rfl) | exact Or.inr (Or.inr rfl)) (hd : (x == ("__debug__" : Str)) = false := by decide) (hcd : (x == ("__classdict__" : Str)) = false := by decide)
  (ha : ∀ v, assign (.Subscript (.Name x p1) ke p2) X.env v = (do
   let ov <- holding [v] (eval (.Name x p1) X.env)
   let iv <- holding [v, ov] (eval ke X.env)
   standAt p2
   holding [v, ov, iv] (setItem ov iv v)
   release [v, ov, iv] []) := by intro _; rfl)
  (hs : swapsWithSole [.Subscript (.Name x p1) ke p2] e pos.line X.env = pure false := by rfl) (hw : swappedStores [.Subscript (.Name x p1) ke p2] e X.env = pure none := by rfl) (h1 : (assignEach [.Subscript (.Name x p1) ke p2] X.env).map (·.2) = [assign (.Subscript (.Name x p1) ke p2) X.env] := by rfl) :
  DS X c (.Assign [.Subscript (.Name x p1) ke p2] e pos) (qco i k f) := by
 obtain ⟨t, p, w⟩ := he
 obtain ⟨tk, pk, wk⟩ := hk
 refine ⟨_, qgI p (qju (vQ hN hv hd hcd) pk qfU ha) hs hw h1, fun ρ σ H D r h => w ρ σ H _ r (Wp.sbnd h fun d ρ1 v H1 r1 i1 g1 h1 => ?_)⟩
 cases e0 : zA i ρ1 with
 | none => simp only [e0] at h1; exact h1.elim
 | some ds0 =>
  simp only [e0] at h1
  obtain ⟨l, xs0, _, hl, hH, _⟩ := r1.getLO ho e0
  refine ⟨.ref l, hl, wk ρ1 σ H1 _ r1 (Wp.sbnd h1 fun j ρ2 u H2 r2 i2 g2 h2 => ?_)⟩
  cases j with
  | int n =>
   cases e1 : zA i ρ2 with
   | none => simp only [e1] at h2; exact h2.elim
   | some ds =>
    simp only [e1] at h2
    cases e2 : ixN ds.length n with
    | none => simp only [e2] at h2; exact h2.elim
    | some q =>
     simp only [e2] at h2
     by_cases hb : imm d = true
     ·rw [if_pos hb] at h2
      obtain ⟨l', xs, him, hl', hH', il⟩ := r2.getLO ho e1
      rw [hl] at hl'
      cases hl'
      cases i2
      have i3 := g2.is i1
      have ext : Ext (Cn c σ) H2 (upd H2 l (.lst (xs.set q v))) := ⟨fun b us hb => jM (u8 hb hH' (by intro z; cases z)) hb, fun b o u hb => jM (u8 hb hH' (by intro z; cases z)) hb, fun b o hb hq => jM (fun e => hb.2 i ho (by rw [hl, e])) hq⟩
      obtain ⟨r3, g3⟩ := r2.io (H' := upd H2 l (.lst (xs.set q v))) (bs := ds.set q d) ho hl (fun b o hb ho => jM hb ho) ql trivial
       (IsL.set (Is.ext ext (fun _ h _ => h) i3) q (IsL.ext ext (fun _ h _ => h) il)) (fun b hb => qeB hb)
      exact ⟨l, xs, n, q, rfl, rfl, hH', by rw [il.length]; exact e2, h2 σ _ r3 g3.s⟩
     ·rw [if_neg hb] at h2; exact h2.elim
  | _ => exact h2.elim
structure qf9 (K : Fr0) (c : Fc) (ρ : Env) (σ : St) (H : Hp) (a : Addr) : Prop where
 val : ∀ i d v, ρ[i]? = some (some d) -> i ∉ c.O -> σ[i]? = some (some v) -> Is K (fun b => Cn c σ b /\ b ≠ a) H d v
 cont : ∀ i ds b xs, ρ[i]? = some (some (.lst ds)) -> i ∈ c.O -> σ[i]? = some (some (.ref b)) -> H b = some (.lst xs) -> IsL K (Cn c σ) H ds xs -> IsL K (fun b => Cn c σ b /\ b ≠ a) H ds xs
 own : ∀ j ∈ c.O, σ[j]? ≠ some (some (.ref a))
 new : c.H0 a = none
theorem Is.fresh {K : Fr0} {A : Addr -> Prop} {H : Hp} {d : D} {v : V} {a : Addr} (h : Is K A H d v) (hn : H a = none) : Is K (fun b => A b /\ b ≠ a) H d v := Is.ext Ext.refl (fun b h1 h2 => ⟨h1, fun e => by rw [e, hn] at h2; cases h2⟩) h
theorem Rep.apart {K : Fr0} {ρ : Env} {σ : St} {H : Hp} {a : Addr} {o : HO} (r : Rep K c ρ σ H) (hn : H a = none) : qf9 K c ρ σ (upd H a o) a where
 val := fun i d v h1 h2 h3 => by
  obtain ⟨w, h4, h5⟩ := r.get h2 h1
  rw [h3] at h4
  cases h4
  exact Is.ext (Ext.of_same (qs hn _)) (fun _ h _ => h) (h5.fresh hn)
 cont := fun i ds b xs h1 h2 h3 h4 _ => by
  obtain ⟨ds', a', ys, e1, e2, e3, e4⟩ := r.getO h2 h1
  cases e1
  rw [h3] at e2
  cases e2
  have := qs hn o _ _ e3
  rw [h4] at this
  cases this
  exact IsL.ext (Ext.of_same (qs hn _)) (fun b hb hs => ⟨hb, fun e => by rw [e, hn] at hs; cases hs⟩) e4
 own := fun j hj e => (r.new hn).2 j hj e
 new := r.dm a hn
theorem Rep.apart_same {K : Fr0} {ρ : Env} {σ : St} {H H' : Hp} {a : Addr} (r : Rep K c ρ σ H) (hn : H a = none) (sm : zM H H') : qf9 K c ρ σ H' a where
 val := fun i d v h1 h2 h3 => by
  obtain ⟨w, h4, h5⟩ := r.get h2 h1
  rw [h3] at h4
  cases h4
  exact Is.ext (Ext.of_same sm) (fun _ h _ => h) (h5.fresh hn)
 cont := fun i ds b xs h1 h2 h3 h4 _ => by
  obtain ⟨ds', a', ys, e1, e2, e3, e4⟩ := r.getO h2 h1
  cases e1
  rw [h3] at e2
  cases e2
  have := sm _ _ e3
  rw [h4] at this
  cases this
  exact IsL.ext (Ext.of_same sm) (fun b hb hs => ⟨hb, fun e => by rw [e, hn] at hs; cases hs⟩) e4
 own := fun j hj e => (r.new hn).2 j hj e
 new := r.dm a hn
def WpN (K : Fr0) (c : Fc) (σ : St) (H : Hp) (Q : VK) : R (List D × Env) -> Prop
 | .ok (ds, ρ) => ∀ a xs H', H a = none -> Rep K c ρ σ H' -> qf9 K c ρ σ H' a -> H' a = some (.lst xs) -> True -> IsL K (fun b => Cn c σ b /\ b ≠ a) H' ds xs -> Gr c.O σ H H' -> Q (.ref a) H'
 | .exc x ρ => ∀ H', Rep K c ρ σ H' -> Gr c.O σ H H' -> c.E x H'
 | .bad => False
def DN (X : Cx) (c : Fc) (e : Expr) (f : M (List D)) : Prop := ∃ t, PE X e t /\ ∀ ρ σ H Q, Rep X.K c ρ σ H -> WpN X.K c σ H Q (f ρ) -> t σ H Q
theorem WpN.gr {K : Fr0} {σ : St} {H H1 : Hp} {Q : VK} : ∀ {r : R (List D × Env)}, WpN K c σ H Q r -> Gr c.O σ H H1 -> WpN K c σ H1 Q r
 | .ok (d, ρ), h, g => fun a xs H' hn h1 h2 h3 h4 h5 hg => h a xs H' (g.dom a hn) h1 h2 h3 h4 h5 (g.trans hg)
 | .exc x ρ, h, g => fun H' hr hg => h H' hr (g.trans hg)
 | .bad, h, _ => h
theorem WpL.bndN {K : Fr0} {σ : St} {H : Hp} {Q : VK} {f : M (List D)} {k : List D -> M (List D)} {ρ : Env} {Q' : List V -> Hp -> Prop} (h : WpN K c σ H Q (Sk.bnd f k ρ)) (hQ : ∀ d ρ' v H', Rep K c ρ' σ H' -> IsL K (Cn c σ) H' d v -> Gr c.O σ H H' -> WpN K c σ H' Q (k d ρ') -> Q' v H') : WpL K c σ H Q' (f ρ) := by
 unfold Sk.bnd at h
 cases e : f ρ with
 | ok p => rw [e] at h; exact fun v H' hr hi hg => hQ p.1 p.2 v H' hr hi hg (h.gr hg)
 | exc x ρ' => rw [e] at h; exact h
 | bad => rw [e] at h; exact h
def qi9 (f : M (List D)) : M (List D) := bnd f fun ds => lift (if immL ds && qH ds.length then some ds else none)
theorem qeD {es : List Expr} {f : M (List D)} (h : DA X c es f) : DN X c (.List es pos) (qi9 f) := by
 obtain ⟨t, p, w⟩ := h
 refine ⟨_, qgL p, fun ρ σ H Q r h => w ρ σ H _ r (WpL.bndN h fun ds ρ1 vs H1 r1 i1 g1 h1 => ?_)⟩
 by_cases hb : (immL ds && qH ds.length) = true
 ·rw [if_pos hb] at h1
  rw [Bool.and_eq_true] at hb
  refine ⟨by rw [i1.length]; exact of_decide_eq_true hb.2, fun p hp => ?_⟩
  exact h1 p vs _ hp (r1.laid hp _) (r1.apart hp) ql trivial (IsL.ext (Ext.of_same (qs hp _)) (fun b h hs => ⟨h, fun e => by rw [e, hp] at hs; cases hs⟩) i1) (.of_same (qs hp _))
 ·rw [if_neg hb] at h1; exact h1.elim
theorem Cl.setO {O : List Nat} {σ : St} {i : Nat} {a b : Addr} (h : Cl O σ b) (hb : b ≠ a) : Cl O (σ.set i (some (.ref a))) b := fun j hj e => by
 by_cases hji : j = i
 ·subst hji
  have hl : j < σ.length := by
   have := (gI_.mp e).1
   rwa [lS_] at this
  rw [List.getElem?_set_self hl] at e
  cases e
  exact hb rfl
 ·rw [ze hji] at e
  exact h j hj e
theorem Rep.setO {K : Fr0} {ρ : Env} {σ : St} {H : Hp} {i : Nat} {a : Addr} {ds : List D} {xs : List V} (r : Rep K c ρ σ H) (hi : i ∈ c.O) (hP : i ∉ c.P) (ap : qf9 K c ρ σ H a) (ha : H a = some (.lst xs)) (him : True) (il : IsL K (fun b => Cn c σ b /\ b ≠ a) H ds xs) :
  Rep K c (ρ.set i (some (.lst ds))) (σ.set i (some (.ref a))) H where
 len := by rw [lS_, lS_]; exact r.len
 val := fun j e hj => by
  by_cases e1 : j = i
  ·subst e1
   have hl : j < ρ.length := by
    have := (gI_.mp hj).1
    rwa [lS_] at this
   rw [List.getElem?_set_self hl] at hj
   cases hj
   exact ⟨.ref a, List.getElem?_set_self (by rw [<- r.len]; exact hl), .inl ⟨hi, ds, a, xs, rfl, rfl, ha, IsL.ext Ext.refl (fun b hb _ => ⟨hb.1.1, hb.1.2.setO hb.2⟩) il⟩⟩
  ·rw [ze e1] at hj
   obtain ⟨w, h1, h2⟩ := r.val j e hj
   refine ⟨w, by rw [ze e1]; exact h1, ?_⟩
   rcases h2 with ⟨g1, ds', b', xs', g3, g5, g6, g7⟩ | ⟨h3, h4⟩
   ·subst g3 g5
    exact .inl ⟨g1, ds', b', xs', rfl, rfl, g6, IsL.ext Ext.refl (fun b hb _ => ⟨hb.1.1, hb.1.2.setO hb.2⟩) (ap.cont j ds' b' xs' hj g1 h1 g6 g7)⟩
   ·exact .inr ⟨h3, Is.ext Ext.refl (fun b hb _ => ⟨hb.1.1, hb.1.2.setO hb.2⟩) (ap.val j e w hj h3 h1)⟩
 own := fun j hj w h => by
  by_cases e1 : j = i
  ·subst e1
   have hl : j < σ.length := by
    have := (gI_.mp h).1
    rwa [lS_] at this
   rw [List.getElem?_set_self hl] at h
   cases h
   exact ⟨a, xs, rfl, ha, .inl ap.new⟩
  ·rw [ze e1] at h
   exact r.own j hj w h
 inj := fun j k b hj hk h1 h2 => by
  by_cases e1 : j = i
  ·by_cases e2 : k = i
   ·rw [e1, e2]
   ·subst e1
    have hl : j < σ.length := by
     have := (gI_.mp h1).1
     rwa [lS_] at this
    rw [List.getElem?_set_self hl] at h1
    cases h1
    rw [ze e2] at h2
    exact absurd h2 (ap.own k hk)
  ·by_cases e2 : k = i
   ·subst e2
    have hl : k < σ.length := by
     have := (gI_.mp h2).1
     rwa [lS_] at this
    rw [List.getElem?_set_self hl] at h2
    cases h2
    rw [ze e1] at h1
    exact absurd h1 (ap.own j hj)
   ·rw [ze e1] at h1
    rw [ze e2] at h2
    exact r.inj j k b hj hk h1 h2
 b0 := r.b0
 kp := r.kp
 dm := r.dm
 pO := r.pO
 ps := fun j hj => by
  have e : j ≠ i := fun e => hP (e ▸ hj)
  rw [ze e]; exact r.ps j hj
def v7 (i : Nat) (f : M (List D)) : MS := sbnd f fun ds ρ => .ok (.nx (ρ.set i (some (.lst ds))))
theorem wT {i : Nat} {x : Str} {pos' : Pos} {f : M (List D)} (hN : X.N.Nodup) (he : DN X c e f) (ho : i ∈ c.O := by exact of_decide_eq_true rfl) (hP : i ∉ c.P := by exact of_decide_eq_false rfl) (hi : X.N[i]? = some x := by rfl) (hx : Loc X.env.scope x := by first | exact Or.inl rfl | exact Or.inr rfl) (hs : swapsWith e (some (.Name x pos')) pos.line X.env = pure false := by rfl) (hf : X.fn x = true \/ X.env.scope.names.lookup x = some .local := by first | exact .inl rfl | exact .inr rfl | assumption) :
  DS X c (.Assign [.Name x pos'] e pos) (v7 i f) := by
 obtain ⟨t, p, w⟩ := he
 refine ⟨_, qgJ hN hi hx p hs hf, fun ρ σ H D r h => w ρ σ H _ r ?_⟩
 unfold v7 sbnd at h
 cases ef : f ρ with
 | bad => rw [ef] at h; exact h
 | exc z ρ' => rw [ef] at h; exact fun H' hr hg => h σ H' hr hg.s
 | ok q =>
  rw [ef] at h
  intro a xs H' hn r' ap ha him il g'
  exact h _ H' (r'.setO ho hP ap ha him il) ⟨g'.ext, fun b hb hs => hb.setO (fun e => by rw [e, hn] at hs; exact absurd hs (by simp)), g'.dom⟩
def qj8 (i : Nat) : M D := fun ρ => match zA i ρ with
 | some ds => .ok (.int ds.length, ρ)
 | none => .bad
def qcp (i : Nat) : M D := fun ρ => match zA i ρ with
 | some ds => .ok (.tup ds, ρ)
 | none => .bad
theorem qcq {i : Nat} {x : Str} {p p1 : Pos} (hg : Gl X "tuple") (hm : X.mg "tuple" = none) (hb : bootBuiltins "tuple" = some (.type "tuple") := by first | rfl | exact PySem.boot_tuple) (ho : i ∈ c.O := by exact of_decide_eq_true rfl) (hN : X.N[i]? = some x := by rfl) (hv : Vis X.env.scope x := by first | exact Or.inl rfl | exact Or.inr (Or.inl rfl) | exact Or.inr (Or.inr rfl)) (hd : (x == ("__debug__" : Str)) = false := by decide) (hcd : (x == ("__classdict__" : Str)) = false := by decide) :
  DE X c (.Call (.Name "tuple" p) [.Name x p1] [] pos) (qcp i) := by
 refine ⟨_, qbu u9 hg hm hb (jQ (vQ hN hv hd hcd) vS), fun ρ σ H Q r h => ?_⟩
 unfold qcp at h
 cases e0 : zA i ρ with
 | none => simp only [e0] at h; exact h.elim
 | some ds =>
  simp only [e0] at h
  obtain ⟨l, xs, him, hl, hH, il⟩ := r.getLO ho e0
  refine ⟨.ref l, hl, l, xs, rfl, .inl ⟨.inl (.inl hH), fun p hp => h _ _ (r.laid hp _) ⟨p, xs, rfl, .inl ql, ?_⟩ (.of_same (qs hp _))⟩⟩
  exact IsL.ext (Ext.of_same (qs hp _)) (fun _ h _ => h) il
def qj9 (i : Nat) (g : M D) : M D := fun ρ => match zA i ρ with
 | none => .bad
 | some _ => (bnd g fun k ρ => match k, zA i ρ with
  | .int n, some ds => match atI ds n with
   | some d => .ok (d, ρ)
   | none => .bad
  | _, _ => .bad) ρ
theorem qka {i : Nat} {x : Str} {p1 : Pos} {g : M D} (hb : DE X c b g) (hs : qci b := by intro _ _; rfl) (ho : i ∈ c.O := by exact of_decide_eq_true rfl) (hN : X.N[i]? = some x := by rfl) (hv : Vis X.env.scope x := by first | exact Or.inl rfl | exact Or.inr (Or.inl rfl) | exact Or.inr (Or.inr rfl)) (hd : (x == ("__debug__" : Str)) = false := by decide) (hcd : (x == ("__classdict__" : Str)) = false := by decide) :
  DE X c (.Subscript (.Name x p1) b pos) (qj9 i g) := by
 obtain ⟨tb, pb, wb⟩ := hb
 refine ⟨_, qjN qek (vQ hN hv hd hcd) pb hs, fun ρ σ H Q r h => ?_⟩
 unfold qj9 at h
 cases e0 : zA i ρ with
 | none => simp only [e0] at h; exact h.elim
 | some ds0 =>
  simp only [e0] at h
  obtain ⟨l, xs0, _, hl, hH, _⟩ := r.getLO ho e0
  refine ⟨.ref l, hl, wb ρ σ H _ r (Wp.bnd h fun k ρ1 v H1 r1 i1 g1 h1 => ?_)⟩
  cases k with
  | int n =>
   cases e1 : zA i ρ1 with
   | none => simp only [e1] at h1; exact h1.elim
   | some ds =>
    simp only [e1] at h1
    cases e2 : atI ds n with
    | none => simp only [e2] at h1; exact h1.elim
    | some d =>
     simp only [e2] at h1
     obtain ⟨l', xs, him, hl', hH', il⟩ := r1.getLO ho e1
     rw [hl] at hl'
     cases hl'
     cases i1
     obtain ⟨w, h3, h4⟩ := il.atI e2
     exact ⟨l, xs, n, w, rfl, rfl, .inl (.inl hH'), h3, h1 w H1 r1 h4 .refl⟩
  | _ => exact h1.elim
def qhV (i : Nat) : MS := fun ρ => match zA i ρ with
 | some ds => .ok (.rt (.lst ds) ρ)
 | none => .bad
theorem qhW {i : Nat} {x : Str} {p1 : Pos} (ho : i ∈ c.O := by exact of_decide_eq_true rfl) (hP : i ∉ c.P := by exact of_decide_eq_false rfl) (hN : X.N[i]? = some x := by rfl) (hv : Vis X.env.scope x := by first | exact Or.inl rfl | exact Or.inr (Or.inl rfl) | exact Or.inr (Or.inr rfl)) (hd : (x == ("__debug__" : Str)) = false := by decide) (hcd : (x == ("__classdict__" : Str)) = false := by decide) :
  DS X c (.Return (some (.Name x p1)) pos) (qhV i) := by
 refine ⟨_, qcJ (vQ hN hv hd hcd), fun ρ σ H D r h => ?_⟩
 unfold qhV at h
 cases e0 : zA i ρ with
 | none => simp only [e0] at h; exact h.elim
 | some ds =>
  simp only [e0] at h
  obtain ⟨l, xs, him, hl, hH, il⟩ := r.getLO ho e0
  obtain ⟨a, ys, e1, e2, e3⟩ := r.own i ho _ hl
  cases e1
  have hB : c.B l := by
   rcases e3 with z | z
   ·exact r.b0.1 l z
   ·exact absurd z.1 hP
  exact ⟨.ref l, hl, h (.ref l) σ H r ⟨l, xs, rfl, hB, hH, IsL.ext Ext.refl (fun _ h _ => h.1) il⟩ .refl⟩
end
def cfn (O P : List Nat) (A : Addr -> Prop) (H : Hp) (Io : Addr -> Prop) (E : Exn -> Hp -> Prop) (S : Nat -> Option (Option V)) : Fc where
 O := O
 P := P
 B := fun a => A a \/ H a = none
 H0 := H
 Io := Io
 E := E
 S := S
def jk (n : Nat) (ds : List D) : Env := ds.map some ++ List.replicate (n - ds.length) none
def spD (K : Fr0) (F : List D -> R D) : Sp := fun vs H Q _ => ∃ ds A, IsL K A H ds vs /\ qaN K H /\ match F ds with
 | .ok d => ∀ v H', zM H H' -> Is K (fun a => A a \/ H a = none) H' d v -> Q v H'
 | _ => False
def qfF (K : Fr0) (F : List D -> List D -> R (D × List D)) : Sp := fun vs H Q _ => ∃ (bs ds : List D) (A : Addr -> Prop) (a : Addr) (xs vs' : List V), vs = .ref a :: vs' /\ H a = some (.lst xs) /\ qaN K H /\ IsL K A H bs xs /\ ¬ A a /\ IsL K A H ds vs' /\ match F bs ds with
 | .ok (d, bs') => ∀ v H' xs', (∀ b o, b ≠ a -> H b = some o -> H' b = some o) -> (∀ b, H' b = none -> H b = none) -> H' a = some (.lst xs') -> True -> IsL K (fun b => A b \/ H b = none) H' bs' xs' -> Is K (fun b => A b \/ H b = none) H' d v -> Q v H'
 | _ => False
def dfn (n p : Nat) (body : MS) (ds : List D) : R D := if ds.length = p then match body (jk n ds) with
 | .ok (.rt d _) => .ok d
 | .ok (.nx _) => .ok .non
 | _ => .bad else .bad
def wU (n p : Nat) (body : MS) (bs ds : List D) : R (D × List D) := if ds.length + 1 = p then match body (jk n (.lst bs :: ds)) with
 | .ok (.rt d ρ) => match zA 0 ρ with
  | some bs' => .ok (d, bs')
  | none => .bad
 | .ok (.nx ρ) => match zA 0 ρ with
  | some bs' => .ok (.non, bs')
  | none => .bad
 | _ => .bad else .bad
theorem vf {N : List Str} {vs : List V} {i : Nat} {v : V} (h : (qU N vs)[i]? = some (some v)) : vs[i]? = some v := by
 unfold qU at h
 by_cases hi : i < vs.length
 ·rw [List.getElem?_append_left (by simpa using hi), gM_] at h
  cases e : vs[i]? with
  | none => rw [e] at h; cases h
  | some w => rw [e] at h; cases h; rfl
 ·rw [List.getElem?_append_right (by simpa using hi), List.getElem?_replicate] at h
  split at h <;> cases h
theorem wp {N : List Str} {vs : List V} {i : Nat} {v : V} (h : vs[i]? = some v) : (qU N vs)[i]? = some (some v) := by
 unfold qU
 have hi : i < vs.length := (gI_.mp h).1
 rw [List.getElem?_append_left (by simpa using hi), gM_, h]; rfl
theorem qbI {n : Nat} {ds : List D} {i : Nat} {d : D} (h : (jk n ds)[i]? = some (some d)) : ds[i]? = some d := by
 unfold jk at h
 by_cases hi : i < ds.length
 ·rw [List.getElem?_append_left (by simpa using hi), gM_] at h
  cases e : ds[i]? with
  | none => rw [e] at h; cases h
  | some w => rw [e] at h; cases h; rfl
 ·rw [List.getElem?_append_right (by simpa using hi), List.getElem?_replicate] at h
  split at h <;> cases h
theorem uf {K : Fr0} {N : List Str} {O : List Nat} {A : Addr -> Prop} {H : Hp} {E : Exn -> Hp -> Prop} {ds : List D} {vs : List V} (il : IsL K A H ds vs) (tb : qaN K H) (hO : ∀ i ∈ O, ds.length <= i) :
  Rep K (cfn O [] A H (fun _ => False) E fun _ => none) (jk N.length ds) (qU N vs) H where
 len := by unfold jk qU; simp [il.length]
 val := fun i d h => by
  have h1 := qbI h
  obtain ⟨v, h2, h3⟩ := il.get h1
  have hi : i ∉ O := fun z => by
   have := (gI_.mp h1).1
   have := hO i z
   omega
  refine ⟨v, wp h2, .inr ⟨hi, Is.ext Ext.refl (fun a ha _ => ⟨.inl ha, fun j hj e => ?_⟩) h3⟩⟩
  have := (gI_.mp (vf e)).1
  have := hO j hj
  rw [il.length] at *
  omega
 own := fun j hj v h => by
  have := (gI_.mp (vf h)).1
  have := hO j hj
  rw [il.length] at *
  omega
 inj := fun i j a hi hj h1 h2 => by
  have := (gI_.mp (vf h1)).1
  have := hO i hi
  rw [il.length] at *
  omega
 b0 := ⟨fun a h => .inr h, tb⟩
 kp := fun b o h _ => h
 dm := fun b h => h
 pO := fun j hj => by cases hj
 ps := fun j hj => by cases hj
section
variable {P : Program} {w : World} {K : PySem.W.Frag} {mg : Str -> Option Value} {base : Heap}
theorem qV {x qual : Str} {st : Stmt} {f : Addr} {fd : FuncData} {N ps : List Str} {k : Nat} {O : List Nat} {body : MS} (F : Fun K x qual st f fd) (S : qp N ps (qe st)) (hO : ∀ i ∈ O, ps.length <= i)
  (hb : ∀ (cdv : Value) (A : Around) (outer : List PySem.Env) (s : Shared) (H : Hp) (E : XK) (B : Addr -> Prop), yH k (A.deeper (envOfC qual (qe st) s.heap.objs.size f cdv)) ->
   DSs (qef CX0 P w K mg base N qual (qe st) f cdv A outer s H E).nox (cfn O [] B H (fun _ => False) (fun _ _ => False) fun _ => none) (qo st) body) :
  ub P w K mg base CX0 (k + 1) f fd ps (spD K (dfn N.length ps.length body)) := by
 refine F.ok S (fun vs H Q E h => ?_) (fun cdv A outer s H vs Q E hr h => ?_)
 ·obtain ⟨ds, B, il, _, h⟩ := h
  unfold dfn at h
  by_cases e : ds.length = ps.length
  ·rw [il.length]; exact e
  ·rw [if_neg e] at h; exact h.elim
 ·obtain ⟨ds, B, il, tb, h⟩ := h
  obtain ⟨t, p, wt⟩ := hb cdv A outer s H E B hr
  refine ⟨t, p, ?_⟩
  unfold dfn at h
  by_cases e : ds.length = ps.length
  ·rw [if_pos e] at h
   refine wt (jk N.length ds) (qU N vs) H _ (uf il tb (fun i hi => by rw [e]; exact hO i hi)) ?_
   have same : ∀ {ρ : Env} {σ : St} {H' : Hp}, Rep K (cfn O [] B H (fun _ => False) (fun _ _ => False) fun _ => none) ρ σ H' -> zM H H' := fun r b o hb => r.kp b o hb fun z => z
   cases eb : body (jk N.length ds) with
   | bad => rw [eb] at h; exact h.elim
   | exc z ρ => rw [eb] at h; exact h.elim
   | ok fl =>
    rw [eb] at h
    cases fl with
    | nx ρ => exact fun σ' H' r' _ => h .non H' (same r') rfl
    | rt d ρ => exact fun v σ' H' r' i' _ => h v H' (same r') i'
    | bk ρ => exact h.elim
    | ct ρ => exact h.elim
  ·rw [if_neg e] at h; exact h.elim
theorem qhX {x qual : Str} {st : Stmt} {f : Addr} {fd : FuncData} {N ps : List Str} {k : Nat} {O : List Nat} {body : MS} (F : Fun K x qual st f fd) (S : qp N ps (qe st)) (hO : ∀ i ∈ O, i = 0 \/ ps.length <= i) (h0 : 0 ∈ O)
  (hb : ∀ (cdv : Value) (A : Around) (outer : List PySem.Env) (s : Shared) (H : Hp) (E : XK) (B Io : Addr -> Prop) (S : Nat -> Option (Option V)), yH k (A.deeper (envOfC qual (qe st) s.heap.objs.size f cdv)) ->
   DSs (qef CX0 P w K mg base N qual (qe st) f cdv A outer s H E).nox (cfn O [0] B H Io (fun _ _ => False) S) (qo st) body) :
  ub P w K mg base CX0 (k + 1) f fd ps (qfF K (wU N.length ps.length body)) := by
 refine F.ok S (fun vs H Q E h => ?_) (fun cdv A outer s H vs Q E hr h => ?_)
 ·obtain ⟨bs, ds, B, a, xs, vs', rfl, ha, him, ib, nA, il, h⟩ := h
  unfold wU at h
  by_cases e : ds.length + 1 = ps.length
  ·rw [lC_, il.length]; exact e
  ·rw [if_neg e] at h; exact h.elim
 ·obtain ⟨bs, ds, B, a, xs, vs', rfl, ha, him, ib, nA, il, h⟩ := h
  obtain ⟨t, p, wt⟩ := hb cdv A outer s H E B (fun b => b = a) (fun j => (qU N (.ref a :: vs'))[j]?) hr
  refine ⟨t, p, ?_⟩
  unfold wU at h
  by_cases e : ds.length + 1 = ps.length
  ·rw [if_pos e] at h
   have only : ∀ j ∈ O, ∀ v, (qU N (.ref a :: vs'))[j]? = some (some v) -> j = 0 /\ v = .ref a := fun j hj v hv => by
    have h1 := vf hv
    rcases hO j hj with z | z
    ·subst z; cases h1; exact ⟨rfl, rfl⟩
    ·have := (gI_.mp h1).1
     rw [lC_, il.length] at this
     omega
   have r0 : Rep K (cfn O [0] B H (fun b => b = a) (fun _ _ => False) fun j => (qU N (.ref a :: vs'))[j]?) (jk N.length (.lst bs :: ds)) (qU N (.ref a :: vs')) H := by
    refine ⟨by unfold jk qU; simp [il.length], fun i d hd => ?_, fun j hj v hv => ?_, fun i j b hi hj h1 h2 => ?_, ⟨fun b hb => .inr hb, fun q P pos eP => ⟨(him q P pos eP).1, fun z => by have := (him q P pos eP).1; rw [z, ha] at this; cases this⟩⟩, fun b o hb _ => hb, fun b hb => hb, fun j hj => ?_, fun _ _ => rfl⟩
    ·have h1 := qbI hd
     cases i with
     | zero =>
      cases h1
      exact ⟨.ref a, wp rfl, .inl ⟨h0, bs, a, xs, rfl, rfl, ha, IsL.ext Ext.refl (fun b hb _ => ⟨.inl hb, fun j hj e2 => by obtain ⟨_, e3⟩ := only j hj _ e2; cases e3; exact nA hb⟩) ib⟩⟩
     | succ i =>
      have h1' : ds[i]? = some d := by simpa using h1
      obtain ⟨v, h2, h3⟩ := il.get h1'
      have hi : i + 1 ∉ O := fun z => by
       have h4 := (gI_.mp h1').1
       rcases hO _ z with q | q
       ·cases q
       ·omega
      refine ⟨v, wp (by simpa using h2), .inr ⟨hi, Is.ext Ext.refl (fun b hb _ => ⟨.inl hb, fun j hj e2 => ?_⟩) h3⟩⟩
      obtain ⟨_, e3⟩ := only j hj _ e2
      cases e3
      exact nA hb
    ·obtain ⟨rfl, rfl⟩ := only j hj v hv
     exact ⟨a, xs, rfl, ha, .inr ⟨by simp [cfn], rfl⟩⟩
    ·rw [(only i hi _ h1).1, (only j hj _ h2).1]
    ·have : j = 0 := by simpa [cfn] using hj
     rw [this]; exact h0
   refine wt _ _ H _ r0 ?_
   have fin : ∀ {ρ : Env} {σ : St} {H' : Hp} {bs' : List D}, Rep K (cfn O [0] B H (fun b => b = a) (fun _ _ => False) fun j => (qU N (.ref a :: vs'))[j]?) ρ σ H' -> zA 0 ρ = some bs' ->
     ∃ xs', H' a = some (.lst xs') /\ True /\ IsL K (fun b => B b \/ H b = none) H' bs' xs' := fun {ρ σ H' bs'} r e1 => by
    obtain ⟨l, ys, h1, h2, h3, h4⟩ := r.getLO h0 e1
    have h5 := r.ps 0 (by simp [cfn])
    have h6 : (cfn O [0] B H (fun b => b = a) (fun _ _ => False) fun j => (qU N (.ref a :: vs'))[j]?).S 0 = some (some (.ref a)) := wp rfl
    rw [h2, h6] at h5
    cases h5
    exact ⟨ys, h3, h1, IsL.ext Ext.refl (fun b hb _ => hb.1) h4⟩
   have kps : ∀ {ρ : Env} {σ : St} {H' : Hp}, Rep K (cfn O [0] B H (fun b => b = a) (fun _ _ => False) fun j => (qU N (.ref a :: vs'))[j]?) ρ σ H' -> ∀ b o, b ≠ a -> H b = some o -> H' b = some o := fun r b o hb ho => r.kp b o ho hb
   cases eb : body (jk N.length (.lst bs :: ds)) with
   | bad => rw [eb] at h; exact h.elim
   | exc z ρ => rw [eb] at h; exact h.elim
   | ok fl =>
    rw [eb] at h
    cases fl with
    | nx ρ =>
     cases eg : zA 0 ρ with
     | none => simp only [eg] at h
     | some bs' =>
      simp only [eg] at h
      exact fun σ' H' r' _ => by
       obtain ⟨xs', h1, h2, h3⟩ := fin r' eg
       exact h .non H' xs' (kps r') (fun b hb => r'.dm b hb) h1 h2 h3 rfl
    | rt d ρ =>
     cases eg : zA 0 ρ with
     | none => simp only [eg] at h
     | some bs' =>
      simp only [eg] at h
      exact fun v σ' H' r' i' _ => by
       obtain ⟨xs', h1, h2, h3⟩ := fin r' eg
       exact h v H' xs' (kps r') (fun b hb => r'.dm b hb) h1 h2 h3 i'
    | bk ρ => exact h.elim
    | ct ρ => exact h.elim
  ·rw [if_neg e] at h; exact h.elim
end
section
variable {X : Cx} {c : Fc} {a b e : Expr} {pos : Pos}
def qk (F : List D -> R D) (g : M (List D)) : M D := bnd g fun ds ρ => match F ds with
 | .ok d => .ok (d, ρ)
 | _ => .bad
theorem qhY {k : Nat} {f : Addr} {fd : FuncData} {ps : List Str} {F : List D -> R D} {x : Str} {p : Pos} {es : List Expr} {g : M (List D)} (G : ub X.prog X.w X.K X.mg X.base CX0 k f fd ps (spD X.K F)) (hr : yH k X.A) (hg : Gl X x) (hm : X.mg x = some (.ref f)) (hk : PySem.W.keepIn X.K (.ref f) = true) (hb : uc X.K fd ps [])
  (ha : DA X c (e :: es) g) (hd : (x == ("__debug__" : Str)) = false := by decide) (he : starEach (e :: es) X.env = (false, eval e X.env) :: starEach es X.env := by rfl) (hpl : (backTo pos (starEach es X.env)).any (·.1) = false := by rfl) : DE X c (.Call (.Name x p) (e :: es) [] pos) (qk F g) := by
 obtain ⟨t, pa, w⟩ := ha
 refine ⟨_, wD G hr hg hm hk hb .nil qhG pa hd he hpl, fun ρ σ H Q r h => w ρ σ H _ r (WpL.bnd h fun ds ρ1 vs H1 r1 i1 g1 h1 => ?_)⟩
 rw [List.append_nil]
 refine ⟨ds, Cn c σ, i1, r1.tb, ?_⟩
 cases ef : F ds with
 | bad => simp only [ef] at h1; exact h1.elim
 | exc z ρ' => simp only [ef] at h1; exact h1.elim
 | ok d =>
  simp only [ef] at h1
  exact fun v H' sm i => h1 v H' (r1.same sm) (Is.ext Ext.refl (fun a ha _ => ha.elim id r1.new) i) (.of_same sm)
def qC (F : List D -> List D -> R (D × List D)) (i : Nat) (g : M (List D)) : M D := fun ρ => match zA i ρ with
 | none => .bad
 | some _ => (bnd g fun ds ρ => match zA i ρ with
  | none => .bad
  | some bs => match F bs ds with
   | .ok (d, bs') => .ok (d, ρ.set i (some (.lst bs')))
   | _ => .bad) ρ
theorem qeE {k i : Nat} {f : Addr} {fd : FuncData} {ps : List Str} {F : List D -> List D -> R (D × List D)} {x y : Str} {p p1 : Pos} {es : List Expr} {g : M (List D)} (G : ub X.prog X.w X.K X.mg X.base CX0 k f fd ps (qfF X.K F)) (hr : yH k X.A) (hg : Gl X x) (hm : X.mg x = some (.ref f)) (hk : PySem.W.keepIn X.K (.ref f) = true) (hb : uc X.K fd ps [])
  (ha : DA X c es g) (ho : i ∈ c.O := by exact of_decide_eq_true rfl) (hN : X.N[i]? = some y := by rfl) (hv : Vis X.env.scope y := by first | exact Or.inl rfl | exact Or.inr (Or.inl rfl) | exact Or.inr (Or.inr rfl)) (hdy : (y == ("__debug__" : Str)) = false := by decide) (hcd : (y == ("__classdict__" : Str)) = false := by decide)
  (hd : (x == ("__debug__" : Str)) = false := by decide) (he : starEach (.Name y p1 :: es) X.env = (false, eval (.Name y p1) X.env) :: starEach es X.env := by rfl) (hpl : (backTo pos (starEach es X.env)).any (·.1) = false := by rfl) : DE X c (.Call (.Name x p) (.Name y p1 :: es) [] pos) (qC F i g) := by
 obtain ⟨t, pa, w⟩ := ha
 refine ⟨_, wD G hr hg hm hk hb .nil qhG (jQ (vQ hN hv hdy hcd) pa he) hd he hpl, fun ρ σ H Q r h => ?_⟩
 unfold qC at h
 cases e0 : zA i ρ with
 | none => simp only [e0] at h; exact h.elim
 | some ds0 =>
  simp only [e0] at h
  obtain ⟨l, xs0, _, hl, hH, _⟩ := r.getLO ho e0
  refine ⟨.ref l, hl, w ρ σ H _ r (WpL.bnd h fun ds ρ1 vs H1 r1 i1 g1 h1 => ?_)⟩
  show qfF X.K F (.ref l :: vs ++ []) H1 Q E0
  rw [List.append_nil]
  cases e1 : zA i ρ1 with
  | none => simp only [e1] at h1; exact h1.elim
  | some bs =>
   simp only [e1] at h1
   obtain ⟨l', xs, him, hl', hH', il⟩ := r1.getLO ho e1
   rw [hl] at hl'
   cases hl'
   refine ⟨bs, ds, Cn c σ, l, xs, vs, rfl, hH', r1.tb, il, fun hc => hc.2 i ho hl, i1, ?_⟩
   cases ef : F bs ds with
   | bad => simp only [ef] at h1; exact h1.elim
   | exc z ρ' => simp only [ef] at h1; exact h1.elim
   | ok q =>
    obtain ⟨d, bs'⟩ := q
    simp only [ef] at h1
    intro v H' xs' kp dm ha2 him2 il2 i2
    obtain ⟨r2, g2⟩ := r1.io (bs := bs') ho hl kp ha2 him2 (IsL.ext Ext.refl (fun a ha _ => ha.elim id r1.new) il2) dm
    exact h1 v H' r2 (Is.ext Ext.refl (fun a ha _ => ha.elim id r1.new) i2) g2
end
def qga : Key -> PyData
 | .inl i => .int i
 | .inr x => .str x
mutual
def yQ : D -> PyData
 | .non => .none
 | .bl b => .bool b
 | .int i => .int i
 | .str x => .str x
 | .tup ds => .tuple (toPDs ds)
 | .lst ds => .list (toPDs ds)
 | .dic kvs => .dict (kvs.map fun p => (qga p.1, .int p.2))
 | .fz ns => .list (ns.map .int)
 | .exc _ => .dict [(.int (2 ^ 2000), .none)]
def toPDs : List D -> List PyData
 | [] => []
 | d :: ds => yQ d :: toPDs ds
end
mutual
def noL : D -> Bool
 | .tup ds => noLs ds
 | .lst _ => false
 | .fz _ => false
 | _ => true
def noLs : List D -> Bool
 | [] => true
 | d :: ds => noL d && noLs ds
end
mutual
def noX : D -> Bool
 | .tup ds => noXs ds
 | .lst ds => noXs ds
 | .exc _ => false
 | _ => true
def noXs : List D -> Bool
 | [] => true
 | d :: ds => noX d && noXs ds
end
mutual
theorem qeF : ∀ {d : D}, (yQ d).canLay0 = true -> noX d = true
 | .non, _ => rfl
 | .bl _, _ => rfl
 | .int _, _ => rfl
 | .str _, _ => rfl
 | .tup ds, h => by unfold noX; exact noXs_lay (by simpa [yQ, PyData.canLay0] using h)
 | .lst ds, h => by unfold noX; exact noXs_lay (by simpa [yQ, PyData.canLay0] using h)
 | .dic _, _ => rfl
 | .fz _, _ => rfl
 | .exc _, h => by simp [yQ, PyData.canLay0] at h
theorem noXs_lay : ∀ {ds : List D}, PyData.canLayAll0 (toPDs ds) = true -> noXs ds = true
 | [], _ => rfl
 | d :: ds, h => by
  have h' : (yQ d).canLay0 = true /\ PyData.canLayAll0 (toPDs ds) = true := by simpa [toPDs, PyData.canLayAll0] using h
  unfold noXs
  rw [qeF h'.1, noXs_lay h'.2]; rfl
end
theorem vg {h : Heap} : ∀ {ns : List Int} {us : List Value}, qT (ns.map V.int) us -> ∃ as, ReadsAll h us (ns.map .int) as
 | [], us, r => by
  rw [List.map_nil] at r; cases r; exact ⟨[], .nil⟩
 | n :: ns, us, r => by
  rw [mC_] at r
  cases r with
  | cons r1 r2 =>
   obtain ⟨t, e⟩ := r1
   subst e
   obtain ⟨as, q⟩ := vg (ns := ns) r2
   exact ⟨[] ++ as, .cons (.int n t) q⟩
theorem qcr {α : Type} {x : α} {l l' : List α} (h1 : x ∉ l) (h2 : x ∉ l') : x ∉ l ++ l' := fun h => (mA_.mp h).elim h1 h2
theorem wV {P : Program} {w : World} {h : Heap} : ∀ {kvs : List (Key × Int)} {es : List DictEntry} {vs : List (Key × Value)}, KV (kvs.map fun p => (p.1, V.int p.2)) vs -> Pairs (qaJ P w) es vs ->
  ReadsAll h (es.map (·.key)) ((kvs.map fun p => (qga p.1, PyData.int p.2)).map (·.1)) [] /\ ReadsAll h (es.map (·.val)) ((kvs.map fun p => (qga p.1, PyData.int p.2)).map (·.2)) []
 | [], es, vs, r, p => by
  have r' : KV ([] : List (Key × V)) vs := r
  unfold KV at r'
  cases r'
  cases p
  exact ⟨.nil, .nil⟩
 | (k, i) :: kvs, es, vs, r, p => by
  have r' : KV ((k, V.int i) :: kvs.map fun p => (p.1, V.int p.2)) vs := r
  unfold KV at r'
  cases r' with
  | cons r1 r2 =>
   cases p with
   | cons p1 p2 p3 =>
    obtain ⟨q1, q2⟩ := wV (h := h) (kvs := kvs) r2 p3
    obtain ⟨e1, t, e2⟩ := r1
    have hk : ∀ {e : DictEntry} {kv : Key × Value}, k = kv.1 -> (qaJ P w).is kv.1 e.key = true -> Reads h e.key (qga k) [] := fun {e kv} hk hi => by
     subst hk
     rcases qY hi with ⟨i, t, e1, e2⟩ | ⟨x, t, e1, e2⟩
     ·rw [e1, e2]; exact .int i t
     ·rw [e1, e2]; exact .str x t
    refine ⟨.cons (as := []) (bs := []) (hk e1 p1) q1, .cons (as := []) (bs := []) ?_ q2⟩
    show Reads h _ (.int i) []
    dsimp only
    rw [p2, e2]
    exact .int i t
section
variable {X : Cx} {pins : List (Addr × Obj)} {σ : St} {H : Hp} {s : Shared} {A : Addr -> Prop}
mutual
theorem jm (I : Inv X pins σ H s) : ∀ {d : D} {v : V} {u : Value}, noX d = true -> Is X.K A H d v -> zZ v u -> ∃ as, Reads s.heap u (yQ d) as /\ (noL d = true -> sysModules ∉ as)
 | .non, _, _, _, h, r => by cases h; cases r; exact ⟨[], .none, by simp⟩
 | .bl b, _, _, _, h, r => by cases h; cases r; exact ⟨[], .bool b, by simp⟩
 | .int i, _, _, _, h, r => by cases h; obtain ⟨t, rfl⟩ := r; exact ⟨[], .int i t, by simp⟩
 | .str x, _, _, _, h, r => by cases h; obtain ⟨t, rfl⟩ := r; exact ⟨[], .str x t, by simp⟩
 | .tup ds, _, _, nx, ⟨a, xs, hv, ta, il⟩, r => by
  subst hv
  cases r
  obtain ⟨its, rv, p, _⟩ := I.tuple ta.sq
  obtain ⟨o, h1, h2, n, h3⟩ := p
  obtain ⟨as, q, nl⟩ := readsL_of I (by simpa [noX] using nx) il rv
  exact ⟨as, .tuple h1 h2 h3 (by simpa using q), fun z => nl (by simpa [noL] using z)⟩
 | .lst ds, _, _, nx, ⟨a, xs, hv, _, ta, il⟩, r => by
  subst hv
  cases r
  obtain ⟨its, rv, p, _⟩ := I.list (SqL.of ta)
  obtain ⟨o, h1, h2, n, h3⟩ := p.isList
  obtain ⟨as, q, nl⟩ := readsL_of I (by simpa [noX] using nx) il rv
  exact ⟨a :: as, .list h1 h2 h3 (by simpa using q), fun z => by simp [noL] at z⟩
 | .dic kvs, _, _, _, ⟨a, hv, _, ta⟩, r => by
  subst hv
  cases r
  obtain ⟨hz, hS, vs, rk, o, es, ep, h1, h2, h3, h4, h5, h6⟩ := (show jX X.prog X.w H s.heap a (.dK _) from I.hok a _ ta)
  obtain ⟨q1, q2⟩ := wV (h := s.heap) rk h5
  refine ⟨_, Reads.dict (as := []) (bs := []) h1 h2.1 h3 q1 q2, fun _ hm => ?_⟩
  have : sysModules = a := by simpa using hm
  rw [<- this] at hS
  simp at hS
 | .exc _, _, _, nx, _, _ => by simp [noX] at nx
 | .fz ns, _, _, _, ⟨a, hv, ta⟩, r => by
  subst hv
  cases r
  obtain ⟨its, rv, p, _⟩ := I.list ta.sq
  obtain ⟨o, h1, h2, n, h3⟩ := p.isList
  obtain ⟨as, q⟩ := vg rv
  exact ⟨a :: as, .list h1 h2 h3 (by simpa using q), fun z => by simp [noL] at z⟩
theorem readsL_of (I : Inv X pins σ H s) : ∀ {ds : List D} {xs : List V} {us : List Value}, noXs ds = true -> IsL X.K A H ds xs -> qT xs us -> ∃ as, ReadsAll s.heap us (toPDs ds) as /\ (noLs ds = true -> sysModules ∉ as)
 | [], _, _, _, h, r => by cases h; cases r; exact ⟨[], .nil, by simp⟩
 | d :: ds, _, _, nx, ⟨x, ys, hx, h1, h2⟩, r => by
  subst hx
  cases r with
  | cons r1 r2 =>
   have nx' : noX d = true /\ noXs ds = true := by simpa [noXs] using nx
   obtain ⟨as, q1, n1⟩ := jm I nx'.1 h1 r1
   obtain ⟨bs, q2, n2⟩ := readsL_of I nx'.2 h2 r2
   exact ⟨as ++ bs, .cons q1 q2, fun z => by
    have z' : noL d = true /\ noLs ds = true := by simpa [noLs] using z
    exact qcr (n1 z'.1) (n2 z'.2)⟩
end
end
def qkb (d : D) : Bool := (yQ d).showable && decide ((yQ d).shown.length <= sizeLine) && decide ((yQ d).depth <= 50) && (!(yQ d).hasDict || noL d)
section
variable {X : Cx}
end
def qnl : List D -> Option D
 | [d] => if qkb d then some (.str (yQ d).shown) else none
 | _ => none
def qax (d : D) : Bool := (yQ d).canLay0 && decide ((yQ d).depth <= 50)
def qfG (K : Fr0) (neg : Bool) : R2 := fun x y H Q => ∃ d e A, Is K A H d x /\ Is K A H e y /\ qax d = true /\ qax e = true /\ Q (.bl (if neg then !PyData.eqv (yQ d) (yQ e) else PyData.eqv (yQ d) (yQ e))) H
section
variable {X : Cx}
theorem vB {d : D} (h : qax d = true) : SeqAt.shaped (yQ d) = true := by
 unfold qax at h
 unfold SeqAt.shaped
 simp only [Bool.and_eq_true, decide_eq_true_eq] at h |-
 exact ⟨h.1, by omega⟩
theorem uJ {d : D} (h : qax d = true) : noX d = true := by
 unfold qax at h
 rw [Bool.and_eq_true] at h
 exact qeF h.1
theorem qkc {k : Nat} (hr : yH k X.A) : OpR X (compareOp .Eq) (qfG X.K false) := by
 intro pins s σ H x y v u Q I rx ry h
 obtain ⟨d, e, A, h1, h2, o1, o2, q⟩ := h
 obtain ⟨as, r1, _⟩ := jm I (uJ o1) h1 rx
 obtain ⟨bs, r2, _⟩ := jm I (uJ o2) h2 ry
 exact SeqAt.compareEq_shaped r1 r2 (vB o1) (vB o2) hr.units ⟨.bl _, H, I, rfl, by simpa using q⟩
theorem qkd {k : Nat} (hr : yH k X.A) : OpR X (compareOp .NotEq) (qfG X.K true) := by
 intro pins s σ H x y v u Q I rx ry h
 obtain ⟨d, e, A, h1, h2, o1, o2, q⟩ := h
 obtain ⟨as, r1, _⟩ := jm I (uJ o1) h1 rx
 obtain ⟨bs, r2, _⟩ := jm I (uJ o2) h2 ry
 exact SeqAt.compareNe_shaped r1 r2 (vB o1) (vB o2) hr.units ⟨.bl _, H, I, rfl, by simpa using q⟩
end
def eqA (x y : D) : Option D := if qax x && qax y then some (.bl (PyData.eqv (yQ x) (yQ y))) else none
def neA (x y : D) : Option D := if qax x && qax y then some (.bl (!PyData.eqv (yQ x) (yQ y))) else none
theorem qhZ {K : Fr0} : OpS K eqA (qfG K false) := by
 intro A H x y d v u Q hn ix iy e k
 obtain ⟨e1, e2⟩ := zB e
 rw [Bool.and_eq_true] at e1
 subst e2
 exact ⟨x, y, A, ix, iy, e1.1, e1.2, k _ H (zM.refl H) rfl⟩
theorem qh0 {K : Fr0} : OpS K neA (qfG K true) := by
 intro A H x y d v u Q hn ix iy e k
 obtain ⟨e1, e2⟩ := zB e
 rw [Bool.and_eq_true] at e1
 subst e2
 exact ⟨x, y, A, ix, iy, e1.1, e1.2, k _ H (zM.refl H) rfl⟩
section
variable {X : Cx} {c : Fc} {a b e : Expr} {pos : Pos}
def qmF (i : Nat) (g : M D) : M D := fun ρ => match zA i ρ with
 | none => .bad
 | some _ => (bnd g fun y ρ => match zA i ρ with
  | none => .bad
  | some ds => lift (neA (.lst ds) y) ρ) ρ
end
section
variable {prog : Program} {w : World} {A : Around} {E : Value -> Shared -> Prop} {s : Shared}
theorem qh1 {it tu : Addr} {k : Nat} {arr : Array Value} {x : Value} {Q : Value -> Shared -> Prop} (hI : s.heap.IsTupleIter it tu k) (hT : s.heap.IsTuple tu arr) (hx : arr[k]? = some x)
  (q : ∀ h', h'.IsTupleIter it tu (k + 1) -> Heap.SameBut it s.heap h' -> Q x { s with heap := h' }) : wpAny (model prog w) A (Builtin.SmallTypes.nextOf (.ref it)) Q E s := by
 obtain ⟨ob, e1, e2, e3⟩ := id hI
 obtain ⟨ot, f1, _, m, f2⟩ := hT
 unfold Builtin.SmallTypes.nextOf
 refine wpAny_bind (wpAny_callSpecial?_slot (name := Str.ofString "__next__") hI.typeIs F.slot_tuple_iterator_next (wpAny_call_entry F.slot_tuple_iterator_next hI.typeIs F.entry_tuple_iterator_next ?_ (F.args_tuple_iterator_next_1 _)))
 show wpAny (model prog w) _ (field (Value.ref it) 0 >>= _) _ _ s
 refine wpAny_bind (wpAny_field e1 e3 (x := Value.ref tu) rfl ?_)
 show wpAny (model prog w) _ (if (Value.ref tu == Value.none) = true then _ else _) _ _ s
 rw [if_neg (show ¬ ((Value.ref tu == Value.none) = true) from Bool.false_ne_true)]
 show wpAny (model prog w) _ (field (Value.ref it) 1 >>= _) _ _ s
 refine wpAny_bind (wpAny_field e1 e3 (x := Value.int k 0) rfl ?_)
 show wpAny (model prog w) _ (seqItems? (Value.ref tu) >>= _) _ _ s
 refine wpAny_bind (wpAny_seqItems f1 f2 ?_)
 simp only [Int.toNat_natCast, hx]
 refine wpAny_bind (wpAny_setField e1 e3 (by simp) (wpAny_pure ⟨x, rfl, wpAny_pure (q _ ?_ (Heap.SameBut.update ..))⟩))
 exact ⟨_, Heap.get?_update_self _ e1 (Obj.isFreed_of_fields (Obj.data_mapFields e3 _)), (Obj.cls_mapFields ..).trans e2, by rw [Obj.data_mapFields e3]; simp [rawInt]⟩
theorem qh2 {it tu : Addr} {k : Nat} {arr : Array Value} {Q : Value -> Shared -> Prop} (hh : A.handled = none) (hI : s.heap.IsTupleIter it tu k) (hT : s.heap.IsTuple tu arr) (hx : arr[k]? = none)
  (q : ∀ h' e, Heap.ExtBut it s.heap h' -> (∃ o, h'.get? e = some o /\ o.cls = .type "StopIteration") -> E (.ref e) { s with heap := h' }) : wpAny (model prog w) A (Builtin.SmallTypes.nextOf (.ref it)) Q E s := by
 obtain ⟨ob, e1, e2, e3⟩ := id hI
 obtain ⟨ot, f1, _, m, f2⟩ := hT
 unfold Builtin.SmallTypes.nextOf
 refine wpAny_bind (wpAny_callSpecial?_slot (name := Str.ofString "__next__") hI.typeIs F.slot_tuple_iterator_next (wpAny_call_entry F.slot_tuple_iterator_next hI.typeIs F.entry_tuple_iterator_next ?_ (F.args_tuple_iterator_next_1 _)))
 show wpAny (model prog w) _ (field (Value.ref it) 0 >>= _) _ _ s
 refine wpAny_bind (wpAny_field e1 e3 (x := Value.ref tu) rfl ?_)
 show wpAny (model prog w) _ (if (Value.ref tu == Value.none) = true then _ else _) _ _ s
 rw [if_neg (show ¬ ((Value.ref tu == Value.none) = true) from Bool.false_ne_true)]
 show wpAny (model prog w) _ (field (Value.ref it) 1 >>= _) _ _ s
 refine wpAny_bind (wpAny_field e1 e3 (x := Value.int k 0) rfl ?_)
 show wpAny (model prog w) _ (seqItems? (Value.ref tu) >>= _) _ _ s
 refine wpAny_bind (wpAny_seqItems f1 f2 ?_)
 simp only [Int.toNat_natCast, hx]
 refine wpAny_bind (wpAny_rule (wpAny_bind (wpAny_setField e1 e3 (by simp) ?_)))
 show wpAny (model prog w) _ (newExc (Value.type "StopIteration") [] >>= _) _ _ _
 refine wpAny_bind ?_
 simp only [newExc, newTuple]
 refine wpAny_bind (wpAny_newObj_type ?_ (by size_fits))
 refine wpAny_bind (m := firstArgMember _ _) (wpAny_of_eq (a := Value.none) (by first | rfl | (simp only [firstArgMember]; rfl)) ?_)
 refine wpAny_newObj_type ?_ (by size_fits)
 simp only [raiseNew]
 refine wpAny_bind (wpAny_handled ?_)
 first | rw [show A.in1.handled = none from hh] | rw [hh]
 exact wpAny_bind (wpAny_pure (wpAny_throw (q _ _ (((Heap.SameBut.update ..).extBut.push _).push _) ⟨_, Heap.get?_push_size _ rfl, rfl⟩)))
end
theorem ux {prog : Program} {w : World} {A : Around} (hh : A.handled = none) (it tu : Addr) (hne : tu ≠ it) (arr : Array Value) :
  Draws prog w A it [it, tu] arr.size (fun i x => arr[i]? = some x) (fun i h => h.IsTupleIter it tu i /\ h.IsTuple tu arr) where
 live := fun i h st => by obtain ⟨⟨o, e, _⟩, _⟩ := st; exact ⟨o, e⟩
 frame := fun i h h' st k => by
  obtain ⟨h1, o, e, r⟩ := st
  exact ⟨h1.at fun o q => k it (by simp) o q, o, k tu (by simp) o e, r⟩
 item := fun i s Q E hi st q => qh1 st.1 st.2 (Array.getElem?_eq_getElem hi) fun h' h1 sb => q _ h' s.toks (Array.getElem?_eq_getElem hi) ⟨h1, by
  obtain ⟨o, e, r⟩ := st.2
  exact ⟨o, sb.extBut _ _ hne e, r⟩⟩ sb
 done := fun s Q E st q => qh2 hh st.1 st.2 (Array.getElem?_eq_none (Nat.le_refl _)) q
structure ZAp (z TI TO i1 i2 : Addr) (fp1 fp2 : List Addr) : Prop where
 zTI : z ≠ TI
 zTO : z ≠ TO
 zi1 : z ≠ i1
 zi2 : z ≠ i2
 IO : TI ≠ TO
 Ii1 : TI ≠ i1
 Ii2 : TI ≠ i2
 Oi1 : TO ≠ i1
 Oi2 : TO ≠ i2
 ii : i1 ≠ i2
 z1 : z ∉ fp1
 z2 : z ∉ fp2
 O1 : TO ∉ fp1
 O2 : TO ∉ fp2
 i21 : i2 ∉ fp1
 i12 : i1 ∉ fp2
section
variable {prog : Program} {w : World} {A : Around} {E : Value -> Shared -> Prop} {s : Shared} {z TI TO i1 i2 : Addr} {fp1 fp2 : List Addr} {n1 n2 k : Nat} {P1 P2 : Nat -> Value -> Prop} {S1 S2 : Nat -> Heap -> Prop}
theorem jR {fp : List Addr} {a : Addr} {h h' : Heap} (sb : Heap.SameBut a h h') (ha : a ∉ fp) : ∀ b ∈ fp, ∀ o, h.get? b = some o -> h'.get? b = some o := fun b hb o e => sb.extBut _ _ (fun q => ha (q ▸ hb)) e
theorem qke (D1 : Draws prog w A i1 fp1 n1 P1 S1) (D2 : Draws prog w A i2 fp2 n2 P2 S2) (ap : ZAp z TI TO i1 i2 fp1 fp2) {p q : Value} (zz : IsZip s.heap z TI TO .none) (zI : IsPair s.heap TI (.ref i1) (.ref i2)) (zO : IsPair s.heap TO p q)
  (t1 : S1 k s.heap) (t2 : S2 k s.heap) (l1 : k < n1) (l2 : k < n2) {Q : Value -> Shared -> Prop}
  (fin : ∀ x y h' tk, P1 k x -> P2 k y -> IsZip h' z TI TO (rawInt s.heap.objs.size) -> IsPair h' TO x y -> S1 (k + 1) h' -> S2 (k + 1) h' -> IsPair h' s.heap.objs.size x y ->
   (∀ c o, c ≠ z -> c ≠ TO -> c ≠ i1 -> c ≠ i2 -> s.heap.get? c = some o -> h'.get? c = some o) -> Q (.ref s.heap.objs.size) { s with heap := h', toks := tk }) :
  wpAny (model prog w) A (Builtin.«zip.__next__» ⟨[.ref z], []⟩) (fun r s' => ∃ v, r = .done (.ret v) /\ Q v s') E s := by
 show wpAny (model prog w) A (field (Value.ref z) 2 >>= _) _ _ _
 refine wpAny_bind (wpAny_field zz rfl (x := Value.bool false) rfl ?_)
 show wpAny (model prog w) A (field (Value.ref z) 3 >>= _) _ _ _
 refine wpAny_bind (wpAny_field zz rfl (x := Value.ref TI) rfl (wpAny_bind (wpAny_seqItems zI rfl ?_)))
 show wpAny (model prog w) A (Builtin.SmallTypes.ownedTupleIsFree (Value.ref z) >>= _) _ _ _
 refine wpAny_bind ?_
 unfold Builtin.SmallTypes.ownedTupleIsFree
 refine wpAny_bind (wpAny_field zz rfl (x := Value.none) rfl (wpAny_pure ?_))
 simp only [if_true]
 refine wpAny_bind (wpAny_rule (wpAny_bind (wpAny_field zz rfl (x := Value.ref TO) rfl (wpAny_bind (wpAny_setField_rec zz (by simp) fun h1 zz1 b1 => ?_)))))
 replace zz1 : IsZip h1 z TI TO .ellipsis := zz1
 refine wpAny_bind ?_
 simp only [List.zipIdx_cons, List.zipIdx_nil, List.forIn_cons, List.forIn_nil]
 refine wpAny_bind (wpAny_bind (wpAny_onRaise ?_))
 show wpAny (model prog w) A (Builtin.SmallTypes.nextOf (Value.ref i1) >>= _) _ _ _
 refine wpAny_bind (D1.item k _ _ _ l1 (D1.frame _ _ _ t1 (jR b1 ap.z1)) fun x h2 tk2 px u1 b2 => wpAny_pure ?_)
 have zO2 : IsPair h2 TO p q := b2.extBut _ _ ap.Oi1 (b1.extBut _ _ ap.zTO.symm zO)
 refine wpAny_bind (wpAny_seqItems zO2 rfl (wpAny_bind (wpAny_updateSeq_pair zO2 fun h3 zO3 b3 => ?_)))
 replace zO3 : IsPair h3 TO x q := zO3
 refine wpAny_bind (wpAny_letGo (wpAny_pure (wpAny_bind (wpAny_bind (wpAny_onRaise ?_)))))
 show wpAny (model prog w) A (Builtin.SmallTypes.nextOf (Value.ref i2) >>= _) _ _ _
 have t2' : S2 k h3 := D2.frame _ _ _ (D2.frame _ _ _ (D2.frame _ _ _ t2 (jR b1 ap.z2)) (jR b2 ap.i12)) (jR b3 ap.O2)
 refine wpAny_bind (D2.item k _ _ _ l2 t2' fun y h4 tk4 py u2 b4 => wpAny_pure ?_)
 have zO4 : IsPair h4 TO x q := b4.extBut _ _ ap.Oi2 zO3
 refine wpAny_bind (wpAny_seqItems zO4 rfl (wpAny_bind (wpAny_updateSeq_pair zO4 fun h5 zO5 b5 => ?_)))
 replace zO5 : IsPair h5 TO x y := zO5
 refine wpAny_bind (wpAny_letGo (wpAny_pure (wpAny_pure (wpAny_bind (wpAny_seqItems zO5 rfl (wpAny_bind (wpAny_newTuple ?_)))))))
 have sz : h5.objs.size = s.heap.objs.size := by rw [b5.1, b4.1, b3.1, b2.1, b1.1]
 have zz5 : IsZip h5 z TI TO .ellipsis := b5.extBut _ _ ap.zTO (b4.extBut _ _ ap.zi2 (b3.extBut _ _ ap.zTO (b2.extBut _ _ ap.zi1 zz1)))
 have keep5 : ∀ c o, c ≠ z -> c ≠ TO -> c ≠ i1 -> c ≠ i2 -> s.heap.get? c = some o -> h5.get? c = some o := fun c o c1 c2 c3 c4 e => b5.extBut _ _ c2 (b4.extBut _ _ c4 (b3.extBut _ _ c2 (b2.extBut _ _ c3 (b1.extBut _ _ c1 e))))
 have v1 : S1 (k + 1) h5 := D1.frame _ _ _ (D1.frame _ _ _ (D1.frame _ _ _ u1 (jR b3 ap.O1)) (jR b4 ap.i21)) (jR b5 ap.O1)
 have v2 : S2 (k + 1) h5 := D2.frame _ _ _ u2 (jR b5 ap.O2)
 have lz : z < h5.objs.size := Heap.lt_size zz5
 show wpAny (model prog w) A (Builtin.SmallTypes.ownedTupleHandOut (Value.ref z) (Value.ref h5.objs.size) >>= _) _ _ _
 refine wpAny_bind ?_
 unfold Builtin.SmallTypes.ownedTupleHandOut
 have zz6 : IsZip (h5.push { cls := .type "tuple", data := .seq #[x, y] }) z TI TO .ellipsis := Heap.get?_push_of_some _ zz5
 refine wpAny_bind (wpAny_setField_rec zz6 (by simp) fun h7 zz7 b7 => ?_)
 replace zz7 : IsZip h7 z TI TO (rawInt h5.objs.size) := zz7
 refine wpAny_setField_rec zz7 (by simp) fun h8 zz8 b8 => ?_
 replace zz8 : IsZip h8 z TI TO (rawInt h5.objs.size) := zz8
 have up : ∀ c o, c ≠ z -> h5.get? c = some o -> h8.get? c = some o := fun c o c1 e => b8.extBut _ _ c1 (b7.extBut _ _ c1 (Heap.get?_push_of_some _ e))
 have new8 : IsPair h8 h5.objs.size x y := b8.extBut _ _ (Nat.ne_of_gt lz) (b7.extBut _ _ (Nat.ne_of_gt lz) (Heap.get?_push_size _ rfl))
 rw [sz] at zz8 new8
 refine wpAny_pure ⟨_, rfl, ?_⟩
 show Q (Value.ref h5.objs.size) _
 rw [sz]
 exact fin x y h8 tk4 px py zz8 (up _ _ ap.zTO.symm zO5) (D1.frame _ _ _ v1 fun b hb o e => up b o (fun q => ap.z1 (q ▸ hb)) e) (D2.frame _ _ _ v2 fun b hb o e => up b o (fun q => ap.z2 (q ▸ hb)) e) new8 fun c o c1 c2 c3 c4 e => up c o c1 (keep5 c o c1 c2 c3 c4 e)
theorem qgb (hh : A.handled = none) (D1 : Draws prog w A i1 fp1 n1 P1 S1) (D2 : Draws prog w A i2 fp2 n2 P2 S2) (ap : ZAp z TI TO i1 i2 fp1 fp2) {p q : Value} (zz : IsZip s.heap z TI TO .none) (zI : IsPair s.heap TI (.ref i1) (.ref i2)) (zO : IsPair s.heap TO p q)
  (t1 : S1 k s.heap) (t2 : S2 k s.heap) (hk : k = min n1 n2) {Q : Fin -> Shared -> Prop}
  (fin : ∀ h' tk e, (∀ c o, c ≠ z -> c ≠ TO -> c ≠ i1 -> c ≠ i2 -> s.heap.get? c = some o -> h'.get? c = some o) -> (∃ o, h'.get? e = some o /\ o.cls = .type "StopIteration") -> E (.ref e) { s with heap := h', toks := tk }) :
  wpAny (model prog w) A (Builtin.«zip.__next__» ⟨[.ref z], []⟩) Q E s := by
 show wpAny (model prog w) A (field (Value.ref z) 2 >>= _) _ _ _
 refine wpAny_bind (wpAny_field zz rfl (x := Value.bool false) rfl ?_)
 show wpAny (model prog w) A (field (Value.ref z) 3 >>= _) _ _ _
 refine wpAny_bind (wpAny_field zz rfl (x := Value.ref TI) rfl (wpAny_bind (wpAny_seqItems zI rfl ?_)))
 show wpAny (model prog w) A (Builtin.SmallTypes.ownedTupleIsFree (Value.ref z) >>= _) _ _ _
 refine wpAny_bind ?_
 unfold Builtin.SmallTypes.ownedTupleIsFree
 refine wpAny_bind (wpAny_field zz rfl (x := Value.none) rfl (wpAny_pure ?_))
 simp only [if_true]
 refine wpAny_bind (wpAny_rule (wpAny_bind (wpAny_field zz rfl (x := Value.ref TO) rfl (wpAny_bind (wpAny_setField_rec zz (by simp) fun h1 zz1 b1 => ?_)))))
 replace zz1 : IsZip h1 z TI TO .ellipsis := zz1
 refine wpAny_bind ?_
 simp only [List.zipIdx_cons, List.zipIdx_nil, List.forIn_cons, List.forIn_nil]
 refine wpAny_bind (wpAny_bind (wpAny_onRaise ?_))
 show wpAny (model prog w) A (Builtin.SmallTypes.nextOf (Value.ref i1) >>= _) _ _ _
 have t1' : S1 k h1 := D1.frame _ _ _ t1 (jR b1 ap.z1)
 by_cases h12 : n1 <= n2
 ·have e1 : k = n1 := by rw [hk]; exact Nat.min_eq_left h12
  rw [e1] at t1'
  refine wpAny_bind (D1.done _ _ _ t1' fun h2 e b2 he => ?_)
  obtain ⟨oe, f1, f2⟩ := he
  have zz2 : IsZip h2 z TI TO .ellipsis := b2 _ _ ap.zi1 zz1
  have ez : e ≠ z := fun x => by subst x; rw [zz2] at f1; cases f1; simp at f2
  refine wpAny_setField_rec zz2 (by simp) fun h3 _ b3 => ?_
  exact fin h3 s.toks e (fun c o c1 _ c3 _ x => b3.extBut _ _ c1 (b2 _ _ c3 (b1.extBut _ _ c1 x))) ⟨oe, b3.extBut _ _ ez f1, f2⟩
 ·have e1 : k = n2 := by rw [hk]; exact Nat.min_eq_right (by omega)
  refine wpAny_bind (D1.item k _ _ _ (by omega) t1' fun x h2 tk2 px u1 b2 => wpAny_pure ?_)
  have zO2 : IsPair h2 TO p q := b2.extBut _ _ ap.Oi1 (b1.extBut _ _ ap.zTO.symm zO)
  refine wpAny_bind (wpAny_seqItems zO2 rfl (wpAny_bind (wpAny_updateSeq_pair zO2 fun h3 zO3 b3 => ?_)))
  refine wpAny_bind (wpAny_letGo (wpAny_pure (wpAny_bind (wpAny_bind (wpAny_onRaise ?_)))))
  show wpAny (model prog w) A (Builtin.SmallTypes.nextOf (Value.ref i2) >>= _) _ _ _
  have t2' : S2 k h3 := D2.frame _ _ _ (D2.frame _ _ _ (D2.frame _ _ _ t2 (jR b1 ap.z2)) (jR b2 ap.i12)) (jR b3 ap.O2)
  rw [e1] at t2'
  refine wpAny_bind (D2.done _ _ _ t2' fun h4 e b4 he => ?_)
  obtain ⟨oe, f1, f2⟩ := he
  have zz4 : IsZip h4 z TI TO .ellipsis := b4 _ _ ap.zi2 (b3.extBut _ _ ap.zTO (b2.extBut _ _ ap.zi1 zz1))
  have ez : e ≠ z := fun x => by subst x; rw [zz4] at f1; cases f1; simp at f2
  refine wpAny_setField_rec zz4 (by simp) fun h5 _ b5 => ?_
  exact fin h5 tk2 e (fun c o c1 c2 c3 c4 x => b5.extBut _ _ c1 (b4 _ _ c4 (b3.extBut _ _ c2 (b2.extBut _ _ c3 (b1.extBut _ _ c1 x))))) ⟨oe, b5.extBut _ _ ez f1, f2⟩
theorem qgc {l1 l2 : Addr} {xs ys : Array Value} {Q : Value -> Shared -> Prop} (t1 : s.heap.IsTuple l1 xs) (t2 : s.heap.IsTuple l2 ys)
  (fin : ∀ h', IsZip h' (s.heap.objs.size + 4) (s.heap.objs.size + 2) (s.heap.objs.size + 3) .none -> IsPair h' (s.heap.objs.size + 2) (.ref s.heap.objs.size) (.ref (s.heap.objs.size + 1)) -> IsPair h' (s.heap.objs.size + 3) .none .none ->
   h'.IsTupleIter s.heap.objs.size l1 0 -> h'.IsTupleIter (s.heap.objs.size + 1) l2 0 -> (∀ c o, s.heap.get? c = some o -> h'.get? c = some o) -> Q (.ref (s.heap.objs.size + 4)) { s with heap := h' }) :
  wpAny (model prog w) A (call (.type "zip") [.ref l1, .ref l2]) Q E s := by
 have meets : Meets (Builtin.«zip.__new__» ⟨[.type "zip", .ref l1, .ref l2], []⟩) (fun _ R s => s.heap.IsTuple l1 xs /\ s.heap.IsTuple l2 ys /\
   R (.ok (.ret (.ref (s.heap.objs.size + 4)))) { s with heap := ((((s.heap.push { cls := .type "tuple_iterator", data := .fields #[.ref l1, .int 0 0] }).push { cls := .type "tuple_iterator", data := .fields #[.ref l2, .int 0 0] }).push { cls := .type "tuple", data := .seq #[.ref s.heap.objs.size, .ref (s.heap.objs.size + 1)] }).push { cls := .type "tuple", data := .seq #[.none, .none] }).push { cls := .type "zip", data := .fields #[.none, .bool false, .bool false, .ref (s.heap.objs.size + 2), .ref (s.heap.objs.size + 3)] } }) :=
  .of_wp fun prog w A R s h => by
   obtain ⟨hp, g, d, tk, os⟩ := s
   obtain ⟨ha, hb, h⟩ := h
   have hsub := sub_zip
   have hA : Heap.IsTuple (Shared.heap ⟨hp, g, d, tk, os⟩) l1 xs := ha
   have hB : Heap.IsTuple (Shared.heap ⟨hp.push { cls := .type "tuple_iterator", data := .fields #[.ref l1, .int 0 0] }, g, d, tk, os⟩) l2 ys := by
    obtain ⟨o, e, r⟩ := hb
    exact ⟨o, Heap.get?_push_of_some _ e, r⟩
   wp_walk using wpAny_pyIter_tuple hA, wpAny_pyIter_tuple hB
   simp only [Heap.size_push] at *
   exact ⟨_, rfl, h⟩
 refine callType_new F.called_zip (by decide) (F.typeCall_zip_2 _ _) (F.newCall_zip_2 _ _) (fun obj => F.args_object_init_3 obj _ _) F.entry_zip_new meets ⟨t1, t2, ?_⟩
 generalize e1 : s.heap.push { cls := .type "tuple_iterator", data := .fields #[.ref l1, .int 0 0] } = m1
 have s1 : m1.objs.size = s.heap.objs.size + 1 := by rw [<- e1, Heap.size_push]
 have q1 : m1.get? s.heap.objs.size = some { cls := .type "tuple_iterator", data := .fields #[.ref l1, .int 0 0] } := by rw [<- e1]; exact Heap.get?_push_size _ rfl
 have k1 : ∀ c o, s.heap.get? c = some o -> m1.get? c = some o := fun c o x => by rw [<- e1]; exact Heap.get?_push_of_some _ x
 generalize e2 : m1.push { cls := .type "tuple_iterator", data := .fields #[.ref l2, .int 0 0] } = m2
 have s2 : m2.objs.size = s.heap.objs.size + 2 := by rw [<- e2, Heap.size_push, s1]
 have q2 : m2.get? (s.heap.objs.size + 1) = some { cls := .type "tuple_iterator", data := .fields #[.ref l2, .int 0 0] } := by rw [<- e2, <- s1]; exact Heap.get?_push_size _ rfl
 have k2 : ∀ c o, m1.get? c = some o -> m2.get? c = some o := fun c o x => by rw [<- e2]; exact Heap.get?_push_of_some _ x
 generalize e3 : m2.push { cls := .type "tuple", data := .seq #[.ref s.heap.objs.size, .ref (s.heap.objs.size + 1)] } = m3
 have s3 : m3.objs.size = s.heap.objs.size + 3 := by rw [<- e3, Heap.size_push, s2]
 have q3 : m3.get? (s.heap.objs.size + 2) = some { cls := .type "tuple", data := .seq #[.ref s.heap.objs.size, .ref (s.heap.objs.size + 1)] } := by rw [<- e3, <- s2]; exact Heap.get?_push_size _ rfl
 have k3 : ∀ c o, m2.get? c = some o -> m3.get? c = some o := fun c o x => by rw [<- e3]; exact Heap.get?_push_of_some _ x
 generalize e4 : m3.push { cls := .type "tuple", data := .seq #[.none, .none] } = m4
 have s4 : m4.objs.size = s.heap.objs.size + 4 := by rw [<- e4, Heap.size_push, s3]
 have q4 : m4.get? (s.heap.objs.size + 3) = some { cls := .type "tuple", data := .seq #[.none, .none] } := by rw [<- e4, <- s3]; exact Heap.get?_push_size _ rfl
 have k4 : ∀ c o, m3.get? c = some o -> m4.get? c = some o := fun c o x => by rw [<- e4]; exact Heap.get?_push_of_some _ x
 generalize e5 : m4.push { cls := .type "zip", data := .fields #[.none, .bool false, .bool false, .ref (s.heap.objs.size + 2), .ref (s.heap.objs.size + 3)] } = m5
 have q5 : m5.get? (s.heap.objs.size + 4) = some { cls := .type "zip", data := .fields #[.none, .bool false, .bool false, .ref (s.heap.objs.size + 2), .ref (s.heap.objs.size + 3)] } := by rw [<- e5, <- s4]; exact Heap.get?_push_size _ rfl
 have k5 : ∀ c o, m4.get? c = some o -> m5.get? c = some o := fun c o x => by rw [<- e5]; exact Heap.get?_push_of_some _ x
 show _ /\ _
 exact ⟨⟨_, q5, rfl⟩, fin m5 q5 (k5 _ _ (k4 _ _ q3)) (k5 _ _ q4) ⟨_, k5 _ _ (k4 _ _ (k3 _ _ (k2 _ _ q1))), rfl, rfl⟩ ⟨_, k5 _ _ (k4 _ _ (k3 _ _ q2)), rfl, rfl⟩ fun c o x => k5 _ _ (k4 _ _ (k3 _ _ (k2 _ _ (k1 _ _ x))))⟩
end
section
variable {X : Cx} {pins : List (Addr × Obj)} {σ : St} {H : Hp} {s : Shared} {h' : Heap}
theorem qeG {ch : List Addr} {T : Addr} {o : HO} {t' : Nat} (I : Inv X pins σ H s) (k : ∀ b u, b ∉ ch -> s.heap.get? b = some u -> h'.get? b = some u) (hf : ∀ b ∈ ch, qaK X pins H b) (hT : s.heap.objs.size <= T) (new : jX X.prog X.w (upd H T o) h' T o) :
  Inv X pins σ (upd H T o) { s with heap := h', toks := t' } := by
 have hn : H T = none := I.hok.fresh hT
 have nch : ∀ b u, H b = some u -> b ∉ ch := fun b u e z => by rw [(hf b z).1] at e; cases e
 refine I.step (g' := s.gens) (d' := s.drawn) (ch := ch) (fun b hb => ⟨(hf b hb).2.2.2.1, (hf b hb).2.1, (hf b hb).2.2.2.2.1, (hf b hb).2.2.2.2.2⟩) (fun b u _ _ hc e _ => k b u hc e) (fun b u _ _ hc e _ => ⟨u.slots, k b u hc e⟩) (fun b u hc e n => ?_)
  (fun b u hc e => ⟨u, k b u hc e⟩) (fun b xs e => by rw [qm (qB e hn)]; exact e) (fun b u xs e => by rw [qm (qB e hn)]; exact e) (fun b ps y e => by rw [qm (qB e hn)]; exact e) (fun m hm => ?_) (fun b u e => ?_) I.bare
 ·rw [qm (Nat.ne_of_lt (Nat.lt_of_lt_of_le (Heap.lt_size e) hT))]; exact n
 ·obtain ⟨ob, es, ep, ho, r⟩ := hm
  exact ⟨ob, es, ep, k _ ob (fun z => (hf _ z).2.1 rfl) ho, r⟩
 ·by_cases hb : b = T
  ·subst hb; rw [ql] at e; cases e; exact new
  ·rw [qm hb] at e
   refine (I.hok b u e).stay (fun c v hc q => k c v ?_ q) (fun c q => by rw [qm (qB q hn)]; exact q) (fun c xs q => by rw [qm (qB q hn)]; exact q) fun c ob y q => by rw [qm (qB q hn)]; exact q
   rcases hc with z | z
   ·rw [z]; exact nch b u e
   ·exact nch c _ z
theorem qeH {ch : List Addr} {t' : Nat} (I : Inv X pins σ H s) (k : ∀ b u, b ∉ ch -> s.heap.get? b = some u -> h'.get? b = some u) (hf : ∀ b ∈ ch, qaK X pins H b) : Inv X pins σ H { s with heap := h', toks := t' } := by
 have nch : ∀ b u, H b = some u -> b ∉ ch := fun b u e z => by rw [(hf b z).1] at e; cases e
 refine I.step (g' := s.gens) (d' := s.drawn) (ch := ch) (fun b hb => ⟨(hf b hb).2.2.2.1, (hf b hb).2.1, (hf b hb).2.2.2.2.1, (hf b hb).2.2.2.2.2⟩) (fun b u _ _ hc e _ => k b u hc e) (fun b u _ _ hc e _ => ⟨u.slots, k b u hc e⟩) (fun b u hc e n => n)
  (fun b u hc e => ⟨u, k b u hc e⟩) (fun b xs e => e) (fun b u xs e => e) (fun _ _ _ e => e) (fun m hm => ?_) (fun b u e => ?_) I.bare
 ·obtain ⟨ob, es, ep, ho, r⟩ := hm
  exact ⟨ob, es, ep, k _ ob (fun z => (hf _ z).2.1 rfl) ho, r⟩
 ·refine (I.hok b u e).stay (fun c v hc q => k c v ?_ q) (fun c q => q) fun c xs q => q
  rcases hc with z | z
  ·rw [z]; exact nch b u e
  ·exact nch c _ z
end
def Itz (K : Fr0) (a1 a2 : Addr) (xs ys : List V) : It :=
 ⟨fun i H => i < min xs.length ys.length /\ SqT K H a1 xs /\ SqT K H a2 ys, fun i H x H' => ∃ p u v, H p = none /\ xs[i]? = some u /\ ys[i]? = some v /\ x = .ref p /\ H' = upd H p (.tup [u, v]), fun i H => i = min xs.length ys.length /\ SqT K H a1 xs /\ SqT K H a2 ys⟩
def ZSt (z TI TO i1 i2 a1 a2 : Addr) (i : Nat) (h : Heap) : Prop := IsZip h z TI TO .none /\ IsPair h TI (.ref i1) (.ref i2) /\ (∃ p q, IsPair h TO p q) /\ h.IsTupleIter i1 a1 i /\ h.IsTupleIter i2 a2 i
theorem qgd {P : Program} {w : World} {K : Fr0} {es : List Expr} {kk : Nat} {pos : Pos} {z TI TO i1 i2 a1 a2 : Addr} {xs ys : List V} (ap : ZAp z TI TO i1 i2 [i1, a1] [i2, a2]) (n1 : a1 ≠ i1) (n2 : a2 ≠ i2) :
  qi3 P w K (.Tuple es kk pos) (Itz K a1 a2 xs ys) [z, TI, TO, i1, i2] z (ZSt z TI TO i1 i2 a1 a2) where
 mem := by simp
 obj := fun i h st b hb => by
  obtain ⟨h1, h2, ⟨p, q, h3⟩, ⟨o4, h4, c4, d4⟩, ⟨o5, h5, c5, d5⟩⟩ := st
  simp only [List.mem_cons, nN_, or_false] at hb
  rcases hb with rfl | rfl | rfl | rfl | rfl
  ·exact ⟨_, h1, fun v e => by cases (show Data.fields _ = Data.cell v from e)⟩
  ·exact ⟨_, h2, fun v e => by cases (show Data.seq _ _ = Data.cell v from e)⟩
  ·exact ⟨_, h3, fun v e => by cases (show Data.seq _ _ = Data.cell v from e)⟩
  ·exact ⟨_, h4, fun v e => by rw [d4] at e; cases e⟩
  ·exact ⟨_, h5, fun v e => by rw [d5] at e; cases e⟩
 keep := fun i h h' st k => by
  obtain ⟨h1, h2, ⟨p, q, h3⟩, h4, h5⟩ := st
  exact ⟨k z (by simp) _ h1, k TI (by simp) _ h2, ⟨p, q, k TO (by simp) _ h3⟩, h4.at fun o e => k i1 (by simp) o e, h5.at fun o e => k i2 (by simp) o e⟩
 item := by
  intro X hP hw hK hc i pins s σ H E I hf st hg
  subst hP hw hK
  obtain ⟨hlt, hx, hy⟩ := hg
  obtain ⟨h1, h2, ⟨p, q, h3⟩, h4, h5⟩ := st
  obtain ⟨it1, r1, p1, z1⟩ := I.tuple hx
  obtain ⟨it2, r2, p2, z2⟩ := I.tuple hy
  have l1 : i < it1.toArray.size := by rw [sT_, <- r1.length]; omega
  have l2 : i < it2.toArray.size := by rw [sT_, <- r2.length]; omega
  have hT : s.TypeIs (.ref z) "zip" := ⟨_, h1, rfl⟩
  have hh : X.A.in1.handled = none := I.ok.hd hc
  unfold pyNext
  refine wpAny_bind (wpAny_attempt (wpAny_callSpecial?_slot (name := Str.ofString "__next__") hT F.slot_zip_next (wpAny_call_entry F.slot_zip_next hT F.entry_zip_next
   (qke (ux hh i1 a1 n1 it1.toArray) (ux hh i2 a2 n2 it2.toArray) ap h1 h2 h3 ⟨h4, p1⟩ ⟨h5, p2⟩ l1 l2 fun x y h' tk px py zz zO u1 u2 new kp => wpAny_pure ?_) (F.args_zip_next_1 _))))
  refine ⟨.ref s.heap.objs.size, rfl, wpAny_letOwnedTupleGo_zip zz fun h2' zz2 sb => ?_⟩
  obtain ⟨xv, hxv⟩ : ∃ v, xs[i]? = some v := ⟨xs[i]'(by omega), gG (by omega)⟩
  obtain ⟨yv, hyv⟩ : ∃ v, ys[i]? = some v := ⟨ys[i]'(by omega), gG (by omega)⟩
  obtain ⟨x', ex, rx⟩ := r1.get hxv
  obtain ⟨y', ey, ry⟩ := r2.get hyv
  have exx : x' = x := by
   have : it1.toArray[i]? = some x := px
   rw [List.getElem?_toArray, ex] at this
   exact Option.some.inj this
  have eyy : y' = y := by
   have : it2.toArray[i]? = some y := py
   rw [List.getElem?_toArray, ey] at this
   exact Option.some.inj this
  subst exx eyy
  have lz : z < s.heap.objs.size := Heap.lt_size h1
  have keep : ∀ b u, b ∉ [z, TI, TO, i1, i2] -> s.heap.get? b = some u -> h2'.get? b = some u := fun b u hb e => by
   simp only [List.mem_cons, nN_, or_false, not_or] at hb
   exact sb.extBut _ _ hb.1 (kp b u hb.1 hb.2.2.1 hb.2.2.2.1 hb.2.2.2.2 e)
  have I2 : Inv X pins σ (upd H s.heap.objs.size (.tup [xv, yv])) { s with heap := h2', toks := tk } :=
   qeG I keep hf (Nat.le_refl _) ⟨by show 2 <= sizeLine; decide, [x', y'], .cons rx (.cons ry .nil), ⟨_, sb.extBut _ _ (Nat.ne_of_gt lz) new, rfl, _, rfl⟩⟩
  refine ⟨.ref s.heap.objs.size, upd H s.heap.objs.size (.tup [xv, yv]), I2, rfl, ⟨s.heap.objs.size, xv, yv, I.hok.fresh (Nat.le_refl _), hxv, hyv, rfl, rfl⟩, ?_, fun b hb => ?_⟩
  ·exact ⟨zz2, sb.extBut _ _ ap.zTI.symm (kp _ _ ap.zTI.symm ap.IO ap.Ii1 ap.Ii2 h2), ⟨_, _, sb.extBut _ _ ap.zTO.symm zO⟩, u1.1.at fun o e => sb.extBut _ _ ap.zi1.symm e, u2.1.at fun o e => sb.extBut _ _ ap.zi2.symm e⟩
  ·have hb1 : b ≠ s.heap.objs.size := by
    simp only [List.mem_cons, nN_, or_false] at hb
    obtain ⟨o4, g4, _⟩ := h4
    obtain ⟨o5, g5, _⟩ := h5
    rcases hb with rfl | rfl | rfl | rfl | rfl
    ·exact Nat.ne_of_lt (Heap.lt_size h1)
    ·exact Nat.ne_of_lt (Heap.lt_size h2)
    ·exact Nat.ne_of_lt (Heap.lt_size h3)
    ·exact Nat.ne_of_lt (Heap.lt_size g4)
    ·exact Nat.ne_of_lt (Heap.lt_size g5)
   rw [qm hb1]
   exact (hf b hb).1
 done := by
  intro X hP hw hK hc i pins s σ H E I hf st hg
  subst hP hw hK
  obtain ⟨hlt, hx, hy⟩ := hg
  obtain ⟨h1, h2, ⟨p, q, h3⟩, h4, h5⟩ := st
  obtain ⟨it1, r1, p1, z1⟩ := I.tuple hx
  obtain ⟨it2, r2, p2, z2⟩ := I.tuple hy
  have hT : s.TypeIs (.ref z) "zip" := ⟨_, h1, rfl⟩
  have hh : X.A.in1.handled = none := I.ok.hd hc
  unfold pyNext
  refine wpAny_bind (wpAny_attempt (wpAny_callSpecial?_slot (name := Str.ofString "__next__") hT F.slot_zip_next (wpAny_call_entry F.slot_zip_next hT F.entry_zip_next
   (qgb hh (ux hh i1 a1 n1 it1.toArray) (ux hh i2 a2 n2 it2.toArray) ap h1 h2 h3 ⟨h4, p1⟩ ⟨h5, p2⟩ (by rw [sT_, sT_, <- r1.length, <- r2.length]; exact hlt) fun h' tk e kp he => ?_) (F.args_zip_next_1 _))))
  obtain ⟨o, ho, hcl⟩ := he
  refine wpAny_bind (wpAny_isInstance (T := "StopIteration") (b := true) ⟨o, ho, hcl⟩ isSubtype_stop (wpAny_pure ⟨rfl, qeH I (fun b u hb e => ?_) hf⟩))
  simp only [List.mem_cons, nN_, or_false, not_or] at hb
  exact kp b u hb.1 hb.2.2.1 hb.2.2.2.1 hb.2.2.2.2 e
 self := fun A i s Q E st h => wpAny_pyIter_zip st.1 h
section
variable {X : Cx} {c : Fc} {a b e : Expr} {pos : Pos} {es : List Expr} {kk : Nat} {tp : Pos}
theorem qh3 (n l1 l2 : Nat) (h1 : l1 < n) (h2 : l2 < n) : ZAp (n + 4) (n + 2) (n + 3) n (n + 1) [n, l1] [n + 1, l2] := by
 refine ⟨?_, ?_, ?_, ?_, ?_, ?_, ?_, ?_, ?_, ?_, ?_, ?_, ?_, ?_, ?_, ?_⟩ <;> simp only [List.mem_cons, nN_, or_false, not_or, ne_eq] <;> (unfold Addr at *) <;> omega
def qnm (K : Fr0) (ta : TA) : TI := fun σ H R => ta σ H fun vs H1 => ∃ a1 a2 xs ys, vs = [.ref a1, .ref a2] /\ SqT K H1 a1 xs /\ SqT K H1 a2 ys /\ R (Itz K a1 a2 xs ys) H1
theorem qkf {ta : TA} {p : Pos} (hg : Gl X "zip") (hm : X.mg "zip" = none) (ha : PA X [a, b] ta) (hs : starEach [a, b] X.env = [(false, eval a X.env), (false, eval b X.env)] := by rfl) (hs2 : starEach [b] X.env = [(false, eval b X.env)] := by rfl) :
  PI X (.Tuple es kk tp) (.Call (.Name "zip" p) [a, b] [] pos) (qnm X.K ta) := by
 intro pins s σ H R I h
 refine Call_ (vR I hg hm PyProof.Rows.boot_zip (PyProof.Rows.callWith_type1 (thn (ha pos pins s σ H _ I h) fun us s1 ⟨vs, H1, I1, r1, q1⟩ => ?_) (by rw [hs, hs2]) (by rw [hs2]; rfl)))
 obtain ⟨a1, a2, xs, ys, e1, hx, hy, q⟩ := q1
 subst e1
 obtain ⟨u1, u2, rfl, ru1, ru2⟩ := qT.two r1
 cases (show u1 = Value.ref a1 from ru1)
 cases (show u2 = Value.ref a2 from ru2)
 obtain ⟨it1, v1, p1, z1⟩ := I1.tuple hx
 obtain ⟨it2, v2, p2, z2⟩ := I1.tuple hy
 refine qgc (show s1.heap.IsTuple a1 it1.toArray from p1) (show s1.heap.IsTuple a2 it2.toArray from p2) fun h' zz zI zO g1 g2 kp => ?_
 refine wpAny_pyIter_zip zz ?_
 have la1 : a1 < s1.heap.objs.size := by obtain ⟨o, e, _⟩ := p1; exact Heap.lt_size e
 have la2 : a2 < s1.heap.objs.size := by obtain ⟨o, e, _⟩ := p2; exact Heap.lt_size e
 have ap : ZAp (s1.heap.objs.size + 4) (s1.heap.objs.size + 2) (s1.heap.objs.size + 3) s1.heap.objs.size (s1.heap.objs.size + 1) [s1.heap.objs.size, a1] [s1.heap.objs.size + 1, a2] := by
  exact qh3 _ _ _ la1 la2
 refine ⟨s1.heap.objs.size + 4, [s1.heap.objs.size + 4, s1.heap.objs.size + 2, s1.heap.objs.size + 3, s1.heap.objs.size, s1.heap.objs.size + 1], _, _, H1, rfl, I1.kept (t' := s1.toks) kp, qgd (xs := xs) (ys := ys) ap (Nat.ne_of_lt la1) (Nat.ne_of_lt (Nat.lt_succ_of_lt la2)), ⟨zz, zI, ⟨_, _, zO⟩, g1, g2⟩, fun b hb => ?_, q⟩
 simp only [List.mem_cons, nN_, or_false] at hb
 have hb2 : s1.heap.objs.size <= b := by
  rcases hb with e | e | e | e | e <;> rw [e]
  ·exact Nat.le_add_right _ _
  ·exact Nat.le_add_right _ _
  ·exact Nat.le_add_right _ _
  ·exact Nat.le_refl _
  ·exact Nat.le_add_right _ _
 exact I1.fpOk hb2 (I1.hok.fresh hb2)
def qcT : List D -> List D -> List D
 | x :: xs, y :: ys => .tup [x, y] :: qcT xs ys
 | _, _ => []
theorem qcU : ∀ {xs ys : List D} {i : Nat} {d : D}, (qcT xs ys)[i]? = some d -> ∃ x y, xs[i]? = some x /\ ys[i]? = some y /\ d = .tup [x, y]
 | [], _, _, _, h => by simp [qcT] at h
 | _ :: _, [], _, _, h => by simp [qcT] at h
 | x :: xs, y :: ys, 0, d, h => by
  have : D.tup [x, y] = d := by simpa [qcT] using h
  exact ⟨x, y, rfl, rfl, this.symm⟩
 | x :: xs, y :: ys, i + 1, d, h => by
  obtain ⟨u, v, h1, h2, h3⟩ := qcU (xs := xs) (ys := ys) (i := i) (d := d) (by simpa [qcT] using h)
  exact ⟨u, v, by simpa using h1, by simpa using h2, h3⟩
theorem qaV : ∀ (xs ys : List D), (qcT xs ys).length = min xs.length ys.length
 | [], ys => by simp [qcT]
 | _ :: _, [] => by simp [qcT]
 | x :: xs, y :: ys => by simp [qcT, qaV xs ys]
theorem qkg {K : Fr0} {A : Addr -> Prop} {H : Hp} {ds es : List D} {xs ys : List V} {a1 a2 : Addr} (t1 : uF K H a1 xs) (t2 : uF K H a2 ys) (i1 : IsL K A H ds xs) (i2 : IsL K A H es ys) : qf7 K A H (qcT ds es) (Itz K a1 a2 xs ys) where
 go := fun H' i d ex hd => by
  have hl : i < (qcT ds es).length := (gI_.mp hd).1
  rw [qaV, <- i1.length, <- i2.length] at hl
  exact ⟨hl, (t1.elim (fun h => .inl (ex.tup _ _ h)) .inr : uF K H' a1 xs).sq, (t2.elim (fun h => .inl (ex.tup _ _ h)) .inr : uF K H' a2 ys).sq⟩
 yl := fun H' i d x H'' ex hd y => by
  obtain ⟨p, u, v, hp, hu, hv, rfl, rfl⟩ := y
  obtain ⟨dx, dy, h1, h2, rfl⟩ := qcU hd
  obtain ⟨u', g1, g2⟩ := i1.get h1
  obtain ⟨v', g3, g4⟩ := i2.get h2
  rw [hu] at g1
  rw [hv] at g3
  cases g1
  cases g3
  have sm := qs hp (.tup [u, v])
  exact ⟨sm, p, [u, v], rfl, .inl ql, u, [v], rfl, Is.ext (Ext.of_same sm) (fun _ h _ => h) (Is.ext ex (fun _ h _ => h) g2), v, [], rfl, Is.ext (Ext.of_same sm) (fun _ h _ => h) (Is.ext ex (fun _ h _ => h) g4), rfl⟩
 stop := fun H' ex => ⟨by rw [qaV, i1.length, i2.length], (t1.elim (fun h => .inl (ex.tup _ _ h)) .inr : uF K H' a1 xs).sq, (t2.elim (fun h => .inl (ex.tup _ _ h)) .inr : uF K H' a2 ys).sq⟩
def qlt : List D -> Option (List D)
 | [.tup xs, .tup ys] => some (qcT xs ys)
 | _ => none
def qkh (f : M (List D)) : M (List D) := bnd f fun ds => lift (qlt ds)
theorem qki {f : M (List D)} {p : Pos} (hg : Gl X "zip") (hm : X.mg "zip" = none) (ha : DA X c [a, b] f) (hs : starEach [a, b] X.env = [(false, eval a X.env), (false, eval b X.env)] := by rfl) (hs2 : starEach [b] X.env = [(false, eval b X.env)] := by rfl) :
  DI X c (.Tuple es kk tp) (.Call (.Name "zip" p) [a, b] [] pos) (qkh f) := by
 obtain ⟨t, pa, w⟩ := ha
 refine ⟨_, qkf hg hm pa hs hs2, fun ρ σ H Q r h => w ρ σ H _ r (WpL.bndI h fun ds ρ1 vs H1 r1 i1 g1 h1 => ?_)⟩
 obtain ⟨es', e, h2⟩ := vd h1
 unfold qlt at e
 split at e
 ·obtain ⟨v, u, rfl, j1, j2⟩ := IsL.inv2 i1
  cases e
  obtain ⟨a1, xs, rfl, t1, il1⟩ := Is.tr j1
  obtain ⟨a2, ys, rfl, t2, il2⟩ := Is.tr j2
  exact ⟨a1, a2, xs, ys, rfl, t1.sq, t2.sq, h2 _ H1 r1 (qkg t1 t2 il1 il2) .refl⟩
 ·cases e
end
theorem qaW : fillsNumberSlot (.type "tuple") "mul" = pure false := by
 first | kernel_rfl | (unfold fillsNumberSlot; kernel_rfl) | decide +kernel
theorem qdD : seqRepeat? (.type "tuple") = pure (some (.builtin "tuple.__mul__")) := by
 first | kernel_rfl | (unfold seqRepeat?; kernel_rfl) | decide +kernel
theorem qbJ (a : Int) (t : Tok) (l : Addr) (dd : Option Addr) (items : Array Value) (n : Nat) (sl : Array (Option Value)) :
  Meets (Builtin.«int.__rmul__» ⟨[.int a t, .ref l], []⟩) (fun _ R s => s.heap.get? l = some { cls := .type "tuple", dict := dd, data := .seq items n, slots := sl } /\ R (.ok (.ret .notImplemented)) s) :=
 .of_wp fun prog w A R s h => by
  obtain ⟨hp, g, d, tk, os⟩ := s
  obtain ⟨hl, h⟩ := h
  wp_walk using wpAny_loadPart' hl
  exact ⟨_, rfl, h⟩
theorem qkj (l : Addr) (dd : Option Addr) (items : Array Value) (n : Nat) (sl : Array (Option Value)) (k : Int) (t : Tok) (h0 : ¬ items.isEmpty = true) (h1 : ¬ (k == 1) = true) (h2 : ¬ k <= 0) (h3 : ¬ (decide (k < -(2 ^ 63)) || decide (k >= 2 ^ 63)) = true)
  (h4 : ¬ (items.size : Int) * k > (2 ^ 63 - 1) / 8) (h5 : ¬ Builtin.Tuple.tupleTooMany ((items.size : Int) * k) = true) (h6 : ((List.replicate k.toNat items).foldl (· ++ ·) #[]).size <= sizeLine) :
  Meets (Builtin.«tuple.__mul__» ⟨[.ref l, .int k t], []⟩) (fun _ R s => s.heap.get? l = some { cls := .type "tuple", dict := dd, data := .seq items n, slots := sl } /\
   R (.ok (.ret (.ref s.heap.objs.size))) { s with heap := s.heap.push { cls := .type "tuple", data := .seq ((List.replicate k.toNat items).foldl (· ++ ·) #[]) } }) :=
 .of_wp fun prog w A R s h => by
  obtain ⟨hp, g, d, tk, os⟩ := s
  obtain ⟨hl, h⟩ := h
  have f1 := AutoSeq1.idx_int
  have f2 := AutoSeq1.sub_tuple_tuple
  have h01 : ¬ (items.isEmpty || k == 1) = true := by simp only [Bool.or_eq_true, not_or]; exact ⟨h0, h1⟩
  have h02 : ¬ (decide (k <= 0) || items.isEmpty) = true := by simp only [Bool.or_eq_true, decide_eq_true_eq, not_or]; exact ⟨h2, h0⟩
  wp_walk using wpAny_loadPart' hl
  rw [if_neg h3]
  wp_walk using wpAny_loadPart' hl
  rw [if_neg h4]
  wp_walk using wpAny_loadPart' hl
  exact ⟨_, rfl, h⟩
section
variable {X : Cx}
def qkk (K : Fr0) : R2 := fun x y H Q => ∃ a xs k, x = .ref a /\ y = .int k /\ SqT K H a xs /\ xs ≠ [] /\ 2 <= k /\ xs.length * k.toNat <= sizeLine /\ ∀ p, H p = none -> Q (.ref p) (upd H p (.tup (List.replicate k.toNat xs).flatten))
theorem qh4 : OpR X (binaryOp .Mult) (qkk X.K) := by
 intro pins s σ H x y v u Q I rx ry h
 obtain ⟨a, xs, k, rfl, rfl, hx, hne, hk, hz, q⟩ := h
 cases rx
 obtain ⟨t, rfl⟩ := ry
 obtain ⟨its, r, p1, _⟩ := I.tuple hx
 obtain ⟨⟨cls, dd, data, sl⟩, ho, hc, n, hd⟩ := id p1
 simp only at hc hd
 subst hc hd
 have hl := r.length
 have hnew : List.foldl (fun x1 x2 => x1 ++ x2) #[] (List.replicate k.toNat its.toArray) = (List.replicate k.toNat its).flatten.toArray := by
  have := wH its k.toNat []
  rw [List.nil_append] at this
  exact this
 have hlen : (List.replicate k.toNat its).flatten.length = k.toNat * its.length := qck its k.toNat
 have hsl : (sizeLine : Nat) = 16777216 := sizeLine_eq
 have e0 : ¬ its.toArray.isEmpty = true := by
  intro e
  have : its = [] := by simpa using e
  rw [this] at hl
  exact hne (List.length_eq_zero_iff.mp hl)
 have pos1 : 1 <= its.length := by
  cases its with
  | nil => simp at e0
  | cons z zs => simp
 have kk : ((k.toNat : Nat) : Int) = k := Int.toNat_of_nonneg (by omega)
 have mm : (its.toArray.size : Int) * k = ((its.length * k.toNat : Nat) : Int) := by rw [sT_, Int.natCast_mul, kk]
 have zz : its.length * k.toNat <= sizeLine := by rw [<- hl]; exact hz
 have kle : k.toNat <= its.length * k.toNat := Nat.le_mul_of_pos_left _ pos1
 have T1 : s.TypeIs (.ref a) "tuple" := ⟨_, ho, rfl⟩
 refine wpAny_binaryOp_repeat_ref (T := "tuple") (U := "int") (by decide) T1 (fun s' => typeIs_int s' k t) qaW F.fills_int_mul F.slot_int_rmul qdD F.slot_int_index.lookup
  (call_meets F.slot_int_rmul (typeIs_int s k t) F.entry_int_rmul (F.args_int_rmul_2 _ _) (qbJ k t a dd its.toArray n sl)
   ⟨ho, rfl, T1, call_meets F.slot_tuple_mul T1 F.entry_tuple_mul (F.args_tuple_mul_2 _ _) (qkj a dd its.toArray n sl k t e0 (by simp; omega) (by omega) (by simp; omega) (by rw [mm]; omega) ?_ (by rw [hnew, sT_, hlen, Nat.mul_comm]; exact zz)) ⟨ho, ?_⟩⟩)
 ·rw [mm]
  show ¬ decide (((its.length * k.toNat : Nat) : Int) > (sizeLine : Int)) = true
  rw [decide_eq_true_eq]
  omega
 ·rw [hnew]
  refine ⟨.ref s.heap.objs.size, _, I.laid (t' := s.toks) (o := .tup (List.replicate k.toNat xs).flatten) (fun b ob q => Heap.get?_push_of_some _ q) (Nat.le_refl _) ?_, rfl, q _ (I.hok.fresh (Nat.le_refl _))⟩
  exact ⟨by rw [qck, Nat.mul_comm]; exact hz, _, r.rep k.toNat, IsTup.new _ _⟩
def qkl (K : Fr0) : R2 := fun x y H Q => (rI qjB (fun i j => .int (i * j))) x y H Q \/ (qkk K x y H Q \/ qmA x y H Q)
theorem zT : OpR X (binaryOp .Mult) (qkl X.K) := OpR.or qjD (OpR.or qh4 qgN)
end
def jY : D -> D -> Option D
 | .int i, .int j => if qeq i j then some (.int (i * j)) else none
 | .tup ds, .int k => if (!ds.isEmpty && decide (2 <= k)) && qH (ds.length * k.toNat) then some (.tup (List.replicate k.toNat ds).flatten) else none
 | .lst ds, .int k => if (decide (-(2 ^ 62) <= k) && decide (k < 2 ^ 62)) && qH (ds.length * k.toNat) then some (.lst (List.replicate k.toNat ds).flatten) else none
 | _, _ => none
theorem IsL.rep {K : Fr0} {A : Addr -> Prop} {H : Hp} {ds : List D} {xs : List V} (h : IsL K A H ds xs) : ∀ k : Nat, IsL K A H (List.replicate k ds).flatten (List.replicate k xs).flatten
 | 0 => by simp [IsL]
 | k + 1 => by
  rw [rS_, rS_, List.flatten_cons, List.flatten_cons]
  exact IsL.append h (IsL.rep h k)
theorem zd {K : Fr0} : OpS K jY (qkl K) := by
 intro A H x y d v u Q hn ix iy e k
 cases x <;> cases y <;> simp only [jY] at e <;> try (cases e; done)
 ·rename_i i j
  obtain ⟨e1, e2⟩ := zB e
  subst e2
  cases ix; cases iy
  exact .inl ⟨i, j, rfl, rfl, qfW e1, k _ H (zM.refl H) rfl⟩
 ·rename_i ds j
  obtain ⟨a, xs, rfl, ta, il⟩ := ix
  cases iy
  obtain ⟨e1, e2⟩ := zB e
  subst e2
  rw [Bool.and_eq_true, Bool.and_eq_true] at e1
  obtain ⟨⟨e3, e4⟩, e5⟩ := e1
  refine .inr (.inl ⟨a, xs, j, rfl, rfl, ta.sq, fun z => ?_, of_decide_eq_true e4, by rw [il.length]; exact of_decide_eq_true e5, fun p hp => k _ _ (qs hp _) ⟨p, _, rfl, .inl ql, IsL.ext (Ext.of_same (qs hp _)) (fun _ h _ => h) (IsL.rep il _)⟩⟩)
  have := il.length
  rw [z] at this
  have : ds = [] := List.length_eq_zero_iff.mp this.symm
  rw [this] at e3
  simp at e3
 ·rename_i ds j
  obtain ⟨a, xs, rfl, _, ta, il⟩ := ix
  cases iy
  obtain ⟨e1, e2⟩ := zB e
  subst e2
  rw [Bool.and_eq_true, Bool.and_eq_true] at e1
  obtain ⟨⟨e3, e4⟩, e5⟩ := e1
  have e3' := of_decide_eq_true e3
  have e4' := of_decide_eq_true e4
  refine .inr (.inr ⟨a, j, xs, rfl, rfl, ta, by omega, by omega, by rw [il.length]; exact of_decide_eq_true e5, fun p hp => k _ _ (qs hp _) ⟨p, _, rfl, hn p hp, ql, IsL.ext (Ext.of_same (qs hp _)) (fun _ h _ => h) (IsL.rep il _)⟩⟩)
def qbm : D -> Option D
 | .int i => some (.int (-i))
 | _ => none
def d1 (F : D -> Option D) (f : M D) : M D := bnd f fun x => lift (F x)
section
variable {X : Cx} {c : Fc} {a b e : Expr} {pos : Pos}
theorem qcV {f : M D} (h : DE X c a f) : DE X c (.UnaryOp .USub a pos) (d1 qbm f) := by
 obtain ⟨t, p, w⟩ := h
 refine ⟨_, qlK qjE p, fun ρ σ H Q r h => w ρ σ H _ r (Wp.bnd h fun d ρ1 v H1 r1 i1 g1 h1 => ?_)⟩
 obtain ⟨d', e, h2⟩ := h1.lift
 cases d <;> simp only [qbm] at e <;> try (cases e; done)
 rename_i i
 cases e
 cases i1
 exact ⟨i, rfl, h2 _ H1 r1 rfl .refl⟩
theorem qkm {pins : List (Addr × Obj)} {σ : St} {H : Hp} {s : Shared} (I : Inv X pins σ H s) : sysModules < s.heap.objs.size := by
 obtain ⟨mb, h1, _⟩ := I.ok.mod.blt
 have hlt : builtinsNs < X.base.objs.size := h1.lt
 have hle : X.base.objs.size <= s.heap.objs.size := Nat.le_trans I.ok.bsz I.sz
 have hd : sysModules < builtinsNs \/ sysModules < mainGlobals := by decide
 have hg : mainGlobals < X.base.objs.size := I.ok.mod.glob.lt
 rcases hd with z | z
 ·exact Nat.lt_of_lt_of_le (Nat.lt_trans z hlt) hle
 ·exact Nat.lt_of_lt_of_le (Nat.lt_trans z hg) hle
def qja (i j : Nat) (f : M (List D)) : MS := sbnd f fun ds ρ => match ds with
 | [d, e] => .ok (.nx ((ρ.set i (some d)).set j (some e)))
 | _ => .bad
theorem qkn {i j : Nat} {x y : Str} {f : M (List D)} {px py pt : Pos} {kt k2 pt2} (hN : X.N.Nodup) (ha : DA X c [a, b] f) (hw : swappedStores [.Tuple [.Name x px, .Name y py] kt pt] (.Tuple [a, b] k2 pt2) X.env = pure (some [x, y])) (hc : X.calm = true := by rfl) (hi : X.N[i]? = some x := by rfl) (hj : X.N[j]? = some y := by rfl) (hij : i ≠ j := by decide)
  (hx : X.env.scope.names.lookup x = some .local := by rfl) (hy : X.env.scope.names.lookup y = some .local := by rfl) (ho : i ∉ c.O := by exact of_decide_eq_false rfl) (hp : j ∉ c.O := by exact of_decide_eq_false rfl)
  (hs : swapsWithSole [.Tuple [.Name x px, .Name y py] kt pt] (.Tuple [a, b] k2 pt2) pos.line X.env = pure false := by rfl) :
  DS X c (.Assign [.Tuple [.Name x px, .Name y py] kt pt] (.Tuple [a, b] k2 pt2) pos) (qja i j f) := by
 obtain ⟨t, p, w⟩ := ha
 refine ⟨_, qjv hc hN hi hj hij hx hy p hw hs, fun ρ σ H D r h => w ρ σ H _ r (WpL.sbnd h fun ds ρ1 vs H1 r1 i1 g1 h1 => ?_)⟩
 match ds, i1, h1 with
 | [], _, h1 => exact h1.elim
 | [_], _, h1 => exact h1.elim
 | [d, e], i1, h1 =>
  obtain ⟨v, u, rfl, j1, j2⟩ := IsL.inv2 i1
  refine ⟨v, u, rfl, h1 _ H1 ((r1.set ho j1).set hp ?_) ((GrS.set ho).trans (GrS.set hp))⟩
  exact (GrS.set (H := H1) ho).is j2
 | _ :: _ :: _ :: _, _, h1 => exact h1.elim
mutual
def immF : D -> Bool
 | .tup ds => immFs ds
 | .lst _ => false
 | .dic _ => false
 | _ => true
def immFs : List D -> Bool
 | [] => true
 | d :: ds => immF d && immFs ds
end
mutual
theorem Is.immF {K : Fr0} {A B : Addr -> Prop} {H : Hp} : ∀ {d : D} {v : V}, immF d = true -> Is K A H d v -> Is K B H d v
 | .non, _, _, h => h
 | .bl _, _, _, h => h
 | .int _, _, _, h => h
 | .str _, _, _, h => h
 | .tup ds, _, i, ⟨a, xs, hv, h, r⟩ => ⟨a, xs, hv, h, IsL.immF (by simpa [Sk.immF] using i) r⟩
 | .lst _, _, i, _ => by simp [Sk.immF] at i
 | .dic _, _, i, _ => by simp [Sk.immF] at i
 | .fz _, _, _, h => h
 | .exc _, _, _, h => h
theorem IsL.immF {K : Fr0} {A B : Addr -> Prop} {H : Hp} : ∀ {ds : List D} {xs : List V}, immFs ds = true -> IsL K A H ds xs -> IsL K B H ds xs
 | [], _, _, h => h
 | d :: ds, _, i, ⟨x, ys, hx, h, r⟩ => by
  have i' : Sk.immF d = true /\ immFs ds = true := by simpa [immFs] using i
  exact ⟨x, ys, hx, Is.immF i'.1 h, IsL.immF i'.2 r⟩
end
def qbK (F : List D -> R D) (g : M (List D)) : M (List D) := bnd g fun ds ρ => if immFs ds then match F ds with
 | .ok (.lst bs) => if immL bs then .ok (bs, ρ) else .bad
 | _ => .bad else .bad
theorem qh5 {k : Nat} {f : Addr} {fd : FuncData} {ps : List Str} {F : List D -> R D} {x : Str} {p : Pos} {es : List Expr} {g : M (List D)} (G : ub X.prog X.w X.K X.mg X.base CX0 k f fd ps (spD X.K F)) (hr : yH k X.A) (hg : Gl X x) (hm : X.mg x = some (.ref f)) (hk : PySem.W.keepIn X.K (.ref f) = true) (hb : uc X.K fd ps [])
  (ha : DA X c (e :: es) g) (hd : (x == ("__debug__" : Str)) = false := by decide) (he : starEach (e :: es) X.env = (false, eval e X.env) :: starEach es X.env := by rfl) (hpl : (backTo pos (starEach es X.env)).any (·.1) = false := by rfl) : DN X c (.Call (.Name x p) (e :: es) [] pos) (qbK F g) := by
 obtain ⟨t, pa, w⟩ := ha
 refine ⟨_, wD G hr hg hm hk hb .nil qhG pa hd he hpl, fun ρ σ H Q r h => w ρ σ H _ r (WpL.bndN h fun ds ρ1 vs H1 r1 i1 g1 h1 => ?_)⟩
 rw [List.append_nil]
 by_cases him : immFs ds = true
 ·rw [if_pos him] at h1
  refine ⟨ds, fun _ => False, IsL.immF him i1, r1.tb, ?_⟩
  cases ef : F ds with
  | bad => simp only [ef] at h1; exact h1.elim
  | exc z ρ' => simp only [ef] at h1; exact h1.elim
  | ok d =>
   cases d with
   | lst bs =>
    simp only [ef] at h1
    by_cases hb2 : immL bs = true
    ·rw [if_pos hb2] at h1
     intro v H' sm i
     obtain ⟨a, xs, rfl, hA, ha2, il⟩ := i
     have hn : H1 a = none := hA.elim False.elim id
     exact h1 a xs H' hn (r1.same sm) (r1.apart_same hn sm) ha2 trivial (IsL.imm hb2 il) (.of_same sm)
    ·rw [if_neg hb2] at h1; exact h1.elim
   | _ => simp only [ef] at h1; exact h1.elim
 ·rw [if_neg him] at h1; exact h1.elim
end
structure qh6 (outer : Scope) (N : List Str) (scope : Scope) (N' : List Str) (nt : Nat) (fr : List Nat) : Prop where
 kind : scope.kind = .function
 nocell : ∀ y ∈ scope.names, y.2 ≠ .cell
 names : ∀ y ∈ scope.names, y.2 = .local -> scope.names.lookup y.1 = some .local
 frees : ∀ y ∈ scope.names, y.2 = .free -> outer.names.lookup y.1 = some .cell
 len : N'.length = nt + fr.length
 slots : ∀ p ∈ fr.zipIdx, N'[nt + p.2]? = N[p.1]? /\ ((N[p.1]?).bind fun x => scope.names.lookup x) = some .free
theorem qh6.ok {X : Cx} {outer : Scope} {N : List Str} {scope : Scope} {N' : List Str} {nt : Nat} {fr : List Nat} (S : qh6 outer N scope N' nt fr) (h1 : X.env.scope = outer) (h2 : X.N = N) : CompScope X scope N' nt fr := by
 subst h1 h2
 refine ⟨S.kind, S.nocell, S.names, S.frees, S.len, fun i j h => ?_⟩
 have hm : (j, i) ∈ fr.zipIdx := by
  rw [List.mem_iff_getElem?]
  refine ⟨i, ?_⟩
  rw [List.getElem?_zipIdx, h]
  simp
 obtain ⟨h3, h4⟩ := S.slots (j, i) hm
 cases e : X.N[j]? with
 | none =>
  have h4' : ((X.N[j]?).bind fun x => scope.names.lookup x) = some .free := h4
  rw [e] at h4'; cases h4'
 | some x =>
  have h4' : ((X.N[j]?).bind fun x => scope.names.lookup x) = some .free := h4
  rw [e] at h4'
  exact ⟨x, by
    have h3' : N'[nt + i]? = X.N[j]? := h3
    rw [h3', e], rfl, h4'⟩
structure zb (P : Program) (w : World) (K : PySem.W.Frag) (mg : Str -> Option Value) (base : Heap) (k : Nat) (x : Str) (ps : List Str) (sp : Sp) : Prop where
 ex : ∃ f fd, ub P w K mg base CX0 k f fd ps sp /\ mg x = some (.ref f) /\ PySem.W.keepIn K (.ref f) = true /\ uc K fd ps []
theorem vV : bootBuiltins "len" = some (.builtin "len") := by decide +kernel
theorem qko : bootBuiltins "max" = some (.builtin "max") := by decide +kernel
theorem qkp : bootBuiltins "min" = some (.builtin "min") := by decide +kernel
theorem qkq : bootBuiltins "all" = some (.builtin "all") := by decide +kernel
theorem qgZ : bootBuiltins "any" = some (.builtin "any") := by decide +kernel
theorem qkr : bootBuiltins "sum" = some (.builtin "sum") := by decide +kernel
theorem qeI : bootBuiltins "divmod" = some (.builtin "divmod") := by decide +kernel
theorem qks : bootBuiltins "int" = some (.type "int") := by decide +kernel
theorem qh7 : bootBuiltins "bool" = some (.type "bool") := by decide +kernel
theorem uy : bootBuiltins "tuple" = some (.type "tuple") := by decide +kernel
theorem qx : bootBuiltins "isinstance" = some (.builtin "isinstance") := by decide +kernel
def uK : MS := fun ρ => .ok (.nx ρ)
theorem qX {X : Cx} {c : Fc} : DSs X c [] uK := qhJ
theorem qu {X : Cx} : IxR X (fun x y H Q => qlS X.K x y H Q \/ qlT X.K x y H Q) := qek.or qjO
theorem qh8 {c : Fc} {nt : Nat} {fr : List Nat} {i j : Nat} (h1 : j ∈ c.O) (h2 : nt <= i) (h3 : fr[i - nt]? = some j) (h4 : ∀ p ∈ fr.zipIdx, nt + p.2 ≠ i -> p.1 ∉ c.O) : qgY c nt fr (some (i, j)) :=
 ⟨h1, h2, h3, fun k j' h hk => h4 (j', k) (by rw [List.mem_iff_getElem?]; exact ⟨k, by rw [List.getElem?_zipIdx, h]; simp⟩) hk⟩
def eqB (x y : D) : Option D := match sc2 x y with
 | some b => some (.bl b)
 | none => eqA x y
def neB (x y : D) : Option D := match sc2 x y with
 | some b => some (.bl (!b))
 | none => neA x y
theorem vW {X : Cx} {k : Nat} (hr : yH k X.A) : OpR X (compareOp .Eq) (fun x y H Q => rEq x y H Q \/ qfG X.K false x y H Q) := OpR.or qjF (qkc hr)
theorem wW {X : Cx} {k : Nat} (hr : yH k X.A) : OpR X (compareOp .NotEq) (fun x y H Q => rNe x y H Q \/ qfG X.K true x y H Q) := OpR.or qlM (qkd hr)
theorem yA {K : Fr0} : OpS K eqB (fun x y H Q => rEq x y H Q \/ qfG K false x y H Q) := by
 intro A H x y d v u Q hn ix iy e k
 unfold eqB at e
 cases e1 : sc2 x y with
 | some b => simp only [e1] at e; exact .inl (qhK A H x y d v u Q hn ix iy (by unfold eqS; rw [e1]; exact e) k)
 | none => simp only [e1] at e; exact .inr (qhZ A H x y d v u Q hn ix iy e k)
theorem uW {K : Fr0} : OpS K neB (fun x y H Q => rNe x y H Q \/ qfG K true x y H Q) := by
 intro A H x y d v u Q hn ix iy e k
 unfold neB at e
 cases e1 : sc2 x y with
 | some b => simp only [e1] at e; exact .inl (qhL A H x y d v u Q hn ix iy (by unfold neS; rw [e1]; exact e) k)
 | none => simp only [e1] at e; exact .inr (qh0 A H x y d v u Q hn ix iy e k)
end L2.Sk
namespace L2.Sk
section
variable {α β : Type} {ρ : Env} {f g k : M D} {t u : M Bool} {l m : M (List D)} {p q r : MS}
theorem qh9 (a : α) : ret a ρ = .ok (a, ρ) := rfl
theorem qeJ (o : Option α) : lift o ρ = match o with | some a => .ok (a, ρ) | none => .bad := by cases o <;> rfl
theorem qlY {f : M α} {k : α -> M β} : bnd f k ρ = match f ρ with | .ok (a, ρ') => k a ρ' | .exc x ρ' => .exc x ρ' | .bad => .bad := rfl
theorem qmG (i : Nat) : dv i ρ = match ρ[i]? with | some (some d) => .ok (d, ρ) | _ => .bad := rfl
theorem jS : qa f l ρ = match f ρ with | .ok (d, ρ1) => (match l ρ1 with | .ok (ds, ρ2) => .ok (d :: ds, ρ2) | .exc x ρ' => .exc x ρ' | .bad => .bad) | .exc x ρ' => .exc x ρ' | .bad => .bad := by
 simp only [qa, bnd, sbnd]
 cases f ρ with
 | ok z =>
  obtain ⟨z1, ρ1⟩ := z
  simp only [ret]
  cases l ρ1 with
  | ok z => obtain ⟨z2, ρ2⟩ := z; rfl
  | exc x ρ' => rfl
  | bad => rfl
 | exc x ρ' => rfl
 | bad => rfl
theorem qcW : yz l ρ = match l ρ with | .ok (ds, ρ1) => (if qH ds.length then .ok (.tup ds, ρ1) else .bad) | .exc x ρ' => .exc x ρ' | .bad => .bad := by
 simp only [yz, bnd, sbnd]
 cases l ρ with
 | ok z =>
  obtain ⟨z1, ρ1⟩ := z
  cases h : qH z1.length <;> simp [h, lift, ret]
 | exc x ρ' => rfl
 | bad => rfl
theorem qkt : z0 l ρ = match l ρ with | .ok (ds, ρ1) => (if qH ds.length then .ok (.lst ds, ρ1) else .bad) | .exc x ρ' => .exc x ρ' | .bad => .bad := by
 simp only [z0, bnd, sbnd]
 cases l ρ with
 | ok z =>
  obtain ⟨z1, ρ1⟩ := z
  cases h : qH z1.length <;> simp [h, lift, ret]
 | exc x ρ' => rfl
 | bad => rfl
theorem qku : qi9 l ρ = match l ρ with | .ok (ds, ρ1) => (if immL ds && qH ds.length then .ok (ds, ρ1) else .bad) | .exc x ρ' => .exc x ρ' | .bad => .bad := by
 simp only [qi9, bnd, sbnd]
 cases l ρ with
 | ok z =>
  obtain ⟨z1, ρ1⟩ := z
  cases h : (immL z1 && qH z1.length) <;> simp [h, lift, ret]
 | exc x ρ' => rfl
 | bad => rfl
theorem qkv (F : D -> D -> Option D) : d2 F f g ρ = match f ρ with | .ok (x, ρ1) => (match g ρ1 with | .ok (y, ρ2) => (match F x y with | some d => .ok (d, ρ2) | none => .bad) | .exc x ρ' => .exc x ρ' | .bad => .bad) | .exc x ρ' => .exc x ρ' | .bad => .bad := by
 simp only [d2, bnd, sbnd]
 cases f ρ with
 | ok z =>
  obtain ⟨z1, ρ1⟩ := z
  dsimp only <;>
  cases g ρ1 with
  | ok z => obtain ⟨z2, ρ2⟩ := z; (dsimp only; cases F z1 z2 <;> rfl)
  | exc x ρ' => rfl
  | bad => rfl
 | exc x ρ' => rfl
 | bad => rfl
theorem qmH (F : D -> Option D) : d1 F f ρ = match f ρ with | .ok (x, ρ1) => (match F x with | some d => .ok (d, ρ1) | none => .bad) | .exc x ρ' => .exc x ρ' | .bad => .bad := by
 simp only [d1, bnd, sbnd]
 cases f ρ with
 | ok z =>
  obtain ⟨z1, ρ1⟩ := z
  (dsimp only; cases F z1 <;> rfl)
 | exc x ρ' => rfl
 | bad => rfl
theorem qcs (F : List D -> Option D) : jH F l ρ = match l ρ with | .ok (xs, ρ1) => (match F xs with | some d => .ok (d, ρ1) | none => .bad) | .exc x ρ' => .exc x ρ' | .bad => .bad := by
 simp only [jH, bnd, sbnd]
 cases l ρ with
 | ok z =>
  obtain ⟨z1, ρ1⟩ := z
  (dsimp only; cases F z1 <;> rfl)
 | exc x ρ' => rfl
 | bad => rfl
theorem vh (F : List D -> R D) : qk F l ρ = match l ρ with | .ok (xs, ρ1) => (match F xs with | .ok d => .ok (d, ρ1) | _ => .bad) | .exc x ρ' => .exc x ρ' | .bad => .bad := by
 simp only [qk, bnd, sbnd]
 cases l ρ with
 | ok z =>
  obtain ⟨z1, ρ1⟩ := z
  cases F z1 <;> rfl
 | exc x ρ' => rfl
 | bad => rfl
theorem qkw (T : String) : qhR T f ρ = match f ρ with | .ok (d, ρ1) => .ok (.bl (qcm (tyD d) T), ρ1) | .exc x ρ' => .exc x ρ' | .bad => .bad := by
 simp only [qhR, bnd, sbnd]
 cases f ρ with
 | ok z =>
  obtain ⟨z1, ρ1⟩ := z
  rfl
 | exc x ρ' => rfl
 | bad => rfl
theorem qia : tst f ρ = match f ρ with | .ok (d, ρ1) => (match asB d with | some b => .ok (b, ρ1) | none => .bad) | .exc x ρ' => .exc x ρ' | .bad => .bad := by
 simp only [tst, bnd, sbnd]
 cases f ρ with
 | ok z =>
  obtain ⟨z1, ρ1⟩ := z
  (dsimp only; cases asB z1 <;> rfl)
 | exc x ρ' => rfl
 | bad => rfl
theorem vX (b : Bool) : asB (.bl b) = some b := rfl
theorem qbL : qbA t ρ = match t ρ with | .ok (b, ρ1) => .ok (!b, ρ1) | .exc x ρ' => .exc x ρ' | .bad => .bad := by
 simp only [qbA, bnd, sbnd]
 cases t ρ with
 | ok z =>
  obtain ⟨z1, ρ1⟩ := z
  rfl
 | exc x ρ' => rfl
 | bad => rfl
theorem qkx : qmC t u ρ = match t ρ with | .ok (b, ρ1) => (bif b then u ρ1 else .ok (false, ρ1)) | .exc x ρ' => .exc x ρ' | .bad => .bad := by
 simp only [qmC, bnd, sbnd]
 cases t ρ with
 | ok z =>
  obtain ⟨z1, ρ1⟩ := z
  cases z1 <;> rfl
 | exc x ρ' => rfl
 | bad => rfl
theorem qeK : tor t u ρ = match t ρ with | .ok (b, ρ1) => (bif b then .ok (true, ρ1) else u ρ1) | .exc x ρ' => .exc x ρ' | .bad => .bad := by
 simp only [tor, bnd, sbnd]
 cases t ρ with
 | ok z =>
  obtain ⟨z1, ρ1⟩ := z
  cases z1 <;> rfl
 | exc x ρ' => rfl
 | bad => rfl
theorem qeL : qd2 f g ρ = match f ρ with | .ok (d, ρ1) => (match asB d with | some b => (bif b then g ρ1 else .ok (.bl false, ρ1)) | none => .bad) | .exc x ρ' => .exc x ρ' | .bad => .bad := by
 simp only [qd2, bnd, sbnd]
 cases f ρ with
 | ok z =>
  obtain ⟨z1, ρ1⟩ := z
  simp only [qeJ]
  cases asB z1 with
  | none => rfl
  | some b => cases b <;> rfl
 | exc x ρ' => rfl
 | bad => rfl
theorem qky : dor f g ρ = match f ρ with | .ok (d, ρ1) => (match asB d with | some b => (bif b then .ok (.bl true, ρ1) else g ρ1) | none => .bad) | .exc x ρ' => .exc x ρ' | .bad => .bad := by
 simp only [dor, bnd, sbnd]
 cases f ρ with
 | ok z =>
  obtain ⟨z1, ρ1⟩ := z
  simp only [qeJ]
  cases asB z1 with
  | none => rfl
  | some b => cases b <;> rfl
 | exc x ρ' => rfl
 | bad => rfl
theorem qkz : qjW f ρ = match f ρ with | .ok (d, ρ1) => (match asB d with | some b => .ok (.bl (!b), ρ1) | none => .bad) | .exc x ρ' => .exc x ρ' | .bad => .bad := by
 simp only [qjW, bnd, sbnd]
 cases f ρ with
 | ok z =>
  obtain ⟨z1, ρ1⟩ := z
  simp only [qeJ]
  cases asB z1 with
  | none => rfl
  | some b => cases b <;> rfl
 | exc x ρ' => rfl
 | bad => rfl
theorem qib : dif t f g ρ = match t ρ with | .ok (b, ρ1) => (bif b then f ρ1 else g ρ1) | .exc x ρ' => .exc x ρ' | .bad => .bad := by
 simp only [dif, bnd, sbnd]
 cases t ρ with
 | ok z =>
  obtain ⟨z1, ρ1⟩ := z
  cases z1 <;> rfl
 | exc x ρ' => rfl
 | bad => rfl
theorem qge : sif t p q ρ = match t ρ with | .ok (b, ρ1) => (bif b then p ρ1 else q ρ1) | .exc x ρ' => .exc x ρ' | .bad => .bad := by
 simp only [sif, bnd, sbnd]
 cases t ρ with
 | ok z =>
  obtain ⟨z1, ρ1⟩ := z
  cases z1 <;> rfl
 | exc x ρ' => rfl
 | bad => rfl
theorem qg0 : qQ p q ρ = match p ρ with | .ok (.nx ρ') => q ρ' | z => z := by
 unfold qQ
 cases p ρ with
 | ok z => cases z <;> rfl
 | exc x ρ' => rfl
 | bad => rfl
theorem wX : z4 f ρ = match f ρ with | .ok (d, ρ1) => .ok (.rt d ρ1) | .exc x ρ' => .exc x ρ' | .bad => .bad := by
 simp only [z4, bnd, sbnd]
 cases f ρ with
 | ok z =>
  obtain ⟨z1, ρ1⟩ := z
  rfl
 | exc x ρ' => rfl
 | bad => rfl
theorem qbM (i : Nat) : ji i f ρ = match f ρ with | .ok (d, ρ1) => .ok (.nx (ρ1.set i (some d))) | .exc x ρ' => .exc x ρ' | .bad => .bad := by
 simp only [ji, bnd, sbnd]
 cases f ρ with
 | ok z =>
  obtain ⟨z1, ρ1⟩ := z
  rfl
 | exc x ρ' => rfl
 | bad => rfl
theorem qeM (i : Nat) : v7 i l ρ = match l ρ with | .ok (ds, ρ1) => .ok (.nx (ρ1.set i (some (.lst ds)))) | .exc x ρ' => .exc x ρ' | .bad => .bad := by
 simp only [v7, bnd, sbnd]
 cases l ρ with
 | ok z =>
  obtain ⟨z1, ρ1⟩ := z
  rfl
 | exc x ρ' => rfl
 | bad => rfl
theorem qaX : yr f ρ = match f ρ with | .ok (_, ρ1) => .ok (.nx ρ1) | .exc x ρ' => .exc x ρ' | .bad => .bad := by
 simp only [yr, bnd, sbnd]
 cases f ρ with
 | ok z =>
  obtain ⟨z1, ρ1⟩ := z
  rfl
 | exc x ρ' => rfl
 | bad => rfl
theorem qkA : uK ρ = .ok (.nx ρ) := rfl
theorem qkB (i j : Nat) : qja i j l ρ = match l ρ with | .ok ([d, e], ρ1) => .ok (.nx ((ρ1.set i (some d)).set j (some e))) | .ok _ => .bad | .exc x ρ' => .exc x ρ' | .bad => .bad := by
 simp only [qja, bnd, sbnd]
 cases l ρ with
 | ok z =>
  obtain ⟨z1, ρ1⟩ := z
  match z1 with
  | [] => rfl
  | [_] => rfl
  | [_, _] => rfl
  | _ :: _ :: _ :: _ => rfl
 | exc x ρ' => rfl
 | bad => rfl
theorem qkC (G : D -> Env -> Option Env) : qlq f G ρ = match f ρ with | .ok (d, ρ1) => (match G d ρ1 with | some ρ2 => .ok (.nx ρ2) | none => .bad) | .exc x ρ' => .exc x ρ' | .bad => .bad := by
 simp only [qlq, bnd, sbnd]
 cases f ρ with
 | ok z =>
  obtain ⟨z1, ρ1⟩ := z
  dsimp only <;>
  cases G z1 ρ1 <;> rfl
 | exc x ρ' => rfl
 | bad => rfl
theorem vY (G : D -> Env -> Option Env) (b : MS) : qcn l G b ρ = match l ρ with | .ok (ds, ρ1) => yL G b ds ρ1 | .exc x ρ' => .exc x ρ' | .bad => .bad := by
 simp only [qcn, bnd, sbnd]
 cases l ρ with
 | ok z =>
  obtain ⟨z1, ρ1⟩ := z
  rfl
 | exc x ρ' => rfl
 | bad => rfl
theorem qg1 : qaT f ρ = match f ρ with | .ok (d, ρ1) => (match qls d with | some ds => .ok (ds, ρ1) | none => .bad) | .exc x ρ' => .exc x ρ' | .bad => .bad := by
 simp only [qaT, bnd, sbnd]
 cases f ρ with
 | ok z =>
  obtain ⟨z1, ρ1⟩ := z
  (dsimp only; cases qls z1 <;> rfl)
 | exc x ρ' => rfl
 | bad => rfl
theorem qic : yK l ρ = match l ρ with | .ok (d, ρ1) => (match qf8 d with | some ds => .ok (ds, ρ1) | none => .bad) | .exc x ρ' => .exc x ρ' | .bad => .bad := by
 simp only [yK, bnd, sbnd]
 cases l ρ with
 | ok z =>
  obtain ⟨z1, ρ1⟩ := z
  (dsimp only; cases qf8 z1 <;> rfl)
 | exc x ρ' => rfl
 | bad => rfl
theorem qg2 : qkh l ρ = match l ρ with | .ok (d, ρ1) => (match qlt d with | some ds => .ok (ds, ρ1) | none => .bad) | .exc x ρ' => .exc x ρ' | .bad => .bad := by
 simp only [qkh, bnd, sbnd]
 cases l ρ with
 | ok z =>
  obtain ⟨z1, ρ1⟩ := z
  (dsimp only; cases qlt z1 <;> rfl)
 | exc x ρ' => rfl
 | bad => rfl
theorem qct {nt : Nat} {fr : List Nat} {fo : Option (Nat × Nat)} {G : D -> Env -> Option Env} {e : M D} : jL nt fr fo l G t e ρ = match l ρ with
  | .ok (ds, ρ1) => (match zg G t e ds [] (jK nt fr ρ1) with | .ok (ys, ρe) => .ok (.lst ys, qhU fo ρe ρ1) | _ => .bad) | .exc x ρ' => .exc x ρ' | .bad => .bad := by
 simp only [jL, bnd, sbnd]
 cases l ρ with
 | ok z =>
  obtain ⟨z1, ρ1⟩ := z
  dsimp only <;>
  cases zg G t e z1 [] (jK nt fr ρ1) with
  | ok z => obtain ⟨z2, ρ2⟩ := z; rfl
  | exc x ρ' => rfl
  | bad => rfl
 | exc x ρ' => rfl
 | bad => rfl
theorem qbN (F : List D -> List D -> R (D × List D)) (i : Nat) : qC F i l ρ = match zA i ρ with
  | none => .bad
  | some _ => (match l ρ with
   | .ok (ds, ρ1) => (match zA i ρ1 with
    | none => .bad
    | some bs => (match F bs ds with | .ok (d, bs') => .ok (d, ρ1.set i (some (.lst bs'))) | _ => .bad))
   | .exc x ρ' => .exc x ρ' | .bad => .bad) := by
 simp only [qC, bnd]
 cases zA i ρ with
 | none => rfl
 | some _ =>
  dsimp only <;>
  cases l ρ with
  | ok z =>
   obtain ⟨z1, ρ1⟩ := z
   dsimp only <;>
   cases zA i ρ1 with
   | none => rfl
   | some bs =>
    dsimp only <;>
    cases F bs z1 with
    | ok z => obtain ⟨z2, z3⟩ := z; rfl
    | exc x ρ' => rfl
    | bad => rfl
  | exc x ρ' => rfl
  | bad => rfl
theorem qid (F : List D -> R D) : qbK F l ρ = match l ρ with
  | .ok (ds, ρ1) => (if immFs ds then (match F ds with | .ok (.lst bs) => (if immL bs then .ok (bs, ρ1) else .bad) | _ => .bad) else .bad) | .exc x ρ' => .exc x ρ' | .bad => .bad := by
 simp only [qbK, bnd, sbnd]
 cases l ρ with
 | ok z =>
  obtain ⟨z1, ρ1⟩ := z
  dsimp only <;>
  cases immFs z1 with
  | false => rfl
  | true =>
   simp only [if_true]
   cases F z1 with
   | ok z => cases z <;> rfl
   | exc x ρ' => rfl
   | bad => rfl
 | exc x ρ' => rfl
 | bad => rfl
theorem qkD (i : Nat) : qj9 i f ρ = match zA i ρ with
  | none => .bad
  | some _ => (match f ρ with
   | .ok (k, ρ1) => (match k, zA i ρ1 with
    | .int n, some ds => (match atI ds n with | some d => .ok (d, ρ1) | none => .bad)
    | _, _ => .bad)
   | .exc x ρ' => .exc x ρ' | .bad => .bad) := by
 simp only [qj9, bnd]
 cases zA i ρ with
 | none => rfl
 | some _ =>
  dsimp only <;>
  cases f ρ with
  | ok z =>
   obtain ⟨z1, ρ1⟩ := z
   dsimp only <;>
   cases z1 <;> cases zA i ρ1 <;> try rfl
  | exc x ρ' => rfl
  | bad => rfl
theorem qeN (i : Nat) : qco i k f ρ = match f ρ with
  | .ok (d, ρ1) => (match zA i ρ1 with
   | none => .bad
   | some _ => (match k ρ1 with
    | .ok (j, ρ2) => (match j, zA i ρ2 with
     | .int n, some ds => (match ixN ds.length n with
      | some q => if imm d then .ok (.nx (ρ2.set i (some (.lst (ds.set q d))))) else .bad
      | none => .bad)
     | _, _ => .bad)
    | .exc x ρ' => .exc x ρ' | .bad => .bad))
  | .exc x ρ' => .exc x ρ' | .bad => .bad := by
 simp only [qco, bnd, sbnd]
 cases f ρ with
 | ok z =>
  obtain ⟨z1, ρ1⟩ := z
  dsimp only <;>
  cases zA i ρ1 with
  | none => rfl
  | some _ =>
   dsimp only <;>
   cases k ρ1 with
   | ok z =>
    obtain ⟨z2, ρ2⟩ := z
    dsimp only <;>
    cases z2 <;> cases zA i ρ2 <;> try rfl
   | exc x ρ' => rfl
   | bad => rfl
 | exc x ρ' => rfl
 | bad => rfl
theorem qie (i : Nat) : qj8 i ρ = match zA i ρ with | some ds => .ok (.int ds.length, ρ) | none => .bad := by
 unfold qj8
 cases zA i ρ <;> rfl
theorem qeO (i : Nat) : qcp i ρ = match zA i ρ with | some ds => .ok (.tup ds, ρ) | none => .bad := by
 unfold qcp
 cases zA i ρ <;> rfl
theorem qkE (i : Nat) : qmF i f ρ = match zA i ρ with
  | none => .bad
  | some _ => (match f ρ with
   | .ok (y, ρ1) => (match zA i ρ1 with
    | none => .bad
    | some ds => (match neA (.lst ds) y with | some d => .ok (d, ρ1) | none => .bad))
   | .exc x ρ' => .exc x ρ' | .bad => .bad) := by
 simp only [qmF, bnd]
 cases zA i ρ with
 | none => rfl
 | some _ =>
  dsimp only <;>
  cases f ρ with
  | ok z =>
   obtain ⟨z1, ρ1⟩ := z
   dsimp only <;>
   cases zA i ρ1 with
   | none => rfl
   | some ds => (dsimp only; cases neA (.lst ds) z1 <;> rfl)
  | exc x ρ' => rfl
  | bad => rfl
theorem qeP (i : Nat) : yT i f ρ = match zA i ρ with
  | none => .bad
  | some _ => (match f ρ with
   | .ok (d, ρ1) => (match zA i ρ1 with
    | some ds => if imm d && qH (ds.length + 1) then .ok (.non, ρ1.set i (some (.lst (ds ++ [d])))) else .bad
    | none => .bad)
   | .exc x ρ' => .exc x ρ' | .bad => .bad) := by
 simp only [yT, bnd]
 cases zA i ρ with
 | none => rfl
 | some _ =>
  dsimp only <;>
  cases f ρ with
  | ok z =>
   obtain ⟨z1, ρ1⟩ := z
   dsimp only <;>
   cases zA i ρ1 <;> rfl
  | exc x ρ' => rfl
  | bad => rfl
theorem qlZ {g k : M (Option Int)} : dsl f g k ρ = match f ρ with
  | .ok (d, ρ1) => (match g ρ1 with
   | .ok (lo, ρ2) => (match k ρ2 with
    | .ok (hi, ρ3) => (match slD d lo hi with | some x => .ok (x, ρ3) | none => .bad)
    | .exc x ρ' => .exc x ρ' | .bad => .bad)
   | .exc x ρ' => .exc x ρ' | .bad => .bad)
  | .exc x ρ' => .exc x ρ' | .bad => .bad := by
 simp only [dsl, bnd, sbnd]
 cases f ρ with
 | ok z =>
  obtain ⟨z1, ρ1⟩ := z
  dsimp only <;>
  cases g ρ1 with
  | ok z =>
   obtain ⟨z2, ρ2⟩ := z
   dsimp only <;>
   cases k ρ2 with
   | ok z => obtain ⟨z3, ρ3⟩ := z; (dsimp only; cases slD z1 z2 z3 <;> rfl)
   | exc x ρ' => rfl
   | bad => rfl
  | exc x ρ' => rfl
  | bad => rfl
 | exc x ρ' => rfl
 | bad => rfl
theorem qif : qbH f ρ = match f ρ with | .ok (.int i, ρ1) => .ok (some i, ρ1) | .ok _ => .bad | .exc x ρ' => .exc x ρ' | .bad => .bad := by
 simp only [qbH, bnd, sbnd]
 cases f ρ with
 | ok z =>
  obtain ⟨z1, ρ1⟩ := z
  cases z1 <;> rfl
 | exc x ρ' => rfl
 | bad => rfl
end
theorem uX {n : Nat} (h : n <= 1000000) : qH n = true := by
 unfold qH
 exact decide_eq_true (Nat.le_trans h (by rw [PySem.sizeLine_eq]; decide))
theorem qig {n p : Nat} {body : MS} {ds : List D} {d : D} {ρ : Env} (h : ds.length = p) (e : body (jk n ds) = .ok (.rt d ρ)) : dfn n p body ds = .ok d := by
 unfold dfn; rw [if_pos h, e]
theorem qeQ {n p : Nat} {body : MS} {bs ds bs' : List D} {d : D} {ρ : Env} (h : ds.length + 1 = p) (e : body (jk n (.lst bs :: ds)) = .ok (.rt d ρ)) (g : zA 0 ρ = some bs') : wU n p body bs ds = .ok (d, bs') := by
 unfold wU; rw [if_pos h, e]; simp only [g]
end L2.Sk
namespace L2.Sk
open PySem PySem.Spec PyProof.Rows
section
variable {prog : Program} {w : World} {A : Around} {E : Value -> Shared -> Prop} {s : Shared}
theorem qeR {l : Addr} {xs : Array Value} {Q : Value -> Shared -> Prop} (t1 : s.heap.IsTuple l xs)
  (fin : ∀ h', IsEnum h' (s.heap.objs.size + 1) s.heap.objs.size 0 .none -> h'.IsTupleIter s.heap.objs.size l 0 -> (∀ c o, s.heap.get? c = some o -> h'.get? c = some o) -> Q (.ref (s.heap.objs.size + 1)) { s with heap := h' }) :
  wpAny (model prog w) A (call (.type "enumerate") [.ref l]) Q E s := by
 have meets : Meets (Builtin.«enumerate.__new__» ⟨[.type "enumerate", .ref l], []⟩) (fun _ R s => s.heap.IsTuple l xs /\
   R (.ok (.ret (.ref (s.heap.objs.size + 1)))) { s with heap := (s.heap.push { cls := .type "tuple_iterator", data := .fields #[.ref l, .int 0 0] }).push { cls := .type "enumerate", data := .fields #[.none, .bool false, .ref s.heap.objs.size, rawInt 0, .none, .none] } }) :=
  .of_wp fun prog w A R s h => by
   obtain ⟨hp, g, d, tk, os⟩ := s
   obtain ⟨ha, h⟩ := h
   have hsub := sub_enumerate
   have hA : Heap.IsTuple (Shared.heap ⟨hp, g, d, tk, os⟩) l xs := ha
   obtain ⟨o, ho, _⟩ := id ha
   have ho' : hp.get? l = some o := ho
   wp_walk using AutoSeq1.wpAny_loadPart' ho'
   refine wpAny_stack_any fun st => wpAny_pure ?_
   split
   ·rename_i c _ _ _ _ _
    cases (c == Value.type "enumerate")
    ·wp_walk using AutoSeq1.wpAny_loadPart' ho', wpAny_pyIter_tuple hA
     simp only [Heap.size_push] at *
     exact ⟨_, rfl, h⟩
    ·wp_walk using AutoSeq1.wpAny_loadPart' ho', wpAny_pyIter_tuple hA
     simp only [Heap.size_push] at *
     exact ⟨_, rfl, h⟩
   ·wp_walk using AutoSeq1.wpAny_loadPart' ho', wpAny_pyIter_tuple hA
    simp only [Heap.size_push] at *
    exact ⟨_, rfl, h⟩
 refine callType_new F.called_enumerate (by decide) (F.typeCall_enumerate_1 _) (F.newCall_enumerate_1 _) (fun obj => F.args_object_init_2 obj _) F.entry_enumerate_new meets ⟨t1, ?_⟩
 generalize e1 : s.heap.push { cls := .type "tuple_iterator", data := .fields #[.ref l, .int 0 0] } = m1
 have s1 : m1.objs.size = s.heap.objs.size + 1 := by rw [<- e1, Heap.size_push]
 have q1 : m1.get? s.heap.objs.size = some { cls := .type "tuple_iterator", data := .fields #[.ref l, .int 0 0] } := by rw [<- e1]; exact Heap.get?_push_size _ rfl
 have k1 : ∀ c o, s.heap.get? c = some o -> m1.get? c = some o := fun c o x => by rw [<- e1]; exact Heap.get?_push_of_some _ x
 generalize e2 : m1.push { cls := .type "enumerate", data := .fields #[.none, .bool false, .ref s.heap.objs.size, rawInt 0, .none, .none] } = m2
 have q2 : m2.get? (s.heap.objs.size + 1) = some { cls := .type "enumerate", data := .fields #[.none, .bool false, .ref s.heap.objs.size, rawInt 0, .none, .none] } := by rw [<- e2, <- s1]; exact Heap.get?_push_size _ rfl
 have k2 : ∀ c o, m1.get? c = some o -> m2.get? c = some o := fun c o x => by rw [<- e2]; exact Heap.get?_push_of_some _ x
 show _ /\ _
 exact ⟨⟨_, q2, rfl⟩, fin m2 q2 ⟨_, k2 _ _ q1, rfl, rfl⟩ fun c o x => k2 _ _ (k1 _ _ x)⟩
end
def Ite (K : Fr0) (a : Addr) (xs : List V) : It :=
 ⟨fun i H => i < xs.length /\ SqT K H a xs, fun i H x H' => ∃ p u, H p = none /\ xs[i]? = some u /\ x = .ref p /\ H' = upd H p (.tup [.int i, u]), fun i H => i = xs.length /\ SqT K H a xs⟩
def ESt (z i1 a1 : Addr) (i : Nat) (h : Heap) : Prop := (∃ old, IsEnum h z i1 i old) /\ h.IsTupleIter i1 a1 i
theorem qeS {P : Program} {w : World} {K : Fr0} {es : List Expr} {kk : Nat} {pos : Pos} {z i1 a1 : Addr} {xs : List V} (zi : z ≠ i1) (za : z ≠ a1) (n1 : a1 ≠ i1) :
  qi3 P w K (.Tuple es kk pos) (Ite K a1 xs) [z, i1] z (ESt z i1 a1) where
 mem := by simp
 obj := fun i h st b hb => by
  obtain ⟨⟨old, h1⟩, ⟨o4, h4, c4, d4⟩⟩ := st
  simp only [List.mem_cons, nN_, or_false] at hb
  rcases hb with rfl | rfl
  ·exact ⟨_, h1, fun v e => by cases (show Data.fields _ = Data.cell v from e)⟩
  ·exact ⟨_, h4, fun v e => by rw [d4] at e; cases e⟩
 keep := fun i h h' st k => by
  obtain ⟨⟨old, h1⟩, h4⟩ := st
  exact ⟨⟨old, k z (by simp) _ h1⟩, h4.at fun o e => k i1 (by simp) o e⟩
 item := by
  intro X hP hw hK hc i pins s σ H E I hf st hg
  subst hP hw hK
  obtain ⟨hlt, hx⟩ := hg
  obtain ⟨⟨old, h1⟩, h4⟩ := st
  obtain ⟨it1, r1, p1, z1⟩ := I.tuple hx
  have l1 : i < it1.toArray.size := by rw [sT_, <- r1.length]; omega
  have hh : X.A.in1.handled = none := I.ok.hd hc
  refine wpAny_pyNext_enum_itemD (ux hh i1 a1 n1 it1.toArray) h1 ⟨h4, p1⟩ l1 zi (by simp [zi, za]) fun x h' tk px ho u1 new hsz kp => ?_
  refine ⟨.ref s.heap.objs.size, rfl, wpAny_letOwnedTupleGo_enum ho fun h2' zz2 sb => ?_⟩
  obtain ⟨xv, hxv⟩ : ∃ v, xs[i]? = some v := ⟨xs[i]'(by omega), gG (by omega)⟩
  obtain ⟨x', ex, rx⟩ := r1.get hxv
  have exx : x' = x := by
   have : it1.toArray[i]? = some x := px
   rw [List.getElem?_toArray, ex] at this
   exact Option.some.inj this
  subst exx
  have lz : z < s.heap.objs.size := Heap.lt_size h1
  have keep : ∀ b u, b ∉ [z, i1] -> s.heap.get? b = some u -> h2'.get? b = some u := fun b u hb e => by
   simp only [List.mem_cons, nN_, or_false, not_or] at hb
   exact (sb.2 b hb.1).trans (kp b u hb.1 hb.2 e)
  have I2 : Inv X pins σ (upd H s.heap.objs.size (.tup [.int i, xv])) { s with heap := h2', toks := tk + 1 } :=
   qeG I keep hf (Nat.le_refl _) ⟨by show 2 <= sizeLine; decide, [.int i tk, x'], .cons ⟨tk, rfl⟩ (.cons rx .nil), ⟨_, (sb.2 _ (Nat.ne_of_gt lz)).trans new, rfl, _, rfl⟩⟩
  refine ⟨.ref s.heap.objs.size, upd H s.heap.objs.size (.tup [.int i, xv]), I2, rfl, ⟨s.heap.objs.size, xv, I.hok.fresh (Nat.le_refl _), hxv, rfl, rfl⟩, ?_, fun b hb => ?_⟩
  ·exact ⟨⟨_, by simpa using zz2⟩, u1.1.at fun o e => (sb.2 i1 zi.symm).trans e⟩
  ·have hb1 : b ≠ s.heap.objs.size := by
    simp only [List.mem_cons, nN_, or_false] at hb
    obtain ⟨o4, g4, _⟩ := h4
    rcases hb with rfl | rfl
    ·exact Nat.ne_of_lt (Heap.lt_size h1)
    ·exact Nat.ne_of_lt (Heap.lt_size g4)
   rw [qm hb1]
   exact (hf b hb).1
 done := by
  intro X hP hw hK hc i pins s σ H E I hf st hg
  subst hP hw hK
  obtain ⟨hlt, hx⟩ := hg
  obtain ⟨⟨old, h1⟩, h4⟩ := st
  obtain ⟨it1, r1, p1, z1⟩ := I.tuple hx
  have hh : X.A.in1.handled = none := I.ok.hd hc
  have e : i = it1.toArray.size := by rw [sT_, <- r1.length]; exact hlt
  subst e
  refine wpAny_pyNext_enum_endD (ux hh i1 a1 n1 it1.toArray) h1 ⟨h4, p1⟩ fun h' kp => ⟨rfl, qeH (t' := s.toks) I (fun b u hb e => ?_) hf⟩
  simp only [List.mem_cons, nN_, or_false, not_or] at hb
  exact kp b u hb.2 e
 self := fun A i s Q E st h => by
  obtain ⟨⟨old, h1⟩, _⟩ := st
  exact wpAny_pyIter_enum h1 h
section
variable {X : Cx} {c : Fc} {a b e : Expr} {pos : Pos} {es : List Expr} {kk : Nat} {tp : Pos}
def ql0 (K : Fr0) (ta : TA) : TI := fun σ H R => ta σ H fun vs H1 => ∃ a1 xs, vs = [.ref a1] /\ SqT K H1 a1 xs /\ R (Ite K a1 xs) H1
theorem qih {ta : TA} {p : Pos} (hg : Gl X "enumerate") (hm : X.mg "enumerate" = none) (ha : PA X [a] ta) (hs : starEach [a] X.env = [(false, eval a X.env)] := by rfl) :
  PI X (.Tuple es kk tp) (.Call (.Name "enumerate" p) [a] [] pos) (ql0 X.K ta) := by
 intro pins s σ H R I h
 refine Call_ (vR I hg hm PyProof.Rows.boot_enumerate (PyProof.Rows.callWith_type1 (thn (ha pos pins s σ H _ I h) fun us s1 ⟨vs, H1, I1, r1, q1⟩ => ?_) (by rw [hs]; rfl) (by rfl)))
 obtain ⟨a1, xs, e1, hx, q⟩ := q1
 subst e1
 obtain ⟨u1, rfl, ru1⟩ := qT.one r1
 cases (show u1 = Value.ref a1 from ru1)
 obtain ⟨it1, v1, p1, z1⟩ := I1.tuple hx
 refine qeR (show s1.heap.IsTuple a1 it1.toArray from p1) fun h' zz g1 kp => ?_
 refine wpAny_pyIter_enum zz ?_
 have la1 : a1 < s1.heap.objs.size := by obtain ⟨o, e, _⟩ := p1; exact Heap.lt_size e
 refine ⟨s1.heap.objs.size + 1, [s1.heap.objs.size + 1, s1.heap.objs.size], _, _, H1, rfl, I1.kept (t' := s1.toks) kp, qeS (xs := xs) (Nat.succ_ne_self _) (Nat.ne_of_gt (Nat.lt_succ_of_lt la1)) (Nat.ne_of_lt la1), ⟨⟨_, zz⟩, g1⟩, fun b hb => ?_, q⟩
 simp only [List.mem_cons, nN_, or_false] at hb
 have hb2 : s1.heap.objs.size <= b := by
  rcases hb with e | e <;> rw [e]
  ·exact Nat.le_add_right _ _
  ·exact Nat.le_refl _
 exact I1.fpOk hb2 (I1.hok.fresh hb2)
def uY (k : Nat) : List D -> List D
 | [] => []
 | x :: xs => .tup [.int (k : Nat), x] :: uY (k + 1) xs
theorem wY : ∀ (k : Nat) (xs : List D), (uY k xs).length = xs.length
 | _, [] => rfl
 | k, x :: xs => by simp [uY, wY (k + 1) xs]
theorem qbO : ∀ {xs : List D} {k i : Nat} {d : D}, (uY k xs)[i]? = some d -> ∃ x, xs[i]? = some x /\ d = .tup [.int ((k + i : Nat) : Int), x]
 | [], _, _, _, h => by simp [uY] at h
 | x :: xs, k, 0, d, h => by
  have : D.tup [.int (k : Nat), x] = d := by simpa [uY] using h
  exact ⟨x, rfl, this.symm⟩
 | x :: xs, k, i + 1, d, h => by
  obtain ⟨y, h1, h2⟩ := qbO (xs := xs) (k := k + 1) (i := i) (d := d) (by simpa [uY] using h)
  exact ⟨y, by simpa using h1, by rw [h2]; congr 4; omega⟩
theorem qii {K : Fr0} {A : Addr -> Prop} {H : Hp} {ds : List D} {xs : List V} {a1 : Addr} (t1 : uF K H a1 xs) (i1 : IsL K A H ds xs) : qf7 K A H (uY 0 ds) (Ite K a1 xs) where
 go := fun H' i d ex hd => by
  have hl : i < (uY 0 ds).length := (gI_.mp hd).1
  rw [wY, <- i1.length] at hl
  exact ⟨hl, (t1.elim (fun h => .inl (ex.tup _ _ h)) .inr : uF K H' a1 xs).sq⟩
 yl := fun H' i d x H'' ex hd y => by
  obtain ⟨p, u, hp, hu, rfl, rfl⟩ := y
  obtain ⟨dx, h1, rfl⟩ := qbO hd
  obtain ⟨u', g1, g2⟩ := i1.get h1
  rw [hu] at g1
  cases g1
  have sm := qs hp (.tup [.int i, u])
  exact ⟨sm, p, [.int i, u], rfl, .inl ql, .int i, [u], rfl, by rw [Nat.zero_add]; rfl, u, [], rfl, Is.ext (Ext.of_same sm) (fun _ h _ => h) (Is.ext ex (fun _ h _ => h) g2), rfl⟩
 stop := fun H' ex => ⟨by rw [wY, i1.length], (t1.elim (fun h => .inl (ex.tup _ _ h)) .inr : uF K H' a1 xs).sq⟩
def qeT : List D -> Option (List D)
 | [.tup xs] => some (uY 0 xs)
 | _ => none
def qdE (f : M (List D)) : M (List D) := bnd f fun ds => lift (qeT ds)
theorem qeU {f : M (List D)} {p : Pos} (hg : Gl X "enumerate") (hm : X.mg "enumerate" = none) (ha : DA X c [a] f) (hs : starEach [a] X.env = [(false, eval a X.env)] := by rfl) :
  DI X c (.Tuple es kk tp) (.Call (.Name "enumerate" p) [a] [] pos) (qdE f) := by
 obtain ⟨t, pa, w⟩ := ha
 refine ⟨_, qih hg hm pa hs, fun ρ σ H Q r h => w ρ σ H _ r (WpL.bndI h fun ds ρ1 vs H1 r1 i1 g1 h1 => ?_)⟩
 obtain ⟨es', e, h2⟩ := vd h1
 unfold qeT at e
 split at e
 ·obtain ⟨v, rfl, j1⟩ := IsL.inv1 i1
  cases e
  obtain ⟨a1, xs, rfl, t1, il1⟩ := Is.tr j1
  exact ⟨a1, xs, rfl, t1.sq, h2 _ H1 r1 (qii t1 il1) .refl⟩
 ·cases e
end
def vD : D -> V
 | .bl b => .bl b
 | .int i => .int i
 | .str x => .str x
 | _ => .non
def flD : D -> Bool
 | .non => true
 | .bl _ => true
 | .int _ => true
 | .str _ => true
 | _ => false
def sqD : D -> Option (List D)
 | .tup ds => some ds
 | .lst ds => some ds
 | _ => none
def inD (x y : D) : Option D := match sqD y with
 | some ds => if flD x && ds.all flD then some (.bl (ds.any fun d => eqV (vD d) (vD x))) else none
 | none => none
def qlu (x y : D) : Option D := match sqD y with
 | some ds => if flD x && ds.all flD then some (.bl (!ds.any fun d => eqV (vD d) (vD x))) else none
 | none => none
theorem qg3 {K : Fr0} {A : Addr -> Prop} {H : Hp} {d : D} {v : V} (h : Is K A H d v) (f : flD d = true) : v = vD d /\ v5 v = true := by
 cases d <;> first | (cases h; exact ⟨rfl, rfl⟩) | cases f
theorem qcu {K : Fr0} {A : Addr -> Prop} {H : Hp} : ∀ {ds : List D} {vs : List V}, IsL K A H ds vs -> ds.all flD = true -> vs = ds.map vD /\ vs.all v5 = true
 | [], _, h, _ => by cases h; exact ⟨rfl, rfl⟩
 | d :: ds, _, ⟨x, ys, hx, h1, h2⟩, f => by
  rw [List.all_cons, Bool.and_eq_true] at f
  obtain ⟨e1, e2⟩ := qg3 h1 f.1
  obtain ⟨e3, e4⟩ := qcu h2 f.2
  subst hx
  rw [mC_, <- e1, <- e3, List.all_cons, e2, e4]
  exact ⟨rfl, rfl⟩
theorem qkF {K : Fr0} {A : Addr -> Prop} {H : Hp} {x y : D} {ds : List D} {v u : V} (ix : Is K A H x v) (iy : Is K A H y u) (e : sqD y = some ds) (f : (flD x && ds.all flD) = true) :
  ∃ p xs, u = .ref p /\ (SqL K H p xs \/ SqT K H p xs) /\ v5 v = true /\ xs.all v5 = true /\ inV v xs = ds.any fun d => eqV (vD d) (vD x) := by
 rw [Bool.and_eq_true] at f
 obtain ⟨e1, e2⟩ := qg3 ix f.1
 cases y <;> simp only [sqD] at e <;> try (cases e; done)
 ·cases e
  obtain ⟨a, zs, rfl, ta, il⟩ := iy
  obtain ⟨e3, e4⟩ := qcu il f.2
  exact ⟨a, zs, rfl, .inr ta.sq, e2, e4, by rw [e3, e1]; unfold inV; rw [List.any_map]; rfl⟩
 ·cases e
  obtain ⟨a, zs, rfl, _, ta, il⟩ := iy
  obtain ⟨e3, e4⟩ := qcu il f.2
  exact ⟨a, zs, rfl, .inl (SqL.of ta), e2, e4, by rw [e3, e1]; unfold inV; rw [List.any_map]; rfl⟩
theorem qij {K : Fr0} : OpS K qlu (rIn K true) := by
 intro A H x y d v u Q hn ix iy e k
 unfold qlu at e
 split at e
 ·rename_i ds es
  obtain ⟨e1, e2⟩ := zB e
  subst e2
  obtain ⟨p, xs, h1, h2, h3, h4, h5⟩ := qkF ix iy es e1
  exact ⟨p, xs, h1, h2, h3, h4, by rw [<- h5] at k; exact k _ H (zM.refl H) rfl⟩
 ·cases e
theorem qeV {l : M (List D)} {ρ : Env} : qdE l ρ = match l ρ with | .ok (d, ρ1) => (match qeT d with | some ds => .ok (ds, ρ1) | none => .bad) | .exc x ρ' => .exc x ρ' | .bad => .bad := by
 simp only [qdE, bnd]
 cases l ρ with
 | ok z => obtain ⟨z1, ρ1⟩ := z; (dsimp only; cases qeT z1 <;> rfl)
 | exc x ρ' => rfl
 | bad => rfl
section
variable {X : Cx} {tg iter elt : Expr} {ifs : List Expr} {scope : Scope} {pos : Pos} {wi : TI} {N' : List Str} {nt : Nat} {fr : List Nat}
theorem qik {i : Nat} {x : Str} {pos' spos : Pos} (hN : X.N.Nodup) (hix : X.N[i]? = some x) (hx : Loc X.env.scope x) (hfx : X.fn x = true \/ X.env.scope.names.lookup x = some .local) (hc : X.calm = true) (hi : PI X tg iter wi) (S : CompScope X scope N' nt fr)
  (hsw : swapsWith (.ListComp elt [⟨tg, iter, ifs, 0⟩] scope pos) (some (.Name x pos')) spos.line X.env = pure true)
  (hs : ∀ x, foldedSetIterable iter X.env x = pure x := by intro _; rfl) : PS X (.Assign [.Name x pos'] (.ListComp elt [⟨tg, iter, ifs, 0⟩] scope pos) spos) (fun D σ H => qhS X tg ifs elt scope N' wi nt fr σ H fun v H' => D.nx (σ.set i (some v)) H') := by
 intro pins s σ H D I hw
 obtain ⟨cl, hcl, cl1, cl2⟩ := closureFor_ok (env := X.env) (scope := scope) (fun y hy hf => I.ok.has y.1 (.inl (S.frees y hy hf)))
 rw [exec_Assign_Name_used _ _ _ _ hsw]
 refine wpAny_bind (wpAny_standAt (wpAny_bind ?_))
 show wpAny (model X.prog X.w) X.A (comprehension (.ListComp elt [⟨tg, iter, ifs, 0⟩] scope pos) scope X.env _ (newList []) false (eval iter X.env) (some (assign (.Name x pos') X.env)) >>= fun _ => pure ()) _ _ s
 refine wpAny_bind (thn (Q := fun _ s' => SP X pins D .next s') ?_ fun _ s' q => wpAny_pure (wpAny_pure q))
 refine wpAny_comprehension_free (use := some (assign (.Name x pos') X.env)) rfl hs hcl S.kind S.names (thn (hi pins s σ H _ I hw) fun v s1 h1 => thn h1 fun itv s2 h2 => ?_)
 obtain ⟨it, fp, tn, J, H2, e, I2, T, st2, f2, hR⟩ := h2
 subst e
 have hacc : H2 s2.heap.objs.size = none := I2.hok.fresh (Nat.le_refl _)
 refine wpAny_newObj_type (wpAny_newFunctionEnv S.nocell (by intro y hy; simp at hy) (fun h₁ hns₁ hsb₁ => ?_) S.kind)
 dsimp only at hns₁ hsb₁ |-
 have I3 : Inv X pins σ (upd H2 s2.heap.objs.size (.lst [])) { s2 with heap := s2.heap.push { cls := .type "list", dict := none, data := .seq ([] : List Value).toArray } } :=
  I2.lnew (t' := s2.toks) (its := []) .nil (Nat.zero_le _)
 generalize hs3 : ({ s2 with heap := s2.heap.push { cls := .type "list", dict := none, data := .seq ([] : List Value).toArray } } : Shared) = s3 at I3
 have hh3 : s2.heap.push { cls := .type "list", dict := none, data := .seq ([] : List Value).toArray } = s3.heap := by rw [<- hs3]
 rw [hh3] at hns₁ hsb₁
 have old : ∀ b o, s3.heap.get? b = some o -> h₁.get? b = some o := fun b o q => hsb₁.extBut b o (Nat.ne_of_lt (Heap.lt_size q)) (Heap.get?_push_of_some _ q)
 have objs2 : ∀ b ∈ fp, ∃ o, s2.heap.get? b = some o := fun b hb => by
  obtain ⟨o, q, _⟩ := T.obj 0 _ st2 b hb
  exact ⟨o, q⟩
 have keep23 : ∀ b o, s2.heap.get? b = some o -> s3.heap.get? b = some o := fun b o q => by rw [<- hh3]; exact Heap.get?_push_of_some _ q
 have fpne : ∀ b ∈ fp, b ≠ s2.heap.objs.size := fun b hb => by
  obtain ⟨o, q⟩ := objs2 b hb
  exact Nat.ne_of_lt (Heap.lt_size q)
 have f3 : ∀ b ∈ fp, qaK X pins (upd H2 s2.heap.objs.size (.lst [])) b := fun b hb => ⟨by rw [qm (fpne b hb)]; exact (f2 b hb).1, (f2 b hb).2⟩
 have J0 : Inv (qI X scope N' fp cl s3.heap.objs.size s3 (upd H2 s2.heap.objs.size (.lst [])) (X.pn ++ pins)) [] (qw nt fr σ) (upd H2 s2.heap.objs.size (.lst [])) { s3 with heap := h₁, toks := s3.toks } :=
  vz S I3 f3 (fun b hb => (objs2 b hb).imp fun o q => keep23 b o q) cl1 cl2 ⟨_, hns₁⟩ old
 obtain ⟨g, tt, te, hg, hf, he, W, ⟨m0, w0⟩, turn⟩ := hR s2.heap.objs.size fp cl s3.heap.objs.size s3 (upd H2 s2.heap.objs.size (.lst [])) (X.pn ++ pins) hacc
 have T0 : tn 0 h₁ := T.keep 0 _ _ st2 fun b hb o q => old b o (keep23 b o q)
 have s3e : ∀ tk : Nat, ({ s2 with heap := h₁, toks := tk } : Shared) = { s3 with heap := h₁, toks := tk } := fun tk => by rw [<- hs3]
 have loop : ∀ tk : Nat, codeAny (model X.prog X.w) X.A (.compLoop (.ListComp elt [⟨tg, iter, ifs, 0⟩] scope pos) 0 (.ref it) (.ref s2.heap.objs.size) (compEnvC scope cl s3.heap.objs.size X.env))
   (compPost (model X.prog X.w) X.A X.xe (some (assign (.Name x pos') X.env)) (fun _ s' => SP X pins D .next s') (.ref s2.heap.objs.size) s3.heap.objs.size) { s3 with heap := h₁, toks := tk } := fun tk => by
  have stat : ∀ {H' : Hp}, (∀ b ∈ fp, H' b = none) -> ∀ b ∈ fp, qaK (qI X scope N' fp cl s3.heap.objs.size s3 (upd H2 s2.heap.objs.size (.lst [])) (X.pn ++ pins)) [] H' b := fun {H'} hn b hb => by
   obtain ⟨o, q⟩ := objs2 b hb
   have hbC : b ≠ s3.heap.objs.size := Nat.ne_of_lt (Heap.lt_size (keep23 b o q))
   refine ⟨hn b hb, hbC, fun z => ?_, .inl hb, fun x c hx => (f2 b hb).2.2.2.2.1 x c (cl1 x c hx), fun p hp => ?_⟩
   ·rcases List.mem_cons.mp (I2.stkSub b z) with z | z
    ·exact (f2 b hb).2.1 z
    ·exact (f2 b hb).2.2.1 z
   ·have hp' : p ∈ X.pn ++ pins := by
     rcases mA_.mp (show p ∈ (X.pn ++ pins) ++ [] from hp) with z | z
     ·exact z
     ·cases z
    exact (f2 b hb).2.2.2.2.2 p hp'
  have fr0 : ∀ b ∈ fp, upd H2 s2.heap.objs.size (.lst []) b = none := fun b hb => (f3 b hb).1
  refine uV (fun n s' => ∃ i σ' H', Inv (qI X scope N' fp cl s3.heap.objs.size s3 (upd H2 s2.heap.objs.size (.lst [])) (X.pn ++ pins)) [] σ' H' s' /\ tn i s'.heap /\ (∀ b ∈ fp, H' b = none) /\ W i n σ' H') ?_ m0
   ⟨0, qw nt fr σ, _, J0.tok tk, T0, fr0, w0⟩
  rintro n s4 ⟨i, σ4, H4, J4, st4, fr4, w4⟩
  rcases turn i n σ4 H4 w4 with ⟨stop, qn⟩ | ⟨go, step⟩
  ·refine thn (T.done (qI X scope N' fp cl s3.heap.objs.size s3 (upd H2 s2.heap.objs.size (.lst [])) (X.pn ++ pins)) rfl rfl rfl hc i [] s4 σ4 H4 _ J4 (stat fr4) st4 stop) fun r s5 ⟨hr, J5⟩ => ?_
   subst hr
   obtain ⟨m5, n5, _⟩ := J5.loc
   have I5 : Inv X pins σ H4 s5 := qaR I3 f3 J5 (Heap.SameBut.refl ..)
   have lC : X.env.locals ≠ s3.heap.objs.size := Nat.ne_of_lt I3.lt
   have cC : ∀ y c, X.env.cells.lookup y = some c -> c ≠ s3.heap.objs.size := fun y c hy => by
    obtain ⟨v, o, ho, _⟩ := I3.cell y c hy
    exact Nat.ne_of_lt (Heap.lt_size ho)
   have pC : ∀ p ∈ X.pn ++ pins, p.1 ≠ s3.heap.objs.size := fun p hp => Nat.ne_of_lt (Heap.lt_size (I3.pin p hp).1)
   refine wpAny_assign_Name (qbp (v := .ref s2.heap.objs.size) I5 hN hix hx rfl (fun s'' I6 ⟨a, sb, ha⟩ => ?_) hfx)
   have aC : s3.heap.objs.size ≠ a := by
    rcases ha with rfl | ha
    ·exact lC.symm
    ·exact (cC _ _ ha).symm
   exact ⟨m5, n5.sameBut sb aC, fun h' sb' => ⟨_, H4, I6.turned (t' := s''.toks) (fun b o hb q => (sb'.2 b hb).trans q) J5.free lC.symm (.inr I3.sz) cC pC, qn⟩⟩
  ·refine thn (T.item (qI X scope N' fp cl s3.heap.objs.size s3 (upd H2 s2.heap.objs.size (.lst [])) (X.pn ++ pins)) rfl rfl rfl hc i [] s4 σ4 H4 _ J4 (stat fr4) st4 go) fun r s5 ⟨u, hr, h5⟩ => ?_
   subst hr
   refine thn h5 fun _ s6 ⟨x, H6, J6, r6, y6, st6, fr6⟩ => ?_
   have J6' := J6.pinned (stat fr6) (T.obj _ _ st6)
   have again : ∀ {σ7 : St} {H7 : Hp} {s7 : Shared}, Inv (qI X scope N' fp cl s3.heap.objs.size s3 (upd H2 s2.heap.objs.size (.lst [])) (X.pn ++ pins)) ([] ++ wA fp s6.heap) σ7 H7 s7 -> (∃ m', m' < n /\ W (i + 1) m' σ7 H7) ->
     ∃ m, m < n /\ ∃ i σ' H', Inv (qI X scope N' fp cl s3.heap.objs.size s3 (upd H2 s2.heap.objs.size (.lst [])) (X.pn ++ pins)) [] σ' H' s7 /\ tn i s7.heap /\ (∀ b ∈ fp, H' b = none) /\ W i m σ' H' := fun {σ7 H7 s7} I7 hm => by
    obtain ⟨m', hm, w7⟩ := hm
    refine ⟨m', hm, i + 1, σ7, H7, I7.unpinned, T.keep _ _ _ st6 fun b hb o q => (I7.pin (b, o) (mr_ _ (mr_ _ (z9 hb q)))).1, fun b hb => ?_, w7⟩
    obtain ⟨o, q, d⟩ := T.obj _ _ st6 b hb
    exact (I7.pin (b, o) (mr_ _ (mr_ _ (z9 hb q)))).2.1
   refine thn (hg _ s6 σ4 H6 x u _ J6' r6 (step x H6 y6)) fun _ s7 ⟨σ7, H7, J7, q7⟩ => ?_
   refine thn (hf _ s7 σ7 H7 _ J7 q7) fun ok s8 ⟨H8, J8, q8⟩ => ?_
   cases ok with
   | false =>
    rw [if_neg Bool.false_ne_true] at q8 |-
    exact again J8 q8
   | true =>
    rw [if_pos rfl] at q8 |-
    refine thn (he _ s8 σ7 H8 _ J8 q8) fun z s9 ⟨y, H9, J9, r9, ys, hys, hz, hm⟩ => ?_
    refine thn (va _ s9 σ7 H9 (.ref s2.heap.objs.size) [y] (.ref s2.heap.objs.size) [z] (fun _ H' => H' = upd H9 s2.heap.objs.size (.lst (ys ++ [y]))) J9 rfl (.cons r9 .nil) ⟨_, ys, y, rfl, rfl, hys, hz, rfl⟩) fun _ s10 ⟨_, H10, J10, _, e10⟩ => ?_
    subst e10
    exact again J10 hm
 have qU : ∀ tk : Nat, codeAny (model X.prog X.w) X.A (.compStart (.ListComp elt [⟨tg, iter, ifs, 0⟩] scope pos) 0 (.ref it) (.ref s2.heap.objs.size) (compEnvC scope cl s3.heap.objs.size X.env))
   (compPost (model X.prog X.w) X.A X.xe (some (assign (.Name x pos') X.env)) (fun _ s' => SP X pins D .next s') (.ref s2.heap.objs.size) s3.heap.objs.size) { s3 with heap := h₁, toks := tk } := fun tk =>
  codeAny_compStart_list (loop tk) (T.self X.A 0 _ _ _ T0 (loop tk))
 have fin := qU (s2.toks + ([] : List (Str × Value)).length)
 rw [<- s3e] at fin
 rw [<- hh3] at fin
 rw [hh3] at fin |-
 exact fin
end
section
variable {X : Cx} {c : Fc}
def DC (X : Cx) (c : Fc) (tg it elt : Expr) (ifs : List Expr) (scope : Scope) (N' : List Str) (nt : Nat) (fr : List Nat) (f : M D) : Prop := ∃ wi, PI X tg it wi /\ ∀ ρ σ H Q, Rep X.K c ρ σ H -> Wp X.K c σ H Q (f ρ) -> qhS X tg ifs elt scope N' wi nt fr σ H Q
theorem qeW {it elt tg : Expr} {ifs : List Expr} {scope : Scope} {N' : List Str} {nt : Nat} {fr : List Nat} {fo : Option (Nat × Nat)} {f : M (List D)} {g : D -> Env -> Option Env} {t : M Bool} {k : M D} (hc : X.calm = true) (hi : DI X c tg it f) (S : CompScope X scope N' nt fr)
  (hfo : qgY c nt fr fo)
  (hb : ∀ fp cl C s₀ H₀ pn B0 H1 Io' acc S', DG (qI X scope N' fp cl C s₀ H₀ pn) (cin B0 H1 (foO fo) Io' acc S') tg g /\ DF (qI X scope N' fp cl C s₀ H₀ pn) (cin B0 H1 (foO fo) Io' acc S') ifs t /\ DE (qI X scope N' fp cl C s₀ H₀ pn) (cin B0 H1 (foO fo) Io' acc S') elt k)
  : DC X c tg it elt ifs scope N' nt fr (jL nt fr fo f g t k) := by
 obtain ⟨wi, pi, wI⟩ := hi
 refine ⟨wi, pi, fun ρ σ H Q r h => wI ρ σ H _ r (WpI.bnd h fun ds ρ1 J H1 r1 iok g1 h1 => ?_)⟩
 intro acc fp cl C s₀ H₀ pn hn
 obtain ⟨⟨tg', pg, wg⟩, ⟨tt, pt, wt⟩, ⟨te, pe, we⟩⟩ := hb fp cl C s₀ H₀ pn (Cn c σ) H1 (wR σ fo) acc fun j => (qw nt fr σ)[j]?
 refine ⟨tg', tt, te, pg, pt, pe, ?_⟩
 cases ew : zg g t k ds [] (jK nt fr ρ1) with
 | exc x ρ' => rw [ew] at h1; exact h1.elim
 | bad => rw [ew] at h1; exact h1.elim
 | ok p =>
  rw [ew] at h1
  obtain ⟨ys, ρe⟩ := p
  have h1 : ∀ v H', Rep X.K c (qhU fo ρe ρ1) σ H' -> Is X.K (Cn c σ) H' (.lst ys) v -> Gr c.O σ H1 H' -> Q v H' := h1
  have accO : ∀ j ∈ foO fo, (qw nt fr σ)[j]? ≠ some (some (.ref acc)) := fun j hj e => by
   have r0 := r1.entry (acc := acc) hn hfo
   cases fo with
   | none => cases hj
   | some p =>
    obtain ⟨i', j'⟩ := p
    have e2 : j = i' := by simpa [foO] using hj
    subst e2
    obtain ⟨k2, j2, e1, e2, e3⟩ := jc e
    have hk2 : k2 = j - nt := by omega
    subst hk2
    rw [hfo.2.2.1] at e2
    cases e2
    obtain ⟨a, us, e4, e5, _⟩ := r1.own j' hfo.1 _ e3
    cases e4; rw [hn] at e5; cases e5
  refine ⟨fun i m σ' H' => m = ds.length - i /\ i <= ds.length /\ ∃ ρ' zs xs, Rep X.K (cin (Cn c σ) H1 (foO fo) (wR σ fo) acc fun j => (qw nt fr σ)[j]?) ρ' σ' H' /\ (∀ j ∈ foO fo, σ'[j]? = (qw nt fr σ)[j]?) /\ H' acc = some (.lst xs) /\ IsL X.K (Cn (cin (Cn c σ) H1 (foO fo) (wR σ fo) acc fun j => (qw nt fr σ)[j]?) σ') H' zs xs /\ zg g t k (ds.drop i) zs ρ' = .ok (ys, ρe),
   ⟨ds.length, by simp, Nat.zero_le _, jK nt fr ρ1, [], [], r1.entry hn hfo, fun _ _ => rfl, ql, rfl, by simpa using ew⟩, ?_⟩
  rintro i m σ' H' ⟨rfl, hi, ρ', zs, xs, r', so, ha, iz, w⟩
  obtain ⟨_, gr⟩ := r1.leave hn hfo (fun i j e => so i (by rw [e]; simp [foO])) r'
  have ex : Ext (CnT c σ H1) H1 H' := ⟨gr.ext.tup, gr.ext.frz, fun b o hb hq => gr.ext.at_ b o hb.1.2 hq⟩
  have accC : ∀ τ : St, (∀ j ∈ foO fo, τ[j]? = (qw nt fr σ)[j]?) -> Cl (foO fo) τ acc := fun τ hτ j hj e => accO j hj (by rw [<- hτ j hj]; exact e)
  by_cases hlt : i < ds.length
  ·refine .inr ⟨iok.go H' i ds[i] ex (by simp [hlt]), fun x H'' y => ?_⟩
   obtain ⟨sm, ix⟩ := iok.yl H' i ds[i] x H'' ex (by simp [hlt]) y
   rw [uw hlt] at w
   unfold zg at w
   have ix2 : Is X.K (Cn (cin (Cn c σ) H1 (foO fo) (wR σ fo) acc fun j => (qw nt fr σ)[j]?) σ') H'' ds[i] x := Is.ext Ext.refl (fun a ha _ => ⟨⟨ha.1, fun e => by
    have := ha.2
    rw [e, hn] at this; cases this⟩, fun j hj e => by
     rw [so j hj] at e
     cases fo with
     | none => cases hj
     | some p =>
      obtain ⟨i', j'⟩ := p
      have e2 : j = i' := by simpa [foO, cin] using hj
      subst e2
      obtain ⟨k2, j2, e1, e2, e3⟩ := jc e
      have hk2 : k2 = j - nt := by omega
      subst hk2
      rw [hfo.2.2.1] at e2
      cases e2
      exact ha.1.2 j' hfo.1 e3⟩) ix
   cases e1 : g ds[i] ρ' with
   | none => simp only [e1] at w; cases w
   | some ρ2 =>
    simp only [e1] at w
    refine wg ρ' σ' H'' ds[i] x ρ2 _ (r'.same sm) ix2 e1 fun σ2 r2 g2 o2 => ?_
    have so2 : ∀ j ∈ foO fo, σ2[j]? = (qw nt fr σ)[j]? := fun j hj => (o2 j hj).trans (so j hj)
    have ha2 : H'' acc = some (.lst xs) := sm _ _ ha
    have iz2 := g2.isL (IsL.ext (Ext.of_same sm) (fun _ h _ => h) iz)
    cases e2 : t ρ2 with
    | exc x ρ3 => simp only [e2] at w; cases w
    | bad => simp only [e2] at w; cases w
    | ok p2 =>
     obtain ⟨bb, ρ3⟩ := p2
     refine wt ρ2 σ2 H'' _ r2 ?_
     rw [e2]
     intro H3 r3 g3
     have ha3 : H3 acc = some (.lst xs) := g3.ext.at_ _ _ (accC σ2 so2) ha2
     have iz3 := g3.isL iz2
     cases bb with
     | false =>
      rw [if_neg Bool.false_ne_true]
      simp only [e2] at w
      exact ⟨ds.length - (i + 1), by omega, rfl, hlt, ρ3, zs, xs, r3, so2, ha3, iz3, w⟩
     | true =>
      rw [if_pos rfl]
      simp only [e2] at w
      cases e3 : k ρ3 with
      | exc x ρ4 => simp only [e3] at w; cases w
      | bad => simp only [e3] at w; cases w
      | ok p3 =>
       obtain ⟨d4, ρ4⟩ := p3
       simp only [e3] at w
       refine we ρ3 σ2 H3 _ r3 ?_
       rw [e3]
       intro y4 H4 r4 i4 g4
       have ha4 : H4 acc = some (.lst xs) := g4.ext.at_ _ _ (accC σ2 so2) ha3
       have hsz : qH (zs.length + 1) = true := by
        cases e5 : qH (zs.length + 1) with
        | true => rfl
        | false => rw [e5] at w; simp at w
       rw [if_pos hsz] at w
       have hsz' : zs.length + 1 <= sizeLine := of_decide_eq_true hsz
       have r5 := r4.grow (ys := xs ++ [y4]) ha4 (fun j hj e => accC σ2 so2 j hj e)
       have ext5 : Ext (Cn (cin (Cn c σ) H1 (foO fo) (wR σ fo) acc fun j => (qw nt fr σ)[j]?) σ2) H4 (upd H4 acc (.lst (xs ++ [y4]))) := ⟨fun b us hb => by rw [qm (u8 hb ha4 (by intro z; cases z))]; exact hb, fun b o u hb => by rw [qm (u8 hb ha4 (by intro z; cases z))]; exact hb, fun b o hb hq => by rw [qm hb.1.2]; exact hq⟩
       refine ⟨xs, ha4, by rw [iz3.length]; omega, ds.length - (i + 1), by omega, rfl, hlt, ρ4, zs ++ [d4], xs ++ [y4], r5, so2, ql, ?_, w⟩
       exact IsL.append (IsL.ext ext5 (fun _ h _ => h) (g4.isL iz3)) (IsL.one (Is.ext ext5 (fun _ h _ => h) i4))
  ·have hie : i = ds.length := by omega
   subst hie
   rw [List.drop_of_length_le (Nat.le_refl _)] at w
   unfold zg at w
   cases w
   obtain ⟨r6, g6⟩ := r1.leave hn hfo (fun i j e => so i (by rw [e]; simp [foO])) r'
   exact .inl ⟨iok.stop H' ex, h1 _ H' r6 ⟨acc, xs, rfl, r1.new hn, ha, IsL.ext Ext.refl (fun a ha hs => ha.1.1) iz⟩ g6⟩
theorem qeX {i : Nat} {x : Str} {pos' spos pos : Pos} {tg it elt : Expr} {ifs : List Expr} {scope : Scope} {N' : List Str} {nt : Nat} {fr : List Nat} {f : M D} (hN : X.N.Nodup) (h : DC X c tg it elt ifs scope N' nt fr f) (hc : X.calm = true) (S : CompScope X scope N' nt fr)
  (ho : i ∉ c.O := by exact of_decide_eq_false rfl) (hix : X.N[i]? = some x := by rfl) (hx : Loc X.env.scope x := by first | exact Or.inl rfl | exact Or.inr rfl) (hfx : X.fn x = true \/ X.env.scope.names.lookup x = some .local := by first | exact .inl rfl | exact .inr rfl | assumption)
  (hsw : swapsWith (.ListComp elt [⟨tg, it, ifs, 0⟩] scope pos) (some (.Name x pos')) spos.line X.env = pure true := by rfl) (hs : ∀ x, foldedSetIterable it X.env x = pure x := by intro _; rfl) :
  DS X c (.Assign [.Name x pos'] (.ListComp elt [⟨tg, it, ifs, 0⟩] scope pos) spos) (ji i f) := by
 obtain ⟨wi, pi, w⟩ := h
 refine ⟨_, qik hN hix hx hfx hc pi S hsw hs, fun ρ σ H D r h => w ρ σ H _ r (Wp.sbnd h fun d ρ1 v H1 r1 i1 g1 h1 => ?_)⟩
 exact h1 _ H1 (r1.set ho i1) (.set ho)
end
def ql1 : List Int -> Int
 | [] => 0
 | [n] => n
 | n :: m :: ns => max n (ql1 (m :: ns))
section
variable {X : Cx}
end
def qnn : List D -> Option D
 | [.lst ds] => match qai ds with
  | some (n :: ns) => some (.int (ql1 (n :: ns)))
  | _ => none
 | _ => none
def ug (t : M Bool) (b : MS) : Nat -> MS
 | 0, _ => .bad
 | n + 1, ρ => match t ρ with
  | .ok (true, ρ1) => match b ρ1 with
   | .ok (.nx ρ2) => ug t b n ρ2
   | .ok (.ct ρ2) => ug t b n ρ2
   | .ok (.bk ρ2) => .ok (.nx ρ2)
   | .ok (.rt d ρ2) => .ok (.rt d ρ2)
   | .exc x ρ2 => .exc x ρ2
   | .bad => .bad
  | .ok (false, ρ1) => .ok (.nx ρ1)
  | .exc x ρ1 => .exc x ρ1
  | .bad => .bad
open Classical in
noncomputable def qay (t : M Bool) (b : MS) : MS := fun ρ => if h : ∃ n, ug t b n ρ ≠ .bad then ug t b h.choose ρ else .bad
theorem uz {t : M Bool} {b : MS} : ∀ {n : Nat} {ρ : Env} (k : Nat), ug t b n ρ ≠ .bad -> ug t b (n + k) ρ = ug t b n ρ
 | 0, ρ, k, h => absurd rfl h
 | n + 1, ρ, k, h => by
  have e : n + 1 + k = (n + k) + 1 := by omega
  rw [e]
  unfold ug at h |-
  cases et : t ρ with
  | ok p =>
   obtain ⟨v, ρ1⟩ := p
   rw [et] at h
   cases v with
   | false => rfl
   | true =>
    dsimp only at h |-
    cases eb : b ρ1 with
    | ok fl =>
     rw [eb] at h
     cases fl with
     | nx ρ2 => exact uz k h
     | ct ρ2 => exact uz k h
     | bk ρ2 => rfl
     | rt d ρ2 => rfl
    | exc x ρ2 => rfl
    | bad => rfl
  | exc x ρ1 => rfl
  | bad => rfl
theorem qeY {t : M Bool} {b : MS} {n : Nat} {ρ : Env} {r : R Fl} (h : ug t b n ρ = r) (hb : r ≠ .bad) : qay t b ρ = r := by
 have hx : ∃ n, ug t b n ρ ≠ .bad := ⟨n, by rw [h]; exact hb⟩
 unfold qay
 rw [dif_pos hx]
 have hc := hx.choose_spec
 generalize hx.choose = m at hc
 rcases Nat.le_total m n with hl | hl
 ·obtain ⟨k, rfl⟩ := Nat.exists_eq_add_of_le hl
  rw [<- uz k hc]; exact h
 ·obtain ⟨k, rfl⟩ := Nat.exists_eq_add_of_le hl
  rw [uz k (by rw [h]; exact hb)]; exact h
theorem qdF {t : M Bool} {b : MS} {ρ : Env} : ∃ n, qay t b ρ = ug t b n ρ := by
 unfold qay
 split
 ·exact ⟨_, rfl⟩
 ·exact ⟨0, rfl⟩
section
variable {X : Cx} {c : Fc} {pos : Pos}
theorem qgf {e : Expr} {body : List Stmt} {t : M Bool} {b : MS} (hp : PassesOwn (model X.prog X.w) X.A X.env X.xe) (ht : DT X c e t) (hb : DSs X c body b) : DS X c (.While e body [] pos) (qay t b) := by
 obtain ⟨tc, pc, wc⟩ := ht
 obtain ⟨tb, pb, wb⟩ := hb
 refine ⟨_, qfO hp pc pb, fun ρ σ H D' r h => ?_⟩
 obtain ⟨n, en⟩ := qdF (t := t) (b := b) (ρ := ρ)
 rw [en] at h
 refine ⟨fun m σ' H' => ∃ ρ', Rep X.K c ρ' σ' H' /\ WpS X.K c σ' H' D' (ug t b m ρ'), ⟨n, ρ, r, h⟩, ?_⟩
 rintro m σ' H' ⟨ρ', r', w⟩
 cases m with
 | zero => exact w.elim
 | succ m =>
  unfold ug at w
  refine wc ρ' σ' H' _ r' ?_
  cases et : t ρ' with
  | bad => rw [et] at w; exact w
  | exc x ρ1 => rw [et] at w; exact fun H1 r1 g1 => w σ' H1 r1 g1.s
  | ok p =>
   obtain ⟨v, ρ1⟩ := p
   rw [et] at w
   intro H1 r1 g1
   cases v with
   | false =>
    rw [if_neg Bool.false_ne_true]
    exact w σ' H1 r1 g1.s
   | true =>
    rw [if_pos rfl]
    dsimp only at w
    refine ⟨fun σ2 H2 => ∃ ρ2, Rep X.K c ρ2 σ2 H2 /\ WpS X.K c σ2 H2 D' (ug t b m ρ2), fun σ2 H2 q => ⟨m, Nat.lt_succ_self m, q⟩, wb ρ1 σ' H1 _ r1 ?_⟩
    have w2 := w.gr g1.s
    cases e2 : b ρ1 with
    | ok fl =>
     cases fl with
     | nx ρ3 => simp only [e2] at w2; exact fun σ3 H3 r3 g3 => ⟨ρ3, r3, w2.gr g3⟩
     | ct ρ3 => simp only [e2] at w2; exact fun σ3 H3 r3 g3 => ⟨ρ3, r3, w2.gr g3⟩
     | bk ρ3 => simp only [e2] at w2; exact w2
     | rt d ρ3 => simp only [e2] at w2; exact w2
    | exc x ρ3 => simp only [e2] at w2; exact w2
    | bad => simp only [e2] at w2; exact w2
end
def qjb (K : Fr0) (a : Addr) (ns : List Int) : Prop := ∃ (o : Obj) (its : Array Value) (n : Nat), K.lookup a = some o /\ o.cls = .type "tuple" /\ o.data = .seq its n /\ its.size <= sizeLine /\ qT (ns.map V.int) its.toList
theorem qjb.is {K : Fr0} {a : Addr} {ns : List Int} (h : qjb K a ns) (H : Hp) (A : Addr -> Prop) : Is K A H (.tup (ns.map .int)) (.ref a) := ⟨a, _, rfl, .inr h, qaS ns⟩
theorem qgg {X : Cx} {c : Fc} {x : Str} {a : Addr} {ns : List Int} {pos : Pos} (hg : Gl X x) (hm : X.mg x = some (.ref a)) (ht : qjb X.K a ns) (hdb : (x == ("__debug__" : Str)) = false := by decide) : DE X c (.Name x pos) (ret (.tup (ns.map .int))) :=
 qen (v := .ref a) hg hm rfl (fun H A => ht.is H A) hdb
theorem ql2 {K : Fr0} {a : Addr} {od : Option Addr} {its : Array Value} {n : Nat} {sl : Array (Option Value)} {i j : Int} {t u : Tok} (h : K.lookup a = some ⟨.type "tuple", od, .seq its n, sl⟩) (e : its.toList = [.int i t, .int j u]) : qjb K a [i, j] :=
 ⟨_, its, n, h, rfl, rfl, by
  have : its.size = 2 := by rw [<- Array.length_toList, e]; rfl
  rw [this]; decide, by rw [e]; exact .cons ⟨t, rfl⟩ (.cons ⟨u, rfl⟩ .nil)⟩
def qaY (h : Heap) (e T : Addr) (cls : Value) : Prop :=
 ∃ oe vs oT ts a0, h.get? e = some oe /\ (oe.cls = cls /\ vs[2]? = some .none /\ vs[0]? = some a0) /\ oe.data = .fields vs /\ vs[1]? = some (.ref T) /\ T ≠ e /\ h.get? T = some oT /\ oT.data = .fields ts /\ ts[3]? = some .none
def CX1 (P : Program) (w : World) : CXT := fun outer H s E u s' => ∃ e T C H', u = .ref e /\ s'.os = s.os /\ AllBare s'.gens /\ Un (frs outer) [] H H' s.heap s'.heap /\ HOk P w H' s'.heap /\
 s.heap.get? e = none /\ s.heap.get? T = none /\ H' e = none /\ H' T = none /\ qaY s'.heap e T (.ref C) /\ E (.ref C) none H'
structure Lft (h h' : Heap) (ch fs : List Addr) : Prop where
 keep : ∀ b o, b ∉ ch -> b ∉ fs -> h.get? b = some o -> h'.get? b = some o
 slot : ∀ b o, b ∈ fs -> h.get? b = some o -> ∃ sl, h'.get? b = some { o with slots := sl }
section
variable {M : Model} {A : Around} {E : Value -> Shared -> Prop} {s : Shared}
abbrev vC : Obj -> Obj := Obj.mapFields (·.setIfInBounds 3 Value.none)
theorem qil {base : Heap} {l : List PySem.Env} {h : Heap} {b : Addr} {o : Obj} {vs : Array Value} (hl : h.FunFrames base l) (hb : h.get? b = some o) (hd : o.data = .fields vs) : b ∉ frs l := fun z => by
 obtain ⟨_, o', ho', hn⟩ := hl.mem z
 rw [hb] at ho'
 cases ho'
 exact hn vs hd
theorem qcX {e T : Addr} {oe oT : Obj} {vs ts : Array Value} {Q : Unit -> Shared -> Prop} (he : s.heap.get? e = some oe) (hd : oe.data = .fields vs) (h1 : vs[1]? = some (.ref T)) (hT : s.heap.get? T = some oT) (hdT : oT.data = .fields ts) (h3 : 3 < ts.size)
  (k : Q () { s with heap := s.heap.update T vC }) : wpAny M A (setFlight (.ref e) none) Q E s := by
 unfold setFlight
 refine wpAny_bind (wpAny_field he hd h1 ?_)
 have t : (Value.ref T != Value.none) = true := by simp
 rw [if_pos t]
 exact wpAny_setField hT hdT h3 k
theorem vE {h : Heap} {T : Addr} {oT : Obj} {ts : Array Value} (hT : h.get? T = some oT) (hdT : oT.data = .fields ts) (h3 : 3 < ts.size) : ∃ o2 t2, (h.update T vC).get? T = some o2 /\ o2.data = .fields t2 /\ t2[3]? = some .none :=
 ⟨_, _, Heap.get?_update_self _ hT (Obj.isFreed_of_fields (Obj.data_mapFields hdT _)), Obj.data_mapFields hdT _, by simp [h3]⟩
theorem zj {h : Heap} {T b : Addr} (n : b ≠ T) : (h.update T vC).get? b = h.get? b := Heap.get?_update_other _ _ (Ne.symm n)
theorem qgh {base : Heap} {env : PySem.Env} {outer : List PySem.Env} {L e : Addr} {oe : Obj} {vs : Array Value} {head : Value} {had : Bool} {Q : Unit -> Shared -> Prop} (hfr : A.frames = some (env :: outer)) (hl : s.heap.FunFrames base (env :: outer)) (hf : env.frame = some L)
  (he : s.heap.get? e = some oe) (hd : oe.data = .fields vs) (h1 : 1 < vs.size)
  (k : ∀ h' T, s.heap.get? T = none -> T ≠ e -> (∀ b o, b ≠ e -> b ∉ frs (env :: outer) -> s.heap.get? b = some o -> h'.get? b = some o) -> (∀ b o, b ∈ frs (env :: outer) -> s.heap.get? b = some o -> ∃ sl, h'.get? b = some { o with slots := sl }) ->
   h'.get? e = some (Obj.mapFields (·.setIfInBounds 1 (Value.ref T)) oe) -> (∃ oT ts, h'.get? T = some oT /\ oT.data = .fields ts /\ 3 < ts.size) -> h'.FunFrames base (env :: outer) -> Q () { s with heap := h' }) :
  wpAny M A (do let a <- frameOf env; let pl <- entryPlaceOf L had; let b <- EntryCells.newEntry head a .none (rawInt L) .none pl; setField (.ref e) 1 b) Q E s := by
 have hene := qil hl he hd
 refine wpAny_bind (wpAny_frameOf_fun hfr hl hf fun h₁ hs₁ => wpAny_bind (wpAny_entryPlaceOf fun pl hpl => ?_))
 unfold EntryCells.newEntry newFields
 have he₁ : h₁.get? e = some oe := (hs₁.2.1 e hene).trans he
 refine wpAny_bind (wpAny_newObj_type ?_ (hpl.sizeOk5 _ _ _ _ _))
 generalize hob : ({ cls := Value.type "traceback", dict := none, data := Data.fields ([head, Value.ref L, Value.none, rawInt L, Value.none] ++ (if pl.isEmpty then List.replicate 6 Value.none else pl)).toArray } : Obj) = ob
 have nT : h₁.objs.size ≠ e := Nat.ne_of_gt (Heap.lt_size he₁)
 have hnT : s.heap.get? h₁.objs.size = none := by
  cases q : s.heap.get? h₁.objs.size with
  | none => rfl
  | some o =>
   obtain ⟨sl, q'⟩ := hs₁.2.2 _ o q
   exact absurd (Heap.lt_size q') (Nat.lt_irrefl _)
 refine wpAny_setField (Heap.get?_push_of_some _ he₁) hd h1 ?_
 have keep : ∀ b o, b ≠ e -> h₁.get? b = some o -> ((h₁.push ob).update e (Obj.mapFields (·.setIfInBounds 1 (Value.ref h₁.objs.size)))).get? b = some o := fun b o hb q => (Heap.get?_update_other _ _ (Ne.symm hb)).trans (Heap.get?_push_of_some _ q)
 refine k _ h₁.objs.size hnT nT (fun b o hb hf q => keep b o hb ((hs₁.2.1 b hf).trans q)) (fun b o hb q => ?_) (Heap.get?_update_self _ (Heap.get?_push_of_some _ he₁) (Obj.isFreed_of_fields (Obj.data_mapFields hd _))) ⟨ob, ([head, Value.ref L, Value.none, rawInt L, Value.none] ++ (if pl.isEmpty then List.replicate 6 Value.none else pl)).toArray, ?_, by rw [<- hob], by simp⟩ (hl.of_keeps fun b o q hn => ?_)
 ·obtain ⟨sl, q'⟩ := hs₁.2.2 b o q
  exact ⟨sl, keep b _ (fun z => hene (z ▸ hb)) q'⟩
 ·exact (Heap.get?_update_other _ _ (Ne.symm nT)).trans (Heap.get?_push_size _ (by rw [<- hob]; rfl))
 ·obtain ⟨sl, q'⟩ := hs₁.2.2 b o q
  exact ⟨_, keep b _ (fun z => by subst z; rw [he] at q; cases q; exact hn vs hd) q', rfl⟩
theorem qcY {base : Heap} {env : PySem.Env} {outer : List PySem.Env} {L e : Addr} {oe : Obj} {vs : Array Value} {a0 head : Value} {had : Bool} {Q : Unit -> Shared -> Prop} (hfr : A.frames = some (env :: outer)) (hl : s.heap.FunFrames base (env :: outer)) (hf : env.frame = some L)
  (he : s.heap.get? e = some oe) (hd : oe.data = .fields vs) (h1 : 1 < vs.size) (h2 : vs[2]? = some .none) (h0 : vs[0]? = some a0)
  (k : ∀ h' T', Lft s.heap h' [e] (frs (env :: outer)) -> qaY h' e T' oe.cls -> s.heap.get? T' = none -> Q () { s with heap := h' }) :
  wpAny M A (do let a <- frameOf env; let pl <- entryPlaceOf L had; let b <- EntryCells.newEntry head a .none (rawInt L) .none pl; setField (.ref e) 1 b) (fun _ s' => wpAny M A (setFlight (.ref e) none) Q E s') E s := by
 refine qgh hfr hl hf he hd h1 fun h' T nT ne kp sl ee eT _ => ?_
 obtain ⟨oT, ts, gT, dT, sT⟩ := eT
 have dd := Obj.data_mapFields hd (·.setIfInBounds 1 (Value.ref T))
 refine qcX (s := { s with heap := h' }) ee dd (by simp [h1]) gT dT sT ?_
 obtain ⟨o2, t2, q1, q2, q3⟩ := vE gT dT sT
 have nf : ∀ b o, s.heap.get? b = some o -> b ≠ T := fun b o q z => by rw [z, nT] at q; cases q
 refine k _ T ⟨fun b o hb hf q => (zj (nf b o q)).trans (kp b o (by simpa using hb) hf q), fun b o hb q => ?_⟩ ⟨_, _, o2, t2, a0, (zj (Ne.symm ne)).trans ee, ⟨Obj.cls_mapFields _ _, ?_, ?_⟩, dd, by simp [h1], ne, q1, q2, q3⟩ nT
 ·obtain ⟨sl, q'⟩ := sl b o hb q
  exact ⟨sl, (zj (nf b o q)).trans q'⟩
 ·rw [Array.getElem?_setIfInBounds_ne (by decide)]; exact h2
 ·rw [Array.getElem?_setIfInBounds_ne (by decide)]; exact h0
theorem wZ {base : Heap} {env : PySem.Env} {outer : List PySem.Env} {L e T : Addr} {cls : Value} {Q : Unit -> Shared -> Prop} (hfr : A.frames = some (env :: outer)) (hl : s.heap.FunFrames base (env :: outer)) (hf : env.frame = some L) (F : qaY s.heap e T cls)
  (k : ∀ h' T', Lft s.heap h' [e, T] (frs (env :: outer)) -> qaY h' e T' cls -> (T' = T \/ s.heap.get? T' = none) -> Q () { s with heap := h' }) :
  wpAny M A (noteFrame (.ref e) env) (fun _ s₂ => wpAny M A (setFlight (.ref e) none) Q E s₂) E s := by
 obtain ⟨oe, vs, oT, ts, a0, he, ⟨hc, h2, h0⟩, hd, h1, hne, hT, hdT, h3⟩ := F
 subst hc
 have z3 : 3 < ts.size := (Array.getElem?_eq_some_iff.mp h3).1
 have z1 : 1 < vs.size := (Array.getElem?_eq_some_iff.mp h1).1
 have tT : (Value.ref T != Value.none) = true := by simp
 have tL : ¬ ((Value.none == rawInt L) = true) := by simp [rawInt]
 have nf := qil hl hT hdT
 unfold noteFrame
 simp only [hf]
 refine wpAny_bind (wpAny_field he hd h1 ?_)
 rw [if_pos tT]
 refine wpAny_bind (wpAny_field hT hdT h3 ?_)
 rw [if_neg tL]
 refine wpAny_bind (wpAny_setField hT hdT z3 ?_)
 have hl1 : (s.heap.update T vC).FunFrames base (env :: outer) := hl.of_keeps fun b o q hn => ⟨o, (zj fun z => by subst z; rw [hT] at q; cases q; exact hn ts hdT).trans q, rfl⟩
 refine qcY (s := { s with heap := s.heap.update T vC }) hfr hl1 hf ((zj (Ne.symm hne)).trans he) hd z1 h2 h0 fun h' T' x y z => ?_
 refine k h' T' ⟨fun b o hb hf q => ?_, fun b o hb q => ?_⟩ y (.inr ?_)
 ·simp only [List.mem_cons, nN_, or_false, not_or] at hb
  exact x.keep b o (by simpa using hb.1) hf ((zj hb.2).trans q)
 ·exact x.slot b o hb ((zj fun (z : b = T) => nf (z ▸ hb)).trans q)
 ·by_cases e2 : T' = T
  ·subst e2
   obtain ⟨_, _, q, _⟩ := vE hT hdT z3
   have z' : (s.heap.update T' vC).get? T' = none := z
   rw [q] at z'; cases z'
  ·exact (zj e2).symm.trans z
theorem qdG {base : Heap} {env : PySem.Env} {outer : List PySem.Env} {L e T : Addr} {cls : Value} {Q : Unit -> Shared -> Prop} (hfr : A.frames = some (env :: outer)) (hl : s.heap.FunFrames base (env :: outer)) (hf : env.frame = some L) (F : qaY s.heap e T cls)
  (k : ∀ h' T', Lft s.heap h' [e, T] (frs (env :: outer)) -> qaY h' e T' cls -> (T' = T \/ s.heap.get? T' = none) -> Q () { s with heap := h' }) : wpAny M A (leaving env (.ref e)) Q E s := by
 unfold leaving
 exact wpAny_bind (wZ hfr hl hf F k)
theorem qdH {base h : Heap} {env : PySem.Env} {outer : List PySem.Env} {L e : Addr} {cls : Value} {args : List Value} {Q : Unit -> Shared -> Prop} (hfr : A.frames = some (env :: outer)) (hl : h.FunFrames base (env :: outer)) (hf : env.frame = some L) (hx : Heap.MadeExcOf h s.heap e cls args)
  (k : ∀ h' T', Lft s.heap h' [e] (frs (env :: outer)) -> qaY h' e T' cls -> s.heap.get? T' = none -> Q () { s with heap := h' }) : wpAny M A (leaving env (.ref e)) Q E s := by
 obtain ⟨t, he, htn, ht⟩ := hx.there
 have hl1 : s.heap.FunFrames base (env :: outer) := hl.of_keeps fun b o q _ => ⟨o, hx.keeps b o q, rfl⟩
 unfold leaving noteFrame
 simp only [hf]
 refine wpAny_bind (wpAny_bind (wpAny_field he rfl (x := .none) rfl ?_))
 rw [if_neg (by decide)]
 exact qcY hfr hl1 hf he rfl (of_decide_eq_true rfl) rfl rfl k
theorem qaz {base : Heap} {l : List PySem.Env} {e T : Addr} {cls : Value} {Q : Unit -> Shared -> Prop} (hl : s.heap.FunFrames base l) (F : qaY s.heap e T cls)
  (k : ∀ h' T', Lft s.heap h' [e, T] (frs l) -> qaY h' e T' cls -> (T' = T \/ s.heap.get? T' = none) -> Q () { s with heap := h' }) :
  wpAny M A (setFlight (.ref e) none) Q E s := by
 obtain ⟨oe, vs, oT, ts, a0, he, hc, hd, h1, hne, hT, hdT, h3⟩ := F
 have z3 : 3 < ts.size := (Array.getElem?_eq_some_iff.mp h3).1
 have nf := qil hl hT hdT
 refine qcX he hd h1 hT hdT z3 ?_
 obtain ⟨o2, t2, q1, q2, q3⟩ := vE hT hdT z3
 refine k _ T ⟨fun b o hb _ q => ?_, fun b o hb q => ⟨o.slots, (zj fun (z : b = T) => nf (z ▸ hb)).trans q⟩⟩ ⟨oe, vs, o2, t2, a0, (zj (Ne.symm hne)).trans he, hc, hd, h1, hne, q1, q2, q3⟩ (.inl rfl)
 simp only [List.mem_cons, nN_, or_false, not_or] at hb
 exact (zj hb.2).trans q
end
theorem qg4 {P : Program} {w : World} {H : Hp} {h h' : Heap} (x : HOk P w H h) (k : ∀ b o, (H b).isSome = true -> h.get? b = some o -> h'.get? b = some o) : HOk P w H h' := fun a o e =>
 (x a o e).stay (fun b u hb q => k b u (by
   rcases hb with rfl | hb; · rw [e]; rfl
   ·rw [hb]; rfl) q) (fun _ z => z) fun _ _ z => z
theorem ym {P : Program} {w : World} {H : Hp} {h : Heap} {a : Addr} {o : HO} (x : jX P w H h a o) : ∃ u, h.get? a = some u := by
 cases o with
 | lst xs => obtain ⟨_, _, _, _, e⟩ := x; exact ⟨_, e⟩
 | tup xs => obtain ⟨_, _, _, ob, e, _⟩ := x; exact ⟨_, e⟩
 | dK kvs => obtain ⟨_, _, _, _, o, _, _, e, _⟩ := x; exact ⟨_, e⟩
 | dT kvs => obtain ⟨_, _, _, _, o, _, _, e, _⟩ := x; exact ⟨_, e⟩
 | set S n => obtain ⟨o, _, _, _, e, _⟩ := x; exact ⟨_, e⟩
 | ins C dx fs => obtain ⟨_, _, _, e, _⟩ := x; exact ⟨_, e⟩
 | own y => obtain ⟨_, e⟩ := x; exact ⟨_, e⟩
 | xd fs => obtain ⟨_, ⟨_, _, _, e, _⟩, _⟩ := x; exact ⟨_, e⟩
 | rng lo hi => obtain ⟨_, _, _, e⟩ := x; exact ⟨_, e⟩
 | frz ob u => obtain ⟨e, _⟩ := x; exact ⟨_, e⟩
 | tbl ps => exact ⟨_, (show h.get? a = some _ from x)⟩
 | met f y => exact ⟨_, (show h.get? a = some _ from x)⟩
 | ext φ => obtain ⟨_, e, _⟩ := x; exact e
 | lam pos q => rcases x with e | ⟨_, _, _, _, _, _, _, e⟩ <;> exact ⟨_, e⟩
section
variable {X : Cx} {pins : List (Addr × Obj)} {σ : St} {H : Hp} {s : Shared}
theorem qcZ {H' : Hp} {s' : Shared} {h' : Heap} {ch : List Addr} (I : Inv X pins σ H s) (hs : X.stack = X.env :: X.outer) (hf : X.env.frame = some X.env.locals) (hex : X.ex = [])
  (u : Un (frs X.stack) [] H H' s.heap s'.heap) (hok : HOk X.prog X.w H' s'.heap) (hch : ∀ b ∈ ch, H' b = none) (hchn : ∀ b ∈ ch, s.heap.get? b = none) (x : Lft s'.heap h' ch (frs X.stack)) :
  Un (frs X.outer) [] X.H₀ H' X.s₀.heap h' /\ HOk X.prog X.w H' h' := by
 have hfs : frs X.stack = X.env.locals :: frs X.outer := by rw [hs]; unfold frs; rw [List.filterMap_cons, hf]
 have hb := I.base
 rw [hex] at hb
 have nL : ∀ b o, X.s₀.heap.get? b = some o -> b ≠ X.env.locals := fun b o q z => absurd (Nat.lt_of_lt_of_le (Heap.lt_size q) (z ▸ I.ok.above)) (Nat.lt_irrefl _)
 have nch : ∀ b o, X.s₀.heap.get? b = some o -> b ∉ ch := fun b o q z => by
  obtain ⟨o', q'⟩ := hb.there b o q (by simp)
  rw [hchn b z] at q'; cases q'
 have nfs : ∀ b o, X.s₀.heap.get? b = some o -> b ∉ frs X.outer -> b ∉ frs X.stack := fun b o q z y => by
  rw [hfs] at y
  exact (List.mem_cons.mp y).elim (nL b o q) z
 have yfs : ∀ b, b ∈ frs X.outer -> b ∈ frs X.stack := fun b z => by rw [hfs]; exact mM _ z
 refine ⟨⟨fun b o q n hb1 _ => ?_, fun b o q n hb1 _ => ?_, fun b o q n _ => ?_, fun b o q _ => ?_, fun b xs q => u.tups b xs (hb.tups b xs q), fun b o v q => u.frzs b o v (hb.frzs b o v q), fun b ps y q => u.tbls b ps y (hb.tbls b ps y q)⟩, ?_⟩
 ·exact x.keep b o (nch b o q) (nfs b o q hb1) (u.keep b o (hb.keep b o q n hb1 (by simp)) (hb.free b o q n (by simp)) (nfs b o q hb1) (by simp))
 ·obtain ⟨sl, q1⟩ := hb.slot b o q n hb1 (by simp)
  obtain ⟨sl2, q2⟩ := u.slot b _ q1 (hb.free b o q n (by simp)) (yfs b hb1) (by simp)
  obtain ⟨sl3, q3⟩ := x.slot b _ (yfs b hb1) q2
  exact ⟨sl3, q3⟩
 ·obtain ⟨o', q'⟩ := hb.there b o q (by simp)
  exact u.free b o' q' (hb.free b o q n (by simp)) (by simp)
 ·obtain ⟨o1, q1⟩ := hb.there b o q (by simp)
  obtain ⟨o2, q2⟩ := u.there b o1 q1 (by simp)
  by_cases hb1 : b ∈ frs X.stack
  ·obtain ⟨sl, q3⟩ := x.slot b o2 hb1 q2
   exact ⟨_, q3⟩
  ·exact ⟨o2, x.keep b o2 (nch b o q) hb1 q2⟩
 ·refine qg4 hok fun b o hb1 q => x.keep b o (fun z => ?_) (fun z => ?_) q
  ·rw [hch b z] at hb1; cases hb1
  ·obtain ⟨_, o1, ho1, _⟩ := I.stack.mem z
   rw [u.free b o1 ho1 (I.stkFree b z) (by simp)] at hb1
   cases hb1
theorem qim {s' : Shared} {E : XK} {u : Value} {A : Around} (I : Inv X pins σ H s) (hs : X.stack = X.env :: X.outer) (hf : X.env.frame = some X.env.locals) (hex : X.ex = []) (hA : A.frames = some X.stack) (x : CX1 X.prog X.w X.stack H s E u s') {E' : Value -> Shared -> Prop} :
  wpAny (model X.prog X.w) A (leaving X.env u) (fun _ s'' => CX1 X.prog X.w X.outer X.H₀ X.s₀ E u s'') E' s' := by
 obtain ⟨e, T, C, H', rfl, os, bare, un, hok, he, hT, hHe, hHT, F, q⟩ := x
 have hl : s'.heap.FunFrames X.base X.stack := by
  have h0 := I.stack
  have all : ∀ (l : List PySem.Env), (∀ b ∈ frs l, b ∈ frs X.stack) -> s.heap.FunFrames X.base l -> s'.heap.FunFrames X.base l := by
   intro l
   induction l with
   | nil => intro _ _; trivial
   | cons env r ih =>
    intro hss hl
    obtain ⟨hk, ⟨L, o, hf', hn, ho, hd⟩, hr⟩ := hl
    have hfr : frs (env :: r) = L :: frs r := by unfold frs; rw [List.filterMap_cons, hf']
    rw [hfr] at hss
    have hL := hss L mS_
    obtain ⟨sl, e⟩ := un.slot L o ho (I.stkFree L hL) hL (by simp)
    exact ⟨hk, ⟨L, _, hf', hn, e, hd⟩, ih (fun b hb => hss b (mM _ hb)) hr⟩
  exact all X.stack (fun _ z => z) h0
 rw [hs] at hl hA
 refine qdG hA hl hf F fun h' T' y1 y2 y3 => ?_
 rw [<- hs] at y1
 have hz : ∀ b ∈ [e, T], H' b = none := fun b hb => by
  simp only [List.mem_cons, nN_, or_false] at hb
  rcases hb with rfl | rfl
  ·exact hHe
  ·exact hHT
 have hzn : ∀ b ∈ [e, T], s.heap.get? b = none := fun b hb => by
  simp only [List.mem_cons, nN_, or_false] at hb
  rcases hb with rfl | rfl
  ·exact he
  ·exact hT
 obtain ⟨z1, z2⟩ := qcZ I hs hf hex un hok hz hzn y1
 have up : ∀ b, s.heap.get? b = none -> X.s₀.heap.get? b = none := fun b hb => by
  cases q : X.s₀.heap.get? b with
  | none => rfl
  | some o =>
   obtain ⟨o', q'⟩ := I.base.there b o q (by rw [hex]; simp)
   rw [hb] at q'; cases q'
 have up' : ∀ b, s'.heap.get? b = none -> s.heap.get? b = none := fun b hb => by
  cases q : s.heap.get? b with
  | none => rfl
  | some o =>
   obtain ⟨o', q'⟩ := un.there b o q (by simp)
   rw [hb] at q'; cases q'
 have hT2 : s.heap.get? T' = none := y3.elim (fun z => z ▸ hT) (up' T')
 have hHT2 : H' T' = none := y3.elim (fun z => z ▸ hHT) fun z => by
  cases q : H' T' with
  | none => rfl
  | some o =>
   obtain ⟨o', q'⟩ := ym (hok _ _ q)
   rw [z] at q'; cases q'
 exact ⟨e, T', C, H', rfl, os.trans I.os, bare, z1, z2, up e he, up T' hT2, hHe, hHT2, y2, q⟩
end
structure XC (base : Heap) (C : Addr) (bm : List Value) : Prop where
 hasBase : bm.contains (.type "BaseException") = true
 ex : ∃ nm q N bs hdct sn sub ab col dd k0 k1 k2 k3 k5 newId initId B bmB mN, base.get? C = some (excClassObj nm q C N bs bm hdct sn sub ab col dd k0 k1 k2 k3 k5 newId) /\ base.Ns N mN /\ mN "__init__" = none /\ OwnTail base bmB bm /\ ExcBaseFacts B newId initId bmB
def uZ (n p : Nat) (body : MS) (ds : List D) : R D := if ds.length = p then match body (jk n ds) with
 | .ok (.rt d _) => .ok d
 | .ok (.nx _) => .ok .non
 | .exc x ρ => .exc x ρ
 | _ => .bad else .bad
section
variable {X : Cx} {c : Fc} {e : Expr} {es : List Expr} {pos cpos np : Pos}
theorem qgi {x : Str} {C : Addr} {bm : List Value} {t : TA} {E : XK} (hc : X.calm = true) (hg : Gl X x) (hm : X.mg x = some (.ref C)) (xc : XC X.base C bm) (ha : PA X (e :: es) t)
  (made : ∀ pins σ H s h' a us, Inv X pins σ H s -> Heap.MadeExcOf s.heap h' a (.ref C) us -> E (.ref C) none H -> X.xe (.ref a) { s with heap := h' })
  (hd : (x == ("__debug__" : Str)) = false := by decide) (he : starEach (e :: es) X.env = (false, eval e X.env) :: starEach es X.env := by rfl) (hpl : (backTo cpos (starEach es X.env)).any (·.1) = false := by rfl) :
  PS X (.Raise (some (.Call (.Name x np) (e :: es) [] cpos)) none pos) (fun _ σ H => t σ H fun vs H1 => vs.length <= sizeLine /\ E (.ref C) none H1) := by
 intro pins s σ H D I h
 obtain ⟨nm, q, N, bs, hdct, sn, sub, ab, col, dd, k0, k1, k2, k3, k5, newId, initId, B, bmB, mN, hC, hN, hni, T, FB⟩ := xc.ex
 refine wpAny_Raise_call_subT (C := C) (nm := nm) (q := q) (N := N) (bs := bs) (bm := bm) (hdct := hdct) (sn := sn) (sub := sub) (ab := ab) (col := col) (dd := dd) (k0 := k0) (k1 := k1) (k2 := k2) (k3 := k3) (k5 := k5)
  FB (mN := mN) xc.hasBase (I.ok.hd hc) (by rw [he]; show (false || (backTo cpos (starEach es X.env)).any (·.1)) = false; rw [hpl]; rfl) hni ?_
 have hn : PE X (.Name x np) (fun _ H Q => Q (.ref C) H) := qcf hg hm rfl hd
 refine thn (hn pins s σ H (fun v H1 => v = .ref C /\ H1 = H) I ⟨rfl, rfl⟩) fun f s1 h1 => ?_
 obtain ⟨v, H1, I1, rv, rfl, rfl⟩ := h1
 refine ⟨rv, ?_⟩
 have h2 := ha cpos pins s1 σ _ _ I1 h
 rw [he] at h2 |-
 refine Calls.evalArgs_plain (thn h2 fun vs s2 h3 => ?_)
 obtain ⟨ws, H2, I2, r2, hl, hE⟩ := h3
 refine ⟨rfl, by rw [<- r2.length]; exact hl, I2.bk _ _ hC, hN.keeps I2.bk, T.keeps I2.bk, fun h' a hx => made pins σ H2 s2 h' a vs I2 hx hE⟩
structure XL (X : Cx) (c : Fc) (cl : Str -> Option Addr) (E : XK) : Prop where
 made : ∀ C pins σ H s h' a us, Inv X pins σ H s -> Heap.MadeExcOf s.heap h' a (.ref C) us -> E (.ref C) none H -> X.xe (.ref a) { s with heap := h' }
 pass : wC (CX1 X.prog X.w) X E
 wish : ∀ x C H', cl x.cls = some C -> c.E x H' -> E (.ref C) none H'
structure XL2 (X : Cx) (c : Fc) (cl : Str -> Option Addr) (E : XK) : Prop where
 pass : wC (CX1 X.prog X.w) X E
 wish : ∀ x C H', cl x.cls = some C -> c.E x H' -> E (.ref C) none H'
theorem XL.two {X : Cx} {c : Fc} {cl : Str -> Option Addr} {E : XK} (L : XL X c cl E) : XL2 X c cl E := ⟨L.pass, L.wish⟩
def qaA (x : Str) (f : M (List D)) : MS := fun ρ => match f ρ with
 | .ok (ds, ρ') => if qH ds.length then .exc ⟨x, .non⟩ ρ' else .bad
 | .exc z ρ' => .exc z ρ'
 | .bad => .bad
theorem qaZ {x : Str} {C : Addr} {bm : List Value} {f : M (List D)} {E : XK} {cl : Str -> Option Addr} (hc : X.calm = true) (L : XL X c cl E) (hcl : cl x = some C) (hg : Gl X x) (hm : X.mg x = some (.ref C)) (xc : XC X.base C bm) (ha : DA X c (e :: es) f)
  (hd : (x == ("__debug__" : Str)) = false := by decide) (he : starEach (e :: es) X.env = (false, eval e X.env) :: starEach es X.env := by rfl) (hpl : (backTo cpos (starEach es X.env)).any (·.1) = false := by rfl) :
  DS X c (.Raise (some (.Call (.Name x np) (e :: es) [] cpos)) none pos) (qaA x f) := by
 obtain ⟨t, pa, w⟩ := ha
 refine ⟨_, qgi (E := E) hc hg hm xc pa (L.made C) hd he hpl, fun ρ σ H D r h => w ρ σ H _ r ?_⟩
 unfold qaA at h
 cases ef : f ρ with
 | bad => rw [ef] at h; exact h
 | exc z ρ' => rw [ef] at h; exact fun H' r' g' => h σ H' r' g'.s
 | ok p =>
  obtain ⟨ds, ρ'⟩ := p
  rw [ef] at h
  intro vs H' r' i' g'
  by_cases hs : qH ds.length = true
  ·simp only [hs, if_true] at h
   exact ⟨by rw [i'.length]; exact of_decide_eq_true hs, L.wish ⟨x, .non⟩ C H' hcl (h σ H' r' g'.s)⟩
  ·simp only [hs] at h
   exact h.elim
def spX (K : Fr0) (cl : Str -> Option Addr) (F : List D -> R D) : Sp := fun vs H Q E => ∃ ds A, IsL K A H ds vs /\ qaN K H /\ match F ds with
 | .ok d => ∀ v H', zM H H' -> Is K (fun a => A a \/ H a = none) H' d v -> Q v H'
 | .exc x _ => ∃ C, cl x.cls = some C /\ ∀ H', zM H H' -> E (.ref C) none H'
 | .bad => False
def zS (RN : List Str) (F : List D -> R D) (g : M (List D)) : M D := bnd g fun ds ρ => match F ds with
 | .ok d => .ok (d, ρ)
 | .exc x _ => if RN.contains x.cls then .exc x ρ else .bad
 | .bad => .bad
theorem qgj {k : Nat} {f : Addr} {fd : FuncData} {ps : List Str} {F : List D -> R D} {x : Str} {p : Pos} {g : M (List D)} {E : XK} {cl : Str -> Option Addr} (L : XL2 X c cl E) {RN : List Str} (hcl : ∀ n, RN.contains n = true -> (cl n).isSome = true)
  (G : ub X.prog X.w X.K X.mg X.base (CX1 X.prog X.w) k f fd ps (spX X.K cl F)) (hr : yH k X.A) (hg : Gl X x) (hm : X.mg x = some (.ref f)) (hk : PySem.W.keepIn X.K (.ref f) = true) (hb : uc X.K fd ps [])
  (ha : DA X c (e :: es) g) (hd : (x == ("__debug__" : Str)) = false := by decide) (he : starEach (e :: es) X.env = (false, eval e X.env) :: starEach es X.env := by rfl) (hpl : (backTo pos (starEach es X.env)).any (·.1) = false := by rfl) : DE X c (.Call (.Name x p) (e :: es) [] pos) (zS RN F g) := by
 obtain ⟨t, pa, w⟩ := ha
 refine ⟨_, wD G hr hg hm hk hb .nil L.pass pa hd he hpl, fun ρ σ H Q r h => w ρ σ H _ r (WpL.bnd h fun ds ρ1 vs H1 r1 i1 g1 h1 => ?_)⟩
 rw [List.append_nil]
 refine ⟨ds, Cn c σ, i1, r1.tb, ?_⟩
 cases ef : F ds with
 | bad => simp only [ef] at h1; exact h1.elim
 | exc z ρ' =>
  simp only [ef] at h1
  by_cases hz : RN.contains z.cls = true
  case neg => rw [if_neg hz] at h1; exact h1.elim
  rw [if_pos hz] at h1
  obtain ⟨C, hC⟩ := Option.isSome_iff_exists.mp (hcl z.cls hz)
  exact ⟨C, hC, fun H' sm => L.wish z C H' hC (h1 H' (r1.same sm) (.of_same sm))⟩
 | ok d =>
  simp only [ef] at h1
  exact fun v H' sm i => h1 v H' (r1.same sm) (Is.ext Ext.refl (fun a ha _ => ha.elim id r1.new) i) (.of_same sm)
def vi (F : List D -> R D) (g : M (List D)) : M D := bnd g fun ds ρ => match F ds with
 | .ok d => .ok (d, ρ)
 | _ => .bad
theorem qgk {k : Nat} {f : Addr} {fd : FuncData} {ps : List Str} {F : List D -> R D} {x : Str} {p : Pos} {g : M (List D)} {cl : Str -> Option Addr}
  (G : ub X.prog X.w X.K X.mg X.base (CX1 X.prog X.w) k f fd ps (spX X.K cl F)) (hr : yH k X.A) (hg : Gl X x) (hm : X.mg x = some (.ref f)) (hk : PySem.W.keepIn X.K (.ref f) = true) (hb : uc X.K fd ps [])
  (ha : DA X c (e :: es) g) (hd : (x == ("__debug__" : Str)) = false := by decide) (he : starEach (e :: es) X.env = (false, eval e X.env) :: starEach es X.env := by rfl) (hpl : (backTo pos (starEach es X.env)).any (·.1) = false := by rfl) : DE X c (.Call (.Name x p) (e :: es) [] pos) (vi F g) := by
 obtain ⟨t, pa, w⟩ := ha
 refine ⟨_, wD (E := fun _ _ _ => False) G hr hg hm hk hb .nil (fun _ _ _ _ _ _ _ ⟨_, _, _, _, _, _, _, _, _, _, _, _, _, _, z⟩ => z.elim) pa hd he hpl, fun ρ σ H Q r h => w ρ σ H _ r (WpL.bnd h fun ds ρ1 vs H1 r1 i1 g1 h1 => ?_)⟩
 rw [List.append_nil]
 refine ⟨ds, Cn c σ, i1, r1.tb, ?_⟩
 cases ef : F ds with
 | bad => simp only [ef] at h1; exact h1.elim
 | exc z ρ' => simp only [ef] at h1; exact h1.elim
 | ok d =>
  simp only [ef] at h1
  exact fun v H' sm i => h1 v H' (r1.same sm) (Is.ext Ext.refl (fun a ha _ => ha.elim id r1.new) i) (.of_same sm)
end
section
variable {P : Program} {w : World} {K : PySem.W.Frag} {mg : Str -> Option Value} {base : Heap}
theorem uh {N : List Str} {qual : Str} {scope : Scope} {f : Addr} {cdv : Value} {A : Around} {outer : List PySem.Env} {s : Shared} {H : Hp} {E : XK} {c : Fc} {cl : Str -> Option Addr} (hf : (envOfC qual scope s.heap.objs.size f cdv).frame = some s.heap.objs.size)
  (hw : ∀ x C H', cl x.cls = some C -> c.E x H' -> E (.ref C) none H') : XL (qef (CX1 P w) P w K mg base N qual scope f cdv A outer s H E) c cl E where
 made := fun C pins σ H1 s1 h' a us I hx hE => by
  show wpAny (model P w) _ (leaving _ (.ref a)) _ _ _
  refine qdH (s := { s1 with heap := h' }) (h := s1.heap) (base := base) I.ok.frames I.stack hf hx fun h2 T' y1 y2 y3 => ?_
  have hn : H1 a = none := by
   cases q : H1 a with
   | none => rfl
   | some o =>
    obtain ⟨o', q'⟩ := ym (I.hok _ _ q)
    rw [hx.new] at q'; cases q'
  have hT : s1.heap.get? T' = none := by
   cases q : s1.heap.get? T' with
   | none => rfl
   | some o => rw [show ({ s1 with heap := h' } : Shared).heap.get? T' = some o from hx.keeps _ _ q] at y3; cases y3
  have hHT : H1 T' = none := by
   cases q : H1 T' with
   | none => rfl
   | some o =>
    obtain ⟨o', q'⟩ := ym (I.hok _ _ q)
    rw [hT] at q'; cases q'
  have up : ∀ b, s1.heap.get? b = none -> s.heap.get? b = none := fun b hb => by
   cases q : s.heap.get? b with
   | none => rfl
   | some o =>
    obtain ⟨o', q'⟩ := I.base.there b o q (by show b ∉ ([] : List Addr); simp)
    rw [hb] at q'; cases q'
  obtain ⟨z1, z2⟩ := qcZ (s' := { s1 with heap := h' }) I rfl hf rfl (Un.kept hx.keeps) (I.hok.kept hx.keeps) (fun b hb => by rw [List.mem_singleton] at hb; subst hb; exact hn) (fun b hb => by rw [List.mem_singleton] at hb; subst hb; exact hx.new) y1
  exact ⟨a, T', C, H1, rfl, I.os, I.bare, z1, z2, up a hx.new, up T' hT, hn, hHT, y2, hE⟩
 pass := fun pins σ H1 s1 u s' I x => qim I rfl hf rfl I.ok.frames x
 wish := hw
theorem ui {x qual : Str} {st : Stmt} {f : Addr} {fd : FuncData} {N ps : List Str} {k : Nat} {O : List Nat} {body : MS} {cl : Str -> Option Addr} (F : Fun K x qual st f fd) (S : qp N ps (qe st)) (hO : ∀ i ∈ O, ps.length <= i)
  (hb : ∀ (cdv : Value) (A : Around) (outer : List PySem.Env) (s : Shared) (H : Hp) (E : XK) (B : Addr -> Prop), yH k (A.deeper (envOfC qual (qe st) s.heap.objs.size f cdv)) ->
   DSs (qef (CX1 P w) P w K mg base N qual (qe st) f cdv A outer s H E) (cfn O [] B H (fun _ => False) (fun x H' => ∀ C, cl x.cls = some C -> E (.ref C) none H') fun _ => none) (qo st) body) :
  ub P w K mg base (CX1 P w) (k + 1) f fd ps (spX K cl (uZ N.length ps.length body)) := by
 obtain ⟨oc, od, kV, doc, pm, an, cdv, ct, osl, rfl, lk, hcd⟩ := F.ex
 refine qhy lk hcd S (fun vs H Q E h => ?_) fun A outer s H vs Q E hr h => ?_
 ·obtain ⟨ds, B, il, _, h⟩ := h
  unfold uZ at h
  by_cases e : ds.length = ps.length
  ·rw [il.length]; exact e
  ·rw [if_neg e] at h; exact h.elim
 ·obtain ⟨ds, B, il, tb, h⟩ := h
  obtain ⟨t, p, wt⟩ := hb cdv A outer s H E B hr
  refine ⟨t, p, ?_⟩
  unfold uZ at h
  by_cases e : ds.length = ps.length
  ·rw [if_pos e] at h
   refine wt (jk N.length ds) (qU N vs) H _ (uf il tb (fun i hi => by rw [e]; exact hO i hi)) ?_
   have same : ∀ {ρ : Env} {σ : St} {H' : Hp}, Rep K (cfn O [] B H (fun _ => False) (fun x H' => ∀ C, cl x.cls = some C -> E (.ref C) none H') fun _ => none) ρ σ H' -> zM H H' := fun r b o hb => r.kp b o hb fun z => z
   cases eb : body (jk N.length ds) with
   | bad => rw [eb] at h; exact h.elim
   | exc z ρ =>
    rw [eb] at h
    obtain ⟨C, hC, h⟩ := h
    exact fun σ' H' r' _ C' hC' => by
     rw [hC] at hC'; cases hC'
     exact h H' (same r')
   | ok fl =>
    rw [eb] at h
    cases fl with
    | nx ρ => exact fun σ' H' r' _ => h .non H' (same r') rfl
    | rt d ρ => exact fun v σ' H' r' i' _ => h v H' (same r') i'
    | bk ρ => exact h.elim
    | ct ρ => exact h.elim
  ·rw [if_neg e] at h; exact h.elim
structure jv (P : Program) (w : World) (K : PySem.W.Frag) (mg : Str -> Option Value) (base : Heap) (k : Nat) (x : Str) (ps : List Str) (sp : Sp) : Prop where
 ex : ∃ f fd, ub P w K mg base (CX1 P w) k f fd ps sp /\ mg x = some (.ref f) /\ PySem.W.keepIn K (.ref f) = true /\ uc K fd ps []
end
theorem qc0 {X : Cx} {c : Fc} {st : Stmt} {f : MS} (h : DS X.nox c st f) : DS X c st f := by
 obtain ⟨t, p, w⟩ := h
 exact ⟨t, fun pins s σ H D I hw => wpAny_mono (p pins s σ H D (I.wish _) hw) (fun _ _ q => q.unwish) fun _ _ z => False.elim z, w⟩
section
variable {M : Model} {A : Around} {E : Value -> Shared -> Prop}
variable {nm q nm' q' : Str} {C S N N' : Addr} {bs bm bs' bm' : List Value} {hdct hdct' : Bool} {sn sn' : List Str} {sub sub' : List Value} {ab ab' : Bool} {col col' : Option Bool} {dd dd' : Option Addr} {k0 k1 k2 k3 k5 j0 j1 j2 j3 j5 : Option Value} {newId newId' : String}
theorem uL {h : Heap} {g : Array GenState} {d : Drawn} {t : Nat} {os : OsState} {e : Addr} {oe : Obj} {Q : Bool -> Shared -> Prop}
  (hC : h.get? C = some (excClassObj nm q C N bs bm hdct sn sub ab col dd k0 k1 k2 k3 k5 newId)) (hS : h.get? S = some (excClassObj nm' q' S N' bs' bm' hdct' sn' sub' ab' col' dd' j0 j1 j2 j3 j5 newId'))
  (he : h.get? e = some oe) (hcls : oe.cls = .ref C) (hbase : bm'.contains (.type "BaseException") = true)
  (hq : Q ((Value.ref C :: bm).contains (.ref S)) ⟨h, g, d, t, os⟩) : wpAny M A (excMatches (.ref e) (.ref S)) Q E ⟨h, g, d, t, os⟩ := by
 have hcB : (Value.ref S :: bm').contains (.type "BaseException") = true := by rw [List.contains_cons, hbase, Bool.or_true]
 have f := tc_notTuple
 unfold excMatches
 repeat (first | (with_reducible refine wpAny_loadPart_at he ?_; rw [hcls]) | with_reducible refine wpAny_loadPart_at hS ?_ | (with_reducible refine wpAny_isSubtype_exc hS ?_; rw [hcB]) | with_reducible refine wpAny_isSubtype_exc hC ?_ | wp_step)
 all_goals (first | exact hq | (cases hb : (Value.ref C :: bm).contains (.ref S) <;> (rw [hb] at hq; wp_walk; exact hq)))
end
end L2.Sk
namespace L2
open PySem PySem.Spec PyProof.Rows
def AloneA (A : Around) (H : Hp) : Prop := ∃ e oe u vs, A.handled = some (.ref e) /\ H e = some (.frz oe u) /\ oe.data = .fields vs /\ vs[2]? = some .none
def qkG (A : Around) (sp : Sp) (dvs : List V) (E : XK) (t : TA) : TE := fun σ H Q => t σ H fun vs H1 => AloneA A H1 /\ sp (vs ++ dvs) H1 Q E
structure yB (k : Nat) (A : Around) : Prop where
 dp : A.depth + 3 * k + 5 < recursionLimit
 un : A.units + 16 * k + 200 < cLine
 gd : A.guards = some []
theorem yB.mono {j k : Nat} {A : Around} (r : yB k A) (h : j <= k) : yB j A := ⟨by have := r.dp; omega, by have := r.un; omega, r.gd⟩
theorem yB.deeper {k : Nat} {A : Around} (r : yB (k + 1) A) (env : Env) : yB k (A.deeper env) :=
 ⟨by have := r.dp; show A.depth + 1 + 3 * k + 5 < _; omega, by have := r.un; show A.units + 3 + 16 * k + 200 < _; omega, r.gd⟩
theorem yB.depth {k : Nat} {A : Around} (r : yB k A) : A.depth < recursionLimit := by have := r.dp; omega
structure qa0 (P : Program) (w : World) (K : PySem.W.Frag) (mg : Str -> Option Value) (base : Heap) (CX : CXT) (k : Nat) (f : Addr) (fd : FuncData) (ps : List Str) (sp : Sp) : Prop where
 len : ∀ vs H Q E, sp vs H Q E -> vs.length = ps.length
 run : ∀ (A : Around) (outer : List Env) (s : Shared) (H : Hp) (args : Args) (us : List Value) (vs : List V) (Q : VK) (E : XK), yB k A -> AloneA A H -> qi4 P w K mg base A outer s H -> BindsTo s fd args (ps.zip us) -> qT vs us -> sp vs H Q E ->
  codeAny (model P w) A (.call (.ref f) args) (CR CX outer P w H s Q E) s
def qdI (CX : CXT) (P : Program) (w : World) (K : PySem.W.Frag) (mg : Str -> Option Value) (base : Heap) (N : List Str) (qual : Str) (scope : Scope) (f : Addr) (cd : Value) (A : Around) (outer : List Env) (s : Shared) (H : Hp) (E : XK) : Cx where
 prog := P
 w := w
 K := K
 mg := mg
 base := base
 A := A.deeper (envOfC qual scope s.heap.objs.size f cd)
 N := N
 s₀ := s
 H₀ := H
 env := envOfC qual scope s.heap.objs.size f cd
 outer := outer
 stack := envOfC qual scope s.heap.objs.size f cd :: outer
 ex := []
 calm := false
 fn := fun _ => true
 pn := []
 xe := fun e s' => wpAny (model P w) (A.deeper (envOfC qual scope s.heap.objs.size f cd)) (leaving (envOfC qual scope s.heap.objs.size f cd) e) (fun _ s'' => CX outer H s E e s'') (fun e' s'' => CX outer H s E e' s'') s'
theorem qdJ {CX : CXT} {P : Program} {w : World} {K : PySem.W.Frag} {mg : Str -> Option Value} {base : Heap} {N ps : List Str} {qual : Str} {scope : Scope} {f : Addr} {cd : Value} {A : Around} {outer : List Env} {s s1 : Shared} {H : Hp} {E : XK} {us : List Value} {vs : List V}
  (S : qp N ps scope) (e0 : qi4 P w K mg base A outer s H) (hl : vs.length = ps.length) (r : qT vs us)
  (x : InCallC s s.heap.objs.size (bindL (envOfC qual scope s.heap.objs.size f cd).kindOf (ps.zip us) fun _ => none) (cellsFrom (s.heap.objs.size + 1) scope.names []) (bindC (envOfC qual scope s.heap.objs.size f cd).kindOf (ps.zip us) fun _ => none) s1) :
  Inv (qdI CX P w K mg base N qual scope f cd A outer s H E) [] (qU N vs) H s1 := by
 have hpl : ps.length <= N.length := by have := congrArg List.length S.pre; rw [List.length_take] at this; omega
 obtain ⟨h1, tk, rfl, hk⟩ := x.done
 have noA : ∀ b : Addr, b ∉ (qdI CX P w K mg base N qual scope f cd A outer s H E).ex := fun b z => absurd (show b ∈ ([] : List Addr) from z) (by simp)
 refine ⟨⟨e0.mod, S.kind, rfl, rfl, Nat.le_refl _, fun y z c h1 h2 => ?_, fun y hy => ?_, fun y c _ h => ?_, (fun z => Bool.noConfusion z), Around.frames_deeper e0.frames, .inr ⟨rfl, rfl⟩, fun b z => absurd z (noA b), e0.bs, e0.bsz, fun b _ _ => noA b, fun b z => absurd z (noA b), e0.funs, e0.frf⟩,
  rfl, e0.bare, Un.kept hk, ⟨_, x.toInCall.ns, fun i y v h1 h2 h3 => ?_⟩, fun y c h => ⟨_, x.cell y c h⟩, e0.hok.fresh (Nat.le_refl _), fun y c h => ?_, fun p hp => absurd (show p ∈ ([] : List (Addr × Obj)) from hp) (by simp), e0.hok.kept hk, ?_⟩
 ·exact name_of_addr x.apart (PySem.mem_of_lookup h1) (PySem.mem_of_lookup h2)
 ·have hy : scope.names.lookup y = some .cell \/ scope.names.lookup y = some .free := hy
  rcases hy with hy | hy
  ·exact wm hy
  ·exact absurd rfl (S.nofree _ (PySem.mem_of_lookup hy))
 ·exact Nat.le_of_lt (x.above y c (PySem.mem_of_lookup h))
 ·have hi : i < vs.length := by
   unfold qU at h2
   by_cases hi : i < vs.length
   ·exact hi
   ·rw [List.getElem?_append_right (by simpa using hi)] at h2
    rw [List.getElem?_replicate] at h2
    split at h2 <;> cases h2
  have ha : vs[i]? = some v := by
   unfold qU at h2
   rw [List.getElem?_append_left (by simpa using hi), gM_] at h2
   cases e : vs[i]? with
   | none => rw [e] at h2; cases h2
   | some a => rw [e] at h2; cases h2; rfl
  obtain ⟨u, hu, rv⟩ := r.get ha
  have hp : ps[i]? = some y := by
   rw [<- S.pre, List.getElem?_take_of_lt (by omega)]; exact h1
  have ndP : ps.Nodup := by rw [<- S.pre]; exact S.nd.sublist (List.take_sublist _ _)
  refine ⟨u, rv, ?_⟩
  rcases S.par y (List.mem_of_getElem? hp) with k | k
  ·exact .inl ⟨k, wE ndP hp hu k⟩
  ·obtain ⟨c, e⟩ := wm (n := s.heap.objs.size + 1) k
   refine .inr ⟨.inl k, c, e, ?_⟩
   have q := x.cell y c e
   rw [wF ndP hp hu (by show scope.names.lookup y ≠ _; rw [k]; decide)] at q
   exact q
 ·exact e0.hok.fresh (Nat.le_of_lt (x.above y c (PySem.mem_of_lookup h)))
 ·unfold qU
  show _ = N.length
  rw [lA_, lM_, List.length_replicate]
  omega
theorem qkH {CX : CXT} {P : Program} {w : World} {K : PySem.W.Frag} {mg : Str -> Option Value} {base : Heap} {k : Nat} {f : Addr} {name qual : Str} {params : Arguments} {body : List Stmt} {scope : Scope} {dV kV doc pm cdv ct oc : Value} {an od : Option Addr}
  {osl : Array (Option Value)} {N ps : List Str} {sp : Sp} (lk : K.lookup f = some ⟨oc, od, .func (PySem.W.fnOf name qual params body scope dV kV doc pm an cdv ct), osl⟩) (hcd : PySem.W.codeIn K cdv qual = true) (S : qp N ps scope)
  (len : ∀ vs H Q E, sp vs H Q E -> vs.length = ps.length)
  (hbody : ∀ (A : Around) (outer : List Env) (s : Shared) (H : Hp) (vs : List V) (Q : VK) (E : XK), yB k (A.deeper (envOfC qual scope s.heap.objs.size f cdv)) -> AloneA (A.deeper (envOfC qual scope s.heap.objs.size f cdv)) H -> sp vs H Q E ->
   ∃ t, PSs (qdI CX P w K mg base N qual scope f cdv A outer s H E) body t /\ t { nx := fun _ H' => Q .non H', rt := Q } (qU N vs) H) :
  qa0 P w K mg base CX (k + 1) f (PySem.W.fnOf name qual params body scope dV kV doc pm an cdv ct) ps sp := by
 refine ⟨len, fun A outer s H args us vs Q E hr al e0 hb r hsp => ?_⟩
 have hl := len _ _ _ _ hsp
 have KX : K.In s.heap := e0.mod.kin.keeps fun b o e => (e0.bs b o e).1
 have lim : s.heap.NoLimit := e0.mod.nolimit.keeps fun b o e => (e0.bs b o e).1
 have hkind : ∀ y ∈ ps.zip us, scope.names.lookup y.1 = some .local \/ (scope.names.lookup y.1 = some .cell /\ ((cellsFrom (s.heap.objs.size + 1) scope.names []).lookup y.1).isSome = true) := fun ⟨n, v⟩ hy => by
  rcases S.par n (List.of_mem_zip hy).1 with q | q
  ·exact .inl q
  ·exact .inr ⟨q, PySem.W.cellsFrom_some _ _ _ (.inl q)⟩
 refine codeAny_call_function hr.depth (KX _ _ lk) rfl S.co S.gen rfl (PySem.W.codeRec_of KX hcd) (hb _ _ _ _ ?_)
 refine wpAny_newFunctionEnv_cells S.kind hkind fun env he s1 x => ?_
 subst he
 refine ⟨lim.keeps x.toInCall.keep, codeAny_func ?_⟩
 obtain ⟨t, ht, hq⟩ := hbody A outer s H vs Q E (hr.deeper _) al hsp
 have I : Inv (qdI CX P w K mg base N qual scope f cdv A outer s H E) [] (qU N vs) H s1 := qdJ S e0 hl r x
 refine wpAny_mono (ht [] s1 (qU N vs) H _ I hq) (fun fl s' hs => ?_) fun e s' hs => hs
 have fin : ∀ {σ' : St} {H' : Hp} {v : V} {u : Value}, Inv (qdI CX P w K mg base N qual scope f cdv A outer s H E) [] σ' H' s' -> zZ v u -> Q v H' -> CE outer P w H s Q u s' :=
  fun {σ' H' v u} J rv q => ⟨v, H', J.os, J.bare, J.base, J.hok, rv, q⟩
 cases fl with
 | ret u =>
  obtain ⟨v, σ', H', J, rv, q⟩ := hs
  exact fin J rv q
 | next =>
  obtain ⟨σ', H', J, q⟩ := hs
  exact fin (v := V.non) (u := Value.none) J rfl q
 | brk =>
  obtain ⟨_, _, _, q⟩ := hs
  exact False.elim q
 | cont =>
  obtain ⟨_, _, _, q⟩ := hs
  exact False.elim q
section
variable {X : Cx} {CX : CXT} {k : Nat} {f C : Addr} {fd : FuncData} {ps : List Str} {sp : Sp} {dvs : List V} {ds : List Value} {E : XK} {x m : Str} {p pos apos : Pos} {e o : Expr} {es : List Expr} {ta : TE} {t : TA}
theorem qin {pins : List (Addr × Obj)} {σ : St} {H : Hp} {s : Shared} {Q : VK} {us : List Value} {vs : List V} (F : qa0 X.prog X.w X.K X.mg X.base CX k f fd ps sp) (hr : yB k X.A) (hb : uc X.K fd ps ds) (hd : qT dvs ds) (hx : wC CX X E)
  (I : Inv X pins σ H s) (r : qT vs us) (al : AloneA X.A H) (h : sp (vs ++ dvs) H Q E) : wpAny (model X.prog X.w) X.A (call (.ref f) us) (EP X pins σ Q) X.xe s := by
 have r2 : qT (vs ++ dvs) (us ++ ds) := r.append hd
 have hl : (us ++ ds).length = ps.length := by rw [<- r2.length]; exact F.len _ _ _ _ h
 refine wpAny_call (codeAny_mono (F.run X.A X.stack s H ⟨us, []⟩ (us ++ ds) (vs ++ dvs) Q E hr al I.env0 (hb s us I.kIn hl) r2 h) fun r s' hq => ?_)
 cases r with
 | error e => exact hx pins σ H s e s' I hq
 | ok fl =>
  cases fl with
  | ret u => exact I.after hq
  | next => exact False.elim hq
  | brk => exact False.elim hq
  | cont => exact False.elim hq
theorem qc1 (F : qa0 X.prog X.w X.K X.mg X.base CX k f fd ps sp) (hr : yB k X.A) (hg : Gl X x) (hm : X.mg x = some (.ref f)) (hk : PySem.W.keepIn X.K (.ref f) = true) (hb : uc X.K fd ps ds) (hd : qT dvs ds) (hx : wC CX X E)
  (ha : PA X (e :: es) t) (hdb : (x == ("__debug__" : Str)) = false := by decide) (he : starEach (e :: es) X.env = (false, eval e X.env) :: starEach es X.env := by rfl) (hpl : (backTo pos (starEach es X.env)).any (·.1) = false := by rfl) :
  PE X (.Call (.Name x p) (e :: es) [] pos) (qkG X.A sp dvs E t) := by
 intro pins s σ H Q I h
 refine wpAny_Call_Name_kw (wy I hg hm ?_ hdb)
 refine PySem.W.callWith_K (h₀ := X.base) I.ok.mod.kin hk (thn (ha pos pins s σ H _ I h) fun us s1 ⟨vs, H1, I1, r, q⟩ => ⟨I1.kIn, ?_⟩) he hpl
 exact qin F hr hb hd hx I1 r q.1 q.2
end
end L2
namespace L2.Sk
open PySem PySem.Spec PyProof.Rows
def isT (b : Bool) : Value -> Bool
 | .bool a => a == b
 | _ => false
section
variable {X : Cx}
end
def qmI (x : D) (ys : List D) : Option D := match x, ys with
 | .lst ds, [.bl b] => (uH ds).map fun bs => .int (bs.countP (· == b))
 | _, _ => none
def qkI (F : D -> List D -> Option D) (f : M D) (g : M (List D)) : M D := bnd f fun x => match x with
 | .lst ds => bnd g fun ys => lift (F (.lst ds) ys)
 | _ => fun _ => .bad
section
variable {X : Cx} {c : Fc} {o e : Expr} {es : List Expr} {apos cpos : Pos}
end
def isI (b : Int) : Value -> Bool
 | .int a _ => a == b
 | _ => false
section
variable {X : Cx}
end
def qmJ (x : D) (ys : List D) : Option D := match x, ys with
 | .lst ds, [.int b] => (qai ds).map fun ns => .int (ns.countP (· == b))
 | _, _ => none
@[reducible] def toX (X : Cx) (xe : Value -> Shared -> Prop) (pn : List (Addr × Obj)) : Cx := { X with xe := xe, pn := pn }
@[reducible] def hdX (X : Cx) (e : Addr) : Cx := { X with A := X.A.mark (some (.ref e)), calm := false, xe := fun _ _ => False }
section
variable {X : Cx} {pins : List (Addr × Obj)} {σ : St} {H : Hp} {s : Shared} {xe : Value -> Shared -> Prop}
theorem qg5 (I : Inv X pins σ H s) : Inv (toX X xe (X.pn ++ pins)) [] σ H s :=
 let k := I.ok
 ⟨⟨k.mod, k.kind, k.glob, k.blt, k.above, k.inj, k.has, k.cab, k.hd, k.frames, k.stk, k.exf, k.bs, k.bsz, k.noex, k.exfs, k.funs, k.frf⟩, I.os, I.bare, I.base, I.loc, I.cell, I.free, I.freeC,
  fun p hp => I.pin p (by rw [List.append_nil] at hp; exact hp), I.hok, I.len⟩
theorem jG {pins2 : List (Addr × Obj)} (I : Inv (toX X xe (X.pn ++ pins)) pins2 σ H s) : Inv X pins σ H s :=
 let k := I.ok
 ⟨⟨k.mod, k.kind, k.glob, k.blt, k.above, k.inj, k.has, k.cab, k.hd, k.frames, k.stk, k.exf, k.bs, k.bsz, k.noex, k.exfs, k.funs, k.frf⟩, I.os, I.bare, I.base, I.loc, I.cell, I.free, I.freeC,
  fun p hp => I.pin p (List.mem_append_left _ hp), I.hok, I.len⟩
theorem qc2 (e : Addr) (I : Inv X pins σ H s) : Inv (hdX X e) pins σ H s :=
 let k := I.ok
 ⟨⟨k.mod, k.kind, k.glob, k.blt, k.above, k.inj, k.has, k.cab, fun z => (nomatch z), k.frames, k.stk, k.exf, k.bs, k.bsz, k.noex, k.exfs, k.funs, k.frf⟩, I.os, I.bare, I.base, I.loc, I.cell, I.free, I.freeC, I.pin, I.hok, I.len⟩
theorem qc3 {e : Addr} {σ' : St} {H' : Hp} {s' : Shared} (k : X.Ok) (I : Inv (hdX X e) pins σ' H' s') : Inv X pins σ' H' s' :=
 ⟨k, I.os, I.bare, I.base, I.loc, I.cell, I.free, I.freeC, I.pin, I.hok, I.len⟩
theorem qdK {h' : Heap} {m' : Str -> Option Value} {tk : Nat} (I : Inv X pins σ H s) (hn : h'.Ns X.env.locals m') (hs : Heap.SameBut X.env.locals s.heap h') :
  Inv X pins (List.replicate X.N.length none) H { s with heap := h', toks := tk } := by
 obtain ⟨m, hn0, _⟩ := id I.loc
 obtain ⟨oL, _, _, hoL, _⟩ := id hn0
 have ne : ∀ b o, X.s₀.heap.get? b = some o -> b ≠ X.env.locals := fun b o q => Nat.ne_of_lt (Nat.lt_of_lt_of_le (Heap.lt_size q) I.ok.above)
 refine ⟨I.ok, I.os, I.bare, ⟨fun b o e n hb hx => (hs.2 b (ne b o e)).trans (I.base.keep b o e n hb hx), fun b o e n hb hx => ?_, I.base.free, fun b o e hx => ?_, I.base.tups, I.base.frzs, I.base.tbls⟩, ⟨m', hn, fun j y v e1 e2 e3 => ?_⟩, fun y c e => ?_, I.free, I.freeC, fun p hp => ?_, fun b ob e => ?_, by simp⟩
 ·obtain ⟨sl, q⟩ := I.base.slot b o e n hb hx
  exact ⟨sl, (hs.2 b (ne b o e)).trans q⟩
 ·obtain ⟨o', q⟩ := I.base.there b o e hx
  exact ⟨o', (hs.2 b (ne b o e)).trans q⟩
 ·rw [List.getElem?_replicate] at e2
  split at e2 <;> cases e2
 ·obtain ⟨w', z⟩ := I.cell y c e
  exact ⟨w', z.sameBut hs (I.cne y c e)⟩
 ·obtain ⟨e, n, nl, nf, d⟩ := I.pin p hp
  exact ⟨(hs.2 p.1 nl).trans e, n, nl, nf, d⟩
 ·refine (I.hok b ob e).stay (fun c w' hc q => (hs.2 c ?_).trans q) (fun _ q => q) fun _ _ q => q
  rintro rfl
  rcases hc with rfl | hc
  ·rw [I.free] at e; cases e
  ·rw [I.free] at hc; cases hc
theorem qa1 {H' : Hp} {h' : Heap} (I : Inv X pins σ H s) (u : Un (frs X.stack) [] H H' s.heap h') : h'.FunFrames X.base X.stack := by
 have all : ∀ (l : List PySem.Env), (∀ b ∈ frs l, b ∈ frs X.stack) -> s.heap.FunFrames X.base l -> h'.FunFrames X.base l := by
  intro l
  induction l with
  | nil => intro _ _; trivial
  | cons env r ih =>
   intro hss hl
   obtain ⟨hk, ⟨L, o, hf', hn, ho, hd⟩, hr⟩ := hl
   have hfr : frs (env :: r) = L :: frs r := by unfold frs; rw [List.filterMap_cons, hf']
   rw [hfr] at hss
   have hL := hss L mS_
   obtain ⟨sl, e⟩ := u.slot L o ho (I.stkFree L hL) hL (by simp)
   exact ⟨hk, ⟨L, _, hf', hn, e, hd⟩, ih (fun b hb => hss b (mM _ hb)) hr⟩
 exact all X.stack (fun _ z => z) I.stack
theorem qc4 {H' : Hp} {h1 h' : Heap} {ch : List Addr} (u : Un (frs X.stack) [] H H' s.heap h1) (hchn : ∀ b ∈ ch, s.heap.get? b = none) (x : Lft h1 h' ch (frs X.stack)) : Un (frs X.stack) [] H H' s.heap h' := by
 have nch : ∀ b o, s.heap.get? b = some o -> b ∉ ch := fun b o q z => by rw [hchn b z] at q; cases q
 refine ⟨fun b o q n hb hx => x.keep b o (nch b o q) hb (u.keep b o q n hb hx), fun b o q n hb hx => ?_, u.free, fun b o q hx => ?_, u.tups, u.frzs, u.tbls⟩
 ·obtain ⟨sl, q1⟩ := u.slot b o q n hb hx
  obtain ⟨sl2, q2⟩ := x.slot b _ hb q1
  exact ⟨sl2, q2⟩
 ·obtain ⟨o2, q2⟩ := u.there b o q hx
  by_cases hb : b ∈ frs X.stack
  ·obtain ⟨sl, q3⟩ := x.slot b o2 hb q2
   exact ⟨_, q3⟩
  ·exact ⟨o2, x.keep b o2 (nch b o q) hb q2⟩
theorem qa2 {H' : Hp} {h1 h' : Heap} {ch : List Addr} (I : Inv X pins σ H s) (u : Un (frs X.stack) [] H H' s.heap h1) (hok : HOk X.prog X.w H' h1) (hch : ∀ b ∈ ch, H' b = none) (x : Lft h1 h' ch (frs X.stack)) : HOk X.prog X.w H' h' :=
 qg4 hok fun b o hb1 q => x.keep b o (fun z => by rw [hch b z] at hb1; cases hb1) (fun z => by
  obtain ⟨_, o1, ho1, _⟩ := I.stack.mem z
  rw [u.free b o1 ho1 (I.stkFree b z) (by simp)] at hb1
  cases hb1) q
theorem un_held {H' : Hp} {h' : Heap} {e : Addr} {o : HO} (u : Un (frs X.stack) [] H H' s.heap h') (he : s.heap.get? e = none) (hHe : H' e = none) : Un (frs X.stack) [] H (upd H' e o) s.heap h' := by
 have ne : ∀ b ob, s.heap.get? b = some ob -> b ≠ e := fun b ob q z => by rw [z, he] at q; cases q
 have ne' : ∀ b u, H' b = some u -> b ≠ e := fun b u q z => by rw [z, hHe] at q; cases q
 refine ⟨u.keep, u.slot, fun b ob q n hx => by rw [qm (ne b ob q)]; exact u.free b ob q n hx, u.there, fun b xs q => ?_, fun b ob w q => ?_, fun b ps y q => ?_⟩
 ·have := u.tups b xs q
  rw [qm (ne' b _ this)]; exact this
 ·have := u.frzs b ob w q
  rw [qm (ne' b _ this)]; exact this
 ·have := u.tbls b ps y q
  rw [qm (ne' b _ this)]; exact this
theorem qc5 {P : Program} {w : World} {H' : Hp} {h' : Heap} {e : Addr} {oe : Obj} (hok : HOk P w H' h') (hHe : H' e = none) (he : h'.get? e = some oe) : HOk P w (upd H' e (.frz oe (.own e))) h' := fun b ob q => by
 by_cases hb : b = e
 ·subst hb
  rw [ql] at q
  cases q
  exact ⟨he, oe, he⟩
 ·rw [qm hb] at q
  have ne' : ∀ c u, H' c = some u -> c ≠ e := fun c u q z => by rw [z, hHe] at q; cases q
  exact (hok b ob q).stay (fun _ _ _ q => q) (fun c q => by rw [qm (ne' c _ q)]; exact q) (fun c xs q => by rw [qm (ne' c _ q)]; exact q) fun c ob y q => by rw [qm (ne' c _ q)]; exact q
end
def qg6 (RN : List Str) (f : MS) (F : List D -> R D) : MS := fun ρ => match f ρ with
 | .exc x ρ' => if RN.contains x.cls then match F [.exc x.cls] with
   | .ok d => .ok (.rt d ρ')
   | _ => .bad
  else .bad
 | r => r
def reE (c : Fc) (E : Exn -> Hp -> Prop) : Fc := { c with E := E }
theorem Rep.reE {K : Fr0} {c : Fc} {E : Exn -> Hp -> Prop} {ρ : Env} {σ : St} {H : Hp} (r : Rep K c ρ σ H) : Rep K (Sk.reE c E) ρ σ H := ⟨r.len, r.val, r.own, r.inj, r.b0, r.kp, r.dm, r.pO, r.ps⟩
theorem Rep.unE {K : Fr0} {c : Fc} {E : Exn -> Hp -> Prop} {ρ : Env} {σ : St} {H : Hp} (r : Rep K (Sk.reE c E) ρ σ H) : Rep K c ρ σ H := ⟨r.len, r.val, r.own, r.inj, r.b0, r.kp, r.dm, r.pO, r.ps⟩
structure ql3 (K : Fr0) (base : Heap) (RN : List Str) (S : Addr) : Prop where
 sup : ∃ bm, XC base S bm
 own : ∀ n C, clR K RN n = some C -> ∃ bm, XC base C bm /\ (Value.ref C :: bm).contains (.ref S) = true
 ki : ∀ n C, clR K RN n = some C -> XK6 K C
def ch (H6 : Hp) : Fc := ⟨[], [], fun a => H6 a = none, H6, fun _ => False, fun _ _ => False, fun _ => none⟩
theorem qkJ {K : Fr0} {n i : Nat} {H6 : Hp} {σ : St} {d : D} {v : V} (hl : σ.length = n) (hi : ∀ {A : Addr -> Prop}, Is K A H6 d v) (tb : qaN K H6) : Rep K (ch H6) ((List.replicate n none).set i (some d)) (σ.set i (some v)) H6 := by
 refine ⟨by simp [hl], fun j d' h => ?_, fun j hj => (nomatch hj), fun j _ _ hj => (nomatch hj), ⟨fun _ h => h, tb⟩, fun _ _ h _ => h, fun _ h => h, fun _ h => h, fun j hj => (nomatch hj)⟩
 rw [List.getElem?_set] at h
 split at h
 ·rename_i e
  subst e
  rw [List.length_replicate] at h
  split at h
  ·rename_i hlt
   cases h
   exact ⟨v, List.getElem?_set_self (by rw [hl]; exact hlt), .inr ⟨by simp [ch], hi⟩⟩
  ·cases h
 ·rw [List.getElem?_replicate] at h
  split at h <;> cases h
def w5 (RN : List Str) (n i : Nat) (f : MS) (g : M D) : MS := fun ρ => match f ρ with
 | .exc x ρ' => if RN.contains x.cls then match g ((List.replicate n none).set i (some (.exc x.cls))) with
   | .ok (d, _) => .ok (.rt d ρ')
   | _ => .bad
  else .bad
 | r => r
theorem qcv {X : Cx} {pins : List (Addr × Obj)} {σ : St} {H : Hp} {s : Shared} {n : Str} {c : Addr} {h' : Heap} {tk : Nat} (I : Inv X pins σ H s) (hc : X.env.cells.lookup n = some c) (hfn : X.fn n = true) (hs : Heap.SameBut c s.heap h') (hv : h'.IsCell c none) :
  Inv X pins (List.replicate X.N.length none) H { s with heap := h', toks := tk } := by
 obtain ⟨m, hn0, _⟩ := id I.loc
 obtain ⟨v0, oc, hoc, hocd⟩ := I.cell n c hc
 have big := I.ok.cab n c hfn hc
 have ne : ∀ b o, X.s₀.heap.get? b = some o -> b ≠ c := fun b o q => Nat.ne_of_lt (Nat.lt_of_lt_of_le (Heap.lt_size q) big)
 refine ⟨I.ok, I.os, I.bare, ⟨fun b o e q hb hx => (hs.2 b (ne b o e)).trans (I.base.keep b o e q hb hx), fun b o e q hb hx => ?_, I.base.free, fun b o e hx => ?_, I.base.tups, I.base.frzs, I.base.tbls⟩, ⟨m, hn0.sameBut hs (Ne.symm (I.cne n c hc)), fun j y v e1 e2 e3 => ?_⟩, fun y c' e => ?_, I.free, I.freeC, fun p hp => ?_, fun b ob e => ?_, by simp⟩
 ·obtain ⟨sl, z⟩ := I.base.slot b o e q hb hx
  exact ⟨sl, (hs.2 b (ne b o e)).trans z⟩
 ·obtain ⟨o', z⟩ := I.base.there b o e hx
  exact ⟨o', (hs.2 b (ne b o e)).trans z⟩
 ·rw [List.getElem?_replicate] at e2
  split at e2 <;> cases e2
 ·by_cases q : c' = c
  ·subst q; exact ⟨_, hv⟩
  ·obtain ⟨w', z⟩ := I.cell y c' e
   exact ⟨w', z.sameBut hs q⟩
 ·obtain ⟨e, q, nl, nf, d⟩ := I.pin p hp
  refine ⟨(hs.2 p.1 fun z => ?_).trans e, q, nl, nf, d⟩
  rw [z, hoc] at e
  exact d v0 (by rw [<- Option.some.inj e]; exact hocd)
 ·refine (I.hok b ob e).stay (fun b2 w' hb2 q => (hs.2 b2 ?_).trans q) (fun _ q => q) fun _ _ q => q
  rintro rfl
  have z := I.freeC n b2 hc
  rcases hb2 with rfl | hb2
  ·rw [z] at e; cases e
  ·rw [z] at hb2; cases hb2
theorem qeZ {X : Cx} {pins : List (Addr × Obj)} {σ : St} {H : Hp} {s : Shared} {n : Str} {i : Nat} {pos : Pos} {M : Model} {A : Around} {E : Value -> Shared -> Prop} {Q : Unit -> Shared -> Prop} (I : Inv X pins σ H s) (hN : X.N.Nodup) (hi : X.N[i]? = some n) (hx : X.env.scope.names.lookup n = some .cell) (hkn : X.env.kindOf n = some .cell) (hfn : X.fn n = true)
  (k : ∀ s', Inv X pins (List.replicate X.N.length none) H s' -> Q () s') : wpAny M A (do bindName X.env n .none; unbindBehindTheSuite X.env n pos) Q E s := by
 refine wpAny_bind (wpAny_bindName (yR (v := .non) (u := .none) I hN hi (.inr hx) rfl (fun s5 I5 => ?_) (.inl hfn)))
 obtain ⟨c, hc⟩ := I5.ok.has n (.inl hkn)
 obtain ⟨m, hn, hl⟩ := id I5.loc
 have hil : i < σ.length := by rw [I.len]; exact (gI_.mp hi).1
 obtain ⟨u, ru, lk⟩ := hl i n .non hi (List.getElem?_set_self hil) (.inr (.inl hx))
 have hcv : s5.heap.IsCell c (some u) := by
  rcases lk with ⟨z, _⟩ | ⟨_, c', e, z⟩
  ·rw [hkn] at z; cases z
  ·rw [hc] at e; cases e; exact z
 unfold unbindBehindTheSuite
 refine wpAny_onRaise ?_
 unfold unbindName
 refine wpAny_bind (wpAny_point (wpAny_bind ?_))
 unfold deleteName
 simp only [hkn]
 refine wpAny_bind (wpAny_cellOf hc (wpAny_bind (wpAny_cellGet hcv ?_)))
 simp only [Option.isSome_some, if_true]
 exact wpAny_cellSet hcv fun h' hv hs => wpAny_point (k _ (qcv (tk := s5.toks) I5 hc hfn hs hv))
section
variable {X : Cx} {c : Fc} {pos np hpos p1 p2 p3 p4 : Pos} {body : List Stmt}
theorem qmK {x n m : Str} {i : Nat} {S fm : Addr} {fd : FuncData} {ps : List Str} {k : Nat} {F : List D -> R D} {f : MS} {RN : List Str} (hN : X.N.Nodup) (hcx : X.stack = X.env :: X.outer) (hf : X.env.frame = some X.env.locals)
  (hcl : ql3 X.K X.base RN S) (hgS : Gl X x) (hmS : X.mg x = some (.ref S))
  (G : qa0 X.prog X.w X.K X.mg X.base CX0 k fm fd ps (spD X.K F)) (hr : yH k X.A) (hgm : Gl X m) (hmm : X.mg m = some (.ref fm)) (hkm : PySem.W.keepIn X.K (.ref fm) = true) (hbm : uc X.K fd ps [])
  (hb : ∀ (xe : Value -> Shared -> Prop) (pn : List (Addr × Obj)) (E : XK) (cE : Exn -> Hp -> Prop), XL2 (toX X xe pn) (reE c cE) (clR X.K RN) E -> DSs (toX X xe pn) (reE c cE) body f)
  (hi : X.N[i]? = some n := by rfl) (hx : X.env.scope.names.lookup n = some .local := by rfl) (hkn : X.env.kindOf n = some .local := by rfl)
  (hdx : (x == ("__debug__" : Str)) = false := by decide) (hdm : (m == ("__debug__" : Str)) = false := by decide) (hdn : (n == ("__debug__" : Str)) = false := by decide) (hcn : (n == ("__classdict__" : Str)) = false := by decide)
  (hst : starEach [.Name n p2] X.env = (false, eval (.Name n p2) X.env) :: starEach [] X.env := by rfl) (hpl : (backTo p3 (starEach [] X.env)).any (·.1) = false := by rfl) :
  DS X c (.Try body [.ExceptHandler (some (.Name x np)) (some n) [.Return (some (.Call (.Name m p1) [.Name n p2] [] p3)) p4] hpos] [] [] pos) (qg6 RN f F) := by
 refine ⟨fun D σ H => ∃ ρ, Rep X.K c ρ σ H /\ WpS X.K c σ H D (qg6 RN f F ρ), ?_, fun ρ σ H D r h => ⟨ρ, r, h⟩⟩
 rintro pins s σ H D I ⟨ρ, r, w⟩
 refine wpAny_Try_except ?_
 have hk := I.ok
 let xe : Value -> Shared -> Prop := fun e s₁ => wpAny (model X.prog X.w) X.A (noteFrame e X.env) (fun _ s₂ => wpAny (model X.prog X.w) X.A (setFlight e none) (fun _ s₃ => wpAny (model X.prog X.w) X.A (handleBy e X.env [.ExceptHandler (some (.Name x np)) (some n) [.Return (some (.Call (.Name m p1) [.Name n p2] [] p3)) p4] hpos]) (SP X pins D) X.xe s₃) X.xe s₂) X.xe s₁
 let cE : Exn -> Hp -> Prop := fun z H' => ∃ ρ' σ', f ρ = .exc z ρ' /\ Rep X.K c ρ' σ' H' /\ GrS c.O σ H σ' H'
 let E : XK := fun cv _ H' => ∃ C z, cv = .ref C /\ clR X.K RN z.cls = some C /\ cE z H'
 have L : XL2 (toX X xe (X.pn ++ pins)) (reE c cE) (clR X.K RN) E := by
  refine ⟨?_, fun z C H' h1 h2 => ⟨C, z, rfl, h1, h2⟩⟩
  intro pins2 σ2 H2 s2 u s' I2 hx2
  obtain ⟨e, T, C, H', rfl, os, bare, un, hok, he, hT, hHe, hHT, Fl, C', z, hC', hz, ρ', σ', ef, r', g'⟩ := hx2
  have eC : C = C' := Value.ref.inj hC'
  subst eC
  have I3 : Inv X pins σ2 H2 s2 := jG I2
  have hz2 : ∀ b ∈ [e, T], H' b = none := fun b hb => by
   simp only [List.mem_cons, nN_, or_false] at hb
   rcases hb with rfl | rfl
   ·exact hHe
   ·exact hHT
  have hz3 : ∀ b ∈ [e, T], s2.heap.get? b = none := fun b hb => by
   simp only [List.mem_cons, nN_, or_false] at hb
   rcases hb with rfl | rfl
   ·exact he
   ·exact hT
  have hl : s'.heap.FunFrames X.base X.stack := qa1 I3 un
  have hA : X.A.frames = some (X.env :: X.outer) := by rw [<- hcx]; exact hk.frames
  show wpAny _ _ _ _ _ _
  rw [hcx] at hl
  refine wZ hA hl hf Fl fun h3 T3 y1 y2 y3 => ?_
  rw [<- hcx] at y1
  have un3 : Un (frs X.stack) [] H2 H' s2.heap h3 := qc4 un hz3 y1
  have hok3 : HOk X.prog X.w H' h3 := qa2 I3 un hok hz2 y1
  have I4 : Inv X pins σ2 H' { s' with heap := h3 } := I3.call' (s' := { s' with heap := h3 }) (ch := []) os un3 hok3 bare (fun b hb => nomatch hb)
  have up : ∀ b, s'.heap.get? b = none -> s2.heap.get? b = none := fun b hb => by
   cases q : s2.heap.get? b with
   | none => rfl
   | some o =>
    obtain ⟨o', q'⟩ := un.there b o q (by simp)
    rw [hb] at q'; cases q'
  have hT3 : s2.heap.get? T3 = none := y3.elim (fun z => z ▸ hT) (up T3)
  have hHT3 : H' T3 = none := y3.elim (fun z => z ▸ hHT) fun z => by
   cases q : H' T3 with
   | none => rfl
   | some o =>
    obtain ⟨o', q'⟩ := ym (hok _ _ q)
    rw [z] at q'; cases q'
  refine wpAny_handleBy_cons (codeAny_handlers_test ?_) (by intro q; cases q)
  refine wy (X := hdX X e) (qc2 e I4) hgS hmS ?_ hdx
  obtain ⟨bmS, xS⟩ := hcl.sup
  obtain ⟨bm, xC, hin⟩ := hcl.own _ _ hz
  obtain ⟨nmS, qS, NS, bsS, hdctS, snS, subS, abS, colS, ddS, j0, j1, j2, j3, j5, newIdS, _, _, _, _, hS, _⟩ := xS.ex
  obtain ⟨nm, q, N, bs, hdct, sn, sub, ab, col, dd, k0, k1, k2, k3, k5, newId, _, _, _, _, hC, _⟩ := xC.ex
  obtain ⟨oe, vs, oT, ts, a0, hoe, hoc, hod, _⟩ := id y2
  refine uL (M := model X.prog X.w) (A := X.A.mark (some (.ref e))) (h := h3) (g := s'.gens) (d := s'.drawn) (t := s'.toks) (os := s'.os) (I4.bk _ _ hC) (I4.bk _ _ hS) hoe hoc.1 xS.hasBase ?_
  rw [hin]
  show codeAny _ _ _ _ _
  refine codeAny_handlers_suite_as ?_
  have hl3 : h3.FunFrames X.base X.stack := qa1 I3 un3
  refine qaz (s := { s' with heap := h3 }) hl3 y2 fun h4 T4 z1 z2 z3 => ?_
  have hz4 : ∀ b ∈ [e, T3], H' b = none := fun b hb => by
   simp only [List.mem_cons, nN_, or_false] at hb
   rcases hb with rfl | rfl
   ·exact hHe
   ·exact hHT3
  have hz5 : ∀ b ∈ [e, T3], s2.heap.get? b = none := fun b hb => by
   simp only [List.mem_cons, nN_, or_false] at hb
   rcases hb with rfl | rfl
   ·exact he
   ·exact hT3
  have un4 : Un (frs X.stack) [] H2 H' s2.heap h4 := qc4 un3 hz5 z1
  have hok4 : HOk X.prog X.w H' h4 := qa2 I3 un3 hok3 hz4 z1
  obtain ⟨oe4, vs4, oT4, ts4, a04, hoe4, hoc4, hod4, _⟩ := id z2
  have I5 : Inv X pins σ2 (upd H' e (.frz oe4 (.own e))) { s' with heap := h4 } := I3.call' (s' := { s' with heap := h4 }) (ch := []) os (un_held un4 he hHe) (qc5 hok4 hHe hoe4) bare (fun b hb => nomatch hb)
  refine yR (v := .ref e) I5 hN hi (.inl hx) rfl (fun s5 I6 => ?_) (.inr hx)
  have sm : zM H' (upd H' e (.frz oe4 (.own e))) := qs hHe _
  have hil : IsL X.K (fun _ => False) (upd H' e (.frz oe4 (.own e))) [.exc z.cls] [.ref e] := ⟨.ref e, [], rfl, ⟨e, rfl, C, (vT hz).2, hcl.ki _ _ hz, oe4, vs4, ql, hoc4.1, hod4⟩, rfl⟩
  cases em : F [.exc z.cls] with
  | bad => simp only [qg6, ef, (vT hz).1, em, if_true] at w; exact w.elim
  | exc z' ρ'' => simp only [qg6, ef, (vT hz).1, em, if_true] at w; exact w.elim
  | ok d =>
   simp only [qg6, ef, (vT hz).1, em, if_true] at w
   have hσl : i < σ2.length := by rw [I5.len]; exact (gI_.mp hi).1
   have call := qcg (qcJ (pos := p4) (qc1 (X := hdX X e) (E := fun _ _ _ => False) (pos := p3) (p := p1) G ⟨hr.dp, hr.un, hr.gd⟩ hgm hmm hkm hbm .nil (fun _ _ _ _ _ _ _ z => z.elim) (jQ (vQ (X := hdX X e) (pos := p2) hi (.inl hx) hdn hcn) vS hst) hdm hst hpl))
   have run := call pins s5 _ _ ({ nx := fun _ _ => False, rt := D.rt } : qd0) (qc2 e I6) ⟨.ref e, List.getElem?_set_self hσl, ⟨e, oe4, .own e, vs4, rfl, ql, hod4, hoc4.2.1⟩, [.exc z.cls], fun _ => False, hil, r'.tb.same sm, by
    rw [em]
    exact fun v H6 sm6 i6 => w v σ' H6 (r'.same (fun b o q => sm6 b o (sm b o q))) (Is.ext Ext.refl (fun a ha _ => ha.elim (fun z => z.elim) fun hn => r'.b0.1 a (r'.dm a (sm.free hn))) i6) (g'.trans (Gr.of_same (fun b o q => sm6 b o (sm b o q))).s)⟩
   refine wpAny_mono run (fun fl s6 h6 => ?_) (fun _ _ z => z.elim)
   cases fl with
   | next => obtain ⟨_, _, _, z⟩ := h6; exact z.elim
   | brk => obtain ⟨_, _, _, z⟩ := h6; exact z.elim
   | cont => obtain ⟨_, _, _, z⟩ := h6; exact z.elim
   | ret u =>
    obtain ⟨v, σ7, H7, I7, rv, q7⟩ := h6
    have I8 := qc3 hk I7
    obtain ⟨m8, hn8, _⟩ := id I8.loc
    exact wpAny_nameGoes hkn hn8 (by rw [hk.kind]; rfl) fun h9 m9 hn9 hs9 => ⟨v, _, H7, qdK I8 hn9 hs9, rv, q7⟩
 obtain ⟨t, p, wt⟩ := hb xe (X.pn ++ pins) E cE L
 have w' : WpS X.K (reE c cE) σ H D (f ρ) := by
  cases ef : f ρ with
  | bad => simp only [qg6, ef] at w; exact w
  | exc z ρ' => exact fun σ' H' r' g' => ⟨ρ', σ', ef, r'.unE, g'⟩
  | ok fl =>
   simp only [qg6, ef] at w
   cases fl with
   | nx ρ' => exact fun σ' H' r' g' => w σ' H' r'.unE g'
   | rt d ρ' => exact fun v σ' H' r' i' g' => w v σ' H' r'.unE i' g'
   | bk ρ' => exact fun σ' H' r' g' => w σ' H' r'.unE g'
   | ct ρ' => exact fun σ' H' r' g' => w σ' H' r'.unE g'
 have run := p [] s σ H D (qg5 I) (wt ρ σ H D r.reE w')
 refine wpAny_mono run (fun fl s1 h1 => ?_) (fun _ _ z => z)
 cases fl with
 | next =>
  obtain ⟨σ1, H1, I1, q1⟩ := h1
  exact wpAny_execs_nil ⟨σ1, H1, jG I1, q1⟩
 | brk => obtain ⟨σ1, H1, I1, q1⟩ := h1; exact ⟨σ1, H1, jG I1, q1⟩
 | cont => obtain ⟨σ1, H1, I1, q1⟩ := h1; exact ⟨σ1, H1, jG I1, q1⟩
 | ret u => obtain ⟨v, σ1, H1, I1, rv, q1⟩ := h1; exact ⟨v, σ1, H1, jG I1, rv, q1⟩
theorem qio {x n : Str} {i : Nat} {S : Addr} {he : Expr} {f : MS} {g : M D} {RN : List Str} (hN : X.N.Nodup) (hcx : X.stack = X.env :: X.outer) (hf : X.env.frame = some X.env.locals)
  (hcl : ql3 X.K X.base RN S) (hgS : Gl X x) (hmS : X.mg x = some (.ref S))
  (hh : ∀ (e : Addr) (H6 : Hp), AloneA (X.A.mark (some (.ref e))) H6 -> DE (hdX X e) (ch H6) he g)
  (hb : ∀ (xe : Value -> Shared -> Prop) (pn : List (Addr × Obj)) (E : XK) (cE : Exn -> Hp -> Prop), XL2 (toX X xe pn) (reE c cE) (clR X.K RN) E -> DSs (toX X xe pn) (reE c cE) body f)
  (hi : X.N[i]? = some n := by rfl) (hx : X.env.scope.names.lookup n = some .cell := by rfl) (hkn : X.env.kindOf n = some .cell := by rfl) (hfn : X.fn n = true := by rfl)
  (hdx : (x == ("__debug__" : Str)) = false := by decide)  :
  DS X c (.Try body [.ExceptHandler (some (.Name x np)) (some n) [.Return (some he) p4] hpos] [] [] pos) (w5 RN X.N.length i f g) := by
 refine ⟨fun D σ H => ∃ ρ, Rep X.K c ρ σ H /\ WpS X.K c σ H D (w5 RN X.N.length i f g ρ), ?_, fun ρ σ H D r h => ⟨ρ, r, h⟩⟩
 rintro pins s σ H D I ⟨ρ, r, w⟩
 refine wpAny_Try_except ?_
 have hk := I.ok
 let xe : Value -> Shared -> Prop := fun e s₁ => wpAny (model X.prog X.w) X.A (noteFrame e X.env) (fun _ s₂ => wpAny (model X.prog X.w) X.A (setFlight e none) (fun _ s₃ => wpAny (model X.prog X.w) X.A (handleBy e X.env [.ExceptHandler (some (.Name x np)) (some n) [.Return (some he) p4] hpos]) (SP X pins D) X.xe s₃) X.xe s₂) X.xe s₁
 let cE : Exn -> Hp -> Prop := fun z H' => ∃ ρ' σ', f ρ = .exc z ρ' /\ Rep X.K c ρ' σ' H' /\ GrS c.O σ H σ' H'
 let E : XK := fun cv _ H' => ∃ C z, cv = .ref C /\ clR X.K RN z.cls = some C /\ cE z H'
 have L : XL2 (toX X xe (X.pn ++ pins)) (reE c cE) (clR X.K RN) E := by
  refine ⟨?_, fun z C H' h1 h2 => ⟨C, z, rfl, h1, h2⟩⟩
  intro pins2 σ2 H2 s2 u s' I2 hx2
  obtain ⟨e, T, C, H', rfl, os, bare, un, hok, he, hT, hHe, hHT, Fl, C', z, hC', hz, ρ', σ', ef, r', g'⟩ := hx2
  have eC : C = C' := Value.ref.inj hC'
  subst eC
  have I3 : Inv X pins σ2 H2 s2 := jG I2
  have hz2 : ∀ b ∈ [e, T], H' b = none := fun b hb => by
   simp only [List.mem_cons, nN_, or_false] at hb
   rcases hb with rfl | rfl
   ·exact hHe
   ·exact hHT
  have hz3 : ∀ b ∈ [e, T], s2.heap.get? b = none := fun b hb => by
   simp only [List.mem_cons, nN_, or_false] at hb
   rcases hb with rfl | rfl
   ·exact he
   ·exact hT
  have hl : s'.heap.FunFrames X.base X.stack := qa1 I3 un
  have hA : X.A.frames = some (X.env :: X.outer) := by rw [<- hcx]; exact hk.frames
  show wpAny _ _ _ _ _ _
  rw [hcx] at hl
  refine wZ hA hl hf Fl fun h3 T3 y1 y2 y3 => ?_
  rw [<- hcx] at y1
  have un3 : Un (frs X.stack) [] H2 H' s2.heap h3 := qc4 un hz3 y1
  have hok3 : HOk X.prog X.w H' h3 := qa2 I3 un hok hz2 y1
  have I4 : Inv X pins σ2 H' { s' with heap := h3 } := I3.call' (s' := { s' with heap := h3 }) (ch := []) os un3 hok3 bare (fun b hb => nomatch hb)
  have up : ∀ b, s'.heap.get? b = none -> s2.heap.get? b = none := fun b hb => by
   cases q : s2.heap.get? b with
   | none => rfl
   | some o =>
    obtain ⟨o', q'⟩ := un.there b o q (by simp)
    rw [hb] at q'; cases q'
  have hT3 : s2.heap.get? T3 = none := y3.elim (fun z => z ▸ hT) (up T3)
  have hHT3 : H' T3 = none := y3.elim (fun z => z ▸ hHT) fun z => by
   cases q : H' T3 with
   | none => rfl
   | some o =>
    obtain ⟨o', q'⟩ := ym (hok _ _ q)
    rw [z] at q'; cases q'
  refine wpAny_handleBy_cons (codeAny_handlers_test ?_) (by intro q; cases q)
  refine wy (X := hdX X e) (qc2 e I4) hgS hmS ?_ hdx
  obtain ⟨bmS, xS⟩ := hcl.sup
  obtain ⟨bm, xC, hin⟩ := hcl.own _ _ hz
  obtain ⟨nmS, qS, NS, bsS, hdctS, snS, subS, abS, colS, ddS, j0, j1, j2, j3, j5, newIdS, _, _, _, _, hS, _⟩ := xS.ex
  obtain ⟨nm, q, N, bs, hdct, sn, sub, ab, col, dd, k0, k1, k2, k3, k5, newId, _, _, _, _, hC, _⟩ := xC.ex
  obtain ⟨oe, vs, oT, ts, a0, hoe, hoc, hod, _⟩ := id y2
  refine uL (M := model X.prog X.w) (A := X.A.mark (some (.ref e))) (h := h3) (g := s'.gens) (d := s'.drawn) (t := s'.toks) (os := s'.os) (I4.bk _ _ hC) (I4.bk _ _ hS) hoe hoc.1 xS.hasBase ?_
  rw [hin]
  show codeAny _ _ _ _ _
  refine codeAny_handlers_suite_as ?_
  have hl3 : h3.FunFrames X.base X.stack := qa1 I3 un3
  refine qaz (s := { s' with heap := h3 }) hl3 y2 fun h4 T4 z1 z2 z3 => ?_
  have hz4 : ∀ b ∈ [e, T3], H' b = none := fun b hb => by
   simp only [List.mem_cons, nN_, or_false] at hb
   rcases hb with rfl | rfl
   ·exact hHe
   ·exact hHT3
  have hz5 : ∀ b ∈ [e, T3], s2.heap.get? b = none := fun b hb => by
   simp only [List.mem_cons, nN_, or_false] at hb
   rcases hb with rfl | rfl
   ·exact he
   ·exact hT3
  have un4 : Un (frs X.stack) [] H2 H' s2.heap h4 := qc4 un3 hz5 z1
  have hok4 : HOk X.prog X.w H' h4 := qa2 I3 un3 hok3 hz4 z1
  obtain ⟨oe4, vs4, oT4, ts4, a04, hoe4, hoc4, hod4, _⟩ := id z2
  have I5 : Inv X pins σ2 (upd H' e (.frz oe4 (.own e))) { s' with heap := h4 } := I3.call' (s' := { s' with heap := h4 }) (ch := []) os (un_held un4 he hHe) (qc5 hok4 hHe hoe4) bare (fun b hb => nomatch hb)
  refine yR (v := .ref e) I5 hN hi (.inr hx) rfl (fun s5 I6 => ?_) (.inl hfn)
  have sm : zM H' (upd H' e (.frz oe4 (.own e))) := qs hHe _
  have al : AloneA (X.A.mark (some (.ref e))) (upd H' e (.frz oe4 (.own e))) := ⟨e, oe4, .own e, vs4, rfl, ql, hod4, hoc4.2.1⟩
  have hσl : i < σ2.length := by rw [I5.len]; exact (gI_.mp hi).1
  have rh := qkJ (K := X.K) (n := X.N.length) (i := i) (H6 := upd H' e (.frz oe4 (.own e))) (σ := σ2) (d := .exc z.cls) (v := .ref e) I5.len ⟨e, rfl, C, (vT hz).2, hcl.ki _ _ hz, oe4, vs4, ql, hoc4.1, hod4⟩ (r'.tb.same sm)
  cases em : g ((List.replicate X.N.length none).set i (some (.exc z.cls))) with
  | bad => simp only [w5, ef, (vT hz).1, em, if_true] at w; exact w.elim
  | exc z' ρ'' => simp only [w5, ef, (vT hz).1, em, if_true] at w; exact w.elim
  | ok dp =>
   obtain ⟨d, ρd⟩ := dp
   simp only [w5, ef, (vT hz).1, em, if_true] at w
   obtain ⟨te, pe, we⟩ := hh e _ al
   have call := qcg (qcJ (pos := p4) pe)
   have run := call pins s5 _ _ ({ nx := fun _ _ => False, rt := D.rt } : qd0) (qc2 e I6) (we _ _ _ _ rh (by
    rw [em]
    exact fun v H6 r6 i6 _ => by
     have sm6 : zM (upd H' e (.frz oe4 (.own e))) H6 := fun b o q => r6.kp b o q fun z => z
     exact w v σ' H6 (r'.same (fun b o q => sm6 b o (sm b o q))) (Is.ext Ext.refl (fun a ha _ => r'.b0.1 a (r'.dm a (sm.free ha.1))) i6) (g'.trans (Gr.of_same (fun b o q => sm6 b o (sm b o q))).s)))
   refine wpAny_mono run (fun fl s6 h6 => ?_) (fun _ _ z => z.elim)
   cases fl with
   | next => obtain ⟨_, _, _, z⟩ := h6; exact z.elim
   | brk => obtain ⟨_, _, _, z⟩ := h6; exact z.elim
   | cont => obtain ⟨_, _, _, z⟩ := h6; exact z.elim
   | ret u =>
    obtain ⟨v, σ7, H7, I7, rv, q7⟩ := h6
    have I8 := qc3 hk I7
    exact qeZ I8 hN hi hx hkn hfn fun s9 I9 => ⟨v, _, H7, I9, rv, q7⟩
 obtain ⟨t, p, wt⟩ := hb xe (X.pn ++ pins) E cE L
 have w' : WpS X.K (reE c cE) σ H D (f ρ) := by
  cases ef : f ρ with
  | bad => simp only [w5, ef] at w; exact w
  | exc z ρ' => exact fun σ' H' r' g' => ⟨ρ', σ', ef, r'.unE, g'⟩
  | ok fl =>
   simp only [w5, ef] at w
   cases fl with
   | nx ρ' => exact fun σ' H' r' g' => w σ' H' r'.unE g'
   | rt d ρ' => exact fun v σ' H' r' i' g' => w v σ' H' r'.unE i' g'
   | bk ρ' => exact fun σ' H' r' g' => w σ' H' r'.unE g'
   | ct ρ' => exact fun σ' H' r' g' => w σ' H' r'.unE g'
 have run := p [] s σ H D (qg5 I) (wt ρ σ H D r.reE w')
 refine wpAny_mono run (fun fl s1 h1 => ?_) (fun _ _ z => z)
 cases fl with
 | next =>
  obtain ⟨σ1, H1, I1, q1⟩ := h1
  exact wpAny_execs_nil ⟨σ1, H1, jG I1, q1⟩
 | brk => obtain ⟨σ1, H1, I1, q1⟩ := h1; exact ⟨σ1, H1, jG I1, q1⟩
 | cont => obtain ⟨σ1, H1, I1, q1⟩ := h1; exact ⟨σ1, H1, jG I1, q1⟩
 | ret u => obtain ⟨v, σ1, H1, I1, rv, q1⟩ := h1; exact ⟨v, σ1, H1, jG I1, rv, q1⟩
end
end L2.Sk
namespace L2.Sk
open PySem PySem.Spec PyProof.Rows PySem.W
def bmV : List Value := [.type "ValueError", .type "Exception", .type "BaseException", .type "object"]
def qdL (K : Fr0) (C S : Addr) : Bool := match K.lookup C with
 | some ⟨_, _, .cls cd, _⟩ => cd.mro.contains (.ref S)
 | _ => false
theorem qc6 {K : Fr0} {h : Heap} {C S : Addr} (X : K.In h) (q : excIn K C bmV "ValueError.__new__" = true) (hs : qdL K C S = true) : ∃ bm, XC h C bm /\ (Value.ref C :: bm).contains (.ref S) = true := by
 unfold excIn at q
 split at q
 ·rename_i dd cd sl ho
  split at q
  ·rename_i C' bm k0 k1 k2 k3 n k5 hm hl
   simp only [Bool.and_eq_true, beq_iff_eq, Bool.not_eq_true'] at q
   obtain ⟨⟨⟨⟨⟨e1, e2⟩, hdel⟩, ht⟩, hok⟩, hni⟩ := q
   subst e1 e2
   unfold qdL at hs
   rw [ho] at hs
   dsimp only at hs
   rw [hm] at hs
   obtain ⟨nm, bs, mro, ns, qn, hd, sn, sub, ab, col, del⟩ := cd
   dsimp only at hm hdel hok hni
   subst hm hdel
   have hz : sl = #[k0, k1, k2, k3, some (.builtin _), k5] := Array.toList_inj.mp hl
   subst hz
   have hT := tail_of_in X ht
   refine ⟨bm, ⟨hT.hasType (by decide +kernel), nm, qn, ns, bs, hd, sn, sub, ab, col, dd, k0, k1, k2, k3, k5, _, "ValueError.__init__", "ValueError", bmV, _, X _ _ ho, .of_isNs (isNs_of_in X hok), nsMap_none_of_in X hok hni, hT, PySem.F.excBase_ValueError⟩, hs⟩
  ·cases q
 ·cases q
def qip (K : Fr0) (D : Addr) : Bool :=
 findIn K (.ref D) "__getattribute__" == some (some (.builtin "BaseException.__getattribute__")) && findIn K (.ref D) "__getattr__" == some none &&
 findIn K (.ref D) "__class__" == some (some (.builtin "object.__class__")) && mroIn K D (.type "object") == some true && subIn K (.ref D) (.type "BaseException") == some true && (clsIn K D).isSome &&
 (["int", "bool", "str", "tuple", "list", "dict"].all fun T => kitOne K (.ref D) (.type T) == some false)
theorem qkK {K : Fr0} {D : Addr} (h : qip K D = true) : XK6 K D := by
 unfold qip at h
 simp only [Bool.and_eq_true, beq_iff_eq] at h
 obtain ⟨⟨⟨⟨⟨⟨h1, h2⟩, h3⟩, h4⟩, h5⟩, h6⟩, h7⟩ := h
 exact ⟨h1, h2, h3, h4, h5, h6, fun T hT => by simpa using List.all_eq_true.mp h7 T hT⟩
def qdM (n m : Str) : Bool := n == m || m == "SackError"
def qkL (K : Fr0) (S : Addr) (TN : List Str) (n : Str) : Bool := match ud K n with
 | some C => excIn K C bmV "ValueError.__new__" && qdL K C S && qip K C && kitOne K (.ref C) (.type "ValueError") == some true &&
  TN.all fun m => match ud K m with
   | some Cm => kitOne K (.ref C) (.ref Cm) == some (qdM n m)
   | none => false
 | none => false
def ql4 (K : Fr0) (RN TN : List Str) : Bool := match ud K "SackError" with
 | some S => excIn K S bmV "ValueError.__new__" && qdL K S S && RN.all (qkL K S TN)
 | none => false
structure XT (K : Fr0) (mg : Str -> Option Value) (RN TN : List Str) : Prop where
 all : ql4 K RN TN = true
 mgc : ∀ n C, ud K n = some C -> mg n = some (.ref C)
theorem qgl {K : Fr0} {h : Heap} {mg : Str -> Option Value} (X : K.In h) (G : h.Ns mainGlobals mg) (n : Str) (C : Addr) (e : ud K n = some C) : mg n = some (.ref C) := by
 unfold ud at e
 split at e
 ·rename_i C' q
  cases e
  exact mg_of X G q
 ·cases e
section
variable {K : Fr0} {mg : Str -> Option Value} {RN TN : List Str}
theorem XT.sup (t : XT K mg RN TN) : ∃ S, ud K "SackError" = some S /\ excIn K S bmV "ValueError.__new__" = true /\ qdL K S S = true /\ RN.all (qkL K S TN) = true := by
 have h := t.all
 unfold ql4 at h
 split at h
 ·rename_i S e
  simp only [Bool.and_eq_true] at h
  exact ⟨S, e, h.1.1, h.1.2, h.2⟩
 ·cases h
theorem XT.row (t : XT K mg RN TN) {S : Addr} (hS : ud K "SackError" = some S) {n : Str} (hn : RN.contains n = true) : qkL K S TN n = true := by
 obtain ⟨S', e, _, _, h⟩ := t.sup
 rw [hS] at e
 cases e
 exact List.all_eq_true.mp h n (by simpa using hn)
theorem XT.cls (t : XT K mg RN TN) {n : Str} {C : Addr} (h : clR K RN n = some C) : ud K n = some C /\ ∃ S, ud K "SackError" = some S /\ excIn K C bmV "ValueError.__new__" = true /\ qdL K C S = true /\ XK6 K C /\ kitOne K (.ref C) (.type "ValueError") = some true /\
  ∀ m ∈ TN, ∃ Cm, ud K m = some Cm /\ kitOne K (.ref C) (.ref Cm) = some (qdM n m) := by
 unfold clR at h
 split at h
 ·rename_i hn
  obtain ⟨S, hS, _⟩ := t.sup
  have r := t.row hS hn
  unfold qkL at r
  rw [h] at r
  simp only [Bool.and_eq_true, beq_iff_eq] at r
  obtain ⟨⟨⟨⟨r1, r2⟩, r3⟩, r4⟩, r5⟩ := r
  refine ⟨h, S, hS, r1, r2, qkK r3, r4, fun m hm => ?_⟩
  have := List.all_eq_true.mp r5 m hm
  split at this
  ·rename_i Cm e
   exact ⟨Cm, e, by simpa using this⟩
  ·cases this
 ·cases h
theorem XT.has (t : XT K mg RN TN) {n : Str} (hn : RN.contains n = true) : ∃ C, clR K RN n = some C := by
 obtain ⟨S, hS, _⟩ := t.sup
 have r := t.row hS hn
 unfold qkL at r
 split at r
 ·rename_i C e
  exact ⟨C, by unfold clR; rw [if_pos hn]; exact e⟩
 ·cases r
theorem XT.ask (t : XT K mg RN TN) {n m : Str} (hn : RN.contains n = true) (hm : m ∈ TN) : ∃ Cm, ud K m = some Cm := by
 obtain ⟨C, hC⟩ := t.has hn
 obtain ⟨_, _, _, _, _, _, _, h⟩ := t.cls hC
 obtain ⟨Cm, e, _⟩ := h m hm
 exact ⟨Cm, e⟩
theorem XT.xcls (t : XT K mg RN TN) {base : Heap} (X : K.In base) : ∃ S, mg "SackError" = some (.ref S) /\ ql3 K base RN S := by
 obtain ⟨S, hS, h1, h2, _⟩ := t.sup
 refine ⟨S, t.mgc _ _ hS, ⟨(qc6 X h1 h2).imp fun bm h => h.1, fun n C h => ?_, fun n C h => ?_⟩⟩
 ·obtain ⟨_, S', hS', r1, r2, _⟩ := t.cls h
  rw [hS] at hS'
  cases hS'
  exact qc6 X r1 r2
 ·obtain ⟨_, _, _, _, _, r, _⟩ := t.cls h
  exact r
end
def qce (RN : List Str) (m : Str) (f : M D) : M D := bnd f fun d => match d with
 | .exc n => if RN.contains n then ret (.bl (m == "ValueError" || qdM n m)) else fun _ => .bad
 | _ => fun _ => .bad
section
variable {X : Cx} {c : Fc} {a b e : Expr} {pos : Pos} {RN TN : List Str}
def qmL (K : Fr0) (RN : List Str) (m : Str) (Cm : V) : List V -> Hp -> VK -> Prop := fun xs H Q => ∃ v n A, xs = [v, Cm] /\ RN.contains n = true /\ Is K A H (.exc n) v /\ Q (.bl (m == "ValueError" || qdM n m)) H
theorem qc7 {m : Str} {Cm : V} {um : Value} (hr : zZ Cm um) (hu : ∀ u, zZ Cm u -> u = um) (hk : ∀ n C, ud X.K n = some C -> RN.contains n = true -> kitOne X.K (.ref C) um = some (m == "ValueError" || qdM n m)) : yy X (.builtin "isinstance") (qmL X.K RN m Cm) := by
 intro pins s σ H xs us Q I r h
 obtain ⟨v, n, A, rfl, hn, hi, q⟩ := h
 obtain ⟨u, w, rfl, r1, r2⟩ := qT.two r
 rw [hu w r2]
 obtain ⟨z, rfl, C, hC, h1, h2⟩ := hi
 cases (show u = Value.ref z from r1)
 exact qau I h1 h2 (hk n C hC hn) fun tk => ⟨.bl _, H, I.tok tk, rfl, q⟩
theorem qe0 {m : Str} {f : M D} {t : TE} {Cm : V} (w : ∀ ρ σ H Q, Rep X.K c ρ σ H -> Wp X.K c σ H Q (f ρ) -> t σ H Q) : ∀ ρ σ H Q, Rep X.K c ρ σ H -> Wp X.K c σ H Q (qce RN m f ρ) -> tCB (qmL X.K RN m Cm) (qfR t (qfR (tC Cm) qlP)) σ H Q := fun ρ σ H Q r h => w ρ σ H _ r (Wp.bnd h fun d ρ1 v H1 r1 i1 g1 h1 => by
 cases d with
 | exc n =>
  dsimp only at h1
  by_cases hn : RN.contains n = true
  ·rw [if_pos hn] at h1
   exact ⟨v, n, _, rfl, hn, i1, h1 _ H1 r1 rfl .refl⟩
  ·rw [if_neg hn] at h1
   exact h1.elim
 | _ => exact h1.elim)
theorem uM {m : Str} {mgl : Str -> Option Value} {p p2 : Pos} {f : M D} (t : XT X.K X.mg RN TN) (hm : m ∈ TN) (hne : (m == "ValueError") = false) (hg : Gl X "isinstance") (hmi : X.mg "isinstance" = none) (hg2 : Gl X m) (ha : DE X c a f)
  (hs : ∃ Cm, ud X.K m = some Cm)
  (hv : bootBuiltins "isinstance" = some (.builtin "isinstance") := by first | rfl | exact PySem.boot_isinstance) (hdb2 : (m == ("__debug__" : Str)) = false := by decide)
  (he : starEach [a, .Name m p2] X.env = (false, eval a X.env) :: starEach [.Name m p2] X.env := by rfl) (hpl : (backTo pos (starEach [.Name m p2] X.env)).any (·.1) = false := by rfl) : DE X c (.Call (.Name "isinstance" p) [a, .Name m p2] [] pos) (qce RN m f) := by
 obtain ⟨ta, pa, w⟩ := ha
 obtain ⟨Cm, hCm⟩ := hs
 refine ⟨_, wn (qc7 (RN := RN) (m := m) (Cm := .ref Cm) (um := .ref Cm) rfl (fun u h => h) fun n C hC hn => ?_) hg hmi hv (jQ pa (jQ (qcf (v := .ref Cm) hg2 (t.mgc m Cm hCm) rfl hdb2) vS (by rfl)) he) (by decide) (by decide) he hpl, qe0 w⟩
 have hcl : clR X.K RN n = some C := by unfold clR; rw [if_pos hn]; exact hC
 obtain ⟨_, _, _, _, _, _, _, h⟩ := t.cls hcl
 obtain ⟨Cm', e1, e2⟩ := h m hm
 rw [hCm] at e1
 cases e1
 rw [e2, hne]; rfl
theorem qiq {p p2 : Pos} {f : M D} (t : XT X.K X.mg RN TN) (hg : Gl X "isinstance") (hmi : X.mg "isinstance" = none) (hg2 : Gl X "ValueError") (hm2 : X.mg "ValueError" = none) (ha : DE X c a f)
  (hv : bootBuiltins "isinstance" = some (.builtin "isinstance") := by first | rfl | exact PySem.boot_isinstance) (hv2 : bootBuiltins "ValueError" = some (.type "ValueError") := by rfl)
  (he : starEach [a, .Name "ValueError" p2] X.env = (false, eval a X.env) :: starEach [.Name "ValueError" p2] X.env := by rfl) (hpl : (backTo pos (starEach [.Name "ValueError" p2] X.env)).any (·.1) = false := by rfl) : DE X c (.Call (.Name "isinstance" p) [a, .Name "ValueError" p2] [] pos) (qce RN "ValueError" f) := by
 obtain ⟨ta, pa, w⟩ := ha
 refine ⟨_, wn (qc7 (RN := RN) (m := "ValueError") (Cm := .ty "ValueError") (um := .type "ValueError") rfl (fun u h => h) fun n C hC hn => ?_) hg hmi hv (jQ pa (jQ (qd4 (v := .ty "ValueError") hg2 hm2 hv2 rfl (by decide) (by decide)) vS (by rfl)) he) (by decide) (by decide) he hpl, qe0 w⟩
 have hcl : clR X.K RN n = some C := by unfold clR; rw [if_pos hn]; exact hC
 obtain ⟨_, _, _, _, _, _, h, _⟩ := t.cls hcl
 rw [h]; rfl
end
section
variable {P : Program} {w : World} {K : PySem.W.Frag} {mg : Str -> Option Value} {base : Heap}
theorem qc8 {x qual : Str} {st : Stmt} {f : Addr} {fd : FuncData} {N ps : List Str} {k : Nat} {O : List Nat} {body : MS} (F : Fun K x qual st f fd) (S : qp N ps (qe st)) (hO : ∀ i ∈ O, ps.length <= i)
  (hb : ∀ (cdv : Value) (A : Around) (outer : List PySem.Env) (s : Shared) (H : Hp) (E : XK) (B : Addr -> Prop), yB k (A.deeper (envOfC qual (qe st) s.heap.objs.size f cdv)) -> AloneA (A.deeper (envOfC qual (qe st) s.heap.objs.size f cdv)) H ->
   DSs (qdI CX0 P w K mg base N qual (qe st) f cdv A outer s H E).nox (cfn O [] B H (fun _ => False) (fun _ _ => False) fun _ => none) (qo st) body) :
  qa0 P w K mg base CX0 (k + 1) f fd ps (spD K (dfn N.length ps.length body)) := by
 obtain ⟨oc, od, kV, doc, pm, an, cdv, ct, osl, rfl, lk, hcd⟩ := F.ex
 refine qkH lk hcd S (fun vs H Q E h => ?_) (fun A outer s H vs Q E hr al h => ?_)
 ·obtain ⟨ds, B, il, _, h⟩ := h
  unfold dfn at h
  by_cases e : ds.length = ps.length
  ·rw [il.length]; exact e
  ·rw [if_neg e] at h; exact h.elim
 ·obtain ⟨ds, B, il, tb, h⟩ := h
  obtain ⟨t, p, wt⟩ := hb cdv A outer s H E B hr al
  refine ⟨t, p.nox, ?_⟩
  unfold dfn at h
  by_cases e : ds.length = ps.length
  ·rw [if_pos e] at h
   refine wt (jk N.length ds) (qU N vs) H _ (uf il tb (fun i hi => by rw [e]; exact hO i hi)) ?_
   have same : ∀ {ρ : Env} {σ : St} {H' : Hp}, Rep K (cfn O [] B H (fun _ => False) (fun _ _ => False) fun _ => none) ρ σ H' -> zM H H' := fun r b o hb => r.kp b o hb fun z => z
   cases eb : body (jk N.length ds) with
   | bad => rw [eb] at h; exact h.elim
   | exc z ρ => rw [eb] at h; exact h.elim
   | ok fl =>
    rw [eb] at h
    cases fl with
    | nx ρ => exact fun σ' H' r' _ => h .non H' (same r') rfl
    | rt d ρ => exact fun v σ' H' r' i' _ => h v H' (same r') i'
    | bk ρ => exact h.elim
    | ct ρ => exact h.elim
  ·rw [if_neg e] at h; exact h.elim
structure qcw (P : Program) (w : World) (K : PySem.W.Frag) (mg : Str -> Option Value) (base : Heap) (k : Nat) (x : Str) (ps : List Str) (sp : Sp) : Prop where
 ex : ∃ f fd, qa0 P w K mg base CX0 k f fd ps sp /\ mg x = some (.ref f) /\ PySem.W.keepIn K (.ref f) = true /\ uc K fd ps []
end
end L2.Sk
namespace L2.Sk
open PySem PySem.Spec PyProof.Rows
section
variable {ρ : Env} {f g : M D} {l : M (List D)} {p q : MS} {RN : List Str}
theorem vj (F : List D -> R D) : zS RN F l ρ = match l ρ with | .ok (xs, ρ1) => (match F xs with | .ok d => .ok (d, ρ1) | .exc x _ => (if RN.contains x.cls then .exc x ρ1 else .bad) | .bad => .bad) | .exc x ρ' => .exc x ρ' | .bad => .bad := by
 simp only [zS, bnd]
 cases l ρ with
 | ok z => obtain ⟨z1, ρ1⟩ := z; cases F z1 <;> rfl
 | exc x ρ' => rfl
 | bad => rfl
theorem qa3 (F : List D -> R D) : vi F l ρ = match l ρ with | .ok (xs, ρ1) => (match F xs with | .ok d => .ok (d, ρ1) | _ => .bad) | .exc x ρ' => .exc x ρ' | .bad => .bad := by
 simp only [vi, bnd]
 cases l ρ with
 | ok z => obtain ⟨z1, ρ1⟩ := z; cases F z1 <;> rfl
 | exc x ρ' => rfl
 | bad => rfl
theorem qgm (x : Str) : qaA x l ρ = match l ρ with | .ok (ds, ρ') => (if qH ds.length then .exc ⟨x, .non⟩ ρ' else .bad) | .exc z ρ' => .exc z ρ' | .bad => .bad := rfl
theorem qmM (F : List D -> R D) : qg6 RN p F ρ = match p ρ with | .exc x ρ' => (if RN.contains x.cls then (match F [.exc x.cls] with | .ok d => .ok (.rt d ρ') | _ => .bad) else .bad) | r => r := rfl
theorem qe1 (n i : Nat) (g : M D) : w5 RN n i p g ρ = match p ρ with | .exc x ρ' => (if RN.contains x.cls then (match g ((List.replicate n none).set i (some (.exc x.cls))) with | .ok (d, _) => .ok (.rt d ρ') | _ => .bad) else .bad) | r => r := rfl
theorem qkM (m : Str) : qce RN m f ρ = match f ρ with | .ok (.exc n, ρ1) => (if RN.contains n then .ok (.bl (m == "ValueError" || qdM n m), ρ1) else .bad) | .ok _ => .bad | .exc x ρ' => .exc x ρ' | .bad => .bad := by
 simp only [qce, bnd]
 cases f ρ with
 | ok z =>
  obtain ⟨z1, ρ1⟩ := z
  cases z1 <;> first | rfl | (dsimp only; split <;> rfl)
 | exc x ρ' => rfl
 | bad => rfl
theorem qir (F : D -> List D -> Option D) : qkI F f l ρ = match f ρ with
  | .ok (.lst ds, ρ1) => (match l ρ1 with | .ok (ys, ρ2) => (match F (.lst ds) ys with | some d => .ok (d, ρ2) | none => .bad) | .exc x ρ' => .exc x ρ' | .bad => .bad)
  | .ok _ => .bad | .exc x ρ' => .exc x ρ' | .bad => .bad := by
 simp only [qkI, bnd]
 cases f ρ with
 | ok z =>
  obtain ⟨z1, ρ1⟩ := z
  cases z1 with
  | lst ds =>
   show bnd l (fun ys => lift (F (D.lst ds) ys)) ρ1 = (match l ρ1 with | .ok (ys, ρ2) => (match F (.lst ds) ys with | some d => .ok (d, ρ2) | none => .bad) | .exc x ρ' => .exc x ρ' | .bad => .bad)
   unfold bnd
   cases l ρ1 with
   | ok z => obtain ⟨z2, ρ2⟩ := z; (dsimp only; cases F (.lst ds) z2 <;> rfl)
   | exc x ρ' => rfl
   | bad => rfl
  | _ => rfl
 | exc x ρ' => rfl
 | bad => rfl
end
theorem qdN {n p : Nat} {body : MS} {ds : List D} {d : D} (h : ds.length = p) (e : ∃ ρ, body (jk n ds) = .ok (.rt d ρ)) : uZ n p body ds = .ok d := by
 obtain ⟨ρ, e⟩ := e
 unfold uZ; rw [if_pos h, e]
theorem qe2 {n p : Nat} {body : MS} {ds : List D} (h : ds.length = p) (e : ∃ ρ, body (jk n ds) = .ok (.nx ρ)) : uZ n p body ds = .ok .non := by
 obtain ⟨ρ, e⟩ := e
 unfold uZ; rw [if_pos h, e]
theorem qc9 {n p : Nat} {body : MS} {ds : List D} {x : Exn} {ρ : Env} (h : ds.length = p) (e : body (jk n ds) = .exc x ρ) : uZ n p body ds = .exc x ρ := by
 unfold uZ; rw [if_pos h, e]
theorem qg7 {p q : MS} {ρ ρ' : Env} {x : Exn} (h : p ρ = .exc x ρ') : qQ p q ρ = .exc x ρ' := by unfold qQ; rw [h]
def unO (_ : Nat) (c : Fc) : Fc := { c with O := [], P := [], B := fun _ => True }
theorem Gr.unSame {c : Fc} {σ : St} {H H' : Hp} {i : Nat} (g : Gr (unO i c).O σ H H') : zM H H' := fun b o h => g.ext.at_ b o (fun j hj => by cases hj) h
theorem Rep.un {K : Fr0} {c : Fc} {ρ : Env} {σ : St} {H : Hp} {i : Nat} (r : Rep K c ρ σ H) (_ : i ∈ c.O) : Rep K (unO i c) ρ σ H := by
 have all : ∀ b : Addr, Cn (unO i c) σ b := fun b => ⟨trivial, fun j hj => by cases hj⟩
 refine ⟨r.len, fun k d hk => ?_, fun j hj => (by cases hj), fun k j a hk => (by cases hk), ⟨fun _ _ => trivial, r.b0.2⟩, r.kp, r.dm, fun j hj => (by cases hj), fun j hj => (by cases hj)⟩
 obtain ⟨v, h1, h2⟩ := r.val k d hk
 refine ⟨v, h1, .inr ⟨fun z => (by cases z), ?_⟩⟩
 rcases h2 with ⟨hk2, ds, a, xs, h3, h5, h6, h7⟩ | ⟨hk2, h3⟩
 ·subst h3 h5
  exact ⟨a, xs, rfl, all a, h6, IsL.ext Ext.refl (fun b _ _ => all b) h7⟩
 ·exact Is.ext Ext.refl (fun b _ _ => all b) h3
theorem Gr.un {c : Fc} {σ : St} {H H' : Hp} {i : Nat} (g : Gr (unO i c).O σ H H') : Gr c.O σ H H' := .of_same g.unSame
theorem Rep.re {K : Fr0} {c : Fc} {ρ : Env} {σ : St} {H H' : Hp} {i : Nat} (r : Rep K c ρ σ H) (_ : i ∈ c.O) (_ : Rep K (unO i c) ρ σ H') (g : Gr (unO i c).O σ H H') : Rep K c ρ σ H' := r.same g.unSame
open Classical in
noncomputable def qis (f : M D) : M D := fun ρ => match f ρ with
 | .ok (d, ρ') => if imm d = true /\ ρ' = ρ then .ok (d, ρ) else .bad
 | .exc x ρ' => if ρ' = ρ then .exc x ρ else .bad
 | .bad => .bad
open Classical in
open Classical in
section
variable {X : Cx} {c : Fc} {e : Expr} {pos : Pos}
theorem qit {i : Nat} {f : M D} (h : DE X (unO i c) e f) (ho : i ∈ c.O := by exact of_decide_eq_true rfl) : DE X c e (qis f) := by
 obtain ⟨t, p, w⟩ := h
 refine ⟨t, p, fun ρ σ H Q r h => w ρ σ H Q (r.un ho) ?_⟩
 unfold qis at h
 cases ef : f ρ with
 | bad => rw [ef] at h; exact h.elim
 | exc x ρ' =>
  rw [ef] at h
  simp only at h
  split at h
  ·rename_i e1
   subst e1
   exact fun H' r' g' => h H' (r.re ho r' g') g'.un
  ·exact h.elim
 | ok q =>
  obtain ⟨d, ρ'⟩ := q
  rw [ef] at h
  simp only at h
  split at h
  ·rename_i e1
   obtain ⟨e1, e2⟩ := e1
   subst e2
   exact fun v H' r' i' g' => h v H' (r.re ho r' g') (Is.imm e1 i') g'.un
  ·exact h.elim
def qnE : List D -> Option (List D)
 | [.int i, .int j] => if decide (-(2 ^ 62) <= i) && decide (i < 2 ^ 62) && decide (-(2 ^ 62) <= j) && decide (j < 2 ^ 62) then some (qaU i (j - i).toNat) else none
 | _ => none
theorem XL2.un {i : Nat} {cl : Str -> Option Addr} {E : XK} (L : XL2 X c cl E) : XL2 X (unO i c) cl E := ⟨L.pass, L.wish⟩
def qg8 (i n : Nat) (g : D -> Env -> Option Env) (b : MS) : Nat -> MS
 | 0, ρ => match zA i ρ with
  | some ds => if ds.length <= n then .ok (.nx ρ) else .bad
  | none => .bad
 | m + 1, ρ => match zA i ρ with
  | some ds => match ds[n - (m + 1)]? with
   | none => .bad
   | some d => match g d ρ with
    | none => .bad
    | some ρ1 => match b ρ1 with
     | .ok (.nx ρ2) => qg8 i n g b m ρ2
     | .ok (.ct ρ2) => qg8 i n g b m ρ2
     | .ok (.bk ρ2) => .ok (.nx ρ2)
     | .ok (.rt r ρ2) => .ok (.rt r ρ2)
     | .exc x ρ2 => .exc x ρ2
     | .bad => .bad
  | none => .bad
end
section
variable {ρ : Env} {f : M D} {t : M Bool} {n : M (List D)}
open Classical in
open Classical in
open Classical in
end
def qkN (K : Fr0) (neg : Bool) : R2 := fun x y H Q => ∃ d e ds A, Is K A H d x /\ Is K A H e y /\ sqD e = some ds /\ qax d = true /\ qax e = true /\ Q (.bl (if neg then !((toPDs ds).any fun y => PyData.eqv y (yQ d)) else (toPDs ds).any fun y => PyData.eqv y (yQ d))) H
def inA (x y : D) : Option D := match sqD y with
 | some ds => if qax x && qax y then some (.bl ((toPDs ds).any fun y => PyData.eqv y (yQ x))) else none
 | none => none
def ql5 (x y : D) : Option D := match sqD y with
 | some ds => if qax x && qax y then some (.bl (!(toPDs ds).any fun y => PyData.eqv y (yQ x))) else none
 | none => none
section
variable {X : Cx}
theorem uA {d : D} (h : qax d = true) : (yQ d).canLay0 = true /\ (yQ d).depth <= 50 := by
 unfold qax at h
 rw [Bool.and_eq_true, decide_eq_true_eq] at h
 exact h
theorem qmN {k : Nat} (hr : yH k X.A) : OpR X (compareOp .In) (qkN X.K false) := by
 intro pins s σ H x y v u Q I rx ry h
 obtain ⟨d, e, ds, A, h1, h2, es, o1, o2, q⟩ := h
 obtain ⟨as, r1, _⟩ := jm I (uJ o1) h1 rx
 obtain ⟨bs, r2, _⟩ := jm I (uJ o2) h2 ry
 have c1 := (uA o1).1
 have c2 := (uA o2).1
 have u1 := (uA o1).2
 have u := hr.units
 cases e <;> simp only [sqD] at es <;> try (cases es; done)
 ·cases es
  exact SeqAt.in_tuple_reads r2 r1 (by simpa [yQ, PyData.canLay0] using c2) c1 (by omega) ⟨.bl _, H, I, rfl, by simpa using q⟩
 ·cases es
  exact SeqAt.in_list_reads r2 r1 (by simpa [yQ, PyData.canLay0] using c2) c1 (by omega) ⟨.bl _, H, I, rfl, by simpa using q⟩
theorem qiu {k : Nat} (hr : yH k X.A) : OpR X (compareOp .NotIn) (qkN X.K true) := by
 intro pins s σ H x y v u Q I rx ry h
 obtain ⟨d, e, ds, A, h1, h2, es, o1, o2, q⟩ := h
 obtain ⟨as, r1, _⟩ := jm I (uJ o1) h1 rx
 obtain ⟨bs, r2, _⟩ := jm I (uJ o2) h2 ry
 have c1 := (uA o1).1
 have c2 := (uA o2).1
 have u1 := (uA o1).2
 have u := hr.units
 cases e <;> simp only [sqD] at es <;> try (cases es; done)
 ·cases es
  exact SeqAt.notIn_tuple_reads r2 r1 (by simpa [yQ, PyData.canLay0] using c2) c1 (by omega) ⟨.bl _, H, I, rfl, by simpa using q⟩
 ·cases es
  exact SeqAt.notIn_list_reads r2 r1 (by simpa [yQ, PyData.canLay0] using c2) c1 (by omega) ⟨.bl _, H, I, rfl, by simpa using q⟩
end
theorem qgn {K : Fr0} : OpS K ql5 (qkN K true) := by
 intro A H x y d v u Q hn ix iy e k
 unfold ql5 at e
 split at e
 ·rename_i ds es
  obtain ⟨e1, e2⟩ := zB e
  subst e2
  rw [Bool.and_eq_true] at e1
  exact ⟨x, y, ds, A, ix, iy, es, e1.1, e1.2, k _ H (zM.refl H) rfl⟩
 ·cases e
def ql6 (x y : D) : Option D := (qlu x y).or (ql5 x y)
theorem qiv {X : Cx} {k : Nat} (hr : yH k X.A) : OpR X (compareOp .NotIn) (fun x y H Q => rIn X.K true x y H Q \/ qkN X.K true x y H Q) := OpR.or qbw (qiu hr)
theorem qgo {K : Fr0} : OpS K ql6 (fun x y H Q => rIn K true x y H Q \/ qkN K true x y H Q) := by
 intro A H x y d v u Q hn ix iy e k
 unfold ql6 at e
 cases e1 : qlu x y with
 | some b => rw [e1] at e; exact .inl (qij A H x y d v u Q hn ix iy (by rw [e1]; exact e) k)
 | none => rw [e1] at e; exact .inr (qgn A H x y d v u Q hn ix iy e k)
section
variable {prog : Program} {w : World} {A : Around} {R : Result -> Shared -> Prop} {I : Addr} {fp wr : List Addr} {n : Nat} {P : Nat -> Value -> Prop} {St : Nat -> Heap -> Prop}
end
section
variable {prog : Program} {w : World} {A : Around} {E : Value -> Shared -> Prop} {s : Shared}
end
def qkO : List D -> Option (List (List Int))
 | [] => some []
 | .tup ts :: r => match qai ts, qkO r with
  | some n, some ns => some (n :: ns)
  | _, _ => none
 | _ => none
def ql7 (ns : List (List Int)) (i : Nat) : List Int := (ns[i]?).getD []
def ql8 (ns : List (List Int)) : Nat := argBest (fun i j => HT.lexLt (ql7 ns i) (ql7 ns j)) (ns.length - 1)
def qno : List D -> Option D
 | [.lst ds] => match qkO ds with
  | some (n :: ns) => some (.tup ((ql7 (n :: ns) (ql8 (n :: ns))).map .int))
  | _ => none
 | _ => none
section
variable {X : Cx}
end
def qmO (x : D) (ys : List D) : Option D := match x, ys with
 | .lst ds, [d] => if ds.all qax && qax d then (ds.findIdx? fun e => PyData.eqv (yQ e) (yQ d)).map fun j => .int j else none
 | _, _ => none
section
variable {prog : Program} {w : World} {A : Around} {E : Value -> Shared -> Prop} {s : Shared}
end
section
variable {X : Cx} {c : Fc} {a b e : Expr} {pos : Pos} {es : List Expr} {kk : Nat} {tp : Pos}
end
section
variable {X : Cx} {c : Fc} {a b e : Expr} {pos : Pos} {es : List Expr} {kk : Nat} {tp : Pos}
def qkP : List D -> Option (List D)
 | [.lst xs] => some (uY 0 xs)
 | _ => none
def qkQ (f : M (List D)) : M (List D) := bnd f fun ds => lift (qkP ds)
end
section
variable {X : Cx} {c : Fc} {pos : Pos}
theorem qgp : PE X (.Dict [] [] pos) (fun σ H Q => ∀ p, H p = none -> Q (.ref p) (upd H p (.dK []))) := by
 intro pins s σ H Q I h
 have hf : H s.heap.objs.size = none := I.hok.fresh (Nat.le_refl _)
 refine wpAny_Dict_empty ⟨.ref s.heap.objs.size, upd H s.heap.objs.size (.dK []), I.laid (t' := s.toks) (fun b o q => Heap.get?_push_of_some _ q) (Nat.le_refl _) ?_, rfl, h _ hf⟩
 exact ⟨by show 0 <= sizeLine; decide, beq_eq_false_iff_ne.mpr (Ne.symm (Nat.ne_of_lt (qkm I))), [], .nil, Heap.DictOf.new _⟩
theorem qda : DE X c (.Dict [] [] pos) (ret (.dic [])) :=
 ⟨_, qgp, fun ρ σ H Q r h p hp => h _ _ (r.laid hp _) ⟨p, rfl, r.new hp, ql⟩ (.of_same (qs hp _))⟩
end
theorem qa4 : entryFor table "proto.unchain" = some Builtin.«proto.unchain» := entryFor_of_fast (by kernel_rfl)
theorem qa5 : plainId "proto.unchain" = true := by kernel_rfl
section
variable {prog : Program} {w : World} {A : Around} {E : Value -> Shared -> Prop} {s : Shared}
theorem qa6 {x h : Value} {e : Addr} {o : Obj} {vs : Array Value} {Q : Value -> Shared -> Prop} (he : s.heap.get? e = some o) (hd : o.data = .fields vs) (h2 : vs[2]? = some .none) (q : Q .none s) :
  wpAny (model prog w) A (runValue (.builtin "proto.unchain" ⟨[x, .ref e, h, .bool false], []⟩)) Q E s := by
 refine wpAny_runValue (codeAny_builtin qa4 ?_)
 rw [Around.under_plainId qa5 _]
 show wpAny _ A.in1 (field (.ref e) 2 >>= _) _ _ s
 refine wpAny_bind (wpAny_field he hd h2 ?_)
 rw [if_pos (show (Value.none == Value.none) = true by decide)]
 exact wpAny_pure q
theorem qcx {it e : Addr} {o : Obj} {vs : Array Value} {x left step : Int} {Q : Option Value -> Shared -> Prop} (hh : A.handled = some (.ref e)) (he : s.heap.get? e = some o) (hd : o.data = .fields vs) (h2 : vs[2]? = some .none)
  (hit : IsRangeIter s.heap it x left step) (hleft : left <= 0) (q : ∀ h', Heap.ExtBut it s.heap h' -> Q none { s with heap := h' }) : wpAny (model prog w) A (pyNext (.ref it)) Q E s := by
 have ty : s.TypeIs (.ref it) "range_iterator" := ⟨_, hit, rfl⟩
 unfold pyNext
 refine wpAny_bind (wpAny_attempt (wpAny_callSpecial?_slot (name := Str.ofString "__next__") ty PySem.F.slot_range_iterator_next (wpAny_call_entry PySem.F.slot_range_iterator_next ty PySem.F.entry_range_iterator_next ?_ (PySem.F.args_range_iterator_next_1 _))))
 show wpAny (model prog w) _ (field (Value.ref it) 0 >>= _) _ _ s
 refine wpAny_bind (wpAny_field hit rfl (x := rawInt x) rfl (wpAny_bind (wpAny_field hit rfl (x := rawInt left) rfl (wpAny_bind (wpAny_field hit rfl (x := rawInt step) rfl ?_)))))
 show wpAny (model prog w) _ (if left <= 0 then _ else _) _ _ s
 rw [if_pos hleft]
 refine wpAny_bind (wpAny_rule (wpAny_bind ?_))
 show wpAny (model prog w) _ (newExc (.type "StopIteration") [] >>= _) _ _ _
 simp only [newExc, newTuple]
 refine wpAny_bind (wpAny_bind (wpAny_newObj_type ?_ (by size_fits)))
 refine wpAny_bind (m := firstArgMember _ _) (wpAny_of_eq (a := Value.none) (by first | rfl | (simp only [firstArgMember]; rfl)) (wpAny_newObj_type ?_ (by size_fits)))
 simp only [raiseNew]
 refine wpAny_bind (wpAny_handled ?_)
 rw [show A.in1.handled = some (.ref e) from hh]
 have le : e < s.heap.objs.size := Heap.lt_size he
 have sz : (s.heap.push { cls := Value.type "tuple", data := Data.seq #[] }).objs.size = s.heap.objs.size + 1 := by simp [Heap.push]
 have ne : (Value.ref e != Value.ref (s.heap.push { cls := Value.type "tuple", data := Data.seq #[] }).objs.size) = true := by
  rw [bne_iff_ne]
  intro z
  have z' := Value.ref.inj z
  rw [sz] at z'
  exact absurd (z' ▸ le) (Nat.not_lt.mpr (Nat.le_succ _))
 show wpAny _ _ (if (Value.ref e != Value.ref (s.heap.push { cls := Value.type "tuple", data := Data.seq #[] }).objs.size) = true then _ else _) _ _ _
 rw [if_pos ne]
 refine wpAny_bind (wpAny_holding (qa6 (Heap.get?_push_of_some _ (Heap.get?_push_of_some _ he)) hd h2 ?_))
 show wpAny _ _ (setField (.ref (s.heap.push { cls := Value.type "tuple", data := Data.seq #[] }).objs.size) 2 (.ref e) >>= _) _ _ _
 refine wpAny_bind (wpAny_setField (Heap.get?_push_size _ rfl) rfl (by show 2 < _; simp; omega) (wpAny_throw ?_))
 have hn : ((s.heap.push { cls := Value.type "tuple", data := Data.seq #[] }).push { cls := Value.type "StopIteration", data := Data.fields (#[Value.ref s.heap.objs.size, Value.none, Value.none, Value.none, Value.bool false, Value.none] ++ ownMembersOf (Value.type "StopIteration") []) }).get? (s.heap.push { cls := Value.type "tuple", data := Data.seq #[] }).objs.size = some { cls := Value.type "StopIteration", data := Data.fields (#[Value.ref s.heap.objs.size, Value.none, Value.none, Value.none, Value.bool false, Value.none] ++ ownMembersOf (Value.type "StopIteration") []) } := Heap.get?_push_size _ rfl
 refine wpAny_bind (wpAny_isInstance (T := "StopIteration") (b := true) ⟨_, Heap.get?_update_self _ hn rfl, rfl⟩ isSubtype_stop ?_)
 refine wpAny_pure (q _ fun b ob hb g => ?_)
 have lb : b < s.heap.objs.size := Heap.lt_size g
 refine (Heap.get?_update_other _ _ (fun z => ?_)).trans (Heap.get?_push_of_some _ (Heap.get?_push_of_some _ g))
 rw [sz] at z
 exact absurd (z ▸ lb) (Nat.not_lt.mpr (Nat.le_succ _))
end
theorem AloneA.laid {A : Around} {H : Hp} {p : Addr} {o : HO} (x : AloneA A H) (h : H p = none) : AloneA A (upd H p o) := by
 obtain ⟨e, oe, u, vs, h1, h2, h3⟩ := x
 exact ⟨e, oe, u, vs, h1, by rw [qm (qB h2 h)]; exact h2, h3⟩
theorem AloneA.rep {K : Fr0} {c : Fc} {A : Around} (x : AloneA A c.H0) (hio : ∀ a, ¬ c.Io a) (ρ : Env) (σ : St) (H : Hp) (r : Rep K c ρ σ H) : AloneA A H := by
 obtain ⟨e, oe, u, vs, h1, h2, h3⟩ := x
 exact ⟨e, oe, u, vs, h1, r.kp _ _ h2 (hio e), h3⟩
theorem AloneA.cin {K : Fr0} {A : Around} {B0 : Addr -> Prop} {H1 H : Hp} {acc : Addr} {S' : Nat -> Option (Option V)} {O' : List Nat} {Io' : Addr -> Prop} {ρ : Env} {σ : St} (x : AloneA A H1) (hn : H1 acc = none) (hio : ∀ a, ¬ Io' a) (r : Rep K (Sk.cin B0 H1 O' Io' acc S') ρ σ H) : AloneA A H := by
 obtain ⟨e, oe, u, vs, h1, h2, h3⟩ := x
 have ne : e ≠ acc := qB h2 hn
 exact ⟨e, oe, u, vs, h1, r.kp e _ (show upd H1 acc (.lst []) e = _ by rw [qm ne]; exact h2) (fun z => z.elim (hio e) ne), h3⟩
end L2.Sk
namespace L2
open PySem PySem.Spec PyProof.Rows L2.Sk
structure qkR (P : Program) (w : World) (K : PySem.W.Frag) (tg : Expr) (J : It) (fp : List Addr) (it : Addr) (tn : Nat -> Heap -> Prop) : Prop where
 mem : it ∈ fp
 obj : ∀ i h, tn i h -> ∀ b ∈ fp, ∃ o, h.get? b = some o /\ ∀ v, o.data ≠ .cell v
 keep : ∀ i h h', tn i h -> (∀ b ∈ fp, ∀ o, h.get? b = some o -> h'.get? b = some o) -> tn i h'
 item : ∀ (X : Cx), X.prog = P -> X.w = w -> X.K = K -> AloneA X.A X.H₀ -> ∀ (i : Nat) (pins : List (Addr × Obj)) (s : Shared) (σ : St) (H : Hp) (E : Value -> Shared -> Prop), Inv X pins σ H s -> (∀ b ∈ fp, qaK X pins H b) -> tn i s.heap -> J.go i H ->
  wpAny (model P w) X.A (pyNext (.ref it)) (fun r s1 => ∃ u, r = some u /\
   wpAny (model P w) X.A (letOwnedTupleGo tg (.ref it) u) (fun _ s2 => ∃ x H', Inv X pins σ H' s2 /\ zZ x u /\ J.yld i H x H' /\ tn (i + 1) s2.heap /\ ∀ b ∈ fp, H' b = none) E s1) E s
 done : ∀ (X : Cx), X.prog = P -> X.w = w -> X.K = K -> AloneA X.A X.H₀ -> ∀ (i : Nat) (pins : List (Addr × Obj)) (s : Shared) (σ : St) (H : Hp) (E : Value -> Shared -> Prop), Inv X pins σ H s -> (∀ b ∈ fp, qaK X pins H b) -> tn i s.heap -> J.stop i H ->
  wpAny (model P w) X.A (pyNext (.ref it)) (fun r s1 => r = none /\ Inv X pins σ H s1) E s
 self : ∀ (A : Around) (i : Nat) (s : Shared) (Q : Value -> Shared -> Prop) (E : Value -> Shared -> Prop), tn i s.heap -> Q (.ref it) s -> wpAny (model P w) A (pyIter (.ref it)) Q E s
def qmP (X : Cx) (pins : List (Addr × Obj)) (σ : St) (tg : Expr) (R : It -> Hp -> Prop) (itv : Value) (s2 : Shared) : Prop :=
 ∃ (it : Addr) (fp : List Addr) (tn : Nat -> Heap -> Prop) (J : It) (H' : Hp), itv = .ref it /\ Inv X pins σ H' s2 /\ qkR X.prog X.w X.K tg J fp it tn /\ tn 0 s2.heap /\ (∀ b ∈ fp, qaK X pins H' b) /\ R J H'
def PIH (X : Cx) (tg iter : Expr) (wi : TI) : Prop :=
 ∀ (pins : List (Addr × Obj)) (s : Shared) (σ : St) (H : Hp) (R : It -> Hp -> Prop), Inv X pins σ H s -> wi σ H R ->
  wpAny (model X.prog X.w) X.A (eval iter X.env) (fun v s1 => wpAny (model X.prog X.w) X.A (pyIter v) (qmP X pins σ tg R) X.xe s1) X.xe s
theorem qcy {P : Program} {w : World} {K : PySem.W.Frag} {tg : Expr} (it : Addr) (lo : Int) (n : Nat) : qkR P w K tg (Itr lo n) [it] it (fun i h => IsRangeIter h it (lo + (i : Nat) * 1) ((n : Int) - (i : Nat)) 1) where
 mem := by simp
 obj := fun i h st b hb => by
  have e : b = it := by simpa using hb
  subst e
  exact ⟨_, st, fun v z => by
   have z' : Data.fields _ = Data.cell v := z
   cases z'⟩
 keep := fun i h h' st k => k it (by simp) _ st
 item := by
  intro X hP hw hK hc i pins s σ H E I hf st hg
  subst hP hw hK
  obtain ⟨f0, f1, f2, f3, f4, f5⟩ := hf it (by simp)
  refine wpAny_pyNext_range_item st (by have : i < n := hg; omega) fun h' st1 sb => ?_
  have st' : IsRangeIter h' it (lo + ((i + 1 : Nat) : Int) * 1) ((n : Int) - ((i + 1 : Nat) : Int)) 1 := by
   have e1 : lo + ((i + 1 : Nat) : Int) * 1 = lo + (i : Nat) * 1 + 1 := by omega
   have e2 : (n : Int) - ((i + 1 : Nat) : Int) = (n : Int) - (i : Nat) - 1 := by omega
   rw [e1, e2]; exact st1
  have I1 : Inv X pins σ H { s with heap := h', toks := s.toks + 1 } := I.turned (fun b o hb e => (sb.2 b hb).trans e) f0 f1 f3 f4 f5
  refine ⟨_, rfl, qfP (s := { s with heap := h', toks := s.toks + 1 }) (n := "range_iterator") st' rfl rfl (by decide) ⟨.int (lo + i), H, I1, ⟨s.toks, ?_⟩, ⟨rfl, rfl⟩, st', fun b hb => (hf b hb).1⟩⟩
  rw [Int.mul_one]
 done := by
  intro X hP hw hK hc i pins s σ H E I hf st hg
  subst hP hw hK
  obtain ⟨f0, f1, f2, f3, f4, f5⟩ := hf it (by simp)
  obtain ⟨e, oe, u, vs, hh, hHe, hde, h2⟩ := hc
  have hoe : s.heap.get? e = some oe := (I.hok e _ (I.base.frzs e oe u hHe)).1
  exact qcx hh hoe hde h2 st (by have : n <= i := hg; omega) fun h' eb => ⟨rfl, I.turned (t' := s.toks) (fun b o hb e => eb b o hb e) f0 f1 f3 f4 f5⟩
 self := fun _ _ _ _ _ st h => wpAny_pyIter_rangeiter st h
section
variable {X : Cx} {tg : Expr}
theorem qe3 {pins : List (Addr × Obj)} {σ : St} {H : Hp} {s : Shared} {R : It -> Hp -> Prop} {E : Value -> Shared -> Prop} {lo hi : Int} {t u v : Tok} {tk : Nat} (I : Inv X pins σ H s) (h1 : -(2 ^ 62) <= lo) (h2 : lo < 2 ^ 62) (h3 : -(2 ^ 62) <= hi) (h4 : hi < 2 ^ 62)
  (q : R (Itr lo (hi - lo).toNat) H) : wpAny (model X.prog X.w) X.A (pyIter (.ref s.heap.objs.size)) (qmP X pins σ tg R) E { s with heap := s.heap.push { cls := .type "range", data := .fields #[.int lo t, .int hi u, .int 1 v] }, toks := tk } := by
 refine wpAny_pyIter_range (IsRange.new ..) (small_one h1 h2 h3 h4) ?_
 have I1 : Inv X pins σ H { s with heap := s.heap.push { cls := .type "range", data := .fields #[.int lo t, .int hi u, .int 1 v] }, toks := tk } := I.kept fun b o e => Heap.get?_push_of_some _ e
 refine ⟨(s.heap.push { cls := .type "range", data := .fields #[.int lo t, .int hi u, .int 1 v] }).objs.size, [(s.heap.push { cls := .type "range", data := .fields #[.int lo t, .int hi u, .int 1 v] }).objs.size], _, _, H, rfl,
  I1.kept (t' := tk) fun b o e => Heap.get?_push_of_some _ e, qcy _ lo (hi - lo).toNat, ?_, fun b hb => ?_, q⟩
 ·have e1 : lo + ((0 : Nat) : Int) * 1 = lo := by simp
  have e2 : (((hi - lo).toNat : Nat) : Int) - ((0 : Nat) : Int) = Builtin.Range.rangeSize lo hi 1 := by rw [rangeSize_one]; split <;> omega
  show IsRangeIter _ _ (lo + ((0 : Nat) : Int) * 1) ((((hi - lo).toNat : Nat) : Int) - ((0 : Nat) : Int)) 1
  rw [e1, e2]
  exact Heap.get?_push_size _ rfl
 ·have e : b = (s.heap.push { cls := .type "range", data := .fields #[.int lo t, .int hi u, .int 1 v] }).objs.size := by simpa using hb
  subst e
  exact I1.fpOk (Nat.le_refl _) (I1.hok.fresh (Nat.le_refl _))
theorem qdO {a : Expr} {ta : TA} {p pos : Pos} (hg : Gl X "range") (hm : X.mg "range" = none) (ha : PA X [a] ta) (hs : starEach [a] X.env = [(false, eval a X.env)] := by rfl) : PIH X tg (.Call (.Name "range" p) [a] [] pos) (qjx ta) := by
 intro pins s σ H R I h
 refine Call_ (vR I hg hm boot_range (PyProof.Rows.callWith_type1 (thn (ha pos pins s σ H _ I h) fun us s1 ⟨vs, H1, I1, r1, q1⟩ => ?_) hs rfl))
 obtain ⟨j, e, q1, q2, q⟩ := q1
 subst e
 cases r1 with
 | cons r rr =>
  cases rr
  obtain ⟨t, rfl⟩ := r
  exact call_range_1 (qe3 I1 (by omega) (by omega) q1 q2 (by simpa using q))
end
end L2
namespace L2.Sk
open PySem PySem.Spec PyProof.Rows
def qkS (X : Cx) (tg : Expr) (ifs : List Expr) (elt : Expr) (scope : Scope) (N' : List Str) (wi : TI) (nt : Nat) (fr : List Nat) : TE := fun σ H Q => wi σ H fun J H1 => AloneA X.A H1 /\ ∀ acc fp cl C s₀ H₀ pn, H1 acc = none ->
 ∃ (g : TG) (tt : TT) (te : TE), PG (qI X scope N' fp cl C s₀ H₀ pn) tg g /\ PF (qI X scope N' fp cl C s₀ H₀ pn) ifs tt /\ PE (qI X scope N' fp cl C s₀ H₀ pn) elt te /\
 ∃ W : Nat -> Nat -> St -> Hp -> Prop, (∃ m, W 0 m (qw nt fr σ) (upd H1 acc (.lst []))) /\
 ∀ i m σ' H', W i m σ' H' -> (J.stop i H' /\ Q (.ref acc) H') \/ (J.go i H' /\ ∀ x H'', J.yld i H' x H'' -> g x σ' H'' fun σ2 H2 => tt σ2 H2 fun b H3 =>
  if b = true then te σ2 H3 fun y H4 => ∃ ys, H4 acc = some (.lst ys) /\ ys.length < sizeLine /\ ∃ m', m' < m /\ W (i + 1) m' σ2 (upd H4 acc (.lst (ys ++ [y]))) else ∃ m', m' < m /\ W (i + 1) m' σ2 H3)
section
variable {X : Cx} {tg iter elt : Expr} {ifs : List Expr} {scope : Scope} {pos : Pos} {wi : TI} {N' : List Str} {nt : Nat} {fr : List Nat}
theorem qgq (hi : PIH X tg iter wi) (S : CompScope X scope N' nt fr)
  (hs : ∀ x, foldedSetIterable iter X.env x = pure x := by intro _; rfl) : PE X (.ListComp elt [⟨tg, iter, ifs, 0⟩] scope pos) (qkS X tg ifs elt scope N' wi nt fr) := by
 intro pins s σ H Q I hw
 obtain ⟨cl, hcl, cl1, cl2⟩ := closureFor_ok (env := X.env) (scope := scope) (fun y hy hf => I.ok.has y.1 (.inl (S.frees y hy hf)))
 rw [eval_ListComp]
 refine wpAny_comprehension_free (use := none) rfl hs hcl S.kind S.names (thn (hi pins s σ H _ I hw) fun v s1 h1 => thn h1 fun itv s2 h2 => ?_)
 obtain ⟨it, fp, tn, J, H2, e, I2, T, st2, f2, hal, hR⟩ := h2
 subst e
 have hacc : H2 s2.heap.objs.size = none := I2.hok.fresh (Nat.le_refl _)
 have hc : AloneA X.A (upd H2 s2.heap.objs.size (.lst [])) := Sk.AloneA.laid hal hacc
 refine wpAny_newObj_type (wpAny_newFunctionEnv S.nocell (by intro y hy; simp at hy) (fun h₁ hns₁ hsb₁ => ?_) S.kind)
 dsimp only at hns₁ hsb₁ |-
 have I3 : Inv X pins σ (upd H2 s2.heap.objs.size (.lst [])) { s2 with heap := s2.heap.push { cls := .type "list", dict := none, data := .seq ([] : List Value).toArray } } :=
  I2.lnew (t' := s2.toks) (its := []) .nil (Nat.zero_le _)
 generalize hs3 : ({ s2 with heap := s2.heap.push { cls := .type "list", dict := none, data := .seq ([] : List Value).toArray } } : Shared) = s3 at I3
 have hh3 : s2.heap.push { cls := .type "list", dict := none, data := .seq ([] : List Value).toArray } = s3.heap := by rw [<- hs3]
 rw [hh3] at hns₁ hsb₁
 have old : ∀ b o, s3.heap.get? b = some o -> h₁.get? b = some o := fun b o q => hsb₁.extBut b o (Nat.ne_of_lt (Heap.lt_size q)) (Heap.get?_push_of_some _ q)
 have objs2 : ∀ b ∈ fp, ∃ o, s2.heap.get? b = some o := fun b hb => by
  obtain ⟨o, q, _⟩ := T.obj 0 _ st2 b hb
  exact ⟨o, q⟩
 have keep23 : ∀ b o, s2.heap.get? b = some o -> s3.heap.get? b = some o := fun b o q => by rw [<- hh3]; exact Heap.get?_push_of_some _ q
 have fpne : ∀ b ∈ fp, b ≠ s2.heap.objs.size := fun b hb => by
  obtain ⟨o, q⟩ := objs2 b hb
  exact Nat.ne_of_lt (Heap.lt_size q)
 have f3 : ∀ b ∈ fp, qaK X pins (upd H2 s2.heap.objs.size (.lst [])) b := fun b hb => ⟨by rw [qm (fpne b hb)]; exact (f2 b hb).1, (f2 b hb).2⟩
 have J0 : Inv (qI X scope N' fp cl s3.heap.objs.size s3 (upd H2 s2.heap.objs.size (.lst [])) (X.pn ++ pins)) [] (qw nt fr σ) (upd H2 s2.heap.objs.size (.lst [])) { s3 with heap := h₁, toks := s3.toks } :=
  vz S I3 f3 (fun b hb => (objs2 b hb).imp fun o q => keep23 b o q) cl1 cl2 ⟨_, hns₁⟩ old
 obtain ⟨g, tt, te, hg, hf, he, W, ⟨m0, w0⟩, turn⟩ := hR s2.heap.objs.size fp cl s3.heap.objs.size s3 (upd H2 s2.heap.objs.size (.lst [])) (X.pn ++ pins) hacc
 have T0 : tn 0 h₁ := T.keep 0 _ _ st2 fun b hb o q => old b o (keep23 b o q)
 have s3e : ∀ tk : Nat, ({ s2 with heap := h₁, toks := tk } : Shared) = { s3 with heap := h₁, toks := tk } := fun tk => by rw [<- hs3]
 have loop : ∀ tk : Nat, codeAny (model X.prog X.w) X.A (.compLoop (.ListComp elt [⟨tg, iter, ifs, 0⟩] scope pos) 0 (.ref it) (.ref s2.heap.objs.size) (compEnvC scope cl s3.heap.objs.size X.env))
   (compPost (model X.prog X.w) X.A X.xe none (EP X pins σ Q) (.ref s2.heap.objs.size) s3.heap.objs.size) { s3 with heap := h₁, toks := tk } := fun tk => by
  have stat : ∀ {H' : Hp}, (∀ b ∈ fp, H' b = none) -> ∀ b ∈ fp, qaK (qI X scope N' fp cl s3.heap.objs.size s3 (upd H2 s2.heap.objs.size (.lst [])) (X.pn ++ pins)) [] H' b := fun {H'} hn b hb => by
   obtain ⟨o, q⟩ := objs2 b hb
   have hbC : b ≠ s3.heap.objs.size := Nat.ne_of_lt (Heap.lt_size (keep23 b o q))
   refine ⟨hn b hb, hbC, fun z => ?_, .inl hb, fun x c hx => (f2 b hb).2.2.2.2.1 x c (cl1 x c hx), fun p hp => ?_⟩
   ·rcases List.mem_cons.mp (I2.stkSub b z) with z | z
    ·exact (f2 b hb).2.1 z
    ·exact (f2 b hb).2.2.1 z
   ·have hp' : p ∈ X.pn ++ pins := by
     rcases mA_.mp (show p ∈ (X.pn ++ pins) ++ [] from hp) with z | z
     ·exact z
     ·cases z
    exact (f2 b hb).2.2.2.2.2 p hp'
  have fr0 : ∀ b ∈ fp, upd H2 s2.heap.objs.size (.lst []) b = none := fun b hb => (f3 b hb).1
  refine uV (fun n s' => ∃ i σ' H', Inv (qI X scope N' fp cl s3.heap.objs.size s3 (upd H2 s2.heap.objs.size (.lst [])) (X.pn ++ pins)) [] σ' H' s' /\ tn i s'.heap /\ (∀ b ∈ fp, H' b = none) /\ W i n σ' H') ?_ m0
   ⟨0, qw nt fr σ, _, J0.tok tk, T0, fr0, w0⟩
  rintro n s4 ⟨i, σ4, H4, J4, st4, fr4, w4⟩
  rcases turn i n σ4 H4 w4 with ⟨stop, qn⟩ | ⟨go, step⟩
  ·refine thn (T.done (qI X scope N' fp cl s3.heap.objs.size s3 (upd H2 s2.heap.objs.size (.lst [])) (X.pn ++ pins)) rfl rfl rfl hc i [] s4 σ4 H4 _ J4 (stat fr4) st4 stop) fun r s5 ⟨hr, J5⟩ => ?_
   subst hr
   obtain ⟨m5, n5, _⟩ := J5.loc
   refine ⟨m5, n5, fun h' sb => ⟨.ref s2.heap.objs.size, H4, qaR I3 f3 J5 sb, rfl, qn⟩⟩
  ·refine thn (T.item (qI X scope N' fp cl s3.heap.objs.size s3 (upd H2 s2.heap.objs.size (.lst [])) (X.pn ++ pins)) rfl rfl rfl hc i [] s4 σ4 H4 _ J4 (stat fr4) st4 go) fun r s5 ⟨u, hr, h5⟩ => ?_
   subst hr
   refine thn h5 fun _ s6 ⟨x, H6, J6, r6, y6, st6, fr6⟩ => ?_
   have J6' := J6.pinned (stat fr6) (T.obj _ _ st6)
   have again : ∀ {σ7 : St} {H7 : Hp} {s7 : Shared}, Inv (qI X scope N' fp cl s3.heap.objs.size s3 (upd H2 s2.heap.objs.size (.lst [])) (X.pn ++ pins)) ([] ++ wA fp s6.heap) σ7 H7 s7 -> (∃ m', m' < n /\ W (i + 1) m' σ7 H7) ->
     ∃ m, m < n /\ ∃ i σ' H', Inv (qI X scope N' fp cl s3.heap.objs.size s3 (upd H2 s2.heap.objs.size (.lst [])) (X.pn ++ pins)) [] σ' H' s7 /\ tn i s7.heap /\ (∀ b ∈ fp, H' b = none) /\ W i m σ' H' := fun {σ7 H7 s7} I7 hm => by
    obtain ⟨m', hm, w7⟩ := hm
    refine ⟨m', hm, i + 1, σ7, H7, I7.unpinned, T.keep _ _ _ st6 fun b hb o q => (I7.pin (b, o) (mr_ _ (mr_ _ (z9 hb q)))).1, fun b hb => ?_, w7⟩
    obtain ⟨o, q, d⟩ := T.obj _ _ st6 b hb
    exact (I7.pin (b, o) (mr_ _ (mr_ _ (z9 hb q)))).2.1
   refine thn (hg _ s6 σ4 H6 x u _ J6' r6 (step x H6 y6)) fun _ s7 ⟨σ7, H7, J7, q7⟩ => ?_
   refine thn (hf _ s7 σ7 H7 _ J7 q7) fun ok s8 ⟨H8, J8, q8⟩ => ?_
   cases ok with
   | false =>
    rw [if_neg Bool.false_ne_true] at q8 |-
    exact again J8 q8
   | true =>
    rw [if_pos rfl] at q8 |-
    refine thn (he _ s8 σ7 H8 _ J8 q8) fun z s9 ⟨y, H9, J9, r9, ys, hys, hz, hm⟩ => ?_
    refine thn (va _ s9 σ7 H9 (.ref s2.heap.objs.size) [y] (.ref s2.heap.objs.size) [z] (fun _ H' => H' = upd H9 s2.heap.objs.size (.lst (ys ++ [y]))) J9 rfl (.cons r9 .nil) ⟨_, ys, y, rfl, rfl, hys, hz, rfl⟩) fun _ s10 ⟨_, H10, J10, _, e10⟩ => ?_
    subst e10
    exact again J10 hm
 have qU : ∀ tk : Nat, codeAny (model X.prog X.w) X.A (.compStart (.ListComp elt [⟨tg, iter, ifs, 0⟩] scope pos) 0 (.ref it) (.ref s2.heap.objs.size) (compEnvC scope cl s3.heap.objs.size X.env))
   (compPost (model X.prog X.w) X.A X.xe none (EP X pins σ Q) (.ref s2.heap.objs.size) s3.heap.objs.size) { s3 with heap := h₁, toks := tk } := fun tk =>
  codeAny_compStart_list (loop tk) (T.self X.A 0 _ _ _ T0 (loop tk))
 have fin := qU (s2.toks + ([] : List (Str × Value)).length)
 rw [<- s3e] at fin
 rw [<- hh3] at fin
 rw [hh3] at fin |-
 exact fin
end
def DIH (X : Cx) (c : Fc) (tg it : Expr) (f : M (List D)) : Prop := ∃ w, PIH X tg it w /\ ∀ ρ σ H Q, Rep X.K c ρ σ H -> WpI X.K c σ H Q (f ρ) -> w σ H Q
section
variable {X : Cx} {c : Fc} {tg a b e : Expr} {pos : Pos}
theorem qaB {f : M (List D)} {p : Pos} (hg : Gl X "range") (hm : X.mg "range" = none) (ha : DA X c [a] f) (hs : starEach [a] X.env = [(false, eval a X.env)] := by rfl) : DIH X c tg (.Call (.Name "range" p) [a] [] pos) (yK f) := by
 obtain ⟨t, p, w⟩ := ha
 refine ⟨_, qdO hg hm p hs, fun ρ σ H Q r h => w ρ σ H _ r (WpL.bndI h fun ds ρ1 vs H1 r1 i1 g1 h1 => ?_)⟩
 obtain ⟨es, e, h2⟩ := vd h1
 unfold qf8 at e
 split at e
 ·rename_i j
  obtain ⟨v, rfl, e2⟩ := IsL.inv1 i1
  cases e2
  by_cases hb : (decide (-(2 ^ 62) <= j) && decide (j < 2 ^ 62)) = true
  ·rw [if_pos hb] at e
   cases e
   rw [Bool.and_eq_true] at hb
   exact ⟨j, rfl, of_decide_eq_true hb.1, of_decide_eq_true hb.2, h2 _ H1 r1 (qgX 0 _) .refl⟩
  ·rw [if_neg hb] at e
   cases e
 ·cases e
theorem qdb {it elt : Expr} {ifs : List Expr} {scope : Scope} {N' : List Str} {nt : Nat} {fr : List Nat} {fo : Option (Nat × Nat)} {f : M (List D)} {g : D -> Env -> Option Env} {t : M Bool} {k : M D} (hal : ∀ ρ σ H, Rep X.K c ρ σ H -> AloneA X.A H) (hi : DIH X c tg it f) (S : CompScope X scope N' nt fr)
  (hfo : qgY c nt fr fo) (hz : fo = none)
  (hb : ∀ fp cl C s₀ H₀ pn B0 H1 Io' acc S', (∀ ρ σ H, Rep X.K (cin B0 H1 (foO fo) Io' acc S') ρ σ H -> AloneA X.A H) -> DG (qI X scope N' fp cl C s₀ H₀ pn) (cin B0 H1 (foO fo) Io' acc S') tg g /\ DF (qI X scope N' fp cl C s₀ H₀ pn) (cin B0 H1 (foO fo) Io' acc S') ifs t /\ DE (qI X scope N' fp cl C s₀ H₀ pn) (cin B0 H1 (foO fo) Io' acc S') elt k)
  (hs : ∀ x, foldedSetIterable it X.env x = pure x := by intro _; rfl) : DE X c (.ListComp elt [⟨tg, it, ifs, 0⟩] scope pos) (jL nt fr fo f g t k) := by
 obtain ⟨wi, pi, wI⟩ := hi
 refine ⟨_, qgq pi S hs, fun ρ σ H Q r h => wI ρ σ H _ r (WpI.bnd h fun ds ρ1 J H1 r1 iok g1 h1 => ?_)⟩
 refine ⟨hal _ _ _ r1, ?_⟩
 intro acc fp cl C s₀ H₀ pn hn
 obtain ⟨⟨tg', pg, wg⟩, ⟨tt, pt, wt⟩, ⟨te, pe, we⟩⟩ := hb fp cl C s₀ H₀ pn (Cn c σ) H1 (wR σ fo) acc (fun j => (qw nt fr σ)[j]?) (fun ρ2 σ2 H2 q => Sk.AloneA.cin (hal _ _ _ r1) hn (fun a => by rw [hz]; exact id) q)
 refine ⟨tg', tt, te, pg, pt, pe, ?_⟩
 cases ew : zg g t k ds [] (jK nt fr ρ1) with
 | exc x ρ' => rw [ew] at h1; exact h1.elim
 | bad => rw [ew] at h1; exact h1.elim
 | ok p =>
  rw [ew] at h1
  obtain ⟨ys, ρe⟩ := p
  have h1 : ∀ v H', Rep X.K c (qhU fo ρe ρ1) σ H' -> Is X.K (Cn c σ) H' (.lst ys) v -> Gr c.O σ H1 H' -> Q v H' := h1
  have accO : ∀ j ∈ foO fo, (qw nt fr σ)[j]? ≠ some (some (.ref acc)) := fun j hj e => by
   have r0 := r1.entry (acc := acc) hn hfo
   cases fo with
   | none => cases hj
   | some p =>
    obtain ⟨i', j'⟩ := p
    have e2 : j = i' := by simpa [foO] using hj
    subst e2
    obtain ⟨k2, j2, e1, e2, e3⟩ := jc e
    have hk2 : k2 = j - nt := by omega
    subst hk2
    rw [hfo.2.2.1] at e2
    cases e2
    obtain ⟨a, us, e4, e5, _⟩ := r1.own j' hfo.1 _ e3
    cases e4; rw [hn] at e5; cases e5
  refine ⟨fun i m σ' H' => m = ds.length - i /\ i <= ds.length /\ ∃ ρ' zs xs, Rep X.K (cin (Cn c σ) H1 (foO fo) (wR σ fo) acc fun j => (qw nt fr σ)[j]?) ρ' σ' H' /\ (∀ j ∈ foO fo, σ'[j]? = (qw nt fr σ)[j]?) /\ H' acc = some (.lst xs) /\ IsL X.K (Cn (cin (Cn c σ) H1 (foO fo) (wR σ fo) acc fun j => (qw nt fr σ)[j]?) σ') H' zs xs /\ zg g t k (ds.drop i) zs ρ' = .ok (ys, ρe),
   ⟨ds.length, by simp, Nat.zero_le _, jK nt fr ρ1, [], [], r1.entry hn hfo, fun _ _ => rfl, ql, rfl, by simpa using ew⟩, ?_⟩
  rintro i m σ' H' ⟨rfl, hi, ρ', zs, xs, r', so, ha, iz, w⟩
  obtain ⟨_, gr⟩ := r1.leave hn hfo (fun i j e => so i (by rw [e]; simp [foO])) r'
  have ex : Ext (CnT c σ H1) H1 H' := ⟨gr.ext.tup, gr.ext.frz, fun b o hb hq => gr.ext.at_ b o hb.1.2 hq⟩
  have accC : ∀ τ : St, (∀ j ∈ foO fo, τ[j]? = (qw nt fr σ)[j]?) -> Cl (foO fo) τ acc := fun τ hτ j hj e => accO j hj (by rw [<- hτ j hj]; exact e)
  by_cases hlt : i < ds.length
  ·refine .inr ⟨iok.go H' i ds[i] ex (by simp [hlt]), fun x H'' y => ?_⟩
   obtain ⟨sm, ix⟩ := iok.yl H' i ds[i] x H'' ex (by simp [hlt]) y
   rw [uw hlt] at w
   unfold zg at w
   have ix2 : Is X.K (Cn (cin (Cn c σ) H1 (foO fo) (wR σ fo) acc fun j => (qw nt fr σ)[j]?) σ') H'' ds[i] x := Is.ext Ext.refl (fun a ha _ => ⟨⟨ha.1, fun e => by
    have := ha.2
    rw [e, hn] at this; cases this⟩, fun j hj e => by
     rw [so j hj] at e
     cases fo with
     | none => cases hj
     | some p =>
      obtain ⟨i', j'⟩ := p
      have e2 : j = i' := by simpa [foO, cin] using hj
      subst e2
      obtain ⟨k2, j2, e1, e2, e3⟩ := jc e
      have hk2 : k2 = j - nt := by omega
      subst hk2
      rw [hfo.2.2.1] at e2
      cases e2
      exact ha.1.2 j' hfo.1 e3⟩) ix
   cases e1 : g ds[i] ρ' with
   | none => simp only [e1] at w; cases w
   | some ρ2 =>
    simp only [e1] at w
    refine wg ρ' σ' H'' ds[i] x ρ2 _ (r'.same sm) ix2 e1 fun σ2 r2 g2 o2 => ?_
    have so2 : ∀ j ∈ foO fo, σ2[j]? = (qw nt fr σ)[j]? := fun j hj => (o2 j hj).trans (so j hj)
    have ha2 : H'' acc = some (.lst xs) := sm _ _ ha
    have iz2 := g2.isL (IsL.ext (Ext.of_same sm) (fun _ h _ => h) iz)
    cases e2 : t ρ2 with
    | exc x ρ3 => simp only [e2] at w; cases w
    | bad => simp only [e2] at w; cases w
    | ok p2 =>
     obtain ⟨bb, ρ3⟩ := p2
     refine wt ρ2 σ2 H'' _ r2 ?_
     rw [e2]
     intro H3 r3 g3
     have ha3 : H3 acc = some (.lst xs) := g3.ext.at_ _ _ (accC σ2 so2) ha2
     have iz3 := g3.isL iz2
     cases bb with
     | false =>
      rw [if_neg Bool.false_ne_true]
      simp only [e2] at w
      exact ⟨ds.length - (i + 1), by omega, rfl, hlt, ρ3, zs, xs, r3, so2, ha3, iz3, w⟩
     | true =>
      rw [if_pos rfl]
      simp only [e2] at w
      cases e3 : k ρ3 with
      | exc x ρ4 => simp only [e3] at w; cases w
      | bad => simp only [e3] at w; cases w
      | ok p3 =>
       obtain ⟨d4, ρ4⟩ := p3
       simp only [e3] at w
       refine we ρ3 σ2 H3 _ r3 ?_
       rw [e3]
       intro y4 H4 r4 i4 g4
       have ha4 : H4 acc = some (.lst xs) := g4.ext.at_ _ _ (accC σ2 so2) ha3
       have hsz : qH (zs.length + 1) = true := by
        cases e5 : qH (zs.length + 1) with
        | true => rfl
        | false => rw [e5] at w; simp at w
       rw [if_pos hsz] at w
       have hsz' : zs.length + 1 <= sizeLine := of_decide_eq_true hsz
       have r5 := r4.grow (ys := xs ++ [y4]) ha4 (fun j hj e => accC σ2 so2 j hj e)
       have ext5 : Ext (Cn (cin (Cn c σ) H1 (foO fo) (wR σ fo) acc fun j => (qw nt fr σ)[j]?) σ2) H4 (upd H4 acc (.lst (xs ++ [y4]))) := ⟨fun b us hb => by rw [qm (u8 hb ha4 (by intro z; cases z))]; exact hb, fun b o u hb => by rw [qm (u8 hb ha4 (by intro z; cases z))]; exact hb, fun b o hb hq => by rw [qm hb.1.2]; exact hq⟩
       refine ⟨xs, ha4, by rw [iz3.length]; omega, ds.length - (i + 1), by omega, rfl, hlt, ρ4, zs ++ [d4], xs ++ [y4], r5, so2, ql, ?_, w⟩
       exact IsL.append (IsL.ext ext5 (fun _ h _ => h) (g4.isL iz3)) (IsL.one (Is.ext ext5 (fun _ h _ => h) i4))
  ·have hie : i = ds.length := by omega
   subst hie
   rw [List.drop_of_length_le (Nat.le_refl _)] at w
   unfold zg at w
   cases w
   obtain ⟨r6, g6⟩ := r1.leave hn hfo (fun i j e => so i (by rw [e]; simp [foO])) r'
   exact .inl ⟨iok.stop H' ex, h1 _ H' r6 ⟨acc, xs, rfl, r1.new hn, ha, IsL.ext Ext.refl (fun a ha hs => ha.1.1) iz⟩ g6⟩
end
theorem yB.units {k : Nat} {A : Around} (r : yB k A) : A.units + 64 < cLine := by have := r.un; omega
section
variable {X : Cx} {c : Fc} {e : Expr} {es : List Expr} {pos : Pos}
theorem qiw {k : Nat} (hr : yB k X.A) : OpR X (compareOp .Eq) (qfG X.K false) := by
 intro pins s σ H x y v u Q I rx ry h
 obtain ⟨d, e, A, h1, h2, o1, o2, q⟩ := h
 obtain ⟨as, r1, _⟩ := jm I (uJ o1) h1 rx
 obtain ⟨bs, r2, _⟩ := jm I (uJ o2) h2 ry
 exact SeqAt.compareEq_shaped r1 r2 (vB o1) (vB o2) (yB.units hr) ⟨.bl _, H, I, rfl, by simpa using q⟩
theorem ql9 {K : Fr0} {A : Around} {e : Addr} {H6 : Hp} (al : AloneA (A.mark (some (.ref e))) H6) : ∀ ρ σ H, Rep K (ch H6) ρ σ H -> AloneA (A.mark (some (.ref e))) H := Sk.AloneA.rep (c := ch H6) al (fun _ z => z)
theorem qix {k : Nat} {A : Around} {e : Addr} (hr : yH k A) : yB k (A.mark (some (.ref e))) := ⟨hr.dp, hr.un, hr.gd⟩
theorem qe4 {k : Nat} (hr : yB k X.A) : OpR X (compareOp .Eq) (fun x y H Q => rEq x y H Q \/ qfG X.K false x y H Q) := OpR.or qjF (qiw hr)
theorem qgr {k : Nat} {f : Addr} {fd : FuncData} {ps : List Str} {F : List D -> R D} {x : Str} {p : Pos} {g : M (List D)} (hal : ∀ ρ σ H, Rep X.K c ρ σ H -> AloneA X.A H)
  (G : qa0 X.prog X.w X.K X.mg X.base CX0 k f fd ps (spD X.K F)) (hr : yB k X.A) (hg : Gl X x) (hm : X.mg x = some (.ref f)) (hk : PySem.W.keepIn X.K (.ref f) = true) (hb : uc X.K fd ps [])
  (ha : DA X c (e :: es) g) (hd : (x == ("__debug__" : Str)) = false := by decide) (he : starEach (e :: es) X.env = (false, eval e X.env) :: starEach es X.env := by rfl) (hpl : (backTo pos (starEach es X.env)).any (·.1) = false := by rfl) : DE X c (.Call (.Name x p) (e :: es) [] pos) (qk F g) := by
 obtain ⟨t, pa, w⟩ := ha
 refine ⟨_, qc1 (E := fun _ _ _ => False) G hr hg hm hk hb .nil (fun _ _ _ _ _ _ _ z => z.elim) pa hd he hpl, fun ρ σ H Q r h => w ρ σ H _ r (WpL.bnd h fun ds ρ1 vs H1 r1 i1 g1 h1 => ⟨hal _ _ _ r1, ?_⟩)⟩
 rw [List.append_nil]
 refine ⟨ds, Cn c σ, i1, r1.tb, ?_⟩
 cases ef : F ds with
 | bad => simp only [ef] at h1; exact h1.elim
 | exc z ρ' => simp only [ef] at h1; exact h1.elim
 | ok d =>
  simp only [ef] at h1
  exact fun v H' sm i => h1 v H' (r1.same sm) (Is.ext Ext.refl (fun a ha _ => ha.elim id r1.new) i) (.of_same sm)
end
section
variable {prog : Program} {w : World} {A : Around} {R : Result -> Shared -> Prop} {I : Addr} {fp wr : List Addr} {n : Nat} {P : Nat -> Value -> Prop} {St : Nat -> Heap -> Prop} {dv : Value}
end
section
variable {prog : Program} {w : World} {A : Around} {E : Value -> Shared -> Prop} {s : Shared}
end
section
variable {prog : Program} {w : World} {A : Around} {R : Result -> Shared -> Prop} {I : Addr} {fp wr : List Addr} {n : Nat} {P : Nat -> Value -> Prop} {St : Nat -> Heap -> Prop} {dv : Value}
end
section
variable {prog : Program} {w : World} {A : Around} {E : Value -> Shared -> Prop} {s : Shared}
end
section
variable {prog : Program} {w : World} {A : Around} {E : Value -> Shared -> Prop} {s : Shared}
end
section
variable {X : Cx}
end
section
variable {X : Cx} {c : Fc} {a b e : Expr} {pos : Pos}
def qg9 (F : List D -> List D -> Option D) (f g : M (List D)) : M D := bnd f fun xs => bnd g fun zs => lift (F xs zs)
def CallKS (K : Fr0) (F : List D -> List D -> Option D) (r : List V -> List V -> Hp -> VK -> Prop) : Prop := ∀ A H xs zs d vs ws (Q : VK), (∀ a, H a = none -> A a) -> IsL K A H xs vs -> IsL K A H zs ws -> F xs zs = some d -> (∀ u H', zM H H' -> Is K A H' d u -> Q u H') -> r vs ws H Q
end
def qnp (xs zs : List D) : Option D := match xs, zs with
 | [.lst ds], [z] => (qai ds).map fun ns => if ns = [] then z else .int (ql1 ns)
 | _, _ => none
def slB (x : D) (lo hi : Option Int) : Option D := match x with
 | .tup ds => some (.tup (qcS ds lo hi))
 | .lst ds => some (.lst (qcS ds lo hi))
 | _ => none
def qiy (f : M D) (g k : M (Option Int)) : M D := bnd f fun d => bnd g fun l => bnd k fun u => lift (slB d l u)
section
variable {X : Cx} {c : Fc} {a b e : Expr} {pos p2 : Pos}
theorem qbP {lo hi : Option Expr} {f : M D} {g k : M (Option Int)} (ha : DE X c a f) (hl : DO X c lo g) (hu : DO X c hi k) : DE X c (.Subscript a (.Slice lo hi none p2) pos) (qiy f g k) := by
 obtain ⟨ta, pa, wa⟩ := ha
 obtain ⟨tl, pl, wl⟩ := hl
 obtain ⟨tu, pu, wu⟩ := hu
 refine ⟨_, qfT (SlR.or qj3 qhD) pa pl pu, fun ρ σ H Q r h => wa ρ σ H _ r (Wp.bnd h fun d ρ1 v H1 r1 i1 g1 h1 => ?_)⟩
 refine wl ρ1 σ H1 _ r1 (fun l ρ2 e2 H2 r2 g2 => ?_) (fun x ρ2 e2 H2 r2 g2 => ?_) (fun e2 => ?_)
 ·rw [qgP e2] at h1
  have h1 := h1.gr g2
  refine wu ρ2 σ H2 _ r2 (fun u ρ3 e3 H3 r3 g3 => ?_) (fun x ρ3 e3 H3 r3 g3 => ?_) (fun e3 => ?_)
  ·rw [qgP e3] at h1
   obtain ⟨d', e4, h4⟩ := h1.lift
   have i3 := g3.is (g2.is i1)
   clear h1
   cases d <;> simp only [slB] at e4 <;> try (cases e4; done)
   ·rename_i ds
    cases e4
    obtain ⟨a, xs, rfl, ta, il⟩ := i3
    refine .inl ?_
    by_cases hw : HT.sIx xs.length 0 l = 0 /\ HT.sIx xs.length xs.length u = xs.length
    ·refine .inl ⟨a, xs, rfl, ta.sq, hw, h4 _ H3 r3 ⟨a, xs, rfl, ta, ?_⟩ g3⟩
     have e5 : qcS ds l u = ds := by
      unfold qcS
      rw [<- il.length, hw.1, hw.2]
      simp [il.length]
     rw [e5]; exact il
    ·refine .inr ⟨a, xs, rfl, ta.sq, hw, fun p hp => h4 _ _ (r3.laid hp _) ⟨p, qfC xs l u, rfl, .inl ql, ?_⟩ (g3.trans (.of_same (qs hp _)))⟩
     refine IsL.ext (Ext.of_same (qs hp _)) (fun _ h _ => h) ?_
     unfold qcS qfC
     rw [<- il.length]
     exact IsL.take _ (IsL.drop _ il)
   ·rename_i ds
    cases e4
    obtain ⟨a, xs, rfl, hA, ta, il⟩ := i3
    refine .inr ⟨a, xs, rfl, .inl (.inl ta), fun p hp => h4 _ _ (r3.laid hp _) ⟨p, qfC xs l u, rfl, r3.new hp, ql, ?_⟩ (g3.trans (.of_same (qs hp _)))⟩
    refine IsL.ext (Ext.of_same (qs hp _)) (fun _ h _ => h) ?_
    unfold qcS qfC
    rw [<- il.length]
    exact IsL.take _ (IsL.drop _ il)
  ·unfold bnd at h1; rw [e3] at h1; exact h1 H3 r3 g3
  ·unfold bnd at h1; rw [e3] at h1; exact h1
 ·unfold bnd at h1; rw [e2] at h1; exact h1 H2 r2 g2
 ·unfold bnd at h1; rw [e2] at h1; exact h1
theorem Wp.bndN {K : Fr0} {σ : St} {H : Hp} {Q : VK} {f : M D} {k : D -> M (List D)} {ρ : Env} {Q' : VK} (h : WpN K c σ H Q (Sk.bnd f k ρ)) (hQ : ∀ d ρ' v H', Rep K c ρ' σ H' -> Is K (Cn c σ) H' d v -> Gr c.O σ H H' -> WpN K c σ H' Q (k d ρ') -> Q' v H') : Wp K c σ H Q' (f ρ) := by
 unfold Sk.bnd at h
 cases e : f ρ with
 | ok p => rw [e] at h; exact fun v H' hr hi hg => hQ p.1 p.2 v H' hr hi hg (h.gr hg)
 | exc x ρ' => rw [e] at h; exact h
 | bad => rw [e] at h; exact h
def qiz (x y : D) : Option (List D) := match x, y with
 | .lst ds, .int k => if (decide (-(2 ^ 62) <= k) && decide (k < 2 ^ 62)) && (qH (ds.length * k.toNat) && immL ds) then some (List.replicate k.toNat ds).flatten else none
 | _, _ => none
def qkT (f g : M D) : M (List D) := bnd f fun x => bnd g fun y => lift (qiz x y)
theorem qgs {K : Fr0} {σ : St} {H : Hp} {Q : VK} {o : Option (List D)} {ρ : Env} (h : WpN K c σ H Q (lift o ρ)) : ∃ ds, o = some ds /\ WpN K c σ H Q (.ok (ds, ρ)) := by
 cases o with
 | none => exact h.elim
 | some d => exact ⟨d, rfl, h⟩
theorem qkU {f g : M D} (ha : DE X c a f) (hb : DE X c b g) : DN X c (.BinOp a .Mult b pos) (qkT f g) := by
 obtain ⟨ta, pa, wa⟩ := ha
 obtain ⟨tb, pb, wb⟩ := hb
 refine ⟨_, qjz qgN pa pb, fun ρ σ H Q r h => wa ρ σ H _ r (Wp.bndN h fun x ρ1 v H1 r1 i1 g1 h1 => wb ρ1 σ H1 _ r1 (Wp.bndN h1 fun y ρ2 u H2 r2 i2 g2 h2 => ?_))⟩
 obtain ⟨ds', e, h3⟩ := qgs h2
 have i1' := g2.is i1
 unfold qiz at e
 split at e
 ·rename_i ds k
  obtain ⟨p, xs, rfl, hA, hp, il⟩ := i1'
  have iu : u = V.int k := i2
  subst iu
  split at e
  ·rename_i hb
   simp only [Bool.and_eq_true, decide_eq_true_eq] at hb
   obtain ⟨⟨b1, b2⟩, b3, b4⟩ := hb
   have b3 : ds.length * k.toNat <= sizeLine := of_decide_eq_true b3
   cases e
   refine ⟨p, k, xs, rfl, rfl, hp, by omega, by omega, by rw [il.length]; exact b3, fun q hq => ?_⟩
   exact h3 q _ _ hq (r2.laid hq _) (r2.apart hq) ql trivial (IsL.ext (Ext.of_same (qs hq _)) (fun _ h _ => h) (IsL.rep (IsL.imm b4 il) _)) (.of_same (qs hq _))
  ·cases e
 ·cases e
def qnq (f : M D) : M (List D) := bnd f fun x => lift (match x with
 | .lst ds => if immL ds then some ds else none
 | .tup ds => if immL ds then some ds else none
 | _ => none)
def qe5 (i : Nat) (f : M D) : M D := fun ρ => match zA i ρ with
 | none => .bad
 | some _ => (bnd f fun d ρ => match d, zA i ρ with
  | .lst es, some ds => if immL es && qH (ds.length + es.length) then .ok (.non, ρ.set i (some (.lst (ds ++ es)))) else .bad
  | _, _ => .bad) ρ
def qmQ (f : M (List D)) : M (List D) := fun ρ => match f ρ with
 | .ok ([.tup _], _) => qdE f ρ
 | _ => qkQ f ρ
end
section
variable {ρ : Env} {f g : M D} {l k : M (List D)}
theorem qlv (F : List D -> List D -> Option D) : qg9 F l k ρ = match l ρ with | .ok (xs, ρ1) => (match k ρ1 with | .ok (zs, ρ2) => (match F xs zs with | some d => .ok (d, ρ2) | none => .bad) | .exc x ρ' => .exc x ρ' | .bad => .bad) | .exc x ρ' => .exc x ρ' | .bad => .bad := by
 simp only [qg9, bnd]
 cases l ρ with
 | ok z =>
  obtain ⟨z1, ρ1⟩ := z
  dsimp only
  cases k ρ1 with
  | ok z => obtain ⟨z2, ρ2⟩ := z; (dsimp only; cases F z1 z2 <;> rfl)
  | exc x ρ' => rfl
  | bad => rfl
 | exc x ρ' => rfl
 | bad => rfl
theorem qkV : qkT f g ρ = match f ρ with | .ok (x, ρ1) => (match g ρ1 with | .ok (y, ρ2) => (match qiz x y with | some ds => .ok (ds, ρ2) | none => .bad) | .exc x ρ' => .exc x ρ' | .bad => .bad) | .exc x ρ' => .exc x ρ' | .bad => .bad := by
 simp only [qkT, bnd]
 cases f ρ with
 | ok z =>
  obtain ⟨z1, ρ1⟩ := z
  dsimp only
  cases g ρ1 with
  | ok z => obtain ⟨z2, ρ2⟩ := z; (dsimp only; cases qiz z1 z2 <;> rfl)
  | exc x ρ' => rfl
  | bad => rfl
 | exc x ρ' => rfl
 | bad => rfl
theorem qkW (i : Nat) : qe5 i f ρ = match zA i ρ with
  | none => .bad
  | some _ => (match f ρ with | .ok (d, ρ1) => (match d, zA i ρ1 with | .lst es, some ds => (if immL es && qH (ds.length + es.length) then .ok (.non, ρ1.set i (some (.lst (ds ++ es)))) else .bad) | _, _ => .bad) | .exc x ρ' => .exc x ρ' | .bad => .bad) := by
 unfold qe5
 cases zA i ρ with
 | none => rfl
 | some z =>
  simp only [bnd]
  cases f ρ with
  | ok z => obtain ⟨z1, ρ1⟩ := z; rfl
  | exc x ρ' => rfl
  | bad => rfl
theorem qmR (p q : M (Option Int)) : qiy f p q ρ = match f ρ with | .ok (d, ρ1) => (match p ρ1 with | .ok (l, ρ2) => (match q ρ2 with | .ok (u, ρ3) => (match slB d l u with | some r => .ok (r, ρ3) | none => .bad) | .exc x ρ' => .exc x ρ' | .bad => .bad) | .exc x ρ' => .exc x ρ' | .bad => .bad) | .exc x ρ' => .exc x ρ' | .bad => .bad := by
 simp only [qiy, bnd]
 cases f ρ with
 | ok z =>
  obtain ⟨z1, ρ1⟩ := z
  dsimp only
  cases p ρ1 with
  | ok z =>
   obtain ⟨z2, ρ2⟩ := z
   dsimp only
   cases q ρ2 with
   | ok z => obtain ⟨z3, ρ3⟩ := z; (dsimp only; cases slB z1 z2 z3 <;> rfl)
   | exc x ρ' => rfl
   | bad => rfl
  | exc x ρ' => rfl
  | bad => rfl
 | exc x ρ' => rfl
 | bad => rfl
end
section
variable {X : Cx} {c : Fc} {e : Expr} {es : List Expr} {pos : Pos}
theorem dC {k j : Nat} {ps : List Str} {F : List D -> R D} {x : Str} {p : Pos} {g : M (List D)} (C : zb X.prog X.w X.K X.mg X.base k x ps (spD X.K F)) (hr : yH j X.A) (ha : DA X c (e :: es) g)
  (hk : k <= j := by decide) (hg : Gl X x := by rfl) (hd : (x == ("__debug__" : Str)) = false := by decide) (he : starEach (e :: es) X.env = (false, eval e X.env) :: starEach es X.env := by rfl) (hpl : (backTo pos (starEach es X.env)).any (·.1) = false := by rfl) : DE X c (.Call (.Name x p) (e :: es) [] pos) (qk F g) := by
 obtain ⟨f, fd, G, m, kk, b⟩ := C.ex
 exact qhY G (hr.mono hk) hg m kk b ha hd he hpl
theorem nC {k j : Nat} {ps : List Str} {F : List D -> R D} {x : Str} {p : Pos} {g : M (List D)} (C : zb X.prog X.w X.K X.mg X.base k x ps (spD X.K F)) (hr : yH j X.A) (ha : DA X c (e :: es) g)
  (hk : k <= j := by decide) (hg : Gl X x := by rfl) (hd : (x == ("__debug__" : Str)) = false := by decide) (he : starEach (e :: es) X.env = (false, eval e X.env) :: starEach es X.env := by rfl) (hpl : (backTo pos (starEach es X.env)).any (·.1) = false := by rfl) : DN X c (.Call (.Name x p) (e :: es) [] pos) (qbK F g) := by
 obtain ⟨f, fd, G, m, kk, b⟩ := C.ex
 exact qh5 G (hr.mono hk) hg m kk b ha hd he hpl
theorem iC {k j i : Nat} {ps : List Str} {F : List D -> List D -> R (D × List D)} {x y : Str} {p p1 : Pos} {g : M (List D)} (C : zb X.prog X.w X.K X.mg X.base k x ps (qfF X.K F)) (hr : yH j X.A) (ha : DA X c es g)
  (hk : k <= j := by decide) (hg : Gl X x := by rfl) (ho : i ∈ c.O := by exact of_decide_eq_true rfl) (hN : X.N[i]? = some y := by rfl) (hv : Vis X.env.scope y := by first | exact Or.inl rfl | exact Or.inr (Or.inl rfl) | exact Or.inr (Or.inr rfl)) (hdy : (y == ("__debug__" : Str)) = false := by decide) (hcd : (y == ("__classdict__" : Str)) = false := by decide)
  (hd : (x == ("__debug__" : Str)) = false := by decide) (he : starEach (.Name y p1 :: es) X.env = (false, eval (.Name y p1) X.env) :: starEach es X.env := by rfl) (hpl : (backTo pos (starEach es X.env)).any (·.1) = false := by rfl) : DE X c (.Call (.Name x p) (.Name y p1 :: es) [] pos) (qC F i g) := by
 obtain ⟨f, fd, G, m, kk, b⟩ := C.ex
 exact qeE G (hr.mono hk) hg m kk b ha ho hN hv hdy hcd hd he hpl
theorem xC {k j : Nat} {ps : List Str} {F : List D -> R D} {x : Str} {p : Pos} {g : M (List D)} {E : XK} {cl : Str -> Option Addr} {RN : List Str} (L : XL2 X c cl E) (hcl : ∀ n, RN.contains n = true -> (cl n).isSome = true) (C : jv X.prog X.w X.K X.mg X.base k x ps (spX X.K cl F)) (hr : yH j X.A) (ha : DA X c (e :: es) g)
  (hk : k <= j := by decide) (hg : Gl X x := by rfl) (hd : (x == ("__debug__" : Str)) = false := by decide) (he : starEach (e :: es) X.env = (false, eval e X.env) :: starEach es X.env := by rfl) (hpl : (backTo pos (starEach es X.env)).any (·.1) = false := by rfl) : DE X c (.Call (.Name x p) (e :: es) [] pos) (zS RN F g) := by
 obtain ⟨f, fd, G, m, kk, b⟩ := C.ex
 exact qgj L hcl G (hr.mono hk) hg m kk b ha hd he hpl
theorem pC {k j : Nat} {ps : List Str} {F : List D -> R D} {x : Str} {p : Pos} {g : M (List D)} {cl : Str -> Option Addr} (C : jv X.prog X.w X.K X.mg X.base k x ps (spX X.K cl F)) (hr : yH j X.A) (ha : DA X c (e :: es) g)
  (hk : k <= j := by decide) (hg : Gl X x := by rfl) (hd : (x == ("__debug__" : Str)) = false := by decide) (he : starEach (e :: es) X.env = (false, eval e X.env) :: starEach es X.env := by rfl) (hpl : (backTo pos (starEach es X.env)).any (·.1) = false := by rfl) : DE X c (.Call (.Name x p) (e :: es) [] pos) (vi F g) := by
 obtain ⟨f, fd, G, m, kk, b⟩ := C.ex
 exact qgk G (hr.mono hk) hg m kk b ha hd he hpl
theorem lC {k j : Nat} {ps : List Str} {F : List D -> R D} {x : Str} {p : Pos} {g : M (List D)} (hal : ∀ ρ σ H, Rep X.K c ρ σ H -> AloneA X.A H) (C : qcw X.prog X.w X.K X.mg X.base k x ps (spD X.K F)) (hr : yB j X.A) (ha : DA X c (e :: es) g)
  (hk : k <= j := by decide) (hg : Gl X x := by rfl) (hd : (x == ("__debug__" : Str)) = false := by decide) (he : starEach (e :: es) X.env = (false, eval e X.env) :: starEach es X.env := by rfl) (hpl : (backTo pos (starEach es X.env)).any (·.1) = false := by rfl) : DE X c (.Call (.Name x p) (e :: es) [] pos) (qk F g) := by
 obtain ⟨f, fd, G, m, kk, b⟩ := C.ex
 exact qgr hal G (hr.mono hk) hg m kk b ha hd he hpl
theorem gI {x : Str} {i : Int} (h : ∃ t, X.mg x = some (.int i t)) (hg : Gl X x := by rfl) (hd : (x == ("__debug__" : Str)) = false := by decide) : DE X c (.Name x pos) (ret (.int i)) := by
 obtain ⟨t, h⟩ := h
 exact qen (v := .int i) (d := .int i) hg h ⟨_, rfl⟩ (fun _ _ => rfl) hd
theorem gT {x : Str} {ns : List Int} (h : ∃ a, X.mg x = some (.ref a) /\ qjb X.K a ns) (hg : Gl X x := by rfl) (hd : (x == ("__debug__" : Str)) = false := by decide) : DE X c (.Name x pos) (ret (.tup (ns.map .int))) := by
 obtain ⟨a, h1, h2⟩ := h
 exact qgg hg h1 h2 hd
end
theorem nd (N : List Str) (h : N.Nodup := by decide +kernel) : N.Nodup := h
theorem cs {X : Cx} (N N' : List Str) (nt : Nat) (fr : List Nat) (outer : Scope) {scope : Scope} (h0 : scope.kind = .function := by rfl) (h1 : ∀ y ∈ scope.names, y.2 ≠ .cell := by decide +kernel) (h2 : ∀ y ∈ scope.names, y.2 = .local -> scope.names.lookup y.1 = some .local := by decide +kernel)
  (h3 : ∀ y ∈ scope.names, y.2 = .free -> outer.names.lookup y.1 = some .cell := by decide +kernel) (h4 : N'.length = nt + fr.length := by rfl) (h5 : ∀ p ∈ fr.zipIdx, N'[nt + p.2]? = N[p.1]? /\ ((N[p.1]?).bind fun x => scope.names.lookup x) = some .free := by decide +kernel)
  (h6 : X.env.scope = outer := by rfl) (h7 : X.N = N := by rfl) : CompScope X scope N' nt fr := qh6.ok (outer := outer) (N := N) ⟨h0, h1, h2, h3, h4, h5⟩ h6 h7
theorem f0 {c : Fc} {nt : Nat} (fr O : List Nat) (e : c.O = O := by rfl) (h : ∀ j ∈ fr, j ∉ O := by decide) : qgY c nt fr none := fun j hj => by rw [e]; exact h j hj
theorem f1 {c : Fc} (nt : Nat) (fr O : List Nat) (i j : Nat) (e : c.O = O := by rfl) (h1 : j ∈ O := by decide) (h2 : nt <= i := by decide) (h3 : fr[i - nt]? = some j := by rfl) (h4 : ∀ p ∈ fr.zipIdx, nt + p.2 ≠ i -> p.1 ∉ O := by decide) : qgY c nt fr (some (i, j)) :=
 qh8 (by rw [e]; exact h1) h2 h3 (by rw [e]; exact h4)
section
variable {X : Cx} {c : Fc}
end
end L2.Sk
namespace L2.Sk
open PySem PySem.Spec PyProof.Rows
section
variable {X : Cx} {c : Fc} {a b e : Expr} {pos : Pos}
def qe6 (i : Nat) (f : M D) : M D := fun ρ => match zA i ρ with
 | none => .bad
 | some _ => (bnd f fun d ρ => match zA i ρ with
  | some ds => if qH (ds.length + 1) then .ok (.non, ρ.set i (some (.lst (d :: ds)))) else .bad
  | none => .bad) ρ
end
section
variable {prog : Program} {w : World} {A : Around} {E : Value -> Shared -> Prop} {s : Shared}
end
section
variable {X : Cx} {c : Fc} {a e : Expr} {pos : Pos} {tg : Expr}
def qma : List D -> Option (List D)
 | [.tup xs] => some xs.reverse
 | _ => none
def qmS (f : M (List D)) : M (List D) := bnd f fun ds => lift (qma ds)
theorem qmT {l : M (List D)} {ρ : Env} : qmS l ρ = match l ρ with | .ok (d, ρ1) => (match qma d with | some ds => .ok (ds, ρ1) | none => .bad) | .exc x ρ' => .exc x ρ' | .bad => .bad := by
 simp only [qmS, bnd]
 cases l ρ with
 | ok z => obtain ⟨z1, ρ1⟩ := z; (dsimp only; cases qma z1 <;> rfl)
 | exc x ρ' => rfl
 | bad => rfl
theorem qkX {f : M D} {ρ : Env} (i : Nat) : qe6 i f ρ = match zA i ρ with
  | none => .bad
  | some _ => (match f ρ with
   | .ok (d, ρ1) => (match zA i ρ1 with | some ds => (if qH (ds.length + 1) then .ok (.non, ρ1.set i (some (.lst (d :: ds)))) else .bad) | none => .bad)
   | .exc x ρ' => .exc x ρ' | .bad => .bad) := by
 unfold qe6
 cases zA i ρ with
 | none => rfl
 | some z =>
  simp only [bnd]
  cases f ρ with
  | ok z => obtain ⟨z1, ρ1⟩ := z; rfl
  | exc x ρ' => rfl
  | bad => rfl
end
end L2.Sk
namespace HT
open PySem PySem.Spec PyProof.Rows
section
variable {prog : Program} {w : World} {A : Around} {E : Value -> Shared -> Prop} {s : Shared}
end
end HT
namespace L2
open PySem PySem.Spec PyProof.Rows
section
variable {X : Cx} {e : Expr} {te : TE} {ste : Expr} {ts : TO} {pos p2 : Pos}
end
end L2
namespace L2.Sk
open PySem PySem.Spec PyProof.Rows
theorem IsL.rev {K : Fr0} {A : Addr -> Prop} {H : Hp} : ∀ {ds : List D} {xs : List V}, IsL K A H ds xs -> IsL K A H ds.reverse xs.reverse := by
 intro ds
 induction ds with
 | nil =>
  intro xs h
  cases xs with
  | nil => exact h
  | cons x xs => exact absurd h.length (by simp)
 | cons d ds ih =>
  intro xs h
  obtain ⟨x, ys, rfl, h1, h2⟩ := h
  rw [List.reverse_cons, List.reverse_cons]
  have one : IsL K A H [d] [x] := ⟨x, [], rfl, h1, IsL.take 0 h2⟩
  exact IsL.append (ih h2) one
def qmb : D -> Option D
 | .tup ds => some (.tup ds.reverse)
 | .lst ds => some (.lst ds.reverse)
 | _ => none
def qkY (f : M D) : M D := bnd f fun d => lift (qmb d)
section
variable {X : Cx} {c : Fc} {a : Expr} {pos p2 p3 p4 : Pos} {cj : Nat}
theorem qmc {f : M D} {ρ : Env} : qkY f ρ = match f ρ with | .ok (d, ρ1) => (match qmb d with | some x => .ok (x, ρ1) | none => .bad) | .exc x ρ' => .exc x ρ' | .bad => .bad := by
 simp only [qkY, bnd]
 cases f ρ with
 | ok z => obtain ⟨z1, ρ1⟩ := z; (dsimp only; cases qmb z1 <;> rfl)
 | exc x ρ' => rfl
 | bad => rfl
end
section
variable {X : Cx} {c : Fc}
end
end L2.Sk
namespace L2
open PySem PySem.Spec PyProof.Rows
def qnr (X : Cx) (Pt : Addr) (q : Str) (params : Arguments) (body : Expr) (scope : Scope) (pos : Pos) : TE := fun _ H Q => H Pt = some (.lam pos q) /\
 ∀ (f c : Addr) (oc : Obj) (vs : Array Value) (t : Tok) (cl : List (Str × Addr)) (pm ctv : Value) (H1 : Hp), zM H H1 -> H1 f = some (.frz (PySem.W.kla_obj "<lambda>" q params body scope cl pm c ctv) (.own f)) -> H1 c = some (.frz oc (.own c)) ->
  oc.data = .fields vs -> vs[1]? = some (.str q t) -> (∀ n a, cl.lookup n = some a -> X.env.cells.lookup n = some a) -> (∀ y ∈ scope.names, y.2 = .free -> ∃ a, cl.lookup y.1 = some a) -> Q (.ref f) H1
section
variable {X : Cx} {pins : List (Addr × Obj)} {σ : St} {H : Hp} {s : Shared}
theorem vk {H : Hp} {a : Addr} {o : HO} (h : H a = none) : zM H (upd H a o) := fun b u q => by rw [qm (qB q h)]; exact q
theorem qkZ {c0 Pt : Addr} {q : Str} {params : Arguments} {body : Expr} {scope : Scope} {pos : Pos} (hq : X.env.qual ++ "<lambda>" = q) (hcode : X.env.code = .ref c0) (hC : PySem.W.codeHdIn X.K c0 Pt = true)
  (hfr : ∀ y ∈ scope.names, y.2 = .free -> X.env.kindOf y.1 = some .cell) (hdef : defaultsOf params X.env = ([], [])) : PE X (.Lambda params body scope pos) (qnr X Pt q params body scope pos) := by
 intro pins s σ H Q I ⟨hP, h⟩
 obtain ⟨cl, hcl, cl1, cl2⟩ := Sk.closureFor_ok (env := X.env) (scope := scope) (fun y hy hf => I.ok.has y.1 (.inl (hfr y hy hf)))
 have C : PySem.W.CodeHd s.heap c0 Pt := PySem.W.codeHd_of_K I.kIn hC
 have hg : s.heap.Ns mainGlobals X.mg := I.mod.glob.keeps I.bk
 obtain ⟨bm, ob, b1, b2, b3, b4, b5, b6⟩ := I.mod.bm
 have b3' := I.bk _ _ b3
 have hPo : ∃ ps, s.heap.get? Pt = some (PySem.W.tabObj ps) := by
  rcases I.hok Pt _ hP with e | ⟨_, _, _, _, _, _, _, e⟩
  ·exact ⟨_, e⟩
  ·exact ⟨_, e⟩
 obtain ⟨ps0, hPo⟩ := hPo
 have hgP : mainGlobals ≠ Pt := fun z => by
  obtain ⟨o, es, ep, e, hd, _⟩ := hg
  rw [z, hPo] at e; cases e; cases hd
 have hbP : bm ≠ Pt := fun z => by rw [z, hPo] at b3'; cases b3'; cases b4
 have hbG : bm ≠ mainGlobals := fun z => by
  obtain ⟨o, es, ep, e, hd, _⟩ := hg
  rw [z, e] at b3'; cases b3'; rw [hd] at b6; cases b6
 have hB : s.heap.BuiltinsAt X.mg Pt := ⟨bm, ob, b1, b2, hbG, hbP, b3', b4, b5, b6⟩
 refine PySem.W.kla_eval hdef ?_
 rw [hq]
 rcases I.hok Pt _ hP with e | ⟨c', oc, vs, t, h1, h2, h3, e⟩
 ·refine PySem.W.kla_makeFunction hcl I.ok.glob hg hcode C e trivial rfl hgP hB fun c' ctv h' tk hx hge hlt hrec htb => ?_
  obtain ⟨c2, oc, vs, t, e2, hoc, hd, hv⟩ := hrec
  cases e2
  have htb' : h'.get? Pt = some { cls := .none, data := .fields #[rawInt pos.line, rawInt pos.col, .ref c'] } := by simpa using htb
  have hHc : H c' = none := I.hok.fresh hge
  have hsz : s.heap.objs.size <= h'.objs.size := Nat.le_trans hge (Nat.le_of_lt hlt)
  have hHf : H h'.objs.size = none := I.hok.fresh hsz
  have hfc : h'.objs.size ≠ c' := Nat.ne_of_gt hlt
  have hH2f : upd H c' (.frz oc (.own c')) h'.objs.size = none := by rw [qm hfc]; exact hHf
  let fo : Obj := PySem.W.kla_obj "<lambda>" q params body scope cl ((X.mg "__name__").getD .none) c' ctv
  have sm : zM H (upd (upd H c' (.frz oc (.own c'))) h'.objs.size (.frz fo (.own h'.objs.size))) := fun b u z => vk hH2f b u (vk hHc b u z)
  have keep : ∀ b o, b ≠ Pt -> s.heap.get? b = some o -> (h'.push fo).get? b = some o := fun b o hb z => Heap.get?_push_of_some _ (hx b o hb z)
  have nP : ∀ b, H b = none -> b ≠ Pt := fun b z w => by rw [w, hP] at z; cases z
  have un : Un X.fs [] H (upd (upd H c' (.frz oc (.own c'))) h'.objs.size (.frz fo (.own h'.objs.size))) s.heap (h'.push fo) := by
   refine ⟨fun b o z n _ _ => keep b o (nP b n) z, fun b o z n _ _ => ⟨o.slots, keep b o (nP b n) z⟩, fun b o z n _ => ?_, fun b o z _ => ?_, fun b xs z => sm _ _ z, fun b o u z => sm _ _ z, fun b p u z => sm _ _ z⟩
   ·have hlt2 := Heap.lt_size z
    rw [qm (Nat.ne_of_lt (Nat.lt_of_lt_of_le hlt2 hsz)), qm (Nat.ne_of_lt (Nat.lt_of_lt_of_le hlt2 hge))]
    exact n
   ·by_cases hb : b = Pt
    ·exact ⟨_, by rw [hb]; exact Heap.get?_push_of_some _ htb'⟩
    ·exact ⟨o, keep b o hb z⟩
  have hf1 : (upd (upd H c' (.frz oc (.own c'))) h'.objs.size (.frz fo (.own h'.objs.size))) c' = some (.frz oc (.own c')) := by rw [qm hfc.symm, ql]
  have hok : HOk X.prog X.w (upd (upd H c' (.frz oc (.own c'))) h'.objs.size (.frz fo (.own h'.objs.size))) (h'.push fo) := fun b u z => by
   by_cases hb1 : b = h'.objs.size
   ·subst hb1
    rw [ql] at z; cases z
    exact ⟨Heap.get?_push_size _ rfl, _, Heap.get?_push_size _ rfl⟩
   ·rw [qm hb1] at z
    by_cases hb2 : b = c'
    ·subst hb2
     rw [ql] at z; cases z
     exact ⟨Heap.get?_push_of_some _ hoc, _, Heap.get?_push_of_some _ hoc⟩
    ·rw [qm hb2] at z
     by_cases hb3 : b = Pt
     ·subst hb3
      rw [hP] at z; cases z
      exact .inr ⟨c', oc, vs, t, hf1, hd, hv, Heap.get?_push_of_some _ htb'⟩
     ·refine (I.hok b u z).stay (fun c v hc r => keep c v (fun w => ?_) r) (fun c r => sm _ _ r) (fun c xs r => sm _ _ r) fun c o y r => sm _ _ r
      rcases hc with hc | hc
      ·exact hb3 (hc ▸ w)
      ·rw [w, hP] at hc; cases hc
  exact ⟨.ref h'.objs.size, _, I.un un hok, rfl, h h'.objs.size c' oc vs t cl ((X.mg "__name__").getD .none) ctv _ sm ql hf1 hd hv cl1 cl2⟩
 ·have ht : TriplesOk (#[rawInt pos.line, rawInt pos.col, .ref c'] : Array Value).toList := trivial
  have hf : codeAmong pos (#[rawInt pos.line, rawInt pos.col, .ref c'] : Array Value).toList = some (.ref c') := by
   show (if ((pos.line : Int) == pos.line && (pos.col : Int) == pos.col) = true then _ else _) = _
   rw [if_pos (by simp)]
  refine PySem.W.kla_makeFunctionHit hcl I.ok.glob hg hcode C e ht hf hB fun ctv h' tk hk hsz => ?_
  have hHf : H h'.objs.size = none := I.hok.fresh hsz
  have J := I.laid (t' := tk) (o := .frz (PySem.W.kla_obj "<lambda>" q params body scope cl ((X.mg "__name__").getD .none) c' ctv) (.own h'.objs.size)) (fun b o z => Heap.get?_push_of_some _ (hk b o z)) hsz
   (show jX X.prog X.w _ (h'.push (PySem.W.kla_obj "<lambda>" q params body scope cl ((X.mg "__name__").getD .none) c' ctv)) h'.objs.size (.frz _ (.own _)) from ⟨Heap.get?_push_size _ rfl, _, Heap.get?_push_size _ rfl⟩)
  exact ⟨.ref h'.objs.size, _, J, rfl, h h'.objs.size c' oc vs t cl ((X.mg "__name__").getD .none) ctv _ (vk hHf) ql (vk hHf _ _ h1) h2 h3 cl1 cl2⟩
def qe7 (X : Cx) (N' : List Str) (q : Str) (scope : Scope) (cl : List (Str × Addr)) (f c : Addr) (A : Around) (s : Shared) (H : Hp) : Cx where
 prog := X.prog
 w := X.w
 K := X.K
 mg := X.mg
 base := X.base
 A := A.deeper (PySem.W.envX q scope s.heap.objs.size f (.ref c) cl)
 N := N'
 s₀ := s
 H₀ := H
 env := PySem.W.envX q scope s.heap.objs.size f (.ref c) cl
 outer := X.stack
 stack := PySem.W.envX q scope s.heap.objs.size f (.ref c) cl :: X.stack
 ex := []
 fn := fun _ => false
 calm := true
 pn := []
 xe := fun _ _ => False
theorem qe8 {N' : List Str} {fr : List Nat} {q x : Str} {scope : Scope} {cl : List (Str × Addr)} {f c : Addr} {A : Around} {h1 : Heap} {tk : Nat} {v : V} {u : Value} {ws : List V} (S : Sk.CompScope X scope N' 1 fr) (I : Inv X pins σ H s)
  (cl1 : ∀ n a, cl.lookup n = some a -> X.env.cells.lookup n = some a) (cl2 : ∀ y ∈ scope.names, y.2 = .free -> ∃ a, cl.lookup y.1 = some a) (hA : A.handled = none) (hAf : A.frames = some X.stack)
  (hx : N'[0]? = some x) (hxl : scope.names.lookup x = some .local) (rv : zZ v u) (hwl : ws.length = fr.length) (hws : ∀ (k j : Nat), fr[k]? = some j -> ∃ y, ws[k]? = some y /\ σ[j]? = some (some y))
  (hns : h1.Ns s.heap.objs.size fun y => ([(x, u)] : List (Str × Value)).reverse.lookup y) (old : ∀ b o, s.heap.get? b = some o -> h1.get? b = some o) :
  Inv (qe7 X N' q scope cl f c A s H) [] (qU N' (v :: ws)) H { s with heap := h1, toks := tk } := by
 have noA : ∀ b : Addr, b ∉ (qe7 X N' q scope cl f c A s H).ex := fun b z => absurd (show b ∈ ([] : List Addr) from z) (by simp)
 have hN : N'.length = (v :: ws).length := by rw [S.len, lC_, hwl]; omega
 have hst : qU N' (v :: ws) = (v :: ws).map some := by
  unfold qU
  rw [hN, Nat.sub_self]
  simp
 refine ⟨⟨I.ok.mod, S.kind, rfl, rfl, Nat.le_refl _, fun x y c h1 h2 => I.ok.inj x y c (cl1 x c h1) (cl1 y c h2), fun y hy => ?_, fun y c hy => ?_, fun _ => hA, Around.frames_deeper hAf, .inr ⟨rfl, rfl⟩, fun b z => absurd z (noA b), I.bs, Nat.le_trans I.ok.bsz I.sz, fun b _ _ => noA b, fun b z => absurd z (noA b), I.stack, I.stkFree⟩,
  rfl, I.bare, Un.kept old, ⟨_, hns, fun i y w e1 e2 e3 => ?_⟩, fun y c hy => ?_, I.hok.fresh (Nat.le_refl _), fun y c hy => I.freeC y c (cl1 y c hy), fun p hp => absurd (show p ∈ ([] : List (Addr × Obj)) from hp) (by simp), I.hok.kept old, ?_⟩
 ·have hy : scope.names.lookup y = some .cell \/ scope.names.lookup y = some .free := hy
  rcases hy with hy | hy
  ·exact absurd rfl (S.nocell _ (PySem.mem_of_lookup hy))
  ·exact cl2 (y, .free) (PySem.mem_of_lookup hy) rfl
 ·have hy' : false = true := hy
  cases hy'
 ·rw [hst] at e2
  cases i with
  | zero =>
   have e1' : N'[0]? = some y := e1
   rw [hx] at e1'; cases e1'
   have e2' : some v = some w := by simpa using e2
   cases e2'
   refine ⟨u, rv, .inl ⟨hxl, ?_⟩⟩
   simp
  | succ i =>
   have e2' : ws[i]? = some w := by simpa using e2
   have hi : i < fr.length := by rw [<- hwl]; exact (gI_.mp e2').1
   obtain ⟨j, hj⟩ : ∃ j, fr[i]? = some j := ⟨_, gG hi⟩
   obtain ⟨y', g1, g2⟩ := hws i j hj
   rw [e2'] at g1; cases g1
   obtain ⟨z, z1, z2, z3⟩ := S.slot i j hj
   have hz : z = y := by
    have e1' : N'[i + 1]? = some y := e1
    rw [Nat.add_comm 1 i, e1'] at z1
    exact (Option.some.inj z1).symm
   subst hz
   have hmem : (z, NameKind.free) ∈ scope.names := PySem.mem_of_lookup z3
   have hck : X.env.kindOf z = some .cell := S.frees (z, .free) hmem rfl
   obtain ⟨m0, hn0, hl0⟩ := I.loc
   obtain ⟨u', ru, lk⟩ := hl0 j z w z2 g2 (.inr (.inl hck))
   refine ⟨u', ru, .inr ⟨.inr z3, ?_⟩⟩
   rcases lk with ⟨k1, _⟩ | ⟨_, c', e, y1⟩
   ·rw [hck] at k1; cases k1
   ·obtain ⟨a, ea⟩ := cl2 (z, .free) hmem rfl
    have ea' := cl1 z a ea
    rw [e] at ea'
    cases ea'
    obtain ⟨o, ho, hd⟩ := y1
    exact ⟨c', ea, o, old _ _ ho, hd⟩
 ·obtain ⟨w, o, ho, hd⟩ := I.cell y c (cl1 y c hy)
  exact ⟨w, o, old _ _ ho, hd⟩
 ·rw [hst, lM_, <- hN]; rfl
theorem qgt {N' : List Str} {fr : List Nat} {q x : Str} {params : Arguments} {body : Expr} {scope : Scope} {cl : List (Str × Addr)} {f c : Addr} {oc : Obj} {vs : Array Value} {t : Tok} {pm ctv : Value} {A : Around} {v : V} {u : Value} {ws : List V} {te : TE} {Q : VK}
  (S : Sk.CompScope X scope N' 1 fr) (I : Inv X pins σ H s) (hf : H f = some (.frz (PySem.W.kla_obj "<lambda>" q params body scope cl pm c ctv) (.own f))) (hc : H c = some (.frz oc (.own c))) (hd : oc.data = .fields vs) (hv : vs[1]? = some (.str q t))
  (cl1 : ∀ n a, cl.lookup n = some a -> X.env.cells.lookup n = some a) (cl2 : ∀ y ∈ scope.names, y.2 = .free -> ∃ a, cl.lookup y.1 = some a) (hA : A.handled = none) (hAf : A.frames = some X.stack) (hdp : A.depth < recursionLimit)
  (hb : ∀ u, bindArgs (PySem.W.kla_fn "<lambda>" q params body scope cl pm (.ref c) ctv) ⟨[u], []⟩ = pure [(x, u)])
  (hx : N'[0]? = some x) (hxl : scope.names.lookup x = some .local) (hco : scope.isCoroutine = false) (hgen : scope.isGenerator = false)
  (rv : zZ v u) (hwl : ws.length = fr.length) (hws : ∀ (k j : Nat), fr[k]? = some j -> ∃ y, ws[k]? = some y /\ σ[j]? = some (some y))
  (he : PE (qe7 X N' q scope cl f c A s H) body te) (hq : te (qU N' (v :: ws)) H Q) : wpAny (model X.prog X.w) A (call (.ref f) [u]) (CE X.stack X.prog X.w H s Q) (fun _ _ => False) s := by
 refine wpAny_call (PySem.W.kla_callFunE hdp (I.hok f _ hf).1 rfl hco hgen rfl ⟨c, oc, vs, t, rfl, (I.hok c _ hc).1, hd, hv⟩ ?_)
 rw [hb]
 refine wpAny_pure (wpAny_newFunctionEnv S.nocell (fun y hy => ?_) (fun h1 hns hsb => ⟨I.nolimit.fresh _ hsb, ?_⟩) S.kind)
 ·have e : y = (x, u) := by simpa using hy
  rw [e]; exact hxl
 ·show codeAny _ _ (.expr body (PySem.W.envX q scope s.heap.objs.size f (.ref c) cl)) _ _
  have old : ∀ b o, s.heap.get? b = some o -> h1.get? b = some o := fun b o e => hsb.extBut b o (Nat.ne_of_lt (Heap.lt_size e)) (Heap.get?_push_of_some _ e)
  have J := qe8 (q := q) (f := f) (c := c) (h1 := h1) (tk := s.toks + ([(x, u)] : List (Str × Value)).length) S I cl1 cl2 hA hAf hx hxl rv hwl hws hns old
  exact PySem.W.kla_codeExpr (wpAny_mono (he [] _ _ H Q J hq) (fun v' s' ⟨y, H', J', r', q'⟩ => ⟨y, H', J'.os, J'.bare, J'.base, J'.hok, r', q'⟩) fun _ _ z => z.elim)
end
end L2
namespace L2.Srt
open PySem PySem.W PyProof.Rows
def qlw {α : Type} (cmp : Nat -> Nat -> Bool) : KasT α -> α
 | .ret a => a
 | .ask i j k => qlw cmp (k (cmp i j))
def wv {α : Type} (n : Nat) (R : α -> Prop) : KasT α -> Prop
 | .ret a => R a
 | .ask i j k => i < n /\ j < n /\ ∀ b, wv n R (k b)
theorem wv.bind {α β : Type} {n : Nat} {R : α -> Prop} {R' : β -> Prop} {f : α -> KasT β} (hf : ∀ a, R a -> wv n R' (f a)) : ∀ {t : KasT α}, wv n R t -> wv n R' (t.bind f)
 | .ret _, h => hf _ h
 | .ask _ _ _, ⟨h1, h2, h3⟩ => ⟨h1, h2, fun b => wv.bind hf (h3 b)⟩
theorem wv.run {α : Type} {n : Nat} {R : α -> Prop} {cmp : Nat -> Nat -> Bool} : ∀ {t : KasT α}, wv n R t -> R (qlw cmp t)
 | .ret _, h => h
 | .ask i j k, h => wv.run (t := k (cmp i j)) (h.2.2 (cmp i j))
def Pl (n : Nat) (p : Array Nat) : Prop := p.size = n /\ p.toList.Perm (List.range n)
theorem Pl.of_perm {n : Nat} {p q : Array Nat} (h : Pl n p) (hq : q.Perm p) : Pl n q := ⟨hq.size_eq.trans h.1, (Array.perm_iff_toList_perm.mp hq).trans h.2⟩
theorem Pl.lt {n : Nat} {p : Array Nat} (h : Pl n p) (hn : 0 < n) (k : Nat) : p.getD k 0 < n := by
 by_cases hk : k < p.size
 ·have e : p.getD k 0 = p[k] := by simp [Array.getD, hk]
  rw [e]
  have hm : p[k] ∈ p.toList := by simp
  exact mR_.mp (h.2.mem_iff.mp hm)
 ·have e : p.getD k 0 = 0 := by simp [Array.getD, hk]
  rw [e]; exact hn
theorem Pl.rev {n : Nat} {p : Array Nat} (h : Pl n p) (i j : Nat) : Pl n (kas_rev p i j) := h.of_perm (mirror_perm _ _ _ _)
theorem qa7 {n : Nat} (hn : 0 < n) {p : Array Nat} (h : Pl n p) : ∀ f m, wv n (fun _ => True) (kas_asc p f m)
 | 0, _ => True.intro
 | f + 1, m => ⟨h.lt hn _, h.lt hn _, fun c => by
  dsimp only
  split
  ·exact True.intro
  ·exact qa7 hn h f (m + 1)⟩
theorem vm {n : Nat} (hn : 0 < n) : ∀ f {p : Array Nat} (_ : Pl n p) m q, wv n (fun r => Pl n r.1) (kas_desc f p m q)
 | 0, _, h, _, _ => h
 | f + 1, p, h, m, q => ⟨h.lt hn _, h.lt hn _, fun c => by
  dsimp only
  split
  ·split
   ·exact vm hn f (h.rev _ _) _ _
   ·exact vm hn f h _ _
  ·refine ⟨h.lt hn _, h.lt hn _, fun d => ?_⟩
   dsimp only
   split
   ·exact h
   ·exact vm hn f h _ _⟩
theorem qaC {n : Nat} (hn : 0 < n) {p : Array Nat} (h : Pl n p) (m nrem : Nat) : wv n (fun r => Pl n r.2) (kas_tail3 m nrem p) :=
 wv.bind (R := fun _ => True) (n := n) (R' := fun r : Nat × Array Nat => Pl n r.2) (f := fun k => .ret (k, kas_rev p 0 m)) (fun _ _ => h.rev 0 m) (qa7 hn (h.rev _ _) _ _)
theorem vn {n : Nat} (hn : 0 < n) {p : Array Nat} (h : Pl n p) (m nrem : Nat) : wv n (fun r => Pl n r.2) (kas_descPart m nrem p) :=
 wv.bind (R := fun r => Pl n r.1) (fun r hr => by
  split
  ·exact qaC hn (hr.rev _ _) _ _
  ·exact qaC hn hr _ _) (vm hn _ h _ _)
theorem qdP {n : Nat} (hn : 0 < n) {p : Array Nat} (h : Pl n p) (nrem : Nat) : wv n (fun r => Pl n r.2) (kas_count nrem p) :=
 wv.bind (R := fun _ => True) (fun m _ => by
  split
  ·exact h
  ·split
   ·refine ⟨h.lt hn _, h.lt hn _, fun c => ?_⟩
    dsimp only
    split
    ·exact h
    ·exact vn hn (h.rev _ _) _ _
   ·exact vn hn h _ _) (qa7 hn h _ _)
theorem vF {n : Nat} (hn : 0 < n) {p : Array Nat} (h : Pl n p) (k : Nat) : ∀ f l r, wv n (fun _ => True) (kas_place p k f l r)
 | 0, _, _ => True.intro
 | f + 1, l, r => by
  unfold kas_place
  split
  ·exact True.intro
  ·refine ⟨h.lt hn _, h.lt hn _, fun c => ?_⟩
   dsimp only
   split
   ·exact vF hn h k f _ _
   ·exact vF hn h k f _ _
theorem qdc {n : Nat} (hn : 0 < n) : ∀ f {p : Array Nat} (_ : Pl n p) k, wv n (Pl n) (kas_bin f p k)
 | 0, _, h, _ => h
 | f + 1, p, h, k => wv.bind (R := fun _ => True) (fun l _ => qdc hn f (h.of_perm (bubble_perm _ _ _)) _) (vF hn h k _ _ _)
theorem fits_sort {n : Nat} (hn : 0 < n) : wv n (Pl n) (kas_sort n) :=
 wv.bind (R := fun r => Pl n r.2) (fun r hr => by
  split
  ·exact qdc hn _ hr _
  ·exact hr) (qdP hn ⟨by simp, by simp⟩ _)
def ord (ks : List Int) : List Nat := if ks.length < 2 then List.range ks.length else (qlw (fun i j => decide (ks.getD i 0 < ks.getD j 0)) (kas_sort ks.length)).toList
theorem ord_perm (ks : List Int) : (ord ks).Perm (List.range ks.length) := by
 unfold ord
 split
 ·exact .refl _
 ·exact (wv.run (fits_sort (by omega))).2
def qk0 {α : Type} [Inhabited α] (ks : List Int) (xs : List α) : List α := (ord ks).map fun i => xs.getD i default
theorem map_getD_range {α : Type} (d : α) (xs : List α) : (List.range xs.length).map (fun i => xs.getD i d) = xs := by
 refine List.ext_getElem (by simp) fun i h1 h2 => ?_
 simp at h1 |-
 simp [h1]
theorem byKeys_perm {α : Type} [Inhabited α] {ks : List Int} {xs : List α} (h : ks.length = xs.length) : (qk0 ks xs).Perm xs := by
 have := (ord_perm ks).map fun i => xs.getD i default
 rw [h, map_getD_range] at this
 exact this
section
variable {prog : Program} {w : World} {A : Around} {s : Shared}
theorem qbQ {vs : List Value} {ks : List Int} (hk : IntsAre vs ks) {i : Nat} (hi : i < ks.length) : ∃ t, vs.getD i Value.none = .int (ks.getD i 0) t := by
 obtain ⟨t, e⟩ := hk.get i ks[i] (gG hi)
 exact ⟨t, by simp [List.getD, e, hi]⟩
theorem wp_run {α : Type} {vs : List Value} {ks : List Int} {R : α -> Prop} {G : α -> Shared -> Prop} (hk : IntsAre vs ks) : ∀ {t : KasT α}, wv ks.length R t -> G (qlw (fun i j => decide (ks.getD i 0 < ks.getD j 0)) t) s -> t.kasWp (kas_ask prog w A oneType' vs) G s
 | .ret _, _, h => h
 | .ask i j k, ⟨h1, h2, h3⟩, h => by
  obtain ⟨t1, e1⟩ := qbQ hk h1
  obtain ⟨t2, e2⟩ := qbQ hk h2
  show wpAny (model prog w) A (keyLt' oneType' (vs.getD i Value.none) (vs.getD j Value.none)) _ _ s
  rw [e1, e2]
  exact kat_lt_int (wp_run hk (h3 _) h)
end
end L2.Srt
set_option maxHeartbeats 1000000
namespace L2
open PySem PySem.Spec PyProof.Rows
structure SS (X : Cx) (H0 : Hp) (s0 : Shared) (H : Hp) (s : Shared) : Prop where
 os : s.os = s0.os
 bare : AllBare s.gens
 un : Un (frs X.stack) [] H0 H s0.heap s.heap
 hok : HOk X.prog X.w H s.heap
 same : zM H0 H
section
variable {X : Cx} {pins : List (Addr × Obj)} {σ : St} {H0 H : Hp} {s0 s : Shared} {h' : Heap} {b a kS : Addr}
theorem SS.inv (z : SS X H0 s0 H s) (I : Inv X pins σ H0 s0) : Inv X pins σ H s := by
 obtain ⟨hh, g, d, t, os'⟩ := s
 obtain rfl : os' = s0.os := z.os
 exact I.call (h' := hh) (g' := g) (d' := d) (t' := t) (ch := []) z.un z.hok z.bare (fun b z => absurd z (by simp))
theorem SS.of (I : Inv X pins σ H s) : SS X H s H s := ⟨rfl, I.bare, .refl, I.hok, fun _ _ h => h⟩
theorem SS.kept (z : SS X H0 s0 H s) (k : ∀ b u, s.heap.get? b = some u -> h'.get? b = some u) (tk : Nat) : SS X H0 s0 H { s with heap := h', toks := tk } :=
 ⟨z.os, z.bare, z.un.trans (Un.kept k), z.hok.kept k, z.same⟩
theorem SS.poke (z : SS X H0 s0 H s) (hb : H b = none) (hb0 : s0.heap.objs.size <= b) (sb : Heap.SameBut b s.heap h') (tk : Nat) : SS X H0 s0 H { s with heap := h', toks := tk } := by
 have ne : ∀ c o, s0.heap.get? c = some o -> c ≠ b := fun c o e => Nat.ne_of_lt (Nat.lt_of_lt_of_le (Heap.lt_size e) hb0)
 refine ⟨z.os, z.bare, ⟨fun c o e n f x => (sb.2 c (ne c o e)).trans (z.un.keep c o e n f x), fun c o e n f x => ?_, z.un.free, fun c o e x => ?_, z.un.tups, z.un.frzs, z.un.tbls⟩, fun c u q => ?_, z.same⟩
 ·obtain ⟨sl, q⟩ := z.un.slot c o e n f x
  exact ⟨sl, (sb.2 c (ne c o e)).trans q⟩
 ·obtain ⟨o', q⟩ := z.un.there c o e x
  exact ⟨o', (sb.2 c (ne c o e)).trans q⟩
 ·refine (z.hok c u q).stay (fun d v hd r => (sb.2 d ?_).trans r) (fun _ q => q) fun _ _ q => q
  rintro rfl
  rcases hd with rfl | hd
  ·rw [hb] at q; cases q
  ·rw [hb] at hd; cases hd
theorem SS.call {Q : VK} {u : Value} {s' : Shared} (z : SS X H0 s0 H s) (h : CE X.stack X.prog X.w H s Q u s') (hq : ∀ v H', Q v H' -> zM H H') : ∃ v H', zZ v u /\ Q v H' /\ SS X H0 s0 H' s' /\ Un (frs X.stack) [] H H' s.heap s'.heap := by
 obtain ⟨v, H', os, bare, un, hok, r, q⟩ := h
 exact ⟨v, H', r, q, ⟨os.trans z.os, bare, z.un.trans un, hok, fun b o e => hq v H' q b o (z.same b o e)⟩, un⟩
end
section
variable {X : Cx} {H0 H : Hp} {s0 s : Shared} {a kS : Addr} {A : Around} {E : Value -> Shared -> Prop} {f : Value} {vs : List Value} {ks : List Int} {e1 : Nat} {P : PySem.Fin -> Shared -> Prop}
abbrev qiA (ks : List Int) (vs : List Value) : List Value := (Srt.ord ks).map fun i => vs.getD i Value.none
theorem qdd (h : ks.length = vs.length) : (qiA ks vs).length = vs.length := by
 rw [lM_, (Srt.ord_perm ks).length_eq, lR_, h]
abbrev qiB (X : Cx) (H0 : Hp) (s0 : Shared) (A : Around) (f v : Value) (k : Int) : Prop := ∀ s' H', SS X H0 s0 H' s' ->
 wpAny (model X.prog X.w) A (call f [v]) (fun u s2 => (∃ t, u = .int k t) /\ ∃ H2, SS X H0 s0 H2 s2 /\ Un (frs X.stack) [] H' H2 s'.heap s2.heap) (fun _ _ => False) s'
abbrev qde (X : Cx) (H0 : Hp) (s0 : Shared) (a : Addr) (out : List Value) (P : PySem.Fin -> Shared -> Prop) : Prop :=
 ∀ H' s' c, SS X H0 s0 H' s' -> H' a = none -> s'.heap.get? a = some (seqObj "list" out.toArray c) -> P (.done (.ret .none)) s'
theorem qdf {st : SortSt} {out : List Value} {kA : Array Value} {e : Nat} (z : SS X H0 s0 H s) (gk : s.heap.get? kS = some (seqObj "list" kA e)) (ga : s.heap.get? a = some (seqObj "list" #[] e1)) (nk : H kS = none) (na : H a = none)
  (lk : s0.heap.objs.size <= kS) (la : s0.heap.objs.size <= a) (hka : kS ≠ a) (hkz : kA.size < 64) (hoz : out.length < 64) (ho : (arrOf st).map (·.2) = out.toArray) (hf : failedOf st = none) (fin : qde X H0 s0 a out P) :
  wpAny (model X.prog X.w) A (ksk_tail a false e1 (.ref kS) st) P E s := by
 have sb1 := Heap.SameBut.update s.heap kS (Obj.mapSeq fun _ => (#[] : Array Value))
 have ga1 := (sb1.2 a hka.symm).trans ga
 have z1 := z.poke nk lk sb1 s.toks
 have sb2 := Heap.SameBut.update (s.heap.update kS (Obj.mapSeq fun _ => (#[] : Array Value))) a (Obj.mapSeq fun _ => out.toArray)
 have z2 := z1.poke na la sb2 s.toks
 unfold ksk_tail
 dsimp only
 rw [ho]
 refine wpAny_bind (listUpdate_at gk rfl ?_ (by rw [sizeLine_eq]; omega) (Nat.zero_le _))
 refine wpAny_bind (wpAny_letGo (wpAny_bind (seqEpoch_at ga1 rfl ?_)))
 refine wpAny_bind (listUpdate_at ga1 rfl ?_ (Nat.zero_le _) (by show (out.toArray).size <= _; rw [sT_, sizeLine_eq]; omega))
 rw [hf]
 simp only [bne_self_eq_false, Bool.false_eq_true, if_false]
 exact wpAny_pure (fin H _ _ z2 na (get?_update_seq ga1 fun _ => out.toArray))
theorem qiC {kA : Array Value} {e : Nat} (z : SS X H0 s0 H s) (gk : s.heap.get? kS = some (seqObj "list" kA e)) (ga : s.heap.get? a = some (seqObj "list" #[] e1)) (nk : H kS = none) (na : H a = none)
  (lk : s0.heap.objs.size <= kS) (la : s0.heap.objs.size <= a) (hka : kS ≠ a) (hk : IntsAre kA.toList ks) (hlen : ks.length = vs.length) (h64 : vs.length < 64) (fin : qde X H0 s0 a (qiA ks vs) P) :
  wpAny (model X.prog X.w) A (ksk_end a false vs.toArray e1 (.ref kS) kA) P E s := by
 have hkz : kA.size = vs.length := by
  have h1 := hk.length
  rw [Array.length_toList] at h1
  omega
 unfold ksk_end
 dsimp only
 rw [if_neg (by decide)]
 by_cases h2 : vs.length < 2
 ·have h2' : vs.toArray.size < 2 := by rw [sT_]; exact h2
  rw [if_pos h2', if_pos h2']
  refine wpAny_bind (wpAny_pure ?_)
  rw [StateT.run_pure]
  refine wpAny_bind (wpAny_pure ?_)
  dsimp only
  refine qdf z gk ga nk na lk la hka (by omega) (by rw [qdd hlen]; exact h64) ?_ rfl fin
  have e0 : qiA ks vs = vs := by
   show (Srt.ord ks).map _ = vs
   unfold Srt.ord
   rw [if_pos (by omega), hlen]
   exact Srt.map_getD_range _ vs
  rw [e0]
  apply Array.toList_inj.mp
  show ((kA.zip vs.toArray).map (·.2)).toList = vs.toArray.toList
  rw [Array.toList_map, ksk_zip, List.map_snd_zip (Nat.le_of_eq (by rw [Array.length_toList]; exact hkz.symm))]
 ·have h2' : ¬ vs.toArray.size < 2 := by rw [sT_]; exact h2
  rw [if_neg h2', if_neg h2', ksk_kind hk (by omega)]
  refine wpAny_bind (wpAny_pure ?_)
  have ekA : kA = kA.toList.toArray := by simp
  rw [ekA]
  have hl : kA.toList.length = vs.length := by rw [Array.length_toList]; exact hkz
  refine wpAny_bind (wpAny_mono (PySem.W.kat_run (Q := fun st' s' => s' = s /\ (arrOf st').map (·.2) = (qiA ks vs).toArray /\ failedOf st' = none) (G := fun p s' => s' = s /\ p.toList = Srt.ord ks) hl (by omega) h64 (fun p st' s' a1 a2 a3 a4 => ?_) ?_) ?_ fun _ _ x => x)
  ·refine ⟨a4.1, ?_, a3⟩
   rw [PySem.W.kat_snds hl a2, a4.2]
  ·have ft := Srt.fits_sort (n := ks.length) (by omega)
   rw [<- hlen]
   refine Srt.wp_run hk ft ⟨rfl, ?_⟩
   unfold Srt.ord
   rw [if_neg (by omega)]
  ·rintro ⟨⟨⟩, st'⟩ s' ⟨rfl, h3, h4⟩
   dsimp only
   exact qdf z gk ga nk na lk la hka (by omega) (by rw [qdd hlen]; exact h64) h3 h4 fin
theorem qgu (z : SS X H0 s0 H s) (gk : s.heap.get? kS = some (seqObj "list" #[] 0)) (ga : s.heap.get? a = some (seqObj "list" #[] e1)) (nk : H kS = none) (na : H a = none)
  (lk : s0.heap.objs.size <= kS) (la : s0.heap.objs.size <= a) (hka : kS ≠ a) (hlen : ks.length = vs.length) (h64 : vs.length < 64) (hfr : ∀ b ∈ frs X.stack, b < s0.heap.objs.size)
  (turn : ∀ (i : Nat) (v : Value) (k : Int), vs[i]? = some v -> ks[i]? = some k -> qiB X H0 s0 A f v k) (fin : qde X H0 s0 a (qiA ks vs) P) : wpAny (model X.prog X.w) A (ksk_rest a f false vs.toArray e1 (.ref kS)) P E s := by
 have nf : ∀ c, s0.heap.objs.size <= c -> c ∉ frs X.stack := fun c hc hm => absurd (Nat.lt_of_lt_of_le (hfr c hm) hc) (Nat.lt_irrefl _)
 unfold ksk_rest
 refine wpAny_bind (wpAny_rule ?_)
 rw [List.forIn_toArray]
 refine wpAny_bind (ksk_fold (fun i s' => ∃ H' kA e, SS X H0 s0 H' s' /\ H' kS = none /\ H' a = none /\ s'.heap.get? kS = some (seqObj "list" kA e) /\ s'.heap.get? a = some (seqObj "list" #[] e1) /\ IntsAre kA.toList (ks.take i)) vs 0 s
  ⟨H, #[], 0, z, nk, na, gk, ga, by simpa using IntsAre.nil⟩ ?step ?done)
 case step =>
  rintro j x s' hx ⟨H', kA, e, z', k1, a1, g1, g2, hi⟩
  rw [Nat.zero_add] at hi |-
  have hj : j < vs.length := (gI_.mp hx).1
  obtain ⟨k, hkj⟩ : ∃ k, ks[j]? = some k := ⟨_, gG (by omega)⟩
  have hz : kA.size <= vs.length := by
   have h1 := hi.length
   rw [Array.length_toList, List.length_take] at h1
   omega
  refine wpAny_bind (wpAny_attempt (wpAny_mono (turn j x k hx hkj s' H' z') (fun v s2 hv => ?_) fun _ _ hF => hF.elim))
  obtain ⟨⟨t, rfl⟩, H2, z2, u2⟩ := hv
  dsimp only
  have gk2 := u2.keep kS _ g1 k1 (nf kS lk) (by simp)
  have ga2 := u2.keep a _ g2 a1 (nf a la) (by simp)
  have nk2 := u2.free kS _ g1 k1 (by simp)
  have na2 := u2.free a _ g2 a1 (by simp)
  have sb := Heap.SameBut.update s2.heap kS (Obj.mapSeq (·.push (.int k t)))
  refine wpAny_bind (listUpdate_at gk2 rfl ?_ (by rw [sizeLine_eq]; omega) (by show (kA.push _).size <= _; rw [Array.size_push, sizeLine_eq]; omega))
  refine wpAny_pure ⟨rfl, H2, kA.push (.int k t), _, z2.poke nk2 lk sb s2.toks, nk2, na2, get?_update_seq gk2 (·.push (.int k t)), (sb.2 a hka.symm).trans ga2, ?_⟩
  have ek : ks.take (j + 1) = ks.take j ++ [k] := by rw [List.take_add_one, hkj]; simp
  have ea : (kA.push (Value.int k t)).toList = kA.toList ++ [Value.int k t] := by simp
  rw [ea, ek]
  exact ksk_snoc hi
 case done =>
  rintro s' ⟨H', kA, e, z', k1, a1, g1, g2, hi⟩
  have e3 : ks.take (0 + vs.length) = ks := List.take_of_length_le (by omega)
  rw [e3] at hi
  refine wpAny_bind (listItems_at g1 rfl ?_)
  exact qiC z' g1 g2 k1 a1 lk la hka hi hlen h64 fin
theorem qgv {n : Nat} (z : SS X H0 s0 H s) (ho : s.heap.get? a = some (seqObj "list" vs.toArray n)) (na : H a = none) (la : s0.heap.objs.size <= a) (hs0 : s0.heap.objs.size <= s.heap.objs.size) (hlen : ks.length = vs.length) (h64 : vs.length < 64) (hfr : ∀ b ∈ frs X.stack, b < s0.heap.objs.size)
  (turn : ∀ (i : Nat) (v : Value) (k : Int), vs[i]? = some v -> ks[i]? = some k -> qiB X H0 s0 A f v k) (fin : qde X H0 s0 a (qiA ks vs) P) : wpAny (model X.prog X.w) A (ksk_tree a f false) P E s := by
 have hlt : a < s.heap.objs.size := Heap.lt_size ho
 have sb := Heap.SameBut.update s.heap a (Obj.mapSeq fun _ => (#[] : Array Value))
 obtain ⟨e1, ho1⟩ : ∃ e1, (s.heap.update a (Obj.mapSeq fun _ => (#[] : Array Value))).get? a = some (seqObj "list" #[] e1) := ⟨_, get?_update_seq ho fun _ => #[]⟩
 have z1 := z.poke na la sb s.toks
 have hsz : ((s.heap.update a (Obj.mapSeq fun _ => (#[] : Array Value))).push (seqObj "tuple" vs.toArray 0)).objs.size = s.heap.objs.size + 1 := by rw [size_push', Heap.size_update]
 unfold ksk_tree
 refine wpAny_bind (listItems_at ho rfl (wpAny_bind (listUpdate_at ho rfl ?_ (by rw [sT_, sizeLine_eq]; omega) (Nat.zero_le _))))
 refine wpAny_bind (seqEpoch_at ho1 rfl (wpAny_bind (wpAny_newTuple ?_ (by show vs.length <= _; rw [sizeLine_eq]; omega))))
 refine wpAny_bind (wpAny_newList (wpAny_holding ?_) (Nat.zero_le _))
 have kp : ∀ b u, (s.heap.update a (Obj.mapSeq fun _ => (#[] : Array Value))).get? b = some u -> (((s.heap.update a (Obj.mapSeq fun _ => (#[] : Array Value))).push (seqObj "tuple" vs.toArray 0)).push (seqObj "list" #[] 0)).get? b = some u :=
  fun b u q => Heap.get?_push_of_some _ (Heap.get?_push_of_some _ q)
 have z3 := z1.kept kp s.toks
 refine qgu (kS := ((s.heap.update a (Obj.mapSeq fun _ => (#[] : Array Value))).push (seqObj "tuple" vs.toArray 0)).objs.size) z3 (Heap.get?_push_size _ rfl) (kp _ _ ho1) ?_ na (by rw [hsz]; omega) la (by rw [hsz]; exact Nat.ne_of_gt (Nat.lt_succ_of_lt hlt)) hlen h64 hfr turn fin
 cases q : H ((s.heap.update a (Obj.mapSeq fun _ => (#[] : Array Value))).push (seqObj "tuple" vs.toArray 0)).objs.size with
 | none => rfl
 | some u =>
  have := z.hok.lt q
  rw [hsz] at this
  exact absurd (Nat.lt_of_succ_lt this) (Nat.lt_irrefl _)
end
section
variable {X : Cx} {pins : List (Addr × Obj)} {σ : St} {H : Hp} {s : Shared} {l f : Addr} {vs : List Value} {ks : List Int} {Q : Value -> Shared -> Prop} {E : Value -> Shared -> Prop}
theorem qdQ (I : Inv X pins σ H s) (hl : s.heap.IsList l vs.toArray) (hlen : ks.length = vs.length) (h64 : vs.length < 64) (turn : ∀ (i : Nat) (v : Value) (k : Int), vs[i]? = some v -> ks[i]? = some k -> qiB X H s X.A.in1.in1 (.ref f) v k)
  (fin : ∀ D H' s' c, s.heap.objs.size <= D -> SS X H s H' s' -> H' D = none -> s'.heap.get? D = some (seqObj "list" (qiA ks vs).toArray c) -> Q (.ref D) s') : wpAny (model X.prog X.w) X.A (call (.builtin "sorted") [.ref l] [(Str.ofString "key", .ref f)]) Q E s := by
 refine call_function_entry_kw kind_sorted plain_sorted entry_sorted (ksk_s1 _ _) ?_
 unfold Builtin.«sorted»
 refine wpAny_bind (m := checkCount "sorted" 1 1 _) (wpAny_pure (wpAny_bind (collect_list hl ?_ (by rw [sizeLine_eq]; omega))))
 refine wpAny_bind (wpAny_newList ?_ (by rw [sizeLine_eq]; omega))
 have hsz : ((s.heap.push (seqObj "list" #[] 0)).update s.heap.objs.size (Obj.mapSeq (· ++ vs.toArray))).objs.size = s.heap.objs.size + 1 := by rw [Heap.size_update, size_push']
 have hD : (((s.heap.push (seqObj "list" #[] 0)).update s.heap.objs.size (Obj.mapSeq (· ++ vs.toArray))).push (seqObj "list" vs.toArray 0)).get? (s.heap.objs.size + 1) = some (seqObj "list" vs.toArray 0) := by rw [<- hsz]; exact Heap.get?_push_size _ rfl
 have keep : ∀ b o, s.heap.get? b = some o -> (((s.heap.push (seqObj "list" #[] 0)).update s.heap.objs.size (Obj.mapSeq (· ++ vs.toArray))).push (seqObj "list" vs.toArray 0)).get? b = some o := fun b o q => by
  have hb := Heap.lt_size q
  rw [Heap.get?_push_ne _ _ _ (by rw [hsz]; exact Nat.ne_of_lt (Nat.lt_succ_of_lt hb)), Heap.get?_update_ne _ _ _ _ (Nat.ne_of_lt hb), Heap.get?_push_ne _ _ _ (Nat.ne_of_lt hb)]
  exact q
 have z := (SS.of I).kept keep s.toks
 have hfr : ∀ b ∈ frs X.stack, b < s.heap.objs.size := fun b hb => by
  obtain ⟨_, o, ho, _⟩ := I.stack.mem hb
  exact Heap.lt_size ho
 have hszs : s.heap.objs.size <= (((s.heap.push (seqObj "list" #[] 0)).update s.heap.objs.size (Obj.mapSeq (· ++ vs.toArray))).push (seqObj "list" vs.toArray 0)).objs.size := by rw [size_push', hsz]; omega
 show wpAny _ _ _ _ _ { s with heap := ((s.heap.push (seqObj "list" #[] 0)).update s.heap.objs.size (Obj.mapSeq (· ++ vs.toArray))).push (seqObj "list" vs.toArray 0) }
 rw [hsz]
 refine wpAny_bind (wpAny_holding (wpAny_call_entry_kw slot_list_sort ⟨_, hD, rfl⟩ entry_list_sort ?body (ksk_l1 _ _)))
 case body =>
  show wpAny (model X.prog X.w) X.A.in1.in1 (Builtin.«list.sort» ⟨[.ref (s.heap.objs.size + 1)], [(Str.ofString "key", .ref f)]⟩) _ _ _
  rw [ksk_t1]
  refine qgv (X := X) (H0 := H) (s0 := s) (H := H) z hD (I.hok.fresh (Nat.le_succ _)) (Nat.le_succ _) hszs hlen h64 hfr turn fun H' s' c z' n' g' => ⟨_, rfl, ?_⟩
  exact wpAny_pure ⟨_, rfl, fin _ H' s' c (Nat.le_succ _) z' n' g'⟩
end
end L2
set_option maxHeartbeats 1000000
namespace L2
open PySem PySem.Spec PyProof.Rows
def CallKS (X : Cx) (f : Value) (ks : List Str) (r : St -> List V -> List V -> Hp -> VK -> Prop) : Prop := ∀ (pins : List (Addr × Obj)) (s : Shared) (σ : St) (H : Hp) (xs : List V) (us : List Value) (zs : List V) (ws : List Value) (Q : VK),
 Inv X pins σ H s -> qT xs us -> qT zs ws -> r σ xs zs H Q -> wpAny (model X.prog X.w) X.A (call f us (ks.zip ws)) (EP X pins σ Q) X.xe s
theorem qe9 {X : Cx} {x : Str} {p pos : Pos} {e : Expr} {es : List Expr} {kws : List Keyword} {t tk : TA} {id : String} {ks : List Str} {r : St -> List V -> List V -> Hp -> VK -> Prop} (hc : CallKS X (.builtin id) ks r) (hg : Gl X x) (hm : X.mg x = none) (hv : bootBuiltins x = some (.builtin id)) (ha : PA X (e :: es) t) (hkw : PK X kws tk)
  (hall : (backToKw pos (keywordEach kws X.env)).all (·.1.isSome) = true := by rfl) (hks : (backToKw pos (keywordEach kws X.env)).filterMap (·.1) = ks := by rfl) (hn : x ≠ "__name__" := by decide) (hdb : (x == ("__debug__" : Str)) = false := by decide)
  (he : starEach (e :: es) X.env = (false, eval e X.env) :: starEach es X.env := by rfl) (hpl : ((backTo pos (starEach (e :: es) X.env)).any (·.1) || (backToKw pos (keywordEach kws X.env)).any (·.1.isNone)) = false := by rfl) :
  PE X (.Call (.Name x p) (e :: es) kws pos) (fun σ H Q => t σ H fun vs H1 => tk σ H1 fun zs H2 => r σ vs zs H2 Q) := by
 intro pins s σ H Q I h
 refine wpAny_Call_Name_kw (vR I hg hm hv ?_ hn hdb)
 refine PySem.W.callWith_of (P := fun _ => True) hpl (fun _ _ => ⟨.machine, .inr (.inl rfl), .now⟩) (evalArgs_kw2 hall (thn (ha pos pins s σ H _ I h) fun us s1 ⟨vs, H1, I1, r1, q1⟩ => ?_) he)
 refine thn (hkw pos pins s1 σ H1 _ I1 q1) fun ws s2 ⟨zs, H2, I2, rz, q2⟩ => ⟨trivial, ?_⟩
 rw [hks, List.nil_append]
 exact hc pins s2 σ H2 vs us zs ws Q I2 r1 rz q2
def qk1 (X : Cx) (N' : List Str) (fr : List Nat) (q : Str) (params : Arguments) (body : Expr) (scope : Scope) : St -> List V -> List V -> Hp -> VK -> Prop := fun σ xs zs H Q =>
 ∃ (a f kc : Addr) (ys : List V) (oc : Obj) (vs : Array Value) (t : Tok) (cl : List (Str × Addr)) (pm ctv : Value) (ks : List Int) (ws : List V), xs = [.ref a] /\ zs = [.ref f] /\ SqL X.K H a ys /\ ys.length < 64 /\ ks.length = ys.length /\
  H f = some (.frz (PySem.W.kla_obj "<lambda>" q params body scope cl pm kc ctv) (.own f)) /\ H kc = some (.frz oc (.own kc)) /\ oc.data = .fields vs /\ vs[1]? = some (.str q t) /\
  (∀ n a, cl.lookup n = some a -> X.env.cells.lookup n = some a) /\ (∀ y ∈ scope.names, y.2 = .free -> ∃ a, cl.lookup y.1 = some a) /\ ws.length = fr.length /\ (∀ (k j : Nat), fr[k]? = some j -> ∃ y, ws[k]? = some y /\ σ[j]? = some (some y)) /\
  (∀ (i : Nat) (y : V) (k : Int), ys[i]? = some y -> ks[i]? = some k -> ∀ H' s', zM H H' -> ∃ tb, PE (qe7 X N' q scope cl f kc X.A.in1.in1 s' H') body tb /\ tb (qU N' (y :: ws)) H' (fun v H2 => v = .int k /\ zM H' H2)) /\
  ∀ H' p, zM H H' -> H' p = none -> Q (.ref p) (upd H' p (.lst ((Srt.ord ks).map fun i => ys.getD i .non)))
theorem qbR {ys : List V} {its : List Value} (r : qT ys its) : ∀ l : List Nat, (∀ i ∈ l, i < ys.length) -> qT (l.map fun i => ys.getD i .non) (l.map fun i => its.getD i Value.none)
 | [], _ => .nil
 | i :: l, h => by
  refine .cons ?_ (qbR r l fun j hj => h j (mM _ hj))
  have hi := h i mS_
  obtain ⟨u, hu, rv⟩ := r.get (gG hi)
  have e1 : ys.getD i V.non = ys[i] := by simp [hi]
  have e2 : its.getD i Value.none = u := by simp [List.getD, hu]
  show zZ (ys.getD i V.non) (its.getD i Value.none)
  rw [e1, e2]
  exact rv
section
variable {X : Cx} {N' : List Str} {fr : List Nat} {q x : Str} {params : Arguments} {body : Expr} {scope : Scope} {k : Nat}
theorem qdR (S : Sk.CompScope X scope N' 1 fr) (hc : X.calm = true) (hr : yH k X.A) (hb : ∀ cl pm cd ctv u, bindArgs (PySem.W.kla_fn "<lambda>" q params body scope cl pm cd ctv) ⟨[u], []⟩ = pure [(x, u)])
  (hx : N'[0]? = some x) (hxl : scope.names.lookup x = some .local) (hco : scope.isCoroutine = false) (hgen : scope.isGenerator = false) : CallKS X (.builtin "sorted") [Str.ofString "key"] (qk1 X N' fr q params body scope) := by
 intro pins s σ H xs us zs wz Q I rx rz h
 obtain ⟨a, f, kc, ys, oc, vs, t, cl, pm, ctv, ks, ws, rfl, rfl, hs, h64, hlen, hf, hk, hd, hv, cl1, cl2, hwl, hws, key, hq⟩ := h
 cases rx with
 | cons ra rr =>
 cases rr
 cases rz with
 | cons rf rr =>
 cases rr
 cases ra
 cases rf
 obtain ⟨its, r, ht, hz⟩ := I.list hs
 have hl := r.length
 refine qdQ (ks := ks) I ht.isList (by omega) (by omega) (fun i v k' hvi hki s' H' z => ?_) fun D H' s' c hD z' n' g' => ?_
 ·have hi : i < ys.length := by rw [hl]; exact (gI_.mp hvi).1
  obtain ⟨u, hu, ry⟩ := r.get (gG hi)
  rw [hvi] at hu; cases hu
  obtain ⟨tb, pb, qb⟩ := key i ys[i] k' (gG hi) hki H' s' z.same
  refine thn (qgt (A := X.A.in1.in1) S (z.inv I) (z.same _ _ hf) (z.same _ _ hk) hd hv cl1 cl2 (I.ok.hd hc) I.ok.frames hr.depth (hb _ _ _ _) hx hxl hco hgen ry hwl hws pb qb) fun u s2 ce => ?_
  obtain ⟨v', H2, r2, ⟨rfl, sm⟩, z2, u2⟩ := z.call ce fun v H' q => q.2
  obtain ⟨t2, rfl⟩ := r2
  exact ⟨⟨t2, rfl⟩, H2, z2, u2⟩
 ·have hpl : ∀ i ∈ Srt.ord ks, i < ys.length := fun i hi => by
   have := (Srt.ord_perm ks).mem_iff.mp hi
   rw [<- hlen]; exact mR_.mp this
  have hnone : s.heap.get? D = none := Heap.get?_none_of_le hD
  have rp := qbR r (Srt.ord ks) hpl
  have ol : ((Srt.ord ks).map fun i => ys.getD i V.non).length <= sizeLine := by
   rw [lM_, (Srt.ord_perm ks).length_eq, lR_, sizeLine_eq]; omega
  have ne' : ∀ c u, H' c = some u -> c ≠ D := fun c u q z => by rw [z, n'] at q; cases q
  have hok : HOk X.prog X.w (upd H' D (.lst ((Srt.ord ks).map fun i => ys.getD i .non))) s'.heap := fun b u e => by
   by_cases hbD : b = D
   ·subst hbD
    rw [ql] at e; cases e
    exact ⟨ol, _, _, rp, g'⟩
   ·rw [qm hbD] at e
    exact (z'.hok b u e).stay (fun _ _ _ q => q) (fun c q => by rw [qm (ne' c _ q)]; exact q) (fun c xs q => by rw [qm (ne' c _ q)]; exact q) fun c ob y q => by rw [qm (ne' c _ q)]; exact q
  have un := Sk.un_held (o := .lst ((Srt.ord ks).map fun i => ys.getD i .non)) z'.un hnone n'
  have zz : SS X H s (upd H' D (.lst ((Srt.ord ks).map fun i => ys.getD i .non))) s' := ⟨z'.os, z'.bare, un, hok, fun b o e => vk n' b o (z'.same b o e)⟩
  exact ⟨.ref D, _, zz.inv I, rfl, hq H' D z'.same n'⟩
end
end L2
namespace L2.Sk
open PySem PySem.Spec PyProof.Rows
def qjc (ρ : Env) : List Nat -> Option (List D)
 | [] => some []
 | j :: fr => match ρ[j]?, qjc ρ fr with
  | some (some d), some ds => some (d :: ds)
  | _, _ => none
def w6 (g : M D) (n : Nat) (cs : List D) : List D -> Option (List Int)
 | [] => some []
 | d :: ds => match g (jk n (d :: cs)), w6 g n cs ds with
  | .ok (.int k, _), some ks => some (k :: ks)
  | _, _ => none
def qdS (l : List Nat) (ds : List D) : List D := l.map fun i => ds.getD i .non
def qdg (n : Nat) (fr : List Nat) (f g : M D) : M D := bnd f fun d ρ => match d with
 | .lst ds => if ds.length < 64 then match qjc ρ fr with
   | some cs => match w6 g n cs ds with
    | some ks => .ok (.lst (qdS (Srt.ord ks) ds), ρ)
    | none => .bad
   | none => .bad
  else .bad
 | _ => .bad
theorem qbS {g : M D} {n : Nat} {cs : List D} : ∀ {ds : List D} {ks : List Int}, w6 g n cs ds = some ks -> ks.length = ds.length
 | [], ks, h => by cases h; rfl
 | d :: ds, ks, h => by
  unfold w6 at h
  split at h
  ·rename_i e2; cases h; rw [lC_, lC_, qbS e2]
  ·cases h
theorem qbT {g : M D} {n : Nat} {cs : List D} : ∀ {ds : List D} {ks : List Int} {i : Nat} {d : D} {k : Int}, w6 g n cs ds = some ks -> ds[i]? = some d -> ks[i]? = some k -> ∃ ρ, g (jk n (d :: cs)) = .ok (.int k, ρ)
 | [], _, _, _, _, _, h, _ => by simp at h
 | d0 :: ds, ks, i, d, k, h, h1, h2 => by
  unfold w6 at h
  split at h
  ·rename_i k0 ρ0 ks0 e1 e2
   cases h
   cases i with
   | zero =>
    have a1 : d0 = d := by simpa using h1
    have a2 : k0 = k := by simpa using h2
    subst a1 a2
    exact ⟨_, e1⟩
   | succ i => exact qbT e2 (by simpa using h1) (by simpa using h2)
  ·cases h
theorem qfa {K : Fr0} {c : Fc} {ρ : Env} {σ : St} {H : Hp} (r : Rep K c ρ σ H) : ∀ {fr : List Nat} {cs : List D}, qjc ρ fr = some cs -> (∀ j ∈ fr, j ∉ c.O) ->
  ∃ ws, ws.length = fr.length /\ (∀ (k j : Nat), fr[k]? = some j -> ∃ y, ws[k]? = some y /\ σ[j]? = some (some y)) /\ IsL K (Cn c σ) H cs ws
 | [], cs, h, _ => by cases h; exact ⟨[], rfl, fun k j e => by simp at e, rfl⟩
 | j0 :: fr, cs, h, ho => by
  unfold qjc at h
  split at h
  ·rename_i d ds e1 e2
   cases h
   obtain ⟨ws, a1, a2, a3⟩ := qfa r e2 fun j hj => ho j (mM _ hj)
   obtain ⟨v, b1, b2⟩ := r.get (ho j0 mS_) e1
   refine ⟨v :: ws, by rw [lC_, lC_, a1], fun k j e => ?_, v, ws, rfl, b2, a3⟩
   cases k with
   | zero =>
    have : j0 = j := by simpa using e
    subst this
    exact ⟨v, rfl, b1⟩
   | succ k => exact a2 k j (by simpa using e)
  ·cases h
theorem IsL.pick {K : Fr0} {A : Addr -> Prop} {H : Hp} {ds : List D} {xs : List V} (il : IsL K A H ds xs) : ∀ l : List Nat, (∀ i ∈ l, i < ds.length) -> IsL K A H (qdS l ds) (l.map fun i => xs.getD i .non)
 | [], _ => rfl
 | i :: l, h => by
  have hi := h i mS_
  obtain ⟨y, hy, iy⟩ := il.get (gG hi)
  refine ⟨xs.getD i .non, _, rfl, ?_, IsL.pick il l fun j hj => h j (mM _ hj)⟩
  have e1 : ds.getD i D.non = ds[i] := by simp [hi]
  have e2 : xs.getD i V.non = y := by simp [List.getD, hy]
  rw [e2]
  show Is K A H (ds.getD i D.non) y
  rw [e1]
  exact iy
section
variable {X : Cx} {c : Fc} {e : Expr} {p pos kpos lpos : Pos} {N' : List Str} {fr : List Nat} {x : Str} {params : Arguments} {body : Expr} {scope : Scope} {k : Nat} {c0 Pt : Addr}
theorem qgw {f g : M D} (he : DE X c e f) (S : CompScope X scope N' 1 fr) (hfo : ∀ j ∈ fr, j ∉ c.O) (hr : yH k X.A) (hg : Gl X "sorted") (hm : X.mg "sorted" = none) (hcode : X.env.code = .ref c0) (hC : PySem.W.codeHdIn X.K c0 Pt = true) (hlm : qah X.K = some (c0, Pt, lpos))
  (hb : ∀ cl f kc s' H' B, DE (qe7 X N' qi5 scope cl f kc X.A.in1.in1 s' H') (cfn [] [] B H' (fun _ => False) (fun _ _ => False) fun _ => none) body g)
  (hc : X.calm = true := by rfl) (hq : X.env.qual ++ "<lambda>" = qi5 := by rfl) (hdef : defaultsOf params X.env = ([], []) := by rfl)
  (hbind : ∀ cl pm cd ctv u, bindArgs (PySem.W.kla_fn "<lambda>" qi5 params body scope cl pm cd ctv) ⟨[u], []⟩ = pure [(x, u)] := by intros; rfl)
  (hx : N'[0]? = some x := by rfl) (hxl : scope.names.lookup x = some .local := by rfl) (hco : scope.isCoroutine = false := by rfl) (hgen : scope.isGenerator = false := by rfl)
  (hst : starEach [e] X.env = (false, eval e X.env) :: starEach [] X.env := by rfl) (hpl : ((backTo pos (starEach [e] X.env)).any (·.1) || (backToKw pos (keywordEach [⟨some "key", .Lambda params body scope lpos, kpos⟩] X.env)).any (·.1.isNone)) = false := by rfl) :
  DE X c (.Call (.Name "sorted" p) [e] [⟨some "key", .Lambda params body scope lpos, kpos⟩] pos) (qdg N'.length fr f g) := by
 obtain ⟨te, pe, we⟩ := he
 refine ⟨_, qe9 (qdR S hc hr hbind hx hxl hco hgen) hg hm rfl (jQ pe vS hst) (qhx (qkZ hq hcode hC S.frees hdef) qjK) (he := hst) (hpl := hpl), fun ρ σ H Q r h => ?_⟩
 refine we ρ σ H _ r (Wp.bnd h fun d ρ1 v H1 r1 i1 g1 h1 => ?_)
 refine ⟨(r1.tb _ _ _ hlm).1, fun f kc oc vs t cl pm ctv H2 sm hf hk hd hv cl1 cl2 => ?_⟩
 have r2 := r1.same sm
 cases d <;> try exact h1.elim
 rename_i ds
 by_cases h64 : ds.length < 64
 case neg => simp only [h64, if_false] at h1; exact h1.elim
 simp only [h64, if_true] at h1
 cases hcp : qjc ρ1 fr with
 | none => simp only [hcp] at h1; exact h1.elim
 | some cs =>
  simp only [hcp] at h1
  cases hks : w6 g N'.length cs ds with
  | none => simp only [hks] at h1; exact h1.elim
  | some ks =>
   simp only [hks] at h1
   obtain ⟨ws, w1, w2, w3⟩ := qfa r2 hcp hfo
   have hl := qbS hks
   have i2 : Is X.K (Cn c σ) H2 (.lst ds) v := Is.ext (Ext.of_same sm) (fun _ h _ => h) i1
   obtain ⟨a, ys, rfl, hA, ta, il⟩ := i2
   have hyl := il.length
   refine ⟨a, f, kc, ys, oc, vs, t, cl, pm, ctv, ks, ws, rfl, rfl, .inl (.inl ta), by omega, by omega, hf, hk, hd, hv, cl1, cl2, w1, w2, fun i y k' hy hki H' s' sm' => ?_, fun H' p' sm' hp => ?_⟩
   ·obtain ⟨tb, pb, wb⟩ := hb cl f kc s' H' (Cn c σ)
    have hi : i < ds.length := by rw [<- hyl]; exact (gI_.mp hy).1
    obtain ⟨y', e1, e2⟩ := il.get (gG hi)
    rw [hy] at e1; cases e1
    obtain ⟨ρ', eg⟩ := qbT hks (gG hi) hki
    have il' : IsL X.K (Cn c σ) H' (ds[i] :: cs) (y :: ws) := ⟨y, ws, rfl, Is.ext (Ext.of_same sm') (fun _ h _ => h) e2, IsL.ext (Ext.of_same sm') (fun _ h _ => h) w3⟩
    refine ⟨tb, pb, wb (jk N'.length (ds[i] :: cs)) (qU N' (y :: ws)) H' _ (uf il' (r2.same sm').tb fun i hi => by cases hi) ?_⟩
    rw [eg]
    exact fun v' H3 r3 i3 g3 => ⟨i3, fun b o q => g3.ext.at_ b o (fun j hj => by cases hj) q⟩
   ·have r3 := r2.same sm'
    have hpl : ∀ i ∈ Srt.ord ks, i < ds.length := fun i hi => by
     have := (Srt.ord_perm ks).mem_iff.mp hi
     rw [<- hl]; exact mR_.mp this
    have ip := IsL.pick (IsL.ext (Ext.of_same sm') (fun _ h _ => h) il) (Srt.ord ks) hpl
    have smA : zM H1 (upd H' p' (.lst ((Srt.ord ks).map fun i => ys.getD i .non))) := fun b o q => qs hp _ b o (sm' b o (sm b o q))
    exact h1 _ _ (r3.laid hp _) ⟨p', _, rfl, r3.new hp, ql, IsL.ext (Ext.of_same (qs hp _)) (fun _ h _ => h) ip⟩ (.of_same smA)
theorem qgx {n : Nat} {fr : List Nat} {f g : M D} {ρ ρ1 : Env} {ds cs : List D} {ks : List Int} (h : f ρ = .ok (.lst ds, ρ1)) (h64 : ds.length < 64) (hc : qjc ρ1 fr = some cs) (hk : w6 g n cs ds = some ks) : qdg n fr f g ρ = .ok (.lst (qdS (Srt.ord ks) ds), ρ1) := by
 unfold qdg bnd
 simp only [h, h64, if_true, hc, hk]
end
end L2.Sk
namespace L2
open PySem PySem.Spec PyProof.Rows
theorem walk_lam {l : PySem.W.OpenLaw} {n k : Nat} {q : Program} {loose : List Str} {XP : (Str -> Option Value) -> Heap -> Prop} {YP : World -> Heap -> Prop} {d : DefRec} {K : Params -> PySem.W.Frag} {CX : World -> CXT} {sp : World -> Sp} {x : Str}
  (hn : l.most = some n) (hn2 : n <= sizeLine) (hdf : d.params.defaults = []) (hr : yH k callerA)
  (hY : ∀ (w : World) (h : Heap), YP w h -> (K w.params).In h) {lm : World -> Option (Addr × Addr × Pos × Str)}
  (hlm : ∀ (w : World) (mean : ExcName -> Option Value) (mg mb : Str -> Option Value) (h : Heap) (c Pt : Addr) (pos : Pos) (z : Str), Top q (PySem.W.looseW q loose) mean mg mb h -> (K w.params).In h -> lm w = some (c, Pt, pos, z) ->
   PySem.W.CodeHd h c Pt /\ h.get? Pt = some (PySem.W.tabObj #[]) /\ (K w.params).lookup Pt = none)
  (F : ∀ (w : World) (mg : Str -> Option Value) (fa : Addr) (h : Heap), (K w.params).In h -> h.Ns mainGlobals mg -> mg d.name = some (.ref fa) ->
   ∃ fd : FuncData, (∀ (s : Shared) (u : Value), BindsTo s fd ⟨[u], []⟩ [(x, u)]) /\
    ∀ base : Heap, (K w.params).In base -> base.Ns mainGlobals mg -> ub l.prog w (K w.params) mg base (CX w) k fa fd [x] (sp w))
  (hsp : ∀ (w : World) (H : Hp) (a : Addr) (ns : List Int), ns.length <= n -> qlo H -> (∀ c Pt pos z, lm w = some (c, Pt, pos, z) -> H Pt = some (.lam pos z)) -> SqL (K w.params) H a (ns.map V.int) -> sp w [.ref a] H (fun v _ => v = .bl true) fun _ _ _ => False)
  (hCX : ∀ (w : World) (H : Hp) (s : Shared) (e : Value) (s' : Shared), CX w [] H s (fun _ _ _ => False) e s' -> False) :
  PySem.W.WalkO q loose XP YP l.row.toRowW d [] (fun f vs => PySem.call f vs) := by
 refine Att.attach_call hn hdf fun w s₀ s₁ mg mb fa o pm cd doc a vs ns G Y ho hd hcd hmg hobj hints hlen hg => ?_
 have KX := hY w _ Y
 obtain ⟨fd, hb, hF⟩ := F w mg fa _ KX G.T.g hmg
 exact qfV (lm := lm w) KX G.T.g G.T.b G.T.builtins G.T.nolimit G.T.bmain (fun c Pt pos z => hlm w _ mg mb _ c Pt pos z G.T KX) hg hobj hints (Nat.le_trans hlen hn2) hr hF hb (fun H hO hT hS => hsp w H a ns hlen hO hT hS) fun H e s' => hCX w H s₁ e s'
end L2
namespace L2.Sk
open PySem PySem.Spec PyProof.Rows
theorem qiD {K : Fr0} {c Pt : Addr} {pos : Pos} (hl : qah K = some (c, Pt, pos)) : PySem.W.tabIn K "dearest_first" = some (c, Pt) := by
 unfold qah at hl
 split at hl
 ·rename_i c' P' f e1 e2
  split at hl
  ·cases h3 : qgO (FuncData.body _) with
   | none => rw [h3] at hl; cases hl
   | some p3 => rw [h3] at hl; cases hl; exact e1
  ·cases hl
 ·cases hl
theorem lam_table {q : Program} {loose : List Str} {mean : ExcName -> Option Value} {mg mb : Str -> Option Value} {h : Heap} {K : Fr0} {c Pt : Addr} {pos : Pos} {d : DefRec} (T : Top q loose mean mg mb h) (X : K.In h) (hl : qah K = some (c, Pt, pos))
  (hd : (recsOf q).find? (fun e => e.name == ("dearest_first" : Str)) = some d) (hK : PySem.W.noTabs K = true) : PySem.W.CodeHd h c Pt /\ h.get? Pt = some (PySem.W.tabObj #[]) /\ K.lookup Pt = none := by
 have ht := qiD hl
 obtain ⟨h1, h2⟩ := PySem.W.tab_of T X hd ht
 refine ⟨h1, h2, ?_⟩
 cases e : K.lookup Pt with
 | none => rfl
 | some o =>
  have e2 := X _ _ e
  rw [h2] at e2
  cases e2
  have h3 := List.all_eq_true.mp hK (Pt, PySem.W.tabObj #[]) (PySem.W.mem_of_lookupK e)
  exact absurd (show false = true from h3) Bool.false_ne_true
section
variable {P : Program} {w : World} {K : PySem.W.Frag} {mg : Str -> Option Value} {base : Heap}
theorem qgy {x qual : Str} {st : Stmt} {f : Addr} {fd : FuncData} {N ps : List Str} {k : Nat} {O : List Nat} {body : MS} (F : Fun K x qual st f fd) (S : qp N ps (qe st)) (hO : ∀ i ∈ O, ps.length <= i)
  (hb : ∀ (A : Around) (outer : List PySem.Env) (s : Shared) (H : Hp) (E : XK) (B : Addr -> Prop), yH k (A.deeper (envOfC qual (qe st) s.heap.objs.size f fd.code)) ->
   DSs (qef CX0 P w K mg base N qual (qe st) f fd.code A outer s H E).nox (cfn O [] B H (fun _ => False) (fun _ _ => False) fun _ => none) (qo st) body) :
  ub P w K mg base CX0 (k + 1) f fd ps (spD K (dfn N.length ps.length body)) := by
 obtain ⟨oc, od, kV, doc, pm, an, cdv, ct, osl, rfl, lk, hcd⟩ := F.ex
 refine qhy lk hcd S (fun vs H Q E h => ?_) fun A outer s H vs Q E hr h => ?_
 ·obtain ⟨ds, B, il, _, h⟩ := h
  unfold dfn at h
  by_cases e : ds.length = ps.length
  ·rw [il.length]; exact e
  ·rw [if_neg e] at h; exact h.elim
 ·obtain ⟨ds, B, il, tb, h⟩ := h
  obtain ⟨t, p, wt⟩ := hb A outer s H E B hr
  refine ⟨t, p.nox, ?_⟩
  unfold dfn at h
  by_cases e : ds.length = ps.length
  ·rw [if_pos e] at h
   refine wt (jk N.length ds) (qU N vs) H _ (uf il tb (fun i hi => by rw [e]; exact hO i hi)) ?_
   have same : ∀ {ρ : Env} {σ : St} {H' : Hp}, Rep K (cfn O [] B H (fun _ => False) (fun _ _ => False) fun _ => none) ρ σ H' -> zM H H' := fun r b o hb => r.kp b o hb fun z => z
   cases eb : body (jk N.length ds) with
   | bad => rw [eb] at h; exact h.elim
   | exc z ρ => rw [eb] at h; exact h.elim
   | ok fl =>
    rw [eb] at h
    cases fl with
    | nx ρ => exact fun σ' H' r' _ => h .non H' (same r') rfl
    | rt d ρ => exact fun v σ' H' r' i' _ => h v H' (same r') i'
    | bk ρ => exact h.elim
    | ct ρ => exact h.elim
  ·rw [if_neg e] at h; exact h.elim
end
end L2.Sk
namespace L2.Sk
namespace Law
open PySem PySem.Spec PyProof.Rows
set_option maxHeartbeats 4000000
theorem qk2 (ds : List D) (r : Env) : zA 0 (some (.lst ds) :: r) = some ds := rfl
theorem qk3 (i : Nat) (o : Option D) (r : Env) : zA (i + 1) (o :: r) = zA i r := rfl
theorem ix0 (a b c : D) : ixD (.tup [a, b, c]) (.int 0) = some a := rfl
theorem ix1 (a b c : D) : ixD (.tup [a, b, c]) (.int 1) = some b := rfl
theorem ix2 (a b c : D) : ixD (.tup [a, b, c]) (.int 2) = some c := rfl
theorem qfb (i j : Int) : neB (.int i) (.int j) = some (.bl (!decide (i = j))) := rfl
theorem qcz (i j : Int) : eqB (.int i) (.int j) = some (.bl (decide (i = j))) := rfl
theorem qa8 (ds : List D) : qcm (tyD (.tup ds)) "tuple" = true := rfl
theorem ww (ds : List D) : qcd [.tup ds] = some (.int ds.length) := rfl
theorem qha (d : D) : isN d .non = some (.bl (ue d)) := rfl
theorem qiE (d : D) : qjZ d .non = some (.bl (!ue d)) := rfl
theorem w8 (i j : Int) : gtD (.int i) (.int j) = some (.bl (decide (j < i))) := rfl
theorem qiF (i j : Int) : ltD (.int i) (.int j) = some (.bl (decide (i < j))) := rfl
theorem qfc (i j : Int) : leD (.int i) (.int j) = some (.bl (decide (i <= j))) := rfl
local macro_rules | `(tactic| push_cast [$xs,*]) => `(tactic| simp only [jk, qh9, qmG, jS, qcW, qkt, qku, qkv, qmH, qcs, vh, qkw, qia, vX, qbL, qkx, qeK, qeL, qky, qkz, qib, qge, wX, qbM, qeM, qaX, qkA, qkB, qkC, vY, qg1, qic, qg2, qbN, qid, qkD, qeN, qie, qeO, qkE, qeP, qlZ, qif, lC_, lN_, mC_, List.map_nil, List.replicate, List.nil_append, List.cons_append, List.append_nil, List.getElem?_cons_zero, List.getElem?_cons_succ, List.set_cons_zero, List.set_cons_succ, Nat.reduceAdd, Nat.reduceSub, Nat.sub_self, Nat.zero_add, reduceIte, Bool.not_true, Bool.not_false, Bool.false_eq_true, if_true, if_false, ite_true, ite_false, cond_true, cond_false, decide_true, decide_false, ix0, ix1, ix2, qa8, ww, qfb, qcz, qha, qiE, w8, qiF, qfc, qk2, qk3, vj, qa3, qgm, qkM, qir, qeV, $xs,*])
theorem vZ {n p : Nat} {body : MS} {ds : List D} {d : D} (h : ds.length = p) (e : ∃ ρ, body (jk n ds) = .ok (.rt d ρ)) : dfn n p body ds = .ok d := by
 obtain ⟨ρ, e⟩ := e
 exact qig h e
def w9 : D -> Bool
 | .int _ => true
 | _ => false
def zU : D -> Bool
 | .int i => decide (0 <= i)
 | _ => false
def qfd : D -> Bool
 | .int i => decide (0 < i)
 | _ => false
def uN : D -> Bool
 | .tup [a, b, c] => qfd a && zU b && (ue c || zU c)
 | _ => false
theorem qns {ds : List D} (h : ds.length = 3) : ∃ a b c, ds = [a, b, c] := by
 match ds, h with
 | [a, b, c], _ => exact ⟨a, b, c, rfl⟩
theorem qdT {ds : List D} (h : ds.length ≠ 3) : uN (.tup ds) = false := by
 match ds, h with
 | [], _ => rfl
 | [_], _ => rfl
 | [_, _], _ => rfl
 | [a, b, c], h => exact absurd rfl h
 | _ :: _ :: _ :: _ :: _, _ => rfl
theorem qy {p q : MS} {ρ ρ' : Env} (h : p ρ = .ok (.nx ρ')) : qQ p q ρ = q ρ' := by rw [qg0, h]
theorem qaD {p q : MS} {ρ ρ' : Env} {d : D} (h : p ρ = .ok (.rt d ρ')) : qQ p q ρ = .ok (.rt d ρ') := by rw [qg0, h]
theorem qk4 {e : M D} {f : D -> D} : ∀ (ds acc : List D) (o : Option D), (∀ d ∈ ds, e [some d] = .ok (f d, [some d])) -> acc.length + ds.length <= 1000 -> ∃ ρ', zg (qD 0) (ret true) e ds acc [o] = .ok (acc ++ ds.map f, ρ')
 | [], acc, o, _, _ => ⟨[o], by simp [zg]⟩
 | d :: ds, acc, o, h, hl => by
  have hl' : acc.length + (ds.length + 1) <= 1000 := hl
  obtain ⟨ρ', q⟩ := qk4 ds (acc ++ [f d]) (some d) (fun x hx => h x (mM _ hx)) (by rw [lA_, List.length_singleton]; omega)
  refine ⟨ρ', ?_⟩
  unfold zg
  simp only [qD, List.set_cons_zero, ret, h d mS_, uX (show acc.length + 1 <= 1000000 by omega), if_true, q]
  simp
theorem qbU (f : D -> Bool) : ∀ ds : List D, uH (ds.map fun d => D.bl (f d)) = some (ds.map f)
 | [] => rfl
 | d :: ds => by simp [uH, qbU f ds]
theorem all_map {ds : List D} {f : D -> Bool} : qi8 [.lst (ds.map fun d => D.bl (f d))] = some (.bl (ds.all f)) := by
 simp only [qi8, qbU, Option.map_some]
 congr 2
 rw [List.all_map]
 rfl
theorem qiG {F : List D -> R D} {f : D -> Bool} {xs : M (List D)} {ds : List D} {ρ : Env} (hx : xs ρ = .ok (ds, ρ)) (hF : ∀ d ∈ ds, F [d] = .ok (.bl (f d))) (hl : ds.length <= 1000) :
  jH qi8 (qa (jL 1 [] none xs (qD 0) (ret true) (qk F (qa (dv 0) (ret [])))) (ret [])) ρ = .ok (.bl (ds.all f), ρ) := by
 obtain ⟨ρ', q⟩ := qk4 (e := qk F (qa (dv 0) (ret []))) (f := fun d => D.bl (f d)) ds [] none (fun x hm => by push_cast []; rw [hF x hm]) (by simpa using hl)
 have q' : zg (qD 0) (ret true) (qk F (qa (dv 0) (ret []))) ds [] (jK 1 [] ρ) = .ok ([] ++ ds.map fun d => D.bl (f d), ρ') := q
 simp only [qcs, jS, qct, hx, q', qh9, List.nil_append, all_map]
 rfl
def yC : D -> Bool
 | .tup ds => decide (ds.length <= 12) && ds.all uN
 | _ => false
def leI : D -> D -> Bool
 | .int i, .int j => decide (i <= j)
 | _, _ => false
def qmd (k x : D) : Bool := match k with
 | .tup [_, _, m] => zU x && (ue m || leI x m)
 | _ => false
def qdh : List D -> List D -> Bool
 | k :: ks, x :: xs => qmd k x && qdh ks xs
 | _, _ => true
def qmU : D -> D -> Bool
 | .tup xs, .tup ks => decide (xs.length = ks.length) && qdh ks xs
 | _, _ => false
theorem qk5 {ds : List D} {i : Nat} {d : D} (h : ds[i]? = some d) : ixD (.tup ds) (.int (i : Nat)) = some d := by
 have hi : i < ds.length := (gI_.mp h).1
 show atI ds (i : Int) = some d
 unfold atI ixN
 rw [if_pos (by omega), if_pos (by omega)]
 simpa using h
theorem wx {l : M (List D)} {ρ ρ1 : Env} {j : Int} (e : l ρ = .ok ([.int j], ρ1)) (h0 : 0 <= j) (h : j <= 1000000) : yK l ρ = .ok (qaU 0 j.toNat, ρ1) := by
 have h1 : (-(2 ^ 62) <= j) := by omega
 have h2 : (j < 2 ^ 62) := by omega
 have e2 : qf8 [.int j] = some (qaU 0 j.toNat) := by
  simp only [qf8, h1, h2, decide_true, Bool.and_self, if_true]
 have e3 : yK l ρ = lift (qf8 [.int j]) ρ1 := by
  show bnd l (fun ds => lift (qf8 ds)) ρ = _
  rw [qlY, e]
 rw [e3, e2]
 rfl
theorem qfe {n m : Int} (h0 : 0 < m) (h1 : m < 1606938044258990275541962092341162602522202993782792835301376) : wO [.int n, .int m] = some (.tup [.int (n / m), .int (n % m)]) := by
 simp only [wO, qdA, h0, h1, decide_true, Bool.and_self, if_true]
theorem at0 (d : D) (r : List D) : atI (d :: r) 0 = some d := by
 unfold atI ixN
 rw [if_pos (by omega), if_pos (by simp)]
 rfl
theorem qnt : ixN 1 0 = some 0 := by decide
theorem uB (i j : Int) : uv (.int i) (.int j) = some (.int (i + j)) := rfl
theorem qa9 (i j : Int) : qcc (.int i) (.int j) = some (.int (i - j)) := rfl
theorem qhb {ds : List D} {k : Int} (h0 : 0 <= k) (h1 : k < ds.length) : ∃ d ∈ ds, ixD (.lst ds) (.int k) = some d := by
 obtain ⟨i, rfl⟩ := Int.eq_ofNat_of_zero_le h0
 have hi : i < ds.length := by omega
 refine ⟨ds[i], List.getElem_mem hi, ?_⟩
 show atI ds (i : Int) = _
 unfold atI ixN
 rw [if_pos (by omega), if_pos (by omega)]
 show ds[(i : Int).toNat]? = _
 rw [Int.toNat_natCast, gG hi]
theorem qdi (j : Nat) : (qaU 0 j).length = j := by simp [qaU]
theorem uC {i j : Int} (h : 0 < j) : qat (.int i) (.int j) = some (.int (i % j)) := by
 simp only [qat, qi6, h, decide_true, if_true]
theorem qbV {i j : Int} (h : 0 < j) (h1 : j < 1606938044258990275541962092341162602522202993782792835301376) : v6 (.int i) (.int j) = some (.int (i / j)) := by
 simp only [v6, qi6, qdA, h, h1, decide_true, Bool.and_self, if_true]
theorem qff {i j : Int} (h : jW i = true) : jY (.int i) (.int j) = some (.int (i * j)) := by
 simp only [jY, qeq, h, Bool.true_or, if_true]
theorem qgz {i j : Int} (h : jW j = true) : jY (.int i) (.int j) = some (.int (i * j)) := by
 simp only [jY, qeq, h, Bool.or_true, if_true]
def facts : List Int := [48271, 69621, 16807, 39373, 30269, 40014, 40692, 50021, 61687, 71993, 83869, 95561, 30307]
structure qnF (w e : Nat) (d : D) : Prop where
 lv : (yQ d).leavesShort 40 = true
 sh : (yQ d).showable = true
 wt : (yQ d).weight <= w
 dp : (yQ d).depth <= e
def plain (d : D) : Bool := !(yQ d).hasDict && noL d
theorem neg_int (i : Int) : qbm (.int i) = some (.int (-i)) := rfl
theorem qdj {xs ys : List D} (h : xs.length + ys.length <= 1000000) : uv (.tup xs) (.tup ys) = some (.tup (xs ++ ys)) := by
 simp only [uv, uX h, if_true]
def pt (p : Int) : D -> Int
 | .tup [.int a, .int b, _] => if p = 0 then a else b
 | _ => 0
def num : D -> Int
 | .int x => x
 | _ => 0
def qme (p : Int) : List D -> List D -> List Int
 | k :: ks, x :: xs => (pt p k * num x) :: qme p ks xs
 | _, _ => []
theorem qmf {F : List D -> R D} {f g h : M D} {ρ : Env} {a b c d : D} (hf : f ρ = .ok (a, ρ)) (hg : g ρ = .ok (b, ρ)) (hh : h ρ = .ok (c, ρ)) (e : F [a, b, c] = .ok d) : qk F (qa f (qa g (qa h (ret [])))) ρ = .ok (d, ρ) := by
 have e1 : qa h (ret []) ρ = .ok ([c], ρ) := by rw [jS, hh]; rfl
 have e2 : qa g (qa h (ret [])) ρ = .ok ([b, c], ρ) := by rw [jS, hg]; dsimp only; rw [e1]
 have e3 : qa f (qa g (qa h (ret []))) ρ = .ok ([a, b, c], ρ) := by rw [jS, hf]; dsimp only; rw [e2]
 rw [vh, e3]
 dsimp only
 rw [e]
theorem qhc {F : List D -> Option D} {f : M D} {ρ : Env} {a d : D} (hf : f ρ = .ok (a, ρ)) (e : F [a] = some d) : jH F (qa f (ret [])) ρ = .ok (d, ρ) := by
 have e0 : qa f (ret []) ρ = .ok ([a], ρ) := by rw [jS, hf]; rfl
 rw [qcs, e0]
 dsimp only
 rw [e]
theorem sl_tup (xs : List D) (a b : Option Int) : slD (.tup xs) a b = some (.tup (qcS xs a b)) := rfl
theorem qiH {α : Type} {e : M D} {t : M Bool} {k f : α -> D} {p : α -> Bool} {r : Env} : ∀ (as : List α) (acc : List D) (o : Option D), (∀ a ∈ as, t (some (k a) :: r) = .ok (p a, some (k a) :: r)) -> (∀ a ∈ as, p a = true -> e (some (k a) :: r) = .ok (f a, some (k a) :: r)) -> acc.length + as.length <= 1000000 ->
  ∃ o', zg (qD 0) t e (as.map k) acc (o :: r) = .ok (acc ++ (as.filter p).map f, o' :: r)
 | [], acc, o, _, _, _ => ⟨o, by simp [zg]⟩
 | a :: as, acc, o, ht, he, hl => by
  have hl' : acc.length + (as.length + 1) <= 1000000 := hl
  have h1 := ht a mS_
  rw [mC_]
  unfold zg
  simp only [qD, List.set_cons_zero, h1]
  cases hp : p a with
  | false =>
   obtain ⟨o', q⟩ := qiH as acc (some (k a)) (fun x hx => ht x (mM _ hx)) (fun x hx => he x (mM _ hx)) (by omega)
   refine ⟨o', ?_⟩
   simp only [q, ft_, hp, Bool.false_eq_true, if_false]
  | true =>
   obtain ⟨o', q⟩ := qiH as (acc ++ [f a]) (some (k a)) (fun x hx => ht x (mM _ hx)) (fun x hx => he x (mM _ hx)) (by rw [lA_, List.length_singleton]; omega)
   refine ⟨o', ?_⟩
   simp only [he a mS_ hp, uX (show acc.length + 1 <= 1000000 by omega), if_true, q, ft_, hp, mC_, aA_, List.singleton_append]
theorem qk6 {α : Type} {e : M D} {t : M Bool} {k : α -> D} {xs : M (List D)} {ρ r : Env} {fr : List Nat} (as : List α) (p : α -> Bool) (f : α -> D) (hx : xs ρ = .ok (as.map k, ρ)) (hr : jK 1 fr ρ = none :: r) (hl : as.length <= 1000000)
  (ht : ∀ a ∈ as, t (some (k a) :: r) = .ok (p a, some (k a) :: r)) (he : ∀ a ∈ as, p a = true -> e (some (k a) :: r) = .ok (f a, some (k a) :: r)) : jL 1 fr none xs (qD 0) t e ρ = .ok (.lst ((as.filter p).map f), ρ) := by
 obtain ⟨o', q⟩ := qiH as [] none ht he (by simpa using hl)
 rw [qct, hx]
 simp only [hr, q, List.nil_append]
 rfl
theorem qaa {α β : Type} {G : D -> Env -> Option Env} {b : MS} {k : α -> D} {step : β -> α -> β} {Inv : Nat -> β -> Env -> Prop} : ∀ (as : List α) (n : Nat) (s : β) (ρ : Env), Inv n s ρ ->
  (∀ a ∈ as, ∀ m s ρ, n <= m -> m < n + as.length -> Inv m s ρ -> ∃ ρ1 ρ2, G (k a) ρ = some ρ1 /\ b ρ1 = .ok (.nx ρ2) /\ Inv (m + 1) (step s a) ρ2) ->
  ∃ ρ', yL G b (as.map k) ρ = .ok (.nx ρ') /\ Inv (n + as.length) (as.foldl step s) ρ'
 | [], n, s, ρ, h, _ => ⟨ρ, rfl, h⟩
 | a :: as, n, s, ρ, h, H => by
  obtain ⟨ρ1, ρ2, h1, h2, h3⟩ := H a mS_ n s ρ (Nat.le_refl _) (by rw [lC_]; omega) h
  obtain ⟨ρ', q, w⟩ := qaa as (n + 1) (step s a) ρ2 h3 fun x hx m s ρ m1 m2 => H x (mM _ hx) m s ρ (by omega) (by rw [lC_]; omega)
  refine ⟨ρ', ?_, ?_⟩
  ·rw [mC_]
   unfold yL
   simp only [h1, h2]
   exact q
  ·rw [lC_, show n + (as.length + 1) = n + 1 + as.length by omega]
   exact w
theorem qfg {f : M D} {ρ : Env} {a : D} (hf : f ρ = .ok (a, ρ)) : qa f (ret []) ρ = .ok ([a], ρ) := by rw [jS, hf]; rfl
theorem qdU {f g : M D} {ρ : Env} {a b : D} (hf : f ρ = .ok (a, ρ)) (hg : g ρ = .ok (b, ρ)) : qa f (qa g (ret [])) ρ = .ok ([a, b], ρ) := by rw [jS, hf]; simp only [qfg hg]
theorem qk7 {f g h : M D} {ρ : Env} {a b c : D} (hf : f ρ = .ok (a, ρ)) (hg : g ρ = .ok (b, ρ)) (hh : h ρ = .ok (c, ρ)) : qa f (qa g (qa h (ret []))) ρ = .ok ([a, b, c], ρ) := by rw [jS, hf]; simp only [qdU hg hh]
theorem qmg {f g : M D} {ρ : Env} {a b : D} (hf : f ρ = .ok (a, ρ)) (hg : g ρ = .ok (b, ρ)) : yz (qa f (qa g (ret []))) ρ = .ok (.tup [a, b], ρ) := by rw [qcW, qdU hf hg]; simp only [lC_, lN_, uX (show 0 + 1 + 1 <= 1000000 by omega), if_true]
theorem qnu {f g h : M D} {ρ : Env} {a b c : D} (hf : f ρ = .ok (a, ρ)) (hg : g ρ = .ok (b, ρ)) (hh : h ρ = .ok (c, ρ)) : yz (qa f (qa g (qa h (ret [])))) ρ = .ok (.tup [a, b, c], ρ) := by rw [qcW, qk7 hf hg hh]; simp only [lC_, lN_, uX (show 0 + 1 + 1 + 1 <= 1000000 by omega), if_true]
theorem qfh {F : List D -> R D} {f : M D} {ρ : Env} {a d : D} (hf : f ρ = .ok (a, ρ)) (e : F [a] = .ok d) : qk F (qa f (ret [])) ρ = .ok (d, ρ) := by rw [vh, qfg hf]; simp only [e]
theorem uO {F : List D -> R D} {f g : M D} {ρ : Env} {a b d : D} (hf : f ρ = .ok (a, ρ)) (hg : g ρ = .ok (b, ρ)) (e : F [a, b] = .ok d) : qk F (qa f (qa g (ret []))) ρ = .ok (d, ρ) := by rw [vh, qdU hf hg]; simp only [e]
theorem qq {F : D -> D -> Option D} {f g : M D} {ρ : Env} {a b d : D} (hf : f ρ = .ok (a, ρ)) (hg : g ρ = .ok (b, ρ)) (e : F a b = some d) : d2 F f g ρ = .ok (d, ρ) := by rw [qkv, hf]; simp only [hg, e]
theorem y9 {f : M D} {ρ : Env} {b : Bool} (hf : f ρ = .ok (.bl b, ρ)) : tst f ρ = .ok (b, ρ) := by rw [qia, hf]; rfl
theorem qmh {t : M Bool} {p q : MS} {ρ : Env} (h : t ρ = .ok (true, ρ)) : sif t p q ρ = p ρ := by rw [qge, h]; rfl
theorem qmV {t : M Bool} {p q : MS} {ρ : Env} (h : t ρ = .ok (false, ρ)) : sif t p q ρ = q ρ := by rw [qge, h]; rfl
theorem qfi {G : D -> Env -> Option Env} {b : MS} {d : D} {ds : List D} {ρ ρ1 ρ2 : Env} (h1 : G d ρ = some ρ1) (h2 : b ρ1 = .ok (.nx ρ2)) : yL G b (d :: ds) ρ = yL G b ds ρ2 := by
 show (match G d ρ with | none => R.bad | some ρ1 => _) = _
 rw [h1]
 simp only [h2]
theorem io1 {F : List D -> List D -> R (D × List D)} {i : Nat} {f : M D} {ρ : Env} {ds ds' : List D} {a d : D} (h : zA i ρ = some ds) (hf : f ρ = .ok (a, ρ)) (e : F ds [a] = .ok (d, ds')) : qC F i (qa f (ret [])) ρ = .ok (d, ρ.set i (some (.lst ds'))) := by
 simp only [qbN, h, qfg hf, e]
def mD : Option Int -> D
 | none => .non
 | some j => .int j
abbrev Kd := Int × Int × Option Int
def kD (x : Kd) : D := .tup [.int x.1, .int x.2.1, mD x.2.2]
theorem qk8 (m : Option Int) : imm (mD m) = true := by cases m <;> rfl
def okK (x : Kd) : Prop := 0 < x.1 /\ 0 <= x.2.1 /\ (∀ j, x.2.2 = some j -> 0 <= j)
theorem qfj {x : Kd} (h : okK x) : uN (kD x) = true := by
 obtain ⟨a, b, m⟩ := x
 obtain ⟨h1, h2, h3⟩ := h
 have e1 : qfd (.int a) = true := decide_eq_true h1
 have e2 : zU (.int b) = true := decide_eq_true h2
 cases m with
 | none => simp only [kD, mD, uN, e1, e2, ue, Bool.true_and, Bool.true_or]
 | some j =>
  have e3 : zU (.int j) = true := decide_eq_true (h3 j rfl)
  simp only [kD, mD, uN, e1, e2, e3, Bool.true_and, Bool.or_true]
theorem qaE {ks : List Kd} (h : ∀ x ∈ ks, okK x) (hl : ks.length <= 12) : yC (.tup (ks.map kD)) = true := by
 have : (ks.map kD).all uN = true := by
  rw [List.all_map]
  exact List.all_eq_true.mpr fun x hx => qfj (h x hx)
 simp only [yC, lM_, hl, decide_true, this, Bool.true_and]
theorem qk9 {α : Type} {ds : List α} {n : Nat} {d : α} (h : ds[n]? = some d) : atI ds (n : Int) = some d := by
 unfold atI ixN
 have hl := (gI_.mp h).1
 rw [if_pos (by omega), if_pos (by omega)]
 show ds[(n : Int).toNat]? = _
 rw [Int.toNat_natCast]; exact h
theorem qfk {α : Type} {e : M D} {t : M Bool} {u v f : α -> D} {p : α -> Bool} {r : Env} : ∀ (as : List α) (acc : List D) (o o' : Option D), (∀ a ∈ as, t (some (u a) :: some (v a) :: r) = .ok (p a, some (u a) :: some (v a) :: r)) -> (∀ a ∈ as, p a = true -> e (some (u a) :: some (v a) :: r) = .ok (f a, some (u a) :: some (v a) :: r)) -> acc.length + as.length <= 1000000 ->
  ∃ o1 o2, zg (qfE 2 (ua (qD 0) (ua (qD 1) qfD))) t e (as.map fun a => .tup [u a, v a]) acc (o :: o' :: r) = .ok (acc ++ (as.filter p).map f, o1 :: o2 :: r)
 | [], acc, o, o', _, _, _ => ⟨o, o', by simp [zg]⟩
 | a :: as, acc, o, o', ht, he, hl => by
  have hl' : acc.length + (as.length + 1) <= 1000000 := hl
  have h1 := ht a mS_
  rw [mC_]
  unfold zg
  have hg : qfE 2 (ua (qD 0) (ua (qD 1) qfD)) (.tup [u a, v a]) (o :: o' :: r) = some (some (u a) :: some (v a) :: r) := rfl
  simp only [hg, h1]
  cases hp : p a with
  | false =>
   obtain ⟨o1, o2, q⟩ := qfk as acc (some (u a)) (some (v a)) (fun x hx => ht x (mM _ hx)) (fun x hx => he x (mM _ hx)) (by omega)
   refine ⟨o1, o2, ?_⟩
   simp only [q, ft_, hp, Bool.false_eq_true, if_false]
  | true =>
   obtain ⟨o1, o2, q⟩ := qfk as (acc ++ [f a]) (some (u a)) (some (v a)) (fun x hx => ht x (mM _ hx)) (fun x hx => he x (mM _ hx)) (by rw [lA_, List.length_singleton]; omega)
   refine ⟨o1, o2, ?_⟩
   simp only [he a mS_ hp, uX (show acc.length + 1 <= 1000000 by omega), if_true, q, ft_, hp, mC_, aA_, List.singleton_append]
theorem qiI {α : Type} {e : M D} {t : M Bool} {u v : α -> D} {xs : M (List D)} {ρ r : Env} {fr : List Nat} (as : List α) (p : α -> Bool) (f : α -> D) (hx : xs ρ = .ok (as.map fun a => .tup [u a, v a], ρ)) (hr : jK 2 fr ρ = none :: none :: r) (hl : as.length <= 1000000)
  (ht : ∀ a ∈ as, t (some (u a) :: some (v a) :: r) = .ok (p a, some (u a) :: some (v a) :: r)) (he : ∀ a ∈ as, p a = true -> e (some (u a) :: some (v a) :: r) = .ok (f a, some (u a) :: some (v a) :: r)) : jL 2 fr none xs (qfE 2 (ua (qD 0) (ua (qD 1) qfD))) t e ρ = .ok (.lst ((as.filter p).map f), ρ) := by
 obtain ⟨o1, o2, q⟩ := qfk as [] none none ht he (by simpa using hl)
 rw [qct, hx]
 simp only [hr, q, List.nil_append]
 rfl
def kAt (ks : List Kd) (p : Nat) : Kd := (ks[p]?).getD (1, 0, none)
theorem qiJ {ks : List Kd} {p : Nat} (h : p < ks.length) : ks[p]? = some (kAt ks p) := by
 unfold kAt
 rw [gG h]
 rfl
theorem qnv (n : Nat) : qaU 0 n = (List.range n).map fun i => D.int (i : Nat) := by
 unfold qaU
 refine mL_ fun i _ => ?_
 rw [Int.zero_add]
theorem qbW {ks : List Kd} : ∀ (l : List Kd) (k : Nat), (∀ i, i < l.length -> l[i]? = ks[k + i]?) -> uY k (l.map kD) = (List.range l.length).map fun i => .tup [.int ((k + i : Nat) : Int), kD (kAt ks (k + i))]
 | [], _, _ => rfl
 | x :: l, k, h => by
  have h0 := h 0 (by simp)
  have e0 : kAt ks (k + 0) = x := by unfold kAt; rw [<- h0]; rfl
  rw [mC_, lC_, List.range_succ_eq_map, mC_, List.map_map, e0]
  show D.tup [.int (k : Nat), kD x] :: uY (k + 1) (l.map kD) = _
  rw [qbW l (k + 1) fun i hi => by
   have := h (i + 1) (by rw [lC_]; omega)
   rw [show k + 1 + i = k + (i + 1) by omega, <- this]
   rfl]
  congr 1
  refine mL_ fun i _ => ?_
  show D.tup [.int ((k + 1 + i : Nat) : Int), kD (kAt ks (k + 1 + i))] = D.tup [.int ((k + (i + 1) : Nat) : Int), kD (kAt ks (k + (i + 1)))]
  rw [show k + 1 + i = k + (i + 1) by omega]
theorem qla (ks : List Kd) : uY 0 (ks.map kD) = (List.range ks.length).map fun i => .tup [.int (i : Nat), kD (kAt ks i)] := by
 rw [qbW (ks := ks) ks 0 fun i _ => by rw [Nat.zero_add]]
 refine mL_ fun i _ => ?_
 rw [Nat.zero_add]
def qbn (T B : Nat) : Nat := T / Nat.gcd T B
def qaj (T B : Nat) : Nat := B / Nat.gcd T B
def frD (t b : Nat) : D := .tup [.int (t : Nat), .int (b : Nat)]
def qag (T B : Nat) : D := frD (qbn T B) (qaj T B)
theorem qba (T : Nat) {B : Nat} (hB : 0 < B) : ∃ g, 0 < g /\ T = g * qbn T B /\ B = g * qaj T B /\ 0 < qaj T B /\ qaj T B <= B /\ qbn T B <= T := by
 have hg : 0 < Nat.gcd T B := Nat.gcd_pos_of_pos_right _ hB
 have h1 : T = Nat.gcd T B * qbn T B := (Nat.mul_div_cancel' (Nat.gcd_dvd_left T B)).symm
 have h2 : B = Nat.gcd T B * qaj T B := (Nat.mul_div_cancel' (Nat.gcd_dvd_right T B)).symm
 refine ⟨Nat.gcd T B, hg, h1, h2, ?_, Nat.div_le_self _ _, Nat.div_le_self _ _⟩
 apply Nat.pos_of_ne_zero
 intro z
 rw [z, Nat.mul_zero] at h2
 omega
theorem qlb {T B T' B' : Nat} (hB : 0 < B) (hB' : 0 < B') (h : T * B' = T' * B) : qbn T B = qbn T' B' /\ qaj T B = qaj T' B' := by
 have hg : 0 < Nat.gcd T B := Nat.gcd_pos_of_pos_right _ hB
 have hg' : 0 < Nat.gcd T' B' := Nat.gcd_pos_of_pos_right _ hB'
 have t1 : T = Nat.gcd T B * qbn T B := (Nat.mul_div_cancel' (Nat.gcd_dvd_left T B)).symm
 have b1 : B = Nat.gcd T B * qaj T B := (Nat.mul_div_cancel' (Nat.gcd_dvd_right T B)).symm
 have t2 : T' = Nat.gcd T' B' * qbn T' B' := (Nat.mul_div_cancel' (Nat.gcd_dvd_left T' B')).symm
 have b2 : B' = Nat.gcd T' B' * qaj T' B' := (Nat.mul_div_cancel' (Nat.gcd_dvd_right T' B')).symm
 have key : Nat.gcd T B * B' = Nat.gcd T' B' * B := by
  rw [<- Nat.gcd_mul_right T B' B, <- Nat.gcd_mul_right T' B B', h, Nat.mul_comm B B']
 generalize Nat.gcd T B = g at *
 generalize Nat.gcd T' B' = g' at *
 generalize qbn T B = t at *
 generalize qaj T B = b at *
 generalize qbn T' B' = t' at *
 generalize qaj T' B' = b' at *
 subst t1 b1 t2 b2
 have hgg : 0 < g * g' := Nat.mul_pos hg hg'
 have eb : b = b' := by
  refine Nat.eq_of_mul_eq_mul_left hgg ?_
  grind
 subst eb
 have hb : 0 < b := by
  apply Nat.pos_of_ne_zero
  intro z
  subst z
  simp at hB
 refine ⟨?_, rfl⟩
 refine Nat.eq_of_mul_eq_mul_left (Nat.mul_pos hgg hb) ?_
 grind
theorem qiK {T B T' B' : Nat} (hB : 0 < B) (hB' : 0 < B') (h : T * B' = T' * B) : qag T B = qag T' B' := by
 obtain ⟨e1, e2⟩ := qlb hB hB' h
 unfold qag
 rw [e1, e2]
theorem qgA (a : Nat) {b : Nat} (h : 0 < b) : qat (.int (a : Nat)) (.int (b : Nat)) = some (.int ((a % b : Nat) : Int)) := by
 rw [uC (by omega)]
 rfl
theorem vo (a : Nat) {b : Nat} (h : 0 < b) (h1 : b < 1606938044258990275541962092341162602522202993782792835301376) : v6 (.int (a : Nat)) (.int (b : Nat)) = some (.int ((a / b : Nat) : Int)) := by
 rw [qbV (by omega) (by omega)]
 rfl
theorem qiL {n : Nat} (h : n <= 18000000000000000000) : jW (n : Int) = true := by
 unfold jW
 rw [Bool.and_eq_true, decide_eq_true_eq, decide_eq_true_eq]
 constructor <;> omega
theorem qlc {a : Nat} (b : Nat) (h : a <= 18000000000000000000) : jY (.int (a : Nat)) (.int (b : Nat)) = some (.int ((a * b : Nat) : Int)) := by
 rw [qff (qiL h)]
 rfl
theorem qaF (a : Nat) {b : Nat} (h : b <= 18000000000000000000) : jY (.int (a : Nat)) (.int (b : Nat)) = some (.int ((a * b : Nat) : Int)) := by
 rw [qgz (qiL h)]
 rfl
theorem qnw (a b : Nat) : uv (.int (a : Nat)) (.int (b : Nat)) = some (.int ((a + b : Nat) : Int)) := rfl
theorem qgB (t b : Nat) : ixD (frD t b) (.int 0) = some (.int (t : Nat)) := rfl
theorem qdV (t b : Nat) : ixD (frD t b) (.int 1) = some (.int (b : Nat)) := rfl
theorem qmW {t u : M Bool} {ρ : Env} (h1 : t ρ = .ok (false, ρ)) (h2 : u ρ = .ok (false, ρ)) : tor t u ρ = .ok (false, ρ) := by rw [qeK, h1]; exact h2
theorem qnx {t u : M Bool} {ρ : Env} (h1 : t ρ = .ok (true, ρ)) : tor t u ρ = .ok (true, ρ) := by rw [qeK, h1]; rfl
theorem qld {F : List D -> R D} {f g h : M D} {ρ : Env} {a b c d : D} (hf : f ρ = .ok (a, ρ)) (hg : g ρ = .ok (b, ρ)) (hh : h ρ = .ok (c, ρ)) (e : F [a, b, c] = .ok d) : qk F (qa f (qa g (qa h (ret [])))) ρ = .ok (d, ρ) := qmf hf hg hh e
theorem qgC (xs : List D) (j : Nat) (h : j <= xs.length) : qcS xs none (some (j : Int)) = xs.take j := by
 unfold qcS
 rw [HT.sIx_none, HT.sIx_nat, Nat.min_eq_left h]
 simp
theorem qgD (xs : List D) (j : Nat) (h : j <= xs.length) : qcS xs (some (j : Int)) none = xs.drop j := by
 unfold qcS
 rw [HT.sIx_none, HT.sIx_nat, Nat.min_eq_left h]
 exact List.take_of_length_le (by simp)
theorem v3 {i : Nat} {f : M D} {ρ ρ1 : Env} {d : D} (h : f ρ = .ok (d, ρ1)) : ji i f ρ = .ok (.nx (ρ1.set i (some d))) := by rw [qbM, h]
theorem yu {f : M D} {ρ ρ1 : Env} {d : D} (h : f ρ = .ok (d, ρ1)) : z4 f ρ = .ok (.rt d ρ1) := by rw [wX, h]
theorem qbX {b : MS} {i : Nat} {ρ : Env} (hi : i < ρ.length) : ∀ (ds : List D) (o : Option D), (∀ d ∈ ds, b (ρ.set i (some d)) = .ok (.nx (ρ.set i (some d)))) -> ∃ o', yL (qD i) b ds (ρ.set i o) = .ok (.nx (ρ.set i o'))
 | [], o, _ => ⟨o, rfl⟩
 | d :: ds, o, h => by
  obtain ⟨o', q⟩ := qbX hi ds (some d) fun x hx => h x (mM _ hx)
  refine ⟨o', ?_⟩
  unfold yL
  have e : qD i d (ρ.set i o) = some (ρ.set i (some d)) := by
   show some ((ρ.set i o).set i (some d)) = _
   rw [List.set_set]
  rw [e]
  simp only [h d mS_]
  exact q
def big : Nat := 1606938044258990275541962092341162602522202993782792835301376
def Mx : Nat := 18000000000000000000
abbrev Nk := Nat × Nat × Option Nat
def nk (x : Nk) : Kd := ((x.1 : Int), (x.2.1 : Int), x.2.2.map fun m : Nat => (m : Int))
def tK (x : Nk) : D := kD (nk x)
def nAt (ks : List Nk) (p : Nat) : Nk := ks.getD p (0, 0, none)
def zV (ks : List Nk) : Nat := ks.foldl (fun p x => p * x.1) 1
def qlx (ks : List Nk) (p : Nat) : Int := -((nAt ks p).2.1 : Int) * ((zV ks / (nAt ks p).1 : Nat) : Int)
def plN (ks : List Nk) : List Nat := (List.range ks.length).filter fun i => decide (0 < (nAt ks i).2.1)
def qfH (ks : List Nk) : List Nat := (Srt.ord ((plN ks).map (qlx ks))).map fun i => (plN ks).getD i 0
def goN (x : Nk) (r : Nat) : Bool := match x.2.2 with
 | some m => decide (m * x.1 <= r)
 | none => false
def mN (x : Nk) : Nat := x.2.2.getD 0
def shN (x : Nk) (r : Nat) : Nat × Nat := if goN x r then (mN x, 1) else (qbn r x.1, qaj r x.1)
def bhN (x : Nk) (r : Nat) : Nat := if goN x r then r - mN x * x.1 else 0
def shS (ks : List Nk) (s : Nat × List (Nat × Nat)) (p : Nat) : Nat × List (Nat × Nat) := (bhN (nAt ks p) s.1, s.2.set p (shN (nAt ks p) s.1))
def shs (ks : List Nk) (r : Nat) : List (Nat × Nat) := ((qfH ks).foldl (shS ks) (r, List.replicate ks.length (0, 1))).2
def swS (s : Nat × Nat) (z : Nk × Nat × Nat) : Nat × Nat := (s.1 * z.2.2 + z.2.1 * z.1.2.1 * s.2, s.2 * z.2.2)
def swN (ks : List Nk) (r : Nat) : Nat × Nat := (ks.zip (shs ks r)).foldl swS (0, 1)
def fr (p : Nat × Nat) : D := frD p.1 p.2
theorem qbb {ks : List Nk} {p : Nat} (h : p < ks.length) : ks[p]? = some (nAt ks p) := by
 unfold nAt
 simp [h]
theorem vG {ks : List Nk} {p : Nat} (h : p < ks.length) : nAt ks p ∈ ks := List.mem_of_getElem? (qbb h)
theorem qfl {ks : List Nk} {p : Nat} (h : p < ks.length) : ixD (.tup (ks.map tK)) (.int (p : Nat)) = some (tK (nAt ks p)) := qk5 (by rw [gM_, qbb h]; rfl)
theorem tk0 (x : Nk) : ixD (tK x) (.int 0) = some (.int (x.1 : Nat)) := rfl
theorem tk1 (x : Nk) : ixD (tK x) (.int 1) = some (.int (x.2.1 : Nat)) := rfl
theorem tk2 (x : Nk) : ixD (tK x) (.int 2) = some (mD (x.2.2.map fun m : Nat => (m : Int))) := rfl
theorem qhd (ks : List Nk) : ks.map tK = (ks.map nk).map kD := by rw [List.map_map]; rfl
theorem qmi {x : Nk} (h : 0 < x.1) : okK (nk x) := ⟨by show (0 : Int) < (x.1 : Int); omega, by show (0 : Int) <= (x.2.1 : Int); omega, fun j e => by
 obtain ⟨m, _, hm⟩ := Option.map_eq_some_iff.mp (show x.2.2.map (fun m : Nat => (m : Int)) = some j from e)
 omega⟩
theorem qdk {ks : List Nk} (h : ∀ x ∈ ks, 0 < x.1) (hl : ks.length <= 12) : yC (.tup (ks.map tK)) = true := by
 rw [qhd]
 exact qaE (fun x hx => by obtain ⟨y, hy, rfl⟩ := mP_.mp hx; exact qmi (h y hy)) (by rw [lM_]; exact hl)
theorem qiM (ks : List Nk) : uY 0 (ks.map tK) = (List.range ks.length).map fun i => .tup [.int (i : Nat), tK (nAt ks i)] := by
 rw [qhd, qla, lM_]
 refine mL_ fun i hi => ?_
 have hi' := mR_.mp hi
 have e : kAt (ks.map nk) i = nk (nAt ks i) := by
  have h1 := qiJ (ks := ks.map nk) (p := i) (by rw [lM_]; exact hi')
  rw [gM_, qbb hi'] at h1
  exact (Option.some.inj h1).symm
 rw [e]
 rfl
theorem qfm (ks : List Nk) : (qfH ks).Perm (plN ks) := Srt.byKeys_perm (α := Nat) (ks := (plN ks).map (qlx ks)) (xs := plN ks) (by rw [lM_])
theorem qdl {ks : List Nk} {p : Nat} : p ∈ qfH ks ↔ p < ks.length /\ 0 < (nAt ks p).2.1 := by
 rw [(qfm ks).mem_iff]
 unfold plN
 rw [List.mem_filter, mR_, decide_eq_true_eq]
theorem qbY {α : Type} {g : M D} {n : Nat} {cs : List D} {k : α -> D} {key : α -> Int} : ∀ {as : List α}, (∀ a ∈ as, ∃ ρ, g (jk n (k a :: cs)) = .ok (.int (key a), ρ)) -> w6 g n cs (as.map k) = some (as.map key)
 | [], _ => rfl
 | a :: as, h => by
  obtain ⟨ρ, e⟩ := h a mS_
  rw [mC_, mC_]
  unfold w6
  rw [e, qbY fun b hb => h b (mM _ hb)]
theorem qfn {α : Type} {k : α -> D} {l : List Nat} {as : List α} (d : α) (h : ∀ i ∈ l, i < as.length) : qdS l (as.map k) = (l.map fun i => as.getD i d).map k := by
 unfold qdS
 rw [List.map_map]
 refine mL_ fun i hi => ?_
 have hi' := h i hi
 show (as.map k).getD i D.non = k (as.getD i d)
 simp [hi']
theorem qcA (r : Nat) {w : Nat} (h : 0 < w) : 0 < qaj r w /\ qaj r w <= w := by
 obtain ⟨g, g0, e1, e2, e3, e4, e5⟩ := qba r h
 exact ⟨e3, e4⟩
theorem qle {x : Nk} (h : 0 < x.1) (r : Nat) : 0 < (shN x r).2 /\ (shN x r).2 <= x.1 := by
 unfold shN
 split
 ·exact ⟨Nat.one_pos, h⟩
 ·exact qcA r h
theorem qfo (ks : List Nk) : ∀ (l : List Nat) (s : Nat × List (Nat × Nat)), (l.foldl (shS ks) s).2.length = s.2.length
 | [], s => rfl
 | p :: l, s => by
  rw [fo_, qfo ks l]
  exact lS_
theorem qfp (ks : List Nk) (r : Nat) : (shs ks r).length = ks.length := by
 unfold shs
 rw [qfo]
 exact List.length_replicate
theorem qhe {ks : List Nk} (h : ∀ x ∈ ks, 0 < x.1) : ∀ (l : List Nat) (s : Nat × List (Nat × Nat)), (∀ p ∈ l, p < ks.length) -> (∀ (i : Nat) (z : Nat × Nat), s.2[i]? = some z -> 0 < z.2 /\ z.2 <= (nAt ks i).1) ->
  ∀ (i : Nat) (z : Nat × Nat), (l.foldl (shS ks) s).2[i]? = some z -> 0 < z.2 /\ z.2 <= (nAt ks i).1
 | [], s, _, hs => hs
 | p :: l, s, hl, hs => by
  rw [fo_]
  refine qhe h l _ (fun q hq => hl q (mM _ hq)) fun i z e => ?_
  have e' : (s.2.set p (shN (nAt ks p) s.1))[i]? = some z := e
  rw [List.getElem?_set] at e'
  split at e'
  ·rename_i hpi
   subst hpi
   split at e'
   ·cases e'
    exact qle (h _ (vG (hl p mS_))) _
   ·cases e'
  ·exact hs i z e'
theorem qlf {ks : List Nk} (h : ∀ x ∈ ks, 0 < x.1) (r : Nat) : ∀ (i : Nat) (z : Nat × Nat), (shs ks r)[i]? = some z -> 0 < z.2 /\ z.2 <= (nAt ks i).1 := by
 refine qhe h (qfH ks) _ (fun p hp => (qdl.mp hp).1) fun i z e => ?_
 have e' : (List.replicate ks.length ((0 : Nat), (1 : Nat)))[i]? = some z := e
 rw [List.getElem?_replicate] at e'
 split at e'
 ·rename_i hi
  cases e'
  exact ⟨Nat.one_pos, h _ (vG hi)⟩
 ·cases e'
theorem qhf {ks : List Nk} (h : ∀ x ∈ ks, 0 < x.1) (r : Nat) : ∀ z ∈ ks.zip (shs ks r), 0 < z.2.2 /\ z.2.2 <= z.1.1 := fun z hz => by
 obtain ⟨i, hi⟩ := List.mem_iff_getElem?.mp hz
 rw [List.getElem?_zip_eq_some] at hi
 have hl : i < ks.length := (gI_.mp hi.1).1
 have := qlf h r i z.2 hi.2
 rw [qbb hl] at hi
 have e : nAt ks i = z.1 := Option.some.inj hi.1
 rw [e] at this
 exact this
theorem qdW (p : Nat) : ∀ ks : List Nk, ks.foldl (fun p x => p * x.1) p = p * zV ks := by
 intro ks
 induction ks generalizing p with
 | nil => simp [zV]
 | cons x ks ih =>
  unfold zV
  rw [fo_, fo_, ih, ih (1 * x.1), Nat.one_mul, Nat.mul_assoc]
theorem zN (x : Nk) (ks : List Nk) : zV (x :: ks) = x.1 * zV ks := by
 show (x :: ks).foldl (fun p x => p * x.1) 1 = _
 rw [fo_, qdW, Nat.one_mul]
theorem qbZ {ks : List Nk} (h : ∀ x ∈ ks, 0 < x.1) : 0 < zV ks := by
 induction ks with
 | nil => exact Nat.one_pos
 | cons x ks ih =>
  rw [zN]
  exact Nat.mul_pos (h x mS_) (ih fun y hy => h y (mM _ hy))
theorem qdm {ks : List Nk} (h : ∀ x ∈ ks, 0 < x.1) {x : Nk} (hx : x ∈ ks) : x.1 <= zV ks := by
 induction ks with
 | nil => cases hx
 | cons y ks ih =>
  rw [zN]
  have hp := qbZ fun z hz => h z (mM _ hz)
  rcases List.mem_cons.mp hx with e | hx
  ·subst e; exact Nat.le_mul_of_pos_right _ hp
  ·exact Nat.le_trans (ih (fun z hz => h z (mM _ hz)) hx) (Nat.le_mul_of_pos_left _ (h y mS_))
theorem qhg : ∀ (l : List (Nk × Nat × Nat)) (s : Nat × Nat), (∀ z ∈ l, 0 < z.2.2 /\ z.2.2 <= z.1.1) -> 0 < s.2 -> 0 < (l.foldl swS s).2 /\ (l.foldl swS s).2 <= s.2 * zV (l.map (·.1))
 | [], s, _, h => ⟨h, by simp [zV]⟩
 | z :: l, s, hz, h => by
  obtain ⟨h1, h2⟩ := hz z mS_
  rw [fo_, mC_, zN]
  obtain ⟨a1, a2⟩ := qhg l (swS s z) (fun y hy => hz y (mM _ hy)) (Nat.mul_pos h h1)
  refine ⟨a1, Nat.le_trans a2 ?_⟩
  show s.2 * z.2.2 * _ <= s.2 * (z.1.1 * _)
  rw [Nat.mul_assoc]
  exact Nat.mul_le_mul_left _ (Nat.mul_le_mul_right _ h2)
theorem qiN (T : Nat) {B : Nat} (hB : 0 < B) : qbn T B / qaj T B = T / B := by
 obtain ⟨g, g0, e1, e2, e3, e4, e5⟩ := qba T hB
 generalize qbn T B = t at *
 generalize qaj T B = b at *
 rw [e1, e2, Nat.mul_div_mul_left _ _ g0]
theorem qiO (T u : Nat) {B c : Nat} (hB : 0 < B) (hc : 0 < c) : qag (qbn T B * c + u * qaj T B) (qaj T B * c) = qag (T * c + u * B) (B * c) := by
 obtain ⟨g, g0, e1, e2, e3, _, _⟩ := qba T hB
 refine qiK (Nat.mul_pos e3 hc) (Nat.mul_pos hB hc) ?_
 generalize qbn T B = t at *
 generalize qaj T B = b at *
 rw [e1, e2]
 grind
theorem qfq {ks : List Nk} {l : List (Nat × Nat)} (h : l.length = ks.length) : (ks.zip l).map (·.1) = ks := List.map_fst_zip (by omega)
def top (i : Nat) : Stmt := PySem.Challenge.pw_sackloads_k75_changes_refused.main.body.getD i (.Pass ⟨0, 0, 0, 0⟩)
abbrev qP : Stmt := top 34
abbrev qG : Stmt := top 35
abbrev jw : Stmt := top 36
abbrev zP : Stmt := top 38
abbrev qM : Stmt := top 31
abbrev zu : Stmt := top 32
abbrev jd : Stmt := top 37
abbrev yd : Stmt := top 16
abbrev ye : Stmt := top 17
abbrev zC : Stmt := top 21
abbrev yM : Stmt := top 18
abbrev jx : Stmt := top 19
abbrev zD : Stmt := top 20
abbrev zn : Stmt := top 39
abbrev vH : Stmt := top 33
abbrev zq : Stmt := top 40
abbrev zr : Stmt := top 41
abbrev jy : Stmt := top 24
abbrev jz : Stmt := top 23
abbrev jA : Stmt := top 26
abbrev yf : Stmt := top 25
abbrev z7 : Stmt := top 50
abbrev zE : Stmt := top 22
abbrev je : Stmt := top 51
abbrev zv : Stmt := top 43
abbrev vI : Stmt := top 44
abbrev jZ : Stmt := top 45
abbrev zQ : Stmt := top 46
abbrev yN : Stmt := top 47
abbrev qL : Stmt := top 48
abbrev qN : Stmt := top 49
abbrev qZ : Stmt := top 57
abbrev zF : Stmt := top 58
abbrev z8 : Stmt := top 59
abbrev jB : Stmt := top 54
abbrev jf : Stmt := top 56
abbrev zk : Stmt := top 55
abbrev yg : Stmt := top 53
abbrev qak : Stmt := top 60
structure Txt (K : PySem.W.Frag) (mg : Str -> Option Value) : Prop where
 b_ValueError : mg "ValueError" = none
 b_all : mg "all" = none
 b_any : mg "any" = none
 b_bool : mg "bool" = none
 b_divmod : mg "divmod" = none
 b_enumerate : mg "enumerate" = none
 b_int : mg "int" = none
 b_isinstance : mg "isinstance" = none
 b_len : mg "len" = none
 b_max : mg "max" = none
 b_min : mg "min" = none
 b_range : mg "range" = none
 b_sorted : mg "sorted" = none
 b_sum : mg "sum" = none
 b_tuple : mg "tuple" = none
 b_zip : mg "zip" = none
 c_BOTTOM : ∃ t, mg "BOTTOM" = some (.int 1 t)
 c_KINDS_AT_MOST : ∃ t, mg "KINDS_AT_MOST" = some (.int 12 t)
 c_MOST : ∃ t, mg "MOST" = some (.int 2 t)
 c_NOTHING : ∃ a, mg "NOTHING" = some (.ref a) /\ qjb K a [0, 1]
 c_TOP : ∃ t, mg "TOP" = some (.int 0 t)
 c_WEIGHT : ∃ t, mg "WEIGHT" = some (.int 0 t)
 c_WORTH : ∃ t, mg "WORTH" = some (.int 1 t)
def RN : List Str := ["NoNumber", "NoStore"]
def TN : List Str := ["SackError", "NoText", "NoLine", "NoKind", "NotEndless", "NotSingle", "TooMany", "NoLoad", "NoNumber", "NoStore"]
noncomputable def jC : MS :=
  (qQ (ji 1 (ret (.int 1)))
  (qQ (qcn (qaT (dv 0)) (qD 2) (ji 1 (d2 jY (dv 1) (d2 ixD (dv 2) (ret (.int 0))))))
  (z4 (dv 1))))
noncomputable def zR : List D -> R D := dfn 3 1 jC
noncomputable def jn : MS :=
  (qQ (ji 1 (qk zR (qa (dv 0) (ret []))))
  (qQ (ji 2 (jL 2 [] none (qdE (qa (dv 0) (ret []))) (qfE 2 (ua (qD 0) (ua (qD 1) qfD))) (tst (d2 gtD (d2 ixD (dv 1) (ret (.int 1))) (ret (.int 0)))) (dv 0)))
  (z4 (qdg 3 [1, 0] (dv 2) (d2 jY (d1 qbm (d2 ixD (d2 ixD (dv 2) (dv 0)) (ret (.int 1)))) (d2 v6 (dv 1) (d2 ixD (d2 ixD (dv 2) (dv 0)) (ret (.int 0)))))))))
noncomputable def zG : List D -> R D := dfn 3 1 jn
noncomputable def u0 : MS :=
  (z4 (qd2 (d2 qjZ (d2 ixD (dv 0) (ret (.int 2))) (ret .non)) (d2 leD (d2 jY (d2 ixD (dv 0) (ret (.int 2))) (d2 ixD (dv 0) (ret (.int 0)))) (dv 1))))
noncomputable def yn : List D -> R D := dfn 2 2 u0
noncomputable def yU : MS :=
  (z4 (dif (tst (qk yn (qa (dv 0) (qa (dv 1) (ret []))))) (d2 qcc (dv 1) (d2 jY (d2 ixD (dv 0) (ret (.int 2))) (d2 ixD (dv 0) (ret (.int 0))))) (ret (.int 0))))
noncomputable def jo : List D -> R D := dfn 2 2 yU
noncomputable def jp : MS :=
  (qQ (qay (tst (d2 gtD (dv 1) (ret (.int 0)))) (qQ (ji 2 (d2 qat (dv 0) (dv 1)))
  (qQ (ji 0 (dv 1))
  (ji 1 (dv 2)))))
  (z4 (dv 0)))
noncomputable def zx : List D -> R D := dfn 3 2 jp
noncomputable def yD : MS :=
  (qQ (ji 2 (qk zx (qa (dv 0) (qa (dv 1) (ret [])))))
  (z4 (yz (qa (d2 v6 (dv 0) (dv 2)) (qa (d2 v6 (dv 1) (dv 2)) (ret []))))))
noncomputable def zW : List D -> R D := dfn 3 2 yD
noncomputable def uj : MS :=
  (z4 (dif (tst (qk yn (qa (dv 0) (qa (dv 1) (ret []))))) (yz (qa (d2 ixD (dv 0) (ret (.int 2))) (qa (ret (.int 1)) (ret [])))) (qk zW (qa (dv 1) (qa (d2 ixD (dv 0) (ret (.int 0))) (ret []))))))
noncomputable def jN : List D -> R D := dfn 2 2 uj
noncomputable def vJ : MS :=
  (z4 (qd2 (qhR "int" (dv 0)) (qjW (qhR "bool" (dv 0)))))
noncomputable def yO : List D -> R D := dfn 1 1 vJ
noncomputable def vK : MS :=
  (z4 (qd2 (qk yO (qa (dv 0) (ret []))) (d2 geD (dv 0) (ret (.int 0)))))
noncomputable def jD : List D -> R D := dfn 1 1 vK
noncomputable def jO : MS :=
  (sif (qbA (tst (qk jD (qa (dv 0) (ret []))))) (qaA "NoNumber" (qa (ret (.str "this is no whole number from 0 on")) (ret []))) uK)
noncomputable def zH : List D -> R D := uZ 1 1 jO
noncomputable def qab : MS :=
  (qQ (sif (tor (qbA (tst (qhR "tuple" (dv 0)))) (tst (d2 neB (jH qcd (qa (dv 0) (ret []))) (ret (.int 3))))) (z4 (ret (.bl false))) uK)
  (qQ (sif (tor (qbA (tst (qk jD (qa (d2 ixD (dv 0) (ret (.int 0))) (ret []))))) (tst (d2 eqB (d2 ixD (dv 0) (ret (.int 0))) (ret (.int 0))))) (z4 (ret (.bl false))) uK)
  (z4 (qd2 (qk jD (qa (d2 ixD (dv 0) (ret (.int 1))) (ret []))) (dor (d2 isN (d2 ixD (dv 0) (ret (.int 2))) (ret .non)) (qk jD (qa (d2 ixD (dv 0) (ret (.int 2))) (ret []))))))))
noncomputable def uk : List D -> R D := dfn 1 1 qab
noncomputable def vL : MS :=
  (qQ (sif (tor (qbA (tst (qhR "tuple" (dv 0)))) (tst (d2 gtD (jH qcd (qa (dv 0) (ret []))) (ret (.int 12))))) (z4 (ret (.bl false))) uK)
  (z4 (jH qi8 (qa (jL 1 [] none (qaT (dv 0)) (qD 0) (ret true) (qk uk (qa (dv 0) (ret [])))) (ret [])))))
noncomputable def uD : List D -> R D := dfn 1 1 vL
noncomputable def yw : MS :=
  (sif (qbA (tst (qk uD (qa (dv 0) (ret []))))) (qaA "NoStore" (qa (ret (.str "this is no store")) (ret []))) uK)
noncomputable def zJ : List D -> R D := uZ 1 1 yw
noncomputable def j4 : MS :=
  (qQ (yr (zS RN zJ (qa (dv 0) (ret []))))
  (qQ (yr (zS RN zH (qa (dv 1) (ret []))))
  (qQ (v7 2 (qkT (z0 (qa (ret (.tup [.int 0, .int 1])) (ret []))) (jH qcd (qa (dv 0) (ret [])))))
  (qQ (ji 3 (dv 1))
  (qQ (qcn (qaT (qk zG (qa (dv 0) (ret [])))) (qD 4) (qQ (qco 2 (dv 4) (qk jN (qa (d2 ixD (dv 0) (dv 4)) (qa (dv 3) (ret [])))))
  (ji 3 (qk jo (qa (d2 ixD (dv 0) (dv 4)) (qa (dv 3) (ret [])))))))
  (z4 (qcp 2)))))))
noncomputable def jq : List D -> R D := uZ 5 2 j4
noncomputable def qcB : MS :=
  (z4 (qk zW (qa (d2 uv (d2 jY (d2 ixD (dv 0) (ret (.int 0))) (d2 ixD (dv 1) (ret (.int 1)))) (d2 jY (d2 ixD (dv 1) (ret (.int 0))) (d2 ixD (dv 0) (ret (.int 1))))) (qa (d2 jY (d2 ixD (dv 0) (ret (.int 1))) (d2 ixD (dv 1) (ret (.int 1)))) (ret [])))))
noncomputable def vM : List D -> R D := dfn 2 2 qcB
noncomputable def j6 : MS :=
  (qQ (ji 2 (ret (.tup [.int 0, .int 1])))
  (qQ (qcn (qkh (qa (dv 0) (qa (vi jq (qa (dv 0) (qa (dv 1) (ret [])))) (ret [])))) (qfE 2 (ua (qD 3) (ua (qD 4) qfD))) (ji 2 (qk vM (qa (dv 2) (qa (yz (qa (d2 jY (d2 ixD (dv 4) (ret (.int 0))) (d2 ixD (dv 3) (ret (.int 1)))) (qa (d2 ixD (dv 4) (ret (.int 1))) (ret [])))) (ret []))))))
  (z4 (dv 2))))
noncomputable def j7 : List D -> R D := uZ 5 2 j6
noncomputable def j8 : MS :=
  (qQ (ji 2 (zS RN j7 (qa (dv 0) (qa (dv 1) (ret [])))))
  (z4 (d2 v6 (d2 ixD (dv 2) (ret (.int 0))) (d2 ixD (dv 2) (ret (.int 1))))))
noncomputable def j9 : List D -> R D := uZ 3 2 j8
noncomputable def u3 : MS :=
  (z4 (d2 uv (d2 uv (qiy (dv 0) (ret none) (qbH (dv 1))) (yz (qa (dv 2) (ret [])))) (qiy (dv 0) (qbH (d2 uv (dv 1) (ret (.int 1)))) (ret none))))
noncomputable def yo : List D -> R D := dfn 3 3 u3
noncomputable def u4 : MS :=
  (z4 (yz (qa (d2 ixD (dv 0) (ret (.int 0))) (qa (d2 ixD (dv 0) (ret (.int 1))) (qa (dv 1) (ret []))))))
noncomputable def jE : List D -> R D := dfn 2 2 u4
noncomputable def u5 : MS :=
  (z4 (dif (tst (d2 isN (d2 ixD (dv 0) (ret (.int 2))) (ret .non))) (ret .non) (d2 qcc (d2 ixD (dv 0) (ret (.int 2))) (dv 1))))
noncomputable def yp : List D -> R D := dfn 2 2 u5
noncomputable def vN : MS :=
  (z4 (dor (d2 isN (d2 ixD (dv 0) (ret (.int 2))) (ret .non)) (d2 gtD (d2 ixD (dv 0) (ret (.int 2))) (ret (.int 0)))))
noncomputable def jF : List D -> R D := dfn 1 1 vN
noncomputable def yV : MS :=
  (qQ (ji 4 (d2 ixD (dv 0) (dv 1)))
  (qQ (sif (tor (qbA (tst (qk jF (qa (dv 4) (ret []))))) (tst (d2 gtD (d2 ixD (dv 4) (ret (.int 0))) (dv 2)))) (z4 (ret (.bl false))) uK)
  (qQ (ji 5 (qk yo (qa (dv 0) (qa (dv 1) (qa (qk jE (qa (dv 4) (qa (qk yp (qa (dv 4) (qa (ret (.int 1)) (ret [])))) (ret [])))) (ret []))))))
  (z4 (d2 geD (d2 uv (d2 ixD (dv 4) (ret (.int 1))) (zS RN j9 (qa (dv 5) (qa (d2 qcc (dv 2) (d2 ixD (dv 4) (ret (.int 0)))) (ret []))))) (dv 3))))))
noncomputable def yW : List D -> R D := uZ 6 4 yV
noncomputable def jP : MS :=
  (sif (qbA (tst (qk yO (qa (dv 0) (ret []))))) (qaA "NoNumber" (qa (ret (.str "this is no whole number")) (ret []))) uK)
noncomputable def jg : List D -> R D := uZ 1 1 jP
noncomputable def yh : MS :=
  (qQ (yr (zS RN zJ (qa (dv 0) (ret []))))
  (qQ (yr (zS RN zH (qa (dv 1) (ret []))))
  (qQ (yr (zS RN jg (qa (dv 2) (ret []))))
  (z4 (jL 1 [0, 1, 2] none (yK (qa (jH qcd (qa (dv 0) (ret []))) (ret []))) (qD 0) (qbA (tst (vi yW (qa (dv 1) (qa (dv 0) (qa (dv 2) (qa (dv 3) (ret [])))))))) (dv 0))))))
noncomputable def zw : List D -> R D := uZ 3 3 yh
noncomputable def uP : MS :=
  (z4 (qd2 (d2 isN (d2 ixD (dv 0) (ret (.int 2))) (ret .non)) (qd2 (d2 leD (d2 ixD (dv 0) (ret (.int 0))) (d2 ixD (dv 1) (ret (.int 0)))) (d2 geD (d2 ixD (dv 0) (ret (.int 1))) (d2 ixD (dv 1) (ret (.int 1)))))))
noncomputable def yE : List D -> R D := dfn 2 2 uP
noncomputable def qfr : MS :=
  (qQ (sif (tor (tst (d2 eqB (dv 1) (dv 2))) (qbA (tst (qk yE (qa (d2 ixD (dv 0) (dv 1)) (qa (d2 ixD (dv 0) (dv 2)) (ret []))))))) (z4 (ret (.bl false))) uK)
  (z4 (dor (d2 ltD (dv 1) (dv 2)) (qjW (qk yE (qa (d2 ixD (dv 0) (dv 2)) (qa (d2 ixD (dv 0) (dv 1)) (ret []))))))))
noncomputable def qfs : List D -> R D := dfn 3 3 qfr
noncomputable def qbc : MS :=
  (qQ (yr (zS RN zJ (qa (dv 0) (ret []))))
  (qQ (v7 1 (qi9 (ret [])))
  (qQ (qcn (yK (qa (jH qcd (qa (dv 0) (ret []))) (ret []))) (qD 2) (qQ (ji 3 (jL 1 [0, 2] none (yK (qa (jH qcd (qa (dv 0) (ret []))) (ret []))) (qD 0) (tst (qk qfs (qa (dv 1) (qa (dv 0) (qa (dv 2) (ret [])))))) (dv 0)))
  (sif (tst (d2 neB (dv 3) (z0 (ret [])))) (yr (yT 1 (yz (qa (dv 2) (qa (d2 ixD (dv 3) (ret (.int 0))) (ret [])))))) uK)))
  (qhV 1))))
noncomputable def qbd : List D -> R D := uZ 4 1 qbc
noncomputable def vO : MS :=
  (qQ (ji 1 (jL 1 [] none (qaT (zS RN qbd (qa (dv 0) (ret [])))) (qD 0) (ret true) (d2 ixD (dv 0) (ret (.int 0)))))
  (z4 (jH qeu (qa (jL 2 [1] none (qdE (qa (dv 0) (ret []))) (qfE 2 (ua (qD 0) (ua (qD 1) qfD))) (tst (d2 ql6 (dv 0) (dv 2))) (dv 1)) (ret [])))))
noncomputable def qaG : List D -> R D := uZ 2 1 vO
noncomputable def qb0 : MS :=
  (z4 (qd2 (d2 eqB (d2 ixD (dv 0) (ret (.int 0))) (d2 ixD (dv 1) (ret (.int 0)))) (d2 eqB (d2 ixD (dv 0) (ret (.int 1))) (d2 ixD (dv 1) (ret (.int 1))))))
noncomputable def qac : List D -> R D := dfn 2 2 qb0
noncomputable def ul : MS :=
  (qQ (sif (tst (jH qlr (qa (jL 1 [] none (qaT (dv 0)) (qD 0) (ret true) (d2 isN (d2 ixD (dv 0) (ret (.int 2))) (ret .non))) (ret [])))) (z4 (ret .non)) uK)
  (z4 (jH qlX (qa (jL 1 [] none (qaT (dv 0)) (qD 0) (ret true) (d2 ixD (dv 0) (ret (.int 2)))) (ret [])))))
noncomputable def uo : List D -> R D := dfn 1 1 ul
noncomputable def yX : MS :=
  (qQ (yr (zS RN zJ (qa (dv 0) (ret []))))
  (qQ (v7 1 (qi9 (ret [])))
  (qQ (qcn (qaT (dv 0)) (qD 2) (sif (qbA (tst (qis (jH qlr (qa (jL 1 [2] none (qaT (dv 1)) (qD 0) (ret true) (qk qac (qa (dv 1) (qa (dv 0) (ret []))))) (ret [])))))) (yr (yT 1 (qk jE (qa (dv 2) (qa (qk uo (qa (jL 1 [2] none (qaT (dv 0)) (qD 0) (tst (qk qac (qa (dv 1) (qa (dv 0) (ret []))))) (dv 0)) (ret []))) (ret [])))))) uK))
  (z4 (qcp 1)))))
noncomputable def vp : List D -> R D := uZ 3 1 yX
noncomputable def yF : MS :=
  (qQ (ji 1 (z0 (qa (qce RN "NoStore" (dv 0)) (qa (qce RN "NoNumber" (dv 0)) (qa (qce RN "NoLoad" (dv 0)) (qa (qce RN "TooMany" (dv 0)) (ret [])))))))
  (qQ (ji 1 (d2 uv (dv 1) (z0 (qa (qce RN "NotSingle" (dv 0)) (qa (qce RN "NotEndless" (dv 0)) (qa (qce RN "NoKind" (dv 0)) (ret [])))))))
  (z4 (d2 uv (dv 1) (z0 (qa (qce RN "NoLine" (dv 0)) (qa (qce RN "NoText" (dv 0)) (ret []))))))))
noncomputable def uQ : List D -> R D := dfn 2 1 yF
noncomputable def u6 : MS :=
  (qQ (sif (tor (qbA (tst (qce RN "SackError" (dv 0)))) (qbA (tst (qce RN "ValueError" (dv 0))))) (z4 (ret (.bl false))) uK)
  (z4 (d2 eqB (qk uQ (qa (dv 0) (ret []))) (jL 1 [1] none (yK (qa (ret (.int 9)) (ret []))) (qD 0) (ret true) (d2 eqB (dv 0) (dv 1))))))
noncomputable def u7 : List D -> R D := dfn 2 2 u6
noncomputable def yY : MS :=
  (qQ (w5 RN 5 4 (sif (tst (d2 eqB (dv 0) (ret (.int 0)))) (yr (zS RN zw (qa (dv 1) (qa (dv 2) (qa (dv 3) (ret [])))))) (sif (tst (d2 eqB (dv 0) (ret (.int 1)))) (yr (zS RN qbd (qa (dv 1) (ret [])))) (sif (tst (d2 eqB (dv 0) (ret (.int 2)))) (yr (zS RN qaG (qa (dv 1) (ret [])))) (yr (zS RN vp (qa (dv 1) (ret []))))))) (jL 1 [4] none (yK (qa (ret (.int 9)) (ret []))) (qD 0) (tst (qk u7 (qa (dv 1) (qa (dv 0) (ret []))))) (dv 0)))
  (z4 (z0 (ret []))))
noncomputable def qh : List D -> R D := dfn 5 4 yY
noncomputable def yZ : MS :=
  (qQ (qlq (jH wO (qa (qj9 0 (ret (.int 0))) (qa (dv 1) (ret [])))) (qfE 2 (ua (qD 2) (ua (qD 3) qfD))))
  (qQ (qco 0 (ret (.int 0)) (dv 2))
  (z4 (dv 3))))
noncomputable def qr : List D -> List D -> R (D × List D) := wU 4 2 yZ
noncomputable def yx : MS :=
  (qQ (v7 2 (qi9 (ret [])))
  (qQ (qcn (yK (qa (qC qr 0 (qa (d2 uv (dv 1) (ret (.int 1))) (ret []))) (ret []))) (qD 3) (qQ (qja 4 5 (qa (d2 uv (ret (.int 1)) (qC qr 0 (qa (ret (.int 9)) (ret [])))) (qa (qC qr 0 (qa (ret (.int 10)) (ret []))) (ret []))))
  (yr (yT 2 (yz (qa (dv 4) (qa (dv 5) (qa (d2 ixD (z0 (qa (ret .non) (qa (ret (.int 0)) (qa (ret (.int 1)) (qa (ret (.int 1)) (qa (ret (.int 2)) (qa (ret (.int 3)) (qa (ret (.int 5)) (ret []))))))))) (qC qr 0 (qa (ret (.int 7)) (ret [])))) (ret [])))))))))
  (z4 (qcp 2))))
noncomputable def zK : List D -> List D -> R (D × List D) := wU 6 2 yx
noncomputable def jr : MS :=
  (qQ (ji 1 (z0 (qa (ret .non) (qa (z0 (qa (yz (qa (ret (.int 1)) (qa (ret (.int 1)) (qa (ret (.int 1)) (ret []))))) (ret []))) (qa (yz (qa (ret (.int 1)) (qa (ret (.int 1)) (qa (ret (.int 1)) (ret []))))) (qa (yz (qa (yz (qa (ret (.int 0)) (qa (ret (.int 1)) (qa (ret (.int 1)) (ret []))))) (ret []))) (qa (yz (qa (yz (qa (ret (.int 1)) (qa (d1 qbm (ret (.int 1))) (qa (ret (.int 1)) (ret []))))) (ret []))) (qa (yz (qa (yz (qa (ret (.int 1)) (qa (ret (.int 1)) (qa (d1 qbm (ret (.int 1))) (ret []))))) (ret []))) (qa (yz (qa (yz (qa (ret (.int 1)) (qa (ret (.int 1)) (ret [])))) (ret []))) (qa (yz (qa (yz (qa (ret (.bl true)) (qa (ret (.int 1)) (qa (ret (.int 1)) (ret []))))) (ret []))) (ret [])))))))))))
  (qQ (ji 1 (d2 uv (dv 1) (z0 (qa (yz (qa (yz (qa (ret (.int 1)) (qa (ret (.int 1)) (qa (ret (.str "1")) (ret []))))) (ret []))) (qa (d2 jY (yz (qa (yz (qa (ret (.int 1)) (qa (ret (.int 1)) (qa (ret (.int 1)) (ret []))))) (ret []))) (ret (.int 13))) (qa (ret (.str "1/1*1")) (qa (ret (.int 5)) (qa (ret (.dic [])) (qa (yz (qa (yz (qa (ret (.int 1)) (qa (ret .non) (qa (ret (.int 1)) (ret []))))) (ret []))) (qa (yz (qa (ret .non) (ret []))) (qa (yz (qa (yz (qa (ret (.int 1)) (qa (ret (.int 1)) (qa (ret (.bl true)) (ret []))))) (ret []))) (ret []))))))))))))
  (z4 (d2 ixD (dv 1) (qC qr 0 (qa (ret (.int 16)) (ret [])))))))
noncomputable def qR : List D -> List D -> R (D × List D) := wU 2 1 jr
noncomputable def uE : MS :=
  (qQ (ji 2 (d2 uv (d2 jY (ret (.int 7919)) (dv 1)) (ret (.int 13))))
  (qQ (sif (tst (d2 ltD (dv 1) (jH qcd (qa (dv 0) (ret []))))) (ji 2 (d2 ixD (dv 0) (dv 1))) uK)
  (qQ (sif (tst (d2 eqB (d2 qat (dv 2) (ret (.int 2))) (ret (.int 0)))) (z4 (z0 (qa (d2 v6 (dv 2) (ret (.int 2))) (ret [])))) uK)
  (qQ (ji 3 (ret (.int 0)))
  (qQ (qcn (yK (qa (ret (.int 16)) (ret []))) (qD 4) (qQ (ji 5 (d2 qat (d2 uv (d2 uv (d2 jY (d2 qat (dv 2) (ret (.int 2147483647))) (ret (.int 48271))) (d2 jY (ret (.int 7919)) (dv 4))) (ret (.int 1))) (ret (.int 2147483647))))
  (qQ (ji 5 (d2 qat (d2 jY (dv 5) (dv 5)) (ret (.int 2147483629))))
  (ji 3 (d2 uv (d2 jY (dv 3) (ret (.int 2147483647))) (d2 qat (d2 jY (dv 5) (d2 uv (dv 5) (ret (.int 13)))) (ret (.int 2147483647))))))))
  (z4 (z0 (qa (dv 3) (ret [])))))))))
noncomputable def jh : List D -> R D := dfn 6 2 uE
noncomputable def qiP : MS :=
  (qQ (qcn (yK (qa (jH qhM (qa (ret (.int 1)) (qa (jH qhN (qa (jH qcd (qa (dv 0) (ret []))) (qa (ret (.int 4)) (ret [])))) (ret [])))) (ret []))) (qD 1) (qQ (v7 2 (qbK jh (qa (dv 0) (qa (dv 1) (ret [])))))
  (qQ (ji 3 (qC qR 2 (ret [])))
  (qQ (sif (tst (d2 neB (jL 1 [3] none (yK (qa (ret (.int 4)) (ret []))) (qD 0) (ret true) (qk qh (qa (dv 0) (qa (dv 1) (qa (ret .non) (qa (ret .non) (ret []))))))) (d2 jY (z0 (qa (z0 (qa (ret (.int 0)) (ret []))) (ret []))) (ret (.int 4))))) (z4 (ret (.bl false))) uK)
  (qQ (ji 4 (qC zK 2 (qa (ret (.int 5)) (ret []))))
  (qQ (qcn (qaT (z0 (qa (ret (.bl true)) (qa (ret .non) (qa (ret (.str "3")) (qa (yz (qa (ret (.int 3)) (ret []))) (qa (z0 (qa (ret (.int 3)) (ret []))) (qa (ret (.dic [])) (ret []))))))))) (qD 5) (sif (tor (tst (d2 neB (qk qh (qa (ret (.int 0)) (qa (dv 4) (qa (dv 5) (qa (ret (.int 3)) (ret [])))))) (z0 (qa (ret (.int 1)) (ret []))))) (tst (d2 neB (qk qh (qa (ret (.int 0)) (qa (dv 4) (qa (ret (.int 3)) (qa (dv 5) (ret [])))))) (z0 (qa (ret (.int 1)) (ret [])))))) (z4 (ret (.bl false))) uK))
  (sif (tor (tst (d2 neB (qk qh (qa (ret (.int 0)) (qa (dv 4) (qa (d2 qcc (d1 qbm (ret (.int 1))) (qC qr 2 (qa (ret (.int 9)) (ret [])))) (qa (ret (.int 3)) (ret [])))))) (z0 (qa (ret (.int 1)) (ret []))))) (tst (d2 neB (qk qh (qa (ret (.int 0)) (qa (dv 4) (qa (ret (.int 3)) (qa (ret (.int 3)) (ret [])))))) (z0 (ret []))))) (z4 (ret (.bl false))) uK)))))))
  (z4 (ret (.bl true))))
noncomputable def qcC : List D -> R D := dfn 6 1 qiP
theorem y0 (d : D) : yO [d] = .ok (.bl (w9 d)) := by
 unfold yO vJ
 refine vZ rfl ⟨[some d], ?_⟩
 push_cast []
 cases d <;> rfl
theorem js (d : D) : jD [d] = .ok (.bl (zU d)) := by
 unfold jD vK
 refine vZ rfl ⟨[some d], ?_⟩
 push_cast []
 rw [y0]
 cases d <;> rfl
theorem qb1 (d : D) : uk [d] = .ok (.bl (uN d)) := by
 unfold uk qab
 refine vZ rfl ⟨[some d], ?_⟩
 cases d with
 | tup ds =>
  by_cases h : ds.length = 3
  ·obtain ⟨a, b, c, rfl⟩ := qns h
   refine (qy (ρ' := [some (.tup [a, b, c])]) rfl).trans ?_
   by_cases hp : qfd a = true
   ·refine (qy (ρ' := [some (.tup [a, b, c])]) ?_).trans ?_
    ·cases a with
     | int i =>
      have h2 : 0 < i := of_decide_eq_true hp
      have h0 : 0 <= i := by omega
      have h1 : ¬ i = 0 := by omega
      push_cast [ix0, js, zU, qcz, vX, h0, h1, decide_true, decide_false]
     | _ => exact absurd hp (by simp [qfd])
    ·push_cast [ix1, ix2, js, qha, uN, hp, vX, Bool.true_and]
     cases hb : zU b <;> cases hc : ue c <;> rfl
   ·refine (qaD (d := .bl false) (ρ' := [some (.tup [a, b, c])]) ?_).trans ?_
    ·cases a with
     | int i =>
      have h2 : ¬ 0 < i := fun z => hp (decide_eq_true z)
      push_cast [ix0, js, zU, qcz, vX]
      by_cases h0 : 0 <= i
      ·have h1 : i = 0 := by omega
       subst h1; rfl
      ·simp only [h0, decide_false]
       rfl
     | _ => rfl
    ·have hp' : qfd a = false := by simpa using hp
     simp only [uN, hp', Bool.false_and]
  ·refine (qaD (d := .bl false) (ρ' := [some (.tup ds)]) ?_).trans ?_
   ·push_cast []
    have h3 : ¬ ((ds.length : Int) = 3) := by omega
    simp only [qa8, ww, qfb, h3, decide_false, vX]
    rfl
   ·rw [qdT h]
 | _ => rfl
theorem qbe (d : D) : uD [d] = .ok (.bl (yC d)) := by
 unfold uD vL
 refine vZ rfl ⟨[some d], ?_⟩
 cases d with
 | tup ds =>
  by_cases h : ds.length <= 12
  ·have h2 : ¬ ((12 : Int) < (ds.length : Int)) := by omega
   refine (qy (ρ' := [some (.tup ds)]) ?_).trans ?_
   ·push_cast [qa8, ww, w8, h2, decide_false, vX]
   ·rw [wX, qiG (F := uk) (f := uN) (xs := qaT (dv 0)) (ds := ds) (ρ := [some (.tup ds)]) rfl (fun d _ => qb1 d) (by omega)]
    simp only [yC, h, decide_true, Bool.true_and]
  ·have h2 : ((12 : Int) < (ds.length : Int)) := by omega
   refine (qaD (d := .bl false) (ρ' := [some (.tup ds)]) ?_).trans ?_
   ·push_cast [qa8, ww, w8, h2, decide_true, vX]
   ·simp only [yC, h, decide_false, Bool.false_and]
 | _ => rfl
theorem sm1 : qH 1 = true := uX (by omega)
theorem ya (d : D) (h : yC d = true) : zJ [d] = .ok .non := by
 unfold zJ
 refine qe2 rfl ⟨[some d], ?_⟩
 unfold yw
 push_cast [qbe, h]
theorem y7 (d : D) (h : zU d = true) : zH [d] = .ok .non := by
 unfold zH
 refine qe2 rfl ⟨[some d], ?_⟩
 unfold jO
 push_cast [js, h]
theorem qb2 (d : D) (h : zU d = false) : zH [d] = .exc ⟨"NoNumber", .non⟩ [some d] := by
 unfold zH
 refine qc9 rfl ?_
 unfold jO
 push_cast [js, h, sm1]
theorem qbf (d : D) (h : w9 d = true) : jg [d] = .ok .non := by
 unfold jg
 refine qe2 rfl ⟨[some d], ?_⟩
 unfold jP
 push_cast [y0, h]
theorem qb3 (d : D) (h : w9 d = false) : jg [d] = .exc ⟨"NoNumber", .non⟩ [some d] := by
 unfold jg
 refine qc9 rfl ?_
 unfold jP
 push_cast [y0, h, sm1]
theorem ex1 {F : List D -> R D} {l : M (List D)} {ρ : Env} {ds : List D} {d : D} (hl : l ρ = .ok (ds, ρ)) (h : F ds = .ok d) : yr (zS RN F l) ρ = .ok (.nx ρ) := by
 rw [qaX, vj, hl]
 simp only [h]
theorem cx2 {F : List D -> R D} {f g : M D} {ρ : Env} {a b d : D} (hf : f ρ = .ok (a, ρ)) (hg : g ρ = .ok (b, ρ)) (e : F [a, b] = .ok d) : zS RN F (qa f (qa g (ret []))) ρ = .ok (d, ρ) := by
 rw [vj, qdU hf hg]
 simp only [e]
theorem cp2 {F : List D -> R D} {f g : M D} {ρ : Env} {a b d : D} (hf : f ρ = .ok (a, ρ)) (hg : g ρ = .ok (b, ρ)) (e : F [a, b] = .ok d) : vi F (qa f (qa g (ret []))) ρ = .ok (d, ρ) := by
 rw [qa3, qdU hf hg]
 simp only [e]
theorem qny {f g : M D} {ρ : Env} {d : D} (hf : f ρ = .ok (.bl true, ρ)) (hg : g ρ = .ok (d, ρ)) : qd2 f g ρ = .ok (d, ρ) := by
 rw [qeL, hf]
 exact hg
theorem qnz {f g : M D} {ρ : Env} (hf : f ρ = .ok (.bl false, ρ)) : qd2 f g ρ = .ok (.bl false, ρ) := by
 rw [qeL, hf]
 rfl
theorem qmX {t : M Bool} {f g : M D} {ρ : Env} {d : D} (ht : t ρ = .ok (true, ρ)) (hf : f ρ = .ok (d, ρ)) : dif t f g ρ = .ok (d, ρ) := by
 rw [qib, ht]
 exact hf
theorem qmj {t : M Bool} {f g : M D} {ρ : Env} {d : D} (ht : t ρ = .ok (false, ρ)) (hg : g ρ = .ok (d, ρ)) : dif t f g ρ = .ok (d, ρ) := by
 rw [qib, ht]
 exact hg
theorem qhh (n : Nat) : zU (.int (n : Nat)) = true := by
 show decide ((0 : Int) <= (n : Int)) = true
 exact decide_eq_true (by omega)
theorem gt0 (n : Nat) : gtD (.int (n : Nat)) (.int 0) = some (.bl (decide (0 < n))) := by
 rw [w8]
 congr 2
 rw [decide_eq_decide]
 omega
theorem leN (a b : Nat) : leD (.int (a : Nat)) (.int (b : Nat)) = some (.bl (decide (a <= b))) := by
 rw [qfc]
 congr 2
 rw [decide_eq_decide]
 omega
theorem qiQ : ∀ (b a : Nat) (o : Option D), ∃ n o', ug (tst (d2 gtD (dv 1) (ret (.int 0)))) (qQ (ji 2 (d2 qat (dv 0) (dv 1))) (qQ (ji 0 (dv 1)) (ji 1 (dv 2)))) n [some (.int (a : Nat)), some (.int (b : Nat)), o] = .ok (.nx [some (.int (Nat.gcd a b : Nat)), some (.int 0), o']) := by
 intro b
 induction b using Nat.strongRecOn with
 | _ b ih =>
  intro a o
  by_cases h : 0 < b
  ·obtain ⟨n, o', q⟩ := ih (a % b) (Nat.mod_lt _ h) b (some (.int ((a % b : Nat) : Int)))
   refine ⟨n + 1, o', ?_⟩
   unfold ug
   have t : tst (d2 gtD (dv 1) (ret (.int 0))) [some (.int (a : Nat)), some (.int (b : Nat)), o] = .ok (true, [some (.int (a : Nat)), some (.int (b : Nat)), o]) := y9 (qq rfl rfl (by rw [gt0, decide_eq_true h]))
   have s : (qQ (ji 2 (d2 qat (dv 0) (dv 1))) (qQ (ji 0 (dv 1)) (ji 1 (dv 2)))) [some (.int (a : Nat)), some (.int (b : Nat)), o] = .ok (.nx [some (.int (b : Nat)), some (.int ((a % b : Nat) : Int)), some (.int ((a % b : Nat) : Int))]) := by
    refine (qy (ρ' := [some (.int (a : Nat)), some (.int (b : Nat)), some (.int ((a % b : Nat) : Int))]) ?_).trans rfl
    rw [qbM, qq rfl rfl (qgA a h)]
    rfl
   simp only [t, s]
   have e : Nat.gcd a b = Nat.gcd b (a % b) := by
    rw [Nat.gcd_comm a b, Nat.gcd_rec b a, Nat.gcd_comm]
   rw [e]
   exact q
  ·have e : b = 0 := by omega
   subst e
   refine ⟨1, o, ?_⟩
   unfold ug
   have t : tst (d2 gtD (dv 1) (ret (.int 0))) [some (.int (a : Nat)), some (.int ((0 : Nat) : Int)), o] = .ok (false, [some (.int (a : Nat)), some (.int ((0 : Nat) : Int)), o]) := y9 (qq rfl rfl (by rw [gt0]; rfl))
   simp only [t]
   rw [Nat.gcd_zero_right]
   rfl
theorem uq (a b : Nat) : zx [.int (a : Nat), .int (b : Nat)] = .ok (.int (Nat.gcd a b : Nat)) := by
 unfold zx jp
 obtain ⟨n, o', q⟩ := qiQ b a none
 refine vZ rfl ⟨[some (.int (Nat.gcd a b : Nat)), some (.int 0), o'], ?_⟩
 exact (qy (qeY q (by intro z; cases z))).trans rfl
theorem yP (T : Nat) {B : Nat} (hB : 0 < B) (hb : B < big) : zW [.int (T : Nat), .int (B : Nat)] = .ok (qag T B) := by
 have hg : 0 < Nat.gcd T B := Nat.gcd_pos_of_pos_right _ hB
 have hg2 : Nat.gcd T B < big := Nat.lt_of_le_of_lt (Nat.gcd_le_right _ hB) hb
 unfold zW yD
 refine vZ rfl ⟨[some (.int (T : Nat)), some (.int (B : Nat)), some (.int (Nat.gcd T B : Nat))], ?_⟩
 refine (qy (ρ' := [some (.int (T : Nat)), some (.int (B : Nat)), some (.int (Nat.gcd T B : Nat))]) ?_).trans ?_
 ·show ji 2 _ [some (.int (T : Nat)), some (.int (B : Nat)), none] = _
  rw [qbM, uO rfl rfl (uq T B)]
  rfl
 ·rw [wX, qmg (qq rfl rfl (vo T hg hg2)) (qq rfl rfl (vo B hg hg2))]
  rfl
theorem qdX {t b u c : Nat} (h1 : c <= Mx) (h2 : u <= Mx \/ b <= Mx) (hb : 0 < b) (hc : 0 < c) (hl : b * c < big) : vM [frD t b, frD u c] = .ok (qag (t * c + u * b) (b * c)) := by
 unfold vM qcB
 let ρ : Env := [some (frD t b), some (frD u c)]
 refine vZ rfl ⟨ρ, ?_⟩
 show z4 _ ρ = _
 have e2 : jY (.int (u : Nat)) (.int (b : Nat)) = some (.int ((u * b : Nat) : Int)) := h2.elim (fun h => qlc b h) (fun h => qaF u h)
 rw [wX, uO (qq (qq (qq rfl rfl (qgB t b)) (qq rfl rfl (qdV u c)) (qaF t h1)) (qq (qq rfl rfl (qgB u c)) (qq rfl rfl (qdV t b)) e2) (qnw _ _)) (qq (qq rfl rfl (qdV t b)) (qq rfl rfl (qdV u c)) (qaF b h1)) (yP _ (Nat.mul_pos hb hc) hl)]
theorem uG {ks : List Nk} (hw : ∀ x ∈ ks, x.1 <= Mx) : zR [.tup (ks.map tK)] = .ok (.int (zV ks : Nat)) := by
 unfold zR jC
 let S : Option D := some (.tup (ks.map tK))
 obtain ⟨ρ', q, o2, rfl⟩ := qaa (G := qD 2) (b := (ji 1 (d2 jY (dv 1) (d2 ixD (dv 2) (ret (.int 0)))))) (k := tK) (step := fun (p : Nat) (x : Nk) => p * x.1) (Inv := fun n p ρ => ∃ o2, ρ = [S, some (.int (p : Nat)), o2]) ks 0 1 [S, some (.int 1), none] ⟨none, rfl⟩ (fun x hx n p ρ _ _ => by
  rintro ⟨o2, rfl⟩
  refine ⟨[S, some (.int (p : Nat)), some (tK x)], [S, some (.int ((p * x.1 : Nat) : Int)), some (tK x)], rfl, ?_, _, rfl⟩
  rw [qbM, qq rfl (qq rfl rfl (tk0 x)) (qaF p (hw x hx))]
  rfl)
 refine vZ rfl ⟨[S, some (.int (zV ks : Nat)), o2], ?_⟩
 refine (qy (ρ' := [S, some (.int 1), none]) rfl).trans ((qy (ρ' := [S, some (.int (zV ks : Nat)), o2]) ?_).trans rfl)
 rw [vY]
 exact q
theorem vq {ks : List Nk} (hw : ∀ x ∈ ks, 0 < x.1) (hl : ks.length <= 12) (hp : zV ks <= Mx) : zG [.tup (ks.map tK)] = .ok (.lst ((qfH ks).map fun i => D.int (i : Nat))) := by
 have hwM : ∀ x ∈ ks, x.1 <= Mx := fun x hx => Nat.le_trans (qdm hw hx) hp
 let S : Option D := some (.tup (ks.map tK))
 let P : Option D := some (.int (zV ks : Nat))
 let L : Option D := some (.lst ((plN ks).map fun i => D.int (i : Nat)))
 unfold zG jn
 refine vZ rfl ⟨[S, P, L], ?_⟩
 refine (qy (ρ' := [S, P, none]) (v3 (qfh rfl (uG hwM)))).trans ?_
 refine (qy (ρ' := [S, P, L]) ?_).trans ?_
 ·refine v3 (i := 2) (ρ := [S, P, none]) (ρ1 := [S, P, none]) (d := .lst ((plN ks).map fun i => D.int (i : Nat))) ?_
  refine qiI (u := fun i : Nat => D.int (i : Nat)) (v := fun i => tK (nAt ks i)) (r := []) (List.range ks.length) (fun i => decide (0 < (nAt ks i).2.1)) (fun i => D.int (i : Nat)) ?_ rfl (by rw [lR_]; omega) (fun i hi => y9 (qq (qq rfl rfl (tk1 _)) rfl (gt0 _))) (fun i _ _ => rfl)
  rw [qeV]
  show (match qeT [D.tup (ks.map tK)] with | some ds => R.ok (ds, [S, P, none]) | none => .bad) = _
  rw [<- qiM]
  rfl
 ·refine yu ?_
  have hks : w6 (d2 jY (d1 qbm (d2 ixD (d2 ixD (dv 2) (dv 0)) (ret (.int 1)))) (d2 v6 (dv 1) (d2 ixD (d2 ixD (dv 2) (dv 0)) (ret (.int 0))))) 3 [.int (zV ks : Nat), .tup (ks.map tK)] ((plN ks).map fun i => D.int (i : Nat)) = some ((plN ks).map (qlx ks)) := by
   refine qbY fun i hi => ?_
   have hi' : i < ks.length := by
    unfold plN at hi
    exact mR_.mp (List.mem_filter.mp hi).1
   have hx := vG hi'
   let ρ : Env := [some (.int (i : Nat)), P, S]
   refine ⟨ρ, ?_⟩
   show (d2 jY (d1 qbm (d2 ixD (d2 ixD (dv 2) (dv 0)) (ret (.int 1)))) (d2 v6 (dv 1) (d2 ixD (d2 ixD (dv 2) (dv 0)) (ret (.int 0))))) ρ = _
   have hq : zV ks / (nAt ks i).1 <= 18000000000000000000 := Nat.le_trans (Nat.div_le_self _ _) hp
   have e1 : d1 qbm (d2 ixD (d2 ixD (dv 2) (dv 0)) (ret (.int 1))) ρ = .ok (.int (-((nAt ks i).2.1 : Int)), ρ) := by
    have e0 : d2 ixD (d2 ixD (dv 2) (dv 0)) (ret (.int 1)) ρ = .ok (.int ((nAt ks i).2.1 : Nat), ρ) := qq (qq rfl rfl (qfl hi')) rfl (tk1 _)
    rw [qmH, e0]
    rfl
   exact qq e1 (qq rfl (qq (qq rfl rfl (qfl hi')) rfl (tk0 _)) (vo _ (hw _ hx) (Nat.lt_of_le_of_lt (hwM _ hx) (by decide)))) (qgz (qiL hq))
  have h64 : ((plN ks).map fun i => D.int (i : Nat)).length < 64 := by
   rw [lM_]
   have := List.length_filter_le (fun i => decide (0 < (nAt ks i).2.1)) (List.range ks.length)
   rw [lR_] at this
   unfold plN
   omega
  have hk := qgx (n := 3) (fr := [1, 0]) (f := dv 2) (g := (d2 jY (d1 qbm (d2 ixD (d2 ixD (dv 2) (dv 0)) (ret (.int 1)))) (d2 v6 (dv 1) (d2 ixD (d2 ixD (dv 2) (dv 0)) (ret (.int 0)))))) (ρ := [S, P, L]) (ρ1 := [S, P, L]) rfl h64 (cs := [.int (zV ks : Nat), .tup (ks.map tK)]) rfl hks
  have hp2 : qdS (Srt.ord ((plN ks).map (qlx ks))) ((plN ks).map fun i => D.int (i : Nat)) = (qfH ks).map fun i => D.int (i : Nat) := by
   refine qfn 0 fun i hi => ?_
   have := (Srt.ord_perm _).mem_iff.mp hi
   rw [lM_] at this
   exact mR_.mp this
  rw [hp2] at hk
  exact hk
theorem qmk (w g m : Nat) : ixD (tK (w, g, some m)) (.int 2) = some (.int (m : Nat)) := rfl
theorem qiR (w g m r : Nat) : d2 ixD (dv 0) (ret (.int 2)) [some (tK (w, g, some m)), some (.int (r : Nat))] = .ok (.int (m : Nat), [some (tK (w, g, some m)), some (.int (r : Nat))]) := qq rfl rfl (qmk w g m)
theorem qlg (w g m r : Nat) : d2 qjZ (d2 ixD (dv 0) (ret (.int 2))) (ret .non) [some (tK (w, g, some m)), some (.int (r : Nat))] = .ok (.bl true, [some (tK (w, g, some m)), some (.int (r : Nat))]) := qq (qiR w g m r) rfl rfl
theorem qhi (w g m r : Nat) (h : w <= Mx) : d2 jY (d2 ixD (dv 0) (ret (.int 2))) (d2 ixD (dv 0) (ret (.int 0))) [some (tK (w, g, some m)), some (.int (r : Nat))] = .ok (.int ((m * w : Nat) : Int), [some (tK (w, g, some m)), some (.int (r : Nat))]) := qq (qiR w g m r) (qq rfl rfl (tk0 (w, g, some m))) (qaF m h)
theorem qml (w g m r : Nat) (h : w <= Mx) : d2 leD (d2 jY (d2 ixD (dv 0) (ret (.int 2))) (d2 ixD (dv 0) (ret (.int 0)))) (dv 1) [some (tK (w, g, some m)), some (.int (r : Nat))] = .ok (.bl (decide (m * w <= r)), [some (tK (w, g, some m)), some (.int (r : Nat))]) := qq (qhi w g m r h) rfl (leN _ _)
theorem qlh (w g m r : Nat) (h : w <= Mx) (hr : m * w <= r) : d2 qcc (dv 1) (d2 jY (d2 ixD (dv 0) (ret (.int 2))) (d2 ixD (dv 0) (ret (.int 0)))) [some (tK (w, g, some m)), some (.int (r : Nat))] = .ok (.int ((r - m * w : Nat) : Int), [some (tK (w, g, some m)), some (.int (r : Nat))]) := by
 refine qq rfl (qhi w g m r h) ?_
 rw [qa9]
 congr 2
 omega
theorem qiS (w g r : Nat) : d2 qjZ (d2 ixD (dv 0) (ret (.int 2))) (ret .non) [some (tK (w, g, none)), some (.int (r : Nat))] = .ok (.bl false, [some (tK (w, g, none)), some (.int (r : Nat))]) := qq (qq rfl rfl (tk2 (w, g, none))) rfl rfl
theorem qmY (w g m r : Nat) : goN (w, g, some m) r = decide (m * w <= r) := rfl
theorem qmm (w g r : Nat) : goN (w, g, none) r = false := rfl
theorem uR {x : Nk} (h : x.1 <= Mx) (r : Nat) : yn [tK x, .int (r : Nat)] = .ok (.bl (goN x r)) := by
 obtain ⟨w, g, m⟩ := x
 unfold yn u0
 cases m with
 | none =>
  rw [qmm]
  exact vZ rfl ⟨[some (tK (w, g, none)), some (.int (r : Nat))], yu (qnz (qiS w g r))⟩
 | some m =>
  rw [qmY]
  exact vZ rfl ⟨[some (tK (w, g, some m)), some (.int (r : Nat))], yu (qny (qlg w g m r) (qml w g m r h))⟩
theorem qhj : Mx < big := by decide
theorem qmn {x : Nk} {r : Nat} (h : goN x r = true) : shN x r = (mN x, 1) := by unfold shN; rw [h]; rfl
theorem qmo {x : Nk} {r : Nat} (h : goN x r = false) : shN x r = (qbn r x.1, qaj r x.1) := by unfold shN; rw [h]; rfl
theorem qmp {x : Nk} {r : Nat} (h : goN x r = true) : bhN x r = r - mN x * x.1 := by unfold bhN; rw [h]; rfl
theorem qmq {x : Nk} {r : Nat} (h : goN x r = false) : bhN x r = 0 := by unfold bhN; rw [h]; rfl
theorem qad {x : Nk} (h0 : 0 < x.1) (h : x.1 <= Mx) (r : Nat) : jN [tK x, .int (r : Nat)] = .ok (fr (shN x r)) := by
 have t := y9 (uO (ρ := [some (tK x), some (.int (r : Nat))]) (f := dv 0) (g := dv 1) rfl rfl (uR h r))
 unfold jN uj
 cases hg : goN x r with
 | true =>
  rw [qmn hg]
  rw [hg] at t
  obtain ⟨w, g, m⟩ := x
  cases m with
  | none => rw [qmm] at hg; cases hg
  | some m => exact vZ rfl ⟨[some (tK (w, g, some m)), some (.int (r : Nat))], yu (qmX t (qmg (qiR w g m r) rfl))⟩
 | false =>
  rw [qmo hg]
  rw [hg] at t
  exact vZ rfl ⟨[some (tK x), some (.int (r : Nat))], yu (qmj t (uO rfl (qq rfl rfl (tk0 x)) (yP r h0 (Nat.lt_of_le_of_lt h qhj))))⟩
theorem v8 {x : Nk} (h : x.1 <= Mx) (r : Nat) : jo [tK x, .int (r : Nat)] = .ok (.int (bhN x r : Nat)) := by
 have t := y9 (uO (ρ := [some (tK x), some (.int (r : Nat))]) (f := dv 0) (g := dv 1) rfl rfl (uR h r))
 unfold jo yU
 cases hg : goN x r with
 | true =>
  rw [qmp hg]
  rw [hg] at t
  obtain ⟨w, g, m⟩ := x
  cases m with
  | none => rw [qmm] at hg; cases hg
  | some m =>
   rw [qmY] at hg
   exact vZ rfl ⟨[some (tK (w, g, some m)), some (.int (r : Nat))], yu (qmX t (qlh w g m r h (of_decide_eq_true hg)))⟩
 | false =>
  rw [qmq hg]
  rw [hg] at t
  exact vZ rfl ⟨[some (tK x), some (.int (r : Nat))], yu (qmj t rfl)⟩
theorem qnA (n : Nat) : (List.replicate n [D.tup [.int 0, .int 1]]).flatten = (List.replicate n ((0 : Nat), (1 : Nat))).map fr := by
 induction n with
 | zero => rfl
 | succ n ih => rw [rS_, List.flatten_cons, ih, rS_]; rfl
theorem qiT (n : Nat) (hn : n <= 12) : qiz (.lst [.tup [.int 0, .int 1]]) (.int (n : Nat)) = some ((List.replicate n ((0 : Nat), (1 : Nat))).map fr) := by
 unfold qiz
 have c0 : (2 : Int) ^ 62 = 4611686018427387904 := by decide
 have c1 : decide (-(2 ^ 62) <= ((n : Nat) : Int)) = true := decide_eq_true (by rw [c0]; omega)
 have c2 : decide (((n : Nat) : Int) < 2 ^ 62) = true := decide_eq_true (by rw [c0]; omega)
 have c3 : qH ([D.tup [.int 0, .int 1]].length * ((n : Nat) : Int).toNat) = true := uX (by rw [Int.toNat_natCast]; simp only [lC_, lN_]; omega)
 have c4 : immL [D.tup [.int 0, .int 1]] = true := rfl
 simp only [c1, c2, c3, c4, Bool.and_self, if_true]
 rw [Int.toNat_natCast, qnA]
theorem qiU {f g : M D} {ρ : Env} {x y : D} {ds : List D} (hf : f ρ = .ok (x, ρ)) (hg : g ρ = .ok (y, ρ)) (e : qiz x y = some ds) : qkT f g ρ = .ok (ds, ρ) := by
 rw [qkV, hf]
 simp only [hg, e]
theorem qiV {i : Nat} {k f : M D} {ρ : Env} {L : List (Nat × Nat)} {q : Nat} {v : Nat × Nat} (hf : f ρ = .ok (fr v, ρ)) (hk : k ρ = .ok (.int (q : Nat), ρ)) (hL : zA i ρ = some (L.map fr)) (hq : q < L.length) : qco i k f ρ = .ok (.nx (ρ.set i (some (.lst ((L.set q v).map fr))))) := by
 have e : ixN (L.map fr).length ((q : Nat) : Int) = some q := by
  unfold ixN
  rw [lM_, if_pos (by omega), if_pos (by omega), Int.toNat_natCast]
 have him : imm (fr v) = true := rfl
 rw [qeN, hf]
 simp only [hL, hk, e, him, if_true, List.map_set]
theorem v9 {ks : List Nk} (hw : ∀ x ∈ ks, 0 < x.1) (hl : ks.length <= 12) (hp : zV ks <= Mx) (r : Nat) : jq [.tup (ks.map tK), .int (r : Nat)] = .ok (.tup ((shs ks r).map fr)) := by
 have hwM : ∀ x ∈ ks, x.1 <= Mx := fun x hx => Nat.le_trans (qdm hw hx) hp
 let S : Option D := some (.tup (ks.map tK))
 let R0 : Option D := some (.int (r : Nat))
 let L0 : List (Nat × Nat) := List.replicate ks.length (0, 1)
 obtain ⟨ρ', q, o4, hlen, rfl⟩ := qaa (G := qD 4) (b := (qQ (qco 2 (dv 4) (qk jN (qa (d2 ixD (dv 0) (dv 4)) (qa (dv 3) (ret []))))) (ji 3 (qk jo (qa (d2 ixD (dv 0) (dv 4)) (qa (dv 3) (ret []))))))) (k := fun i : Nat => D.int (i : Nat)) (step := shS ks) (Inv := fun n s ρ => ∃ o4, s.2.length = ks.length /\ ρ = [S, R0, some (.lst (s.2.map fr)), some (.int (s.1 : Nat)), o4]) (qfH ks) 0 (r, L0) [S, R0, some (.lst (L0.map fr)), R0, none] ⟨none, List.length_replicate, rfl⟩ (fun p hp' n s ρ _ _ => by
  rintro ⟨o4, hs, rfl⟩
  have hpl := (qdl.mp hp').1
  have hx := vG hpl
  let ρ1 : Env := [S, R0, some (.lst (s.2.map fr)), some (.int (s.1 : Nat)), some (.int (p : Nat))]
  let ρ2 : Env := [S, R0, some (.lst ((s.2.set p (shN (nAt ks p) s.1)).map fr)), some (.int (s.1 : Nat)), some (.int (p : Nat))]
  refine ⟨ρ1, [S, R0, some (.lst ((s.2.set p (shN (nAt ks p) s.1)).map fr)), some (.int (bhN (nAt ks p) s.1 : Nat)), some (.int (p : Nat))], rfl, ?_, _, (lS_).trans hs, rfl⟩
  refine (qy (ρ' := ρ2) ?_).trans ?_
  ·exact qiV (ρ := ρ1) (i := 2) (uO (qq rfl rfl (qfl hpl)) rfl (qad (hw _ hx) (hwM _ hx) s.1)) rfl rfl (by rw [hs]; exact hpl)
  ·exact v3 (uO (qq rfl rfl (qfl hpl)) rfl (v8 (hwM _ hx) s.1)))
 unfold jq j4
 refine qdN rfl ⟨[S, R0, some (.lst ((shs ks r).map fr)), some (.int (((qfH ks).foldl (shS ks) (r, L0)).1 : Nat)), o4], ?_⟩
 refine (qy (ρ' := [S, R0, none, none, none]) (ex1 rfl (ya _ (qdk hw hl)))).trans ?_
 refine (qy (ρ' := [S, R0, none, none, none]) (ex1 rfl (y7 _ (qhh r)))).trans ?_
 refine (qy (ρ' := [S, R0, some (.lst (L0.map fr)), none, none]) ?_).trans ?_
 ·have a1 : z0 (qa (ret (.tup [.int 0, .int 1])) (ret [])) [S, R0, none, none, none] = .ok (.lst [.tup [.int 0, .int 1]], [S, R0, none, none, none]) := by push_cast [uX (show 1 <= 1000000 by omega)]
  have a2 : jH qcd (qa (dv 0) (ret [])) [S, R0, none, none, none] = .ok (.int (ks.length : Nat), [S, R0, none, none, none]) := qhc rfl (by
   show some (D.int ((ks.map tK).length : Nat)) = _
   rw [lM_])
  rw [qeM, qiU a1 a2 (qiT ks.length hl)]
  rfl
 refine (qy (ρ' := [S, R0, some (.lst (L0.map fr)), R0, none]) rfl).trans ?_
 refine (qy (ρ' := [S, R0, some (.lst ((shs ks r).map fr)), some (.int (((qfH ks).foldl (shS ks) (r, L0)).1 : Nat)), o4]) ?_).trans ?_
 ·have e0 : qaT (qk zG (qa (dv 0) (ret []))) [S, R0, some (.lst (L0.map fr)), R0, none] = .ok ((qfH ks).map fun i => D.int (i : Nat), [S, R0, some (.lst (L0.map fr)), R0, none]) := by
   rw [qg1, qfh rfl (vq hw hl hp)]
   rfl
  rw [vY, e0]
  exact q
 ·rw [wX, qeO]
  rfl
theorem qgE (ks : List Nk) (l : List (Nat × Nat)) : qcT (ks.map tK) (l.map fr) = (ks.zip l).map fun z => D.tup [tK z.1, fr z.2] := by
 induction ks generalizing l with
 | nil => rfl
 | cons x ks ih =>
  cases l with
  | nil => rfl
  | cons y l => rw [mC_, mC_, List.zip_cons_cons, mC_, <- ih]; rfl
theorem wd {ks : List Nk} (hw : ∀ x ∈ ks, 0 < x.1) (hg : ∀ x ∈ ks, x.2.1 <= Mx) (hl : ks.length <= 12) (hp : zV ks <= Mx) (r : Nat) : j7 [.tup (ks.map tK), .int (r : Nat)] = .ok (qag (swN ks r).1 (swN ks r).2) := by
 have hz := qhf hw r
 let S : Option D := some (.tup (ks.map tK))
 let R0 : Option D := some (.int (r : Nat))
 have main : ∀ (l : List (Nk × Nat × Nat)) (s : Nat × Nat) (o3 o4 : Option D), (∀ z ∈ l, z ∈ ks.zip (shs ks r)) -> 0 < s.2 -> s.2 * zV (l.map (·.1)) <= Mx -> ∃ p3 p4, yL (qfE 2 (ua (qD 3) (ua (qD 4) qfD))) (ji 2 (qk vM (qa (dv 2) (qa (yz (qa (d2 jY (d2 ixD (dv 4) (ret (.int 0))) (d2 ixD (dv 3) (ret (.int 1)))) (qa (d2 ixD (dv 4) (ret (.int 1))) (ret [])))) (ret []))))) (l.map fun z => D.tup [tK z.1, fr z.2]) [S, R0, some (qag s.1 s.2), o3, o4] = .ok (.nx [S, R0, some (qag (l.foldl swS s).1 (l.foldl swS s).2), p3, p4]) := by
  intro l
  induction l with
  | nil => intro s o3 o4 _ _ _; exact ⟨o3, o4, rfl⟩
  | cons z l ih =>
   intro s o3 o4 hm hs hb
   have hzm := hm z mS_
   obtain ⟨z1, z2⟩ := hz z hzm
   have hzk : z.1 ∈ ks := (List.of_mem_zip (show (z.1, z.2) ∈ ks.zip (shs ks r) from hzm)).1
   have hlp : ∀ x ∈ l.map (·.1), 0 < x.1 := fun x hx => by
    obtain ⟨y, hy, rfl⟩ := mP_.mp hx
    exact hw _ (List.of_mem_zip (show (y.1, y.2) ∈ ks.zip (shs ks r) from hm y (mM _ hy))).1
   have hpp := qbZ hlp
   rw [mC_, zN] at hb
   have hb2 : s.2 * z.2.2 * zV (l.map (·.1)) <= Mx := by
    refine Nat.le_trans ?_ hb
    rw [Nat.mul_assoc]
    exact Nat.mul_le_mul_left _ (Nat.mul_le_mul_right _ z2)
   have hsz : s.2 * z.2.2 <= Mx := Nat.le_trans (Nat.le_mul_of_pos_right _ hpp) hb2
   have hs1 : s.2 <= Mx := Nat.le_trans (Nat.le_mul_of_pos_right _ z1) hsz
   have hz3 : z.2.2 <= Mx := Nat.le_trans (Nat.le_mul_of_pos_left _ hs) hsz
   obtain ⟨l1, l2⟩ := qcA s.1 hs
   obtain ⟨p3, p4, e⟩ := ih (swS s z) (some (tK z.1)) (some (fr z.2)) (fun y hy => hm y (mM _ hy)) (Nat.mul_pos hs z1) hb2
   refine ⟨p3, p4, ?_⟩
   rw [mC_, qfi (ρ1 := [S, R0, some (qag s.1 s.2), some (tK z.1), some (fr z.2)]) (ρ2 := [S, R0, some (qag (swS s z).1 (swS s z).2), some (tK z.1), some (fr z.2)]) rfl ?_]
   ·exact e
   ·let ρ1 : Env := [S, R0, some (qag s.1 s.2), some (tK z.1), some (fr z.2)]
    have ea : vM [qag s.1 s.2, frD (z.2.1 * z.1.2.1) z.2.2] = .ok (qag (swS s z).1 (swS s z).2) := by
     have := qdX (t := qbn s.1 s.2) (b := qaj s.1 s.2) (u := z.2.1 * z.1.2.1) (c := z.2.2) hz3 (.inr (Nat.le_trans l2 hs1)) l1 z1 (Nat.lt_of_le_of_lt (Nat.le_trans (Nat.mul_le_mul_right _ l2) hsz) qhj)
     rw [qiO _ _ hs z1] at this
     exact this
    have et : yz (qa (d2 jY (d2 ixD (dv 4) (ret (.int 0))) (d2 ixD (dv 3) (ret (.int 1)))) (qa (d2 ixD (dv 4) (ret (.int 1))) (ret []))) ρ1 = .ok (frD (z.2.1 * z.1.2.1) z.2.2, ρ1) :=
     qmg (qq (qq rfl rfl (qgB _ _)) (qq rfl rfl (tk1 _)) (qaF _ (hg _ hzk))) (qq rfl rfl (qdV _ _))
    exact v3 (ρ := ρ1) (uO rfl et ea)
 obtain ⟨p3, p4, q⟩ := main (ks.zip (shs ks r)) (0, 1) none none (fun _ h => h) Nat.one_pos (by rw [Nat.one_mul, qfq (qfp ks r)]; exact hp)
 unfold j7 j6
 refine qdN rfl ⟨[S, R0, some (qag (swN ks r).1 (swN ks r).2), p3, p4], ?_⟩
 refine (qy (ρ' := [S, R0, some (qag 0 1), none, none]) rfl).trans ((qy (ρ' := [S, R0, some (qag (swN ks r).1 (swN ks r).2), p3, p4]) ?_).trans rfl)
 have e0 : (qkh (qa (dv 0) (qa (vi jq (qa (dv 0) (qa (dv 1) (ret [])))) (ret [])))) [S, R0, some (qag 0 1), none, none] = .ok ((ks.zip (shs ks r)).map fun z => D.tup [tK z.1, fr z.2], [S, R0, some (qag 0 1), none, none]) := by
  rw [qg2, qdU rfl (cp2 rfl rfl (v9 hw hl hp r)), <- qgE]
  rfl
 rw [vY, e0]
 exact q
theorem qmr {ks : List Nk} (hw : ∀ x ∈ ks, 0 < x.1) (hp : zV ks <= Mx) (r : Nat) : 0 < (swN ks r).2 /\ (swN ks r).2 <= Mx := by
 obtain ⟨a1, a2⟩ := qhg (ks.zip (shs ks r)) (0, 1) (qhf hw r) Nat.one_pos
 rw [Nat.one_mul, qfq (qfp ks r)] at a2
 exact ⟨a1, Nat.le_trans a2 hp⟩
theorem wf {ks : List Nk} (hw : ∀ x ∈ ks, 0 < x.1) (hg : ∀ x ∈ ks, x.2.1 <= Mx) (hl : ks.length <= 12) (hp : zV ks <= Mx) (r : Nat) : j9 [.tup (ks.map tK), .int (r : Nat)] = .ok (.int ((swN ks r).1 / (swN ks r).2 : Nat)) := by
 obtain ⟨s1, s2⟩ := qmr hw hp r
 obtain ⟨l1, l2⟩ := qcA (swN ks r).1 s1
 let S : Option D := some (.tup (ks.map tK))
 let R0 : Option D := some (.int (r : Nat))
 unfold j9 j8
 refine qdN rfl ⟨[S, R0, some (qag (swN ks r).1 (swN ks r).2)], ?_⟩
 refine (qy (ρ' := [S, R0, some (qag (swN ks r).1 (swN ks r).2)]) (v3 (ρ1 := [S, R0, none]) (cx2 rfl rfl (wd hw hg hl hp r)))).trans ?_
 ·refine yu ?_
  have := vo (qbn (swN ks r).1 (swN ks r).2) l1 (Nat.lt_of_le_of_lt (Nat.le_trans l2 s2) (by decide))
  rw [qiN _ s1] at this
  exact qq (qq rfl rfl (qgB _ _)) (qq rfl rfl (qdV _ _)) this
def qiW (x : Nk) : Nk := (x.1, x.2.1, x.2.2.map (· - 1))
def vt (x : Nk) : Bool := match x.2.2 with
 | none => true
 | some m => decide (0 < m)
def qft (ks : List Nk) (r : Nat) : Nat := (swN ks r).1 / (swN ks r).2
def qfu (ks : List Nk) (p : Nat) : List Nk := ks.set p (qiW (nAt ks p))
def qjd (ks : List Nk) (p R : Nat) (u : Int) : Bool := vt (nAt ks p) && decide ((nAt ks p).1 <= R) && decide (u <= ((nAt ks p).2.1 : Int) + (qft (qfu ks p) (R - (nAt ks p).1) : Nat))
theorem qfv (ks : List Nk) (p : Nat) (y : Nk) (h : y.1 = (nAt ks p).1) : zV (ks.set p y) = zV ks := by
 induction ks generalizing p with
 | nil => rfl
 | cons x ks ih =>
  cases p with
  | zero =>
   rw [List.set_cons_zero, zN, zN, h]
   rfl
  | succ p =>
   rw [List.set_cons_succ, zN, zN, ih p (by rw [h]; simp [nAt])]
theorem qaH {ks : List Nk} {p : Nat} (hp : p < ks.length) {P : Nat -> Nat -> Prop} (h : ∀ x ∈ ks, P x.1 x.2.1) : ∀ x ∈ qfu ks p, P x.1 x.2.1 := fun x hx => by
 rcases List.mem_or_eq_of_mem_set hx with hx | rfl
 ·exact h x hx
 ·show P (nAt ks p).1 (nAt ks p).2.1
  exact h _ (vG hp)
theorem orF {f g : M D} {ρ : Env} {d : D} (hf : f ρ = .ok (.bl false, ρ)) (hg : g ρ = .ok (d, ρ)) : dor f g ρ = .ok (d, ρ) := by
 rw [qky, hf]
 exact hg
theorem qbg (x : Nk) : jF [tK x] = .ok (.bl (vt x)) := by
 obtain ⟨w, g, m⟩ := x
 unfold jF vN
 cases m with
 | none => exact vZ rfl ⟨[some (tK (w, g, none))], rfl⟩
 | some m =>
  have e1 : d2 ixD (dv 0) (ret (.int 2)) [some (tK (w, g, some m))] = .ok (.int (m : Nat), [some (tK (w, g, some m))]) := qq rfl rfl (qmk w g m)
  have e2 : d2 isN (d2 ixD (dv 0) (ret (.int 2))) (ret .non) [some (tK (w, g, some m))] = .ok (.bl false, [some (tK (w, g, some m))]) := qq e1 rfl rfl
  have e3 : d2 gtD (d2 ixD (dv 0) (ret (.int 2))) (ret (.int 0)) [some (tK (w, g, some m))] = .ok (.bl (decide (0 < m)), [some (tK (w, g, some m))]) := qq e1 rfl (gt0 m)
  exact vZ rfl ⟨[some (tK (w, g, some m))], yu (orF e2 e3)⟩
theorem qal (x : Nk) (h : vt x = true) : yp [tK x, .int 1] = .ok (mD ((qiW x).2.2.map fun m : Nat => (m : Int))) := by
 obtain ⟨w, g, m⟩ := x
 unfold yp u5
 cases m with
 | none => exact vZ rfl ⟨[some (tK (w, g, none)), some (.int 1)], rfl⟩
 | some m =>
  have hm : 0 < m := of_decide_eq_true h
  have e1 : d2 ixD (dv 0) (ret (.int 2)) [some (tK (w, g, some m)), some (.int 1)] = .ok (.int (m : Nat), [some (tK (w, g, some m)), some (.int 1)]) := qq rfl rfl (qmk w g m)
  have e2 : tst (d2 isN (d2 ixD (dv 0) (ret (.int 2))) (ret .non)) [some (tK (w, g, some m)), some (.int 1)] = .ok (false, [some (tK (w, g, some m)), some (.int 1)]) := y9 (qq e1 rfl rfl)
  have e3 : qcc (.int (m : Nat)) (.int 1) = some (.int ((m - 1 : Nat) : Int)) := by
   rw [qa9]
   congr 2
   omega
  exact vZ rfl ⟨[some (tK (w, g, some m)), some (.int 1)], yu (qmj e2 (qq e1 rfl e3))⟩
theorem qam (x : Nk) (m : Option Nat) : jE [tK x, mD (m.map fun m : Nat => (m : Int))] = .ok (tK (x.1, x.2.1, m)) := by
 unfold jE u4
 exact vZ rfl ⟨[some (tK x), some (mD (m.map fun m : Nat => (m : Int)))], yu (qnu (qq rfl rfl (tk0 x)) (qq rfl rfl (tk1 x)) rfl)⟩
theorem qfw {α : Type} (xs : List α) (p : Nat) (y : α) (h : p < xs.length) : xs.take p ++ [y] ++ xs.drop (p + 1) = xs.set p y := by
 rw [List.set_eq_take_append_cons_drop, if_pos h, aA_]
 rfl
theorem qan {ks : List Nk} {p : Nat} (hp : p < ks.length) (hl : ks.length <= 12) (y : Nk) : yo [.tup (ks.map tK), .int (p : Nat), tK y] = .ok (.tup ((ks.set p y).map tK)) := by
 unfold yo u3
 let ρ : Env := [some (.tup (ks.map tK)), some (.int (p : Nat)), some (tK y)]
 have l0 : (ks.map tK).length = ks.length := lM_ _
 have c1 : qcS (ks.map tK) none (some ((p : Nat) : Int)) = (ks.map tK).take p := qgC _ p (by omega)
 have c2 : qcS (ks.map tK) (some (((p + 1 : Nat) : Int))) none = (ks.map tK).drop (p + 1) := qgD _ (p + 1) (by omega)
 have a1 : qiy (dv 0) (ret none) (qbH (dv 1)) ρ = .ok (.tup ((ks.map tK).take p), ρ) := by
  rw [<- c1]
  rfl
 have a2 : qiy (dv 0) (qbH (d2 uv (dv 1) (ret (.int 1)))) (ret none) ρ = .ok (.tup ((ks.map tK).drop (p + 1)), ρ) := by
  rw [<- c2]
  rfl
 have a3 : yz (qa (dv 2) (ret [])) ρ = .ok (.tup [tK y], ρ) := by
  rw [qcW, qfg rfl]
  rfl
 have z1 : ((ks.map tK).take p).length + [tK y].length <= 1000000 := by
  rw [List.length_take, l0]
  simp only [lC_, lN_]
  omega
 have z2 : ((ks.map tK).take p ++ [tK y]).length + ((ks.map tK).drop (p + 1)).length <= 1000000 := by
  rw [lA_, List.length_take, List.length_drop, l0]
  simp only [lC_, lN_]
  omega
 have a4 := qq (qq a1 a3 (qdj z1)) a2 (qdj z2)
 rw [qfw _ _ _ (by rw [l0]; exact hp), <- List.map_set] at a4
 exact vZ rfl ⟨ρ, yu a4⟩
theorem qiX (i j : Int) : geD (.int i) (.int j) = some (.bl (decide (j <= i))) := rfl
theorem gtN (a b : Nat) : gtD (.int (a : Nat)) (.int (b : Nat)) = some (.bl (!decide (a <= b))) := by
 rw [w8]
 congr 2
 rw [<- decide_not, decide_eq_decide]
 omega
theorem qao {ks : List Nk} (hw : ∀ x ∈ ks, 0 < x.1) (hg : ∀ x ∈ ks, x.2.1 <= Mx) (hl : ks.length <= 12) (hp : zV ks <= Mx) {p : Nat} (hpl : p < ks.length) (R : Nat) (u : Int) : yW [.tup (ks.map tK), .int (p : Nat), .int (R : Nat), .int u] = .ok (.bl (qjd ks p R u)) := by
 let x := nAt ks p
 let A : Option D := some (.tup (ks.map tK))
 let B : Option D := some (.int (p : Nat))
 let C : Option D := some (.int (R : Nat))
 let U : Option D := some (.int u)
 have hx := vG hpl
 unfold yW yV
 let ρ1 : Env := [A, B, C, U, some (tK x), none]
 have s1 : ji 4 (d2 ixD (dv 0) (dv 1)) [A, B, C, U, none, none] = .ok (.nx ρ1) := v3 (qq rfl rfl (qfl hpl))
 have t1 : tst (qk jF (qa (dv 4) (ret []))) ρ1 = .ok (vt x, ρ1) := y9 (qfh rfl (qbg x))
 have t2 : tst (d2 gtD (d2 ixD (dv 4) (ret (.int 0))) (dv 2)) ρ1 = .ok (!decide (x.1 <= R), ρ1) := y9 (qq (qq rfl rfl (tk0 x)) rfl (gtN _ _))
 by_cases hc : vt x = true /\ x.1 <= R
 ·obtain ⟨h1, h2⟩ := hc
  have tt : tor (qbA (tst (qk jF (qa (dv 4) (ret []))))) (tst (d2 gtD (d2 ixD (dv 4) (ret (.int 0))) (dv 2))) ρ1 = .ok (false, ρ1) := by
   rw [h1] at t1
   rw [decide_eq_true h2] at t2
   refine qmW ?_ t2
   rw [qbL, t1]
   rfl
  let lt := qfu ks p
  let ρ2 : Env := [A, B, C, U, some (tK x), some (.tup (lt.map tK))]
  have s3 : ji 5 (qk yo (qa (dv 0) (qa (dv 1) (qa (qk jE (qa (dv 4) (qa (qk yp (qa (dv 4) (qa (ret (.int 1)) (ret [])))) (ret [])))) (ret []))))) ρ1 = .ok (.nx ρ2) :=
   v3 (qld rfl rfl (uO rfl (uO rfl rfl (qal x h1)) (qam x _)) (qan hpl hl (qiW x)))
  have hwL : ∀ y ∈ lt, 0 < y.1 := qaH (P := fun a _ => 0 < a) hpl hw
  have hgL : ∀ y ∈ lt, y.2.1 <= Mx := qaH (P := fun _ b => b <= Mx) hpl hg
  have hlL : lt.length <= 12 := by show (ks.set p _).length <= 12; rw [lS_]; exact hl
  have hpL : zV lt <= Mx := by
   have : zV lt = zV ks := qfv ks p _ rfl
   rw [this]; exact hp
  have e4 : qcc (.int (R : Nat)) (.int (x.1 : Nat)) = some (.int ((R - x.1 : Nat) : Int)) := by
   rw [qa9]
   congr 2
   omega
  have s4 := qq (F := geD) (qq (F := uv) (qq (F := ixD) (f := dv 4) (g := ret (.int 1)) (ρ := ρ2) rfl rfl (tk1 x)) (cx2 (f := dv 5) (ρ := ρ2) rfl (qq (F := qcc) (f := dv 2) (g := d2 ixD (dv 4) (ret (.int 0))) rfl (qq rfl rfl (tk0 x)) e4) (wf hwL hgL hlL hpL (R - x.1))) (uB _ _)) (g := dv 3) rfl (qiX _ _)
  have em : qjd ks p R u = decide (u <= (x.2.1 : Int) + (qft lt (R - x.1) : Nat)) := by
   show (vt x && decide (x.1 <= R) && decide (u <= (x.2.1 : Int) + (qft lt (R - x.1) : Nat))) = _
   rw [h1, decide_eq_true h2]
   rfl
  rw [em]
  refine qdN rfl ⟨ρ2, ?_⟩
  refine (qy s1).trans ((qy (ρ' := ρ1) (qmV tt)).trans ((qy s3).trans (yu s4)))
 ·have tt : tor (qbA (tst (qk jF (qa (dv 4) (ret []))))) (tst (d2 gtD (d2 ixD (dv 4) (ret (.int 0))) (dv 2))) ρ1 = .ok (true, ρ1) := by
   cases h1 : vt x with
   | false =>
    rw [h1] at t1
    refine qnx ?_
    rw [qbL, t1]
    rfl
   | true =>
    rw [h1] at t1
    have h2 : ¬ x.1 <= R := fun z => hc ⟨h1, z⟩
    rw [decide_eq_false h2] at t2
    rw [qeK, qbL, t1]
    exact t2
  have em : qjd ks p R u = false := by
   show (vt x && decide (x.1 <= R) && _) = false
   cases h1 : vt x with
   | false => rfl
   | true =>
    have h2 : ¬ x.1 <= R := fun z => hc ⟨h1, z⟩
    rw [decide_eq_false h2]
    rfl
  rw [em]
  refine qdN rfl ⟨ρ1, ?_⟩
  exact (qy s1).trans (qaD (qmh tt))
theorem cp4 {F : List D -> R D} {f g h k : M D} {ρ : Env} {a b c z d : D} (hf : f ρ = .ok (a, ρ)) (hg : g ρ = .ok (b, ρ)) (hh : h ρ = .ok (c, ρ)) (hk : k ρ = .ok (z, ρ)) (e : F [a, b, c, z] = .ok d) : vi F (qa f (qa g (qa h (qa k (ret []))))) ρ = .ok (d, ρ) := by
 have a4 : qa f (qa g (qa h (qa k (ret [])))) ρ = .ok ([a, b, c, z], ρ) := by
  rw [jS, hf]
  simp only [qk7 hg hh hk]
 rw [qa3, a4]
 simp only [e]
theorem qbh {ks : List Nk} (hw : ∀ x ∈ ks, 0 < x.1) (hg : ∀ x ∈ ks, x.2.1 <= Mx) (hl : ks.length <= 12) (hp : zV ks <= Mx) (R : Nat) (u : Int) : zw [.tup (ks.map tK), .int (R : Nat), .int u] = .ok (.lst (((List.range ks.length).filter fun p => !qjd ks p R u).map fun p => D.int (p : Nat))) := by
 let A : Option D := some (.tup (ks.map tK))
 let C : Option D := some (.int (R : Nat))
 let U : Option D := some (.int u)
 unfold zw yh
 refine qdN rfl ⟨[A, C, U], ?_⟩
 refine (qy (ρ' := [A, C, U]) (ex1 rfl (ya _ (qdk hw hl)))).trans ?_
 refine (qy (ρ' := [A, C, U]) (ex1 rfl (y7 _ (qhh R)))).trans ?_
 refine (qy (ρ' := [A, C, U]) (ex1 rfl (qbf _ rfl))).trans (yu ?_)
 refine qk6 (k := fun p : Nat => D.int (p : Nat)) (r := [A, C, U]) (List.range ks.length) (fun p => !qjd ks p R u) (fun p => D.int (p : Nat)) ?_ rfl (by rw [lR_]; omega) (fun p hp' => ?_) (fun p _ _ => rfl)
 ·have e : qa (jH qcd (qa (dv 0) (ret []))) (ret []) [A, C, U] = .ok ([.int ((ks.length : Nat) : Int)], [A, C, U]) := qfg (qhc rfl (by
   show some (D.int ((ks.map tK).length : Nat)) = _
   rw [lM_]))
  rw [wx (j := ((ks.length : Nat) : Int)) e (by omega) (by omega), Int.toNat_natCast, qnv]
 ·have t := y9 (cp4 (f := dv 1) (g := dv 0) (h := dv 2) (k := dv 3) (ρ := [some (D.int (p : Nat)), A, C, U]) rfl rfl rfl rfl (qao hw hg hl hp (mR_.mp hp') R u))
  rw [qbL, t]
theorem vP {n m : Int} (h0 : 0 < m) (h1 : m < 1606938044258990275541962092341162602522202993782792835301376) : qr [.int n] [.int m] = .ok (.int (n % m), [.int (n / m)]) := by
 unfold qr
 refine qeQ (ρ := [some (.lst [.int (n / m)]), some (.int m), some (.int (n / m)), some (.int (n % m))]) rfl ?_ rfl
 unfold yZ
 refine (qy (ρ' := [some (.lst [.int n]), some (.int m), some (.int (n / m)), some (.int (n % m))]) ?_).trans ?_
 ·push_cast [at0, qfe h0 h1, qfE, ua, qD, qfD, Option.bind_some]
 ·refine (qy (ρ' := [some (.lst [.int (n / m)]), some (.int m), some (.int (n / m)), some (.int (n % m))]) ?_).trans rfl
  push_cast [qnt, imm]
theorem qdn {i : Int} (h0 : 0 <= i) (h1 : i < 3000000000) : jW i = true := by
 unfold jW
 rw [Bool.and_eq_true, decide_eq_true_eq, decide_eq_true_eq]
 constructor <;> omega
theorem qdo (A B : Option D) (x : Int) : ∀ (ds : List D) (s : Int) (o o' : Option D), (∀ d ∈ ds, ∃ j : Int, d = .int j) -> ∃ s' o1 o2, yL (qD 4) (qQ (ji 5 (d2 qat (d2 uv (d2 uv (d2 jY (d2 qat (dv 2) (ret (.int 2147483647))) (ret (.int 48271))) (d2 jY (ret (.int 7919)) (dv 4))) (ret (.int 1))) (ret (.int 2147483647)))) (qQ (ji 5 (d2 qat (d2 jY (dv 5) (dv 5)) (ret (.int 2147483629)))) (ji 3 (d2 uv (d2 jY (dv 3) (ret (.int 2147483647))) (d2 qat (d2 jY (dv 5) (d2 uv (dv 5) (ret (.int 13)))) (ret (.int 2147483647))))))) ds [A, B, some (.int x), some (.int s), o, o'] = .ok (.nx [A, B, some (.int x), some (.int s'), o1, o2])
 | [], s, o, o', _ => ⟨s, o, o', rfl⟩
 | d :: ds, s, o, o', h => by
  obtain ⟨j, rfl⟩ := h d mS_
  let p : Int := (x % 2147483647 * 48271 + 7919 * j + 1) % 2147483647
  let q : Int := p * p % 2147483629
  have f48 : jW 48271 = true := by decide
  have f79 : jW 7919 = true := by decide
  have f21 : jW 2147483647 = true := by decide
  have fp : jW p = true := qdn (Int.emod_nonneg _ (by omega)) (by have := Int.emod_lt_of_pos (x % 2147483647 * 48271 + 7919 * j + 1) (show (0 : Int) < 2147483647 by omega); simp only [p]; omega)
  have fq : jW q = true := qdn (Int.emod_nonneg _ (by omega)) (by have := Int.emod_lt_of_pos (p * p) (show (0 : Int) < 2147483629 by omega); simp only [q]; omega)
  obtain ⟨s', o1, o2, e⟩ := qdo A B x ds (s * 2147483647 + q * (q + 13) % 2147483647) (some (.int j)) (some (.int q)) fun y hy => h y (mM _ hy)
  refine ⟨s', o1, o2, ?_⟩
  have st : (qQ (ji 5 (d2 qat (d2 uv (d2 uv (d2 jY (d2 qat (dv 2) (ret (.int 2147483647))) (ret (.int 48271))) (d2 jY (ret (.int 7919)) (dv 4))) (ret (.int 1))) (ret (.int 2147483647)))) (qQ (ji 5 (d2 qat (d2 jY (dv 5) (dv 5)) (ret (.int 2147483629)))) (ji 3 (d2 uv (d2 jY (dv 3) (ret (.int 2147483647))) (d2 qat (d2 jY (dv 5) (d2 uv (dv 5) (ret (.int 13)))) (ret (.int 2147483647))))))) [A, B, some (.int x), some (.int s), some (.int j), o'] = .ok (.nx [A, B, some (.int x), some (.int (s * 2147483647 + q * (q + 13) % 2147483647)), some (.int j), some (.int q)]) := by
   refine (qy (ρ' := [A, B, some (.int x), some (.int s), some (.int j), some (.int p)]) ?_).trans ?_
   ·push_cast [uC (j := 2147483647) (by decide), qgz f48, qff f79, uB, p]
   refine (qy (ρ' := [A, B, some (.int x), some (.int s), some (.int j), some (.int q)]) ?_).trans ?_
   ·push_cast [qff fp, uC (j := 2147483629) (by decide), q]
   ·push_cast [qgz f21, uB, qff fq, uC (j := 2147483647) (by decide)]
  unfold yL
  simp only [qD, List.set_cons_zero, List.set_cons_succ, st]
  exact e
theorem qli (ns : List Int) (i : Int) (h0 : 0 <= i) : ∃ n, jh [.fz ns, .int i] = .ok (.lst [.int n]) := by
 have f79 : jW 7919 = true := by decide
 have s1 : ∃ x, (sif (tst (d2 ltD (dv 1) (jH qcd (qa (dv 0) (ret []))))) (ji 2 (d2 ixD (dv 0) (dv 1))) uK) [some (.fz ns), some (.int i), some (.int (7919 * i + 13)), none, none, none] = .ok (.nx [some (.fz ns), some (.int i), some (.int x), none, none, none]) := by
  by_cases h : i < ns.length
  ·obtain ⟨j, rfl⟩ := Int.eq_ofNat_of_zero_le h0
   have hj : j < ns.length := by omega
   have e : ixD (.fz ns) (.int (j : Int)) = some (.int ns[j]) := by
    show (atI ns (j : Int)).map D.int = _
    rw [qk9 (gG hj)]; rfl
   refine ⟨ns[j], ?_⟩
   push_cast [e, qcd, h]
  ·refine ⟨7919 * i + 13, ?_⟩
   push_cast [qcd, h]
 obtain ⟨x, e1⟩ := s1
 have s0 : (ji 2 (d2 uv (d2 jY (ret (.int 7919)) (dv 1)) (ret (.int 13)))) [some (.fz ns), some (.int i), none, none, none, none] = .ok (.nx [some (.fz ns), some (.int i), some (.int (7919 * i + 13)), none, none, none]) := by
  push_cast [qff f79, uB]
 by_cases hx : x % 2 = 0
 ·refine ⟨x / 2, ?_⟩
  unfold jh uE
  refine vZ rfl ⟨[some (.fz ns), some (.int i), some (.int x), none, none, none], ?_⟩
  refine (qy s0).trans ((qy e1).trans (qaD ?_))
  push_cast [uC (j := 2) (by decide), hx, qbV (j := 2) (by decide) (by decide), uX (show 1 <= 1000000 by omega)]
 ·obtain ⟨s', o1, o2, q⟩ := qdo (some (.fz ns)) (some (.int i)) x (qaU 0 16) 0 none none fun d hd => by
   unfold qaU at hd
   obtain ⟨k, hk, rfl⟩ := mP_.mp hd
   exact ⟨_, rfl⟩
  refine ⟨s', ?_⟩
  unfold jh uE
  refine vZ rfl ⟨[some (.fz ns), some (.int i), some (.int x), some (.int s'), o1, o2], ?_⟩
  refine (qy s0).trans ((qy e1).trans ?_)
  refine (qy (ρ' := [some (.fz ns), some (.int i), some (.int x), none, none, none]) ?_).trans ?_
  ·push_cast [uC (j := 2) (by decide), hx]
  refine (qy (ρ' := [some (.fz ns), some (.int i), some (.int x), some (.int 0), none, none]) ?_).trans ?_
  ·push_cast []
  refine (qy (ρ' := [some (.fz ns), some (.int i), some (.int x), some (.int s'), o1, o2]) ?_).trans ?_
  ·rw [vY, wx (j := 16) (ρ1 := [some (.fz ns), some (.int i), some (.int x), some (.int 0), none, none]) rfl (by omega) (by omega)]
   exact q
  ·push_cast [uX (show 1 <= 1000000 by omega)]
theorem qiY {p : MS} {g : M D} {n i : Nat} {ρ ρ' : Env} (h : p ρ = .ok (.nx ρ')) : w5 RN n i p g ρ = .ok (.nx ρ') := by rw [qe1, h]
theorem qlj {p : MS} {g : M D} {n i : Nat} {ρ ρ' ρ2 : Env} {d v : D} {x : Str} (h : p ρ = .exc ⟨x, v⟩ ρ') (hn : RN.contains x = true) (hg : g ((List.replicate n none).set i (some (.exc x))) = .ok (d, ρ2)) : w5 RN n i p g ρ = .ok (.rt d ρ') := by
 rw [qe1, h]
 simp only [hn, if_true, hg]
theorem qfx {F : List D -> R D} {l : M (List D)} {ρ ρ2 : Env} {ds : List D} {x : Str} {v : D} (hl : l ρ = .ok (ds, ρ)) (h : F ds = .exc ⟨x, v⟩ ρ2) (hn : RN.contains x = true) : yr (zS RN F l) ρ = .exc ⟨x, v⟩ ρ := by
 rw [qaX, vj, hl]
 simp only [h, hn, if_true]
theorem qdp {F : List D -> R D} {l : M (List D)} {ρ : Env} {ds : List D} {d : D} (hl : l ρ = .ok (ds, ρ)) (h : F ds = .ok d) : yr (zS RN F l) ρ = .ok (.nx ρ) := by
 rw [qaX, vj, hl]
 simp only [h]
def yb : List D := [.non, .lst [.tup [.int 1, .int 1, .int 1]], .tup [.int 1, .int 1, .int 1], .tup [.tup [.int 0, .int 1, .int 1]], .tup [.tup [.int 1, .int (-1), .int 1]], .tup [.tup [.int 1, .int 1, .int (-1)]], .tup [.tup [.int 1, .int 1]], .tup [.tup [.bl true, .int 1, .int 1]], .tup [.tup [.int 1, .int 1, .str "1"]], .tup [.tup [.int 1, .int 1, .int 1], .tup [.int 1, .int 1, .int 1], .tup [.int 1, .int 1, .int 1], .tup [.int 1, .int 1, .int 1], .tup [.int 1, .int 1, .int 1], .tup [.int 1, .int 1, .int 1], .tup [.int 1, .int 1, .int 1], .tup [.int 1, .int 1, .int 1], .tup [.int 1, .int 1, .int 1], .tup [.int 1, .int 1, .int 1], .tup [.int 1, .int 1, .int 1], .tup [.int 1, .int 1, .int 1], .tup [.int 1, .int 1, .int 1]], .str "1/1*1", .int 5, .dic [], .tup [.tup [.int 1, .non, .int 1]], .tup [.non], .tup [.tup [.int 1, .int 1, .bl true]]]
theorem qb4 (n : Int) : ∃ d ∈ yb, qR [.int n] [] = .ok (d, [.int (n / 16)]) := by
 obtain ⟨d, hd, e⟩ := qhb (ds := yb) (k := n % 16) (by omega) (by have : yb.length = 16 := rfl; omega)
 refine ⟨d, hd, ?_⟩
 ·unfold qR
  refine qeQ (ρ := [some (.lst [.int (n / 16)]), some (.lst yb)]) rfl ?_ rfl
  unfold jr
  refine (qy (ρ' := [some (.lst [.int n]), some (.lst [.non, .lst [.tup [.int 1, .int 1, .int 1]], .tup [.int 1, .int 1, .int 1], .tup [.tup [.int 0, .int 1, .int 1]], .tup [.tup [.int 1, .int (-1), .int 1]], .tup [.tup [.int 1, .int 1, .int (-1)]], .tup [.tup [.int 1, .int 1]], .tup [.tup [.bl true, .int 1, .int 1]]])]) rfl).trans ((qy (ρ' := [some (.lst [.int n]), some (.lst yb)]) rfl).trans ?_)
  have e1 : qC qr 0 (qa (ret (.int 16)) (ret [])) [some (.lst [.int n]), some (.lst yb)] = .ok (.int (n % 16), [some (.lst [.int (n / 16)]), some (.lst yb)]) := by
   rw [io1 (a := .int 16) rfl rfl (vP (m := 16) (by decide) (by decide))]
   rfl
  rw [wX, qkv]
  simp only [qmG, List.getElem?_cons_zero, List.getElem?_cons_succ, e1, e]
def lsK (x : Kd) : Prop := 1 <= x.1 /\ x.1 <= 9 /\ 0 <= x.2.1 /\ x.2.1 <= 9 /\ ∀ j, x.2.2 = some j -> 0 <= j /\ j <= 5
theorem lsK.ok {x : Kd} (h : lsK x) : okK x := ⟨by have := h.1; omega, h.2.2.1, fun j e => (h.2.2.2.2 j e).1⟩
theorem qiZ (n : Int) (M : Option D) (ks : List Kd) (hk : ∀ k ∈ ks, lsK k) (hl : ks.length < 12) (o3 o4 o5 : Option D) : ∃ n' k p4 p5, lsK k /\ (qQ (qja 4 5 (qa (d2 uv (ret (.int 1)) (qC qr 0 (qa (ret (.int 9)) (ret [])))) (qa (qC qr 0 (qa (ret (.int 10)) (ret []))) (ret [])))) (yr (yT 2 (yz (qa (dv 4) (qa (dv 5) (qa (d2 ixD (z0 (qa (ret .non) (qa (ret (.int 0)) (qa (ret (.int 1)) (qa (ret (.int 1)) (qa (ret (.int 2)) (qa (ret (.int 3)) (qa (ret (.int 5)) (ret []))))))))) (qC qr 0 (qa (ret (.int 7)) (ret [])))) (ret [])))))))) [some (.lst [.int n]), M, some (.lst (ks.map kD)), o3, o4, o5] = .ok (.nx [some (.lst [.int n']), M, some (.lst ((ks ++ [k]).map kD)), o3, p4, p5]) := by
 let n1 := n / 9
 let n2 := n1 / 10
 obtain ⟨m, hm, em⟩ := qhb (ds := [.non, .int 0, .int 1, .int 1, .int 2, .int 3, .int 5]) (k := n2 % 7) (by omega) (by simp; omega)
 have hm2 : ∃ y : Option Int, m = mD y /\ ∀ j, y = some j -> 0 <= j /\ j <= 5 := by
  simp only [List.mem_cons, nN_, or_false] at hm
  rcases hm with rfl | rfl | rfl | rfl | rfl | rfl | rfl
  ·exact ⟨none, rfl, fun j e => by cases e⟩
  ·exact ⟨some 0, rfl, fun j e => by cases e; omega⟩
  ·exact ⟨some 1, rfl, fun j e => by cases e; omega⟩
  ·exact ⟨some 1, rfl, fun j e => by cases e; omega⟩
  ·exact ⟨some 2, rfl, fun j e => by cases e; omega⟩
  ·exact ⟨some 3, rfl, fun j e => by cases e; omega⟩
  ·exact ⟨some 5, rfl, fun j e => by cases e; omega⟩
 obtain ⟨y, rfl, hy⟩ := hm2
 refine ⟨n2 / 7, (1 + n % 9, n1 % 10, y), some (.int (1 + n % 9)), some (.int (n1 % 10)), ⟨by show 1 <= 1 + n % 9; omega, by show 1 + n % 9 <= 9; omega, by show 0 <= n1 % 10; omega, by show n1 % 10 <= 9; omega, hy⟩, ?_⟩
 refine (qy (ρ' := [some (.lst [.int n2]), M, some (.lst (ks.map kD)), o3, some (.int (1 + n % 9)), some (.int (n1 % 10))]) ?_).trans ?_
 ·push_cast [vP (m := 9) (by decide) (by decide), vP (m := 10) (by decide) (by decide), uB, n1, n2]
 ·push_cast [uX (show 7 <= 1000000 by omega), vP (m := 7) (by decide) (by decide), em, uX (show 3 <= 1000000 by omega), imm, immL, qk8, Bool.and_self, lM_, uX (show ks.length + 1 <= 1000000 by omega), List.map_append]
  rfl
theorem qfy (M : Option D) : ∀ (ds : List D) (n : Int) (ks : List Kd) (o3 o4 o5 : Option D), (∀ k ∈ ks, lsK k) -> ks.length + ds.length <= 12 ->
  ∃ (n' : Int) (ks' : List Kd) (p3 p4 p5 : Option D), yL (qD 3) (qQ (qja 4 5 (qa (d2 uv (ret (.int 1)) (qC qr 0 (qa (ret (.int 9)) (ret [])))) (qa (qC qr 0 (qa (ret (.int 10)) (ret []))) (ret [])))) (yr (yT 2 (yz (qa (dv 4) (qa (dv 5) (qa (d2 ixD (z0 (qa (ret .non) (qa (ret (.int 0)) (qa (ret (.int 1)) (qa (ret (.int 1)) (qa (ret (.int 2)) (qa (ret (.int 3)) (qa (ret (.int 5)) (ret []))))))))) (qC qr 0 (qa (ret (.int 7)) (ret [])))) (ret [])))))))) ds [some (.lst [.int n]), M, some (.lst (ks.map kD)), o3, o4, o5] = .ok (.nx [some (.lst [.int n']), M, some (.lst (ks'.map kD)), p3, p4, p5]) /\ (∀ k ∈ ks', lsK k) /\ ks'.length = ks.length + ds.length
 | [], n, ks, o3, o4, o5, h, hl => ⟨n, ks, o3, o4, o5, rfl, h, rfl⟩
 | d :: ds, n, ks, o3, o4, o5, h, hl => by
  have hl' : ks.length + (ds.length + 1) <= 12 := hl
  obtain ⟨n1, k, p4, p5, gk, e⟩ := qiZ n M ks h (by omega) (some d) o4 o5
  obtain ⟨n', ks', q3, q4, q5, q, g, l⟩ := qfy M ds n1 (ks ++ [k]) (some d) p4 p5 (fun x hx => (mA_.mp hx).elim (h x) fun hx => by
   rw [List.mem_singleton] at hx; subst hx; exact gk) (by rw [lA_, List.length_singleton]; omega)
  refine ⟨n', ks', q3, q4, q5, ?_, g, by rw [l, lA_, List.length_singleton, lC_]; omega⟩
  unfold yL
  simp only [qD, List.set_cons_zero, List.set_cons_succ, e]
  exact q
theorem qb5 (n m : Int) (h0 : 0 <= m) (h1 : m <= 12) : ∃ (n' : Int) (ks : List Kd), (∀ k ∈ ks, lsK k) /\ (ks.length : Int) <= m /\ zK [.int n] [.int m] = .ok (.tup (ks.map kD), [.int n']) := by
 have b1 : 0 <= n % (m + 1) := Int.emod_nonneg _ (by omega)
 have b2 : n % (m + 1) < m + 1 := Int.emod_lt_of_pos _ (by omega)
 obtain ⟨n', ks, p3, p4, p5, q, hk, hl⟩ := qfy (some (.int m)) (qaU 0 (n % (m + 1)).toNat) (n / (m + 1)) [] none none none (fun _ h => by cases h) (by rw [qdi]; simp; omega)
 rw [qdi] at hl
 refine ⟨n', ks, hk, by rw [hl]; simp; omega, ?_⟩
 unfold zK
 refine qeQ (ρ := [some (.lst [.int n']), some (.int m), some (.lst (ks.map kD)), p3, p4, p5]) rfl ?_ rfl
 unfold yx
 refine (qy (ρ' := [some (.lst [.int n]), some (.int m), some (.lst []), none, none, none]) ?_).trans ?_
 ·push_cast [immL, uX (show 0 <= 1000000 by omega), Bool.and_self]
 refine (qy (ρ' := [some (.lst [.int n']), some (.int m), some (.lst (ks.map kD)), p3, p4, p5]) ?_).trans ?_
 ·rw [vY, wx (j := n % (m + 1)) (ρ1 := [some (.lst [.int (n / (m + 1))]), some (.int m), some (.lst []), none, none, none]) ?_ b1 (by omega)]
  ·exact q
  ·push_cast [uB, vP (m := m + 1) (by omega) (by omega)]
 ·push_cast []
theorem rNN : RN.contains "NoNumber" = true := by decide
def one (p : Int) : D := .lst [.int p]
theorem qnB : (jL 1 [4] none (yK (qa (ret (.int 9)) (ret []))) (qD 0) (tst (qk u7 (qa (dv 1) (qa (dv 0) (ret []))))) (dv 0)) [none, none, none, none, some (.exc "NoNumber")] = .ok (one 1, [none, none, none, none, some (.exc "NoNumber")]) := by kernel_rfl
section
variable {s a b v : D} {x : Str}
theorem qfz (hs : yC s = true) (h : zU a = false) : ∃ ρ, zw [s, a, b] = .exc ⟨"NoNumber", .non⟩ ρ :=
 ⟨_, qc9 (n := 3) (p := 3) (body := yh) rfl ((qy (qdp rfl (ya s hs))).trans (qg7 (qfx rfl (qb2 a h) rNN)))⟩
theorem qi0 (hs : yC s = true) (h1 : zU a = true) (h : w9 b = false) : ∃ ρ, zw [s, a, b] = .exc ⟨"NoNumber", .non⟩ ρ :=
 ⟨_, qc9 (n := 3) (p := 3) (body := yh) rfl ((qy (qdp rfl (ya s hs))).trans ((qy (qdp rfl (y7 a h1))).trans (qg7 (qfx rfl (qb3 b h) rNN))))⟩
theorem qfA (h : ∃ ρ, zw [s, a, b] = .exc ⟨"NoNumber", .non⟩ ρ) : qh [.int 0, s, a, b] = .ok (one 1) := by
 obtain ⟨ρ, h⟩ := h
 unfold qh
 refine vZ rfl ⟨[some (.int 0), some s, some a, some b, none], ?_⟩
 unfold yY
 refine qaD (qlj (x := "NoNumber") (v := .non) (d := one 1) (ρ' := [some (.int 0), some s, some a, some b, none]) ?_ rNN qnB)
 exact (qmh rfl).trans (qfx rfl h rNN)
theorem qi1 {d : D} (h : zw [s, a, b] = .ok d) : qh [.int 0, s, a, b] = .ok (.lst []) := by
 unfold qh
 refine vZ rfl ⟨[some (.int 0), some s, some a, some b, none], ?_⟩
 unfold yY
 refine (qy (qiY (ρ' := [some (.int 0), some s, some a, some b, none]) ?_)).trans rfl
 exact (qmh rfl).trans (qdp rfl h)
end
def qlk : List D := [.bl true, .non, .str "3", .tup [.int 3], .lst [.int 3], .dic []]
theorem qi2 {d : D} (h : d ∈ qlk) : zU d = false /\ w9 d = false := by
 simp only [qlk, List.mem_cons, nN_, or_false] at h
 rcases h with h | h | h | h | h | h <;> (subst h; exact ⟨rfl, rfl⟩)
theorem qll (S I B o4 o5 : Option D) {d : D} (h : d ∈ yb) : (sif (tst (d2 neB (jL 1 [3] none (yK (qa (ret (.int 4)) (ret []))) (qD 0) (ret true) (qk qh (qa (dv 0) (qa (dv 1) (qa (ret .non) (qa (ret .non) (ret []))))))) (d2 jY (z0 (qa (z0 (qa (ret (.int 0)) (ret []))) (ret []))) (ret (.int 4))))) (z4 (ret (.bl false))) uK) [S, I, B, some d, o4, o5] = .ok (.nx [S, I, B, some d, o4, o5]) := by
 simp only [yb, List.mem_cons, nN_, or_false] at h
 rcases h with h | h | h | h | h | h | h | h | h | h | h | h | h | h | h | h <;> (subst h; kernel_rfl)
theorem qdq {F : List D -> R D} {f g h k : M D} {ρ ρ1 : Env} {a b c z d : D} (hf : f ρ = .ok (a, ρ)) (hg : g ρ = .ok (b, ρ)) (hh : h ρ = .ok (c, ρ1)) (hk : k ρ1 = .ok (z, ρ1)) (e : F [a, b, c, z] = .ok d) : qk F (qa f (qa g (qa h (qa k (ret []))))) ρ = .ok (d, ρ1) := by
 have a4 : qa f (qa g (qa h (qa k (ret [])))) ρ = .ok ([a, b, c, z], ρ1) := by
  rw [jS, hf]
  simp only [jS, hg, hh, hk, qh9]
 rw [vh, a4]
 simp only [e]
theorem qb6 : ∀ ks : List Kd, (∀ k ∈ ks, lsK k) -> ∃ ns : List Nk, ks.map kD = ns.map tK /\ ns.length = ks.length /\ ∀ x ∈ ns, 0 < x.1 /\ x.1 <= 9 /\ x.2.1 <= 9
 | [], _ => ⟨[], rfl, rfl, fun x hx => by cases hx⟩
 | k :: ks, h => by
  obtain ⟨ns, e1, e2, e3⟩ := qb6 ks fun x hx => h x (mM _ hx)
  obtain ⟨w, g, m⟩ := k
  obtain ⟨h1, h2, h3, h4, h5⟩ := h (w, g, m) mS_
  have h1 : 1 <= w := h1
  have h2 : w <= 9 := h2
  have h3 : 0 <= g := h3
  have h4 : g <= 9 := h4
  refine ⟨(w.toNat, g.toNat, m.map Int.toNat) :: ns, ?_, by rw [lC_, lC_, e2], fun x hx => ?_⟩
  ·rw [mC_, mC_, e1]
   congr 1
   show D.tup [.int w, .int g, mD m] = D.tup [.int (w.toNat : Nat), .int (g.toNat : Nat), mD ((m.map Int.toNat).map fun m : Nat => (m : Int))]
   have a1 : ((w.toNat : Nat) : Int) = w := Int.toNat_of_nonneg (by omega)
   have a2 : ((g.toNat : Nat) : Int) = g := Int.toNat_of_nonneg (by omega)
   rw [a1, a2]
   cases m with
   | none => rfl
   | some j =>
    have a3 : ((j.toNat : Nat) : Int) = j := Int.toNat_of_nonneg (h5 j rfl).1
    show D.tup [.int w, .int g, .int j] = D.tup [.int w, .int g, .int (j.toNat : Nat)]
    rw [a3]
  ·rcases List.mem_cons.mp hx with rfl | hx
   ·exact ⟨by show 0 < w.toNat; omega, by show w.toNat <= 9; omega, by show g.toNat <= 9; omega⟩
   ·exact e3 x hx
theorem qfB : ∀ (ks : List Nk) (n : Nat), (∀ x ∈ ks, x.1 <= 9) -> ks.length <= n -> zV ks <= 9 ^ n
 | [], n, _, _ => Nat.one_le_pow n 9 (by decide)
 | x :: ks, n, h, hl => by
  rw [lC_] at hl
  obtain ⟨m, rfl⟩ : ∃ m, n = m + 1 := ⟨n - 1, by omega⟩
  rw [zN, Nat.pow_succ, Nat.mul_comm]
  exact Nat.mul_le_mul (qfB ks m (fun y hy => h y (mM _ hy)) (by omega)) (h x mS_)
theorem qgF (ns : List Int) (i : Int) (h0 : 0 <= i) (r : Env) (hr : r.length = 4) : ∃ r', r'.length = 4 /\ (qQ (v7 2 (qbK jh (qa (dv 0) (qa (dv 1) (ret []))))) (qQ (ji 3 (qC qR 2 (ret []))) (qQ (sif (tst (d2 neB (jL 1 [3] none (yK (qa (ret (.int 4)) (ret []))) (qD 0) (ret true) (qk qh (qa (dv 0) (qa (dv 1) (qa (ret .non) (qa (ret .non) (ret []))))))) (d2 jY (z0 (qa (z0 (qa (ret (.int 0)) (ret []))) (ret []))) (ret (.int 4))))) (z4 (ret (.bl false))) uK) (qQ (ji 4 (qC zK 2 (qa (ret (.int 5)) (ret [])))) (qQ (qcn (qaT (z0 (qa (ret (.bl true)) (qa (ret .non) (qa (ret (.str "3")) (qa (yz (qa (ret (.int 3)) (ret []))) (qa (z0 (qa (ret (.int 3)) (ret []))) (qa (ret (.dic [])) (ret []))))))))) (qD 5) (sif (tor (tst (d2 neB (qk qh (qa (ret (.int 0)) (qa (dv 4) (qa (dv 5) (qa (ret (.int 3)) (ret [])))))) (z0 (qa (ret (.int 1)) (ret []))))) (tst (d2 neB (qk qh (qa (ret (.int 0)) (qa (dv 4) (qa (ret (.int 3)) (qa (dv 5) (ret [])))))) (z0 (qa (ret (.int 1)) (ret [])))))) (z4 (ret (.bl false))) uK)) (sif (tor (tst (d2 neB (qk qh (qa (ret (.int 0)) (qa (dv 4) (qa (d2 qcc (d1 qbm (ret (.int 1))) (qC qr 2 (qa (ret (.int 9)) (ret [])))) (qa (ret (.int 3)) (ret [])))))) (z0 (qa (ret (.int 1)) (ret []))))) (tst (d2 neB (qk qh (qa (ret (.int 0)) (qa (dv 4) (qa (ret (.int 3)) (qa (ret (.int 3)) (ret [])))))) (z0 (ret []))))) (z4 (ret (.bl false))) uK)))))) ([some (.fz ns), some (.int i)] ++ r) = .ok (.nx ([some (.fz ns), some (.int i)] ++ r')) := by
 match r, hr with
 | [o2, o3, o4, o5], _ =>
  obtain ⟨n, eb⟩ := qli ns i h0
  obtain ⟨bad, hbad, e1⟩ := qb4 n
  obtain ⟨n2, ks, hk, hkl, e2⟩ := qb5 (n / 16) 5 (by omega) (by omega)
  obtain ⟨zs, z1, z2, z3⟩ := qb6 ks hk
  have hs : yC (.tup (ks.map kD)) = true := qaE (fun x hx => (hk x hx).ok) (by omega)
  let S : Option D := some (.fz ns)
  let I : Option D := some (.int i)
  let T : D := .tup (ks.map kD)
  let B : Option D := some (.lst [.int n2])
  have step : ∀ d ∈ qlk, (sif (tor (tst (d2 neB (qk qh (qa (ret (.int 0)) (qa (dv 4) (qa (dv 5) (qa (ret (.int 3)) (ret [])))))) (z0 (qa (ret (.int 1)) (ret []))))) (tst (d2 neB (qk qh (qa (ret (.int 0)) (qa (dv 4) (qa (ret (.int 3)) (qa (dv 5) (ret [])))))) (z0 (qa (ret (.int 1)) (ret [])))))) (z4 (ret (.bl false))) uK) ([S, I, B, some bad, some T, o5].set 5 (some d)) = .ok (.nx ([S, I, B, some bad, some T, o5].set 5 (some d))) := fun d hd => by
   obtain ⟨c1, c2⟩ := qi2 hd
   have f1 := qdq (F := qh) (f := ret (.int 0)) (g := dv 4) (h := dv 5) (k := ret (.int 3)) (ρ := [S, I, B, some bad, some T, some d]) rfl rfl rfl rfl (qfA (qfz (b := .int 3) hs c1))
   have f2 := qdq (F := qh) (f := ret (.int 0)) (g := dv 4) (h := ret (.int 3)) (k := dv 5) (ρ := [S, I, B, some bad, some T, some d]) rfl rfl rfl rfl (qfA (qi0 (a := .int 3) hs rfl c2))
   exact qmV (qmW (y9 (qq (b := .lst [.int 1]) f1 rfl (by kernel_rfl))) (y9 (qq (b := .lst [.int 1]) f2 rfl (by kernel_rfl))))
  obtain ⟨p5, eq5⟩ := qbX (b := (sif (tor (tst (d2 neB (qk qh (qa (ret (.int 0)) (qa (dv 4) (qa (dv 5) (qa (ret (.int 3)) (ret [])))))) (z0 (qa (ret (.int 1)) (ret []))))) (tst (d2 neB (qk qh (qa (ret (.int 0)) (qa (dv 4) (qa (ret (.int 3)) (qa (dv 5) (ret [])))))) (z0 (qa (ret (.int 1)) (ret [])))))) (z4 (ret (.bl false))) uK)) (i := 5) (ρ := [S, I, B, some bad, some T, o5]) (by simp) qlk o5 step
  let B3 : Option D := some (.lst [.int (n2 / 9)])
  refine ⟨[B3, some bad, some T, p5], rfl, ?_⟩
  show (qQ (v7 2 (qbK jh (qa (dv 0) (qa (dv 1) (ret []))))) (qQ (ji 3 (qC qR 2 (ret []))) (qQ (sif (tst (d2 neB (jL 1 [3] none (yK (qa (ret (.int 4)) (ret []))) (qD 0) (ret true) (qk qh (qa (dv 0) (qa (dv 1) (qa (ret .non) (qa (ret .non) (ret []))))))) (d2 jY (z0 (qa (z0 (qa (ret (.int 0)) (ret []))) (ret []))) (ret (.int 4))))) (z4 (ret (.bl false))) uK) (qQ (ji 4 (qC zK 2 (qa (ret (.int 5)) (ret [])))) (qQ (qcn (qaT (z0 (qa (ret (.bl true)) (qa (ret .non) (qa (ret (.str "3")) (qa (yz (qa (ret (.int 3)) (ret []))) (qa (z0 (qa (ret (.int 3)) (ret []))) (qa (ret (.dic [])) (ret []))))))))) (qD 5) (sif (tor (tst (d2 neB (qk qh (qa (ret (.int 0)) (qa (dv 4) (qa (dv 5) (qa (ret (.int 3)) (ret [])))))) (z0 (qa (ret (.int 1)) (ret []))))) (tst (d2 neB (qk qh (qa (ret (.int 0)) (qa (dv 4) (qa (ret (.int 3)) (qa (dv 5) (ret [])))))) (z0 (qa (ret (.int 1)) (ret [])))))) (z4 (ret (.bl false))) uK)) (sif (tor (tst (d2 neB (qk qh (qa (ret (.int 0)) (qa (dv 4) (qa (d2 qcc (d1 qbm (ret (.int 1))) (qC qr 2 (qa (ret (.int 9)) (ret [])))) (qa (ret (.int 3)) (ret [])))))) (z0 (qa (ret (.int 1)) (ret []))))) (tst (d2 neB (qk qh (qa (ret (.int 0)) (qa (dv 4) (qa (ret (.int 3)) (qa (ret (.int 3)) (ret [])))))) (z0 (ret []))))) (z4 (ret (.bl false))) uK)))))) [S, I, o2, o3, o4, o5] = _
  refine (qy (ρ' := [S, I, some (.lst [.int n]), o3, o4, o5]) ?_).trans ?_
  ·push_cast [S, I, eb, immFs, immF, immL, imm, Bool.and_self]
  refine (qy (ρ' := [S, I, some (.lst [.int (n / 16)]), some bad, o4, o5]) ?_).trans ?_
  ·push_cast [e1]
  refine (qy (qll S I _ _ _ hbad)).trans ?_
  refine (qy (ρ' := [S, I, B, some bad, some T, o5]) ?_).trans ?_
  ·exact v3 (io1 (a := .int 5) rfl rfl e2)
  refine (qy (ρ' := [S, I, B, some bad, some T, p5]) ?_).trans ?_
  ·have e : (qaT (z0 (qa (ret (.bl true)) (qa (ret .non) (qa (ret (.str "3")) (qa (yz (qa (ret (.int 3)) (ret []))) (qa (z0 (qa (ret (.int 3)) (ret []))) (qa (ret (.dic [])) (ret []))))))))) [S, I, B, some bad, some T, o5] = .ok (qlk, [S, I, B, some bad, some T, o5]) := rfl
   rw [vY, e]
   exact eq5
  ·have et : qC qr 2 (qa (ret (.int 9)) (ret [])) [S, I, B, some bad, some T, p5] = .ok (.int (n2 % 9), [S, I, B3, some bad, some T, p5]) := by
    rw [io1 (a := .int 9) rfl rfl (vP (m := 9) (by decide) (by decide))]
    rfl
   have em : d2 qcc (d1 qbm (ret (.int 1))) (qC qr 2 (qa (ret (.int 9)) (ret []))) [S, I, B, some bad, some T, p5] = .ok (.int (-1 - n2 % 9), [S, I, B3, some bad, some T, p5]) := by
    have e0 : d1 qbm (ret (.int 1)) [S, I, B, some bad, some T, p5] = .ok (.int (-1), [S, I, B, some bad, some T, p5]) := rfl
    rw [qkv, e0]
    simp only [et]
    rfl
   have c1 : zU (.int (-1 - n2 % 9)) = false := decide_eq_false (by omega)
   have f1 := qdq (F := qh) (f := ret (.int 0)) (g := dv 4) (k := ret (.int 3)) rfl rfl em rfl (qfA (qfz (b := .int 3) hs c1))
   have hz : zw [T, .int ((3 : Nat) : Int), .int 3] = .ok (.lst (((List.range zs.length).filter fun p => !qjd zs p 3 3).map fun p => D.int (p : Nat))) := by
    show zw [.tup (ks.map kD), _, _] = _
    rw [z1]
    have hlz : zs.length <= 5 := by omega
    exact qbh (fun x hx => (z3 x hx).1) (fun x hx => Nat.le_trans (z3 x hx).2.2 (by decide)) (by omega) (Nat.le_trans (qfB zs 5 (fun x hx => (z3 x hx).2.1) hlz) (by decide)) 3 3
   have f2 := qdq (F := qh) (f := ret (.int 0)) (g := dv 4) (h := ret (.int 3)) (k := ret (.int 3)) (ρ := [S, I, B3, some bad, some T, p5]) rfl rfl rfl rfl (qi1 hz)
   have t1 : tst (d2 neB (qk qh (qa (ret (.int 0)) (qa (dv 4) (qa (d2 qcc (d1 qbm (ret (.int 1))) (qC qr 2 (qa (ret (.int 9)) (ret [])))) (qa (ret (.int 3)) (ret [])))))) (z0 (qa (ret (.int 1)) (ret [])))) [S, I, B, some bad, some T, p5] = .ok (false, [S, I, B3, some bad, some T, p5]) := by
    have e0 : z0 (qa (ret (.int 1)) (ret [])) [S, I, B3, some bad, some T, p5] = .ok (.lst [.int 1], [S, I, B3, some bad, some T, p5]) := rfl
    have e9 : neB (one 1) (.lst [.int 1]) = some (.bl false) := by kernel_rfl
    rw [qia, qkv, f1]
    simp only [e0, e9, vX]
   have t2 := y9 (b := false) (qq (F := neB) (g := z0 (ret [])) (b := .lst []) f2 rfl (by kernel_rfl))
   have tt := (qeK (t := tst (d2 neB (qk qh (qa (ret (.int 0)) (qa (dv 4) (qa (d2 qcc (d1 qbm (ret (.int 1))) (qC qr 2 (qa (ret (.int 9)) (ret [])))) (qa (ret (.int 3)) (ret [])))))) (z0 (qa (ret (.int 1)) (ret []))))) (u := tst (d2 neB (qk qh (qa (ret (.int 0)) (qa (dv 4) (qa (ret (.int 3)) (qa (ret (.int 3)) (ret [])))))) (z0 (ret [])))) (ρ := [S, I, B, some bad, some T, p5]))
   rw [t1] at tt
   have tt2 := tt.trans (show _ = R.ok (false, [S, I, B3, some bad, some T, p5]) from t2)
   rw [qge, tt2]
   rfl
theorem qdr (ns : List Int) : ∀ (ds : List D) (o1 : Option D) (r : Env), r.length = 4 -> (∀ d ∈ ds, ∃ i : Int, d = .int i /\ 0 <= i) -> ∃ ρ, yL (qD 1) (qQ (v7 2 (qbK jh (qa (dv 0) (qa (dv 1) (ret []))))) (qQ (ji 3 (qC qR 2 (ret []))) (qQ (sif (tst (d2 neB (jL 1 [3] none (yK (qa (ret (.int 4)) (ret []))) (qD 0) (ret true) (qk qh (qa (dv 0) (qa (dv 1) (qa (ret .non) (qa (ret .non) (ret []))))))) (d2 jY (z0 (qa (z0 (qa (ret (.int 0)) (ret []))) (ret []))) (ret (.int 4))))) (z4 (ret (.bl false))) uK) (qQ (ji 4 (qC zK 2 (qa (ret (.int 5)) (ret [])))) (qQ (qcn (qaT (z0 (qa (ret (.bl true)) (qa (ret .non) (qa (ret (.str "3")) (qa (yz (qa (ret (.int 3)) (ret []))) (qa (z0 (qa (ret (.int 3)) (ret []))) (qa (ret (.dic [])) (ret []))))))))) (qD 5) (sif (tor (tst (d2 neB (qk qh (qa (ret (.int 0)) (qa (dv 4) (qa (dv 5) (qa (ret (.int 3)) (ret [])))))) (z0 (qa (ret (.int 1)) (ret []))))) (tst (d2 neB (qk qh (qa (ret (.int 0)) (qa (dv 4) (qa (ret (.int 3)) (qa (dv 5) (ret [])))))) (z0 (qa (ret (.int 1)) (ret [])))))) (z4 (ret (.bl false))) uK)) (sif (tor (tst (d2 neB (qk qh (qa (ret (.int 0)) (qa (dv 4) (qa (d2 qcc (d1 qbm (ret (.int 1))) (qC qr 2 (qa (ret (.int 9)) (ret [])))) (qa (ret (.int 3)) (ret [])))))) (z0 (qa (ret (.int 1)) (ret []))))) (tst (d2 neB (qk qh (qa (ret (.int 0)) (qa (dv 4) (qa (ret (.int 3)) (qa (ret (.int 3)) (ret [])))))) (z0 (ret []))))) (z4 (ret (.bl false))) uK)))))) ds ([some (.fz ns), o1] ++ r) = .ok (.nx ρ)
 | [], o1, r, _, _ => ⟨_, rfl⟩
 | d :: ds, o1, r, hr, h => by
  obtain ⟨i, rfl, h0⟩ := h d mS_
  obtain ⟨r', hr', e⟩ := qgF ns i h0 r hr
  obtain ⟨ρ, q⟩ := qdr ns ds (some (.int i)) r' hr' fun y hy => h y (mM _ hy)
  refine ⟨ρ, ?_⟩
  unfold yL
  simp only [qD, List.cons_append, List.nil_append, List.set_cons_zero, List.set_cons_succ] at e |-
  simp only [e]
  exact q
theorem law_true (ns : List Int) (hn : ns.length <= 63) : qcC [.fz ns] = .ok (.bl true) := by
 let j : Int := if (if (4 : Int) < (ns.length : Int) then (4 : Int) else (ns.length : Int)) > 1 then (if (4 : Int) < (ns.length : Int) then (4 : Int) else (ns.length : Int)) else 1
 have hj0 : 0 <= j := by simp only [j]; split <;> split <;> omega
 have hj1 : j <= 6 := by simp only [j]; split <;> split <;> omega
 obtain ⟨ρ, q⟩ := qdr ns (qaU 0 j.toNat) none [none, none, none, none] rfl fun d hd => by
  unfold qaU at hd
  obtain ⟨k, hk, rfl⟩ := mP_.mp hd
  exact ⟨_, rfl, by omega⟩
 unfold qcC
 refine vZ rfl ⟨ρ, ?_⟩
 unfold qiP
 refine (qy (ρ' := ρ) ?_).trans rfl
 rw [vY, wx (j := j) (ρ1 := [some (.fz ns), none, none, none, none, none]) ?_ hj0 (by omega)]
 ·exact q
 ·rfl
section
variable {P : Program} {w : World} {K : PySem.W.Frag} {mg : Str -> Option Value} {base : Heap}
set_option maxHeartbeats 4000000
theorem zy : qp ["store", "product", "kind"] ["store"] (qe qP) := ⟨rfl, rfl, rfl, by decide +kernel, rfl, by decide +kernel, by decide +kernel⟩
abbrev Q0 (P : Program) (w : World) (K : Fr0) (mg : Str -> Option Value) (base : Heap) : Prop := zb P w K mg base 1 "weights_product" ["store"] (spD K zR)
theorem q0 {f : Addr} {fd : FuncData} (F : Fun K "weights_product" "weights_product" qP f fd) (m : mg "weights_product" = some (.ref f)) (T : Txt K mg) (XTt : XT K mg RN TN) (hB : K.In base) : Q0 P w K mg base := by
 refine ⟨f, fd, ?_, m, F.kp, F.binds fun _ _ _ _ _ _ us hl => match us, hl with | [_], _ => rfl⟩
 exact qV (N := ["store", "product", "kind"]) (O := []) (body := jC) F zy (by decide) fun cdv A outer s H E B hr => (qg (zf (i := 1) zy.nd qi)
   (qg (ve PassesOwn.never rfl (uI (qd 0)) (qJ (i := 2) zy.nd) (qj (zf (i := 1) zy.nd (qz zT zd (qd 1) (qE qu qt (qd 2) (gI T.c_WEIGHT))))))
   (qj (qA (qd 1)))))
theorem jT : qp ["store", "product", "places"] ["store"] (qe qG) := ⟨rfl, rfl, rfl, by decide +kernel, rfl, by decide +kernel, by decide +kernel⟩
abbrev Q1 (P : Program) (w : World) (K : Fr0) (mg : Str -> Option Value) (base : Heap) : Prop := zb P w K mg base 2 "dearest_first" ["store"] (spD K zG)
theorem q1 {f : Addr} {fd : FuncData} (F : Fun K "dearest_first" "dearest_first" qG f fd) (m : mg "dearest_first" = some (.ref f)) (T : Txt K mg) (XTt : XT K mg RN TN) (hB : K.In base) {c0 Pt : Addr} (hcc : fd.code = .ref c0) (hch : PySem.W.codeHdIn K c0 Pt = true) (hlm : qah K = some (c0, Pt, ⟨84, 30, 84, 100⟩)) (C_weights_product : Q0 P w K mg base) : Q1 P w K mg base := by
 refine ⟨f, fd, ?_, m, F.kp, F.binds fun _ _ _ _ _ _ us hl => match us, hl with | [_], _ => rfl⟩
 show ub P w K mg base CX0 2 f fd ["store"] (spD K (dfn (["store", "product", "places"] : List Str).length (["store"] : List Str).length jn))
 refine qgy (N := ["store", "product", "places"]) (ps := ["store"]) (k := 1) (O := []) (body := jn) F jT ?a ?b
 case a => decide
 intro A outer s H E B hr
 exact (qg (zf (i := 1) jT.nd (dC C_weights_product hr (qc (qd 0) qf)))
   (qg (qeX (i := 2) jT.nd (qeW (fo := none) rfl (qeU rfl T.b_enumerate (qc (qd 0) qf)) (cs ["store", "product", "places"] ["place", "kind"] 2 [] (qe qG)) (f0 [] []) (fun _ _ _ _ _ _ _ _ _ _ _ => ⟨(qcN (n := 2) rfl (yt (qJ (i := 0) (nd ["place", "kind"])) (yt (qJ (i := 1) (nd ["place", "kind"])) qaP))), (qaw (jb qeb qbD (qE qu qt (qd 1) (gI T.c_WORTH)) qi (qK _))), (qd 0)⟩)) rfl (cs ["store", "product", "places"] ["place", "kind"] 2 [] (qe qG)))
   (qj (qA (qgw (N' := ["place", "product", "store"]) (fr := [1, 0]) (qd 2) (cs ["store", "product", "places"] ["place", "product", "store"] 1 [1, 0] (qe qG)) (f0 (nt := 0) [1, 0] []) hr rfl T.b_sorted hcc hch hlm (fun _ _ _ _ _ _ => (qz zT zd (qcV (qE qu qt (qE qu qt (qd 2) (qd 0)) (gI T.c_WORTH))) (qz wB vc (qd 1) (qE qu qt (qE qu qt (qd 2) (qd 0)) (gI T.c_WEIGHT))))))))))
theorem qb7 : qp ["kind", "room"] ["kind", "room"] (qe jw) := ⟨rfl, rfl, rfl, by decide +kernel, rfl, by decide +kernel, by decide +kernel⟩
abbrev Q2 (P : Program) (w : World) (K : Fr0) (mg : Str -> Option Value) (base : Heap) : Prop := zb P w K mg base 1 "all_go_in" ["kind", "room"] (spD K yn)
theorem q2 {f : Addr} {fd : FuncData} (F : Fun K "all_go_in" "all_go_in" jw f fd) (m : mg "all_go_in" = some (.ref f)) (T : Txt K mg) (XTt : XT K mg RN TN) (hB : K.In base) : Q2 P w K mg base := by
 refine ⟨f, fd, ?_, m, F.kp, F.binds fun _ _ _ _ _ _ us hl => match us, hl with | [_, _], _ => rfl⟩
 exact qV (N := ["kind", "room"]) (O := []) (body := u0) F qb7 (by decide) fun cdv A outer s H E B hr => (qj (qA (wK (jV qhr qfX (qE qu qt (qd 0) (gI T.c_MOST)) yi (qK _)) (vb (jV qjH qgT (qz zT zd (qE qu qt (qd 0) (gI T.c_MOST)) (qE qu qt (qd 0) (gI T.c_WEIGHT))) (qd 1) (qK _))))))
theorem qap : qp ["kind", "room"] ["kind", "room"] (qe zP) := ⟨rfl, rfl, rfl, by decide +kernel, rfl, by decide +kernel, by decide +kernel⟩
abbrev Q3 (P : Program) (w : World) (K : Fr0) (mg : Str -> Option Value) (base : Heap) : Prop := zb P w K mg base 2 "room_behind" ["kind", "room"] (spD K jo)
theorem q3 {f : Addr} {fd : FuncData} (F : Fun K "room_behind" "room_behind" zP f fd) (m : mg "room_behind" = some (.ref f)) (T : Txt K mg) (XTt : XT K mg RN TN) (hB : K.In base) (C_all_go_in : Q2 P w K mg base) : Q3 P w K mg base := by
 refine ⟨f, fd, ?_, m, F.kp, F.binds fun _ _ _ _ _ _ us hl => match us, hl with | [_, _], _ => rfl⟩
 exact qV (N := ["kind", "room"]) (O := []) (body := yU) F qap (by decide) fun cdv A outer s H E B hr => (qj (qA (qhI (jt (dC C_all_go_in hr (qc (qd 0) (qc (qd 1) qf)))) (qz qcK qaQ (qd 1) (qz zT zd (qE qu qt (qd 0) (gI T.c_MOST)) (qE qu qt (qd 0) (gI T.c_WEIGHT)))) qi)))
theorem zt : qp ["one", "other", "rest"] ["one", "other"] (qe qM) := ⟨rfl, rfl, rfl, by decide +kernel, rfl, by decide +kernel, by decide +kernel⟩
abbrev Q4 (P : Program) (w : World) (K : Fr0) (mg : Str -> Option Value) (base : Heap) : Prop := zb P w K mg base 1 "greatest_divisor" ["one", "other"] (spD K zx)
theorem q4 {f : Addr} {fd : FuncData} (F : Fun K "greatest_divisor" "greatest_divisor" qM f fd) (m : mg "greatest_divisor" = some (.ref f)) (T : Txt K mg) (XTt : XT K mg RN TN) (hB : K.In base) : Q4 P w K mg base := by
 refine ⟨f, fd, ?_, m, F.kp, F.binds fun _ _ _ _ _ _ us hl => match us, hl with | [_, _], _ => rfl⟩
 exact qV (N := ["one", "other", "rest"]) (O := []) (body := jp) F zt (by decide) fun cdv A outer s H E B hr => (qg (qgf PassesOwn.never (jb qeb qbD (qd 1) qi (qK _)) (qg (zf (i := 2) zt.nd (qz qaq vx (qd 0) (qd 1)))
   (qg (zf (i := 0) zt.nd (qd 1))
   (qj (zf (i := 1) zt.nd (qd 2))))))
   (qj (qA (qd 0))))
theorem ur : qp ["top", "bottom", "divisor"] ["top", "bottom"] (qe zu) := ⟨rfl, rfl, rfl, by decide +kernel, rfl, by decide +kernel, by decide +kernel⟩
abbrev Q5 (P : Program) (w : World) (K : Fr0) (mg : Str -> Option Value) (base : Heap) : Prop := zb P w K mg base 2 "lowest_terms" ["top", "bottom"] (spD K zW)
theorem q5 {f : Addr} {fd : FuncData} (F : Fun K "lowest_terms" "lowest_terms" zu f fd) (m : mg "lowest_terms" = some (.ref f)) (T : Txt K mg) (XTt : XT K mg RN TN) (hB : K.In base) (C_greatest_divisor : Q4 P w K mg base) : Q5 P w K mg base := by
 refine ⟨f, fd, ?_, m, F.kp, F.binds fun _ _ _ _ _ _ us hl => match us, hl with | [_, _], _ => rfl⟩
 exact qV (N := ["top", "bottom", "divisor"]) (O := []) (body := yD) F ur (by decide) fun cdv A outer s H E B hr => (qg (zf (i := 2) ur.nd (dC C_greatest_divisor hr (qc (qd 0) (qc (qd 1) qf))))
   (qj (qA (qW (qc (qz wB vc (qd 0) (qd 2)) (qc (qz wB vc (qd 1) (qd 2)) qf))))))
theorem qbi : qp ["kind", "room"] ["kind", "room"] (qe jd) := ⟨rfl, rfl, rfl, by decide +kernel, rfl, by decide +kernel, by decide +kernel⟩
abbrev Q6 (P : Program) (w : World) (K : Fr0) (mg : Str -> Option Value) (base : Heap) : Prop := zb P w K mg base 3 "best_share" ["kind", "room"] (spD K jN)
theorem q6 {f : Addr} {fd : FuncData} (F : Fun K "best_share" "best_share" jd f fd) (m : mg "best_share" = some (.ref f)) (T : Txt K mg) (XTt : XT K mg RN TN) (hB : K.In base) (C_all_go_in : Q2 P w K mg base) (C_lowest_terms : Q5 P w K mg base) : Q6 P w K mg base := by
 refine ⟨f, fd, ?_, m, F.kp, F.binds fun _ _ _ _ _ _ us hl => match us, hl with | [_, _], _ => rfl⟩
 exact qV (N := ["kind", "room"]) (O := []) (body := uj) F qbi (by decide) fun cdv A outer s H E B hr => (qj (qA (qhI (jt (dC C_all_go_in hr (qc (qd 0) (qc (qd 1) qf)))) (qW (qc (qE qu qt (qd 0) (gI T.c_MOST)) (qc qi qf))) (dC C_lowest_terms hr (qc (qd 1) (qc (qE qu qt (qd 0) (gI T.c_WEIGHT)) qf))))))
theorem qcD : qp ["thing"] ["thing"] (qe yd) := ⟨rfl, rfl, rfl, by decide +kernel, rfl, by decide +kernel, by decide +kernel⟩
abbrev Q7 (P : Program) (w : World) (K : Fr0) (mg : Str -> Option Value) (base : Heap) : Prop := zb P w K mg base 1 "is_whole" ["thing"] (spD K yO)
theorem q7 {f : Addr} {fd : FuncData} (F : Fun K "is_whole" "is_whole" yd f fd) (m : mg "is_whole" = some (.ref f)) (T : Txt K mg) (XTt : XT K mg RN TN) (hB : K.In base) : Q7 P w K mg base := by
 refine ⟨f, fd, ?_, m, F.kp, F.binds fun _ _ _ _ _ _ us hl => match us, hl with | [_], _ => rfl⟩
 exact qV (N := ["thing"]) (O := []) (body := vJ) F qcD (by decide) fun cdv A outer s H E B hr => (qj (qA (wK (qcP qhQ rfl T.b_isinstance rfl T.b_int qks (qd 0) qx) (vb (qgQ (qcP qf1 rfl T.b_isinstance rfl T.b_bool qh7 (qd 0) qx))))))
theorem qcE : qp ["thing"] ["thing"] (qe ye) := ⟨rfl, rfl, rfl, by decide +kernel, rfl, by decide +kernel, by decide +kernel⟩
abbrev Q8 (P : Program) (w : World) (K : Fr0) (mg : Str -> Option Value) (base : Heap) : Prop := zb P w K mg base 2 "is_count" ["thing"] (spD K jD)
theorem q8 {f : Addr} {fd : FuncData} (F : Fun K "is_count" "is_count" ye f fd) (m : mg "is_count" = some (.ref f)) (T : Txt K mg) (XTt : XT K mg RN TN) (hB : K.In base) (C_is_whole : Q7 P w K mg base) : Q8 P w K mg base := by
 refine ⟨f, fd, ?_, m, F.kp, F.binds fun _ _ _ _ _ _ us hl => match us, hl with | [_], _ => rfl⟩
 exact qV (N := ["thing"]) (O := []) (body := vK) F qcE (by decide) fun cdv A outer s H E B hr => (qj (qA (wK (dC C_is_whole hr (qc (qd 0) qf)) (vb (jV qhq qer (qd 0) qi (qK _))))))
theorem qbj : qp ["thing"] ["thing"] (qe zC) := ⟨rfl, rfl, rfl, by decide +kernel, rfl, by decide +kernel, by decide +kernel⟩
abbrev Q9 (P : Program) (w : World) (K : Fr0) (mg : Str -> Option Value) (base : Heap) : Prop := jv P w K mg base 3 "need_count" ["thing"] (spX K (clR K RN) zH)
theorem q9 {f : Addr} {fd : FuncData} (F : Fun K "need_count" "need_count" zC f fd) (m : mg "need_count" = some (.ref f)) (T : Txt K mg) (XTt : XT K mg RN TN) (hB : K.In base) (C_is_count : Q8 P w K mg base) : Q9 P w K mg base := by
 have hcl : ∀ n, RN.contains n = true -> (clR K RN n).isSome = true := fun n hn => Option.isSome_iff_exists.mpr (XTt.has hn)
 have rn0 : RN.contains "NoNumber" = true := by decide
 obtain ⟨S, mS, xS⟩ := XTt.xcls hB
 obtain ⟨C_NoNumber, hc_NoNumber⟩ := XTt.has (n := "NoNumber") (by decide)
 have mc_NoNumber := XTt.mgc _ _ (XTt.cls hc_NoNumber).1
 obtain ⟨bm_NoNumber, xc_NoNumber, _⟩ := xS.own _ _ hc_NoNumber
 refine ⟨f, fd, ?_, m, F.kp, F.binds fun _ _ _ _ _ _ us hl => match us, hl with | [_], _ => rfl⟩
 show ub P w K mg base (CX1 P w) 3 f fd ["thing"] (spX K (clR K RN) (uZ (["thing"] : List Str).length (["thing"] : List Str).length jO))
 refine ui (N := ["thing"]) (ps := ["thing"]) (k := 2) (O := []) (body := jO) (cl := clR K RN) F qbj ?a ?b
 case a => decide
 intro cdv A outer s H E B hr
 have L := uh (P := P) (w := w) (K := K) (mg := mg) (base := base) (N := ["thing"]) (qual := "need_count") (scope := qe zC) (f := f) (cdv := cdv) (A := A) (outer := outer) (s := s) (H := H) (E := E) (c := cfn [] [] B H (fun _ => False) (fun x H' => ∀ C, clR K RN x.cls = some C -> E (.ref C) none H') fun _ => none) (cl := clR K RN) rfl (fun x C H' h1 h2 => h2 C h1)
 exact (qj (yJ (y8 (jt (dC C_is_count hr (qc (qd 0) qf)))) (qj (qaZ rfl L hc_NoNumber rfl mc_NoNumber xc_NoNumber (qc qas qf))) qX))
theorem qdY : qp ["thing"] ["thing"] (qe yM) := ⟨rfl, rfl, rfl, by decide +kernel, rfl, by decide +kernel, by decide +kernel⟩
abbrev Q10 (P : Program) (w : World) (K : Fr0) (mg : Str -> Option Value) (base : Heap) : Prop := zb P w K mg base 3 "is_kind" ["thing"] (spD K uk)
theorem q10 {f : Addr} {fd : FuncData} (F : Fun K "is_kind" "is_kind" yM f fd) (m : mg "is_kind" = some (.ref f)) (T : Txt K mg) (XTt : XT K mg RN TN) (hB : K.In base) (C_is_count : Q8 P w K mg base) : Q10 P w K mg base := by
 refine ⟨f, fd, ?_, m, F.kp, F.binds fun _ _ _ _ _ _ us hl => match us, hl with | [_], _ => rfl⟩
 exact qV (N := ["thing"]) (O := []) (body := qab) F qdY (by decide) fun cdv A outer s H E B hr => (qg (yJ (DW.dt (qbB (y8 (jt (qcP qbF rfl T.b_isinstance rfl T.b_tuple uy (qd 0) qx))) (vU (jb (wW hr) uW (zl jI jJ rfl T.b_len vV (qc (qd 0) qf)) qi (qK _))))) (qj (qA vw)) qX)
   (qg (yJ (DW.dt (qbB (y8 (jt (dC C_is_count hr (qc (qE qu qt (qd 0) (gI T.c_WEIGHT)) qf)))) (vU (jb (vW hr) yA (qE qu qt (qd 0) (gI T.c_WEIGHT)) qi (qK _))))) (qj (qA vw)) qX)
   (qj (qA (wK (dC C_is_count hr (qc (qE qu qt (qd 0) (gI T.c_WORTH)) qf)) (vb (qhH (jV qbq wN (qE qu qt (qd 0) (gI T.c_MOST)) yi (qK _)) (vb (dC C_is_count hr (qc (qE qu qt (qd 0) (gI T.c_MOST)) qf))))))))))
theorem qcF : qp ["thing"] ["thing"] (qe jx) := ⟨rfl, rfl, rfl, by decide +kernel, rfl, by decide +kernel, by decide +kernel⟩
abbrev Q11 (P : Program) (w : World) (K : Fr0) (mg : Str -> Option Value) (base : Heap) : Prop := zb P w K mg base 4 "is_store" ["thing"] (spD K uD)
theorem q11 {f : Addr} {fd : FuncData} (F : Fun K "is_store" "is_store" jx f fd) (m : mg "is_store" = some (.ref f)) (T : Txt K mg) (XTt : XT K mg RN TN) (hB : K.In base) (C_is_kind : Q10 P w K mg base) : Q11 P w K mg base := by
 refine ⟨f, fd, ?_, m, F.kp, F.binds fun _ _ _ _ _ _ us hl => match us, hl with | [_], _ => rfl⟩
 exact qV (N := ["thing"]) (O := []) (body := vL) F qcF (by decide) fun cdv A outer s H E B hr => (qg (yJ (DW.dt (qbB (y8 (jt (qcP qbF rfl T.b_isinstance rfl T.b_tuple uy (qd 0) qx))) (vU (jb qeb qbD (zl jI jJ rfl T.b_len vV (qc (qd 0) qf)) (gI T.c_KINDS_AT_MOST) (qK _))))) (qj (qA vw)) qX)
   (qj (qA (zl (qf3 rfl) qev rfl T.b_all qkq (qc (yS (fo := none) rfl (uI (qd 0)) (cs ["thing"] ["part"] 1 [] (qe jx)) (f0 [] []) (fun _ _ _ _ _ _ _ _ _ _ _ => ⟨(qJ (i := 0) (nd ["part"])), wP, (dC C_is_kind hr (qc (qd 0) qf))⟩)) qf)))))
theorem qbk : qp ["thing"] ["thing"] (qe zD) := ⟨rfl, rfl, rfl, by decide +kernel, rfl, by decide +kernel, by decide +kernel⟩
abbrev Q12 (P : Program) (w : World) (K : Fr0) (mg : Str -> Option Value) (base : Heap) : Prop := jv P w K mg base 5 "need_store" ["thing"] (spX K (clR K RN) zJ)
theorem q12 {f : Addr} {fd : FuncData} (F : Fun K "need_store" "need_store" zD f fd) (m : mg "need_store" = some (.ref f)) (T : Txt K mg) (XTt : XT K mg RN TN) (hB : K.In base) (C_is_store : Q11 P w K mg base) : Q12 P w K mg base := by
 have hcl : ∀ n, RN.contains n = true -> (clR K RN n).isSome = true := fun n hn => Option.isSome_iff_exists.mpr (XTt.has hn)
 have rn0 : RN.contains "NoNumber" = true := by decide
 obtain ⟨S, mS, xS⟩ := XTt.xcls hB
 obtain ⟨C_NoStore, hc_NoStore⟩ := XTt.has (n := "NoStore") (by decide)
 have mc_NoStore := XTt.mgc _ _ (XTt.cls hc_NoStore).1
 obtain ⟨bm_NoStore, xc_NoStore, _⟩ := xS.own _ _ hc_NoStore
 refine ⟨f, fd, ?_, m, F.kp, F.binds fun _ _ _ _ _ _ us hl => match us, hl with | [_], _ => rfl⟩
 show ub P w K mg base (CX1 P w) 5 f fd ["thing"] (spX K (clR K RN) (uZ (["thing"] : List Str).length (["thing"] : List Str).length yw))
 refine ui (N := ["thing"]) (ps := ["thing"]) (k := 4) (O := []) (body := yw) (cl := clR K RN) F qbk ?a ?b
 case a => decide
 intro cdv A outer s H E B hr
 have L := uh (P := P) (w := w) (K := K) (mg := mg) (base := base) (N := ["thing"]) (qual := "need_store") (scope := qe zD) (f := f) (cdv := cdv) (A := A) (outer := outer) (s := s) (H := H) (E := E) (c := cfn [] [] B H (fun _ => False) (fun x H' => ∀ C, clR K RN x.cls = some C -> E (.ref C) none H') fun _ => none) (cl := clR K RN) rfl (fun x C H' h1 h2 => h2 C h1)
 exact (qj (yJ (y8 (jt (dC C_is_store hr (qc (qd 0) qf)))) (qj (qaZ rfl L hc_NoStore rfl mc_NoStore xc_NoStore (qc qas qf))) qX))
theorem zX : qp ["store", "room", "shares", "left", "place"] ["store", "room"] (qe zn) := ⟨rfl, rfl, rfl, by decide +kernel, rfl, by decide +kernel, by decide +kernel⟩
abbrev Q13 (P : Program) (w : World) (K : Fr0) (mg : Str -> Option Value) (base : Heap) : Prop := jv P w K mg base 6 "best_shares" ["store", "room"] (spX K (clR K RN) jq)
theorem q13 {f : Addr} {fd : FuncData} (F : Fun K "best_shares" "best_shares" zn f fd) (m : mg "best_shares" = some (.ref f)) (T : Txt K mg) (XTt : XT K mg RN TN) (hB : K.In base) (C_dearest_first : Q1 P w K mg base) (C_room_behind : Q3 P w K mg base) (C_best_share : Q6 P w K mg base) (C_need_count : Q9 P w K mg base) (C_need_store : Q12 P w K mg base) : Q13 P w K mg base := by
 have hcl : ∀ n, RN.contains n = true -> (clR K RN n).isSome = true := fun n hn => Option.isSome_iff_exists.mpr (XTt.has hn)
 have rn0 : RN.contains "NoNumber" = true := by decide
 obtain ⟨S, mS, xS⟩ := XTt.xcls hB
 refine ⟨f, fd, ?_, m, F.kp, F.binds fun _ _ _ _ _ _ us hl => match us, hl with | [_, _], _ => rfl⟩
 show ub P w K mg base (CX1 P w) 6 f fd ["store", "room"] (spX K (clR K RN) (uZ (["store", "room", "shares", "left", "place"] : List Str).length (["store", "room"] : List Str).length j4))
 refine ui (N := ["store", "room", "shares", "left", "place"]) (ps := ["store", "room"]) (k := 5) (O := [2]) (body := j4) (cl := clR K RN) F zX ?a ?b
 case a => decide
 intro cdv A outer s H E B hr
 have L := uh (P := P) (w := w) (K := K) (mg := mg) (base := base) (N := ["store", "room", "shares", "left", "place"]) (qual := "best_shares") (scope := qe zn) (f := f) (cdv := cdv) (A := A) (outer := outer) (s := s) (H := H) (E := E) (c := cfn [2] [] B H (fun _ => False) (fun x H' => ∀ C, clR K RN x.cls = some C -> E (.ref C) none H') fun _ => none) (cl := clR K RN) rfl (fun x C H' h1 h2 => h2 C h1)
 exact (qg (jj (xC L.two hcl C_need_store hr (qc (qd 0) qf)))
   (qg (jj (xC L.two hcl C_need_count hr (qc (qd 1) qf)))
   (qg (wT (i := 2) zX.nd (qkU (ja (qc (gT (ns := [0, 1]) T.c_NOTHING) qf)) (zl jI jJ rfl T.b_len vV (qc (qd 0) qf))))
   (qg (zf (i := 3) zX.nd (qd 1))
   (qg (qc0 (ve PassesOwn.never rfl (uI (dC C_dearest_first hr (qc (qd 0) qf))) (qJ (i := 4) zX.nd) (qg (qeC (i := 2) (dC C_best_share hr (qc (qE qu qt (qd 0) (qd 4)) (qc (qd 3) qf))) (qd 4))
   (qj (zf (i := 3) zX.nd (dC C_room_behind hr (qc (qE qu qt (qd 0) (qd 4)) (qc (qd 3) qf))))))))
   (qj (qA (qcq (i := 2) rfl T.b_tuple uy))))))))
theorem qgG : qp ["one", "other"] ["one", "other"] (qe vH) := ⟨rfl, rfl, rfl, by decide +kernel, rfl, by decide +kernel, by decide +kernel⟩
abbrev Q14 (P : Program) (w : World) (K : Fr0) (mg : Str -> Option Value) (base : Heap) : Prop := zb P w K mg base 3 "added" ["one", "other"] (spD K vM)
theorem q14 {f : Addr} {fd : FuncData} (F : Fun K "added" "added" vH f fd) (m : mg "added" = some (.ref f)) (T : Txt K mg) (XTt : XT K mg RN TN) (hB : K.In base) (C_lowest_terms : Q5 P w K mg base) : Q14 P w K mg base := by
 refine ⟨f, fd, ?_, m, F.kp, F.binds fun _ _ _ _ _ _ us hl => match us, hl with | [_, _], _ => rfl⟩
 exact qV (N := ["one", "other"]) (O := []) (body := qcB) F qgG (by decide) fun cdv A outer s H E B hr => (qj (qA (dC C_lowest_terms hr (qc (qz z5 z6 (qz zT zd (qE qu qt (qd 0) (gI T.c_TOP)) (qE qu qt (qd 1) (gI T.c_BOTTOM))) (qz zT zd (qE qu qt (qd 1) (gI T.c_TOP)) (qE qu qt (qd 0) (gI T.c_BOTTOM)))) (qc (qz zT zd (qE qu qt (qd 0) (gI T.c_BOTTOM)) (qE qu qt (qd 1) (gI T.c_BOTTOM))) qf)))))
theorem zY : qp ["store", "room", "total", "kind", "share"] ["store", "room"] (qe zq) := ⟨rfl, rfl, rfl, by decide +kernel, rfl, by decide +kernel, by decide +kernel⟩
abbrev Q15 (P : Program) (w : World) (K : Fr0) (mg : Str -> Option Value) (base : Heap) : Prop := jv P w K mg base 7 "share_worth" ["store", "room"] (spX K (clR K RN) j7)
theorem q15 {f : Addr} {fd : FuncData} (F : Fun K "share_worth" "share_worth" zq f fd) (m : mg "share_worth" = some (.ref f)) (T : Txt K mg) (XTt : XT K mg RN TN) (hB : K.In base) (C_best_shares : Q13 P w K mg base) (C_added : Q14 P w K mg base) : Q15 P w K mg base := by
 have hcl : ∀ n, RN.contains n = true -> (clR K RN n).isSome = true := fun n hn => Option.isSome_iff_exists.mpr (XTt.has hn)
 have rn0 : RN.contains "NoNumber" = true := by decide
 obtain ⟨S, mS, xS⟩ := XTt.xcls hB
 refine ⟨f, fd, ?_, m, F.kp, F.binds fun _ _ _ _ _ _ us hl => match us, hl with | [_, _], _ => rfl⟩
 show ub P w K mg base (CX1 P w) 7 f fd ["store", "room"] (spX K (clR K RN) (uZ (["store", "room", "total", "kind", "share"] : List Str).length (["store", "room"] : List Str).length j6))
 refine ui (N := ["store", "room", "total", "kind", "share"]) (ps := ["store", "room"]) (k := 6) (O := []) (body := j6) (cl := clR K RN) F zY ?a ?b
 case a => decide
 intro cdv A outer s H E B hr
 have L := uh (P := P) (w := w) (K := K) (mg := mg) (base := base) (N := ["store", "room", "total", "kind", "share"]) (qual := "share_worth") (scope := qe zq) (f := f) (cdv := cdv) (A := A) (outer := outer) (s := s) (H := H) (E := E) (c := cfn [] [] B H (fun _ => False) (fun x H' => ∀ C, clR K RN x.cls = some C -> E (.ref C) none H') fun _ => none) (cl := clR K RN) rfl (fun x C H' h1 h2 => h2 C h1)
 exact (qg (zf (i := 2) zY.nd (gT (ns := [0, 1]) T.c_NOTHING))
   (qg (qc0 (ve PassesOwn.never rfl (qki rfl T.b_zip (qc (qd 0) (qc (pC C_best_shares hr (qc (qd 0) (qc (qd 1) qf))) qf))) (qcN (n := 2) rfl (yt (qJ (i := 3) zY.nd) (yt (qJ (i := 4) zY.nd) qaP))) (qj (zf (i := 2) zY.nd (dC C_added hr (qc (qd 2) (qc (qW (qc (qz zT zd (qE qu qt (qd 4) (gI T.c_TOP)) (qE qu qt (qd 3) (gI T.c_WORTH))) (qc (qE qu qt (qd 4) (gI T.c_BOTTOM)) qf))) qf)))))))
   (qj (qA (qd 2)))))
theorem uS : qp ["store", "room", "total"] ["store", "room"] (qe zr) := ⟨rfl, rfl, rfl, by decide +kernel, rfl, by decide +kernel, by decide +kernel⟩
abbrev Q16 (P : Program) (w : World) (K : Fr0) (mg : Str -> Option Value) (base : Heap) : Prop := jv P w K mg base 8 "whole_bound" ["store", "room"] (spX K (clR K RN) j9)
theorem q16 {f : Addr} {fd : FuncData} (F : Fun K "whole_bound" "whole_bound" zr f fd) (m : mg "whole_bound" = some (.ref f)) (T : Txt K mg) (XTt : XT K mg RN TN) (hB : K.In base) (C_share_worth : Q15 P w K mg base) : Q16 P w K mg base := by
 have hcl : ∀ n, RN.contains n = true -> (clR K RN n).isSome = true := fun n hn => Option.isSome_iff_exists.mpr (XTt.has hn)
 have rn0 : RN.contains "NoNumber" = true := by decide
 obtain ⟨S, mS, xS⟩ := XTt.xcls hB
 refine ⟨f, fd, ?_, m, F.kp, F.binds fun _ _ _ _ _ _ us hl => match us, hl with | [_, _], _ => rfl⟩
 show ub P w K mg base (CX1 P w) 8 f fd ["store", "room"] (spX K (clR K RN) (uZ (["store", "room", "total"] : List Str).length (["store", "room"] : List Str).length j8))
 refine ui (N := ["store", "room", "total"]) (ps := ["store", "room"]) (k := 7) (O := []) (body := j8) (cl := clR K RN) F uS ?a ?b
 case a => decide
 intro cdv A outer s H E B hr
 have L := uh (P := P) (w := w) (K := K) (mg := mg) (base := base) (N := ["store", "room", "total"]) (qual := "whole_bound") (scope := qe zr) (f := f) (cdv := cdv) (A := A) (outer := outer) (s := s) (H := H) (E := E) (c := cfn [] [] B H (fun _ => False) (fun x H' => ∀ C, clR K RN x.cls = some C -> E (.ref C) none H') fun _ => none) (cl := clR K RN) rfl (fun x C H' h1 h2 => h2 C h1)
 exact (qg (zf (i := 2) uS.nd (xC L.two hcl C_share_worth hr (qc (qd 0) (qc (qd 1) qf))))
   (qj (qA (qz wB vc (qE qu qt (qd 2) (gI T.c_TOP)) (qE qu qt (qd 2) (gI T.c_BOTTOM))))))
theorem qb8 : qp ["store", "place", "kind"] ["store", "place", "kind"] (qe jy) := ⟨rfl, rfl, rfl, by decide +kernel, rfl, by decide +kernel, by decide +kernel⟩
abbrev Q17 (P : Program) (w : World) (K : Fr0) (mg : Str -> Option Value) (base : Heap) : Prop := zb P w K mg base 1 "with_kind" ["store", "place", "kind"] (spD K yo)
theorem q17 {f : Addr} {fd : FuncData} (F : Fun K "with_kind" "with_kind" jy f fd) (m : mg "with_kind" = some (.ref f)) (T : Txt K mg) (XTt : XT K mg RN TN) (hB : K.In base) : Q17 P w K mg base := by
 refine ⟨f, fd, ?_, m, F.kp, F.binds fun _ _ _ _ _ _ us hl => match us, hl with | [_, _, _], _ => rfl⟩
 exact qV (N := ["store", "place", "kind"]) (O := []) (body := u3) F qb8 (by decide) fun cdv A outer s H E B hr => (qj (qA (qz z5 z6 (qz z5 z6 (qbP (qd 0) qex (qey (qd 1))) (qW (qc (qd 2) qf))) (qbP (qd 0) (qey (qz z5 z6 (qd 1) qi)) qex))))
theorem qb9 : qp ["kind", "most"] ["kind", "most"] (qe jz) := ⟨rfl, rfl, rfl, by decide +kernel, rfl, by decide +kernel, by decide +kernel⟩
abbrev Q18 (P : Program) (w : World) (K : Fr0) (mg : Str -> Option Value) (base : Heap) : Prop := zb P w K mg base 1 "with_most" ["kind", "most"] (spD K jE)
theorem q18 {f : Addr} {fd : FuncData} (F : Fun K "with_most" "with_most" jz f fd) (m : mg "with_most" = some (.ref f)) (T : Txt K mg) (XTt : XT K mg RN TN) (hB : K.In base) : Q18 P w K mg base := by
 refine ⟨f, fd, ?_, m, F.kp, F.binds fun _ _ _ _ _ _ us hl => match us, hl with | [_, _], _ => rfl⟩
 exact qV (N := ["kind", "most"]) (O := []) (body := u4) F qb9 (by decide) fun cdv A outer s H E B hr => (qj (qA (qW (qc (qE qu qt (qd 0) (gI T.c_WEIGHT)) (qc (qE qu qt (qd 0) (gI T.c_WORTH)) (qc (qd 1) qf))))))
theorem qca : qp ["kind", "times"] ["kind", "times"] (qe jA) := ⟨rfl, rfl, rfl, by decide +kernel, rfl, by decide +kernel, by decide +kernel⟩
abbrev Q19 (P : Program) (w : World) (K : Fr0) (mg : Str -> Option Value) (base : Heap) : Prop := zb P w K mg base 1 "most_left" ["kind", "times"] (spD K yp)
theorem q19 {f : Addr} {fd : FuncData} (F : Fun K "most_left" "most_left" jA f fd) (m : mg "most_left" = some (.ref f)) (T : Txt K mg) (XTt : XT K mg RN TN) (hB : K.In base) : Q19 P w K mg base := by
 refine ⟨f, fd, ?_, m, F.kp, F.binds fun _ _ _ _ _ _ us hl => match us, hl with | [_, _], _ => rfl⟩
 exact qV (N := ["kind", "times"]) (O := []) (body := u5) F qca (by decide) fun cdv A outer s H E B hr => (qj (qA (qhI (jb qbq wN (qE qu qt (qd 0) (gI T.c_MOST)) yi (qK _)) yi (qz qcK qaQ (qE qu qt (qd 0) (gI T.c_MOST)) (qd 1)))))
theorem qcG : qp ["kind"] ["kind"] (qe yf) := ⟨rfl, rfl, rfl, by decide +kernel, rfl, by decide +kernel, by decide +kernel⟩
abbrev Q20 (P : Program) (w : World) (K : Fr0) (mg : Str -> Option Value) (base : Heap) : Prop := zb P w K mg base 1 "is_there" ["kind"] (spD K jF)
theorem q20 {f : Addr} {fd : FuncData} (F : Fun K "is_there" "is_there" yf f fd) (m : mg "is_there" = some (.ref f)) (T : Txt K mg) (XTt : XT K mg RN TN) (hB : K.In base) : Q20 P w K mg base := by
 refine ⟨f, fd, ?_, m, F.kp, F.binds fun _ _ _ _ _ _ us hl => match us, hl with | [_], _ => rfl⟩
 exact qV (N := ["kind"]) (O := []) (body := vN) F qcG (by decide) fun cdv A outer s H E B hr => (qj (qA (qhH (jV qbq wN (qE qu qt (qd 0) (gI T.c_MOST)) yi (qK _)) (vb (jV qeb qbD (qE qu qt (qd 0) (gI T.c_MOST)) qi (qK _))))))
theorem ut : qp ["store", "place", "room", "u", "kind", "left"] ["store", "place", "room", "u"] (qe z7) := ⟨rfl, rfl, rfl, by decide +kernel, rfl, by decide +kernel, by decide +kernel⟩
abbrev Q21 (P : Program) (w : World) (K : Fr0) (mg : Str -> Option Value) (base : Heap) : Prop := jv P w K mg base 9 "may_be_in" ["store", "place", "room", "u"] (spX K (clR K RN) yW)
theorem q21 {f : Addr} {fd : FuncData} (F : Fun K "may_be_in" "may_be_in" z7 f fd) (m : mg "may_be_in" = some (.ref f)) (T : Txt K mg) (XTt : XT K mg RN TN) (hB : K.In base) (C_whole_bound : Q16 P w K mg base) (C_with_kind : Q17 P w K mg base) (C_with_most : Q18 P w K mg base) (C_most_left : Q19 P w K mg base) (C_is_there : Q20 P w K mg base) : Q21 P w K mg base := by
 have hcl : ∀ n, RN.contains n = true -> (clR K RN n).isSome = true := fun n hn => Option.isSome_iff_exists.mpr (XTt.has hn)
 have rn0 : RN.contains "NoNumber" = true := by decide
 obtain ⟨S, mS, xS⟩ := XTt.xcls hB
 refine ⟨f, fd, ?_, m, F.kp, F.binds fun _ _ _ _ _ _ us hl => match us, hl with | [_, _, _, _], _ => rfl⟩
 show ub P w K mg base (CX1 P w) 9 f fd ["store", "place", "room", "u"] (spX K (clR K RN) (uZ (["store", "place", "room", "u", "kind", "left"] : List Str).length (["store", "place", "room", "u"] : List Str).length yV))
 refine ui (N := ["store", "place", "room", "u", "kind", "left"]) (ps := ["store", "place", "room", "u"]) (k := 8) (O := []) (body := yV) (cl := clR K RN) F ut ?a ?b
 case a => decide
 intro cdv A outer s H E B hr
 have L := uh (P := P) (w := w) (K := K) (mg := mg) (base := base) (N := ["store", "place", "room", "u", "kind", "left"]) (qual := "may_be_in") (scope := qe z7) (f := f) (cdv := cdv) (A := A) (outer := outer) (s := s) (H := H) (E := E) (c := cfn [] [] B H (fun _ => False) (fun x H' => ∀ C, clR K RN x.cls = some C -> E (.ref C) none H') fun _ => none) (cl := clR K RN) rfl (fun x C H' h1 h2 => h2 C h1)
 exact (qg (zf (i := 4) ut.nd (qE qu qt (qd 0) (qd 1)))
   (qg (yJ (DW.dt (qbB (y8 (jt (dC C_is_there hr (qc (qd 4) qf)))) (vU (jb qeb qbD (qE qu qt (qd 4) (gI T.c_WEIGHT)) (qd 2) (qK _))))) (qj (qA vw)) qX)
   (qg (zf (i := 5) ut.nd (dC C_with_kind hr (qc (qd 0) (qc (qd 1) (qc (dC C_with_most hr (qc (qd 4) (qc (dC C_most_left hr (qc (qd 4) (qc qi qf))) qf))) qf)))))
   (qj (qA (jV qhq qer (qz z5 z6 (qE qu qt (qd 4) (gI T.c_WORTH)) (xC L.two hcl C_whole_bound hr (qc (qd 5) (qc (qz qcK qaQ (qd 2) (qE qu qt (qd 4) (gI T.c_WEIGHT))) qf)))) (qd 3) (qK _)))))))
theorem qbl : qp ["thing"] ["thing"] (qe zE) := ⟨rfl, rfl, rfl, by decide +kernel, rfl, by decide +kernel, by decide +kernel⟩
abbrev Q22 (P : Program) (w : World) (K : Fr0) (mg : Str -> Option Value) (base : Heap) : Prop := jv P w K mg base 2 "need_whole" ["thing"] (spX K (clR K RN) jg)
theorem q22 {f : Addr} {fd : FuncData} (F : Fun K "need_whole" "need_whole" zE f fd) (m : mg "need_whole" = some (.ref f)) (T : Txt K mg) (XTt : XT K mg RN TN) (hB : K.In base) (C_is_whole : Q7 P w K mg base) : Q22 P w K mg base := by
 have hcl : ∀ n, RN.contains n = true -> (clR K RN n).isSome = true := fun n hn => Option.isSome_iff_exists.mpr (XTt.has hn)
 have rn0 : RN.contains "NoNumber" = true := by decide
 obtain ⟨S, mS, xS⟩ := XTt.xcls hB
 obtain ⟨C_NoNumber, hc_NoNumber⟩ := XTt.has (n := "NoNumber") (by decide)
 have mc_NoNumber := XTt.mgc _ _ (XTt.cls hc_NoNumber).1
 obtain ⟨bm_NoNumber, xc_NoNumber, _⟩ := xS.own _ _ hc_NoNumber
 refine ⟨f, fd, ?_, m, F.kp, F.binds fun _ _ _ _ _ _ us hl => match us, hl with | [_], _ => rfl⟩
 show ub P w K mg base (CX1 P w) 2 f fd ["thing"] (spX K (clR K RN) (uZ (["thing"] : List Str).length (["thing"] : List Str).length jP))
 refine ui (N := ["thing"]) (ps := ["thing"]) (k := 1) (O := []) (body := jP) (cl := clR K RN) F qbl ?a ?b
 case a => decide
 intro cdv A outer s H E B hr
 have L := uh (P := P) (w := w) (K := K) (mg := mg) (base := base) (N := ["thing"]) (qual := "need_whole") (scope := qe zE) (f := f) (cdv := cdv) (A := A) (outer := outer) (s := s) (H := H) (E := E) (c := cfn [] [] B H (fun _ => False) (fun x H' => ∀ C, clR K RN x.cls = some C -> E (.ref C) none H') fun _ => none) (cl := clR K RN) rfl (fun x C H' h1 h2 => h2 C h1)
 exact (qj (yJ (y8 (jt (dC C_is_whole hr (qc (qd 0) qf)))) (qj (qaZ rfl L hc_NoNumber rfl mc_NoNumber xc_NoNumber (qc qas qf))) qX))
theorem qcH : qp ["store", "room", "u"] ["store", "room", "u"] (qe je) := ⟨rfl, rfl, rfl, by decide +kernel, rfl, by decide +kernel, by decide +kernel⟩
abbrev Q23 (P : Program) (w : World) (K : Fr0) (mg : Str -> Option Value) (base : Heap) : Prop := jv P w K mg base 10 "never_in" ["store", "room", "u"] (spX K (clR K RN) zw)
theorem q23 {f : Addr} {fd : FuncData} (F : Fun K "never_in" "never_in" je f fd) (m : mg "never_in" = some (.ref f)) (T : Txt K mg) (XTt : XT K mg RN TN) (hB : K.In base) (C_may_be_in : Q21 P w K mg base) (C_need_whole : Q22 P w K mg base) (C_need_count : Q9 P w K mg base) (C_need_store : Q12 P w K mg base) : Q23 P w K mg base := by
 have hcl : ∀ n, RN.contains n = true -> (clR K RN n).isSome = true := fun n hn => Option.isSome_iff_exists.mpr (XTt.has hn)
 have rn0 : RN.contains "NoNumber" = true := by decide
 obtain ⟨S, mS, xS⟩ := XTt.xcls hB
 refine ⟨f, fd, ?_, m, F.kp, F.binds fun _ _ _ _ _ _ us hl => match us, hl with | [_, _, _], _ => rfl⟩
 show ub P w K mg base (CX1 P w) 10 f fd ["store", "room", "u"] (spX K (clR K RN) (uZ (["store", "room", "u"] : List Str).length (["store", "room", "u"] : List Str).length yh))
 refine ui (N := ["store", "room", "u"]) (ps := ["store", "room", "u"]) (k := 9) (O := []) (body := yh) (cl := clR K RN) F qcH ?a ?b
 case a => decide
 intro cdv A outer s H E B hr
 have L := uh (P := P) (w := w) (K := K) (mg := mg) (base := base) (N := ["store", "room", "u"]) (qual := "never_in") (scope := qe je) (f := f) (cdv := cdv) (A := A) (outer := outer) (s := s) (H := H) (E := E) (c := cfn [] [] B H (fun _ => False) (fun x H' => ∀ C, clR K RN x.cls = some C -> E (.ref C) none H') fun _ => none) (cl := clR K RN) rfl (fun x C H' h1 h2 => h2 C h1)
 exact (qg (jj (xC L.two hcl C_need_store hr (qc (qd 0) qf)))
   (qg (jj (xC L.two hcl C_need_count hr (qc (qd 1) qf)))
   (qg (jj (xC L.two hcl C_need_whole hr (qc (qd 2) qf)))
   (qj (qA (yS (fo := none) rfl (yk rfl T.b_range (qc (zl jI jJ rfl T.b_len vV (qc (qd 0) qf)) qf)) (cs ["store", "room", "u"] ["place", "store", "room", "u"] 1 [0, 1, 2] (qe je)) (f0 [0, 1, 2] []) (fun _ _ _ _ _ _ _ _ _ _ _ => ⟨(qJ (i := 0) (nd ["place", "store", "room", "u"])), (qaw (y8 (jt (pC C_may_be_in hr (qc (qd 1) (qc (qd 0) (qc (qd 2) (qc (qd 3) qf)))))))), (qd 0)⟩)))))))
theorem qae : qp ["one", "other"] ["one", "other"] (qe zv) := ⟨rfl, rfl, rfl, by decide +kernel, rfl, by decide +kernel, by decide +kernel⟩
abbrev Q24 (P : Program) (w : World) (K : Fr0) (mg : Str -> Option Value) (base : Heap) : Prop := zb P w K mg base 1 "does_as_well" ["one", "other"] (spD K yE)
theorem q24 {f : Addr} {fd : FuncData} (F : Fun K "does_as_well" "does_as_well" zv f fd) (m : mg "does_as_well" = some (.ref f)) (T : Txt K mg) (XTt : XT K mg RN TN) (hB : K.In base) : Q24 P w K mg base := by
 refine ⟨f, fd, ?_, m, F.kp, F.binds fun _ _ _ _ _ _ us hl => match us, hl with | [_, _], _ => rfl⟩
 exact qV (N := ["one", "other"]) (O := []) (body := uP) F qae (by decide) fun cdv A outer s H E B hr => (qj (qA (wK (jV qbq wN (qE qu qt (qd 0) (gI T.c_MOST)) yi (qK _)) (wK (jV qjH qgT (qE qu qt (qd 0) (gI T.c_WEIGHT)) (qE qu qt (qd 1) (gI T.c_WEIGHT)) (qK _)) (vb (jV qhq qer (qE qu qt (qd 0) (gI T.c_WORTH)) (qE qu qt (qd 1) (gI T.c_WORTH)) (qK _)))))))
theorem qgH : qp ["store", "by", "place"] ["store", "by", "place"] (qe vI) := ⟨rfl, rfl, rfl, by decide +kernel, rfl, by decide +kernel, by decide +kernel⟩
abbrev Q25 (P : Program) (w : World) (K : Fr0) (mg : Str -> Option Value) (base : Heap) : Prop := zb P w K mg base 2 "beats" ["store", "by", "place"] (spD K qfs)
theorem q25 {f : Addr} {fd : FuncData} (F : Fun K "beats" "beats" vI f fd) (m : mg "beats" = some (.ref f)) (T : Txt K mg) (XTt : XT K mg RN TN) (hB : K.In base) (C_does_as_well : Q24 P w K mg base) : Q25 P w K mg base := by
 refine ⟨f, fd, ?_, m, F.kp, F.binds fun _ _ _ _ _ _ us hl => match us, hl with | [_, _, _], _ => rfl⟩
 exact qV (N := ["store", "by", "place"]) (O := []) (body := qfr) F qgH (by decide) fun cdv A outer s H E B hr => (qg (yJ (DW.dt (qbB (jb (vW hr) yA (qd 1) (qd 2) (qK _)) (vU (y8 (jt (dC C_does_as_well hr (qc (qE qu qt (qd 0) (qd 1)) (qc (qE qu qt (qd 0) (qd 2)) qf)))))))) (qj (qA vw)) qX)
   (qj (qA (qhH (jV qjG qgS (qd 1) (qd 2) (qK _)) (vb (qgQ (dC C_does_as_well hr (qc (qE qu qt (qd 0) (qd 2)) (qc (qE qu qt (qd 0) (qd 1)) qf)))))))))
theorem vv : qp ["store", "pairs", "place", "beating"] ["store"] (qe jZ) := ⟨rfl, rfl, rfl, by decide +kernel, rfl, by decide +kernel, by decide +kernel⟩
abbrev Q26 (P : Program) (w : World) (K : Fr0) (mg : Str -> Option Value) (base : Heap) : Prop := jv P w K mg base 6 "beaten" ["store"] (spX K (clR K RN) qbd)
theorem q26 {f : Addr} {fd : FuncData} (F : Fun K "beaten" "beaten" jZ f fd) (m : mg "beaten" = some (.ref f)) (T : Txt K mg) (XTt : XT K mg RN TN) (hB : K.In base) (C_beats : Q25 P w K mg base) (C_need_store : Q12 P w K mg base) : Q26 P w K mg base := by
 have hcl : ∀ n, RN.contains n = true -> (clR K RN n).isSome = true := fun n hn => Option.isSome_iff_exists.mpr (XTt.has hn)
 have rn0 : RN.contains "NoNumber" = true := by decide
 obtain ⟨S, mS, xS⟩ := XTt.xcls hB
 refine ⟨f, fd, ?_, m, F.kp, F.binds fun _ _ _ _ _ _ us hl => match us, hl with | [_], _ => rfl⟩
 show ub P w K mg base (CX1 P w) 6 f fd ["store"] (spX K (clR K RN) (uZ (["store", "pairs", "place", "beating"] : List Str).length (["store"] : List Str).length qbc))
 refine ui (N := ["store", "pairs", "place", "beating"]) (ps := ["store"]) (k := 5) (O := [1]) (body := qbc) (cl := clR K RN) F vv ?a ?b
 case a => decide
 intro cdv A outer s H E B hr
 have L := uh (P := P) (w := w) (K := K) (mg := mg) (base := base) (N := ["store", "pairs", "place", "beating"]) (qual := "beaten") (scope := qe jZ) (f := f) (cdv := cdv) (A := A) (outer := outer) (s := s) (H := H) (E := E) (c := cfn [1] [] B H (fun _ => False) (fun x H' => ∀ C, clR K RN x.cls = some C -> E (.ref C) none H') fun _ => none) (cl := clR K RN) rfl (fun x C H' h1 h2 => h2 C h1)
 exact (qg (jj (xC L.two hcl C_need_store hr (qc (qd 0) qf)))
   (qg (wT (i := 1) vv.nd (qeD qf))
   (qg (qc0 (ve PassesOwn.never rfl (yk rfl T.b_range (qc (zl jI jJ rfl T.b_len vV (qc (qd 0) qf)) qf)) (qJ (i := 2) vv.nd) (qg (qeX (i := 3) vv.nd (qeW (fo := none) rfl (yk rfl T.b_range (qc (zl jI jJ rfl T.b_len vV (qc (qd 0) qf)) qf)) (cs ["store", "pairs", "place", "beating"] ["by", "store", "place"] 1 [0, 2] (qe jZ)) (f0 [0, 2] [1]) (fun _ _ _ _ _ _ _ _ _ _ _ => ⟨(qJ (i := 0) (nd ["by", "store", "place"])), (qaw (jt (dC C_beats hr (qc (qd 1) (qc (qd 0) (qc (qd 2) qf)))))), (qd 0)⟩)) rfl (cs ["store", "pairs", "place", "beating"] ["by", "store", "place"] 1 [0, 2] (qe jZ)))
   (qj (yJ (jb (wW hr) uW (qd 3) (ja qf) (qK _)) (qj (jj (wS (i := 1) (qW (qc (qd 2) (qc (qE qu qt (qd 3) qi) qf)))))) qX)))))
   (qj (qhW (i := 1))))))
theorem qaf : qp ["store", "out"] ["store"] (qe zQ) := ⟨rfl, rfl, rfl, by decide +kernel, rfl, by decide +kernel, by decide +kernel⟩
abbrev Q27 (P : Program) (w : World) (K : Fr0) (mg : Str -> Option Value) (base : Heap) : Prop := jv P w K mg base 7 "unbeaten" ["store"] (spX K (clR K RN) qaG)
theorem q27 {f : Addr} {fd : FuncData} (F : Fun K "unbeaten" "unbeaten" zQ f fd) (m : mg "unbeaten" = some (.ref f)) (T : Txt K mg) (XTt : XT K mg RN TN) (hB : K.In base) (C_beaten : Q26 P w K mg base) : Q27 P w K mg base := by
 have hcl : ∀ n, RN.contains n = true -> (clR K RN n).isSome = true := fun n hn => Option.isSome_iff_exists.mpr (XTt.has hn)
 have rn0 : RN.contains "NoNumber" = true := by decide
 obtain ⟨S, mS, xS⟩ := XTt.xcls hB
 refine ⟨f, fd, ?_, m, F.kp, F.binds fun _ _ _ _ _ _ us hl => match us, hl with | [_], _ => rfl⟩
 show ub P w K mg base (CX1 P w) 7 f fd ["store"] (spX K (clR K RN) (uZ (["store", "out"] : List Str).length (["store"] : List Str).length vO))
 refine ui (N := ["store", "out"]) (ps := ["store"]) (k := 6) (O := []) (body := vO) (cl := clR K RN) F qaf ?a ?b
 case a => decide
 intro cdv A outer s H E B hr
 have L := uh (P := P) (w := w) (K := K) (mg := mg) (base := base) (N := ["store", "out"]) (qual := "unbeaten") (scope := qe zQ) (f := f) (cdv := cdv) (A := A) (outer := outer) (s := s) (H := H) (E := E) (c := cfn [] [] B H (fun _ => False) (fun x H' => ∀ C, clR K RN x.cls = some C -> E (.ref C) none H') fun _ => none) (cl := clR K RN) rfl (fun x C H' h1 h2 => h2 C h1)
 exact (qg (zf (i := 1) qaf.nd (yS (fo := none) rfl (uI (xC L.two hcl C_beaten hr (qc (qd 0) qf))) (cs ["store", "out"] ["pair"] 1 [] (qe zQ)) (f0 [] []) (fun _ _ _ _ _ _ _ _ _ _ _ => ⟨(qJ (i := 0) (nd ["pair"])), wP, (qE qu qt (qd 0) qi)⟩)))
   (qj (qA (qep u9 qcl rfl T.b_tuple uy (qc (yS (fo := none) rfl (qeU rfl T.b_enumerate (qc (qd 0) qf)) (cs ["store", "out"] ["place", "kind", "out"] 2 [1] (qe zQ)) (f0 [1] []) (fun _ _ _ _ _ _ _ _ _ _ _ => ⟨(qcN (n := 2) rfl (yt (qJ (i := 0) (nd ["place", "kind", "out"])) (yt (qJ (i := 1) (nd ["place", "kind", "out"])) qaP))), (qaw (jb (qiv hr) qgo (qd 0) (qd 2) rfl)), (qd 1)⟩)) qf)))))
theorem qdZ : qp ["one", "other"] ["one", "other"] (qe yN) := ⟨rfl, rfl, rfl, by decide +kernel, rfl, by decide +kernel, by decide +kernel⟩
abbrev Q28 (P : Program) (w : World) (K : Fr0) (mg : Str -> Option Value) (base : Heap) : Prop := zb P w K mg base 1 "is_like" ["one", "other"] (spD K qac)
theorem q28 {f : Addr} {fd : FuncData} (F : Fun K "is_like" "is_like" yN f fd) (m : mg "is_like" = some (.ref f)) (T : Txt K mg) (XTt : XT K mg RN TN) (hB : K.In base) : Q28 P w K mg base := by
 refine ⟨f, fd, ?_, m, F.kp, F.binds fun _ _ _ _ _ _ us hl => match us, hl with | [_, _], _ => rfl⟩
 exact qV (N := ["one", "other"]) (O := []) (body := qb0) F qdZ (by decide) fun cdv A outer s H E B hr => (qj (qA (wK (jV (vW hr) yA (qE qu qt (qd 0) (gI T.c_WEIGHT)) (qE qu qt (qd 1) (gI T.c_WEIGHT)) (qK _)) (vb (jV (vW hr) yA (qE qu qt (qd 0) (gI T.c_WORTH)) (qE qu qt (qd 1) (gI T.c_WORTH)) (qK _))))))
theorem wj : qp ["kinds"] ["kinds"] (qe qL) := ⟨rfl, rfl, rfl, by decide +kernel, rfl, by decide +kernel, by decide +kernel⟩
abbrev Q29 (P : Program) (w : World) (K : Fr0) (mg : Str -> Option Value) (base : Heap) : Prop := zb P w K mg base 1 "most_together" ["kinds"] (spD K uo)
theorem q29 {f : Addr} {fd : FuncData} (F : Fun K "most_together" "most_together" qL f fd) (m : mg "most_together" = some (.ref f)) (T : Txt K mg) (XTt : XT K mg RN TN) (hB : K.In base) : Q29 P w K mg base := by
 refine ⟨f, fd, ?_, m, F.kp, F.binds fun _ _ _ _ _ _ us hl => match us, hl with | [_], _ => rfl⟩
 exact qV (N := ["kinds"]) (O := []) (body := ul) F wj (by decide) fun cdv A outer s H E B hr => (qg (yJ (jt (zl (qcR rfl) qbG rfl T.b_any qgZ (qc (yS (fo := none) rfl (uI (qd 0)) (cs ["kinds"] ["kind"] 1 [] (qe qL)) (f0 [] []) (fun _ _ _ _ _ _ _ _ _ _ _ => ⟨(qJ (i := 0) (nd ["kind"])), wP, (jV qbq wN (qE qu qt (qd 0) (gI T.c_MOST)) yi (qK _))⟩)) qf))) (qj (qA yi)) qX)
   (qj (qA (zl (qf4 rfl) qew rfl T.b_sum qkr (qc (yS (fo := none) rfl (uI (qd 0)) (cs ["kinds"] ["kind"] 1 [] (qe qL)) (f0 [] []) (fun _ _ _ _ _ _ _ _ _ _ _ => ⟨(qJ (i := 0) (nd ["kind"])), wP, (qE qu qt (qd 0) (gI T.c_MOST))⟩)) qf)))))
theorem yG : qp ["store", "joined", "kind"] ["store"] (qe qN) := ⟨rfl, rfl, rfl, by decide +kernel, rfl, by decide +kernel, by decide +kernel⟩
abbrev Q30 (P : Program) (w : World) (K : Fr0) (mg : Str -> Option Value) (base : Heap) : Prop := jv P w K mg base 6 "like_joined" ["store"] (spX K (clR K RN) vp)
theorem q30 {f : Addr} {fd : FuncData} (F : Fun K "like_joined" "like_joined" qN f fd) (m : mg "like_joined" = some (.ref f)) (T : Txt K mg) (XTt : XT K mg RN TN) (hB : K.In base) (C_is_like : Q28 P w K mg base) (C_with_most : Q18 P w K mg base) (C_most_together : Q29 P w K mg base) (C_need_store : Q12 P w K mg base) : Q30 P w K mg base := by
 have hcl : ∀ n, RN.contains n = true -> (clR K RN n).isSome = true := fun n hn => Option.isSome_iff_exists.mpr (XTt.has hn)
 have rn0 : RN.contains "NoNumber" = true := by decide
 obtain ⟨S, mS, xS⟩ := XTt.xcls hB
 refine ⟨f, fd, ?_, m, F.kp, F.binds fun _ _ _ _ _ _ us hl => match us, hl with | [_], _ => rfl⟩
 show ub P w K mg base (CX1 P w) 6 f fd ["store"] (spX K (clR K RN) (uZ (["store", "joined", "kind"] : List Str).length (["store"] : List Str).length yX))
 refine ui (N := ["store", "joined", "kind"]) (ps := ["store"]) (k := 5) (O := [1]) (body := yX) (cl := clR K RN) F yG ?a ?b
 case a => decide
 intro cdv A outer s H E B hr
 have L := uh (P := P) (w := w) (K := K) (mg := mg) (base := base) (N := ["store", "joined", "kind"]) (qual := "like_joined") (scope := qe qN) (f := f) (cdv := cdv) (A := A) (outer := outer) (s := s) (H := H) (E := E) (c := cfn [1] [] B H (fun _ => False) (fun x H' => ∀ C, clR K RN x.cls = some C -> E (.ref C) none H') fun _ => none) (cl := clR K RN) rfl (fun x C H' h1 h2 => h2 C h1)
 exact (qg (jj (xC L.two hcl C_need_store hr (qc (qd 0) qf)))
   (qg (wT (i := 1) yG.nd (qeD qf))
   (qg (qc0 (ve PassesOwn.never rfl (uI (qd 0)) (qJ (i := 2) yG.nd) (qj (yJ (y8 (jt (qit (i := 1) (zl (qcR rfl) qbG rfl T.b_any qgZ (qc (yS (fo := none) rfl (uI (qd 1)) (cs ["store", "joined", "kind"] ["other", "kind"] 1 [2] (qe qN)) (f0 [2] []) (fun _ _ _ _ _ _ _ _ _ _ _ => ⟨(qJ (i := 0) (nd ["other", "kind"])), wP, (dC C_is_like hr (qc (qd 1) (qc (qd 0) qf)))⟩)) qf))))) (qj (jj (wS (i := 1) (dC C_with_most hr (qc (qd 2) (qc (dC C_most_together hr (qc (yS (fo := none) rfl (uI (qd 0)) (cs ["store", "joined", "kind"] ["other", "kind"] 1 [2] (qe qN)) (f0 [2] [1]) (fun _ _ _ _ _ _ _ _ _ _ _ => ⟨(qJ (i := 0) (nd ["other", "kind"])), (qaw (jt (dC C_is_like hr (qc (qd 1) (qc (qd 0) qf))))), (qd 0)⟩)) qf)) qf)))))) qX))))
   (qj (qA (qcq (i := 1) rfl T.b_tuple uy))))))
theorem yq : qp ["e", "found"] ["e"] (qe qZ) := ⟨rfl, rfl, rfl, by decide +kernel, rfl, by decide +kernel, by decide +kernel⟩
abbrev Q31 (P : Program) (w : World) (K : Fr0) (mg : Str -> Option Value) (base : Heap) : Prop := qcw P w K mg base 1 "_law_classes" ["e"] (spD K uQ)
theorem q31 {f : Addr} {fd : FuncData} (F : Fun K "_law_classes" "_law_classes" qZ f fd) (m : mg "_law_classes" = some (.ref f)) (T : Txt K mg) (XTt : XT K mg RN TN) (hB : K.In base) : Q31 P w K mg base := by
 have hcl : ∀ n, RN.contains n = true -> (clR K RN n).isSome = true := fun n hn => Option.isSome_iff_exists.mpr (XTt.has hn)
 have rn0 : RN.contains "NoNumber" = true := by decide
 obtain ⟨S, mS, xS⟩ := XTt.xcls hB
 refine ⟨f, fd, ?_, m, F.kp, F.binds fun _ _ _ _ _ _ us hl => match us, hl with | [_], _ => rfl⟩
 show qa0 P w K mg base CX0 1 f fd ["e"] (spD K (dfn (["e", "found"] : List Str).length (["e"] : List Str).length yF))
 refine qc8 (N := ["e", "found"]) (ps := ["e"]) (k := 0) (O := []) (body := yF) F yq ?a ?b
 case a => decide
 intro cdv A outer s H E B hr al
 have hal : ∀ ρ σ H', Rep K (cfn [] [] B H (fun _ => False) (fun _ _ => False) fun _ => none) ρ σ H' -> AloneA (A.deeper (envOfC "_law_classes" (qe qZ) s.heap.objs.size f cdv)) H' := Sk.AloneA.rep al (fun _ z => z)
 exact (qg (zf (i := 1) yq.nd (ja (qc (uM (RN := RN) (m := "NoStore") (mgl := mg) XTt (by decide) (by decide) rfl T.b_isinstance rfl (qd 0) (XTt.ask rn0 (by decide)) qx) (qc (uM (RN := RN) (m := "NoNumber") (mgl := mg) XTt (by decide) (by decide) rfl T.b_isinstance rfl (qd 0) (XTt.ask rn0 (by decide)) qx) (qc (uM (RN := RN) (m := "NoLoad") (mgl := mg) XTt (by decide) (by decide) rfl T.b_isinstance rfl (qd 0) (XTt.ask rn0 (by decide)) qx) (qc (uM (RN := RN) (m := "TooMany") (mgl := mg) XTt (by decide) (by decide) rfl T.b_isinstance rfl (qd 0) (XTt.ask rn0 (by decide)) qx) qf))))))
   (qg (zf (i := 1) yq.nd (qz z5 z6 (qd 1) (ja (qc (uM (RN := RN) (m := "NotSingle") (mgl := mg) XTt (by decide) (by decide) rfl T.b_isinstance rfl (qd 0) (XTt.ask rn0 (by decide)) qx) (qc (uM (RN := RN) (m := "NotEndless") (mgl := mg) XTt (by decide) (by decide) rfl T.b_isinstance rfl (qd 0) (XTt.ask rn0 (by decide)) qx) (qc (uM (RN := RN) (m := "NoKind") (mgl := mg) XTt (by decide) (by decide) rfl T.b_isinstance rfl (qd 0) (XTt.ask rn0 (by decide)) qx) qf))))))
   (qj (qA (qz z5 z6 (qd 1) (ja (qc (uM (RN := RN) (m := "NoLine") (mgl := mg) XTt (by decide) (by decide) rfl T.b_isinstance rfl (qd 0) (XTt.ask rn0 (by decide)) qx) (qc (uM (RN := RN) (m := "NoText") (mgl := mg) XTt (by decide) (by decide) rfl T.b_isinstance rfl (qd 0) (XTt.ask rn0 (by decide)) qx) qf))))))))
theorem qcb : qp ["e", "place"] ["e", "place"] (qe zF) := ⟨rfl, rfl, rfl, by decide +kernel, rfl, by decide +kernel, by decide +kernel⟩
abbrev Q32 (P : Program) (w : World) (K : Fr0) (mg : Str -> Option Value) (base : Heap) : Prop := qcw P w K mg base 2 "_law_only" ["e", "place"] (spD K u7)
theorem q32 {f : Addr} {fd : FuncData} (F : Fun K "_law_only" "_law_only" zF f fd) (m : mg "_law_only" = some (.ref f)) (T : Txt K mg) (XTt : XT K mg RN TN) (hB : K.In base) (C__law_classes : Q31 P w K mg base) : Q32 P w K mg base := by
 have hcl : ∀ n, RN.contains n = true -> (clR K RN n).isSome = true := fun n hn => Option.isSome_iff_exists.mpr (XTt.has hn)
 have rn0 : RN.contains "NoNumber" = true := by decide
 obtain ⟨S, mS, xS⟩ := XTt.xcls hB
 refine ⟨f, fd, ?_, m, F.kp, F.binds fun _ _ _ _ _ _ us hl => match us, hl with | [_, _], _ => rfl⟩
 show qa0 P w K mg base CX0 2 f fd ["e", "place"] (spD K (dfn (["e", "place"] : List Str).length (["e", "place"] : List Str).length u6))
 refine qc8 (N := ["e", "place"]) (ps := ["e", "place"]) (k := 1) (O := []) (body := u6) F qcb ?a ?b
 case a => decide
 intro cdv A outer s H E B hr al
 have hal : ∀ ρ σ H', Rep K (cfn [] [] B H (fun _ => False) (fun _ _ => False) fun _ => none) ρ σ H' -> AloneA (A.deeper (envOfC "_law_only" (qe zF) s.heap.objs.size f cdv)) H' := Sk.AloneA.rep al (fun _ z => z)
 exact (qg (yJ (DW.dt (qbB (y8 (jt (uM (RN := RN) (m := "SackError") (mgl := mg) XTt (by decide) (by decide) rfl T.b_isinstance rfl (qd 0) (XTt.ask rn0 (by decide)) qx))) (vU (y8 (jt (qiq XTt rfl T.b_isinstance rfl T.b_ValueError (qd 0) qx)))))) (qj (qA vw)) qX)
   (qj (qA (jV (qe4 hr) yA (lC hal C__law_classes hr (qc (qd 0) qf)) (qdb (fo := none) hal (qaB rfl T.b_range (qc qi qf)) (cs ["e", "place"] ["k", "place"] 1 [1] (qe zF)) (f0 [1] []) rfl (fun _ _ _ _ _ _ _ _ _ _ _ hal => ⟨(qJ (i := 0) (nd ["k", "place"])), wP, (jV (qe4 hr) yA (qd 0) (qd 1) (qK _))⟩)) (qK _)))))
theorem v4 : qp ["kind", "store", "room", "u", "e"] ["kind", "store", "room", "u"] (qe z8) := ⟨rfl, rfl, rfl, by decide +kernel, rfl, by decide +kernel, by decide +kernel⟩
abbrev Q33 (P : Program) (w : World) (K : Fr0) (mg : Str -> Option Value) (base : Heap) : Prop := zb P w K mg base 11 "_law_told" ["kind", "store", "room", "u"] (spD K qh)
theorem q33 {f : Addr} {fd : FuncData} (F : Fun K "_law_told" "_law_told" z8 f fd) (m : mg "_law_told" = some (.ref f)) (T : Txt K mg) (XTt : XT K mg RN TN) (hB : K.In base) (C_never_in : Q23 P w K mg base) (C_beaten : Q26 P w K mg base) (C_unbeaten : Q27 P w K mg base) (C_like_joined : Q30 P w K mg base) (C__law_only : Q32 P w K mg base) : Q33 P w K mg base := by
 have hcl : ∀ n, RN.contains n = true -> (clR K RN n).isSome = true := fun n hn => Option.isSome_iff_exists.mpr (XTt.has hn)
 have rn0 : RN.contains "NoNumber" = true := by decide
 obtain ⟨S, mS, xS⟩ := XTt.xcls hB
 refine ⟨f, fd, ?_, m, F.kp, F.binds fun _ _ _ _ _ _ us hl => match us, hl with | [_, _, _, _], _ => rfl⟩
 exact qV (N := ["kind", "store", "room", "u", "e"]) (O := []) (body := yY) F v4 (by decide) fun cdv A outer s H E B hr => (qg (qio (i := 4) v4.nd rfl rfl xS rfl mS (fun ee H6 al => have hal := ql9 (K := K) al; have hr := qix (e := ee) hr; (qdb (fo := none) hal (qaB rfl T.b_range (qc qi qf)) (cs ["kind", "store", "room", "u", "e"] ["place", "e"] 1 [4] (qe z8)) (f0 [4] []) rfl (fun _ _ _ _ _ _ _ _ _ _ _ hal => ⟨(qJ (i := 0) (nd ["place", "e"])), (qaw (jt (lC hal C__law_only hr (qc (qd 1) (qc (qd 0) qf))))), (qd 0)⟩))) (fun xe pn E2 cE L => (qj (yJ (jb (vW hr) yA (qd 0) qi (qK _)) (qj (jj (xC L hcl C_never_in hr (qc (qd 1) (qc (qd 2) (qc (qd 3) qf)))))) (qj (yJ (jb (vW hr) yA (qd 0) qi (qK _)) (qj (jj (xC L hcl C_beaten hr (qc (qd 1) qf)))) (qj (yJ (jb (vW hr) yA (qd 0) qi (qK _)) (qj (jj (xC L hcl C_unbeaten hr (qc (qd 1) qf)))) (qj (jj (xC L hcl C_like_joined hr (qc (qd 1) qf))))))))))))
   (qj (qA (ja qf))))
theorem uu : qp ["box", "many", "left", "digit"] ["box", "many"] (qe jB) := ⟨rfl, rfl, rfl, by decide +kernel, rfl, by decide +kernel, by decide +kernel⟩
abbrev Q34 (P : Program) (w : World) (K : Fr0) (mg : Str -> Option Value) (base : Heap) : Prop := zb P w K mg base 1 "_law_take" ["box", "many"] (qfF K qr)
theorem q34 {f : Addr} {fd : FuncData} (F : Fun K "_law_take" "_law_take" jB f fd) (m : mg "_law_take" = some (.ref f)) (T : Txt K mg) (XTt : XT K mg RN TN) (hB : K.In base) : Q34 P w K mg base := by
 refine ⟨f, fd, ?_, m, F.kp, F.binds fun _ _ _ _ _ _ us hl => match us, hl with | [_, _], _ => rfl⟩
 show ub P w K mg base CX0 1 f fd ["box", "many"] (qfF K (wU (["box", "many", "left", "digit"] : List Str).length (["box", "many"] : List Str).length yZ))
 refine qhX (N := ["box", "many", "left", "digit"]) (ps := ["box", "many"]) (k := 0) (O := [0]) (body := yZ) F uu ?a ?a0 ?b
 case a => decide
 case a0 => decide
 intro cdv A outer s H E B Io S hr
 exact (qg (qjY (zl qch qbE rfl T.b_divmod qeI (qc (qka (i := 0) qi) (qc (qd 1) qf))) (qcN (n := 2) rfl (yt (qJ (i := 2) uu.nd) (yt (qJ (i := 3) uu.nd) qaP))))
   (qg (qeC (i := 0) (qd 2) qi)
   (qj (qA (qd 3)))))
theorem yc : qp ["box", "most", "found", "k", "heft", "gain"] ["box", "most"] (qe jf) := ⟨rfl, rfl, rfl, by decide +kernel, rfl, by decide +kernel, by decide +kernel⟩
abbrev Q35 (P : Program) (w : World) (K : Fr0) (mg : Str -> Option Value) (base : Heap) : Prop := zb P w K mg base 2 "_law_store" ["box", "most"] (qfF K zK)
theorem q35 {f : Addr} {fd : FuncData} (F : Fun K "_law_store" "_law_store" jf f fd) (m : mg "_law_store" = some (.ref f)) (T : Txt K mg) (XTt : XT K mg RN TN) (hB : K.In base) (C__law_take : Q34 P w K mg base) : Q35 P w K mg base := by
 refine ⟨f, fd, ?_, m, F.kp, F.binds fun _ _ _ _ _ _ us hl => match us, hl with | [_, _], _ => rfl⟩
 show ub P w K mg base CX0 2 f fd ["box", "most"] (qfF K (wU (["box", "most", "found", "k", "heft", "gain"] : List Str).length (["box", "most"] : List Str).length yx))
 refine qhX (N := ["box", "most", "found", "k", "heft", "gain"]) (ps := ["box", "most"]) (k := 1) (O := [0, 2]) (body := yx) F yc ?a ?a0 ?b
 case a => decide
 case a0 => decide
 intro cdv A outer s H E B Io S hr
 exact (qg (wT (i := 2) yc.nd (qeD qf))
   (qg (ve PassesOwn.never rfl (yk rfl T.b_range (qc (iC (i := 0) C__law_take hr (qc (qz z5 z6 (qd 1) qi) qf)) qf)) (qJ (i := 3) yc.nd) (qg (qkn (i := 4) (j := 5) yc.nd (qc (qz z5 z6 qi (iC (i := 0) C__law_take hr (qc qi qf))) (qc (iC (i := 0) C__law_take hr (qc qi qf)) qf)) rfl)
   (qj (jj (wS (i := 2) (qW (qc (qd 4) (qc (qd 5) (qc (qE qu qt (ja (qc yi (qc qi (qc qi (qc qi (qc qi (qc qi (qc qi qf)))))))) (iC (i := 0) C__law_take hr (qc qi qf))) qf)))))))))
   (qj (qA (qcq (i := 2) rfl T.b_tuple uy)))))
theorem jU : qp ["box", "some"] ["box"] (qe zk) := ⟨rfl, rfl, rfl, by decide +kernel, rfl, by decide +kernel, by decide +kernel⟩
abbrev Q36 (P : Program) (w : World) (K : Fr0) (mg : Str -> Option Value) (base : Heap) : Prop := zb P w K mg base 2 "_law_no_store" ["box"] (qfF K qR)
theorem q36 {f : Addr} {fd : FuncData} (F : Fun K "_law_no_store" "_law_no_store" zk f fd) (m : mg "_law_no_store" = some (.ref f)) (T : Txt K mg) (XTt : XT K mg RN TN) (hB : K.In base) (C__law_take : Q34 P w K mg base) : Q36 P w K mg base := by
 refine ⟨f, fd, ?_, m, F.kp, F.binds fun _ _ _ _ _ _ us hl => match us, hl with | [_], _ => rfl⟩
 show ub P w K mg base CX0 2 f fd ["box"] (qfF K (wU (["box", "some"] : List Str).length (["box"] : List Str).length jr))
 refine qhX (N := ["box", "some"]) (ps := ["box"]) (k := 1) (O := [0]) (body := jr) F jU ?a ?a0 ?b
 case a => decide
 case a0 => decide
 intro cdv A outer s H E B Io S hr
 exact (qg (zf (i := 1) jU.nd (ja (qc yi (qc (ja (qc (qW (qc qi (qc qi (qc qi qf)))) qf)) (qc (qW (qc qi (qc qi (qc qi qf)))) (qc (qW (qc (qW (qc qi (qc qi (qc qi qf)))) qf)) (qc (qW (qc (qW (qc qi (qc (qcV qi) (qc qi qf)))) qf)) (qc (qW (qc (qW (qc qi (qc qi (qc (qcV qi) qf)))) qf)) (qc (qW (qc (qW (qc qi (qc qi qf))) qf)) (qc (qW (qc (qW (qc vw (qc qi (qc qi qf)))) qf)) qf))))))))))
   (qg (zf (i := 1) jU.nd (qz z5 z6 (qd 1) (ja (qc (qW (qc (qW (qc qi (qc qi (qc qas qf)))) qf)) (qc (qz zT zd (qW (qc (qW (qc qi (qc qi (qc qi qf)))) qf)) qi) (qc qas (qc qi (qc qda (qc (qW (qc (qW (qc qi (qc yi (qc qi qf)))) qf)) (qc (qW (qc yi qf)) (qc (qW (qc (qW (qc qi (qc qi (qc vw qf)))) qf)) qf)))))))))))
   (qj (qA (qE qu qt (qd 1) (iC (i := 0) C__law_take hr (qc qi qf)))))))
theorem zL : qp ["script", "k", "here", "number", "j", "part"] ["script", "k"] (qe yg) := ⟨rfl, rfl, rfl, by decide +kernel, rfl, by decide +kernel, by decide +kernel⟩
abbrev Q37 (P : Program) (w : World) (K : Fr0) (mg : Str -> Option Value) (base : Heap) : Prop := zb P w K mg base 1 "_law_box" ["script", "k"] (spD K jh)
theorem q37 {f : Addr} {fd : FuncData} (F : Fun K "_law_box" "_law_box" yg f fd) (m : mg "_law_box" = some (.ref f)) (T : Txt K mg) (XTt : XT K mg RN TN) (hB : K.In base) : Q37 P w K mg base := by
 refine ⟨f, fd, ?_, m, F.kp, F.binds fun _ _ _ _ _ _ us hl => match us, hl with | [_, _], _ => rfl⟩
 exact qV (N := ["script", "k", "here", "number", "j", "part"]) (O := []) (body := uE) F zL (by decide) fun cdv A outer s H E B hr => (qg (zf (i := 2) zL.nd (qz z5 z6 (qz zT zd qi (qd 1)) qi))
   (qg (yJ (jb qjG qgS (qd 1) (zl jI jJ rfl T.b_len vV (qc (qd 0) qf)) (qK _)) (qj (zf (i := 2) zL.nd (qE qu qt (qd 0) (qd 1)))) qX)
   (qg (yJ (jb (vW hr) yA (qz qaq vx (qd 2) qi) qi (qK _)) (qj (qA (ja (qc (qz wB vc (qd 2) qi) qf)))) qX)
   (qg (zf (i := 3) zL.nd qi)
   (qg (ve PassesOwn.never rfl (yk rfl T.b_range (qc qi qf)) (qJ (i := 4) zL.nd) (qg (zf (i := 5) zL.nd (qz qaq vx (qz z5 z6 (qz z5 z6 (qz zT zd (qz qaq vx (qd 2) qi) qi) (qz zT zd qi (qd 4))) qi) qi))
   (qg (zf (i := 5) zL.nd (qz qaq vx (qz zT zd (qd 5) (qd 5)) qi))
   (qj (zf (i := 3) zL.nd (qz z5 z6 (qz zT zd (qd 3) qi) (qz qaq vx (qz zT zd (qd 5) (qz z5 z6 (qd 5) qi)) qi)))))))
   (qj (qA (ja (qc (qd 3) qf)))))))))
theorem qaI : qp ["script", "k", "box", "bad", "store", "thing"] ["script"] (qe qak) := ⟨rfl, rfl, rfl, by decide +kernel, rfl, by decide +kernel, by decide +kernel⟩
theorem qlm {f : Addr} {fd : FuncData} (F : Fun K "law" "law" qak f fd) (T : Txt K mg) (XTt : XT K mg RN TN) (hB : K.In base) (C__law_told : Q33 P w K mg base) (C__law_take : Q34 P w K mg base) (C__law_store : Q35 P w K mg base) (C__law_no_store : Q36 P w K mg base) (C__law_box : Q37 P w K mg base) : ub P w K mg base CX0 12 f fd ["script"] (spD K qcC) := by
 exact qV (N := ["script", "k", "box", "bad", "store", "thing"]) (O := [2]) (body := qiP) F qaI (by decide) fun cdv A outer s H E B hr => (qg (ve PassesOwn.never rfl (yk rfl T.b_range (qc (zl (qec rfl) qes rfl T.b_max qko (qc qi (qc (zl (qed rfl) qet rfl T.b_min qkp (qc (zl jI jJ rfl T.b_len vV (qc (qd 0) qf)) (qc qi qf))) qf))) qf)) (qJ (i := 1) qaI.nd) (qg (wT (i := 2) qaI.nd (nC C__law_box hr (qc (qd 0) (qc (qd 1) qf))))
   (qg (zf (i := 3) qaI.nd (iC (i := 2) C__law_no_store hr qf))
   (qg (yJ (jb (wW hr) uW (yS (fo := none) rfl (yk rfl T.b_range (qc qi qf)) (cs ["script", "k", "box", "bad", "store", "thing"] ["kind", "bad"] 1 [3] (qe qak)) (f0 [3] [2]) (fun _ _ _ _ _ _ _ _ _ _ _ => ⟨(qJ (i := 0) (nd ["kind", "bad"])), wP, (dC C__law_told hr (qc (qd 0) (qc (qd 1) (qc yi (qc yi qf)))))⟩)) (qz zT zd (ja (qc (ja (qc qi qf)) qf)) qi) (qK _)) (qj (qA vw)) qX)
   (qg (zf (i := 4) qaI.nd (iC (i := 2) C__law_store hr (qc qi qf)))
   (qg (ve PassesOwn.never rfl (uI (ja (qc vw (qc yi (qc qas (qc (qW (qc qi qf)) (qc (ja (qc qi qf)) (qc qda qf)))))))) (qJ (i := 5) qaI.nd) (qj (yJ (DW.dt (qbB (jb (wW hr) uW (dC C__law_told hr (qc qi (qc (qd 4) (qc (qd 5) (qc qi qf))))) (ja (qc qi qf)) (qK _)) (vU (jb (wW hr) uW (dC C__law_told hr (qc qi (qc (qd 4) (qc qi (qc (qd 5) qf))))) (ja (qc qi qf)) (qK _))))) (qj (qA vw)) qX)))
   (qj (yJ (DW.dt (qbB (jb (wW hr) uW (dC C__law_told hr (qc qi (qc (qd 4) (qc (qz qcK qaQ (qcV qi) (iC (i := 2) C__law_take hr (qc qi qf))) (qc qi qf))))) (ja (qc qi qf)) (qK _)) (vU (jb (wW hr) uW (dC C__law_told hr (qc qi (qc (qd 4) (qc qi (qc qi qf))))) (ja qf) (qK _))))) (qj (qA vw)) qX))))))))
   (qj (qA vw)))
end
theorem all_mk {l : PySem.W.OpenLaw} {w : World} {K : PySem.W.Frag} {h : Heap} {mg : Str -> Option Value} {fa f0 f1 f2 f3 f4 f5 f6 f7 f8 f9 f10 f11 f12 f13 f14 f15 f16 f17 f18 f19 f20 f21 f22 f23 f24 f25 f26 f27 f28 f29 f30 f31 f32 f33 f34 f35 f36 f37 f38 : Addr} (X : K.In h) (G : h.Ns mainGlobals mg) (hfa : mg "law" = some (.ref fa))
  {od0 an0 od1 an1 od2 an2 od3 an3 od4 an4 od5 an5 od6 an6 od7 an7 od8 an8 od9 an9 od10 an10 od11 an11 od12 an12 od13 an13 od14 an14 od15 an15 od16 an16 od17 an17 od18 an18 od19 an19 od20 an20 od21 an21 od22 an22 od23 an23 od24 an24 od25 an25 od26 an26 od27 an27 od28 an28 od29 an29 od30 an30 od31 an31 od32 an32 od33 an33 od34 an34 od35 an35 od36 an36 od37 an37 od38 an38 : Option Addr} {sl0 sl1 sl2 sl3 sl4 sl5 sl6 sl7 sl8 sl9 sl10 sl11 sl12 sl13 sl14 sl15 sl16 sl17 sl18 sl19 sl20 sl21 sl22 sl23 sl24 sl25 sl26 sl27 sl28 sl29 sl30 sl31 sl32 sl33 sl34 sl35 sl36 sl37 sl38 : Array (Option Value)} {oc0 kV0 dc0 pm0 cd0 ct0 oc1 kV1 dc1 pm1 cd1 ct1 oc2 kV2 dc2 pm2 cd2 ct2 oc3 kV3 dc3 pm3 cd3 ct3 oc4 kV4 dc4 pm4 cd4 ct4 oc5 kV5 dc5 pm5 cd5 ct5 oc6 kV6 dc6 pm6 cd6 ct6 oc7 kV7 dc7 pm7 cd7 ct7 oc8 kV8 dc8 pm8 cd8 ct8 oc9 kV9 dc9 pm9 cd9 ct9 oc10 kV10 dc10 pm10 cd10 ct10 oc11 kV11 dc11 pm11 cd11 ct11 oc12 kV12 dc12 pm12 cd12 ct12 oc13 kV13 dc13 pm13 cd13 ct13 oc14 kV14 dc14 pm14 cd14 ct14 oc15 kV15 dc15 pm15 cd15 ct15 oc16 kV16 dc16 pm16 cd16 ct16 oc17 kV17 dc17 pm17 cd17 ct17 oc18 kV18 dc18 pm18 cd18 ct18 oc19 kV19 dc19 pm19 cd19 ct19 oc20 kV20 dc20 pm20 cd20 ct20 oc21 kV21 dc21 pm21 cd21 ct21 oc22 kV22 dc22 pm22 cd22 ct22 oc23 kV23 dc23 pm23 cd23 ct23 oc24 kV24 dc24 pm24 cd24 ct24 oc25 kV25 dc25 pm25 cd25 ct25 oc26 kV26 dc26 pm26 cd26 ct26 oc27 kV27 dc27 pm27 cd27 ct27 oc28 kV28 dc28 pm28 cd28 ct28 oc29 kV29 dc29 pm29 cd29 ct29 oc30 kV30 dc30 pm30 cd30 ct30 oc31 kV31 dc31 pm31 cd31 ct31 oc32 kV32 dc32 pm32 cd32 ct32 oc33 kV33 dc33 pm33 cd33 ct33 oc34 kV34 dc34 pm34 cd34 ct34 oc35 kV35 dc35 pm35 cd35 ct35 oc36 kV36 dc36 pm36 cd36 ct36 oc37 kV37 dc37 pm37 cd37 ct37 oc38 kV38 dc38 pm38 cd38 ct38 : Value} {tk_BOTTOM : Tok} {tk_KINDS_AT_MOST : Tok} {tk_MOST : Tok} {qa_NOTHING : Addr} {qd_NOTHING : Option Addr} {qi_NOTHING : Array Value} {qn_NOTHING : Nat} {qs_NOTHING : Array (Option Value)} {tk_NOTHING_0 : Tok} {tk_NOTHING_1 : Tok} {tk_TOP : Tok} {tk_WEIGHT : Tok} {tk_WORTH : Tok} {lc0 Pt : Addr} {kc1 : Value} {kc2 : Option Addr} {kvs : Array Value} {kc3 : Array (Option Value)}
  (a0 : PySem.W.nsIn K mainGlobals "weights_product" = some (some (.ref f0))) (l0 : K.lookup f0 = some ⟨oc0, od0, .func (PySem.W.fnOf "weights_product" "weights_product" (qv qP) (qo qP) (qe qP) .none kV0 dc0 pm0 an0 cd0 ct0), sl0⟩) (c0 : PySem.W.codeIn K cd0 "weights_product" = true) (k0 : PySem.W.keepIn K (.ref f0) = true)
  (a1 : PySem.W.nsIn K mainGlobals "dearest_first" = some (some (.ref f1))) (l1 : K.lookup f1 = some ⟨oc1, od1, .func (PySem.W.fnOf "dearest_first" "dearest_first" (qv qG) (qo qG) (qe qG) .none kV1 dc1 pm1 an1 cd1 ct1), sl1⟩) (c1 : PySem.W.codeIn K cd1 "dearest_first" = true) (k1 : PySem.W.keepIn K (.ref f1) = true)
  (a2 : PySem.W.nsIn K mainGlobals "all_go_in" = some (some (.ref f2))) (l2 : K.lookup f2 = some ⟨oc2, od2, .func (PySem.W.fnOf "all_go_in" "all_go_in" (qv jw) (qo jw) (qe jw) .none kV2 dc2 pm2 an2 cd2 ct2), sl2⟩) (c2 : PySem.W.codeIn K cd2 "all_go_in" = true) (k2 : PySem.W.keepIn K (.ref f2) = true)
  (a3 : PySem.W.nsIn K mainGlobals "room_behind" = some (some (.ref f3))) (l3 : K.lookup f3 = some ⟨oc3, od3, .func (PySem.W.fnOf "room_behind" "room_behind" (qv zP) (qo zP) (qe zP) .none kV3 dc3 pm3 an3 cd3 ct3), sl3⟩) (c3 : PySem.W.codeIn K cd3 "room_behind" = true) (k3 : PySem.W.keepIn K (.ref f3) = true)
  (a4 : PySem.W.nsIn K mainGlobals "greatest_divisor" = some (some (.ref f4))) (l4 : K.lookup f4 = some ⟨oc4, od4, .func (PySem.W.fnOf "greatest_divisor" "greatest_divisor" (qv qM) (qo qM) (qe qM) .none kV4 dc4 pm4 an4 cd4 ct4), sl4⟩) (c4 : PySem.W.codeIn K cd4 "greatest_divisor" = true) (k4 : PySem.W.keepIn K (.ref f4) = true)
  (a5 : PySem.W.nsIn K mainGlobals "lowest_terms" = some (some (.ref f5))) (l5 : K.lookup f5 = some ⟨oc5, od5, .func (PySem.W.fnOf "lowest_terms" "lowest_terms" (qv zu) (qo zu) (qe zu) .none kV5 dc5 pm5 an5 cd5 ct5), sl5⟩) (c5 : PySem.W.codeIn K cd5 "lowest_terms" = true) (k5 : PySem.W.keepIn K (.ref f5) = true)
  (a6 : PySem.W.nsIn K mainGlobals "best_share" = some (some (.ref f6))) (l6 : K.lookup f6 = some ⟨oc6, od6, .func (PySem.W.fnOf "best_share" "best_share" (qv jd) (qo jd) (qe jd) .none kV6 dc6 pm6 an6 cd6 ct6), sl6⟩) (c6 : PySem.W.codeIn K cd6 "best_share" = true) (k6 : PySem.W.keepIn K (.ref f6) = true)
  (a7 : PySem.W.nsIn K mainGlobals "is_whole" = some (some (.ref f7))) (l7 : K.lookup f7 = some ⟨oc7, od7, .func (PySem.W.fnOf "is_whole" "is_whole" (qv yd) (qo yd) (qe yd) .none kV7 dc7 pm7 an7 cd7 ct7), sl7⟩) (c7 : PySem.W.codeIn K cd7 "is_whole" = true) (k7 : PySem.W.keepIn K (.ref f7) = true)
  (a8 : PySem.W.nsIn K mainGlobals "is_count" = some (some (.ref f8))) (l8 : K.lookup f8 = some ⟨oc8, od8, .func (PySem.W.fnOf "is_count" "is_count" (qv ye) (qo ye) (qe ye) .none kV8 dc8 pm8 an8 cd8 ct8), sl8⟩) (c8 : PySem.W.codeIn K cd8 "is_count" = true) (k8 : PySem.W.keepIn K (.ref f8) = true)
  (a9 : PySem.W.nsIn K mainGlobals "need_count" = some (some (.ref f9))) (l9 : K.lookup f9 = some ⟨oc9, od9, .func (PySem.W.fnOf "need_count" "need_count" (qv zC) (qo zC) (qe zC) .none kV9 dc9 pm9 an9 cd9 ct9), sl9⟩) (c9 : PySem.W.codeIn K cd9 "need_count" = true) (k9 : PySem.W.keepIn K (.ref f9) = true)
  (a10 : PySem.W.nsIn K mainGlobals "is_kind" = some (some (.ref f10))) (l10 : K.lookup f10 = some ⟨oc10, od10, .func (PySem.W.fnOf "is_kind" "is_kind" (qv yM) (qo yM) (qe yM) .none kV10 dc10 pm10 an10 cd10 ct10), sl10⟩) (c10 : PySem.W.codeIn K cd10 "is_kind" = true) (k10 : PySem.W.keepIn K (.ref f10) = true)
  (a11 : PySem.W.nsIn K mainGlobals "is_store" = some (some (.ref f11))) (l11 : K.lookup f11 = some ⟨oc11, od11, .func (PySem.W.fnOf "is_store" "is_store" (qv jx) (qo jx) (qe jx) .none kV11 dc11 pm11 an11 cd11 ct11), sl11⟩) (c11 : PySem.W.codeIn K cd11 "is_store" = true) (k11 : PySem.W.keepIn K (.ref f11) = true)
  (a12 : PySem.W.nsIn K mainGlobals "need_store" = some (some (.ref f12))) (l12 : K.lookup f12 = some ⟨oc12, od12, .func (PySem.W.fnOf "need_store" "need_store" (qv zD) (qo zD) (qe zD) .none kV12 dc12 pm12 an12 cd12 ct12), sl12⟩) (c12 : PySem.W.codeIn K cd12 "need_store" = true) (k12 : PySem.W.keepIn K (.ref f12) = true)
  (a13 : PySem.W.nsIn K mainGlobals "best_shares" = some (some (.ref f13))) (l13 : K.lookup f13 = some ⟨oc13, od13, .func (PySem.W.fnOf "best_shares" "best_shares" (qv zn) (qo zn) (qe zn) .none kV13 dc13 pm13 an13 cd13 ct13), sl13⟩) (c13 : PySem.W.codeIn K cd13 "best_shares" = true) (k13 : PySem.W.keepIn K (.ref f13) = true)
  (a14 : PySem.W.nsIn K mainGlobals "added" = some (some (.ref f14))) (l14 : K.lookup f14 = some ⟨oc14, od14, .func (PySem.W.fnOf "added" "added" (qv vH) (qo vH) (qe vH) .none kV14 dc14 pm14 an14 cd14 ct14), sl14⟩) (c14 : PySem.W.codeIn K cd14 "added" = true) (k14 : PySem.W.keepIn K (.ref f14) = true)
  (a15 : PySem.W.nsIn K mainGlobals "share_worth" = some (some (.ref f15))) (l15 : K.lookup f15 = some ⟨oc15, od15, .func (PySem.W.fnOf "share_worth" "share_worth" (qv zq) (qo zq) (qe zq) .none kV15 dc15 pm15 an15 cd15 ct15), sl15⟩) (c15 : PySem.W.codeIn K cd15 "share_worth" = true) (k15 : PySem.W.keepIn K (.ref f15) = true)
  (a16 : PySem.W.nsIn K mainGlobals "whole_bound" = some (some (.ref f16))) (l16 : K.lookup f16 = some ⟨oc16, od16, .func (PySem.W.fnOf "whole_bound" "whole_bound" (qv zr) (qo zr) (qe zr) .none kV16 dc16 pm16 an16 cd16 ct16), sl16⟩) (c16 : PySem.W.codeIn K cd16 "whole_bound" = true) (k16 : PySem.W.keepIn K (.ref f16) = true)
  (a17 : PySem.W.nsIn K mainGlobals "with_kind" = some (some (.ref f17))) (l17 : K.lookup f17 = some ⟨oc17, od17, .func (PySem.W.fnOf "with_kind" "with_kind" (qv jy) (qo jy) (qe jy) .none kV17 dc17 pm17 an17 cd17 ct17), sl17⟩) (c17 : PySem.W.codeIn K cd17 "with_kind" = true) (k17 : PySem.W.keepIn K (.ref f17) = true)
  (a18 : PySem.W.nsIn K mainGlobals "with_most" = some (some (.ref f18))) (l18 : K.lookup f18 = some ⟨oc18, od18, .func (PySem.W.fnOf "with_most" "with_most" (qv jz) (qo jz) (qe jz) .none kV18 dc18 pm18 an18 cd18 ct18), sl18⟩) (c18 : PySem.W.codeIn K cd18 "with_most" = true) (k18 : PySem.W.keepIn K (.ref f18) = true)
  (a19 : PySem.W.nsIn K mainGlobals "most_left" = some (some (.ref f19))) (l19 : K.lookup f19 = some ⟨oc19, od19, .func (PySem.W.fnOf "most_left" "most_left" (qv jA) (qo jA) (qe jA) .none kV19 dc19 pm19 an19 cd19 ct19), sl19⟩) (c19 : PySem.W.codeIn K cd19 "most_left" = true) (k19 : PySem.W.keepIn K (.ref f19) = true)
  (a20 : PySem.W.nsIn K mainGlobals "is_there" = some (some (.ref f20))) (l20 : K.lookup f20 = some ⟨oc20, od20, .func (PySem.W.fnOf "is_there" "is_there" (qv yf) (qo yf) (qe yf) .none kV20 dc20 pm20 an20 cd20 ct20), sl20⟩) (c20 : PySem.W.codeIn K cd20 "is_there" = true) (k20 : PySem.W.keepIn K (.ref f20) = true)
  (a21 : PySem.W.nsIn K mainGlobals "may_be_in" = some (some (.ref f21))) (l21 : K.lookup f21 = some ⟨oc21, od21, .func (PySem.W.fnOf "may_be_in" "may_be_in" (qv z7) (qo z7) (qe z7) .none kV21 dc21 pm21 an21 cd21 ct21), sl21⟩) (c21 : PySem.W.codeIn K cd21 "may_be_in" = true) (k21 : PySem.W.keepIn K (.ref f21) = true)
  (a22 : PySem.W.nsIn K mainGlobals "need_whole" = some (some (.ref f22))) (l22 : K.lookup f22 = some ⟨oc22, od22, .func (PySem.W.fnOf "need_whole" "need_whole" (qv zE) (qo zE) (qe zE) .none kV22 dc22 pm22 an22 cd22 ct22), sl22⟩) (c22 : PySem.W.codeIn K cd22 "need_whole" = true) (k22 : PySem.W.keepIn K (.ref f22) = true)
  (a23 : PySem.W.nsIn K mainGlobals "never_in" = some (some (.ref f23))) (l23 : K.lookup f23 = some ⟨oc23, od23, .func (PySem.W.fnOf "never_in" "never_in" (qv je) (qo je) (qe je) .none kV23 dc23 pm23 an23 cd23 ct23), sl23⟩) (c23 : PySem.W.codeIn K cd23 "never_in" = true) (k23 : PySem.W.keepIn K (.ref f23) = true)
  (a24 : PySem.W.nsIn K mainGlobals "does_as_well" = some (some (.ref f24))) (l24 : K.lookup f24 = some ⟨oc24, od24, .func (PySem.W.fnOf "does_as_well" "does_as_well" (qv zv) (qo zv) (qe zv) .none kV24 dc24 pm24 an24 cd24 ct24), sl24⟩) (c24 : PySem.W.codeIn K cd24 "does_as_well" = true) (k24 : PySem.W.keepIn K (.ref f24) = true)
  (a25 : PySem.W.nsIn K mainGlobals "beats" = some (some (.ref f25))) (l25 : K.lookup f25 = some ⟨oc25, od25, .func (PySem.W.fnOf "beats" "beats" (qv vI) (qo vI) (qe vI) .none kV25 dc25 pm25 an25 cd25 ct25), sl25⟩) (c25 : PySem.W.codeIn K cd25 "beats" = true) (k25 : PySem.W.keepIn K (.ref f25) = true)
  (a26 : PySem.W.nsIn K mainGlobals "beaten" = some (some (.ref f26))) (l26 : K.lookup f26 = some ⟨oc26, od26, .func (PySem.W.fnOf "beaten" "beaten" (qv jZ) (qo jZ) (qe jZ) .none kV26 dc26 pm26 an26 cd26 ct26), sl26⟩) (c26 : PySem.W.codeIn K cd26 "beaten" = true) (k26 : PySem.W.keepIn K (.ref f26) = true)
  (a27 : PySem.W.nsIn K mainGlobals "unbeaten" = some (some (.ref f27))) (l27 : K.lookup f27 = some ⟨oc27, od27, .func (PySem.W.fnOf "unbeaten" "unbeaten" (qv zQ) (qo zQ) (qe zQ) .none kV27 dc27 pm27 an27 cd27 ct27), sl27⟩) (c27 : PySem.W.codeIn K cd27 "unbeaten" = true) (k27 : PySem.W.keepIn K (.ref f27) = true)
  (a28 : PySem.W.nsIn K mainGlobals "is_like" = some (some (.ref f28))) (l28 : K.lookup f28 = some ⟨oc28, od28, .func (PySem.W.fnOf "is_like" "is_like" (qv yN) (qo yN) (qe yN) .none kV28 dc28 pm28 an28 cd28 ct28), sl28⟩) (c28 : PySem.W.codeIn K cd28 "is_like" = true) (k28 : PySem.W.keepIn K (.ref f28) = true)
  (a29 : PySem.W.nsIn K mainGlobals "most_together" = some (some (.ref f29))) (l29 : K.lookup f29 = some ⟨oc29, od29, .func (PySem.W.fnOf "most_together" "most_together" (qv qL) (qo qL) (qe qL) .none kV29 dc29 pm29 an29 cd29 ct29), sl29⟩) (c29 : PySem.W.codeIn K cd29 "most_together" = true) (k29 : PySem.W.keepIn K (.ref f29) = true)
  (a30 : PySem.W.nsIn K mainGlobals "like_joined" = some (some (.ref f30))) (l30 : K.lookup f30 = some ⟨oc30, od30, .func (PySem.W.fnOf "like_joined" "like_joined" (qv qN) (qo qN) (qe qN) .none kV30 dc30 pm30 an30 cd30 ct30), sl30⟩) (c30 : PySem.W.codeIn K cd30 "like_joined" = true) (k30 : PySem.W.keepIn K (.ref f30) = true)
  (a31 : PySem.W.nsIn K mainGlobals "_law_classes" = some (some (.ref f31))) (l31 : K.lookup f31 = some ⟨oc31, od31, .func (PySem.W.fnOf "_law_classes" "_law_classes" (qv qZ) (qo qZ) (qe qZ) .none kV31 dc31 pm31 an31 cd31 ct31), sl31⟩) (c31 : PySem.W.codeIn K cd31 "_law_classes" = true) (k31 : PySem.W.keepIn K (.ref f31) = true)
  (a32 : PySem.W.nsIn K mainGlobals "_law_only" = some (some (.ref f32))) (l32 : K.lookup f32 = some ⟨oc32, od32, .func (PySem.W.fnOf "_law_only" "_law_only" (qv zF) (qo zF) (qe zF) .none kV32 dc32 pm32 an32 cd32 ct32), sl32⟩) (c32 : PySem.W.codeIn K cd32 "_law_only" = true) (k32 : PySem.W.keepIn K (.ref f32) = true)
  (a33 : PySem.W.nsIn K mainGlobals "_law_told" = some (some (.ref f33))) (l33 : K.lookup f33 = some ⟨oc33, od33, .func (PySem.W.fnOf "_law_told" "_law_told" (qv z8) (qo z8) (qe z8) .none kV33 dc33 pm33 an33 cd33 ct33), sl33⟩) (c33 : PySem.W.codeIn K cd33 "_law_told" = true) (k33 : PySem.W.keepIn K (.ref f33) = true)
  (a34 : PySem.W.nsIn K mainGlobals "_law_take" = some (some (.ref f34))) (l34 : K.lookup f34 = some ⟨oc34, od34, .func (PySem.W.fnOf "_law_take" "_law_take" (qv jB) (qo jB) (qe jB) .none kV34 dc34 pm34 an34 cd34 ct34), sl34⟩) (c34 : PySem.W.codeIn K cd34 "_law_take" = true) (k34 : PySem.W.keepIn K (.ref f34) = true)
  (a35 : PySem.W.nsIn K mainGlobals "_law_store" = some (some (.ref f35))) (l35 : K.lookup f35 = some ⟨oc35, od35, .func (PySem.W.fnOf "_law_store" "_law_store" (qv jf) (qo jf) (qe jf) .none kV35 dc35 pm35 an35 cd35 ct35), sl35⟩) (c35 : PySem.W.codeIn K cd35 "_law_store" = true) (k35 : PySem.W.keepIn K (.ref f35) = true)
  (a36 : PySem.W.nsIn K mainGlobals "_law_no_store" = some (some (.ref f36))) (l36 : K.lookup f36 = some ⟨oc36, od36, .func (PySem.W.fnOf "_law_no_store" "_law_no_store" (qv zk) (qo zk) (qe zk) .none kV36 dc36 pm36 an36 cd36 ct36), sl36⟩) (c36 : PySem.W.codeIn K cd36 "_law_no_store" = true) (k36 : PySem.W.keepIn K (.ref f36) = true)
  (a37 : PySem.W.nsIn K mainGlobals "_law_box" = some (some (.ref f37))) (l37 : K.lookup f37 = some ⟨oc37, od37, .func (PySem.W.fnOf "_law_box" "_law_box" (qv yg) (qo yg) (qe yg) .none kV37 dc37 pm37 an37 cd37 ct37), sl37⟩) (c37 : PySem.W.codeIn K cd37 "_law_box" = true) (k37 : PySem.W.keepIn K (.ref f37) = true)
  (a38 : PySem.W.nsIn K mainGlobals "law" = some (some (.ref f38))) (l38 : K.lookup f38 = some ⟨oc38, od38, .func (PySem.W.fnOf "law" "law" (qv qak) (qo qak) (qe qak) .none kV38 dc38 pm38 an38 cd38 ct38), sl38⟩) (c38 : PySem.W.codeIn K cd38 "law" = true) (k38 : PySem.W.keepIn K (.ref f38) = true)
  (zb_ValueError : PySem.W.nsIn K mainGlobals "ValueError" = some none)
  (zb_all : PySem.W.nsIn K mainGlobals "all" = some none)
  (zb_any : PySem.W.nsIn K mainGlobals "any" = some none)
  (zb_bool : PySem.W.nsIn K mainGlobals "bool" = some none)
  (zb_divmod : PySem.W.nsIn K mainGlobals "divmod" = some none)
  (zb_enumerate : PySem.W.nsIn K mainGlobals "enumerate" = some none)
  (zb_int : PySem.W.nsIn K mainGlobals "int" = some none)
  (zb_isinstance : PySem.W.nsIn K mainGlobals "isinstance" = some none)
  (zb_len : PySem.W.nsIn K mainGlobals "len" = some none)
  (zb_max : PySem.W.nsIn K mainGlobals "max" = some none)
  (zb_min : PySem.W.nsIn K mainGlobals "min" = some none)
  (zb_range : PySem.W.nsIn K mainGlobals "range" = some none)
  (zb_sorted : PySem.W.nsIn K mainGlobals "sorted" = some none)
  (zb_sum : PySem.W.nsIn K mainGlobals "sum" = some none)
  (zb_tuple : PySem.W.nsIn K mainGlobals "tuple" = some none)
  (zb_zip : PySem.W.nsIn K mainGlobals "zip" = some none)
  (xz : ql4 K RN TN = true)
  (zg_BOTTOM : PySem.W.nsIn K mainGlobals "BOTTOM" = some (some (.int 1 tk_BOTTOM)))
  (zg_KINDS_AT_MOST : PySem.W.nsIn K mainGlobals "KINDS_AT_MOST" = some (some (.int 12 tk_KINDS_AT_MOST)))
  (zg_MOST : PySem.W.nsIn K mainGlobals "MOST" = some (some (.int 2 tk_MOST)))
  (zg_NOTHING : PySem.W.nsIn K mainGlobals "NOTHING" = some (some (.ref qa_NOTHING))) (zl_NOTHING : K.lookup qa_NOTHING = some ⟨.type "tuple", qd_NOTHING, .seq qi_NOTHING qn_NOTHING, qs_NOTHING⟩) (zv_NOTHING : qi_NOTHING.toList = [.int 0 tk_NOTHING_0, .int 1 tk_NOTHING_1])
  (zg_TOP : PySem.W.nsIn K mainGlobals "TOP" = some (some (.int 0 tk_TOP)))
  (zg_WEIGHT : PySem.W.nsIn K mainGlobals "WEIGHT" = some (some (.int 0 tk_WEIGHT)))
  (zg_WORTH : PySem.W.nsIn K mainGlobals "WORTH" = some (some (.int 1 tk_WORTH)))
  (zc : cd1 = .ref lc0) (zo : K.lookup lc0 = some ⟨kc1, kc2, .fields kvs, kc3⟩) (zp : kvs[11]? = some (.ref Pt)) (zm : qah K = some (lc0, Pt, ⟨84, 30, 84, 100⟩)) (zh : PySem.W.codeHdIn K lc0 Pt = true) :
  ∃ fd : FuncData, (∀ (s : Shared) (v : Value), BindsTo s fd ⟨[v], []⟩ [("script", v)]) /\ ∀ base : Heap, K.In base -> base.Ns mainGlobals mg -> ub l.prog w K mg base CX0 12 fa fd ["script"] (spD K qcC) := by
 have e := hfa.symm.trans (PySem.W.mg_of X G a38)
 cases e
 have T : Txt K mg := ⟨PySem.W.mg_none_of X G zb_ValueError, PySem.W.mg_none_of X G zb_all, PySem.W.mg_none_of X G zb_any, PySem.W.mg_none_of X G zb_bool, PySem.W.mg_none_of X G zb_divmod, PySem.W.mg_none_of X G zb_enumerate, PySem.W.mg_none_of X G zb_int, PySem.W.mg_none_of X G zb_isinstance, PySem.W.mg_none_of X G zb_len, PySem.W.mg_none_of X G zb_max, PySem.W.mg_none_of X G zb_min, PySem.W.mg_none_of X G zb_range, PySem.W.mg_none_of X G zb_sorted, PySem.W.mg_none_of X G zb_sum, PySem.W.mg_none_of X G zb_tuple, PySem.W.mg_none_of X G zb_zip, ⟨_, PySem.W.mg_of X G zg_BOTTOM⟩, ⟨_, PySem.W.mg_of X G zg_KINDS_AT_MOST⟩, ⟨_, PySem.W.mg_of X G zg_MOST⟩, ⟨_, PySem.W.mg_of X G zg_NOTHING, ql2 zl_NOTHING zv_NOTHING⟩, ⟨_, PySem.W.mg_of X G zg_TOP⟩, ⟨_, PySem.W.mg_of X G zg_WEIGHT⟩, ⟨_, PySem.W.mg_of X G zg_WORTH⟩⟩
 refine ⟨PySem.W.fnOf "law" "law" (qv qak) (qo qak) (qe qak) .none kV38 dc38 pm38 an38 cd38 ct38, fun s v => .of_eq rfl, fun base hB _ => ?_⟩
 have XTt : XT K mg RN TN := ⟨xz, qgl X G⟩
 have C_weights_product := q0 (P := l.prog) (w := w) (base := base) (qF (st := qP) l0 c0 k0) (PySem.W.mg_of X G a0) T XTt hB
 have C_dearest_first := q1 (P := l.prog) (w := w) (base := base) (qF (st := qG) l1 c1 k1) (PySem.W.mg_of X G a1) T XTt hB zc zh zm C_weights_product
 have C_all_go_in := q2 (P := l.prog) (w := w) (base := base) (qF (st := jw) l2 c2 k2) (PySem.W.mg_of X G a2) T XTt hB
 have C_room_behind := q3 (P := l.prog) (w := w) (base := base) (qF (st := zP) l3 c3 k3) (PySem.W.mg_of X G a3) T XTt hB C_all_go_in
 have C_greatest_divisor := q4 (P := l.prog) (w := w) (base := base) (qF (st := qM) l4 c4 k4) (PySem.W.mg_of X G a4) T XTt hB
 have C_lowest_terms := q5 (P := l.prog) (w := w) (base := base) (qF (st := zu) l5 c5 k5) (PySem.W.mg_of X G a5) T XTt hB C_greatest_divisor
 have C_best_share := q6 (P := l.prog) (w := w) (base := base) (qF (st := jd) l6 c6 k6) (PySem.W.mg_of X G a6) T XTt hB C_all_go_in C_lowest_terms
 have C_is_whole := q7 (P := l.prog) (w := w) (base := base) (qF (st := yd) l7 c7 k7) (PySem.W.mg_of X G a7) T XTt hB
 have C_is_count := q8 (P := l.prog) (w := w) (base := base) (qF (st := ye) l8 c8 k8) (PySem.W.mg_of X G a8) T XTt hB C_is_whole
 have C_need_count := q9 (P := l.prog) (w := w) (base := base) (qF (st := zC) l9 c9 k9) (PySem.W.mg_of X G a9) T XTt hB C_is_count
 have C_is_kind := q10 (P := l.prog) (w := w) (base := base) (qF (st := yM) l10 c10 k10) (PySem.W.mg_of X G a10) T XTt hB C_is_count
 have C_is_store := q11 (P := l.prog) (w := w) (base := base) (qF (st := jx) l11 c11 k11) (PySem.W.mg_of X G a11) T XTt hB C_is_kind
 have C_need_store := q12 (P := l.prog) (w := w) (base := base) (qF (st := zD) l12 c12 k12) (PySem.W.mg_of X G a12) T XTt hB C_is_store
 have C_best_shares := q13 (P := l.prog) (w := w) (base := base) (qF (st := zn) l13 c13 k13) (PySem.W.mg_of X G a13) T XTt hB C_dearest_first C_room_behind C_best_share C_need_count C_need_store
 have C_added := q14 (P := l.prog) (w := w) (base := base) (qF (st := vH) l14 c14 k14) (PySem.W.mg_of X G a14) T XTt hB C_lowest_terms
 have C_share_worth := q15 (P := l.prog) (w := w) (base := base) (qF (st := zq) l15 c15 k15) (PySem.W.mg_of X G a15) T XTt hB C_best_shares C_added
 have C_whole_bound := q16 (P := l.prog) (w := w) (base := base) (qF (st := zr) l16 c16 k16) (PySem.W.mg_of X G a16) T XTt hB C_share_worth
 have C_with_kind := q17 (P := l.prog) (w := w) (base := base) (qF (st := jy) l17 c17 k17) (PySem.W.mg_of X G a17) T XTt hB
 have C_with_most := q18 (P := l.prog) (w := w) (base := base) (qF (st := jz) l18 c18 k18) (PySem.W.mg_of X G a18) T XTt hB
 have C_most_left := q19 (P := l.prog) (w := w) (base := base) (qF (st := jA) l19 c19 k19) (PySem.W.mg_of X G a19) T XTt hB
 have C_is_there := q20 (P := l.prog) (w := w) (base := base) (qF (st := yf) l20 c20 k20) (PySem.W.mg_of X G a20) T XTt hB
 have C_may_be_in := q21 (P := l.prog) (w := w) (base := base) (qF (st := z7) l21 c21 k21) (PySem.W.mg_of X G a21) T XTt hB C_whole_bound C_with_kind C_with_most C_most_left C_is_there
 have C_need_whole := q22 (P := l.prog) (w := w) (base := base) (qF (st := zE) l22 c22 k22) (PySem.W.mg_of X G a22) T XTt hB C_is_whole
 have C_never_in := q23 (P := l.prog) (w := w) (base := base) (qF (st := je) l23 c23 k23) (PySem.W.mg_of X G a23) T XTt hB C_may_be_in C_need_whole C_need_count C_need_store
 have C_does_as_well := q24 (P := l.prog) (w := w) (base := base) (qF (st := zv) l24 c24 k24) (PySem.W.mg_of X G a24) T XTt hB
 have C_beats := q25 (P := l.prog) (w := w) (base := base) (qF (st := vI) l25 c25 k25) (PySem.W.mg_of X G a25) T XTt hB C_does_as_well
 have C_beaten := q26 (P := l.prog) (w := w) (base := base) (qF (st := jZ) l26 c26 k26) (PySem.W.mg_of X G a26) T XTt hB C_beats C_need_store
 have C_unbeaten := q27 (P := l.prog) (w := w) (base := base) (qF (st := zQ) l27 c27 k27) (PySem.W.mg_of X G a27) T XTt hB C_beaten
 have C_is_like := q28 (P := l.prog) (w := w) (base := base) (qF (st := yN) l28 c28 k28) (PySem.W.mg_of X G a28) T XTt hB
 have C_most_together := q29 (P := l.prog) (w := w) (base := base) (qF (st := qL) l29 c29 k29) (PySem.W.mg_of X G a29) T XTt hB
 have C_like_joined := q30 (P := l.prog) (w := w) (base := base) (qF (st := qN) l30 c30 k30) (PySem.W.mg_of X G a30) T XTt hB C_is_like C_with_most C_most_together C_need_store
 have C__law_classes := q31 (P := l.prog) (w := w) (base := base) (qF (st := qZ) l31 c31 k31) (PySem.W.mg_of X G a31) T XTt hB
 have C__law_only := q32 (P := l.prog) (w := w) (base := base) (qF (st := zF) l32 c32 k32) (PySem.W.mg_of X G a32) T XTt hB C__law_classes
 have C__law_told := q33 (P := l.prog) (w := w) (base := base) (qF (st := z8) l33 c33 k33) (PySem.W.mg_of X G a33) T XTt hB C_never_in C_beaten C_unbeaten C_like_joined C__law_only
 have C__law_take := q34 (P := l.prog) (w := w) (base := base) (qF (st := jB) l34 c34 k34) (PySem.W.mg_of X G a34) T XTt hB
 have C__law_store := q35 (P := l.prog) (w := w) (base := base) (qF (st := jf) l35 c35 k35) (PySem.W.mg_of X G a35) T XTt hB C__law_take
 have C__law_no_store := q36 (P := l.prog) (w := w) (base := base) (qF (st := zk) l36 c36 k36) (PySem.W.mg_of X G a36) T XTt hB C__law_take
 have C__law_box := q37 (P := l.prog) (w := w) (base := base) (qF (st := yg) l37 c37 k37) (PySem.W.mg_of X G a37) T XTt hB
 exact qlm (P := l.prog) (w := w) (base := base) (qF (st := qak) l38 c38 k38) T XTt hB C__law_told C__law_take C__law_store C__law_no_store C__law_box
theorem qms {K : Fr0} {H : Hp} {a : Addr} {ns : List Int} (hO : qlo H) (hS : SqL K H a (ns.map V.int)) : qjV K H a (ns.map V.int) := by
 rcases hS with (h | h) | h
 ·rcases hO a with z | z
  ·rw [h] at z; cases z
  ·rcases z with ⟨_, _, z⟩ | ⟨_, _, z⟩ <;> (rw [h] at z; cases z)
 ·exact .inl h
 ·exact .inr h
theorem walk {l : PySem.W.OpenLaw} {q : Program} {loose : List Str} {XP : (Str -> Option Value) -> Heap -> Prop} {YP : World -> Heap -> Prop} {d : DefRec} {K : Params -> PySem.W.Frag} (hn : l.most = some 63) (hdf : d.params.defaults = [])
  (hY : ∀ (w : World) (h : Heap), YP w h -> (K w.params).In h) (hlm : ∀ (w : World) (mean : ExcName -> Option Value) (mg mb : Str -> Option Value) (h : Heap) (c Pt : Addr) (pos : Pos), Top q (PySem.W.looseW q loose) mean mg mb h -> (K w.params).In h -> qah (K w.params) = some (c, Pt, pos) -> PySem.W.CodeHd h c Pt /\ h.get? Pt = some (PySem.W.tabObj #[]) /\ (K w.params).lookup Pt = none) (hlaw : ∀ ns : List Int, ns.length <= 63 -> qcC [.fz ns] = .ok (.bl true))
  (F : ∀ (w : World) (mg : Str -> Option Value) (fa : Addr) (h : Heap), (K w.params).In h -> h.Ns mainGlobals mg -> mg d.name = some (.ref fa) ->
   ∃ fd : FuncData, (∀ (s : Shared) (u : Value), BindsTo s fd ⟨[u], []⟩ [("script", u)]) /\ ∀ base : Heap, (K w.params).In base -> base.Ns mainGlobals mg -> ub l.prog w (K w.params) mg base CX0 12 fa fd ["script"] (spD (K w.params) qcC)) :
  PySem.W.WalkO q loose XP YP l.row.toRowW d [] (fun f vs => PySem.call f vs) :=
 L2.walk_lam (n := 63) (k := 12) (x := "script") (CX := fun _ => CX0) (sp := fun w => spD (K w.params) qcC) (lm := fun w => (qah (K w.params)).map fun z => (z.1, z.2.1, z.2.2, qi5)) hn (by decide) hdf ⟨rfl, by decide, by decide, rfl⟩ hY (fun w mean mg mb h c Pt pos z T X e => by
  cases el : qah (K w.params) with
  | none => rw [el] at e; cases e
  | some p => obtain ⟨c', P', pos'⟩ := p; rw [el] at e; cases e; exact hlm w mean mg mb h _ _ _ T X el) F (fun w H a ns hl hO hT hS => by
  refine ⟨[.fz ns], fun _ => False, ⟨.ref a, [], rfl, ⟨a, rfl, qms hO hS⟩, rfl⟩, fun c P pos e => ⟨hT c P pos qi5 (by rw [e]; rfl), fun z => z⟩, ?_⟩
  rw [hlaw ns hl]
  exact fun v H' _ h => h) fun _ _ _ _ _ z => z
end Law
end L2.Sk
open PySem PySem.W PyProof.Rows
set_option maxRecDepth 100000 in
set_option maxHeartbeats 0 in
theorem PySem.Challenge.cw_sackloads_k75_changes_refused_holds : PySem.Challenge.rw_sackloads_k75_changes_refused.Holds := by
 w_on; o_law; k_head; (case hw => w_witness2)
 k_fill
 refine L2.Sk.Law.walk (l := PySem.Challenge.rw_sackloads_k75_changes_refused) rfl rfl (fun w h Y => by first | exact PySem.W.kIn_of Y | exact PySem.W.km_in_of Y) ?hlm0 L2.Sk.Law.law_true ?F
 case hlm0 =>
  intro w mean mg mb h c Pt pos T X e
  refine L2.Sk.lam_table T X e (d := ?d) ?e1 ?e2
  (case e1 => rfl)
  (case e2 => kernel_rfl)
 case F =>
  intro w mg fa h KX G hmg
  refine' L2.Sk.Law.all_mk KX G hmg ?a0 ?l0 ?c0 ?k0 ?a1 ?l1 ?c1 ?k1 ?a2 ?l2 ?c2 ?k2 ?a3 ?l3 ?c3 ?k3 ?a4 ?l4 ?c4 ?k4 ?a5 ?l5 ?c5 ?k5 ?a6 ?l6 ?c6 ?k6 ?a7 ?l7 ?c7 ?k7 ?a8 ?l8 ?c8 ?k8 ?a9 ?l9 ?c9 ?k9 ?a10 ?l10 ?c10 ?k10 ?a11 ?l11 ?c11 ?k11 ?a12 ?l12 ?c12 ?k12 ?a13 ?l13 ?c13 ?k13 ?a14 ?l14 ?c14 ?k14 ?a15 ?l15 ?c15 ?k15 ?a16 ?l16 ?c16 ?k16 ?a17 ?l17 ?c17 ?k17 ?a18 ?l18 ?c18 ?k18 ?a19 ?l19 ?c19 ?k19 ?a20 ?l20 ?c20 ?k20 ?a21 ?l21 ?c21 ?k21 ?a22 ?l22 ?c22 ?k22 ?a23 ?l23 ?c23 ?k23 ?a24 ?l24 ?c24 ?k24 ?a25 ?l25 ?c25 ?k25 ?a26 ?l26 ?c26 ?k26 ?a27 ?l27 ?c27 ?k27 ?a28 ?l28 ?c28 ?k28 ?a29 ?l29 ?c29 ?k29 ?a30 ?l30 ?c30 ?k30 ?a31 ?l31 ?c31 ?k31 ?a32 ?l32 ?c32 ?k32 ?a33 ?l33 ?c33 ?k33 ?a34 ?l34 ?c34 ?k34 ?a35 ?l35 ?c35 ?k35 ?a36 ?l36 ?c36 ?k36 ?a37 ?l37 ?c37 ?k37 ?a38 ?l38 ?c38 ?k38 ?zb_ValueError ?zb_all ?zb_any ?zb_bool ?zb_divmod ?zb_enumerate ?zb_int ?zb_isinstance ?zb_len ?zb_max ?zb_min ?zb_range ?zb_sorted ?zb_sum ?zb_tuple ?zb_zip ?xz ?zg_BOTTOM ?zg_KINDS_AT_MOST ?zg_MOST ?zg_NOTHING ?zl_NOTHING ?zv_NOTHING ?zg_TOP ?zg_WEIGHT ?zg_WORTH ?zc ?zo ?zp ?zm ?zh
  (case a0 => k_is)
  (case l0 => k_is)
  (case c0 => k_is)
  (case k0 => k_is)
  (case a1 => k_is)
  (case l1 => k_is)
  (case c1 => k_is)
  (case k1 => k_is)
  (case a2 => k_is)
  (case l2 => k_is)
  (case c2 => k_is)
  (case k2 => k_is)
  (case a3 => k_is)
  (case l3 => k_is)
  (case c3 => k_is)
  (case k3 => k_is)
  (case a4 => k_is)
  (case l4 => k_is)
  (case c4 => k_is)
  (case k4 => k_is)
  (case a5 => k_is)
  (case l5 => k_is)
  (case c5 => k_is)
  (case k5 => k_is)
  (case a6 => k_is)
  (case l6 => k_is)
  (case c6 => k_is)
  (case k6 => k_is)
  (case a7 => k_is)
  (case l7 => k_is)
  (case c7 => k_is)
  (case k7 => k_is)
  (case a8 => k_is)
  (case l8 => k_is)
  (case c8 => k_is)
  (case k8 => k_is)
  (case a9 => k_is)
  (case l9 => k_is)
  (case c9 => k_is)
  (case k9 => k_is)
  (case a10 => k_is)
  (case l10 => k_is)
  (case c10 => k_is)
  (case k10 => k_is)
  (case a11 => k_is)
  (case l11 => k_is)
  (case c11 => k_is)
  (case k11 => k_is)
  (case a12 => k_is)
  (case l12 => k_is)
  (case c12 => k_is)
  (case k12 => k_is)
  (case a13 => k_is)
  (case l13 => k_is)
  (case c13 => k_is)
  (case k13 => k_is)
  (case a14 => k_is)
  (case l14 => k_is)
  (case c14 => k_is)
  (case k14 => k_is)
  (case a15 => k_is)
  (case l15 => k_is)
  (case c15 => k_is)
  (case k15 => k_is)
  (case a16 => k_is)
  (case l16 => k_is)
  (case c16 => k_is)
  (case k16 => k_is)
  (case a17 => k_is)
  (case l17 => k_is)
  (case c17 => k_is)
  (case k17 => k_is)
  (case a18 => k_is)
  (case l18 => k_is)
  (case c18 => k_is)
  (case k18 => k_is)
  (case a19 => k_is)
  (case l19 => k_is)
  (case c19 => k_is)
  (case k19 => k_is)
  (case a20 => k_is)
  (case l20 => k_is)
  (case c20 => k_is)
  (case k20 => k_is)
  (case a21 => k_is)
  (case l21 => k_is)
  (case c21 => k_is)
  (case k21 => k_is)
  (case a22 => k_is)
  (case l22 => k_is)
  (case c22 => k_is)
  (case k22 => k_is)
  (case a23 => k_is)
  (case l23 => k_is)
  (case c23 => k_is)
  (case k23 => k_is)
  (case a24 => k_is)
  (case l24 => k_is)
  (case c24 => k_is)
  (case k24 => k_is)
  (case a25 => k_is)
  (case l25 => k_is)
  (case c25 => k_is)
  (case k25 => k_is)
  (case a26 => k_is)
  (case l26 => k_is)
  (case c26 => k_is)
  (case k26 => k_is)
  (case a27 => k_is)
  (case l27 => k_is)
  (case c27 => k_is)
  (case k27 => k_is)
  (case a28 => k_is)
  (case l28 => k_is)
  (case c28 => k_is)
  (case k28 => k_is)
  (case a29 => k_is)
  (case l29 => k_is)
  (case c29 => k_is)
  (case k29 => k_is)
  (case a30 => k_is)
  (case l30 => k_is)
  (case c30 => k_is)
  (case k30 => k_is)
  (case a31 => k_is)
  (case l31 => k_is)
  (case c31 => k_is)
  (case k31 => k_is)
  (case a32 => k_is)
  (case l32 => k_is)
  (case c32 => k_is)
  (case k32 => k_is)
  (case a33 => k_is)
  (case l33 => k_is)
  (case c33 => k_is)
  (case k33 => k_is)
  (case a34 => k_is)
  (case l34 => k_is)
  (case c34 => k_is)
  (case k34 => k_is)
  (case a35 => k_is)
  (case l35 => k_is)
  (case c35 => k_is)
  (case k35 => k_is)
  (case a36 => k_is)
  (case l36 => k_is)
  (case c36 => k_is)
  (case k36 => k_is)
  (case a37 => k_is)
  (case l37 => k_is)
  (case c37 => k_is)
  (case k37 => k_is)
  (case a38 => k_is)
  (case l38 => k_is)
  (case c38 => k_is)
  (case k38 => k_is)
  (case zb_ValueError => k_is)
  (case zb_all => k_is)
  (case zb_any => k_is)
  (case zb_bool => k_is)
  (case zb_divmod => k_is)
  (case zb_enumerate => k_is)
  (case zb_int => k_is)
  (case zb_isinstance => k_is)
  (case zb_len => k_is)
  (case zb_max => k_is)
  (case zb_min => k_is)
  (case zb_range => k_is)
  (case zb_sorted => k_is)
  (case zb_sum => k_is)
  (case zb_tuple => k_is)
  (case zb_zip => k_is)
  (case xz => kernel_rfl)
  (case zg_BOTTOM => k_is)
  (case zg_KINDS_AT_MOST => k_is)
  (case zg_MOST => k_is)
  (case zg_NOTHING => k_is)
  (case zl_NOTHING => k_is)
  (case zv_NOTHING => rfl)
  (case zg_TOP => k_is)
  (case zg_WEIGHT => k_is)
  (case zg_WORTH => k_is)
  (case zc => rfl)
  (case zo => k_is)
  (case zp => rfl)
  (case zm => kernel_rfl)
  (case zh => kernel_rfl)
